import PyProof.Rows.All
import Wide.All
import OpenK.AllK
import Wide.FinOn
import Lean
import PyProof.EqAt
import PyProof.EqKinds
import PyProof.TupleCall
import PyProof.EnumMake
import PyProof.ZipIter
import PyProof.NeKinds
import PyProof.Rows.SortWalk
import PySem.Challenge.RW_bitdraws_k28_whole_orders_under
set_option Elab.async false
set_option linter.all false
set_option maxRecDepth 100000
namespace L2
open PySem PySem.Spec PyProof.Rows
abbrev Key := Sum Int Str
def keyIs : Key → Value → Bool
  | .inl k, v => Value.isInt k v
  | .inr x, v => Value.isStrOf x v
def keyH (w : World) : Key → Int
  | .inl k => hashInt k
  | .inr x => hashStr w x
theorem keyIs_shape : ∀ {k : Key} {v : Value}, keyIs k v = true → (∃ i t, k = Sum.inl i ∧ v = Value.int i t) ∨ (∃ x t, k = Sum.inr x ∧ v = Value.str x t)
  | .inl i, v, h => by
    obtain ⟨t, e⟩ := Value.isInt_shape (k := i) (v := v) h
    exact .inl ⟨i, t, rfl, e⟩
  | .inr x, v, h => by
    obtain ⟨t, e⟩ := Value.isStrOf_shape (x := x) (v := v) h
    exact .inr ⟨x, t, rfl, e⟩
theorem key_ll (a b : Int) : decide ((Sum.inl a : Key) = Sum.inl b) = (a == b) := by
  by_cases e : a = b
  · subst e; simp
  · have h : ¬ (Sum.inl a : Key) = Sum.inl b := fun q => e (Sum.inl.inj q)
    rw [decide_eq_false h]
    exact (beq_eq_false_iff_ne.mpr e).symm
theorem key_rr (a b : Str) : decide ((Sum.inr a : Key) = Sum.inr b) = decide (a = b) := by
  by_cases e : a = b
  · subst e; simp
  · have h : ¬ (Sum.inr a : Key) = Sum.inr b := fun q => e (Sum.inr.inj q)
    rw [decide_eq_false h, decide_eq_false e]
theorem key_lr (a : Int) (b : Str) : decide ((Sum.inl a : Key) = Sum.inr b) = false := decide_eq_false (fun q => nomatch q)
theorem key_rl (a : Str) (b : Int) : decide ((Sum.inr a : Key) = Sum.inl b) = false := decide_eq_false (fun q => nomatch q)
def mixKind (prog : Program) (w : World) : PySem.KeyKind prog w Key where
  is := keyIs
  hash := keyH w
  inj := fun v a b ha hb => by
    rcases keyIs_shape ha with ⟨i, t, rfl, rfl⟩ | ⟨x, t, rfl, rfl⟩
    · rcases keyIs_shape hb with ⟨j, u, rfl, e⟩ | ⟨y, u, rfl, e⟩
      · injection e with e1 _; rw [e1]
      · exact nomatch e
    · rcases keyIs_shape hb with ⟨j, u, rfl, e⟩ | ⟨y, u, rfl, e⟩
      · exact nomatch e
      · injection e with e1 _; rw [e1]
  byValue := fun k v h => by
    rcases keyIs_shape h with ⟨i, t, rfl, rfl⟩ | ⟨x, t, rfl, rfl⟩ <;> rfl
  pyHash := fun hv h => by
    rcases keyIs_shape hv with ⟨i, t, rfl, rfl⟩ | ⟨x, t, rfl, rfl⟩
    · exact wpAny_pyHash_int h
    · exact wpAny_pyHash_str h
  eqBool := fun hu hv h => by
    rcases keyIs_shape hu with ⟨i, t, rfl, rfl⟩ | ⟨x, t, rfl, rfl⟩
    · rcases keyIs_shape hv with ⟨j, u, rfl, rfl⟩ | ⟨y, u, rfl, rfl⟩
      · rw [key_ll] at h; exact wpAny_eqBool_int h
      · rw [key_lr] at h; exact SeqAt.EqAt.int_str i t y u _ _ _ _ h
    · rcases keyIs_shape hv with ⟨j, u, rfl, rfl⟩ | ⟨y, u, rfl, rfl⟩
      · rw [key_rl] at h; exact SeqAt.EqAt.str_int x t j u _ _ _ _ h
      · rw [key_rr] at h; exact wpAny_eqBool_str h
  «strs» := fun k x t v h => by
    rcases keyIs_shape h with ⟨i, u, rfl, e⟩ | ⟨y, u, rfl, e⟩
    · exact nomatch e
    · injection e with e1 _
      subst e1
      cases v <;> rfl
end L2
namespace L2
open PySem PySem.Spec PyProof.Rows
inductive V where
  | non | bl (b : Bool) | int (i : Int) | str (x : Str) | byt (b : Array UInt8) | flt (b : UInt64) | ref (a : Addr) | ty (n : String)
  deriving DecidableEq
def RelV : V → Value → Prop
  | .non, u => u = Value.none
  | .bl b, u => u = Value.bool b
  | .int i, u => ∃ t, u = Value.int i t
  | .str x, u => ∃ t, u = Value.str x t
  | .byt b, u => ∃ t, u = Value.bytes b t
  | .flt b, u => ∃ t, u = Value.float b t
  | .ref a, u => u = Value.ref a
  | .ty n, u => u = Value.type n
abbrev Vals : List V → List Value → Prop := Paired RelV
theorem Vals.length {xs : List V} {us : List Value} (r : Vals xs us) : xs.length = us.length := Paired.length r
theorem Vals.get : ∀ {xs : List V} {us : List Value} {i : Nat} {x : V}, Vals xs us → xs[i]? = some x → ∃ u, us[i]? = some u ∧ RelV x u
  | _, _, _, _, .nil, e => by simp at e
  | _, _, 0, _, .cons r _, e => by simp at e; subst e; exact ⟨_, rfl, r⟩
  | _, _, i + 1, x, .cons _ t, e => by
    obtain ⟨u, h1, h2⟩ := Vals.get (i := i) (x := x) t (by simpa using e)
    exact ⟨u, by simpa using h1, h2⟩
theorem Vals.set {x : V} {u : Value} (r : RelV x u) : ∀ {xs : List V} {us : List Value} (i : Nat), Vals xs us → Vals (xs.set i x) (us.set i u)
  | _, _, _, .nil => .nil
  | _, _, 0, .cons _ t => .cons r t
  | _, _, i + 1, .cons q t => .cons q (Vals.set r i t)
theorem Vals.append : ∀ {xs ys : List V} {us ws : List Value}, Vals xs us → Vals ys ws → Vals (xs ++ ys) (us ++ ws)
  | _, _, _, _, .nil, s => s
  | _, _, _, _, .cons r t, s => .cons r (Vals.append t s)
theorem Vals.take : ∀ {xs : List V} {us : List Value} (n : Nat), Vals xs us → Vals (xs.take n) (us.take n)
  | _, _, 0, _ => .nil
  | _, _, _ + 1, .nil => .nil
  | _, _, n + 1, .cons r t => .cons r (Vals.take n t)
theorem Vals.drop : ∀ {xs : List V} {us : List Value} (n : Nat), Vals xs us → Vals (xs.drop n) (us.drop n)
  | _, _, 0, r => r
  | _, _, _ + 1, .nil => .nil
  | _, _, n + 1, .cons _ t => Vals.drop n t
theorem Vals.none_of : ∀ {xs : List V} {us : List Value} {i : Nat}, Vals xs us → xs[i]? = none → us[i]? = none := fun {xs us i} r e => by
  have h1 := r.length
  have h2 : xs.length ≤ i := List.getElem?_eq_none_iff.mp e
  exact List.getElem?_eq_none_iff.mpr (by omega)
def RelO : Option V → Option Value → Prop
  | some v, some u => RelV v u
  | none, none => True
  | _, _ => False
def KV {κ : Type} : List (κ × V) → List (κ × Value) → Prop := Paired fun (p : κ × V) (q : κ × Value) => p.1 = q.1 ∧ RelV p.2 q.2
def kV : Key → V
  | .inl i => .int i
  | .inr x => .str x
inductive HO where
  /-- a list -/
  | lst (xs : List V)
  /-- a tuple (never changes) -/
  | tup (xs : List V)
  /-- a dict whose keys are ints and texts; one whose keys are tuples of ints and texts (the empty one is both) -/
  | dK (kvs : List (Key × V)) | dT (kvs : List (List Key × V))
  /-- a set of ints: its members, its size -/
  | set (S : Int → Bool) (n : Nat)
  /-- an instance of the class at C, its dict at dx, its attributes -/
  | ins (C dx : Addr) (fs : List (Str × V))
  /-- the dict of the instance at x -/
  | own (x : Addr)
  /-- the dict of an exception -/
  | xd (fs : List (Str × V))
  /-- a bound method, f of x -/
  | met (f x : Addr)
  /-- a range object lo, lo + 1, .. below hi -/
  | rng (lo hi : Int)
  /-- a thing that is known to the object (the script; a dict while a loop walks it): read, never written while it is so -/
  | frz (o : Obj) (u : HO)
  /-- a code object's table -/
  | tbl (ps : Array Value)
  /-- any other thing, by what is true of its one object (a def of one's own: SetO a S n := HO.ext fun h => ..) -/
  | ext (φ : Heap → Prop)
abbrev Hp := Addr → Option HO
def upd (H : Hp) (a : Addr) (o : HO) : Hp := fun b => if b = a then some o else H b
theorem upd_same {H : Hp} {a : Addr} {o : HO} : upd H a o a = some o := by unfold upd; rw [if_pos rfl]
theorem upd_ne {H : Hp} {a b : Addr} {o : HO} (h : b ≠ a) : upd H a o b = H b := by unfold upd; rw [if_neg h]
theorem ne_of_none {H : Hp} {a b : Addr} {o : HO} (h : H a = some o) (h' : H b = none) : a ≠ b := by
  intro e; subst e; rw [h] at h'; cases h'
section
variable (P : Program) (w : World)
def ObjOk (H : Hp) (h : Heap) (a : Addr) : HO → Prop
  | .lst xs => xs.length ≤ sizeLine ∧ ∃ (its : List Value) (n : Nat), Vals xs its ∧ h.get? a = some { cls := .type "list", data := .seq its.toArray n }
  | .tup xs => xs.length ≤ sizeLine ∧ ∃ its : List Value, Vals xs its ∧ IsTup h a its.toArray ∧ ∃ ob, h.get? a = some ob ∧ ob.dict = none
  | .dK kvs => kvs.length ≤ sizeLine ∧ (a == sysModules) = false ∧ ∃ vs, KV kvs vs ∧ h.DictOf (mixKind P w) a vs
  | .dT kvs => kvs.length ≤ sizeLine ∧ (a == sysModules) = false ∧ ∃ xs : List (List Key × Addr × Value),
      Paired (fun (p : List Key × V) (q : List Key × Addr × Value) => p.1 = q.1 ∧ H q.2.1 = some (.tup (p.1.map kV)) ∧ RelV p.2 q.2.2) kvs xs ∧
      ∃ o es ep, h.get? a = some o ∧ o.ExactDict ∧ o.data = .dict es ep ∧ es.toList = xs.map (entryOfKey (tupleKind (mixKind P w))) ∧ (xs.map (·.1)).Nodup
  | .set S n => h.SetOf (intKind P w) a S n
  | .ins C dx fs => H dx = some (.own a) ∧ fs.length ≤ 1000 ∧ dx ≠ a ∧ h.get? a = some (PySem.W.instObj C dx) ∧
      ∃ mA, h.Ns1 dx mA ∧ (∀ f, RelO (fs.lookup f) (mA f)) ∧ PySem.Within mA (fs.map (·.1))
  | .own _ => ∃ o, h.get? a = some o
  | .xd fs => ∃ mA, h.Ns1 a mA ∧ ∀ f, RelO (fs.lookup f) (mA f)
  | .rng lo hi => ∃ t u v, h.get? a = some { cls := .type "range", data := .fields #[.int lo t, .int hi u, .int 1 v] }
  | .frz o u => h.get? a = some o ∧ ObjOk H h a u
  | .tbl ps => h.get? a = some { cls := .none, data := .fields ps }
  | .met f x => h.get? a = some (PySem.W.methodObj (.ref f) (.ref x))
  | .ext φ => φ h ∧ (∃ o, h.get? a = some o) ∧ ∀ h1 h2 : Heap, φ h1 → (∀ o, h1.get? a = some o → h2.get? a = some o) → φ h2
def HOk (H : Hp) (h : Heap) : Prop := ∀ a o, H a = some o → ObjOk P w H h a o
end
section
variable {P : Program} {w : World} {H H' : Hp} {h h' : Heap} {a : Addr} {o : HO}
theorem ObjOk.lt (x : ObjOk P w H h a o) : a < h.objs.size := by
  cases o with
  | lst xs => obtain ⟨_, _, _, _, e⟩ := x; exact Heap.lt_size e
  | tup xs => obtain ⟨_, _, _, p, _⟩ := x; exact p.lt
  | dK kvs => obtain ⟨_, _, _, _, o, _, _, e, _⟩ := x; exact Heap.lt_size e
  | dT kvs => obtain ⟨_, _, _, _, o, _, _, e, _⟩ := x; exact Heap.lt_size e
  | set S n => obtain ⟨o, _, _, _, e, _⟩ := x; exact Heap.lt_size e
  | ins C dx fs => obtain ⟨_, _, _, e, _⟩ := x; exact Heap.lt_size e
  | own y => obtain ⟨_, e⟩ := x; exact Heap.lt_size e
  | xd fs => obtain ⟨_, ⟨_, _, _, e, _⟩, _⟩ := x; exact Heap.lt_size e
  | rng lo hi => obtain ⟨_, _, _, e⟩ := x; exact Heap.lt_size e
  | frz ob u => obtain ⟨e, _⟩ := x; exact Heap.lt_size e
  | tbl ps => exact Heap.lt_size (show h.get? a = some _ from x)
  | met f y => exact Heap.lt_size (show h.get? a = some _ from x)
  | ext φ => obtain ⟨_, ⟨_, e⟩, _⟩ := x; exact Heap.lt_size e
theorem Paired.mapP {α β : Type} {F G : α → β → Prop} : ∀ {l₁ : List α} {l₂ : List β}, Paired F l₁ l₂ → (∀ a b, F a b → G a b) → Paired G l₁ l₂
  | _, _, .nil, _ => .nil
  | _, _, .cons r t, f => .cons (f _ _ r) (Paired.mapP t f)
theorem ObjOk.stay (x : ObjOk P w H h a o) (k : ∀ b u, (b = a ∨ H b = some (.own a)) → h.get? b = some u → h'.get? b = some u)
    (ho : ∀ b, H b = some (.own a) → H' b = some (.own a)) (ht : ∀ b xs, H b = some (.tup xs) → H' b = some (.tup xs)) : ObjOk P w H' h' a o := by
  induction o with
  | lst xs => obtain ⟨z, its, n, r, e⟩ := x; exact ⟨z, its, n, r, k _ _ (.inl rfl) e⟩
  | tup xs => obtain ⟨z, its, r, ⟨ob, e, c⟩, od, ed, dd⟩ := x; exact ⟨z, its, r, ⟨ob, k _ _ (.inl rfl) e, c⟩, od, k _ _ (.inl rfl) ed, dd⟩
  | dK kvs => obtain ⟨z, y, vs, r, ob, es, ep, e, c⟩ := x; exact ⟨z, y, vs, r, ob, es, ep, k _ _ (.inl rfl) e, c⟩
  | dT kvs =>
    obtain ⟨z, y, xs, r, ob, es, ep, e, c⟩ := x
    exact ⟨z, y, xs, Paired.mapP r fun p q z => ⟨z.1, ht _ _ z.2.1, z.2.2⟩, ob, es, ep, k _ _ (.inl rfl) e, c⟩
  | set S n => obtain ⟨ob, es, ep, t, e, c⟩ := x; exact ⟨ob, es, ep, t, k _ _ (.inl rfl) e, c⟩
  | ins C dx fs =>
    obtain ⟨d, z, ne, e, mA, ⟨od, es, ep, e2, c⟩, r⟩ := x
    exact ⟨ho _ d, z, ne, k _ _ (.inl rfl) e, mA, ⟨od, es, ep, k _ _ (.inr d) e2, c⟩, r⟩
  | own y => obtain ⟨ob, e⟩ := x; exact ⟨ob, k _ _ (.inl rfl) e⟩
  | xd fs => obtain ⟨mA, ⟨od, es, ep, e, c⟩, r⟩ := x; exact ⟨mA, ⟨od, es, ep, k _ _ (.inl rfl) e, c⟩, r⟩
  | rng lo hi => obtain ⟨t, u, v, e⟩ := x; exact ⟨t, u, v, k _ _ (.inl rfl) e⟩
  | frz ob u ih => obtain ⟨e, q⟩ := x; exact ⟨k _ _ (.inl rfl) e, ih q⟩
  | tbl ps =>
    have e : h.get? a = some { cls := .none, data := .fields ps } := x
    show h'.get? a = some { cls := .none, data := .fields ps }
    exact k a _ (.inl rfl) e
  | met f y =>
    have e : h.get? a = some (PySem.W.methodObj (.ref f) (.ref y)) := x
    show h'.get? a = some (PySem.W.methodObj (.ref f) (.ref y))
    exact k a _ (.inl rfl) e
  | ext φ => obtain ⟨p, ⟨o, e⟩, st⟩ := x; exact ⟨st _ _ p fun o q => k _ _ (.inl rfl) q, ⟨o, k _ _ (.inl rfl) e⟩, st⟩
theorem HOk.lt (x : HOk P w H h) (e : H a = some o) : a < h.objs.size := (x a o e).lt
theorem HOk.fresh (x : HOk P w H h) (e : h.objs.size ≤ a) : H a = none := by
  cases q : H a with
  | none => rfl
  | some u => exact absurd (Nat.lt_of_lt_of_le (x.lt q) e) (Nat.lt_irrefl _)
theorem HOk.kept (x : HOk P w H h) (k : ∀ b u, h.get? b = some u → h'.get? b = some u) : HOk P w H h' := fun a o e =>
  (x a o e).stay (fun b u _ q => k b u q) (fun _ q => q) fun _ _ q => q
theorem HOk.laid (x : HOk P w H h) (k : ∀ b u, h.get? b = some u → h'.get? b = some u) (hp : h.objs.size ≤ a) (new : ObjOk P w (upd H a o) h' a o) : HOk P w (upd H a o) h' := fun b u e => by
  have hn := x.fresh hp
  by_cases hb : b = a
  · subst hb; rw [upd_same] at e; cases e; exact new
  · rw [upd_ne hb] at e
    exact (x b u e).stay (fun c v _ q => k c v q) (fun c q => by rw [upd_ne (ne_of_none q hn)]; exact q) fun c xs q => by rw [upd_ne (ne_of_none q hn)]; exact q
end
def Rd (H : Hp) (a : Addr) (u : HO) : Prop := H a = some u ∨ ∃ o, H a = some (.frz o u)
theorem Rd.of {H : Hp} {a : Addr} {u : HO} (h : H a = some u) : Rd H a u := .inl h
theorem Rd.ok {P : Program} {w : World} {H : Hp} {h : Heap} {a : Addr} {u : HO} (r : Rd H a u) (x : HOk P w H h) : ObjOk P w H h a u := by
  rcases r with r | ⟨o, r⟩
  · exact x a u r
  · obtain ⟨_, q⟩ := x a _ r
    exact q
def Mut : Option HO → Prop
  | some (.lst _) => True
  | some (.dK _) => True
  | some (.dT _) => True
  | some (.set _ _) => True
  | some (.ins _ _ _) => True
  | some (.ext _) => True
  | _ => False
section
variable {P : Program} {w : World} {H : Hp} {h h' : Heap} {x e : Addr} {o' : HO}
theorem HOk.write (ok : HOk P w H h) (mu : Mut (H x)) (he : e = x ∨ H e = some (.own x)) (k : ∀ b u, b ≠ e → h.get? b = some u → h'.get? b = some u) (heo : ∃ u, h'.get? e = some u)
    (new : ObjOk P w (upd H x o') h' x o') : HOk P w (upd H x o') h' := fun b u q => by
  have nown : ∀ c y, H c = some (.own y) → c ≠ x := fun c y r z => by subst z; rw [r] at mu; exact mu
  have ntup : ∀ c xs, H c = some (.tup xs) → c ≠ x := fun c xs r z => by subst z; rw [r] at mu; exact mu
  by_cases hb : b = x
  · subst hb; rw [upd_same] at q; cases q; exact new
  · rw [upd_ne hb] at q
    by_cases hbe : b = e
    · have q' : H b = some (.own x) := by
        rcases he with z | z
        · exact absurd (hbe.trans z) hb
        · rw [hbe]; exact z
      rw [q] at q'; cases q'
      obtain ⟨v, hv⟩ := heo
      exact ⟨v, by rw [hbe]; exact hv⟩
    · refine (ok b u q).stay (fun c v hc r => k c v ?_ r) (fun c r => by rw [upd_ne (nown c b r)]; exact r) fun c xs r => by rw [upd_ne (ntup c xs r)]; exact r
      rcases hc with rfl | hc
      · exact hbe
      · rintro rfl
        rcases he with z | z
        · exact nown c b hc z
        · rw [hc] at z; cases z; exact hb rfl
end
structure Un (fs ex : List Addr) (H H' : Hp) (h h' : Heap) : Prop where
  keep : ∀ b o, h.get? b = some o → H b = none → b ∉ fs → b ∉ ex → h'.get? b = some o
  slot : ∀ b o, h.get? b = some o → H b = none → b ∈ fs → b ∉ ex → ∃ sl, h'.get? b = some { o with slots := sl }
  free : ∀ b o, h.get? b = some o → H b = none → b ∉ ex → H' b = none
  there : ∀ b o, h.get? b = some o → b ∉ ex → ∃ o', h'.get? b = some o'
  tups : ∀ b xs, H b = some (.tup xs) → H' b = some (.tup xs)
  frzs : ∀ b o u, H b = some (.frz o u) → H' b = some (.frz o u)
  tbls : ∀ b ps, H b = some (.tbl ps) → ∃ more, H' b = some (.tbl (ps ++ more))
section
variable {fs fs' ex ex' : List Addr} {H H1 H2 : Hp} {h h1 h2 h' : Heap} {a x e : Addr} {o : HO}
theorem Un.any (u : Un fs ex H H1 h h1) {b : Addr} {ob : Obj} (q : h.get? b = some ob) (n : H b = none) (hx : b ∉ ex) : ∃ sl, h1.get? b = some { ob with slots := sl } := by
  by_cases hb : b ∈ fs
  · exact u.slot b ob q n hb hx
  · exact ⟨ob.slots, u.keep b ob q n hb hx⟩
theorem Un.trans (a : Un fs ex H H1 h h1) (b : Un fs ex H1 H2 h1 h2) : Un fs ex H H2 h h2 where
  keep := fun c ob q n hc hx => b.keep c ob (a.keep c ob q n hc hx) (a.free c ob q n hx) hc hx
  slot := fun c ob q n hc hx => by
    obtain ⟨sl, e1⟩ := a.slot c ob q n hc hx
    obtain ⟨sl', e2⟩ := b.slot c _ e1 (a.free c ob q n hx) hc hx
    exact ⟨sl', e2⟩
  free := fun c ob q n hx => by
    obtain ⟨o', e1⟩ := a.there c ob q hx
    exact b.free c o' e1 (a.free c ob q n hx) hx
  there := fun c ob q hx => by
    obtain ⟨o', e1⟩ := a.there c ob q hx
    exact b.there c o' e1 hx
  tups := fun c xs q => b.tups c xs (a.tups c xs q)
  frzs := fun c ob xs q => b.frzs c ob xs (a.frzs c ob xs q)
  tbls := fun c ps q => by
    obtain ⟨m1, e1⟩ := a.tbls c ps q
    obtain ⟨m2, e2⟩ := b.tbls c _ e1
    exact ⟨m1 ++ m2, by rw [e2, Array.append_assoc]⟩
theorem Un.kept (k : ∀ b u, h.get? b = some u → h'.get? b = some u) : Un fs ex H H h h' :=
  ⟨fun b ob q _ _ _ => k b ob q, fun b ob q _ _ _ => ⟨ob.slots, k b ob q⟩, fun _ _ _ n _ => n, fun b ob q _ => ⟨ob, k b ob q⟩, fun _ _ q => q, fun _ _ _ q => q, fun _ ps q => ⟨#[], by rw [q]; simp⟩⟩
theorem Un.refl : Un fs ex H H h h := Un.kept fun _ _ q => q
theorem Un.laid (k : ∀ b u, h.get? b = some u → h'.get? b = some u) (hp : h.objs.size ≤ a) (hn : H a = none) : Un fs ex H (upd H a o) h h' where
  keep := fun b u q _ _ _ => k b u q
  slot := fun b u q _ _ _ => ⟨u.slots, k b u q⟩
  free := fun b u q n _ => by rw [upd_ne (Nat.ne_of_lt (Nat.lt_of_lt_of_le (Heap.lt_size q) hp))]; exact n
  there := fun b u q _ => ⟨u, k b u q⟩
  tups := fun b xs q => by rw [upd_ne (ne_of_none q hn)]; exact q
  frzs := fun b u xs q => by rw [upd_ne (ne_of_none q hn)]; exact q
  tbls := fun b ps q => ⟨#[], by rw [upd_ne (ne_of_none q hn), q]; simp⟩
theorem Un.write (mu : Mut (H x)) (he : e = x ∨ H e = some (.own x)) (k : ∀ b u, b ≠ e → h.get? b = some u → h'.get? b = some u) (heo : ∃ u, h'.get? e = some u) : Un fs ex H (upd H x o) h h' := by
  have hx : ∀ b, H b = none → b ≠ x := fun b n z => by subst z; rw [n] at mu; exact mu
  have hb : ∀ b, H b = none → b ≠ e := fun b n z => by
    subst z
    rcases he with r | r
    · exact hx b n r
    · rw [n] at r; cases r
  have hm : ∀ b u, H b = some u → ¬ Mut (some u) → b ≠ x := fun b u q nm z => by subst z; rw [q] at mu; exact nm mu
  refine ⟨fun b u q n _ _ => k b u (hb b n) q, fun b u q n _ _ => ⟨u.slots, k b u (hb b n) q⟩, fun b u q n _ => by rw [upd_ne (hx b n)]; exact n, fun b u q _ => ?_,
    fun b xs q => by rw [upd_ne (hm b _ q fun z => z)]; exact q, fun b u xs q => by rw [upd_ne (hm b _ q fun z => z)]; exact q, fun b ps q => ⟨#[], by rw [upd_ne (hm b _ q fun z => z), q]; simp⟩⟩
  by_cases hbe : b = e
  · subst hbe; exact heo
  · exact ⟨u, k b u hbe q⟩
theorem Un.mono (u : Un fs ex H H1 h h1) (hs : ∀ b ∈ fs, b ∈ fs') (hx : ∀ b ∈ ex, b ∈ ex') : Un fs' ex' H H1 h h1 :=
  ⟨fun b ob q n hb he => u.keep b ob q n (fun z => hb (hs b z)) fun z => he (hx b z), fun _ _ q n _ he => u.any q n fun z => he (hx _ z), fun b ob q n he => u.free b ob q n fun z => he (hx b z), fun b ob q he => u.there b ob q fun z => he (hx b z), u.tups, u.frzs, u.tbls⟩
end
def trk (h : Heap) (H : Hp) : List Addr := (List.range h.objs.size).filter fun a => (H a).isSome
def hidT (h : Heap) (H : Hp) : Heap := PySem.W.hideAll h (trk h H)
theorem hidT_size (h : Heap) (H : Hp) : (hidT h H).objs.size = h.objs.size := PySem.W.hideAll_size _ _
theorem hidT_get {h : Heap} {H : Hp} {b : Addr} {o : Obj} (e : h.get? b = some o) (n : H b = none) : (hidT h H).get? b = some o :=
  PySem.W.hideAll_get _ e fun hm => by
    have q : (H b).isSome = true := (List.mem_filter.mp hm).2
    rw [n] at q; simp at q
theorem of_hidT {h : Heap} {H : Hp} {b : Addr} {o : Obj} (e : (hidT h H).get? b = some o) : h.get? b = some o ∧ H b = none := by
  have e' : h.get? b = some o := PySem.W.of_hideAll (trk h H) e
  refine ⟨e', ?_⟩
  cases q : H b with
  | none => rfl
  | some x =>
    have hm : b ∈ trk h H := List.mem_filter.mpr ⟨List.mem_range.mpr (Heap.lt_size e'), by simp [q]⟩
    have z : (hidT h H).get? b = none := PySem.W.hideAll_none (trk h H) hm
    rw [z] at e; cases e
def allNews (g h : Heap) (L : Addr) : List (Addr × Obj) := (List.range h.objs.size).filterMap fun a => if a = L ∨ (g.get? a).isSome = true then none else (h.get? a).map fun o => (a, o)
def rest (g h : Heap) (L d : Addr) : List (Addr × Obj) := (allNews g h L).filter fun p => decide (p.1 ≠ d)
end L2
namespace L2
open PySem PySem.Spec PyProof.Rows
structure Mod (K : PySem.W.Frag) (mg : Str → Option Value) (base : Heap) : Prop where
  kin : K.In base
  glob : base.Ns mainGlobals mg
  blt : ∃ mb, base.Ns builtinsNs mb ∧ ∀ x : Str, x ≠ "__name__" → mb x = bootBuiltins x
  nolimit : base.NoLimit
structure Cx where
  prog : Program
  w : World
  K : PySem.W.Frag
  mg : Str → Option Value
  base : Heap
  A : Around
  N : List Str
  s₀ : Shared
  H₀ : Hp
  env : Env
  outer : List Env
  stack : List Env
  ex : List Addr
  fn : Str → Bool
  calm : Bool
  pn : List (Addr × Obj)
  xe : Value → Shared → Prop
def frs (l : List Env) : List Addr := l.filterMap (·.frame)
abbrev Cx.fs (X : Cx) : List Addr := frs X.outer
def Vis (sc : Scope) (x : Str) : Prop := sc.names.lookup x = some .local ∨ sc.names.lookup x = some .cell ∨ sc.names.lookup x = some .free
def Loc (sc : Scope) (x : Str) : Prop := sc.names.lookup x = some .local ∨ sc.names.lookup x = some .cell
def Look (env : Env) (h : Heap) (m : Str → Option Value) (x : Str) (u : Value) : Prop :=
  (env.kindOf x = some .local ∧ m x = some u) ∨ ((env.kindOf x = some .cell ∨ env.kindOf x = some .free) ∧ ∃ c, env.cells.lookup x = some c ∧ h.IsCell c (some u))
structure Cx.Ok (X : Cx) : Prop where
  mod : Mod X.K X.mg X.base
  kind : X.env.scope.kind = .function
  glob : X.env.globals = mainGlobals
  blt : X.env.builtins = builtinsNs
  above : X.s₀.heap.objs.size ≤ X.env.locals
  inj : ∀ x y c, X.env.cells.lookup x = some c → X.env.cells.lookup y = some c → x = y
  has : ∀ x, (X.env.kindOf x = some .cell ∨ X.env.kindOf x = some .free) → ∃ c, X.env.cells.lookup x = some c
  cab : ∀ x c, X.fn x = true → X.env.cells.lookup x = some c → X.s₀.heap.objs.size ≤ c
  hd : X.calm = true → X.A.handled = none
  frames : X.A.frames = some X.stack
  stk : X.stack = X.outer ∨ (X.stack = X.env :: X.outer ∧ X.env.frame = some X.env.locals)
  exf : ∀ b ∈ X.ex, b ≠ X.env.locals ∧ ∀ x c, X.env.cells.lookup x = some c → c ≠ b
  bs : ∀ b o, X.base.get? b = some o → X.s₀.heap.get? b = some o ∧ X.H₀ b = none
  bsz : X.base.objs.size ≤ X.s₀.heap.objs.size
  noex : ∀ b o, X.base.get? b = some o → b ∉ X.ex
  exfs : ∀ b ∈ X.ex, b ∉ X.fs
  funs : X.s₀.heap.FunFrames X.base X.outer
  frf : ∀ b ∈ X.fs, X.H₀ b = none
structure Inv (X : Cx) (pins : List (Addr × Obj)) (σ : List (Option V)) (H : Hp) (s : Shared) : Prop where
  ok : X.Ok
  os : s.os = X.s₀.os
  bare : AllBare s.gens
  base : Un X.fs X.ex X.H₀ H X.s₀.heap s.heap
  loc : ∃ m, s.heap.Ns X.env.locals m ∧ ∀ (i : Nat) (x : Str) (v : V), X.N[i]? = some x → σ[i]? = some (some v) → Vis X.env.scope x → ∃ u, RelV v u ∧ Look X.env s.heap m x u
  cell : ∀ x c, X.env.cells.lookup x = some c → ∃ v, s.heap.IsCell c v
  free : H X.env.locals = none
  freeC : ∀ x c, X.env.cells.lookup x = some c → H c = none
  pin : ∀ p ∈ X.pn ++ pins, s.heap.get? p.1 = some p.2 ∧ H p.1 = none ∧ p.1 ≠ X.env.locals ∧ p.1 ∉ X.fs ∧ ∀ v, p.2.data ≠ .cell v
  hok : HOk X.prog X.w H s.heap
  len : σ.length = X.N.length
section
variable {X : Cx} {pins : List (Addr × Obj)} {σ : List (Option V)} {H H' : Hp} {s : Shared} {h' : Heap}
theorem Cx.Ok.nofr (ok : X.Ok) {b : Addr} {o : Obj} (e : X.base.get? b = some o) : b ∉ X.fs := fun hb => by
  have := (ok.funs.mem hb).1
  rw [e] at this; cases this
theorem Inv.bs (I : Inv X pins σ H s) : ∀ b o, X.base.get? b = some o → s.heap.get? b = some o ∧ H b = none := fun b o e =>
  ⟨I.base.keep b o (I.ok.bs b o e).1 (I.ok.bs b o e).2 (I.ok.nofr e) (I.ok.noex b o e), I.base.free b o (I.ok.bs b o e).1 (I.ok.bs b o e).2 (I.ok.noex b o e)⟩
theorem Inv.bk (I : Inv X pins σ H s) : ∀ b o, X.base.get? b = some o → s.heap.get? b = some o := fun b o e => (I.bs b o e).1
theorem Inv.mod (I : Inv X pins σ H s) : Mod X.K X.mg X.base := I.ok.mod
theorem Inv.kIn (I : Inv X pins σ H s) : X.K.In s.heap := I.ok.mod.kin.keeps I.bk
theorem Inv.nolimit (I : Inv X pins σ H s) : s.heap.NoLimit := I.ok.mod.nolimit.keeps I.bk
theorem Inv.fr (I : Inv X pins σ H s) : ∃ m, Fr X.base X.env.locals s.heap m :=
  let ⟨m, hn, _⟩ := I.loc
  ⟨m, hn, I.bk, Nat.le_trans I.ok.bsz I.ok.above⟩
theorem Inv.lt (I : Inv X pins σ H s) : X.env.locals < s.heap.objs.size := let ⟨_, hn, _⟩ := I.loc; hn.lt
theorem Inv.sz (I : Inv X pins σ H s) : X.s₀.heap.objs.size ≤ s.heap.objs.size := Nat.le_trans I.ok.above (Nat.le_of_lt I.lt)
theorem Inv.nofs (I : Inv X pins σ H s) {a : Addr} (h : s.heap.objs.size ≤ a) : a ∉ X.fs := fun hb => by
  obtain ⟨_, o, ho, _⟩ := I.ok.funs.mem hb
  exact absurd (Nat.lt_of_lt_of_le (Heap.lt_size ho) (Nat.le_trans I.sz h)) (Nat.lt_irrefl _)
theorem Inv.cne (I : Inv X pins σ H s) : ∀ x c, X.env.cells.lookup x = some c → c ≠ X.env.locals := fun x c e z => by
  obtain ⟨v, o, ho, hd⟩ := I.cell x c e
  obtain ⟨m, ⟨o', es, ep, ho', hd', _⟩, _⟩ := I.loc
  rw [z, ho'] at ho; cases ho; rw [hd'] at hd; cases hd
theorem Inv.funs (I : Inv X pins σ H s) : s.heap.FunFrames X.base X.outer := by
  have all : ∀ (l : List Env), (∀ b ∈ frs l, b ∈ X.fs) → X.s₀.heap.FunFrames X.base l → s.heap.FunFrames X.base l := by
    intro l
    induction l with
    | nil => intro _ _; trivial
    | cons env r ih =>
      intro hs hl
      obtain ⟨hk, ⟨L, o, hf, hn, ho, hd⟩, hr⟩ := hl
      have hL : L ∈ X.fs := hs L (by unfold frs; rw [List.filterMap_cons, hf]; exact List.mem_cons_self)
      obtain ⟨sl, e⟩ := I.base.slot L o ho (I.ok.frf L hL) hL fun z => I.ok.exfs L z hL
      exact ⟨hk, ⟨L, _, hf, hn, e, hd⟩, ih (fun b hb => hs b (by unfold frs; rw [List.filterMap_cons, hf]; exact List.mem_cons_of_mem _ hb)) hr⟩
  exact all X.outer (fun _ hb => hb) I.ok.funs
theorem Inv.stack (I : Inv X pins σ H s) : s.heap.FunFrames X.base X.stack := by
  rcases I.ok.stk with e | ⟨e, hf⟩
  · rw [e]; exact I.funs
  · rw [e]
    obtain ⟨m, hn, _⟩ := I.loc
    refine .cons (by rw [I.ok.kind]; decide) hf hn ?_ I.funs
    exact Heap.get?_none_of_le (Nat.le_trans I.ok.bsz I.ok.above)
theorem Inv.stkSub (I : Inv X pins σ H s) : ∀ b ∈ frs X.stack, b ∈ X.env.locals :: X.fs := fun b hb => by
  rcases I.ok.stk with e | ⟨e, hf⟩
  · rw [e] at hb; exact List.mem_cons_of_mem _ hb
  · rw [e] at hb
    unfold frs at hb
    rw [List.filterMap_cons, hf] at hb
    exact hb
theorem Inv.stkFree (I : Inv X pins σ H s) : ∀ b ∈ frs X.stack, H b = none := fun b hb => by
  rcases List.mem_cons.mp (I.stkSub b hb) with e | hb
  · rw [e]; exact I.free
  · obtain ⟨_, o, ho, _⟩ := I.ok.funs.mem hb
    exact I.base.free b o ho (I.ok.frf b hb) fun z => I.ok.exfs b z hb
theorem Inv.step {g' : Array GenState} {t' : Nat} {d' : Drawn} {ch : List Addr} (I : Inv X pins σ H s)
    (hch : ∀ b ∈ ch, (b ∈ X.ex ∨ X.s₀.heap.objs.size ≤ b) ∧ b ≠ X.env.locals ∧ (∀ x c, X.env.cells.lookup x = some c → c ≠ b) ∧ ∀ p ∈ X.pn ++ pins, p.1 ≠ b)
    (keep : ∀ b o, b ≠ X.env.locals → b ∉ X.fs → b ∉ ch → s.heap.get? b = some o → H b = none → h'.get? b = some o)
    (slot : ∀ b o, b ≠ X.env.locals → b ∈ X.fs → b ∉ ch → s.heap.get? b = some o → H b = none → ∃ sl, h'.get? b = some { o with slots := sl }) (free : ∀ b o, b ∉ ch → s.heap.get? b = some o → H b = none → H' b = none)
    (there : ∀ b o, b ∉ ch → s.heap.get? b = some o → ∃ o', h'.get? b = some o')
    (tups : ∀ b xs, H b = some (.tup xs) → H' b = some (.tup xs)) (frzs : ∀ b o u, H b = some (.frz o u) → H' b = some (.frz o u)) (tbls : ∀ b ps, H b = some (.tbl ps) → ∃ more, H' b = some (.tbl (ps ++ more)))
    (ns : ∀ m, s.heap.Ns X.env.locals m → h'.Ns X.env.locals m) (hok : HOk X.prog X.w H' h') (hg : AllBare g') :
    Inv X pins σ H' { s with heap := h', gens := g', drawn := d', toks := t' } := by
  have neL : ∀ b o, X.s₀.heap.get? b = some o → b ≠ X.env.locals := fun b o e => Nat.ne_of_lt (Nat.lt_of_lt_of_le (Heap.lt_size e) I.ok.above)
  have neC : ∀ b o, X.s₀.heap.get? b = some o → b ∉ X.ex → b ∉ ch := fun b o e hx hb => by
    rcases (hch b hb).1 with z | z
    · exact hx z
    · exact absurd (Nat.lt_of_lt_of_le (Heap.lt_size e) z) (Nat.lt_irrefl _)
  have cellK : ∀ x c, X.env.cells.lookup x = some c → ∀ v, s.heap.IsCell c v → h'.IsCell c v := fun x c e v ⟨o, ho, hd⟩ => by
    have nch : c ∉ ch := fun z => (hch c z).2.2.1 x c e rfl
    by_cases hc : c ∈ X.fs
    · obtain ⟨sl, q⟩ := slot c o (I.cne x c e) hc nch ho (I.freeC x c e)
      exact ⟨_, q, hd⟩
    · exact ⟨o, keep c o (I.cne x c e) hc nch ho (I.freeC x c e), hd⟩
  refine ⟨I.ok, I.os, hg, ⟨fun b o e n hb hx => ?_, fun b o e n hb hx => ?_, fun b o e n hx => ?_, fun b o e hx => ?_, fun b xs e => tups b xs (I.base.tups b xs e), fun b o xs e => frzs b o xs (I.base.frzs b o xs e), fun b ps e => ?_⟩, ?_, fun x c e => ?_, ?_, fun x c e => ?_, fun p hp => ?_, hok, I.len⟩
  · exact keep b o (neL b o e) hb (neC b o e hx) (I.base.keep b o e n hb hx) (I.base.free b o e n hx)
  · obtain ⟨sl, e1⟩ := I.base.slot b o e n hb hx
    obtain ⟨sl', e2⟩ := slot b _ (neL b o e) hb (neC b o e hx) e1 (I.base.free b o e n hx)
    exact ⟨sl', e2⟩
  · obtain ⟨o', e1⟩ := I.base.there b o e hx
    exact free b o' (neC b o e hx) e1 (I.base.free b o e n hx)
  · obtain ⟨o', e1⟩ := I.base.there b o e hx
    exact there b o' (neC b o e hx) e1
  · obtain ⟨m1, e1⟩ := I.base.tbls b ps e
    obtain ⟨m2, e2⟩ := tbls b _ e1
    exact ⟨m1 ++ m2, by rw [e2, Array.append_assoc]⟩
  · obtain ⟨m, hn, hl⟩ := I.loc
    refine ⟨m, ns m hn, fun i x v e1 e2 e3 => ?_⟩
    obtain ⟨u, r, l⟩ := hl i x v e1 e2 e3
    refine ⟨u, r, ?_⟩
    rcases l with l | ⟨k, c, e, z⟩
    · exact .inl l
    · exact .inr ⟨k, c, e, cellK x c e _ z⟩
  · obtain ⟨v, z⟩ := I.cell x c e
    exact ⟨v, cellK x c e v z⟩
  · obtain ⟨m, ⟨o, _, _, ho, _⟩, _⟩ := I.loc
    exact free _ o (fun z => (hch _ z).2.1 rfl) ho I.free
  · obtain ⟨v, o, ho, hd⟩ := I.cell x c e
    exact free c o (fun z => (hch c z).2.2.1 x c e rfl) ho (I.freeC x c e)
  · obtain ⟨e, n, ne, nf, d⟩ := I.pin p hp
    have nch : p.1 ∉ ch := fun z => (hch p.1 z).2.2.2 p hp rfl
    exact ⟨keep p.1 p.2 ne nf nch e n, free p.1 p.2 nch e n, ne, nf, d⟩
theorem Inv.un {t' : Nat} (I : Inv X pins σ H s) (u : Un X.fs [] H H' s.heap h') (hok : HOk X.prog X.w H' h') : Inv X pins σ H' { s with heap := h', toks := t' } := by
  obtain ⟨m, ⟨o, es, ep, ho, r⟩, _⟩ := id I.loc
  obtain ⟨sl, hL⟩ := u.any ho I.free (by simp)
  exact I.step (g' := s.gens) (d' := s.drawn) (ch := []) (fun _ z => nomatch z) (fun b o _ hb _ e n => u.keep b o e n hb (by simp)) (fun b o _ hb _ e n => u.slot b o e n hb (by simp)) (fun b o _ e n => u.free b o e n (by simp)) (fun b o _ e => u.there b o e (by simp)) u.tups u.frzs u.tbls (fun m' hm => by
    obtain ⟨o', es', ep', ho', r'⟩ := hm
    rw [ho] at ho'; cases ho'
    exact ⟨_, es', ep', hL, r'⟩) hok I.bare
theorem Inv.call {g' : Array GenState} {t' : Nat} {d' : Drawn} {ch : List Addr} (I : Inv X pins σ H s) (u : Un (frs X.stack) ch H H' s.heap h') (hok : HOk X.prog X.w H' h') (hg : AllBare g')
    (hch : ∀ b ∈ ch, (b ∈ X.ex ∨ X.s₀.heap.objs.size ≤ b) ∧ b ≠ X.env.locals ∧ (∀ x c, X.env.cells.lookup x = some c → c ≠ b) ∧ ∀ p ∈ X.pn ++ pins, p.1 ≠ b) :
    Inv X pins σ H' { s with heap := h', gens := g', drawn := d', toks := t' } := by
  obtain ⟨m, ⟨o, es, ep, ho, r⟩, _⟩ := id I.loc
  obtain ⟨sl, hL⟩ := u.any ho I.free fun z => (hch _ z).2.1 rfl
  exact I.step (ch := ch) hch (fun b o hL hb hc e n => u.keep b o e n (fun z => (List.mem_cons.mp (I.stkSub b z)).elim hL hb) hc) (fun b o _ _ hc e n => u.any e n hc) (fun b o hc e n => u.free b o e n hc) (fun b o hc e => u.there b o e hc) u.tups u.frzs u.tbls (fun m' hm => by
    obtain ⟨o', es', ep', ho', r'⟩ := hm
    rw [ho] at ho'; cases ho'
    exact ⟨_, es', ep', hL, r'⟩) hok hg
theorem Inv.turned {t' : Nat} {it : Addr} (I : Inv X pins σ H s) (k : ∀ b o, b ≠ it → s.heap.get? b = some o → h'.get? b = some o) (hn : H it = none) (hL : it ≠ X.env.locals)
    (h1 : it ∈ X.ex ∨ X.s₀.heap.objs.size ≤ it) (h2 : ∀ x c, X.env.cells.lookup x = some c → c ≠ it) (h3 : ∀ p ∈ X.pn ++ pins, p.1 ≠ it) : Inv X pins σ H { s with heap := h', toks := t' } := by
  have nit : ∀ b u, H b = some u → b ≠ it := fun b u e z => by rw [z, hn] at e; cases e
  refine I.step (g' := s.gens) (d' := s.drawn) (ch := [it]) (fun b hb => ?_) (fun b o _ _ hc e _ => k b o (fun z => hc (by simp [z])) e) (fun b o _ _ hc e _ => ⟨o.slots, k b o (fun z => hc (by simp [z])) e⟩) (fun _ _ _ _ n => n)
    (fun b o hc e => ⟨o, k b o (fun z => hc (by simp [z])) e⟩) (fun _ _ e => e) (fun _ _ _ e => e) (fun b ps e => ⟨#[], by rw [e]; simp⟩) (fun m hm => ?_) (fun b u e => ?_) I.bare
  · have e : b = it := by simpa using hb
    subst e
    exact ⟨h1, hL, h2, h3⟩
  · obtain ⟨o, es, ep, ho, r⟩ := hm
    exact ⟨o, es, ep, k _ o (Ne.symm hL) ho, r⟩
  · refine (I.hok b u e).stay (fun c v hc q => k c v ?_ q) (fun _ q => q) fun _ _ q => q
    rcases hc with z | z
    · rw [z]; exact nit b u e
    · exact nit c _ z
theorem Inv.tok (I : Inv X pins σ H s) (t : Nat) : Inv X pins σ H { s with toks := t } := I.un (h' := s.heap) (t' := t) Un.refl I.hok
theorem Inv.kept {t' : Nat} (I : Inv X pins σ H s) (k : ∀ b u, s.heap.get? b = some u → h'.get? b = some u) : Inv X pins σ H { s with heap := h', toks := t' } := I.un (Un.kept k) (I.hok.kept k)
theorem Inv.laid {a : Addr} {o : HO} {t' : Nat} (I : Inv X pins σ H s) (k : ∀ b u, s.heap.get? b = some u → h'.get? b = some u) (hp : s.heap.objs.size ≤ a) (new : ObjOk X.prog X.w (upd H a o) h' a o) :
    Inv X pins σ (upd H a o) { s with heap := h', toks := t' } := I.un (Un.laid k hp (I.hok.fresh hp)) (I.hok.laid k hp new)
theorem Inv.write {x e : Addr} {o : HO} {t' : Nat} (I : Inv X pins σ H s) (mu : Mut (H x)) (he : e = x ∨ H e = some (.own x)) (k : ∀ b u, b ≠ e → s.heap.get? b = some u → h'.get? b = some u) (heo : ∃ u, h'.get? e = some u)
    (new : ObjOk X.prog X.w (upd H x o) h' x o) : Inv X pins σ (upd H x o) { s with heap := h', toks := t' } := I.un (Un.write mu he k heo) (I.hok.write mu he k heo new)
theorem Inv.pins_of {pins' : List (Addr × Obj)} (I : Inv X pins σ H s) (h : ∀ p ∈ pins', s.heap.get? p.1 = some p.2 ∧ H p.1 = none ∧ p.1 ≠ X.env.locals ∧ p.1 ∉ X.fs ∧ ∀ v, p.2.data ≠ .cell v) : Inv X pins' σ H s :=
  ⟨I.ok, I.os, I.bare, I.base, I.loc, I.cell, I.free, I.freeC, fun p hp => (List.mem_append.mp hp).elim (fun z => I.pin p (List.mem_append_left _ z)) (h p), I.hok, I.len⟩
theorem nodup_ix {N : List Str} (hN : N.Nodup) {i j : Nat} {x : Str} (a : N[i]? = some x) (b : N[j]? = some x) : i = j := by
  obtain ⟨h1, e1⟩ := List.getElem?_eq_some_iff.mp a
  obtain ⟨h2, e2⟩ := List.getElem?_eq_some_iff.mp b
  exact (List.getElem_inj hN).mp (e1.trans e2.symm)
theorem store_ok2 {M : Model} {A : Around} {E : Value → Shared → Prop} {i : Nat} {x : Str} {v : V} {u : Value} {Q : Unit → Shared → Prop} (I : Inv X pins σ H s) (hN : X.N.Nodup) (hi : X.N[i]? = some x) (hx : Loc X.env.scope x) (r : RelV v u)
    (h : ∀ s', Inv X pins (σ.set i (some v)) H s' → (∃ a, Heap.SameBut a s.heap s'.heap ∧ (a = X.env.locals ∨ X.env.cells.lookup x = some a)) → Q () s') (hf : X.fn x = true ∨ X.env.scope.names.lookup x = some .local := by first | exact .inl rfl | exact .inr rfl | assumption) : wpAny M A (storeName X.env x u) Q E s := by
  obtain ⟨m, hn, hl⟩ := id I.loc
  have hcls : (X.env.scope.kind == .class || (X.env.scope.kind == .module && X.env.locals != X.env.globals)) = false := by rw [I.ok.kind]; rfl
  have hiσ : i < σ.length := by rw [I.len]; exact (List.getElem?_eq_some_iff.mp hi).1
  have cne := I.cne
  have tracked : ∀ {a : Addr} {h' : Heap}, (∃ o, s.heap.get? a = some o ∧ H a = none) → Heap.SameBut a s.heap h' → HOk X.prog X.w H h' := fun {a h'} ha hs b ob e => by
    obtain ⟨_, _, hfree⟩ := ha
    refine (I.hok b ob e).stay (fun c w' hc q => (hs.2 c ?_).trans q) (fun _ q => q) fun _ _ q => q
    rintro rfl
    rcases hc with rfl | hc
    · rw [hfree] at e; cases e
    · rw [hfree] at hc; cases hc
  rcases hx with hk | hk
  · refine wpAny_storeName_local hk hn (fun h' hn' hs => ?_) hcls
    obtain ⟨oL, _, _, hoL, _⟩ := id hn
    refine h _ ⟨I.ok, I.os, I.bare, ⟨fun b o e n hb hx => ?_, fun b o e n hb hx => ?_, I.base.free, fun b o e hx => ?_, I.base.tups, I.base.frzs, I.base.tbls⟩, ⟨_, hn', fun j y v' e1 e2 e3 => ?_⟩, fun y c e => ?_, I.free, I.freeC, fun p hp => ?_, tracked ⟨oL, hoL, I.free⟩ hs, by simpa using I.len⟩ ⟨_, hs, .inl rfl⟩
    · exact (hs.2 b (Nat.ne_of_lt (Nat.lt_of_lt_of_le (Heap.lt_size e) I.ok.above))).trans (I.base.keep b o e n hb hx)
    · obtain ⟨sl, e1⟩ := I.base.slot b o e n hb hx
      exact ⟨sl, (hs.2 b (Nat.ne_of_lt (Nat.lt_of_lt_of_le (Heap.lt_size e) I.ok.above))).trans e1⟩
    · obtain ⟨o', e1⟩ := I.base.there b o e hx
      exact ⟨o', (hs.2 b (Nat.ne_of_lt (Nat.lt_of_lt_of_le (Heap.lt_size e) I.ok.above))).trans e1⟩
    · by_cases hj : j = i
      · subst hj
        rw [hi] at e1; cases e1
        rw [List.getElem?_set_self hiσ] at e2
        cases e2
        exact ⟨u, r, .inl ⟨hk, by simp⟩⟩
      · rw [List.getElem?_set_ne (Ne.symm hj)] at e2
        obtain ⟨u', r', q⟩ := hl j y v' e1 e2 e3
        refine ⟨u', r', ?_⟩
        rcases q with ⟨k, e⟩ | ⟨k, c, e, z⟩
        · refine .inl ⟨k, ?_⟩
          have : y ≠ x := fun e => hj (nodup_ix hN e1 (e ▸ hi))
          simp [this, e]
        · exact .inr ⟨k, c, e, z.sameBut hs (cne y c e)⟩
    · obtain ⟨w', z⟩ := I.cell y c e
      exact ⟨w', z.sameBut hs (cne y c e)⟩
    · obtain ⟨e, n, ne, nf, d⟩ := I.pin p hp
      exact ⟨(hs.2 p.1 ne).trans e, n, ne, nf, d⟩
  · have hfn : X.fn x = true := by
      rcases hf with z | z
      · exact z
      · rw [z] at hk; cases hk
    obtain ⟨c, hc⟩ := I.ok.has x (.inl hk)
    obtain ⟨w', z⟩ := I.cell x c hc
    refine wpAny_storeName_cell I.ok.kind hk hc z (fun h' hc' hs => ?_)
    obtain ⟨oc, hoc, hocd⟩ := id z
    refine h { s with heap := h' } ⟨I.ok, I.os, I.bare, ⟨fun b o e n hb hx => ?_, fun b o e n hb hx => ?_, I.base.free, fun b o e hx => ?_, I.base.tups, I.base.frzs, I.base.tbls⟩, ⟨m, hn.sameBut hs (Ne.symm (cne x c hc)), fun j y v' e1 e2 e3 => ?_⟩, fun y c' e => ?_, I.free, I.freeC, fun p hp => ?_, tracked ⟨oc, hoc, I.freeC x c hc⟩ hs, by simpa using I.len⟩ ⟨c, hs, .inr hc⟩
    · exact (hs.2 b (Nat.ne_of_lt (Nat.lt_of_lt_of_le (Heap.lt_size e) (I.ok.cab x c hfn hc)))).trans (I.base.keep b o e n hb hx)
    · obtain ⟨sl, e1⟩ := I.base.slot b o e n hb hx
      exact ⟨sl, (hs.2 b (Nat.ne_of_lt (Nat.lt_of_lt_of_le (Heap.lt_size e) (I.ok.cab x c hfn hc)))).trans e1⟩
    · obtain ⟨o', e1⟩ := I.base.there b o e hx
      exact ⟨o', (hs.2 b (Nat.ne_of_lt (Nat.lt_of_lt_of_le (Heap.lt_size e) (I.ok.cab x c hfn hc)))).trans e1⟩
    · by_cases hj : j = i
      · subst hj
        rw [hi] at e1; cases e1
        rw [List.getElem?_set_self hiσ] at e2
        cases e2
        exact ⟨u, r, .inr ⟨.inl hk, c, hc, hc'⟩⟩
      · rw [List.getElem?_set_ne (Ne.symm hj)] at e2
        obtain ⟨u', r', q⟩ := hl j y v' e1 e2 e3
        refine ⟨u', r', ?_⟩
        rcases q with q | ⟨k, c', e, z'⟩
        · exact .inl q
        · refine .inr ⟨k, c', e, z'.sameBut hs ?_⟩
          rintro rfl
          exact hj (nodup_ix hN e1 (I.ok.inj _ _ _ e hc ▸ hi))
    · by_cases hcc : c' = c
      · subst hcc; exact ⟨_, hc'⟩
      · obtain ⟨w2, z2⟩ := I.cell y c' e
        exact ⟨w2, z2.sameBut hs hcc⟩
    · obtain ⟨e, n, ne, nf, d⟩ := I.pin p hp
      refine ⟨(hs.2 p.1 ?_).trans e, n, ne, nf, d⟩
      intro q
      rw [q, hoc] at e
      have q' : oc = p.2 := Option.some.inj e
      exact d w' (by rw [← q']; exact hocd)
theorem store_ok {M : Model} {A : Around} {E : Value → Shared → Prop} {i : Nat} {x : Str} {v : V} {u : Value} {Q : Unit → Shared → Prop} (I : Inv X pins σ H s) (hN : X.N.Nodup) (hi : X.N[i]? = some x) (hx : Loc X.env.scope x) (r : RelV v u)
    (h : ∀ s', Inv X pins (σ.set i (some v)) H s' → Q () s') (hf : X.fn x = true ∨ X.env.scope.names.lookup x = some .local := by first | exact .inl rfl | exact .inr rfl | assumption) : wpAny M A (storeName X.env x u) Q E s :=
  store_ok2 I hN hi hx r (fun s' I' _ => h s' I') hf
theorem Inv.call' {s' : Shared} {ch : List Addr} (I : Inv X pins σ H s) (ho : s'.os = s.os) (u : Un (frs X.stack) ch H H' s.heap s'.heap) (hok : HOk X.prog X.w H' s'.heap) (hg : AllBare s'.gens)
    (hch : ∀ b ∈ ch, (b ∈ X.ex ∨ X.s₀.heap.objs.size ≤ b) ∧ b ≠ X.env.locals ∧ (∀ x c, X.env.cells.lookup x = some c → c ≠ b) ∧ ∀ p ∈ X.pn ++ pins, p.1 ≠ b) : Inv X pins σ H' s' := by
  obtain ⟨h', g', d', t', o'⟩ := s'
  have e : o' = s.os := ho
  subst e
  exact I.call (g' := g') (t' := t') (d' := d') u hok hg hch
end
abbrev XK := Value → Option Addr → Hp → Prop
abbrev St := List (Option V)
abbrev VK := V → Hp → Prop
abbrev TE := St → Hp → VK → Prop
abbrev TT := St → Hp → (Bool → Hp → Prop) → Prop
abbrev TA := St → Hp → (List V → Hp → Prop) → Prop
structure Ends where
  nx : St → Hp → Prop
  rt : VK
  bk : St → Hp → Prop := fun _ _ => False
  ct : St → Hp → Prop := fun _ _ => False
abbrev TS := Ends → St → Hp → Prop
def EP (X : Cx) (pins : List (Addr × Obj)) (σ : St) (Q : VK) (u : Value) (s' : Shared) : Prop := ∃ v H', Inv X pins σ H' s' ∧ RelV v u ∧ Q v H'
def TP (X : Cx) (pins : List (Addr × Obj)) (σ : St) (Q : Bool → Hp → Prop) (b : Bool) (s' : Shared) : Prop := ∃ H', Inv X pins σ H' s' ∧ Q b H'
def AP (X : Cx) (pins : List (Addr × Obj)) (σ : St) (Q : List V → Hp → Prop) (us : List Value) (s' : Shared) : Prop := ∃ vs H', Inv X pins σ H' s' ∧ Vals vs us ∧ Q vs H'
def SP (X : Cx) (pins : List (Addr × Obj)) (D : Ends) (f : Flow) (s' : Shared) : Prop :=
  match f with
  | .next => ∃ σ' H', Inv X pins σ' H' s' ∧ D.nx σ' H'
  | .brk => ∃ σ' H', Inv X pins σ' H' s' ∧ D.bk σ' H'
  | .cont => ∃ σ' H', Inv X pins σ' H' s' ∧ D.ct σ' H'
  | .ret u => ∃ v σ' H', Inv X pins σ' H' s' ∧ RelV v u ∧ D.rt v H'
def PE (X : Cx) (e : Expr) (t : TE) : Prop :=
  ∀ (pins : List (Addr × Obj)) (s : Shared) (σ : St) (H : Hp) (Q : VK), Inv X pins σ H s → t σ H Q → wpAny (model X.prog X.w) X.A (eval e X.env) (EP X pins σ Q) X.xe s
def PT (X : Cx) (e : Expr) (t : TT) : Prop :=
  ∀ (pins : List (Addr × Obj)) (s : Shared) (σ : St) (H : Hp) (Q : Bool → Hp → Prop), Inv X pins σ H s → t σ H Q → wpAny (model X.prog X.w) X.A (isTrue e X.env (eval e X.env)) (TP X pins σ Q) X.xe s
def PW (X : Cx) (e : Expr) (t : TT) : Prop :=
  ∀ (whole : Sem Value) (pins : List (Addr × Obj)) (s : Shared) (σ : St) (H : Hp) (Q : Bool → Hp → Prop), Inv X pins σ H s → t σ H Q → wpAny (model X.prog X.w) X.A (isTrue e X.env whole) (TP X pins σ Q) X.xe s
theorem PW.pt {X : Cx} {e : Expr} {t : TT} (h : PW X e t) : PT X e t := h _
def PA (X : Cx) (es : List Expr) (t : TA) : Prop :=
  ∀ (pos : Pos) (pins : List (Addr × Obj)) (s : Shared) (σ : St) (H : Hp) (Q : List V → Hp → Prop), Inv X pins σ H s → t σ H Q → wpAny (model X.prog X.w) X.A (spliced (backTo pos (starEach es X.env))) (AP X pins σ Q) X.xe s
def PS (X : Cx) (st : Stmt) (t : TS) : Prop :=
  ∀ (pins : List (Addr × Obj)) (s : Shared) (σ : St) (H : Hp) (D : Ends), Inv X pins σ H s → t D σ H → wpAny (model X.prog X.w) X.A (exec st X.env) (SP X pins D) X.xe s
def PSs (X : Cx) (st : List Stmt) (t : TS) : Prop :=
  ∀ (pins : List (Addr × Obj)) (s : Shared) (σ : St) (H : Hp) (D : Ends), Inv X pins σ H s → t D σ H → wpAny (model X.prog X.w) X.A (execs st X.env) (SP X pins D) X.xe s
theorem thn {α : Type} {t : Sem α} {Q Q' : α → Shared → Prop} {M : Model} {A : Around} {E : Value → Shared → Prop} {s : Shared} (h : wpAny M A t Q E s) (hQ : ∀ a s, Q a s → Q' a s) : wpAny M A t Q' E s := wpAny_mono h hQ fun _ _ x => x
end L2
namespace L2
open PySem PySem.Spec PyProof.Rows
section
variable {X : Cx}
def tVar (i : Nat) : TE := fun σ H Q => ∃ v, σ[i]? = some (some v) ∧ Q v H
def tC (v : V) : TE := fun _ H Q => Q v H
theorem pe_var {i : Nat} {x : Str} {pos : Pos} (hN : X.N[i]? = some x) (hv : Vis X.env.scope x) (hd : (x == ("__debug__" : Str)) = false := by decide) (hcd : (x == ("__classdict__" : Str)) = false := by decide) : PE X (.Name x pos) (tVar i) := by
  intro pins s σ H Q I h
  obtain ⟨v, e, h⟩ := h
  obtain ⟨m, hn, hl⟩ := I.loc
  obtain ⟨u, r, l⟩ := hl i x v hN e hv
  have fin : EP X pins σ Q u s := ⟨v, H, I, r, h⟩
  rcases l with ⟨hk, hm⟩ | ⟨hk, c, hc, hcell⟩
  · exact wpAny_Name (wpAny_loadName_local I.ok.kind hk hn hm fin) hd
  · rcases hk with hk | hk
    · exact wpAny_Name (wpAny_loadName_cell I.ok.kind hk hc hcell fin) hd
    · exact wpAny_Name (wpAny_loadName_free I.ok.kind hk hc hcell fin hcd) hd
theorem pe_int {i j pos} : PE X (.Constant (.int i) j pos) (tC (.int i)) := fun _ _ _ H _ I h => wpAny_Constant_int ⟨.int i, H, I.tok _, ⟨_, rfl⟩, h⟩
theorem pe_bl {b j pos} : PE X (.Constant (.bool b) j pos) (tC (.bl b)) := fun _ _ _ H _ I h => Constant_bool ⟨.bl b, H, I, rfl, h⟩
theorem pe_non {j pos} : PE X (.Constant .none j pos) (tC .non) := fun _ _ _ H _ I h => Constant_none ⟨.non, H, I, rfl, h⟩
theorem pe_str {x j pos} : PE X (.Constant (.str x) j pos) (tC (.str x)) := fun _ _ _ H _ I h => Calls.Constant_str ⟨.str x, H, I.tok _, ⟨_, rfl⟩, h⟩
def Gl (X : Cx) (x : Str) : Prop := X.env.kindOf x = some .globalImplicit
theorem ld_glob {E : Value → Shared → Prop} {pins : List (Addr × Obj)} {s : Shared} {σ : St} {H : Hp} {x : Str} {u : Value} {pos : Pos} {Q : Value → Shared → Prop} (I : Inv X pins σ H s) (hg : Gl X x) (hm : X.mg x = some u) (h : Q u s)
    (hd : (x == ("__debug__" : Str)) = false := by decide) : wpAny (model X.prog X.w) X.A (eval (.Name x pos) X.env) Q E s :=
  Calls.Name_function_global I.ok.kind hg (Calls.loadGlobal_global (by rw [I.ok.glob]; exact I.mod.glob.keeps I.bk) hm h) hd
theorem ld_blt {E : Value → Shared → Prop} {pins : List (Addr × Obj)} {s : Shared} {σ : St} {H : Hp} {x : Str} {u : Value} {pos : Pos} {Q : Value → Shared → Prop} (I : Inv X pins σ H s) (hg : Gl X x) (hm : X.mg x = none) (hv : bootBuiltins x = some u) (h : Q u s)
    (hn : x ≠ "__name__" := by decide) (hd : (x == ("__debug__" : Str)) = false := by decide) : wpAny (model X.prog X.w) X.A (eval (.Name x pos) X.env) Q E s := by
  obtain ⟨mb, h1, h2⟩ := I.mod.blt
  exact Calls.Name_function_global I.ok.kind hg (Calls.loadGlobal_builtin (by rw [I.ok.glob]; exact I.mod.glob.keeps I.bk) hm (by rw [I.ok.blt]; exact h1.keeps I.bk) ((h2 x hn).trans hv) h) hd
theorem pe_glob {x : Str} {v : V} {u : Value} {pos : Pos} (hg : Gl X x) (hm : X.mg x = some u) (r : RelV v u) (hd : (x == ("__debug__" : Str)) = false := by decide) : PE X (.Name x pos) (tC v) :=
  fun _ _ _ H _ I h => ld_glob I hg hm ⟨v, H, I, r, h⟩ hd
theorem pe_bltn {x : Str} {v : V} {u : Value} {pos : Pos} (hg : Gl X x) (hm : X.mg x = none) (hv : bootBuiltins x = some u) (r : RelV v u) (hn : x ≠ "__name__" := by decide) (hd : (x == ("__debug__" : Str)) = false := by decide) : PE X (.Name x pos) (tC v) :=
  fun _ _ _ H _ I h => ld_blt I hg hm hv ⟨v, H, I, r, h⟩ hn hd
variable {a b : Expr} {ta tb : TE} {pos : Pos}
def tB (t : TE) : TT := fun σ H Q => t σ H fun x H1 => ∃ c, x = .bl c ∧ Q c H1
variable {tA tB' : TT} {rest : List Expr}
def tOr (t u : TT) : TT := fun σ H Q => t σ H fun c H1 => if c = true then Q true H1 else u σ H1 Q
def tNot (t : TT) : TT := fun σ H Q => t σ H fun c H1 => Q (!c) H1
theorem pw_or1 (ha : PT X a tA) : PW X (.BoolOp .Or [a] pos) tA := by
  intro wh pins s σ H Q I h
  refine isTrue_or (thn (ha pins s σ H Q I h) fun c s1 e => ?_)
  cases c with
  | false => exact isTrue_or_nil e
  | true => exact e
theorem pw_or (ha : PT X a tA) (hb : PW X (.BoolOp .Or (b :: rest) pos) tB') : PW X (.BoolOp .Or (a :: b :: rest) pos) (tOr tA tB') := by
  intro wh pins s σ H Q I h
  refine isTrue_or (thn (ha pins s σ H _ I h) fun c s1 ⟨H1, I1, q1⟩ => ?_)
  cases c with
  | true => exact ⟨H1, I1, q1⟩
  | false => exact hb wh pins s1 σ H1 Q I1 q1
theorem pt_not (ha : PT X a tA) : PT X (.UnaryOp .Not a pos) (tNot tA) := by
  intro pins s σ H Q I h
  exact isTrue_not (ha pins s σ H (fun c H1 => Q (!c) H1) I h)
def tAndV (ta tb : TE) : TE := fun σ H Q => ta σ H fun x H1 => ∃ c, x = .bl c ∧ if c = true then tb σ H1 Q else Q (.bl false) H1
def tNotV (ta : TE) : TE := fun σ H Q => ta σ H fun x H1 => ∃ c, x = .bl c ∧ Q (.bl (!c)) H1
theorem pe_one {op} {t : TE} (h : PE X a t) : PE X (.BoolOp op [a] pos) t := fun pins s σ H Q I hw => BoolOp_one (h pins s σ H Q I hw)
theorem pe_and (ha : PE X a ta) (hb : PE X (.BoolOp .And (b :: rest) pos) tb) : PE X (.BoolOp .And (a :: b :: rest) pos) (tAndV ta tb) := by
  intro pins s σ H Q I h
  refine BoolOp_and (thn (ha pins s σ H _ I h) fun v s1 ⟨x, H1, I1, r1, q1⟩ => ?_)
  obtain ⟨c, rfl, q1⟩ := q1
  cases r1
  refine wpAny_truthy_bool ?_
  cases c with
  | true => exact hb pins s1 σ H1 Q I1 q1
  | false => exact ⟨.bl false, H1, I1, rfl, q1⟩
theorem pe_not (ha : PE X a ta) : PE X (.UnaryOp .Not a pos) (tNotV ta) := by
  intro pins s σ H Q I h
  refine UnaryOp_ (thn (ha pins s σ H _ I h) fun v s1 ⟨x, H1, I1, r1, q1⟩ => ?_)
  obtain ⟨c, rfl, q1⟩ := q1
  cases r1
  exact not_of (wpAny_truthy_bool ⟨.bl (!c), H1, I1, rfl, q1⟩)
def tIf (t : TT) (ta tb : TE) : TE := fun σ H Q => t σ H fun c H1 => if c = true then ta σ H1 Q else tb σ H1 Q
theorem pe_ifExp {c : Expr} (hc : PT X c tA) (ha : PE X a ta) (hb : PE X b tb) : PE X (.IfExp c a b pos) (tIf tA ta tb) := by
  intro pins s σ H Q I h
  refine wpAny_IfExp (thn (hc pins s σ H _ I h) fun d s1 ⟨H1, I1, q1⟩ => ?_)
  cases d with
  | true => exact ha pins s1 σ H1 Q I1 q1
  | false => exact hb pins s1 σ H1 Q I1 q1
end
end L2
namespace L2
open PySem PySem.Spec PyProof.Rows
def SqL (K : PySem.W.Frag) (H : Hp) (a : Addr) (xs : List V) : Prop :=
  Rd H a (.lst xs) ∨
    ∃ (o : Obj) (its : Array Value) (n : Nat), K.lookup a = some o ∧ o.cls = .type "list" ∧ o.dict = none ∧ o.data = .seq its n ∧ its.size ≤ sizeLine ∧ Vals xs its.toList
def SqT (K : PySem.W.Frag) (H : Hp) (a : Addr) (xs : List V) : Prop :=
  Rd H a (.tup xs) ∨
    ∃ (o : Obj) (its : Array Value) (n : Nat), K.lookup a = some o ∧ o.cls = .type "tuple" ∧ o.data = .seq its n ∧ its.size ≤ sizeLine ∧ Vals xs its.toList
def absV : Value → Option V
  | .none => some .non
  | .bool b => some (.bl b)
  | .int i _ => some (.int i)
  | .str x _ => some (.str x)
  | .bytes b _ => some (.byt b)
  | .float b _ => some (.flt b)
  | .ref a => some (.ref a)
  | .type n => some (.ty n)
  | _ => none
theorem RelV.abs {x : V} {u : Value} (r : RelV x u) : absV u = some x := by
  cases x with
  | non => cases r; rfl
  | bl _ => cases r; rfl
  | int _ => obtain ⟨t, rfl⟩ := r; rfl
  | str _ => obtain ⟨t, rfl⟩ := r; rfl
  | byt _ => obtain ⟨t, rfl⟩ := r; rfl
  | flt _ => obtain ⟨t, rfl⟩ := r; rfl
  | ref _ => cases r; rfl
  | ty _ => cases r; rfl
theorem RelV.inj {x y : V} {u : Value} (r : RelV x u) (q : RelV y u) : x = y := Option.some.inj (r.abs.symm.trans q.abs)
theorem Vals.inj : ∀ {xs ys : List V} {us : List Value}, Vals xs us → Vals ys us → xs = ys
  | _, _, _, .nil, .nil => rfl
  | _, _, _, .cons r t, .cons r' t' => by rw [r.inj r', Vals.inj t t']
section
variable {X : Cx} {pins : List (Addr × Obj)} {σ : St} {H : Hp} {s : Shared} {a : Addr} {xs ys : List V}
theorem SqL.of {K : PySem.W.Frag} (h : H a = some (.lst xs)) : SqL K H a xs := .inl (.inl h)
theorem SqT.of {K : PySem.W.Frag} (h : H a = some (.tup xs)) : SqT K H a xs := .inl (.inl h)
theorem Inv.list (I : Inv X pins σ H s) (h : SqL X.K H a xs) : ∃ its : List Value, Vals xs its ∧ PlainL s.heap a its.toArray ∧ xs.length ≤ sizeLine := by
  rcases h with h | ⟨o, its, n, hk, hc, hd, hs, hz, r⟩
  · obtain ⟨z, its, n, r, e⟩ := h.ok I.hok
    exact ⟨its, r, ⟨_, n, e, rfl, rfl, rfl⟩, z⟩
  · refine ⟨its.toList, r, ⟨o, n, I.kIn a o hk, hc, hd, by simpa using hs⟩, ?_⟩
    have e := r.length
    simp only [Array.length_toList] at e
    omega
theorem Inv.tuple (I : Inv X pins σ H s) (h : SqT X.K H a xs) : ∃ its : List Value, Vals xs its ∧ IsTup s.heap a its.toArray ∧ xs.length ≤ sizeLine := by
  rcases h with h | ⟨o, its, n, hk, hc, hs, hz, r⟩
  · obtain ⟨z, its, r, p, _⟩ := h.ok I.hok
    exact ⟨its, r, p, z⟩
  · refine ⟨its.toList, r, ⟨o, I.kIn a o hk, hc, n, by simpa using hs⟩, ?_⟩
    have e := r.length
    simp only [Array.length_toList] at e
    omega
theorem Inv.list_inj (I : Inv X pins σ H s) (h : SqL X.K H a xs) (h' : SqL X.K H a ys) : xs = ys := by
  obtain ⟨its, r, ⟨o, n, e, _, _, d⟩, _⟩ := I.list h
  obtain ⟨its', r', ⟨o', n', e', _, _, d'⟩, _⟩ := I.list h'
  rw [e] at e'; cases e'
  rw [d] at d'
  injection d' with d1 _
  have : its = its' := by simpa using congrArg Array.toList d1
  subst this
  exact r.inj r'
theorem Inv.tuple_inj (I : Inv X pins σ H s) (h : SqT X.K H a xs) (h' : SqT X.K H a ys) : xs = ys := by
  obtain ⟨its, r, ⟨o, e, _, n, d⟩, _⟩ := I.tuple h
  obtain ⟨its', r', ⟨o', e', _, n', d'⟩, _⟩ := I.tuple h'
  rw [e] at e'; cases e'
  rw [d] at d'
  injection d' with d1 _
  have : its = its' := by simpa using congrArg Array.toList d1
  subst this
  exact r.inj r'
end
abbrev Cx.wish (X : Cx) (E : Value → Shared → Prop) : Cx := { X with xe := E }
abbrev Cx.nox (X : Cx) : Cx := X.wish fun _ _ => False
theorem Cx.Ok.wish {X : Cx} (ok : X.Ok) (E : Value → Shared → Prop) : (X.wish E).Ok :=
  ⟨ok.mod, ok.kind, ok.glob, ok.blt, ok.above, ok.inj, ok.has, ok.cab, ok.hd, ok.frames, ok.stk, ok.exf, ok.bs, ok.bsz, ok.noex, ok.exfs, ok.funs, ok.frf⟩
theorem Cx.Ok.unwish {X : Cx} {E : Value → Shared → Prop} (ok : (X.wish E).Ok) : X.Ok :=
  ⟨ok.mod, ok.kind, ok.glob, ok.blt, ok.above, ok.inj, ok.has, ok.cab, ok.hd, ok.frames, ok.stk, ok.exf, ok.bs, ok.bsz, ok.noex, ok.exfs, ok.funs, ok.frf⟩
section
variable {X : Cx} {pins : List (Addr × Obj)} {σ : St} {H : Hp} {s : Shared} {E : Value → Shared → Prop}
theorem Inv.wish (I : Inv X pins σ H s) (E : Value → Shared → Prop) : Inv (X.wish E) pins σ H s := ⟨I.ok.wish E, I.os, I.bare, I.base, I.loc, I.cell, I.free, I.freeC, I.pin, I.hok, I.len⟩
theorem Inv.unwish (I : Inv (X.wish E) pins σ H s) : Inv X pins σ H s := ⟨I.ok.unwish, I.os, I.bare, I.base, I.loc, I.cell, I.free, I.freeC, I.pin, I.hok, I.len⟩
theorem SP.unwish {D : Ends} {f : Flow} {s' : Shared} (h : SP (X.wish E) pins D f s') : SP X pins D f s' := by
  cases f with
  | next => obtain ⟨σ', H', I, q⟩ := h; exact ⟨σ', H', I.unwish, q⟩
  | brk => obtain ⟨σ', H', I, q⟩ := h; exact ⟨σ', H', I.unwish, q⟩
  | cont => obtain ⟨σ', H', I, q⟩ := h; exact ⟨σ', H', I.unwish, q⟩
  | ret u => obtain ⟨v, σ', H', I, r, q⟩ := h; exact ⟨v, σ', H', I.unwish, r, q⟩
theorem PE.nox {e : Expr} {t : TE} (h : PE X.nox e t) : PE X e t := fun pins s σ H Q I hw =>
  wpAny_mono (h pins s σ H Q (I.wish _) hw) (fun _ _ ⟨v, H', I', r, q⟩ => ⟨v, H', I'.unwish, r, q⟩) fun _ _ z => False.elim z
theorem PT.nox {e : Expr} {t : TT} (h : PT X.nox e t) : PT X e t := fun pins s σ H Q I hw =>
  wpAny_mono (h pins s σ H Q (I.wish _) hw) (fun _ _ ⟨H', I', q⟩ => ⟨H', I'.unwish, q⟩) fun _ _ z => False.elim z
theorem PSs.nox {st : List Stmt} {t : TS} (h : PSs X.nox st t) : PSs X st t := fun pins s σ H D I hw =>
  wpAny_mono (h pins s σ H D (I.wish _) hw) (fun _ _ q => q.unwish) fun _ _ z => False.elim z
end
section
variable {X : Cx} {st : Stmt} {rest : List Stmt} {t u : TS} {e : Expr} {te : TE} {pos : Pos}
def tNext : TS := fun D σ H => D.nx σ H
def tSeq (t u : TS) : TS := fun D σ H => t { D with nx := u D } σ H
theorem pss_nil : PSs X [] tNext := fun _ _ σ H _ I h => wpAny_execs_nil ⟨σ, H, I, h⟩
theorem pss_cons (h1 : PS X st t) (h2 : PSs X rest u) : PSs X (st :: rest) (tSeq t u) := by
  intro pins s σ H D I h
  refine wpAny_execs_cons (thn (h1 pins s σ H { D with nx := u D } I h) fun f s1 q => ?_)
  cases f with
  | next =>
    obtain ⟨σ', H', I', q⟩ := q
    exact h2 pins s1 σ' H' D I' q
  | ret v => exact q
  | brk => exact q
  | cont => exact q
theorem pss_one (h1 : PS X st t) : PSs X [st] t := by
  intro pins s σ H D I h
  refine wpAny_execs_cons (thn (h1 pins s σ H D I h) fun f s1 q => ?_)
  cases f with
  | next => exact wpAny_execs_nil q
  | ret v => exact q
  | brk => exact q
  | cont => exact q
theorem Inv.quiet {pins : List (Addr × Obj)} {σ : St} {H : Hp} {s : Shared} (I : Inv X pins σ H s) : interactive X.env = false := by simp [interactive, I.ok.kind]
def tDrop (te : TE) : TS := fun D σ H => te σ H fun _ H1 => D.nx σ H1
theorem ps_expr (he : PE X e te) (hs : swapsWith e none pos.line X.env = pure false := by rfl) : PS X (.Expr e pos) (tDrop te) := by
  intro pins s σ H D I h
  exact wpAny_Expr_any (thn (he pins s σ H _ I h) fun v s1 ⟨x, H1, I1, r1, q1⟩ => ⟨σ, H1, I1, q1⟩) I.quiet hs
def tRet (te : TE) : TS := fun D σ H => te σ H D.rt
theorem ps_ret (he : PE X e te) : PS X (.Return (some e) pos) (tRet te) := by
  intro pins s σ H D I h
  exact wpAny_Return_some (thn (he pins s σ H _ I h) fun v s1 ⟨x, H1, I1, r1, q1⟩ => ⟨x, σ, H1, I1, r1, q1⟩)
def tIfS (c : TT) (t u : TS) : TS := fun D σ H => c σ H fun b H1 => if b = true then t D σ H1 else u D σ H1
theorem ps_if {c : Expr} {a b : List Stmt} {tc : TT} (hc : PT X c tc) (ha : PSs X a t) (hb : PSs X b u) : PS X (.If c a b pos) (tIfS tc t u) := by
  intro pins s σ H D I h
  refine wpAny_If (thn (hc pins s σ H _ I h) fun d s1 ⟨H1, I1, q1⟩ => ?_)
  cases d with
  | true => exact ha pins s1 σ H1 D I1 q1
  | false => exact hb pins s1 σ H1 D I1 q1
def tNever : TS := fun _ _ _ => False
theorem ps_never : PS X st tNever := fun _ _ _ _ _ _ h => h.elim
end
abbrev TG := V → St → Hp → (St → Hp → Prop) → Prop
abbrev TGs := List V → St → Hp → (St → Hp → Prop) → Prop
def PG (X : Cx) (target : Expr) (t : TG) : Prop :=
  ∀ (pins : List (Addr × Obj)) (s : Shared) (σ : St) (H : Hp) (v : V) (u : Value) (Q : St → Hp → Prop), Inv X pins σ H s → RelV v u → t v σ H Q →
    wpAny (model X.prog X.w) X.A (assign target X.env u) (fun _ s' => ∃ σ' H', Inv X pins σ' H' s' ∧ Q σ' H') X.xe s
def PGs (X : Cx) (ts : List Expr) (t : TGs) : Prop :=
  ∀ (pins : List (Addr × Obj)) (s : Shared) (σ : St) (H : Hp) (vs : List V) (us : List Value) (Q : St → Hp → Prop), Inv X pins σ H s → Vals vs us → t vs σ H Q →
    wpAny (model X.prog X.w) X.A (assignInOrder ((assignEach ts X.env).map (·.2)) us) (fun _ s' => ∃ σ' H', Inv X pins σ' H' s' ∧ Q σ' H') X.xe s
abbrev TSet := V → V → V → Hp → (Hp → Prop) → Prop
def PSet (X : Cx) (t : TSet) : Prop :=
  ∀ (pins : List (Addr × Obj)) (s : Shared) (σ : St) (H : Hp) (o i v : V) (ov iv u : Value) (Q : Hp → Prop), Inv X pins σ H s → RelV o ov → RelV i iv → RelV v u → t o i v H Q →
    wpAny (model X.prog X.w) X.A (setItem ov iv u) (fun _ s' => ∃ H', Inv X pins σ H' s' ∧ Q H') X.xe s
section
variable {X : Cx} {pos : Pos}
def gName (i : Nat) : TG := fun v σ H Q => Q (σ.set i (some v)) H
theorem pg_name {i : Nat} {x : Str} (hN : X.N.Nodup) (hi : X.N[i]? = some x) (hx : Loc X.env.scope x) (hf : X.fn x = true ∨ X.env.scope.names.lookup x = some .local := by first | exact .inl rfl | exact .inr rfl | assumption) : PG X (.Name x pos) (gName i) := by
  intro pins s σ H v u Q I r h
  exact wpAny_assign_Name (store_ok I hN hi hx r (fun s' I' => ⟨_, H, I', h⟩) hf)
def gNil : TGs := fun vs σ H Q => vs = [] ∧ Q σ H
def gCons (t : TG) (u : TGs) : TGs := fun vs σ H Q => ∃ v r, vs = v :: r ∧ t v σ H fun σ' H' => u r σ' H' Q
theorem pgs_nil : PGs X [] gNil := by
  intro pins s σ H vs us Q I r h
  obtain ⟨e, h⟩ := h
  subst e
  cases r
  exact assignInOrder_nil ⟨σ, H, I, h⟩
theorem pgs_cons {e : Expr} {es : List Expr} {t : TG} {u : TGs} (h1 : PG X e t) (h2 : PGs X es u)
    (hs : (assignEach (e :: es) X.env).map (·.2) = assign e X.env :: (assignEach es X.env).map (·.2) := by rfl) : PGs X (e :: es) (gCons t u) := by
  intro pins s σ H vs us Q I r h
  obtain ⟨v, vr, e1, h⟩ := h
  subst e1
  cases r with
  | cons r rr =>
    rw [hs]
    refine assignInOrder_cons (thn (h1 pins s σ H _ _ _ I r h) fun _ s1 ⟨σ1, H1, I1, q1⟩ => ?_)
    exact h2 pins s1 σ1 H1 _ _ Q I1 rr q1
def gTup (K : PySem.W.Frag) (n : Nat) (t : TGs) : TG := fun v σ H Q => ∃ a xs, v = .ref a ∧ SqT K H a xs ∧ xs.length = n ∧ t xs σ H Q
theorem pg_tup {es : List Expr} {k : Nat} {t : TGs} {n : Nat} (hc : X.calm = true) (h : PGs X es t)
    (hn : (assignEach es X.env).length = n := by rfl) (hst : (assignEach es X.env).findIdx? (·.1) = none := by rfl) : PG X (.Tuple es k pos) (gTup X.K n t) := by
  intro pins s σ H v u Q I r hw
  obtain ⟨a, xs, e1, hq, hl, hw⟩ := hw
  subst e1
  cases r
  obtain ⟨its, rv, ht, hz⟩ := I.tuple hq
  refine assign_Tuple_tuple (I.ok.hd hc) ht (by simp [hn, ← hl, rv.length]) hst fun h' hx => ?_
  have I1 : Inv X pins σ H { s with heap := h' } := I.kept (t' := s.toks) fun b o e => hx b o (Nat.ne_of_lt (Heap.lt_size e)) e
  exact h pins _ σ H xs _ Q I1 (by simpa using rv) hw
def gSub (to ti : TE) (t : TSet) : TG := fun v σ H Q => to σ H fun o H1 => ti σ H1 fun i H2 => t o i v H2 fun H3 => Q σ H3
theorem pg_sub {o i : Expr} {to ti : TE} {t : TSet} (ho : PE X o to) (hi : PE X i ti) (hs : PSet X t)
    (ha : ∀ v, assign (.Subscript o i pos) X.env v = (do
      let ov ← holding [v] (eval o X.env)
      let iv ← holding [v, ov] (eval i X.env)
      standAt pos
      holding [v, ov, iv] (setItem ov iv v)
      release [v, ov, iv] []) := by intro _; rfl) : PG X (.Subscript o i pos) (gSub to ti t) := by
  intro pins s σ H v u Q I r h
  rw [ha]
  refine wpAny_bind (wpAny_holding (thn (ho pins s σ H _ I h) fun ov s1 ⟨x, H1, I1, r1, q1⟩ => ?_))
  refine wpAny_bind (wpAny_holding (thn (hi pins s1 σ H1 _ I1 q1) fun iv s2 ⟨y, H2, I2, r2, q2⟩ => ?_))
  refine wpAny_bind (wpAny_standAt (wpAny_bind (wpAny_holding (thn (hs pins s2 σ H2 x y v ov iv u _ I2 r1 r2 r q2) fun _ s3 ⟨H3, I3, q3⟩ => ?_))))
  exact wpAny_release ⟨σ, H3, I3, q3⟩
def tAsg (te : TE) (g : TG) : TS := fun D σ H => te σ H fun x H1 => g x σ H1 D.nx
theorem ps_asg {tg e : Expr} {te : TE} {g : TG} (he : PE X e te) (hg : PG X tg g) (hs : swapsWithSole [tg] e pos.line X.env = pure false := by rfl) (hw : swappedStores [tg] e X.env = pure none := by rfl)
    (h1 : (assignEach [tg] X.env).map (·.2) = [assign tg X.env] := by rfl) : PS X (.Assign [tg] e pos) (tAsg te g) := by
  intro pins s σ H D I h
  refine wpAny_Assign_stores (thn (he pins s σ H _ I h) fun v s1 ⟨x, H1, I1, r1, q1⟩ => ?_) hs hw
  rw [h1]
  exact thn (hg pins s1 σ H1 x v _ I1 r1 q1) fun _ s2 q => q
theorem ps_set {i : Nat} {x : Str} {e : Expr} {te : TE} {pos' : Pos} (hN : X.N.Nodup) (hi : X.N[i]? = some x) (hx : Loc X.env.scope x) (he : PE X e te) (hs : swapsWith e (some (.Name x pos')) pos.line X.env = pure false := by rfl) (hf : X.fn x = true ∨ X.env.scope.names.lookup x = some .local := by first | exact .inl rfl | exact .inr rfl | assumption) :
    PS X (.Assign [.Name x pos'] e pos) (tAsg te (gName i)) := by
  intro pins s σ H D I h
  refine wpAny_Assign_Name (thn (he pins s σ H _ I h) fun v s1 ⟨y, H1, I1, r1, q1⟩ => ?_) hs
  exact store_ok I1 hN hi hx r1 (fun s2 I2 => ⟨_, H1, I2, q1⟩) hf
def tPar (i j : Nat) (ta : TA) : TS := fun D σ H => ta σ H fun vs H1 => ∃ v w, vs = [v, w] ∧ D.nx ((σ.set i (some v)).set j (some w)) H1
theorem ps_par {i j : Nat} {x y : Str} {a b : Expr} {ta : TA} {px py pt : Pos} {kt k2 pt2} (hc : X.calm = true) (hN : X.N.Nodup) (hi : X.N[i]? = some x) (hj : X.N[j]? = some y) (hij : i ≠ j)
    (hx : X.env.scope.names.lookup x = some .local) (hy : X.env.scope.names.lookup y = some .local) (ha : PA X [a, b] ta)
    (hw : swappedStores [.Tuple [.Name x px, .Name y py] kt pt] (.Tuple [a, b] k2 pt2) X.env = pure (some [x, y]))
    (hs : swapsWithSole [.Tuple [.Name x px, .Name y py] kt pt] (.Tuple [a, b] k2 pt2) pos.line X.env = pure false := by rfl) :
    PS X (.Assign [.Tuple [.Name x px, .Name y py] kt pt] (.Tuple [a, b] k2 pt2) pos) (tPar i j ta) := by
  intro pins s σ H D I h
  rw [exec_Assign_arm]
  refine wpAny_bind (wpAny_standAt ?_)
  rw [hs]
  refine wpAny_bind (wpAny_pure ?_)
  rw [if_neg (by decide)]
  refine wpAny_bind (Tuple_ (thn (ha _ pins s σ H _ I h) fun us s1 ⟨vs, H1, I1, r1, q1⟩ => ?_))
  obtain ⟨v, w, e1, q1⟩ := q1
  subst e1
  obtain ⟨u1, u2, rfl, rv, rw'⟩ : ∃ u1 u2, us = [u1, u2] ∧ RelV v u1 ∧ RelV w u2 := by
    cases r1 with
    | cons p q =>
      cases q with
      | cons p' q' =>
        cases q'
        exact ⟨_, _, rfl, p, p'⟩
  refine wpAny_newObj_type ?_ (by show 2 ≤ sizeLine; decide)
  have I2 : Inv X pins σ H1 { s1 with heap := s1.heap.push { cls := .type "tuple", data := .seq [u1, u2].toArray } } := I1.kept (t' := s1.toks) fun b o e => Heap.get?_push_of_some _ e
  rw [hw]
  refine wpAny_bind (wpAny_pure ?_)
  show wpAny (model X.prog X.w) X.A (do rule "assign.swapped-stores"; let items ← unpackItems (.ref s1.heap.objs.size) 2 none; assignInOrder [fun v => bindName X.env y v, fun v => bindName X.env x v] items.reverse; pure Flow.next) _ _ _
  refine wpAny_bind (wpAny_rule (wpAny_bind (unpackItems_tuple (items := #[u1, u2]) (I.ok.hd hc) (IsTup.new s1.heap _) fun h' hx' => ?_)))
  have I3 := I2.kept (h' := h') (t' := s1.toks) fun b o e => hx' b o (Nat.ne_of_lt (Heap.lt_size e)) e
  show wpAny _ _ (assignInOrder [fun v => bindName X.env y v, fun v => bindName X.env x v] [u2, u1] >>= fun _ => pure Flow.next) _ _ _
  refine wpAny_bind (assignInOrder_cons (wpAny_bindName (store_ok I3 hN hj (.inl hy) rw' (fun s2 I4 => ?_) (.inr hy))))
  refine assignInOrder_cons (wpAny_bindName (store_ok I4 hN hi (.inl hx) rv (fun s3 I5 => assignInOrder_nil (wpAny_pure ?_)) (.inr hx)))
  rw [List.set_comm _ _ (Ne.symm hij)] at I5
  exact ⟨_, H1, I5, q1⟩
end
section
variable {X : Cx} {pos : Pos}
def tWhile (c : TT) (tb : TS) : TS := fun D σ H => ∃ W : Nat → St → Hp → Prop, (∃ m, W m σ H) ∧ ∀ m σ H, W m σ H →
  c σ H fun b H1 => if b = true then ∃ N : St → Hp → Prop, (∀ σ' H', N σ' H' → ∃ m', m' < m ∧ W m' σ' H') ∧ tb { D with nx := N, ct := N, bk := D.nx } σ H1 else D.nx σ H1
theorem ps_while {c : Expr} {body : List Stmt} {tc : TT} {tb : TS} (hp : PassesOwn (model X.prog X.w) X.A X.env X.xe) (hc : PT X c tc) (hb : PSs X body tb) : PS X (.While c body [] pos) (tWhile tc tb) := by
  intro pins s σ H D I h
  obtain ⟨W, ⟨m0, w0⟩, turn⟩ := h
  refine wpAny_While (codeAny_whileLoop (fun n s' => ∃ σ' H', Inv X pins σ' H' s' ∧ W n σ' H') ?_ m0 ⟨σ, H, I, w0⟩)
  rintro n s1 ⟨σ1, H1, I1, w1⟩
  refine wpAny_passesOwn hp (thn (hc pins s1 σ1 H1 _ I1 (turn n σ1 H1 w1)) fun b s2 ⟨H2, I2, q2⟩ => ?_)
  cases b with
  | true =>
    obtain ⟨N, hN, q2⟩ := q2
    rw [if_pos rfl]
    refine wpAny_passesOwn hp (thn (hb pins s2 σ1 H2 _ I2 q2) fun f s3 q3 => ?_)
    cases f with
    | next =>
      obtain ⟨σ3, H3, I3, n3⟩ := q3
      obtain ⟨m', hm, w3⟩ := hN σ3 H3 n3
      exact ⟨m', hm, σ3, H3, I3, w3⟩
    | cont =>
      obtain ⟨σ3, H3, I3, n3⟩ := q3
      obtain ⟨m', hm, w3⟩ := hN σ3 H3 n3
      exact ⟨m', hm, σ3, H3, I3, w3⟩
    | brk => exact q3
    | ret v => exact q3
  | false =>
    rw [if_neg Bool.false_ne_true]
    exact wpAny_execs_nil ⟨σ1, H2, I2, q2⟩
end
structure It where
  go : Nat → Hp → Prop
  yld : Nat → Hp → V → Hp → Prop
  stop : Nat → Hp → Prop
def FpOk (X : Cx) (pins : List (Addr × Obj)) (H : Hp) (b : Addr) : Prop :=
  H b = none ∧ b ≠ X.env.locals ∧ b ∉ X.fs ∧ (b ∈ X.ex ∨ X.s₀.heap.objs.size ≤ b) ∧ (∀ x c, X.env.cells.lookup x = some c → c ≠ b) ∧ ∀ p ∈ X.pn ++ pins, p.1 ≠ b
theorem Inv.fpOk {X : Cx} {pins : List (Addr × Obj)} {σ : St} {H H' : Hp} {s : Shared} {b : Addr} (I : Inv X pins σ H s) (hb : s.heap.objs.size ≤ b) (hn : H' b = none) : FpOk X pins H' b := by
  refine ⟨hn, Nat.ne_of_gt (Nat.lt_of_lt_of_le I.lt hb), I.nofs hb, .inr (Nat.le_trans I.sz hb), fun x c e z => ?_, fun p hp z => ?_⟩
  · obtain ⟨v, q⟩ := I.cell x c e
    exact absurd (Nat.lt_of_lt_of_le q.lt (by rw [z]; exact hb)) (Nat.lt_irrefl _)
  · exact absurd (Nat.lt_of_lt_of_le (Heap.lt_size (I.pin p hp).1) (by rw [z]; exact hb)) (Nat.lt_irrefl _)
structure Turn (P : Program) (w : World) (K : PySem.W.Frag) (tg : Expr) (J : It) (fp : List Addr) (it : Addr) (tn : Nat → Heap → Prop) : Prop where
  mem : it ∈ fp
  obj : ∀ i h, tn i h → ∀ b ∈ fp, ∃ o, h.get? b = some o ∧ ∀ v, o.data ≠ .cell v
  keep : ∀ i h h', tn i h → (∀ b ∈ fp, ∀ o, h.get? b = some o → h'.get? b = some o) → tn i h'
  item : ∀ (X : Cx), X.prog = P → X.w = w → X.K = K → X.calm = true → ∀ (i : Nat) (pins : List (Addr × Obj)) (s : Shared) (σ : St) (H : Hp) (E : Value → Shared → Prop), Inv X pins σ H s → (∀ b ∈ fp, FpOk X pins H b) → tn i s.heap → J.go i H →
    wpAny (model P w) X.A (pyNext (.ref it)) (fun r s1 => ∃ u, r = some u ∧
      wpAny (model P w) X.A (letOwnedTupleGo tg (.ref it) u) (fun _ s2 => ∃ x H', Inv X pins σ H' s2 ∧ RelV x u ∧ J.yld i H x H' ∧ tn (i + 1) s2.heap ∧ ∀ b ∈ fp, H' b = none) E s1) E s
  done : ∀ (X : Cx), X.prog = P → X.w = w → X.K = K → X.calm = true → ∀ (i : Nat) (pins : List (Addr × Obj)) (s : Shared) (σ : St) (H : Hp) (E : Value → Shared → Prop), Inv X pins σ H s → (∀ b ∈ fp, FpOk X pins H b) → tn i s.heap → J.stop i H →
    wpAny (model P w) X.A (pyNext (.ref it)) (fun r s1 => r = none ∧ Inv X pins σ H s1) E s
  self : ∀ (A : Around) (i : Nat) (s : Shared) (Q : Value → Shared → Prop) (E : Value → Shared → Prop), tn i s.heap → Q (.ref it) s → wpAny (model P w) A (pyIter (.ref it)) Q E s
abbrev TI := St → Hp → (It → Hp → Prop) → Prop
def PIE (X : Cx) (pins : List (Addr × Obj)) (σ : St) (tg : Expr) (R : It → Hp → Prop) (itv : Value) (s2 : Shared) : Prop :=
  ∃ (it : Addr) (fp : List Addr) (tn : Nat → Heap → Prop) (J : It) (H' : Hp), itv = .ref it ∧ Inv X pins σ H' s2 ∧ Turn X.prog X.w X.K tg J fp it tn ∧ tn 0 s2.heap ∧ (∀ b ∈ fp, FpOk X pins H' b) ∧ R J H'
def PI (X : Cx) (tg iter : Expr) (wi : TI) : Prop :=
  ∀ (pins : List (Addr × Obj)) (s : Shared) (σ : St) (H : Hp) (R : It → Hp → Prop), Inv X pins σ H s → wi σ H R →
    wpAny (model X.prog X.w) X.A (eval iter X.env) (fun v s1 => wpAny (model X.prog X.w) X.A (pyIter v) (PIE X pins σ tg R) X.xe s1) X.xe s
theorem go_of {M : Model} {A : Around} {E : Value → Shared → Prop} {s : Shared} {tg : Expr} {it : Addr} {u : Value} {o : Obj} {n : String} {vs : Array Value} {Q : Unit → Shared → Prop} (ho : s.heap.get? it = some o) (hc : o.cls = .type n) (hd : o.data = .fields vs)
    (hn : ["enumerate", "zip", "dict_itemiterator", "dict_reverseitemiterator", "odict_iterator", "itertools.zip_longest", "itertools.pairwise"].contains n = false) (hQ : Q () s) : wpAny M A (letOwnedTupleGo tg (.ref it) u) Q E s := by
  unfold letOwnedTupleGo
  cases tg <;> first
    | exact wpAny_pure hQ
    | (cases u <;> first
        | exact wpAny_pure hQ
        | (refine wpAny_bind (wpAny_load ho ?_)
           rw [hc, hd]
           show wpAny M A (if (["enumerate", "zip", "dict_itemiterator", "dict_reverseitemiterator", "odict_iterator", "itertools.zip_longest", "itertools.pairwise"].contains n && vs[0]? == some (rawInt _)) = true then _ else _) Q E s
           rw [if_neg (by intro h; rw [hn, Bool.false_and] at h; cases h)]
           exact wpAny_pure hQ))
def Itl (K : PySem.W.Frag) (a : Addr) : It :=
  ⟨fun i H => ∃ xs x, SqL K H a xs ∧ xs[i]? = some x, fun i H x H' => H' = H ∧ ∀ xs, SqL K H a xs → xs[i]? = some x, fun i H => ∃ xs, SqL K H a xs ∧ xs.length ≤ i⟩
def Itt (K : PySem.W.Frag) (a : Addr) : It :=
  ⟨fun i H => ∃ xs x, SqT K H a xs ∧ xs[i]? = some x, fun i H x H' => H' = H ∧ ∀ xs, SqT K H a xs → xs[i]? = some x, fun i H => ∃ xs, SqT K H a xs ∧ xs.length ≤ i⟩
def Itr (lo : Int) (n : Nat) : It := ⟨fun i _ => i < n, fun i H x H' => H' = H ∧ x = .int (lo + i), fun i _ => n ≤ i⟩
theorem turn_list {P : Program} {w : World} {K : PySem.W.Frag} {tg : Expr} (a it : Addr) : Turn P w K tg (Itl K a) [it] it (fun i h => h.IsListIter it a i) where
  mem := by simp
  obj := fun i h st b hb => by
    have e : b = it := by simpa using hb
    subst e
    obtain ⟨o, e, c, d⟩ := st
    exact ⟨o, e, fun v z => by rw [d] at z; cases z⟩
  keep := fun i h h' st k => st.at fun o e => k it (by simp) o e
  item := by
    intro X hP hw hK hc i pins s σ H E I hf st hg
    subst hP hw hK
    obtain ⟨xs, x, hq, hx⟩ := hg
    obtain ⟨its, rv, p, hz⟩ := I.list hq
    obtain ⟨u, hu, ru⟩ := rv.get hx
    obtain ⟨f0, f1, f2, f3, f4, f5⟩ := hf it (by simp)
    refine wpAny_pyNext_list_item st p.isList (x := u) (by simpa using hu) fun h' st' sb => ?_
    have I1 : Inv X pins σ H { s with heap := h' } := I.turned (t' := s.toks) (fun b o hb e => (sb.2 b hb).trans e) f0 f1 f3 f4 f5
    obtain ⟨o, e, c, d⟩ := id st'
    exact ⟨u, rfl, go_of (s := { s with heap := h' }) e c d (by decide) ⟨x, H, I1, ru, ⟨rfl, fun ys hy => by rw [I.list_inj hy hq]; exact hx⟩, st', fun b hb => (hf b hb).1⟩⟩
  done := by
    intro X hP hw hK hc i pins s σ H E I hf st hg
    subst hP hw hK
    obtain ⟨xs, hq, hx⟩ := hg
    obtain ⟨its, rv, p, hz⟩ := I.list hq
    obtain ⟨f0, f1, f2, f3, f4, f5⟩ := hf it (by simp)
    have hl := rv.length
    exact wpAny_pyNext_list_end (I.ok.hd hc) st p.isList (by simp; omega) fun h' eb => ⟨rfl, I.turned (t' := s.toks) (fun b o hb e => eb b o hb e) f0 f1 f3 f4 f5⟩
  self := fun _ _ _ _ _ st h => wpAny_pyIter_listiter st h
theorem turn_tuple {P : Program} {w : World} {K : PySem.W.Frag} {tg : Expr} (a it : Addr) : Turn P w K tg (Itt K a) [it] it (fun i h => h.IsTupleIter it a i) where
  mem := by simp
  obj := fun i h st b hb => by
    have e : b = it := by simpa using hb
    subst e
    obtain ⟨o, e, c, d⟩ := st
    exact ⟨o, e, fun v z => by rw [d] at z; cases z⟩
  keep := fun i h h' st k => st.at fun o e => k it (by simp) o e
  item := by
    intro X hP hw hK hc i pins s σ H E I hf st hg
    subst hP hw hK
    obtain ⟨xs, x, hq, hx⟩ := hg
    obtain ⟨its, rv, p, hz⟩ := I.tuple hq
    obtain ⟨u, hu, ru⟩ := rv.get hx
    obtain ⟨f0, f1, f2, f3, f4, f5⟩ := hf it (by simp)
    refine wpAny_pyNext_tuple_item st (show s.heap.IsTuple a its.toArray from p) (x := u) (by simpa using hu) fun h' st' sb => ?_
    have I1 : Inv X pins σ H { s with heap := h' } := I.turned (t' := s.toks) (fun b o hb e => (sb.2 b hb).trans e) f0 f1 f3 f4 f5
    obtain ⟨o, e, c, d⟩ := id st'
    exact ⟨u, rfl, go_of (s := { s with heap := h' }) e c d (by decide) ⟨x, H, I1, ru, ⟨rfl, fun ys hy => by rw [I.tuple_inj hy hq]; exact hx⟩, st', fun b hb => (hf b hb).1⟩⟩
  done := by
    intro X hP hw hK hc i pins s σ H E I hf st hg
    subst hP hw hK
    obtain ⟨xs, hq, hx⟩ := hg
    obtain ⟨its, rv, p, hz⟩ := I.tuple hq
    obtain ⟨f0, f1, f2, f3, f4, f5⟩ := hf it (by simp)
    have hl := rv.length
    exact wpAny_pyNext_tuple_end (I.ok.hd hc) st (show s.heap.IsTuple a its.toArray from p) (by simp; omega) fun h' eb => ⟨rfl, I.turned (t' := s.toks) (fun b o hb e => eb b o hb e) f0 f1 f3 f4 f5⟩
  self := fun _ _ _ _ _ st h => wpAny_pyIter_tupleiter st h
theorem turn_range {P : Program} {w : World} {K : PySem.W.Frag} {tg : Expr} (it : Addr) (lo : Int) (n : Nat) : Turn P w K tg (Itr lo n) [it] it (fun i h => IsRangeIter h it (lo + (i : Nat) * 1) ((n : Int) - (i : Nat)) 1) where
  mem := by simp
  obj := fun i h st b hb => by
    have e : b = it := by simpa using hb
    subst e
    exact ⟨_, st, fun v z => by
      have z' : Data.fields _ = Data.cell v := z
      cases z'⟩
  keep := fun i h h' st k => k it (by simp) _ st
  item := by
    intro X hP hw hK hc i pins s σ H E I hf st hg
    subst hP hw hK
    obtain ⟨f0, f1, f2, f3, f4, f5⟩ := hf it (by simp)
    have W := Walks.range (prog := X.prog) (w := X.w) (I.ok.hd hc) it lo 1 n
    refine W.item i s _ _ hg st fun v h' tk hv st' kk => ?_
    obtain ⟨t, rfl⟩ := hv
    have I1 : Inv X pins σ H { s with heap := h', toks := tk } := I.turned (fun b o hb e => kk b o (by simpa using hb) e) f0 f1 f3 f4 f5
    refine ⟨_, rfl, go_of (s := { s with heap := h', toks := tk }) (n := "range_iterator") st' rfl rfl (by decide) ⟨.int (lo + i), H, I1, ⟨t, ?_⟩, ⟨rfl, rfl⟩, st', fun b hb => (hf b hb).1⟩⟩
    rw [Int.mul_one]
  done := by
    intro X hP hw hK hc i pins s σ H E I hf st hg
    subst hP hw hK
    obtain ⟨f0, f1, f2, f3, f4, f5⟩ := hf it (by simp)
    exact wpAny_pyNext_range_end (I.ok.hd hc) st (by have : n ≤ i := hg; omega) fun h' eb => ⟨rfl, I.turned (t' := s.toks) (fun b o hb e => eb b o hb e) f0 f1 f3 f4 f5⟩
  self := fun _ _ _ _ _ st h => wpAny_pyIter_rangeiter st h
end L2
namespace L2
open PySem PySem.Spec PyProof.Rows
section
variable {X : Cx} {tg : Expr}
def iList (K : PySem.W.Frag) (tl : TE) : TI := fun σ H R => tl σ H fun x H1 => ∃ a, x = .ref a ∧ (∃ xs, SqL K H1 a xs) ∧ R (Itl K a) H1
def iTup (K : PySem.W.Frag) (tl : TE) : TI := fun σ H R => tl σ H fun x H1 => ∃ a, x = .ref a ∧ (∃ xs, SqT K H1 a xs) ∧ R (Itt K a) H1
theorem pi_list {l : Expr} {tl : TE} (hl : PE X l tl) : PI X tg l (iList X.K tl) := by
  intro pins s σ H R I h
  refine thn (hl pins s σ H _ I h) fun v s1 ⟨x, H1, I1, r1, q1⟩ => ?_
  obtain ⟨a, e, ⟨xs, hq⟩, q⟩ := q1
  subst e
  cases r1
  obtain ⟨its, rv, p, hz⟩ := I1.list hq
  refine wpAny_pyIter_list p.isList ?_
  refine ⟨s1.heap.objs.size, [s1.heap.objs.size], _, _, H1, rfl, I1.kept (t' := s1.toks) fun b o e => Heap.get?_push_of_some _ e, turn_list a _, ⟨_, Heap.get?_push_size _ rfl, rfl, rfl⟩, fun b hb => ?_, q⟩
  have e : b = s1.heap.objs.size := by simpa using hb
  subst e
  exact I1.fpOk (Nat.le_refl _) (I1.hok.fresh (Nat.le_refl _))
theorem pi_tup {l : Expr} {tl : TE} (hl : PE X l tl) : PI X tg l (iTup X.K tl) := by
  intro pins s σ H R I h
  refine thn (hl pins s σ H _ I h) fun v s1 ⟨x, H1, I1, r1, q1⟩ => ?_
  obtain ⟨a, e, ⟨xs, hq⟩, q⟩ := q1
  subst e
  cases r1
  obtain ⟨its, rv, p, hz⟩ := I1.tuple hq
  refine wpAny_pyIter_tuple (show s1.heap.IsTuple a its.toArray from p) ?_
  refine ⟨s1.heap.objs.size, [s1.heap.objs.size], _, _, H1, rfl, I1.kept (t' := s1.toks) fun b o e => Heap.get?_push_of_some _ e, turn_tuple a _, ⟨_, Heap.get?_push_size _ rfl, rfl, rfl⟩, fun b hb => ?_, q⟩
  have e : b = s1.heap.objs.size := by simpa using hb
  subst e
  exact I1.fpOk (Nat.le_refl _) (I1.hok.fresh (Nat.le_refl _))
theorem range_it {pins : List (Addr × Obj)} {σ : St} {H : Hp} {s : Shared} {R : It → Hp → Prop} {E : Value → Shared → Prop} {lo hi : Int} {t u v : Tok} {tk : Nat} (I : Inv X pins σ H s) (h1 : -(2 ^ 62) ≤ lo) (h2 : lo < 2 ^ 62) (h3 : -(2 ^ 62) ≤ hi) (h4 : hi < 2 ^ 62)
    (q : R (Itr lo (hi - lo).toNat) H) : wpAny (model X.prog X.w) X.A (pyIter (.ref s.heap.objs.size)) (PIE X pins σ tg R) E { s with heap := s.heap.push { cls := .type "range", data := .fields #[.int lo t, .int hi u, .int 1 v] }, toks := tk } := by
  refine wpAny_pyIter_range (IsRange.new ..) (small_one h1 h2 h3 h4) ?_
  have I1 : Inv X pins σ H { s with heap := s.heap.push { cls := .type "range", data := .fields #[.int lo t, .int hi u, .int 1 v] }, toks := tk } := I.kept fun b o e => Heap.get?_push_of_some _ e
  refine ⟨(s.heap.push { cls := .type "range", data := .fields #[.int lo t, .int hi u, .int 1 v] }).objs.size, [(s.heap.push { cls := .type "range", data := .fields #[.int lo t, .int hi u, .int 1 v] }).objs.size], _, _, H, rfl,
    I1.kept (t' := tk) fun b o e => Heap.get?_push_of_some _ e, turn_range _ lo (hi - lo).toNat, ?_, fun b hb => ?_, q⟩
  · have e1 : lo + ((0 : Nat) : Int) * 1 = lo := by simp
    have e2 : (((hi - lo).toNat : Nat) : Int) - ((0 : Nat) : Int) = Builtin.Range.rangeSize lo hi 1 := by rw [rangeSize_one]; split <;> omega
    show IsRangeIter _ _ (lo + ((0 : Nat) : Int) * 1) ((((hi - lo).toNat : Nat) : Int) - ((0 : Nat) : Int)) 1
    rw [e1, e2]
    exact Heap.get?_push_size _ rfl
  · have e : b = (s.heap.push { cls := .type "range", data := .fields #[.int lo t, .int hi u, .int 1 v] }).objs.size := by simpa using hb
    subst e
    exact I1.fpOk (Nat.le_refl _) (I1.hok.fresh (Nat.le_refl _))
def iRng1 (ta : TA) : TI := fun σ H R => ta σ H fun vs H1 => ∃ j : Int, vs = [.int j] ∧ -(2 ^ 62) ≤ j ∧ j < 2 ^ 62 ∧ R (Itr 0 j.toNat) H1
theorem pi_range1 {a : Expr} {ta : TA} {p pos : Pos} (hg : Gl X "range") (hm : X.mg "range" = none) (ha : PA X [a] ta) (hs : starEach [a] X.env = [(false, eval a X.env)] := by rfl) : PI X tg (.Call (.Name "range" p) [a] [] pos) (iRng1 ta) := by
  intro pins s σ H R I h
  refine Call_ (ld_blt I hg hm boot_range (PyProof.Rows.callWith_type1 (thn (ha pos pins s σ H _ I h) fun us s1 ⟨vs, H1, I1, r1, q1⟩ => ?_) hs rfl))
  obtain ⟨j, e, q1, q2, q⟩ := q1
  subst e
  cases r1 with
  | cons r rr =>
    cases rr
    obtain ⟨t, rfl⟩ := r
    exact call_range_1 (range_it I1 (by omega) (by omega) q1 q2 (by simpa using q))
def tFor (wi : TI) (g : TG) (tb : TS) : TS := fun D σ H => wi σ H fun J H1 => ∃ W : Nat → Nat → St → Hp → Prop, (∃ m, W 0 m σ H1) ∧ ∀ i m σ H, W i m σ H →
  (J.stop i H ∧ D.nx σ H) ∨ (J.go i H ∧ ∃ N : St → Hp → Prop, (∀ σ' H', N σ' H' → ∃ m', m' < m ∧ W (i + 1) m' σ' H') ∧ ∀ x H', J.yld i H x H' → g x σ H' fun σ2 H2 => tb { D with nx := N, ct := N, bk := D.nx } σ2 H2)
def pinsAt (fp : List Addr) (h : Heap) : List (Addr × Obj) := fp.filterMap fun b => (h.get? b).map fun o => (b, o)
theorem mem_pinsAt {fp : List Addr} {h : Heap} {b : Addr} {o : Obj} (hb : b ∈ fp) (e : h.get? b = some o) : (b, o) ∈ pinsAt fp h := List.mem_filterMap.mpr ⟨b, hb, by rw [e]; rfl⟩
theorem of_pinsAt {fp : List Addr} {h : Heap} {p : Addr × Obj} (hp : p ∈ pinsAt fp h) : p.1 ∈ fp ∧ h.get? p.1 = some p.2 := by
  obtain ⟨b, hb, e⟩ := List.mem_filterMap.mp hp
  cases q : h.get? b with
  | none => rw [q] at e; cases e
  | some o =>
    rw [q] at e
    have e' : (b, o) = p := Option.some.inj e
    subst e'
    exact ⟨hb, q⟩
theorem Inv.pinned {pins : List (Addr × Obj)} {σ : St} {H : Hp} {s : Shared} {fp : List Addr} (I : Inv X pins σ H s) (hf : ∀ b ∈ fp, FpOk X pins H b) (ho : ∀ b ∈ fp, ∃ o, s.heap.get? b = some o ∧ ∀ v, o.data ≠ .cell v) : Inv X (pins ++ pinsAt fp s.heap) σ H s :=
  I.pins_of fun p hp => (List.mem_append.mp hp).elim (fun z => I.pin p (List.mem_append_right _ z)) fun z => by
    obtain ⟨hb, e⟩ := of_pinsAt z
    obtain ⟨f0, f1, f2, _⟩ := hf p.1 hb
    obtain ⟨o, e', d⟩ := ho p.1 hb
    rw [e] at e'; cases e'
    exact ⟨e, f0, f1, f2, d⟩
theorem Inv.unpinned {pins pl : List (Addr × Obj)} {σ : St} {H : Hp} {s : Shared} (I : Inv X (pins ++ pl) σ H s) : Inv X pins σ H s := I.pins_of fun p hp => I.pin p (List.mem_append_right _ (List.mem_append_left _ hp))
theorem ps_for {iter : Expr} {body : List Stmt} {wi : TI} {g : TG} {tb : TS} {pos : Pos} (hp : PassesOwn (model X.prog X.w) X.A X.env X.xe) (hc : X.calm = true) (hi : PI X tg iter wi) (hg : PG X tg g) (hb : PSs X body tb)
    (hs : ∀ x, foldedSetIterable iter X.env x = pure x := by intro _; rfl) : PS X (.For tg iter body [] pos) (tFor wi g tb) := by
  intro pins s σ H D I h
  refine wpAny_For (thn (hi pins s σ H _ I h) fun v s1 h1 => thn h1 fun itv s2 h2 => ?_) hs
  obtain ⟨it, fp, tn, J, H2, e, I2, T, st2, f2, W, ⟨m0, w0⟩, turn⟩ := h2
  subst e
  -- what stays true of the iterator's objects through the loop
  have stat : ∀ {H' : Hp}, (∀ b ∈ fp, H' b = none) → ∀ b ∈ fp, FpOk X pins H' b := fun hn b hb => ⟨hn b hb, (f2 b hb).2⟩
  refine codeAny_forLoop_any (fun n s' => ∃ i σ' H', Inv X pins σ' H' s' ∧ tn i s'.heap ∧ (∀ b ∈ fp, H' b = none) ∧ W i n σ' H') ?_ m0 ⟨0, σ, H2, I2, st2, fun b hb => (f2 b hb).1, w0⟩
  rintro n s3 ⟨i, σ3, H3, I3, st3, fr3, w3⟩
  rcases turn i n σ3 H3 w3 with ⟨stop, qn⟩ | ⟨go, N, hN, step⟩
  · refine wpAny_passesOwn hp (thn (T.done X rfl rfl rfl hc i pins s3 σ3 H3 X.xe I3 (stat fr3) st3 stop) fun r s4 ⟨hr, I4⟩ => ?_)
    subst hr
    exact wpAny_execs_nil ⟨σ3, H3, I4, qn⟩
  · refine wpAny_passesOwn hp (thn (T.item X rfl rfl rfl hc i pins s3 σ3 H3 X.xe I3 (stat fr3) st3 go) fun r s4 ⟨u, hr, h4⟩ => ?_)
    subst hr
    refine wpAny_passesOwn hp (thn h4 fun _ s5 ⟨x, H5, I5, r5, y5, st5, fr5⟩ => ?_)
    have I5' := I5.pinned (stat fr5) (T.obj _ _ st5)
    refine wpAny_passesOwn hp (thn (hg _ s5 σ3 H5 x u _ I5' r5 (step x H5 y5)) fun _ s6 ⟨σ6, H6, I6, q6⟩ => ?_)
    refine wpAny_passesOwn hp (thn (hb _ s6 σ6 H6 _ I6 q6) fun f s7 q7 => ?_)
    have again : ∀ {σ7 : St} {H7 : Hp}, Inv X (pins ++ pinsAt fp s5.heap) σ7 H7 s7 → N σ7 H7 → ∃ m, m < n ∧ ∃ i σ' H', Inv X pins σ' H' s7 ∧ tn i s7.heap ∧ (∀ b ∈ fp, H' b = none) ∧ W i m σ' H' := fun {σ7 H7} I7 n7 => by
      obtain ⟨m', hm, w7⟩ := hN σ7 H7 n7
      refine ⟨m', hm, i + 1, σ7, H7, I7.unpinned, T.keep _ _ _ st5 fun b hb o e => (I7.pin (b, o) (List.mem_append_right _ (List.mem_append_right _ (mem_pinsAt hb e)))).1, fun b hb => ?_, w7⟩
      obtain ⟨o, e, d⟩ := T.obj _ _ st5 b hb
      exact (I7.pin (b, o) (List.mem_append_right _ (List.mem_append_right _ (mem_pinsAt hb e)))).2.1
    cases f with
    | next => obtain ⟨σ7, H7, I7, n7⟩ := q7; exact again I7 n7
    | cont => obtain ⟨σ7, H7, I7, n7⟩ := q7; exact again I7 n7
    | brk => obtain ⟨σ7, H7, I7, q7⟩ := q7; exact ⟨σ7, H7, I7.unpinned, q7⟩
    | ret v => obtain ⟨x7, σ7, H7, I7, r7, q7⟩ := q7; exact ⟨x7, σ7, H7, I7.unpinned, r7, q7⟩
end
theorem for_list {K : PySem.W.Frag} {a : Addr} {xs : List V} {g : TG} {tb : TS} {D : Ends} {σ : St} {H : Hp} (Pv : Nat → St → Hp → Prop) (h0 : Pv 0 σ H) (hl : ∀ i σ H, i ≤ xs.length → Pv i σ H → SqL K H a xs)
    (hs : ∀ i x σ H, xs[i]? = some x → Pv i σ H → g x σ H fun σ2 H2 => tb { D with nx := Pv (i + 1), ct := Pv (i + 1), bk := D.nx } σ2 H2) (hd : ∀ σ H, Pv xs.length σ H → D.nx σ H) :
    ∃ W : Nat → Nat → St → Hp → Prop, (∃ m, W 0 m σ H) ∧ ∀ i m σ H, W i m σ H →
      ((Itl K a).stop i H ∧ D.nx σ H) ∨ ((Itl K a).go i H ∧ ∃ N : St → Hp → Prop, (∀ σ' H', N σ' H' → ∃ m', m' < m ∧ W (i + 1) m' σ' H') ∧ ∀ x H', (Itl K a).yld i H x H' → g x σ H' fun σ2 H2 => tb { D with nx := N, ct := N, bk := D.nx } σ2 H2) := by
  refine ⟨fun i m σ H => m = xs.length - i ∧ i ≤ xs.length ∧ Pv i σ H, ⟨xs.length, by simp, Nat.zero_le _, h0⟩, ?_⟩
  rintro i m σ H ⟨rfl, hi, p⟩
  have q := hl i σ H hi p
  by_cases hlt : i < xs.length
  · refine .inr ⟨⟨xs, xs[i], q, by simp [hlt]⟩, Pv (i + 1), fun σ' H' p' => ⟨xs.length - (i + 1), by omega, rfl, hlt, p'⟩, fun x H' y => ?_⟩
    obtain ⟨e, y⟩ := y
    subst e
    exact hs i x σ _ (y xs q) p
  · have e : i = xs.length := by omega
    subst e
    exact .inl ⟨⟨xs, q, Nat.le_refl _⟩, hd σ H p⟩
theorem for_range {lo : Int} {n : Nat} {g : TG} {tb : TS} {D : Ends} {σ : St} {H : Hp} (Pv : Nat → St → Hp → Prop) (h0 : Pv 0 σ H)
    (hs : ∀ i σ H, i < n → Pv i σ H → g (.int (lo + i)) σ H fun σ2 H2 => tb { D with nx := Pv (i + 1), ct := Pv (i + 1), bk := D.nx } σ2 H2) (hd : ∀ σ H, Pv n σ H → D.nx σ H) :
    ∃ W : Nat → Nat → St → Hp → Prop, (∃ m, W 0 m σ H) ∧ ∀ i m σ H, W i m σ H →
      ((Itr lo n).stop i H ∧ D.nx σ H) ∨ ((Itr lo n).go i H ∧ ∃ N : St → Hp → Prop, (∀ σ' H', N σ' H' → ∃ m', m' < m ∧ W (i + 1) m' σ' H') ∧ ∀ x H', (Itr lo n).yld i H x H' → g x σ H' fun σ2 H2 => tb { D with nx := N, ct := N, bk := D.nx } σ2 H2) := by
  refine ⟨fun i m σ H => m = n - i ∧ i ≤ n ∧ Pv i σ H, ⟨n, by simp, Nat.zero_le _, h0⟩, ?_⟩
  rintro i m σ H ⟨rfl, hi, p⟩
  by_cases hlt : i < n
  · refine .inr ⟨hlt, Pv (i + 1), fun σ' H' p' => ⟨n - (i + 1), by omega, rfl, hlt, p'⟩, fun x H' y => ?_⟩
    obtain ⟨e, y⟩ := y
    subst e y
    exact hs i σ _ hlt p
  · have e : i = n := by omega
    subst e
    exact .inl ⟨Nat.le_refl _, hd σ H p⟩
end L2
namespace L2
open PySem PySem.Spec PyProof.Rows
abbrev R2 := V → V → Hp → VK → Prop
def OpR (X : Cx) (f : Value → Value → Sem Value) (r : R2) : Prop :=
  ∀ (pins : List (Addr × Obj)) (s : Shared) (σ : St) (H : Hp) (x y : V) (v u : Value) (Q : VK), Inv X pins σ H s → RelV x v → RelV y u → r x y H Q →
    wpAny (model X.prog X.w) X.A (f v u) (EP X pins σ Q) X.xe s
def UnR (X : Cx) (f : Value → Sem Value) (r : V → Hp → VK → Prop) : Prop :=
  ∀ (pins : List (Addr × Obj)) (s : Shared) (σ : St) (H : Hp) (x : V) (v : Value) (Q : VK), Inv X pins σ H s → RelV x v → r x H Q →
    wpAny (model X.prog X.w) X.A (f v) (EP X pins σ Q) X.xe s
def CallR (X : Cx) (f : Value) (r : List V → Hp → VK → Prop) : Prop :=
  ∀ (pins : List (Addr × Obj)) (s : Shared) (σ : St) (H : Hp) (xs : List V) (us : List Value) (Q : VK), Inv X pins σ H s → Vals xs us → r xs H Q →
    wpAny (model X.prog X.w) X.A (call f us) (EP X pins σ Q) X.xe s
def TruR (X : Cx) (r : V → Hp → (Bool → Hp → Prop) → Prop) : Prop :=
  ∀ (pins : List (Addr × Obj)) (s : Shared) (σ : St) (H : Hp) (x : V) (v : Value) (Q : Bool → Hp → Prop), Inv X pins σ H s → RelV x v → r x H Q →
    wpAny (model X.prog X.w) X.A (truthy v) (TP X pins σ Q) X.xe s
def tOp (r : R2) (ta tb : TE) : TE := fun σ H Q => ta σ H fun x H1 => tb σ H1 fun y H2 => r x y H2 Q
def tUn (r : V → Hp → VK → Prop) (ta : TE) : TE := fun σ H Q => ta σ H fun x H1 => r x H1 Q
def rI (C : Int → Int → Prop) (g : Int → Int → V) : R2 := fun x y H Q => ∃ i j, x = .int i ∧ y = .int j ∧ C i j ∧ Q (g i j) H
def rI0 (g : Int → Int → V) : R2 := fun x y H Q => ∃ i j, x = .int i ∧ y = .int j ∧ Q (g i j) H
def rU (g : Int → V) : V → Hp → VK → Prop := fun x H Q => ∃ i, x = .int i ∧ Q (g i) H
section
variable {X : Cx} {a b c : Expr} {ta tb tc : TE} {pos : Pos}
theorem binT (ha : PE X a ta) (hb : PE X b tb) {pins : List (Addr × Obj)} {s : Shared} {σ : St} {H : Hp} {R : V → V → Hp → Prop} (I : Inv X pins σ H s)
    (h : ta σ H fun x H1 => tb σ H1 fun y H2 => R x y H2) {Q : Value → Shared → Prop} {f : Value → Value → Sem Value}
    (hf : ∀ v u s2 x y H2, Inv X pins σ H2 s2 → RelV x v → RelV y u → R x y H2 → wpAny (model X.prog X.w) X.A (f v u) Q X.xe s2) :
    wpAny (model X.prog X.w) X.A (eval a X.env) (fun v s₁ => wpAny (model X.prog X.w) X.A (eval b X.env) (fun u s₂ => wpAny (model X.prog X.w) X.A (f v u) Q X.xe s₂) X.xe s₁) X.xe s := by
  refine thn (ha pins s σ H _ I h) fun v s1 ⟨x, H1, I1, r1, q1⟩ => ?_
  refine thn (hb pins s1 σ H1 _ I1 q1) fun u s2 ⟨y, H2, I2, r2, q2⟩ => ?_
  exact hf v u s2 x y H2 I2 r1 r2 q2
theorem pe_op {op : Operator} {r : R2} (ho : OpR X (binaryOp op) r) (ha : PE X a ta) (hb : PE X b tb) : PE X (.BinOp a op b pos) (tOp r ta tb) := by
  intro pins s σ H Q I h
  exact wpAny_BinOp (binT ha hb I h fun v u s2 x y H2 I2 rx ry q => ho pins s2 σ H2 x y v u Q I2 rx ry q)
theorem pe_un {op : UnaryOp} {r : V → Hp → VK → Prop} (ho : UnR X (unaryOp op) r) (ha : PE X a ta) : PE X (.UnaryOp op a pos) (tUn r ta) := by
  intro pins s σ H Q I h
  exact UnaryOp_ (thn (ha pins s σ H _ I h) fun v s1 ⟨x, H1, I1, r1, q1⟩ => ho pins s1 σ H1 x v Q I1 r1 q1)
theorem opI {f : Value → Value → Sem Value} {C : Int → Int → Prop} {g : Int → Int → Int}
    (rule : ∀ (i j : Int) (t u : Tok) (s : Shared) (Q : Value → Shared → Prop) (E : Value → Shared → Prop), C i j → Q (.int (g i j) s.toks) { s with toks := s.toks + 1 } → wpAny (model X.prog X.w) X.A (f (.int i t) (.int j u)) Q E s) :
    OpR X f (rI C fun i j => .int (g i j)) := by
  intro pins s σ H x y v u Q I rx ry h
  obtain ⟨i, j, rfl, rfl, hc, q⟩ := h
  obtain ⟨t, rfl⟩ := rx
  obtain ⟨t', rfl⟩ := ry
  exact rule i j t t' s _ _ hc ⟨.int (g i j), H, I.tok _, ⟨_, rfl⟩, q⟩
theorem opI0 {f : Value → Value → Sem Value} {g : Int → Int → Int}
    (rule : ∀ (i j : Int) (t u : Tok) (s : Shared) (Q : Value → Shared → Prop) (E : Value → Shared → Prop), Q (.int (g i j) s.toks) { s with toks := s.toks + 1 } → wpAny (model X.prog X.w) X.A (f (.int i t) (.int j u)) Q E s) :
    OpR X f (rI0 fun i j => .int (g i j)) := by
  intro pins s σ H x y v u Q I rx ry h
  obtain ⟨i, j, rfl, rfl, q⟩ := h
  obtain ⟨t, rfl⟩ := rx
  obtain ⟨t', rfl⟩ := ry
  exact rule i j t t' s _ _ ⟨.int (g i j), H, I.tok _, ⟨_, rfl⟩, q⟩
theorem opB0 {f : Value → Value → Sem Value} {g : Int → Int → Bool}
    (rule : ∀ (i j : Int) (t u : Tok) (s : Shared) (Q : Value → Shared → Prop) (E : Value → Shared → Prop), Q (.bool (g i j)) s → wpAny (model X.prog X.w) X.A (f (.int i t) (.int j u)) Q E s) :
    OpR X f (rI0 fun i j => .bl (g i j)) := by
  intro pins s σ H x y v u Q I rx ry h
  obtain ⟨i, j, rfl, rfl, q⟩ := h
  obtain ⟨t, rfl⟩ := rx
  obtain ⟨t', rfl⟩ := ry
  exact rule i j t t' s _ _ ⟨.bl (g i j), H, I, rfl, q⟩
def CDiv (i j : Int) : Prop := 0 < j ∧ j < 1073741824
def CMul (i j : Int) : Prop := (-(2 ^ 64) < i ∧ i < 2 ^ 64) ∨ (-(2 ^ 64) < j ∧ j < 2 ^ 64)
theorem CMul.ok {i j : Int} (h : CMul i j) : IntMulOk i j := by
  rcases h with ⟨h1, h2⟩ | ⟨h1, h2⟩
  · exact .of_left (intBits_le_64 h1 h2)
  · exact .of_right (intBits_le_64 h1 h2)
theorem op_add : OpR X (binaryOp .Add) (rI0 fun i j => .int (i + j)) := opI0 fun _ _ _ _ _ _ _ q => add_int q
theorem op_sub : OpR X (binaryOp .Sub) (rI0 fun i j => .int (i - j)) := opI0 fun _ _ _ _ _ _ _ q => sub_int q
theorem op_mul : OpR X (binaryOp .Mult) (rI CMul fun i j => .int (i * j)) := opI fun _ _ _ _ _ _ _ hc q => mul_int q hc.ok
theorem op_fdiv : OpR X (binaryOp .FloorDiv) (rI CDiv fun i j => .int (i / j)) := opI fun i j _ _ _ _ _ hc q => by
  have h1 : (0 : Int) < j := hc.1
  have h2 : j < 1073741824 := hc.2
  exact floordiv_int (by omega) (by rw [Int.fdiv_eq_ediv_of_nonneg i (by omega)]; exact q) (.inl (PyProof.noPylong_small (by omega)))
theorem op_mod : OpR X (binaryOp .Mod) (rI (fun _ j => 0 < j) fun i j => .int (i % j)) := opI fun i j _ _ _ _ _ hc q => by
  have h1 : (0 : Int) < j := hc
  exact mod_int' (by omega) (by rw [Int.fmod_eq_emod_of_nonneg i (by omega)]; exact q)
theorem unI {f : Value → Sem Value} {g : Int → Int}
    (rule : ∀ (i : Int) (t : Tok) (s : Shared) (Q : Value → Shared → Prop) (E : Value → Shared → Prop), Q (.int (g i) s.toks) { s with toks := s.toks + 1 } → wpAny (model X.prog X.w) X.A (f (.int i t)) Q E s) :
    UnR X f (rU fun i => .int (g i)) := by
  intro pins s σ H x v Q I rx h
  obtain ⟨i, rfl, q⟩ := h
  obtain ⟨t, rfl⟩ := rx
  exact rule i t s _ _ ⟨.int (g i), H, I.tok _, ⟨_, rfl⟩, q⟩
theorem un_neg : UnR X (unaryOp .USub) (rU fun i => .int (-i)) := unI fun _ _ _ _ _ q => neg_int q
end
def scal : V → V → Bool
  | .non, .non => true | .non, .int _ => true | .int _, .non => true | .non, .bl _ => true | .bl _, .non => true | .non, .str _ => true | .str _, .non => true
  | .int _, .int _ => true | .bl _, .bl _ => true | .str _, .str _ => true | .byt _, .byt _ => true
  | .int _, .str _ => true | .str _, .int _ => true | .bl _, .str _ => true | .str _, .bl _ => true
  | _, _ => false
def rEq : R2 := fun x y H Q => scal x y = true ∧ Q (.bl (decide (x = y))) H
def rNe : R2 := fun x y H Q => scal x y = true ∧ Q (.bl (!decide (x = y))) H
theorem dec_int {i j : Int} : decide (V.int i = V.int j) = (i == j) := by
  rw [Bool.eq_iff_iff]
  simp
theorem dec_bl {i j : Bool} : decide (V.bl i = V.bl j) = (i == j) := by
  rw [Bool.eq_iff_iff]
  simp
theorem dec_str {i j : Str} : decide (V.str i = V.str j) = (i == j) := by
  rw [Bool.eq_iff_iff]
  simp
theorem dec_byt {i j : Array UInt8} : decide (V.byt i = V.byt j) = (i.toList == j.toList) := by
  rw [Bool.eq_iff_iff]
  cases i
  cases j
  simp
section
variable {X : Cx} {a b c : Expr} {ta tb tc : TE} {pos : Pos}
theorem fin_bl {pins : List (Addr × Obj)} {σ : St} {H : Hp} {s : Shared} {Q : VK} {k k' : Bool} (I : Inv X pins σ H s) (q : Q (.bl k) H) (e : k = k') : EP X pins σ Q (.bool k') s := by
  subst e
  exact ⟨.bl k, H, I, rfl, q⟩
theorem op_eq : OpR X (compareOp .Eq) rEq := by
  intro pins s σ H x y v u Q I rx ry h
  obtain ⟨hs, q⟩ := h
  cases x with
  | non =>
    cases rx
    cases y with
    | non => cases ry; exact PySem.EqNone.eq_none_none (fin_bl I q (by simp))
    | bl j => cases ry; exact PySem.EqNone.eq_none_bool (fin_bl I q (by simp))
    | int j => obtain ⟨t', rfl⟩ := ry; exact PySem.EqNone.eq_none_int (fin_bl I q (by simp))
    | str j => obtain ⟨t', rfl⟩ := ry; exact PySem.EqNone.eq_none_str (fin_bl I q (by simp))
    | _ => exact absurd (show false = true from hs) Bool.false_ne_true
  | bl i =>
    cases rx
    cases y with
    | non => cases ry; exact PySem.EqNone.eq_bool_none (fin_bl I q (by simp))
    | bl j => cases ry; exact eq_bool (fin_bl I q dec_bl)
    | str j => obtain ⟨t', rfl⟩ := ry; exact PySem.EqMixed.eq_bool_str (fin_bl I q (by simp))
    | _ => exact absurd (show false = true from hs) Bool.false_ne_true
  | int i =>
    obtain ⟨t, rfl⟩ := rx
    cases y with
    | non => cases ry; exact PySem.EqNone.eq_int_none (fin_bl I q (by simp))
    | int j => obtain ⟨t', rfl⟩ := ry; exact eq_int (fin_bl I q dec_int)
    | str j => obtain ⟨t', rfl⟩ := ry; exact PySem.EqMixed.eq_int_str (fin_bl I q (by simp))
    | _ => exact absurd (show false = true from hs) Bool.false_ne_true
  | str i =>
    obtain ⟨t, rfl⟩ := rx
    cases y with
    | non => cases ry; exact PySem.EqNone.eq_str_none (fin_bl I q (by simp))
    | bl j => cases ry; exact PySem.EqMixed.eq_str_bool (fin_bl I q (by simp))
    | int j => obtain ⟨t', rfl⟩ := ry; exact PySem.EqMixed.eq_str_int (fin_bl I q (by simp))
    | str j => obtain ⟨t', rfl⟩ := ry; exact eq_str (fin_bl I q dec_str)
    | _ => exact absurd (show false = true from hs) Bool.false_ne_true
  | byt i =>
    obtain ⟨t, rfl⟩ := rx
    cases y with
    | byt j => obtain ⟨t', rfl⟩ := ry; exact PySem.W.eq_bytes (fin_bl I q dec_byt)
    | _ => exact absurd (show false = true from hs) Bool.false_ne_true
  | _ => cases y <;> exact absurd (show false = true from hs) Bool.false_ne_true
theorem op_ne : OpR X (compareOp .NotEq) rNe := by
  intro pins s σ H x y v u Q I rx ry h
  obtain ⟨hs, q⟩ := h
  cases x with
  | non =>
    cases rx
    cases y with
    | non => cases ry; exact PySem.EqNone.ne_none_none (fin_bl I q (by simp))
    | bl j => cases ry; exact PySem.EqNone.ne_none_bool (fin_bl I q (by simp))
    | int j => obtain ⟨t', rfl⟩ := ry; exact PySem.EqNone.ne_none_int (fin_bl I q (by simp))
    | str j => obtain ⟨t', rfl⟩ := ry; exact PySem.EqNone.ne_none_str (fin_bl I q (by simp))
    | _ => exact absurd (show false = true from hs) Bool.false_ne_true
  | bl i =>
    cases rx
    cases y with
    | non => cases ry; exact PySem.EqNone.ne_bool_none (fin_bl I q (by simp))
    | bl j => cases ry; exact ne_bool (fin_bl I q (congrArg not dec_bl))
    | str j => obtain ⟨t', rfl⟩ := ry; exact PySem.EqMixed.ne_bool_str (fin_bl I q (by simp))
    | _ => exact absurd (show false = true from hs) Bool.false_ne_true
  | int i =>
    obtain ⟨t, rfl⟩ := rx
    cases y with
    | non => cases ry; exact PySem.EqNone.ne_int_none (fin_bl I q (by simp))
    | int j => obtain ⟨t', rfl⟩ := ry; exact ne_int (fin_bl I q (congrArg not dec_int))
    | str j => obtain ⟨t', rfl⟩ := ry; exact PySem.EqMixed.ne_int_str (fin_bl I q (by simp))
    | _ => exact absurd (show false = true from hs) Bool.false_ne_true
  | str i =>
    obtain ⟨t, rfl⟩ := rx
    cases y with
    | non => cases ry; exact PySem.EqNone.ne_str_none (fin_bl I q (by simp))
    | bl j => cases ry; exact PySem.EqMixed.ne_str_bool (fin_bl I q (by simp))
    | int j => obtain ⟨t', rfl⟩ := ry; exact PySem.EqMixed.ne_str_int (fin_bl I q (by simp))
    | str j => obtain ⟨t', rfl⟩ := ry; exact ne_str (fin_bl I q (congrArg not dec_str))
    | _ => exact absurd (show false = true from hs) Bool.false_ne_true
  | byt i =>
    obtain ⟨t, rfl⟩ := rx
    cases y with
    | byt j => obtain ⟨t', rfl⟩ := ry; exact PySem.W.ne_bytes (fin_bl I q (congrArg not dec_byt))
    | _ => exact absurd (show false = true from hs) Bool.false_ne_true
  | _ => cases y <;> exact absurd (show false = true from hs) Bool.false_ne_true
theorem op_lt : OpR X (compareOp .Lt) (rI0 fun i j => .bl (decide (i < j))) := opB0 fun _ _ _ _ _ _ _ q => lt_int q
theorem op_gt : OpR X (compareOp .Gt) (rI0 fun i j => .bl (decide (j < i))) := opB0 fun _ _ _ _ _ _ _ q => gt_int q
theorem op_ge : OpR X (compareOp .GtE) (rI0 fun i j => .bl (decide (j ≤ i))) := opB0 fun _ _ _ _ _ _ _ q => ge_int q
theorem op_isN : OpR X (compareOp .Is) (fun x y H Q => y = .non ∧ Q (.bl (decide (x = .non))) H) := by
  intro pins s σ H x y v u Q I rx ry h
  obtain ⟨rfl, q⟩ := h
  cases ry
  refine is_none_gen (fin_bl I q ?_)
  cases x <;> first
    | (cases rx; rfl)
    | (obtain ⟨t, rfl⟩ := rx; rfl)
theorem op_notN : OpR X (compareOp .IsNot) (fun x y H Q => y = .non ∧ Q (.bl (!decide (x = .non))) H) := by
  intro pins s σ H x y v u Q I rx ry h
  obtain ⟨rfl, q⟩ := h
  cases ry
  refine isnot_none_gen (fin_bl I q ?_)
  cases x <;> first
    | (cases rx; rfl)
    | (obtain ⟨t, rfl⟩ := rx; rfl)
theorem OpR.or {f : Value → Value → Sem Value} {r r' : R2} (h : OpR X f r) (h' : OpR X f r') : OpR X f (fun x y H Q => r x y H Q ∨ r' x y H Q) := by
  intro pins s σ H x y v u Q I rx ry q
  rcases q with q | q
  · exact h pins s σ H x y v u Q I rx ry q
  · exact h' pins s σ H x y v u Q I rx ry q
theorem nomark (b : Expr) {op : CmpOp} (h : op ≠ .In := by decide) (h2 : op ≠ .NotIn := by decide) : behindInMarks op b = false := by
  have e1 : (op == CmpOp.In) = false := by cases op <;> first | rfl | exact absurd rfl h
  have e2 : (op == CmpOp.NotIn) = false := by cases op <;> first | rfl | exact absurd rfl h2
  cases b <;> simp [behindInMarks, e1, e2]
theorem pe_cmpR {op : CmpOp} {r : R2} (ho : OpR X (compareOp op) r) (ha : PE X a ta) (hb : PE X b tb) (hm : behindInMarks op b = false) : PE X (.Compare a [op] [b] pos) (tOp r ta tb) := by
  intro pins s σ H Q I h
  exact wpAny_Compare1 (binT ha hb I h fun v u s2 x y H2 I2 rx ry q => ho pins s2 σ H2 x y v u Q I2 rx ry q) hm
def tTest (t : TE) : TT := fun σ H Q => t σ H fun x H' => ∃ k, x = .bl k ∧ Q k H'
theorem pt_cmpR {op : CmpOp} {r : R2} (ho : OpR X (compareOp op) r) (ha : PE X a ta) (hb : PE X b tb) (hm : behindInMarks op b = false) : PT X (.Compare a [op] [b] pos) (tTest (tOp r ta tb)) := by
  intro pins s σ H Q I h
  refine wpAny_isTrue_Compare1 (thn (ha pins s σ H _ I h) fun v s1 ⟨x, H1, I1, r1, q1⟩ => thn (hb pins s1 σ H1 _ I1 q1) fun u s2 ⟨y, H2, I2, r2, q2⟩ =>
    thn (ho pins s2 σ H2 x y v u _ I2 r1 r2 q2) fun c s3 ⟨z, H3, I3, r3, k, e, q3⟩ => ?_) hm
  subst e
  cases r3
  exact wpAny_truthy_bool ⟨H3, I3, q3⟩
def TruV (K : PySem.W.Frag) (x : V) (H : Hp) (k : Bool) : Prop :=
  match x with
  | .non => k = false
  | .bl b => k = b
  | .int i => k = (i != 0)
  | .str y => y.length ≤ sizeLine ∧ k = ((y.length : Int) != 0)
  | .byt y => y.size ≤ sizeLine ∧ k = ((y.size : Int) != 0)
  | .ref p => (∃ xs, SqL K H p xs ∧ k = !xs.isEmpty) ∨ (∃ xs, SqT K H p xs ∧ k = !xs.isEmpty) ∨ ∃ kvs, H p = some (.dK kvs) ∧ k = !kvs.isEmpty
  | _ => False
theorem isEmpty_kv {κ : Type} {kvs : List (κ × V)} {vs : List (κ × Value)} (r : KV kvs vs) : (!vs.isEmpty) = !kvs.isEmpty := by
  cases r <;> rfl
theorem isEmpty_of {xs : List V} {its : List Value} (r : Vals xs its) : (!its.toArray.isEmpty) = !xs.isEmpty := by
  cases r <;> simp
theorem line63 : (sizeLine : Nat) < 2 ^ 63 := by rw [sizeLine_eq]; decide
theorem tru_ok : TruR X (fun x H Q => ∃ k, TruV X.K x H k ∧ Q k H) := by
  intro pins s σ H x v Q I rx h
  obtain ⟨k, e, q⟩ := h
  have hl := line63
  have hs : sizeLine = 16777216 := sizeLine_eq
  cases x with
  | non =>
    cases rx
    have e' : k = false := e
    subst e'
    exact truthy_none ⟨H, I, q⟩
  | bl b =>
    cases rx
    have e' : k = b := e
    subst e'
    exact wpAny_truthy_bool ⟨H, I, q⟩
  | int i =>
    obtain ⟨t, rfl⟩ := rx
    have e' : k = (i != 0) := e
    subst e'
    exact PySem.P.truthy_int ⟨H, I, q⟩
  | str y =>
    obtain ⟨t, rfl⟩ := rx
    obtain ⟨hy, e'⟩ : y.length ≤ sizeLine ∧ k = ((y.length : Int) != 0) := e
    subst e'
    exact PySem.P.truthy_str (by omega) ⟨H, I.tok _, q⟩
  | byt y =>
    obtain ⟨t, rfl⟩ := rx
    obtain ⟨hy, e'⟩ : y.size ≤ sizeLine ∧ k = ((y.size : Int) != 0) := e
    subst e'
    exact PySem.W.truthy_bytes (by omega) ⟨H, I.tok _, q⟩
  | ref p =>
    cases rx
    have e' : (∃ xs, SqL X.K H p xs ∧ k = !xs.isEmpty) ∨ (∃ xs, SqT X.K H p xs ∧ k = !xs.isEmpty) ∨ ∃ kvs, H p = some (.dK kvs) ∧ k = !kvs.isEmpty := e
    rcases e' with ⟨xs, hx, e'⟩ | ⟨xs, hx, e'⟩ | ⟨kvs, hx, e'⟩
    · subst e'
      obtain ⟨its, r, pl, hz⟩ := I.list hx
      have hlen := r.length
      exact wpAny_truthy_list pl.isList (by simp only [List.size_toArray]; omega) ⟨H, I.tok _, by rw [isEmpty_of r]; exact q⟩
    · subst e'
      obtain ⟨its, r, pl, hz⟩ := I.tuple hx
      have hlen := r.length
      exact truthy_tuple pl (by simp only [List.size_toArray]; omega) ⟨H, I.tok _, by rw [isEmpty_of r]; exact q⟩
    · subst e'
      obtain ⟨hz, hS, vs, r, m⟩ : kvs.length ≤ sizeLine ∧ (p == sysModules) = false ∧ ∃ vs, KV kvs vs ∧ s.heap.DictOf (mixKind X.prog X.w) p vs := I.hok p _ hx
      have hlen : kvs.length = vs.length := Paired.length r
      exact wpAny_truthy_dict hS m (by omega) ⟨H, I.tok _, by rw [isEmpty_kv r]; exact q⟩
  | _ => exact (show False from e).elim
theorem pt_truth (ha : PE X a ta) (he : ∀ whole, isTrue a X.env whole = (do let v ← whole; standAt a.pos; holding [v] (truthy v))) :
    PT X a (fun σ H Q => ta σ H fun x H' => ∃ k, TruV X.K x H' k ∧ Q k H') := by
  intro pins s σ H Q I h
  exact isTrue_plain (thn (ha pins s σ H _ I h) fun v s1 ⟨x, H1, I1, r1, q1⟩ => tru_ok pins s1 σ H1 x v Q I1 r1 q1) (he _)
theorem vals1 {x : V} {us : List Value} (r : Vals [x] us) : ∃ u, us = [u] ∧ RelV x u := by
  cases r with
  | cons r1 r2 => cases r2; exact ⟨_, rfl, r1⟩
theorem vals2 {x y : V} {us : List Value} (r : Vals [x, y] us) : ∃ u w', us = [u, w'] ∧ RelV x u ∧ RelV y w' := by
  cases r with
  | cons r1 r2 =>
    cases r2 with
    | cons r3 r4 => cases r4; exact ⟨_, _, rfl, r1, r3⟩
theorem call_max2 (hc : X.calm = true) : CallR X (.builtin "max") (fun xs H Q => ∃ i j, xs = [.int i, .int j] ∧ Q (.int (if j > i then j else i)) H) := by
  intro pins s σ H xs us Q I r h
  obtain ⟨i, j, rfl, q⟩ := h
  obtain ⟨u, w', rfl, ⟨t, rfl⟩, ⟨t', rfl⟩⟩ := vals2 r
  refine max_two_ints (I.ok.hd hc) fun h' tk k => ⟨_, H, I.kept k, ?_, q⟩
  by_cases hj : j > i
  · rw [if_pos hj, if_pos hj]; exact ⟨_, rfl⟩
  · rw [if_neg hj, if_neg hj]; exact ⟨_, rfl⟩
end
end L2
namespace L2
open PySem PySem.Spec PyProof.Rows
structure ObjM (h : Heap) (x dx C : Addr) (mA : Str → Option Value) : Prop where
  obj : h.get? x = some (PySem.W.instObj C dx)
  ns : h.Ns1 dx mA
  ne : dx ≠ x
theorem lookIn_ns {h : Heap} {dx : Addr} {mA : Str → Option Value} (n : h.Ns1 dx mA) : ∃ od, h.get? dx = some od ∧ ∀ name, PySem.W.lookIn name od = some (mA name) := by
  obtain ⟨o, es, ep, ho, hd, hk, _, hm⟩ := n
  refine ⟨o, ho, fun name => ?_⟩
  have e := hm name
  unfold nsFind findBy at e
  rw [← Array.find?_toList] at e
  unfold PySem.W.lookIn
  rw [hd]
  dsimp only
  split
  · rename_i y q
    rw [q] at e
    exact congrArg some e
  · rename_i q
    rw [q] at e
    have a : es.toList.any (·.refKey) = false := by
      rw [List.any_eq_false]
      intro y hy
      obtain ⟨z, t, hkey⟩ := hk y (Array.mem_toList_iff.mp hy)
      simp [DictEntry.refKey, hkey]
    have a' : ¬ es.toList.any (·.refKey) = true := by rw [a]; exact Bool.false_ne_true
    rw [if_neg a']
    exact congrArg some e
theorem ObjM.look {h : Heap} {x dx C : Addr} {mA : Str → Option Value} (I : ObjM h x dx C mA) : ∃ od, PySem.W.InstAt h x (PySem.W.instObj C dx) C (some od) ∧ ∀ name, PySem.W.lookIn name od = some (mA name) :=
  let ⟨od, ho, hl⟩ := lookIn_ns I.ns
  ⟨od, ⟨I.obj, rfl, rfl, ho⟩, hl⟩
section
variable {prog : Program} {w : World} {A : Around} {E : Value → Shared → Prop} {s : Shared} {K : PySem.W.Frag} {x dx C f : Addr} {mA : Str → Option Value} {name : Str} {v : Value}
theorem get_map {expr : Bool} {Q : Value → Shared → Prop} (X : K.In s.heap) (I : ObjM s.heap x dx C mA) (hg : PySem.W.plainGet K C name = true) (hh : PySem.W.hasDictIn K C = true)
    (ha : PySem.W.findIn K (.ref C) name = some none) (hv : mA name = some v) (hv' : PySem.W.handedIn v = true) (h : Q v { s with toks := s.toks + 1 }) :
    wpAny (model prog w) A (getAttr (.ref x) name expr) Q E s := by
  obtain ⟨od, J, hl⟩ := I.look
  exact PySem.W.get_value X J (PySem.W.plainGet_of hg).1 (PySem.W.findObj_own hh ha rfl (by rw [hl, hv])) hv' h
theorem get_meth {pl : Sem Bool} {Q : Value × List Value → Shared → Prop} (X : K.In s.heap) (I : ObjM s.heap x dx C mA) (hg : PySem.W.plainGet K C name = true)
    (hf : PySem.W.findIn K (.ref C) name = some (some (.ref f))) (ht : PySem.W.isFn K (.ref f) = true) (hv : mA name = none) (h : Q (.ref f, [.ref x]) s) :
    wpAny (model prog w) A (getMethod (.ref x) name pl) Q E s := by
  obtain ⟨od, J, hl⟩ := I.look
  exact PySem.W.method_fn X J (PySem.W.plainGet_of hg).1 (PySem.W.plainGet_of hg).2 hf (beq_iff_eq.mp ht) (by show (PySem.W.lookIn name od).map (·.isSome) = some false; rw [hl, hv]; rfl) h
theorem set_map {ns : List Str} {Q : Unit → Shared → Prop} (X : K.In s.heap) (I : ObjM s.heap x dx C mA)
    (hs : PySem.W.findIn K (.ref C) "__setattr__" = some (some (.builtin "object.__setattr__"))) (hp : PySem.W.plainOver K C = true) (ht : PySem.W.takerIn K C name = some none) (hh : PySem.W.hasDictIn K C = true)
    (hw : PySem.Within mA ns) (hsz : ns.length ≤ sizeLine)
    (h : ∀ h', ObjM h' x dx C (fun y => if y = name then some v else mA y) → Heap.SameBut dx s.heap h' → Q () { s with heap := h', toks := s.toks + 2 }) :
    wpAny (model prog w) A (setAttr (.ref x) name v) Q E s := by
  obtain ⟨od, J, hl⟩ := I.look
  refine PySem.W.set_plain X J hs (PySem.W.osa_open (s := { s with toks := s.toks + 1 }) (r := none) X J hp ht fun b => ?_)
  obtain ⟨cd, hc, hd'⟩ := PySem.W.any_some hh
  have hx : s.heap.get? x = some ⟨.ref C, some dx, .plain, #[]⟩ := I.obj
  refine wpAny_bind (wpAny_pure (wpAny_bind (wpAny_bind (wpAny_loadPart hx (wpAny_bind (PySem.W.Looks.here (s := { s with toks := s.toks + 1 }) (PySem.W.looks_clsIn X hc) ?_))))))
  rw [hd']
  refine wpAny_pure (a := some dx) (wpAny_bind (wpAny_pure (wpAny_bind ?_)))
  refine wpAny_nsSet1 (s := { s with toks := s.toks + 1 }) I.ns fun h' hn2 hs2 => ?_
  obtain ⟨oD, esD, epD, hoD, hdD, hcD⟩ := hn2.count (PySem.Within.cons name v hw)
  refine wpAny_bind (wpAny_lookBehind hoD (by rw [hdD]; exact pastItsLine_dict (Nat.le_trans hcD (by rw [List.length_cons]; omega))) ?_)
  exact wpAny_pure (h _ ⟨(hs2.2 _ (Ne.symm I.ne)).trans I.obj, hn2, I.ne⟩ hs2)
theorem make_map {R : Result → Shared → Prop} {vs : List Value} {kw : List (Str × Value)} (X : K.In s.heap) (hm : PySem.W.makesIn K C = true)
    (hi : PySem.W.findIn K (.ref C) "__init__" = some (some (.ref f))) (hf : PySem.W.typeIn K (.ref f) = some (.type "function"))
    (h : codeAny (model prog w) (A.under (.builtin "type.__call__" ⟨.ref C :: vs, kw⟩)) (.call (.ref f) ⟨.ref (s.heap.objs.size + 1) :: vs, kw⟩) (PySem.W.InitBack (s.heap.objs.size + 1) R)
      { s with heap := (s.heap.push PySem.W.emptyDict).push (PySem.W.instObj C s.heap.objs.size) }) :
    codeAny (model prog w) A (.call (.ref C) ⟨vs, kw⟩) R s := by
  obtain ⟨hh, g, d, t, os⟩ := s
  exact PySem.W.make_core (PySem.W.makes_of X hm) (PySem.W.looks_findIn X hi) (fun self => PySem.W.bind_fn X self hf) (.inl rfl) h
end
def putF (f : Str) (v : V) : List (Str × V) → List (Str × V)
  | [] => [(f, v)]
  | (g, x) :: r => if g = f then (g, v) :: r else (g, x) :: putF f v r
theorem lookup_putF (f g : Str) (v : V) : ∀ fs : List (Str × V), (putF f v fs).lookup g = if g = f then some v else fs.lookup g
  | [] => by
    show List.lookup g [(f, v)] = _
    by_cases h : g = f
    · have hb : (g == f) = true := beq_iff_eq.mpr h
      simp only [List.lookup, hb, if_pos h]
    · have hb : (g == f) = false := beq_eq_false_iff_ne.mpr h
      simp only [List.lookup, hb, if_neg h]
  | (k, x) :: r => by
    have ih := lookup_putF f g v r
    rw [show putF f v ((k, x) :: r) = (if k = f then (k, v) :: r else (k, x) :: putF f v r) from rfl]
    by_cases hk : k = f
    · rw [if_pos hk]
      by_cases h : g = k
      · have hb : (g == k) = true := beq_iff_eq.mpr h
        simp only [List.lookup, hb, if_pos (h.trans hk)]
      · have hb : (g == k) = false := beq_eq_false_iff_ne.mpr h
        simp only [List.lookup, hb, if_neg (fun e : g = f => h (e.trans hk.symm))]
    · rw [if_neg hk]
      by_cases h : g = k
      · have hb : (g == k) = true := beq_iff_eq.mpr h
        simp only [List.lookup, hb, if_neg (fun e : g = f => hk (h.symm.trans e))]
      · have hb : (g == k) = false := beq_eq_false_iff_ne.mpr h
        simp only [List.lookup, hb]
        exact ih
theorem keys_putF (f : Str) (v : V) : ∀ fs : List (Str × V), f ∈ (putF f v fs).map (·.1) ∧ ∀ g, g ∈ fs.map (·.1) → g ∈ (putF f v fs).map (·.1)
  | [] => ⟨by simp [putF], fun g h => by simp at h⟩
  | (k, x) :: r => by
    obtain ⟨i1, i2⟩ := keys_putF f v r
    rw [show putF f v ((k, x) :: r) = (if k = f then (k, v) :: r else (k, x) :: putF f v r) from rfl]
    by_cases hk : k = f
    · rw [if_pos hk]
      subst hk
      exact ⟨by simp, fun g h => by simpa using h⟩
    · rw [if_neg hk]
      refine ⟨?_, fun g h => ?_⟩
      · rw [List.map_cons]
        exact List.mem_cons_of_mem _ i1
      · rw [List.map_cons] at h ⊢
        rcases List.mem_cons.mp h with e | e
        · exact List.mem_cons.mpr (.inl e)
        · exact List.mem_cons_of_mem _ (i2 g e)
theorem length_putF (f : Str) (v : V) : ∀ fs : List (Str × V), (putF f v fs).length ≤ fs.length + 1
  | [] => by simp [putF]
  | (k, x) :: r => by
    have ih := length_putF f v r
    rw [show putF f v ((k, x) :: r) = (if k = f then (k, v) :: r else (k, x) :: putF f v r) from rfl]
    by_cases hk : k = f
    · rw [if_pos hk, List.length_cons, List.length_cons]; omega
    · rw [if_neg hk, List.length_cons, List.length_cons]; omega
theorem RelO.some_of {v : V} {o : Option Value} (r : RelO (some v) o) : ∃ u, o = some u ∧ RelV v u := by
  cases o with
  | none => exact (show False from r).elim
  | some u => exact ⟨u, rfl, r⟩
theorem RelO.none_of {o : Option Value} (r : RelO none o) : o = none := by
  cases o with
  | none => rfl
  | some u => exact (show False from r).elim
theorem handed_of {v : V} {u : Value} (r : RelV v u) : PySem.W.handedIn u = true := by
  cases v with
  | non => cases (show u = Value.none from r); rfl
  | bl b => cases (show u = Value.bool b from r); rfl
  | int i => obtain ⟨t, e⟩ := (show ∃ t, u = Value.int i t from r); cases e; rfl
  | str x => obtain ⟨t, e⟩ := (show ∃ t, u = Value.str x t from r); cases e; rfl
  | byt b => obtain ⟨t, e⟩ := (show ∃ t, u = Value.bytes b t from r); cases e; rfl
  | flt b => obtain ⟨t, e⟩ := (show ∃ t, u = Value.float b t from r); cases e; rfl
  | ref a => cases (show u = Value.ref a from r); rfl
  | ty n => cases (show u = Value.type n from r); rfl
section
variable {P : Program} {w : World} {H H' : Hp} {h h' : Heap} {a C dx : Addr} {fs fs' : List (Str × V)}
theorem ins_get (hok : HOk P w H h) (e : H a = some (.ins C dx fs)) : ∃ mA, ObjM h a dx C mA ∧ (∀ f, RelO (fs.lookup f) (mA f)) ∧ PySem.Within mA (fs.map (·.1)) ∧ fs.length ≤ 1000 ∧ H dx = some (.own a) := by
  obtain ⟨d, z, ne, ob, mA, n, r, q⟩ := (show ObjOk P w H h a (.ins C dx fs) from hok a _ e)
  exact ⟨mA, ⟨ob, n, ne⟩, r, q, z, d⟩
end
structure Cls (K : PySem.W.Frag) (C : Addr) : Prop where
  pg : PySem.W.plainGet K C Str.empty = true
  hd : PySem.W.hasDictIn K C = true
  po : PySem.W.plainOver K C = true
  sa : PySem.W.findIn K (.ref C) "__setattr__" = some (some (.builtin "object.__setattr__"))
theorem Cls.get {K : PySem.W.Frag} {C : Addr} (c : Cls K C) (f : Str) : PySem.W.plainGet K C f = true := c.pg
def NoAttr (K : PySem.W.Frag) (C : Addr) (f : Str) : Prop := PySem.W.findIn K (.ref C) f = some none
theorem NoAttr.taker {K : PySem.W.Frag} {C : Addr} {f : Str} (n : NoAttr K C f) : PySem.W.takerIn K C f = some none := by
  unfold PySem.W.takerIn
  rw [show PySem.W.findIn K (.ref C) f = some none from n]
  rfl
structure Con (K : PySem.W.Frag) (C : Addr) (f : Str) (v : V) (u : Value) : Prop where
  at_ : PySem.W.findIn K (.ref C) f = some (some u)
  rel : RelV v u
  get : PySem.W.specialIn K u "__get__" = some none
  cp : PySem.W.copiedNames.contains f = false
structure Meth (K : PySem.W.Frag) (C : Addr) (m : Str) (f : Addr) : Prop where
  at_ : PySem.W.findIn K (.ref C) m = some (some (.ref f))
  fn : PySem.W.isFn K (.ref f) = true
  kp : PySem.W.keepIn K (.ref f) = true
section
variable {X : Cx} {pins : List (Addr × Obj)} {σ : St} {H : Hp} {s : Shared} {a C dx : Addr} {fs : List (Str × V)} {f : Str} {v : V} {A : Around} {E : Value → Shared → Prop}
theorem getattr_ok {b : Bool} {Q : Value → Shared → Prop} (I : Inv X pins σ H s) (e : H a = some (.ins C dx fs)) (c : Cls X.K C) (n : NoAttr X.K C f) (l : fs.lookup f = some v)
    (h : ∀ u s', Inv X pins σ H s' → RelV v u → Q u s') : wpAny (model X.prog X.w) A (getAttr (.ref a) f b) Q E s := by
  obtain ⟨mA, O, r, _, _, _⟩ := ins_get I.hok e
  obtain ⟨u, hu, ru⟩ := RelO.some_of (v := v) (o := mA f) (by rw [← l]; exact r f)
  exact get_map I.kIn O (c.get f) c.hd n hu (handed_of ru) (h u _ (I.tok _) ru)
theorem getmeth_ok {m : Str} {g : Addr} {pl : Sem Bool} {Q : Value × List Value → Shared → Prop} (I : Inv X pins σ H s) (e : H a = some (.ins C dx fs)) (c : Cls X.K C) (k : Meth X.K C m g) (l : fs.lookup m = none)
    (h : Q (.ref g, [.ref a]) s) : wpAny (model X.prog X.w) A (getMethod (.ref a) m pl) Q E s := by
  obtain ⟨mA, O, r, _, _, _⟩ := ins_get I.hok e
  have hn : mA m = none := RelO.none_of (by rw [← l]; exact r m)
  exact get_meth I.kIn O (c.get m) k.at_ k.fn hn h
theorem setattr_ok {y : V} {u : Value} {Q : Unit → Shared → Prop} (I : Inv X pins σ H s) (e : H a = some (.ins C dx fs)) (c : Cls X.K C) (n : NoAttr X.K C f) (hl : fs.length < 1000) (ry : RelV y u)
    (h : ∀ s', Inv X pins σ (upd H a (.ins C dx (putF f y fs))) s' → Q () s') : wpAny (model X.prog X.w) A (setAttr (.ref a) f u) Q E s := by
  obtain ⟨mA, O, r, wi, _, ho⟩ := ins_get I.hok e
  have hz : (fs.map (·.1)).length ≤ sizeLine := by rw [List.length_map, sizeLine_eq]; omega
  refine set_map I.kIn O c.sa c.po n.taker c.hd wi hz fun h' O' sb => h _ ?_
  have hd : ∃ o, h'.get? dx = some o := let ⟨o, _, _, e', _⟩ := O'.ns; ⟨o, e'⟩
  refine I.write (x := a) (e := dx) (by rw [e]; exact True.intro) (.inr ho) (fun b q hb z => (sb.2 b hb).trans z) hd ?_
  refine ⟨by rw [upd_ne O.ne]; exact ho, ?_, O.ne, O'.obj, _, O'.ns, fun g => ?_, fun g hg => ?_⟩
  · have := length_putF f y fs; omega
  · show RelO ((putF f y fs).lookup g) (if g = f then some u else mA g)
    rw [lookup_putF]
    by_cases q : g = f
    · rw [if_pos q, if_pos q]; exact ry
    · rw [if_neg q, if_neg q]; exact r g
  · by_cases q : g = f
    · rw [q]; exact (keys_putF f y fs).1
    · refine (keys_putF f y fs).2 g (wi g fun z => hg ?_)
      show (if g = f then some u else mA g) = none
      rw [if_neg q]; exact z
theorem Inv.made (I : Inv X pins σ H s) : Inv X pins σ (upd (upd H s.heap.objs.size (.own (s.heap.objs.size + 1))) (s.heap.objs.size + 1) (.ins C s.heap.objs.size []))
    { s with heap := (s.heap.push PySem.W.emptyDict).push (PySem.W.instObj C s.heap.objs.size) } := by
  have e1 : (s.heap.push PySem.W.emptyDict).get? s.heap.objs.size = some PySem.W.emptyDict := Heap.get?_push_size s.heap rfl
  have e2 : ((s.heap.push PySem.W.emptyDict).push (PySem.W.instObj C s.heap.objs.size)).get? (s.heap.objs.size + 1) = some (PySem.W.instObj C s.heap.objs.size) := by
    have := Heap.get?_push_size (s.heap.push PySem.W.emptyDict) (o := PySem.W.instObj C s.heap.objs.size) rfl
    rwa [Heap.size_push] at this
  have e3 : (s.heap.push PySem.W.emptyDict).Ns s.heap.objs.size (fun _ => none) := ⟨PySem.W.emptyDict, #[], _, e1, rfl, (fun e he => absurd he (by simp)), fun _ => rfl⟩
  have I1 := I.laid (a := s.heap.objs.size) (o := .own (s.heap.objs.size + 1)) (h' := s.heap.push PySem.W.emptyDict) (t' := s.toks) (fun b u q => Heap.get?_push_of_some _ q) (Nat.le_refl _) ⟨_, e1⟩
  refine I1.laid (a := s.heap.objs.size + 1) (o := .ins C s.heap.objs.size []) (t' := s.toks) (fun b u q => Heap.get?_push_of_some _ q) (Nat.le_of_eq (Heap.size_push _ _)) ?_
  have ne : s.heap.objs.size ≠ s.heap.objs.size + 1 := Nat.ne_of_lt (Nat.lt_succ_self _)
  refine ⟨by rw [upd_ne ne, upd_same], Nat.zero_le _, ne, e2, fun _ => none, (Heap.Ns1.of_empty e3).at fun o q => Heap.get?_push_of_some _ q, fun _ => True.intro, fun y hy => absurd rfl hy⟩
theorem attr_of {prog : Program} {w : World} {env : Env} {e : Expr} {f : Str} {pos : Pos} {s : Shared} {Q : Value → Shared → Prop} (hb : attributeBase e f env (eval e env) = eval e env)
    (h : wpAny (model prog w) A (eval e env) (fun o s₁ => wpAny (model prog w) A (getAttr o f true) Q E s₁) E s) : wpAny (model prog w) A (eval (.Attribute e f pos) env) Q E s :=
  Attribute_any_ h (by rw [arm_eval_Attribute, hb])
end
def tFld (K : PySem.W.Frag) (ta : TE) (f : Str) : TE := fun σ H Q => ta σ H fun x H1 => ∃ a C dx fs v, x = .ref a ∧ H1 a = some (.ins C dx fs) ∧ Cls K C ∧ NoAttr K C f ∧ fs.lookup f = some v ∧ Q v H1
def sFld (K : PySem.W.Frag) (ta tv : TE) (f : Str) : TS := fun D σ H => tv σ H fun y H1 => ta σ H1 fun x H2 => ∃ a C dx fs, x = .ref a ∧ H2 a = some (.ins C dx fs) ∧ Cls K C ∧ NoAttr K C f ∧ fs.length < 1000 ∧
  D.nx σ (upd H2 a (.ins C dx (putF f y fs)))
section
variable {X : Cx} {o e value : Expr} {f : Str} {pos pos' tpos : Pos} {ta tv : TE}
theorem pe_fld (he : PE X e ta) (hb : attributeBase e f X.env (eval e X.env) = eval e X.env) : PE X (.Attribute e f pos) (tFld X.K ta f) := by
  intro pins s σ H Q I h
  refine attr_of hb (thn (he pins s σ H _ I h) fun u s1 ⟨x, H1, I1, rx, a, C, dx, fs, v, ex, ea, c, n, l, q⟩ => ?_)
  subst ex
  obtain rfl : u = Value.ref a := rx
  exact getattr_ok I1 ea c n l fun u' s2 I2 ru => ⟨v, H1, I2, ru, q⟩
theorem ps_fld (ha : PE X o ta) (hv : PE X value tv) (hs : swapsWith value (some (.Attribute o f pos')) pos.line X.env = pure false) : PS X (.Assign [.Attribute o f pos'] value pos) (sFld X.K ta tv f) := by
  intro pins s σ H D I h
  refine plainObj_wpAny_Assign_Attribute (thn (hv pins s σ H _ I h) fun u s1 ⟨y, H1, I1, ry, q⟩ => thn (ha pins s1 σ H1 _ I1 q) fun ov s2 ⟨x, H2, I2, rx, a, C, dx, fs, ex, ea, c, n, l, q2⟩ => ?_) hs
  subst ex
  obtain rfl : ov = Value.ref a := rx
  exact setattr_ok I2 ea c n l ry fun s3 I3 => ⟨σ, _, I3, q2⟩
end
section
variable {X : Cx} {pins : List (Addr × Obj)} {σ : St} {H : Hp} {s : Shared} {A : Around} {E : Value → Shared → Prop} {Q : Value → Shared → Prop} {c : Value} {b : Bool}
inductive TyOf (K : PySem.W.Frag) (H : Hp) : V → Value → Prop where
  | non : TyOf K H .non (.type "NoneType")
  | bl (x : Bool) : TyOf K H (.bl x) (.type "bool")
  | int (i : Int) : TyOf K H (.int i) (.type "int")
  | str (x : Str) : TyOf K H (.str x) (.type "str")
  | flt (x : UInt64) : TyOf K H (.flt x) (.type "float")
  | lst {a : Addr} {xs : List V} (e : H a = some (.lst xs)) : TyOf K H (.ref a) (.type "list")
  | frz {a : Addr} {o : Obj} {xs : List V} (e : H a = some (.frz o (.lst xs))) : TyOf K H (.ref a) (.type "list")
  | tup {a : Addr} {xs : List V} (e : H a = some (.tup xs)) : TyOf K H (.ref a) (.type "tuple")
  | dK {a : Addr} {kvs : List (Key × V)} (e : H a = some (.dK kvs)) : TyOf K H (.ref a) (.type "dict")
  | dT {a : Addr} {kvs : List (List Key × V)} (e : H a = some (.dT kvs)) : TyOf K H (.ref a) (.type "dict")
  | ins {a C dx : Addr} {fs : List (Str × V)} (e : H a = some (.ins C dx fs)) (cl : Cls K C) (ha : PySem.W.findIn K (.ref C) "__class__" = some (some (.builtin "object.__class__")))
      (hn : PySem.W.specialIn K (.builtin "object.__class__") "__get__" = some (some (.builtin "getset_descriptor.__get__"))) (htk : PySem.W.takesIn K (.builtin "object.__class__") = some true)
      (hm : PySem.W.mroIn K C (.type "object") = some true) : TyOf K H (.ref a) (.ref C)
theorem isinst_ok {x : V} {u t : Value} (I : Inv X pins σ H s) (rx : RelV x u) (ty : TyOf X.K H x t) (e : PySem.W.kitOne X.K t c = some b) (h : ∀ tk, Q (.bool b) { s with toks := tk }) :
    wpAny (model X.prog X.w) A (call (.builtin "isinstance") [u, c]) Q E s := by
  cases ty with
  | non => cases (show u = Value.none from rx); exact PySem.W.kia_one PySem.W.kitx_none I.kIn True.intro e (fun z => nomatch z) h
  | bl y => cases (show u = Value.bool y from rx); exact PySem.W.kia_one PySem.W.kitx_bool I.kIn True.intro e (fun z => nomatch z) h
  | int i => obtain ⟨t, q⟩ := (show ∃ t, u = Value.int i t from rx); cases q; exact PySem.W.kia_one PySem.W.kitx_int I.kIn True.intro e (fun z => nomatch z) h
  | str y => obtain ⟨t, q⟩ := (show ∃ t, u = Value.str y t from rx); cases q; exact PySem.W.kia_one PySem.W.kitx_str I.kIn True.intro e (fun z => nomatch z) h
  | flt y => obtain ⟨t, q⟩ := (show ∃ t, u = Value.float y t from rx); cases q; exact PySem.W.kia_one PySem.W.kitx_float I.kIn True.intro e (fun z => nomatch z) h
  | @lst a xs ea =>
    cases (show u = Value.ref a from rx)
    obtain ⟨_, _, n, _, h1⟩ := (show ObjOk X.prog X.w H s.heap a (.lst xs) from I.hok a _ ea)
    exact PySem.W.kia_one PySem.W.kitx_list I.kIn ⟨_, h1, rfl⟩ e (fun z => nomatch z) h
  | @frz a ob xs ea =>
    cases (show u = Value.ref a from rx)
    obtain ⟨_, _, _, n, _, h1⟩ := (show ObjOk X.prog X.w H s.heap a (.frz ob (.lst xs)) from I.hok a _ ea)
    exact PySem.W.kia_one PySem.W.kitx_list I.kIn ⟨_, h1, rfl⟩ e (fun z => nomatch z) h
  | @tup a xs ea =>
    cases (show u = Value.ref a from rx)
    obtain ⟨_, _, _, p, _⟩ := (show ObjOk X.prog X.w H s.heap a (.tup xs) from I.hok a _ ea)
    obtain ⟨o, h1, h2, _⟩ := p
    exact PySem.W.kia_one PySem.W.kitx_tuple I.kIn ⟨o, h1, h2⟩ e (fun z => nomatch z) h
  | @dK a kvs ea =>
    cases (show u = Value.ref a from rx)
    obtain ⟨_, _, vs, _, p⟩ := (show ObjOk X.prog X.w H s.heap a (.dK kvs) from I.hok a _ ea)
    obtain ⟨o, es, ep, h1, h2, _⟩ := p
    exact PySem.W.kia_one PySem.W.kitx_dict I.kIn ⟨o, h1, h2.1⟩ e (fun z => nomatch z) h
  | @dT a kvs ea =>
    cases (show u = Value.ref a from rx)
    obtain ⟨_, _, xs, _, o, es, ep, h1, h2, _⟩ := (show ObjOk X.prog X.w H s.heap a (.dT kvs) from I.hok a _ ea)
    exact PySem.W.kia_one PySem.W.kitx_dict I.kIn ⟨o, h1, h2.1⟩ e (fun z => nomatch z) h
  | @ins a C dx fs ea cl ha hn htk hm =>
    cases (show u = Value.ref a from rx)
    obtain ⟨mA, O, _⟩ := ins_get I.hok ea
    obtain ⟨od, J, _⟩ := O.look
    exact PySem.W.kia_one (PySem.W.kitx_own (cl.get _) cl.hd ha hn htk hm) I.kIn J e (fun z => nomatch z) h
end
end L2
namespace L2
open PySem PySem.Spec PyProof.Rows
structure Room (k : Nat) (A : Around) : Prop where
  hd : A.handled = none
  dp : A.depth + 3 * k + 5 < recursionLimit
  un : A.units + 16 * k + 200 < cLine
theorem Room.mono {j k : Nat} {A : Around} (r : Room k A) (h : j ≤ k) : Room j A := ⟨r.hd, by have := r.dp; omega, by have := r.un; omega⟩
theorem Room.deeper {k : Nat} {A : Around} (r : Room (k + 1) A) (env : Env) : Room k (A.deeper env) :=
  ⟨r.hd, by have := r.dp; show A.depth + 1 + 3 * k + 5 < _; omega, by have := r.un; show A.units + 3 + 16 * k + 200 < _; omega⟩
theorem Room.in1 {k : Nat} {A : Around} (r : Room (k + 1) A) : Room k A.in1 :=
  ⟨r.hd, by have := r.dp; show A.depth + 3 * k + 5 < _; omega, by have := r.un; show A.units + 1 + 16 * k + 200 < _; omega⟩
theorem make_depth {A : Around} {C : Addr} {us : List Value} {kw : List (Str × Value)} : (A.under (.builtin "type.__call__" ⟨.ref C :: us, kw⟩)).depth = A.depth + 1 := by
  first | rfl | simp [Around.under, Code.weight, Code.isCreation, Code.isGuard, Code.isCaller, Code.frames, Code.isFrame, guardIds]
theorem make_units {A : Around} {C : Addr} {us : List Value} {kw : List (Str × Value)} : (A.under (.builtin "type.__call__" ⟨.ref C :: us, kw⟩)).units = A.units + 1 := by
  first | rfl | simp [Around.under, Code.cUnits, Code.frames, Code.isFrame]
theorem Room.make {k : Nat} {A : Around} (r : Room (k + 1) A) (C : Addr) (us : List Value) (kw : List (Str × Value)) : Room k (A.under (.builtin "type.__call__" ⟨.ref C :: us, kw⟩)) :=
  ⟨r.hd, by have := r.dp; rw [make_depth]; omega, by have := r.un; rw [make_units]; omega⟩
theorem Room.depth {k : Nat} {A : Around} (r : Room k A) : A.depth < recursionLimit := by have := r.dp; omega
theorem Room.units {k : Nat} {A : Around} (r : Room k A) : A.units + 64 < cLine := by have := r.un; omega
def tNil : TA := fun _ H Q => Q [] H
def tCons (ta : TE) (tr : TA) : TA := fun σ H Q => ta σ H fun x H1 => tr σ H1 fun xs H2 => Q (x :: xs) H2
section
variable {X : Cx} {e : Expr} {es : List Expr} {te : TE} {t : TA} {pos : Pos}
theorem pa_nil : PA X [] tNil := fun _ _ _ _ H Q I h => Calls.spliced_nil ⟨[], H, I, .nil, h⟩
theorem pa_cons (ha : PE X e te) (hr : PA X es t) (hs : starEach (e :: es) X.env = (false, eval e X.env) :: starEach es X.env := by rfl) : PA X (e :: es) (tCons te t) := by
  intro pos pins s σ H Q I h
  rw [hs]
  show wpAny _ _ (spliced ((false, eval e X.env) :: backTo pos (starEach es X.env))) _ _ s
  refine Calls.spliced_cons (thn (ha pins s σ H _ I h) fun u s1 ⟨x, H1, I1, r1, q1⟩ => ?_)
  exact thn (hr pos pins s1 σ H1 _ I1 q1) fun us s2 ⟨xs, H2, I2, r2, q2⟩ => ⟨x :: xs, H2, I2, .cons r1 r2, q2⟩
def tTup (t : TA) : TE := fun σ H Q => t σ H fun xs H1 => xs.length ≤ sizeLine ∧ ∀ p, H1 p = none → Q (.ref p) (upd H1 p (.tup xs))
def tLst (t : TA) : TE := fun σ H Q => t σ H fun xs H1 => xs.length ≤ sizeLine ∧ ∀ p, H1 p = none → Q (.ref p) (upd H1 p (.lst xs))
theorem pe_tup {x1} (h : PA X es t) : PE X (.Tuple es x1 pos) (tTup t) := by
  intro pins s σ H Q I hq
  refine wpAny_Tuple_spliced (thn (h pos pins s σ H _ I hq) fun us s1 ⟨xs, H1, I1, r, z, q⟩ => ⟨by rw [← r.length]; exact z, ?_⟩)
  have hf : H1 s1.heap.objs.size = none := I1.hok.fresh (Nat.le_refl _)
  refine ⟨.ref s1.heap.objs.size, upd H1 s1.heap.objs.size (.tup xs), I1.laid (t' := s1.toks) (fun b u e => Heap.get?_push_of_some _ e) (Nat.le_refl _) ?_, rfl, q _ hf⟩
  exact ⟨z, us, r, ⟨_, Heap.get?_push_size _ rfl, rfl, _, rfl⟩, _, Heap.get?_push_size _ rfl, rfl⟩
theorem pe_lst (h : PA X es t) : PE X (.List es pos) (tLst t) := by
  intro pins s σ H Q I hq
  refine wpAny_List_spliced (thn (h pos pins s σ H _ I hq) fun us s1 ⟨xs, H1, I1, r, z, q⟩ => ⟨by rw [← r.length]; exact z, ?_⟩)
  have hf : H1 s1.heap.objs.size = none := I1.hok.fresh (Nat.le_refl _)
  refine ⟨.ref s1.heap.objs.size, upd H1 s1.heap.objs.size (.lst xs), I1.laid (t' := s1.toks) (fun b u e => Heap.get?_push_of_some _ e) (Nat.le_refl _) ?_, rfl, q _ hf⟩
  exact ⟨z, us, 0, r, Heap.get?_push_size _ rfl⟩
end
abbrev Sp := List V → Hp → VK → XK → Prop
abbrev CXT := List Env → Hp → Shared → XK → Value → Shared → Prop
structure Env0 (P : Program) (w : World) (K : PySem.W.Frag) (mg : Str → Option Value) (base : Heap) (A : Around) (outer : List Env) (s : Shared) (H : Hp) : Prop where
  frames : A.frames = some outer
  mod : Mod K mg base
  bs : ∀ b o, base.get? b = some o → s.heap.get? b = some o ∧ H b = none
  bsz : base.objs.size ≤ s.heap.objs.size
  funs : s.heap.FunFrames base outer
  frf : ∀ b ∈ frs outer, H b = none
  hok : HOk P w H s.heap
  bare : AllBare s.gens
def CE (outer : List Env) (P : Program) (w : World) (H : Hp) (s : Shared) (Q : VK) (u : Value) (s' : Shared) : Prop :=
  ∃ v H', s'.os = s.os ∧ AllBare s'.gens ∧ Un (frs outer) [] H H' s.heap s'.heap ∧ HOk P w H' s'.heap ∧ RelV v u ∧ Q v H'
def CR (CX : CXT) (outer : List Env) (P : Program) (w : World) (H : Hp) (s : Shared) (Q : VK) (E : XK) (r : Result) (s' : Shared) : Prop :=
  match r with
  | .ok (.ret u) => CE outer P w H s Q u s'
  | .ok _ => False
  | .error e => CX outer H s E e s'
structure FnOk (P : Program) (w : World) (K : PySem.W.Frag) (mg : Str → Option Value) (base : Heap) (CX : CXT) (k : Nat) (f : Addr) (fd : FuncData) (ps : List Str) (sp : Sp) : Prop where
  len : ∀ vs H Q E, sp vs H Q E → vs.length = ps.length
  run : ∀ (A : Around) (outer : List Env) (s : Shared) (H : Hp) (args : Args) (us : List Value) (vs : List V) (Q : VK) (E : XK), Room k A → Env0 P w K mg base A outer s H → BindsTo s fd args (ps.zip us) → Vals vs us → sp vs H Q E →
    codeAny (model P w) A (.call (.ref f) args) (CR CX outer P w H s Q E) s
theorem FnOk.mono {P : Program} {w : World} {K : PySem.W.Frag} {mg : Str → Option Value} {base : Heap} {CX : CXT} {j k : Nat} {f : Addr} {fd : FuncData} {ps : List Str} {sp : Sp} (F : FnOk P w K mg base CX j f fd ps sp) (h : j ≤ k) :
    FnOk P w K mg base CX k f fd ps sp := ⟨F.len, fun A outer s H args us vs Q E hr => F.run A outer s H args us vs Q E (hr.mono h)⟩
theorem FnOk.imp {P : Program} {w : World} {K : PySem.W.Frag} {mg : Str → Option Value} {base : Heap} {CX : CXT} {k : Nat} {f : Addr} {fd : FuncData} {ps : List Str} {sp sp' : Sp} (F : FnOk P w K mg base CX k f fd ps sp)
    (h : ∀ vs H Q E, sp' vs H Q E → sp vs H Q E) : FnOk P w K mg base CX k f fd ps sp' :=
  ⟨fun vs H Q E q => F.len vs H Q E (h _ _ _ _ q), fun A outer s H args us vs Q E hr he hb hv hs => F.run A outer s H args us vs Q E hr he hb hv (h _ _ _ _ hs)⟩
theorem Env0.make {P : Program} {w : World} {K : PySem.W.Frag} {mg : Str → Option Value} {base : Heap} {A : Around} {outer : List Env} {s : Shared} {H : Hp} (e : Env0 P w K mg base A outer s H) (C : Addr) (us : List Value) (kw : List (Str × Value)) :
    Env0 P w K mg base (A.under (.builtin "type.__call__" ⟨.ref C :: us, kw⟩)) outer s H := ⟨by first | exact e.frames | (simpa [Around.under, Code.envs, Code.isFrame, pushEnvs] using e.frames), e.mod, e.bs, e.bsz, e.funs, e.frf, e.hok, e.bare⟩
theorem Env0.in1 {P : Program} {w : World} {K : PySem.W.Frag} {mg : Str → Option Value} {base : Heap} {A : Around} {outer : List Env} {s : Shared} {H : Hp} (e : Env0 P w K mg base A outer s H) :
    Env0 P w K mg base A.in1 outer s H := ⟨e.frames, e.mod, e.bs, e.bsz, e.funs, e.frf, e.hok, e.bare⟩
section
variable {X : Cx} {pins : List (Addr × Obj)} {σ : St} {H : Hp} {s s' : Shared}
theorem Inv.env0 (I : Inv X pins σ H s) : Env0 X.prog X.w X.K X.mg X.base X.A X.stack s H :=
  ⟨I.ok.frames, I.ok.mod, I.bs, Nat.le_trans I.ok.bsz I.sz, I.stack, I.stkFree, I.hok, I.bare⟩
theorem Inv.after {Q : VK} {u : Value} (I : Inv X pins σ H s) (h : CE X.stack X.prog X.w H s Q u s') : EP X pins σ Q u s' := by
  obtain ⟨v, H', os, bare, un, hok, r, q⟩ := h
  obtain ⟨hh, g, d, t, os'⟩ := s'
  obtain rfl : os' = s.os := os
  exact ⟨v, H', I.call (h' := hh) (g' := g) (d' := d) (t' := t) (ch := []) un hok bare (fun b z => absurd z (by simp)), r, q⟩
end
def tCall (sp : Sp) (dvs : List V) (E : XK) (t : TA) : TE := fun σ H Q => t σ H fun vs H1 => sp (vs ++ dvs) H1 Q E
def tMeth (C : Addr) (m : Str) (sp : Sp) (dvs : List V) (E : XK) (ta : TE) (t : TA) : TE := fun σ H Q => ta σ H fun x H1 => ∃ a dx fs, x = .ref a ∧ H1 a = some (.ins C dx fs) ∧ fs.lookup m = none ∧
  t σ H1 fun vs H2 => sp (x :: (vs ++ dvs)) H2 Q E
def tMake (C : Addr) (sp : Sp) (dvs : List V) (E : XK) (t : TA) : TE := fun σ H Q => t σ H fun vs H1 => ∀ x dx, H1 x = none → H1 dx = none → dx ≠ x →
  sp (.ref x :: (vs ++ dvs)) (upd (upd H1 dx (.own x)) x (.ins C dx [])) (fun v H2 => v = .non ∧ Q (.ref x) H2) E
def Binds (K : PySem.W.Frag) (fd : FuncData) (ps : List Str) (ds : List Value) : Prop :=
  ∀ (s : Shared) (us : List Value), K.In s.heap → (us ++ ds).length = ps.length → BindsTo s fd ⟨us, []⟩ (ps.zip (us ++ ds))
theorem Binds.all {K : PySem.W.Frag} {fd : FuncData} {ps : List Str} (h : ∀ us : List Value, us.length = ps.length → bindArgs fd ⟨us, []⟩ = pure (ps.zip us)) : Binds K fd ps [] := fun s us _ hl => by
  rw [List.append_nil] at hl ⊢
  exact .of_eq (h us hl)
def Passes (CX : CXT) (X : Cx) (E : XK) : Prop := ∀ (pins : List (Addr × Obj)) (σ : St) (H : Hp) (s : Shared) (e : Value) (s' : Shared), Inv X pins σ H s → CX X.stack H s E e s' → X.xe e s'
section
variable {X : Cx} {CX : CXT} {k : Nat} {f C : Addr} {fd : FuncData} {ps : List Str} {sp : Sp} {dvs : List V} {ds : List Value} {E : XK} {x m : Str} {p pos apos : Pos} {e o : Expr} {es : List Expr} {ta : TE} {t : TA}
theorem run_fn {pins : List (Addr × Obj)} {σ : St} {H : Hp} {s : Shared} {Q : VK} {us : List Value} {vs : List V} (F : FnOk X.prog X.w X.K X.mg X.base CX k f fd ps sp) (hr : Room k X.A) (hb : Binds X.K fd ps ds) (hd : Vals dvs ds) (hx : Passes CX X E)
    (I : Inv X pins σ H s) (r : Vals vs us) (h : sp (vs ++ dvs) H Q E) : wpAny (model X.prog X.w) X.A (call (.ref f) us) (EP X pins σ Q) X.xe s := by
  have r2 : Vals (vs ++ dvs) (us ++ ds) := r.append hd
  have hl : (us ++ ds).length = ps.length := by rw [← r2.length]; exact F.len _ _ _ _ h
  refine wpAny_call (codeAny_mono (F.run X.A X.stack s H ⟨us, []⟩ (us ++ ds) (vs ++ dvs) Q E hr I.env0 (hb s us I.kIn hl) r2 h) fun r s' hq => ?_)
  cases r with
  | error e => exact hx pins σ H s e s' I hq
  | ok fl =>
    cases fl with
    | ret u => exact I.after hq
    | next => exact False.elim hq
    | brk => exact False.elim hq
    | cont => exact False.elim hq
theorem pe_call (F : FnOk X.prog X.w X.K X.mg X.base CX k f fd ps sp) (hr : Room k X.A) (hg : Gl X x) (hm : X.mg x = some (.ref f)) (hk : PySem.W.keepIn X.K (.ref f) = true) (hb : Binds X.K fd ps ds) (hd : Vals dvs ds) (hx : Passes CX X E)
    (ha : PA X (e :: es) t) (hdb : (x == ("__debug__" : Str)) = false := by decide) (he : starEach (e :: es) X.env = (false, eval e X.env) :: starEach es X.env := by rfl) (hpl : (backTo pos (starEach es X.env)).any (·.1) = false := by rfl) :
    PE X (.Call (.Name x p) (e :: es) [] pos) (tCall sp dvs E t) := by
  intro pins s σ H Q I h
  refine wpAny_Call_Name_kw (ld_glob I hg hm ?_ hdb)
  refine PySem.W.callWith_K (h₀ := X.base) I.ok.mod.kin hk (thn (ha pos pins s σ H _ I h) fun us s1 ⟨vs, H1, I1, r, q⟩ => ⟨I1.kIn, ?_⟩) he hpl
  exact run_fn F hr hb hd hx I1 r q
theorem pe_meth0 {pl : Sem Bool} (he : PE X o ta) (c : Cls X.K C) (hm : Meth X.K C m f) (F : FnOk X.prog X.w X.K X.mg X.base CX k f fd ps sp) (hr : Room k X.A) (hb : Binds X.K fd ps ds) (hd : Vals dvs ds) (hx : Passes CX X E)
    (ht : eval (.Call (.Attribute o m apos) [] [] pos) X.env = (do
      let ov ← eval o X.env
      standAt apos.atName
      let (f, first) ← holding [ov] (getMethod ov m pl)
      callWith pos f first (backTo pos (starEach [] X.env)) (backToKw pos (keywordEach [] X.env))) := by rfl) :
    PE X (.Call (.Attribute o m apos) [] [] pos) (tMeth C m sp dvs E ta tNil) := by
  intro pins s σ H Q I h
  refine PySem.W.methodCall_KW (pl := pl) (thn (he pins s σ H _ I h) fun u s1 ⟨x, H1, I1, rx, a, dx, fs, ex, ea, l, q⟩ => ?_) ht
  subst ex
  obtain rfl : u = Value.ref a := rx
  refine getmeth_ok I1 ea c hm l ?_
  exact PySem.W.callWith_K0 (first := [.ref a]) I1.kIn hm.kp (run_fn (us := [.ref a]) (vs := [.ref a]) F hr hb hd hx I1 (.cons rfl .nil) q)
structure Mk (K : PySem.W.Frag) (C f : Addr) : Prop where
  makes : PySem.W.makesIn K C = true
  init : PySem.W.findIn K (.ref C) "__init__" = some (some (.ref f))
  fn : PySem.W.isFn K (.ref f) = true
  kp : PySem.W.keepIn K (.ref C) = true
theorem run_make {pins : List (Addr × Obj)} {σ : St} {H : Hp} {s : Shared} {Q : VK} {us : List Value} {vs : List V} (M : Mk X.K C f) (F : FnOk X.prog X.w X.K X.mg X.base CX k f fd ps sp) (hr : Room (k + 1) X.A) (hb : Binds X.K fd ps ds) (hd : Vals dvs ds)
    (hx : Passes CX X E) (I : Inv X pins σ H s) (r : Vals vs us)
    (h : ∀ x dx, H x = none → H dx = none → dx ≠ x → sp (.ref x :: (vs ++ dvs)) (upd (upd H dx (.own x)) x (.ins C dx [])) (fun v H2 => v = .non ∧ Q (.ref x) H2) E) :
    wpAny (model X.prog X.w) X.A (call (.ref C) us) (EP X pins σ Q) X.xe s := by
  have hq := h (s.heap.objs.size + 1) s.heap.objs.size (I.hok.fresh (Nat.le_succ _)) (I.hok.fresh (Nat.le_refl _)) (Nat.ne_of_lt (Nat.lt_succ_self _))
  have I2 := Inv.made (C := C) I
  have r2 : Vals (V.ref (s.heap.objs.size + 1) :: (vs ++ dvs)) (Value.ref (s.heap.objs.size + 1) :: (us ++ ds)) := .cons rfl (r.append hd)
  have hl : (Value.ref (s.heap.objs.size + 1) :: us ++ ds).length = ps.length := by
    have e := r2.length
    rw [F.len _ _ _ _ hq] at e
    exact e.symm
  refine wpAny_call (make_map (f := f) I.kIn M.makes M.init (beq_iff_eq.mp M.fn) (codeAny_mono (F.run _ X.stack _ _ ⟨Value.ref (s.heap.objs.size + 1) :: us, []⟩ (Value.ref (s.heap.objs.size + 1) :: (us ++ ds)) _ _ E (hr.make C us [])
    (I2.env0.make C us []) (hb _ (Value.ref (s.heap.objs.size + 1) :: us) I2.kIn hl) r2 hq) fun r s' hq' => ?_))
  cases r with
  | error e => exact hx pins σ _ _ e s' I2 hq'
  | ok fl =>
    cases fl with
    | ret u =>
      obtain ⟨v, H', I3, rv, ev, q3⟩ := I2.after hq'
      subst ev
      exact ⟨rv, ⟨V.ref (s.heap.objs.size + 1), H', I3, rfl, q3⟩⟩
    | next => exact False.elim hq'
    | brk => exact False.elim hq'
    | cont => exact False.elim hq'
theorem pe_make (M : Mk X.K C f) (F : FnOk X.prog X.w X.K X.mg X.base CX k f fd ps sp) (hr : Room (k + 1) X.A) (hg : Gl X x) (hm : X.mg x = some (.ref C)) (hb : Binds X.K fd ps ds) (hd : Vals dvs ds) (hx : Passes CX X E)
    (ha : PA X (e :: es) t) (hdb : (x == ("__debug__" : Str)) = false := by decide) (he : starEach (e :: es) X.env = (false, eval e X.env) :: starEach es X.env := by rfl) (hpl : (backTo pos (starEach es X.env)).any (·.1) = false := by rfl) :
    PE X (.Call (.Name x p) (e :: es) [] pos) (tMake C sp dvs E t) := by
  intro pins s σ H Q I h
  refine wpAny_Call_Name_kw (ld_glob I hg hm ?_ hdb)
  refine PySem.W.callWith_K (h₀ := X.base) I.ok.mod.kin M.kp (thn (ha pos pins s σ H _ I h) fun us s1 ⟨vs, H1, I1, r, q⟩ => ⟨I1.kIn, ?_⟩) he hpl
  exact run_make M F hr hb hd hx I1 r q
end
section
variable {X : Cx} {CX : CXT} {k : Nat} {f C : Addr} {fd : FuncData} {ps ks : List Str} {sp : Sp} {E : XK} {x m : Str} {p pos apos kpos : Pos} {e o : Expr} {es : List Expr} {kws : List Keyword} {te ta : TE} {t tk : TA} {nm : Option Str}
structure KBinds (K : PySem.W.Frag) (fd : FuncData) (ps ks : List Str) (g : List Value → List Value → List Value) (gV : List V → List V → List V) : Prop where
  to : ∀ (s : Shared) (us ws : List Value), K.In s.heap → (g us ws).length = ps.length → BindsTo s fd ⟨us, ks.zip ws⟩ (ps.zip (g us ws))
  rel : ∀ {vs : List V} {us : List Value} {zs : List V} {ws : List Value}, Vals vs us → Vals zs ws → Vals (gV vs zs) (g us ws)
variable {g : List Value → List Value → List Value} {gV : List V → List V → List V}
end
structure FnScope (N P : List Str) (sc : Scope) : Prop where
  kind : sc.kind = .function
  co : sc.isCoroutine = false
  gen : sc.isGenerator = false
  nd : N.Nodup
  pre : N.take P.length = P
  par : ∀ x ∈ P, sc.names.lookup x = some .local ∨ sc.names.lookup x = some .cell
  nofree : ∀ y ∈ sc.names, y.2 ≠ .free
theorem bindL_out {kindOf : Str → Option NameKind} {x : Str} : ∀ {binds : List (Str × Value)} {m : Str → Option Value}, (∀ v, (x, v) ∉ binds) → bindL kindOf binds m x = m x
  | [], _, _ => rfl
  | (n, v) :: r, m, h => by
    unfold bindL
    rw [bindL_out fun w hw => h w (List.mem_cons_of_mem _ hw)]
    split
    · have : x ≠ n := by rintro rfl; exact h v List.mem_cons_self
      simp [this]
    · rfl
theorem bindC_out {kindOf : Str → Option NameKind} {x : Str} : ∀ {binds : List (Str × Value)} {m : Str → Option Value}, (∀ v, (x, v) ∉ binds) → bindC kindOf binds m x = m x
  | [], _, _ => rfl
  | (n, v) :: r, m, h => by
    unfold bindC
    rw [bindC_out fun w hw => h w (List.mem_cons_of_mem _ hw)]
    split
    · rfl
    · have : x ≠ n := by rintro rfl; exact h v List.mem_cons_self
      simp [this]
theorem bindL_get {kindOf : Str → Option NameKind} {x : Str} {v : Value} : ∀ {P : List Str} {vs : List Value} {i : Nat} {m : Str → Option Value}, P.Nodup → P[i]? = some x → vs[i]? = some v → kindOf x = some .local →
    bindL kindOf (P.zip vs) m x = some v
  | [], _, _, _, _, h, _, _ => by simp at h
  | _ :: _, [], _, _, _, _, h, _ => by simp at h
  | p :: P, w :: vs, 0, m, nd, h1, h2, hk => by
    simp at h1 h2; subst h1; subst h2
    show bindL kindOf ((p, w) :: P.zip vs) m p = _
    unfold bindL
    rw [bindL_out fun v hv => (List.nodup_cons.mp nd).1 (List.of_mem_zip hv).1, if_pos hk]
    simp
  | p :: P, w :: vs, i + 1, m, nd, h1, h2, hk => by
    show bindL kindOf ((p, w) :: P.zip vs) m x = _
    unfold bindL
    exact bindL_get (i := i) (List.nodup_cons.mp nd).2 (by simpa using h1) (by simpa using h2) hk
theorem bindC_get {kindOf : Str → Option NameKind} {x : Str} {v : Value} : ∀ {P : List Str} {vs : List Value} {i : Nat} {m : Str → Option Value}, P.Nodup → P[i]? = some x → vs[i]? = some v → kindOf x ≠ some .local →
    bindC kindOf (P.zip vs) m x = some v
  | [], _, _, _, _, h, _, _ => by simp at h
  | _ :: _, [], _, _, _, _, h, _ => by simp at h
  | p :: P, w :: vs, 0, m, nd, h1, h2, hk => by
    simp at h1 h2; subst h1; subst h2
    show bindC kindOf ((p, w) :: P.zip vs) m p = _
    unfold bindC
    rw [bindC_out fun v hv => (List.nodup_cons.mp nd).1 (List.of_mem_zip hv).1, if_neg hk]
    simp
  | p :: P, w :: vs, i + 1, m, nd, h1, h2, hk => by
    show bindC kindOf ((p, w) :: P.zip vs) m x = _
    unfold bindC
    exact bindC_get (i := i) (List.nodup_cons.mp nd).2 (by simpa using h1) (by simpa using h2) hk
def start (N : List Str) (vs : List V) : St := vs.map some ++ List.replicate (N.length - vs.length) none
def cxOf (CX : CXT) (P : Program) (w : World) (K : PySem.W.Frag) (mg : Str → Option Value) (base : Heap) (N : List Str) (qual : Str) (scope : Scope) (f : Addr) (cd : Value) (A : Around) (outer : List Env) (s : Shared) (H : Hp) (E : XK) : Cx where
  prog := P
  w := w
  K := K
  mg := mg
  base := base
  A := A.deeper (envOfC qual scope s.heap.objs.size f cd)
  N := N
  s₀ := s
  H₀ := H
  env := envOfC qual scope s.heap.objs.size f cd
  outer := outer
  stack := envOfC qual scope s.heap.objs.size f cd :: outer
  ex := []
  calm := true
  fn := fun _ => true
  pn := []
  xe := fun e s' => wpAny (model P w) (A.deeper (envOfC qual scope s.heap.objs.size f cd)) (leaving (envOfC qual scope s.heap.objs.size f cd) e) (fun _ s'' => CX outer H s E e s'') (fun e' s'' => CX outer H s E e' s'') s'
theorem cell_has {sc : Scope} {n : Nat} {x : Str} (h : sc.names.lookup x = some .cell) : ∃ c, (cellsFrom n sc.names []).lookup x = some c := by
  have q := PySem.W.cellsFrom_some sc.names n [] (.inl h)
  exact Option.isSome_iff_exists.mp q
theorem inv_start {CX : CXT} {P : Program} {w : World} {K : PySem.W.Frag} {mg : Str → Option Value} {base : Heap} {N ps : List Str} {qual : Str} {scope : Scope} {f : Addr} {cd : Value} {A : Around} {outer : List Env} {s s1 : Shared} {H : Hp} {E : XK} {us : List Value} {vs : List V}
    (S : FnScope N ps scope) (hd : A.handled = none) (e0 : Env0 P w K mg base A outer s H) (hl : vs.length = ps.length) (r : Vals vs us)
    (x : InCallC s s.heap.objs.size (bindL (envOfC qual scope s.heap.objs.size f cd).kindOf (ps.zip us) fun _ => none) (cellsFrom (s.heap.objs.size + 1) scope.names []) (bindC (envOfC qual scope s.heap.objs.size f cd).kindOf (ps.zip us) fun _ => none) s1) :
    Inv (cxOf CX P w K mg base N qual scope f cd A outer s H E) [] (start N vs) H s1 := by
  have hpl : ps.length ≤ N.length := by have := congrArg List.length S.pre; rw [List.length_take] at this; omega
  obtain ⟨h1, tk, rfl, hk⟩ := x.done
  have noA : ∀ b : Addr, b ∉ (cxOf CX P w K mg base N qual scope f cd A outer s H E).ex := fun b z => absurd (show b ∈ ([] : List Addr) from z) (by simp)
  refine ⟨⟨e0.mod, S.kind, rfl, rfl, Nat.le_refl _, fun y z c h1 h2 => ?_, fun y hy => ?_, fun y c _ h => ?_, fun _ => hd, Around.frames_deeper e0.frames, .inr ⟨rfl, rfl⟩, fun b z => absurd z (noA b), e0.bs, e0.bsz, fun b _ _ => noA b, fun b z => absurd z (noA b), e0.funs, e0.frf⟩,
    rfl, e0.bare, Un.kept hk, ⟨_, x.toInCall.ns, fun i y v h1 h2 h3 => ?_⟩, fun y c h => ⟨_, x.cell y c h⟩, e0.hok.fresh (Nat.le_refl _), fun y c h => ?_, fun p hp => absurd (show p ∈ ([] : List (Addr × Obj)) from hp) (by simp), e0.hok.kept hk, ?_⟩
  · exact name_of_addr x.apart (PySem.mem_of_lookup h1) (PySem.mem_of_lookup h2)
  · have hy : scope.names.lookup y = some .cell ∨ scope.names.lookup y = some .free := hy
    rcases hy with hy | hy
    · exact cell_has hy
    · exact absurd rfl (S.nofree _ (PySem.mem_of_lookup hy))
  · exact Nat.le_of_lt (x.above y c (PySem.mem_of_lookup h))
  · have hi : i < vs.length := by
      unfold start at h2
      by_cases hi : i < vs.length
      · exact hi
      · rw [List.getElem?_append_right (by simpa using hi)] at h2
        rw [List.getElem?_replicate] at h2
        split at h2 <;> cases h2
    have ha : vs[i]? = some v := by
      unfold start at h2
      rw [List.getElem?_append_left (by simpa using hi), List.getElem?_map] at h2
      cases e : vs[i]? with
      | none => rw [e] at h2; cases h2
      | some a => rw [e] at h2; cases h2; rfl
    obtain ⟨u, hu, rv⟩ := r.get ha
    have hp : ps[i]? = some y := by
      rw [← S.pre, List.getElem?_take_of_lt (by omega)]; exact h1
    have ndP : ps.Nodup := by rw [← S.pre]; exact S.nd.sublist (List.take_sublist _ _)
    refine ⟨u, rv, ?_⟩
    rcases S.par y (List.mem_of_getElem? hp) with k | k
    · exact .inl ⟨k, bindL_get ndP hp hu k⟩
    · obtain ⟨c, e⟩ := cell_has (n := s.heap.objs.size + 1) k
      refine .inr ⟨.inl k, c, e, ?_⟩
      have q := x.cell y c e
      rw [bindC_get ndP hp hu (by show scope.names.lookup y ≠ _; rw [k]; decide)] at q
      exact q
  · exact e0.hok.fresh (Nat.le_of_lt (x.above y c (PySem.mem_of_lookup h)))
  · unfold start
    show _ = N.length
    rw [List.length_append, List.length_map, List.length_replicate]
    omega
theorem fn_of {CX : CXT} {P : Program} {w : World} {K : PySem.W.Frag} {mg : Str → Option Value} {base : Heap} {k : Nat} {f : Addr} {name qual : Str} {params : Arguments} {body : List Stmt} {scope : Scope} {dV kV doc pm cdv ct oc : Value} {an od : Option Addr}
    {osl : Array (Option Value)} {N ps : List Str} {sp : Sp} (lk : K.lookup f = some ⟨oc, od, .func (PySem.W.fnOf name qual params body scope dV kV doc pm an cdv ct), osl⟩) (hcd : PySem.W.codeIn K cdv qual = true) (S : FnScope N ps scope)
    (len : ∀ vs H Q E, sp vs H Q E → vs.length = ps.length)
    (hbody : ∀ (A : Around) (outer : List Env) (s : Shared) (H : Hp) (vs : List V) (Q : VK) (E : XK), Room k (A.deeper (envOfC qual scope s.heap.objs.size f cdv)) → sp vs H Q E →
      ∃ t, PSs (cxOf CX P w K mg base N qual scope f cdv A outer s H E) body t ∧ t { nx := fun _ H' => Q .non H', rt := Q } (start N vs) H) :
    FnOk P w K mg base CX (k + 1) f (PySem.W.fnOf name qual params body scope dV kV doc pm an cdv ct) ps sp := by
  refine ⟨len, fun A outer s H args us vs Q E hr e0 hb r hsp => ?_⟩
  have hl := len _ _ _ _ hsp
  have KX : K.In s.heap := e0.mod.kin.keeps fun b o e => (e0.bs b o e).1
  have lim : s.heap.NoLimit := e0.mod.nolimit.keeps fun b o e => (e0.bs b o e).1
  have hkind : ∀ y ∈ ps.zip us, scope.names.lookup y.1 = some .local ∨ (scope.names.lookup y.1 = some .cell ∧ ((cellsFrom (s.heap.objs.size + 1) scope.names []).lookup y.1).isSome = true) := fun ⟨n, v⟩ hy => by
    rcases S.par n (List.of_mem_zip hy).1 with q | q
    · exact .inl q
    · exact .inr ⟨q, PySem.W.cellsFrom_some _ _ _ (.inl q)⟩
  refine codeAny_call_function hr.depth (KX _ _ lk) rfl S.co S.gen rfl (PySem.W.codeRec_of KX hcd) (hb _ _ _ _ ?_)
  refine wpAny_newFunctionEnv_cells S.kind hkind fun env he s1 x => ?_
  subst he
  refine ⟨lim.keeps x.toInCall.keep, codeAny_func ?_⟩
  obtain ⟨t, ht, hq⟩ := hbody A outer s H vs Q E (hr.deeper _) hsp
  have I : Inv (cxOf CX P w K mg base N qual scope f cdv A outer s H E) [] (start N vs) H s1 := inv_start S hr.hd e0 hl r x
  refine wpAny_mono (ht [] s1 (start N vs) H _ I hq) (fun fl s' hs => ?_) fun e s' hs => hs
  have fin : ∀ {σ' : St} {H' : Hp} {v : V} {u : Value}, Inv (cxOf CX P w K mg base N qual scope f cdv A outer s H E) [] σ' H' s' → RelV v u → Q v H' → CE outer P w H s Q u s' :=
    fun {σ' H' v u} J rv q => ⟨v, H', J.os, J.bare, J.base, J.hok, rv, q⟩
  cases fl with
  | ret u =>
    obtain ⟨v, σ', H', J, rv, q⟩ := hs
    exact fin J rv q
  | next =>
    obtain ⟨σ', H', J, q⟩ := hs
    exact fin (v := V.non) (u := Value.none) J rfl q
  | brk =>
    obtain ⟨_, _, _, q⟩ := hs
    exact False.elim q
  | cont =>
    obtain ⟨_, _, _, q⟩ := hs
    exact False.elim q
end L2
namespace L2
open PySem PySem.Spec PyProof.Rows
section
variable {X : Cx} {x : Str} {p pos : Pos} {e : Expr} {es : List Expr} {t : TA} {id T : String} {r : List V → Hp → VK → Prop}
def tCB (r : List V → Hp → VK → Prop) (t : TA) : TE := fun σ H Q => t σ H fun vs H1 => r vs H1 Q
theorem pe_callB (hc : CallR X (.builtin id) r) (hg : Gl X x) (hm : X.mg x = none) (hv : bootBuiltins x = some (.builtin id)) (ha : PA X (e :: es) t) (hn : x ≠ "__name__" := by decide) (hdb : (x == ("__debug__" : Str)) = false := by decide)
    (he : starEach (e :: es) X.env = (false, eval e X.env) :: starEach es X.env := by rfl) (hpl : (backTo pos (starEach es X.env)).any (·.1) = false := by rfl) : PE X (.Call (.Name x p) (e :: es) [] pos) (tCB r t) := by
  intro pins s σ H Q I h
  refine wpAny_Call_Name_kw (ld_blt I hg hm hv ?_ hn hdb)
  exact PyProof.Rows.callWith_builtin1 (thn (ha pos pins s σ H _ I h) fun us s1 ⟨vs, H1, I1, r1, q1⟩ => hc pins s1 σ H1 vs us Q I1 r1 q1) he hpl
theorem pe_callTy (hc : CallR X (.type T) r) (hg : Gl X x) (hm : X.mg x = none) (hv : bootBuiltins x = some (.type T)) (ha : PA X (e :: es) t) (hn : x ≠ "__name__" := by decide) (hdb : (x == ("__debug__" : Str)) = false := by decide)
    (he : starEach (e :: es) X.env = (false, eval e X.env) :: starEach es X.env := by rfl) (hpl : (backTo pos (starEach es X.env)).any (·.1) = false := by rfl) : PE X (.Call (.Name x p) (e :: es) [] pos) (tCB r t) := by
  intro pins s σ H Q I h
  refine wpAny_Call_Name_kw (ld_blt I hg hm hv ?_ hn hdb)
  exact PyProof.Rows.callWith_type1 (thn (ha pos pins s σ H _ I h) fun us s1 ⟨vs, H1, I1, r1, q1⟩ => hc pins s1 σ H1 vs us Q I1 r1 q1) he hpl
end
end L2
namespace HT
open PySem PyProof.Rows
section
open PySem.SeqAt
open PySem.AutoSeq1 (wpAny_loadPart')
open PySem.MeetsSeq PySem.MeetsSeq2 PySem.MeetsSeq3
end
section
variable {prog : Program} {w : World} {A : Around} {E : Value → Shared → Prop} {s : Shared}
theorem cat_tup {t b : Addr} {vs ws : List Value} {Q : Value → Shared → Prop} (ht : IsTup s.heap t vs.toArray) (hb : IsTup s.heap b ws.toArray) (hv : vs ≠ [])
    (h1 : ws = [] → Q (.ref t) s) (h2 : ws ≠ [] → Q (.ref s.heap.objs.size) { s with heap := s.heap.push { cls := .type "tuple", data := .seq (vs ++ ws).toArray } })
    (hsz : vs.length + ws.length ≤ sizeLine) : wpAny (model prog w) A (binaryOp .Add (.ref t) (.ref b)) Q E s := by
  obtain ⟨⟨cls, dd, data, sl⟩, ho, hc, n, hd⟩ := id ht
  obtain ⟨⟨cls2, dd2, data2, sl2⟩, ho2, hc2, n2, hd2⟩ := id hb
  simp only at hc hd hc2 hd2
  subst hc hd hc2 hd2
  have e : vs.toArray ++ ws.toArray = (vs ++ ws).toArray := by simp
  by_cases hw : ws = []
  · exact concat_meets ⟨_, ho, rfl⟩ ⟨_, ho2, rfl⟩ noFill_tuple_add seq_tuple_add PySem.F.slot_tuple_add PySem.F.entry_tuple_add (PySem.F.args_tuple_add_2 _ _)
      (tuple_addW1 t b vs.toArray ws.toArray n n2 dd dd2 sl sl2 (by simpa using hv) (by simp [hw])) ⟨ho, ho2, h1 hw⟩
  · refine concat_meets ⟨_, ho, rfl⟩ ⟨_, ho2, rfl⟩ noFill_tuple_add seq_tuple_add PySem.F.slot_tuple_add PySem.F.entry_tuple_add (PySem.F.args_tuple_add_2 _ _)
      (tuple_addW2 t b vs.toArray ws.toArray n n2 dd dd2 sl sl2 (by simpa using hv) (by simpa using hw) (by rw [List.size_toArray, List.size_toArray]; exact hsz)) ⟨ho, ho2, ?_⟩
    rw [e]
    exact h2 hw
end
end HT
namespace L2
open PySem PySem.Spec PyProof.Rows
abbrev TO := St → Hp → (Option Int → Hp → Prop) → Prop
def PO (X : Cx) (e : Option Expr) (t : TO) : Prop :=
  ∀ (pins : List (Addr × Obj)) (s : Shared) (σ : St) (H : Hp) (Q : Option Int → Hp → Prop), Inv X pins σ H s → t σ H Q →
    wpAny (model X.prog X.w) X.A (evalPart e X.env) (fun u s' => ∃ o H', Inv X pins σ H' s' ∧ IsPart u o ∧ Q o H') X.xe s
def tNoPart : TO := fun _ H Q => Q none H
def tPart (t : TE) : TO := fun σ H Q => t σ H fun x H1 => ∃ i, x = .int i ∧ Q (some i) H1
theorem intsAre_of {ns : List Int} : ∀ {us : List Value}, Vals (ns.map V.int) us → IntsAre us ns := by
  induction ns with
  | nil => intro us r; rw [List.map_nil] at r; cases r; exact .nil
  | cons n ns ih =>
    intro us r
    rw [List.map_cons] at r
    cases r with
    | cons r1 r2 =>
      obtain ⟨t, e⟩ := r1
      subst e
      exact .cons n t (ih r2)
section
variable {X : Cx} {e : Expr} {te : TE} {lo hi : Option Expr} {tl th : TO} {pos p2 : Pos}
theorem po_none : PO X none tNoPart := by
  intro pins s σ H Q I h
  rw [evalPart_none]
  exact wpAny_pure ⟨none, H, I, .none, h⟩
theorem po_some (h : PE X e te) : PO X (some e) (tPart te) := by
  intro pins s σ H Q I hw
  rw [evalPart_some]
  refine thn (h pins s σ H _ I hw) fun u s1 ⟨x, H1, I1, r1, q1⟩ => ?_
  obtain ⟨i, rfl, q⟩ := q1
  obtain ⟨t, rfl⟩ := r1
  exact ⟨some i, H1, I1, .int i t, q⟩
def SlR (X : Cx) (r : V → Option Int → Option Int → Hp → VK → Prop) : Prop :=
  ∀ (pins : List (Addr × Obj)) (s : Shared) (σ : St) (H : Hp) (x : V) (v vl vu : Value) (lo hi : Option Int) (sl : Addr) (Q : VK), Inv X pins σ H s → RelV x v → s.heap.IsSliceOf sl vl vu .none → IsPart vl lo → IsPart vu hi → r x lo hi H Q →
    ∃ T id, typeLookup (.type T) "__getitem__" = pure (some (.builtin id)) ∧ s.TypeIs v T ∧ wpAny (model X.prog X.w) X.A (getItem v (.ref sl)) (EP X pins σ Q) X.xe s
theorem SlR.or {r r' : V → Option Int → Option Int → Hp → VK → Prop} (h : SlR X r) (h' : SlR X r') : SlR X (fun x lo hi H Q => r x lo hi H Q ∨ r' x lo hi H Q) := by
  intro pins s σ H x v vl vu lo hi sl Q I rx hs pl pu q
  rcases q with q | q
  · exact h pins s σ H x v vl vu lo hi sl Q I rx hs pl pu q
  · exact h' pins s σ H x v vl vu lo hi sl Q I rx hs pl pu q
def rCatT (K : PySem.W.Frag) : R2 := fun x y H Q => ∃ a b xs ys, x = .ref a ∧ y = .ref b ∧ SqT K H a xs ∧ SqT K H b ys ∧ xs ≠ [] ∧ xs.length + ys.length ≤ sizeLine ∧
  (ys = [] → Q (.ref a) H) ∧ (ys ≠ [] → ∀ p, H p = none → Q (.ref p) (upd H p (.tup (xs ++ ys))))
theorem Vals.nil_iff {xs : List V} {us : List Value} (r : Vals xs us) : us = [] ↔ xs = [] := by
  cases r with
  | nil => simp
  | cons _ _ => simp
theorem op_catT : OpR X (binaryOp .Add) (rCatT X.K) := by
  intro pins s σ H x y v u Q I rx ry h
  obtain ⟨a, b, xs, ys, rfl, rfl, ha, hb, hx, hz, q1, q2⟩ := h
  cases rx
  cases ry
  obtain ⟨its, r1, p1, _⟩ := I.tuple ha
  obtain ⟨its2, r2, p2, _⟩ := I.tuple hb
  refine HT.cat_tup p1 p2 (fun z => hx (r1.nil_iff.mp z)) (fun z => ⟨.ref a, H, I, rfl, q1 (r2.nil_iff.mp z)⟩) (fun z => ?_) (by rw [← r1.length, ← r2.length]; exact hz)
  refine ⟨.ref s.heap.objs.size, _, I.laid (t' := s.toks) (o := .tup (xs ++ ys)) (fun b ob q => Heap.get?_push_of_some _ q) (Nat.le_refl _) ?_, rfl, q2 (fun w => z (r2.nil_iff.mpr w)) _ (I.hok.fresh (Nat.le_refl _))⟩
  exact ⟨by rw [List.length_append]; exact hz, _, r1.append r2, IsTup.new _ _, _, Heap.get?_push_size _ rfl, rfl⟩
end
end L2
namespace L2
open PySem PySem.Spec PyProof.Rows
def ixN (n : Nat) (i : Int) : Option Nat := if 0 ≤ i then (if i < n then some i.toNat else none) else if -(n : Int) ≤ i then some (i + n).toNat else none
def atI {α : Type} (xs : List α) (i : Int) : Option α := (ixN xs.length i).bind fun j => xs[j]?
theorem ixN_seq {n : Nat} {i : Int} {j : Nat} (h : ixN n i = some j) : seqIndex? i n = some j ∧ j < n ∧ -(n : Int) ≤ i ∧ i < n := by
  unfold ixN at h
  by_cases h0 : 0 ≤ i
  · rw [if_pos h0] at h
    by_cases h1 : i < n
    · rw [if_pos h1] at h
      have e : i.toNat = j := Option.some.inj h
      exact ⟨by rw [seqIndex_of h0 h1, e], by omega, by omega, h1⟩
    · rw [if_neg h1] at h; cases h
  · rw [if_neg h0] at h
    by_cases h1 : -(n : Int) ≤ i
    · rw [if_pos h1] at h
      have e : (i + n).toNat = j := Option.some.inj h
      exact ⟨by rw [seqIndex_neg (by omega) h1, e], by omega, h1, by omega⟩
    · rw [if_neg h1] at h; cases h
theorem atI_get {α : Type} {xs : List α} {i : Int} {v : α} (h : atI xs i = some v) : ∃ j, seqIndex? i xs.length = some j ∧ xs[j]? = some v ∧ j < xs.length ∧ -(xs.length : Int) ≤ i ∧ i < xs.length := by
  unfold atI at h
  cases e : ixN xs.length i with
  | none => rw [e] at h; cases h
  | some j =>
    rw [e] at h
    obtain ⟨h1, h2, h3, h4⟩ := ixN_seq e
    exact ⟨j, h1, h, h2, h3, h4⟩
theorem atI_nat {α : Type} {xs : List α} {j : Nat} {v : α} (h : xs[j]? = some v) : atI xs (j : Int) = some v := by
  have hj : j < xs.length := (List.getElem?_eq_some_iff.mp h).1
  have e : ixN xs.length (j : Int) = some j := by
    unfold ixN
    rw [if_pos (by omega), if_pos (by omega)]; simp
  unfold atI; rw [e]; exact h
def PlainIx (b : Expr) : Prop := ∀ o i, subscripted b false o i = operate [o, i] (getItem o i)
def IxR (X : Cx) (r : R2) : Prop :=
  ∀ (value slice : Expr) (pins : List (Addr × Obj)) (s : Shared) (σ : St) (H : Hp) (x y : V) (v u : Value) (Q : VK), Inv X pins σ H s → RelV x v → RelV y u → r x y H Q →
    subscripted slice false v u = operate [v, u] (getItem v u) → wpAny (model X.prog X.w) X.A (subscriptTail value slice v u) (EP X pins σ Q) X.xe s
def MtR (X : Cx) (id : String) (r : V → List V → Hp → VK → Prop) : Prop :=
  ∀ (pins : List (Addr × Obj)) (s : Shared) (σ : St) (H : Hp) (x : V) (xs : List V) (v : Value) (us : List Value) (Q : VK), Inv X pins σ H s → RelV x v → Vals xs us → r x xs H Q →
    wpAny (model X.prog X.w) X.A (call (.builtin id) (v :: us)) (EP X pins σ Q) X.xe s
section
variable {X : Cx} {a b : Expr} {ta tb : TE} {pos : Pos}
theorem IxR.or {r r' : R2} (h : IxR X r) (h' : IxR X r') : IxR X (fun x y H Q => r x y H Q ∨ r' x y H Q) := by
  intro value slice pins s σ H x y v u Q I rx ry q hs
  rcases q with q | q
  · exact h value slice pins s σ H x y v u Q I rx ry q hs
  · exact h' value slice pins s σ H x y v u Q I rx ry q hs
theorem MtR.or {id : String} {r r' : V → List V → Hp → VK → Prop} (h : MtR X id r) (h' : MtR X id r') : MtR X id (fun x xs H Q => r x xs H Q ∨ r' x xs H Q) := by
  intro pins s σ H x xs v us Q I rx rs q
  rcases q with q | q
  · exact h pins s σ H x xs v us Q I rx rs q
  · exact h' pins s σ H x xs v us Q I rx rs q
theorem pe_ix {r : R2} (hr : IxR X r) (ha : PE X a ta) (hb : PE X b tb) (hs : PlainIx b) : PE X (.Subscript a b pos) (tOp r ta tb) := by
  intro pins s σ H Q I h
  exact Subscript_ (binT ha hb I h fun v u s2 x y H2 I2 rx ry q => hr a b pins s2 σ H2 x y v u Q I2 rx ry q (hs _ _))
def rIxL (K : PySem.W.Frag) : R2 := fun x y H Q => ∃ p xs i v, x = .ref p ∧ y = .int i ∧ SqL K H p xs ∧ atI xs i = some v ∧ Q v H
def rIxT (K : PySem.W.Frag) : R2 := fun x y H Q => ∃ p xs i v, x = .ref p ∧ y = .int i ∧ SqT K H p xs ∧ atI xs i = some v ∧ Q v H
theorem ix_list : IxR X (rIxL X.K) := by
  intro value slice pins s σ H x y v u Q I rx ry h hs
  obtain ⟨p, xs, i, z, rfl, rfl, hq, he, q⟩ := h
  cases rx
  obtain ⟨t, rfl⟩ := ry
  obtain ⟨its, r, pl, hz⟩ := I.list hq
  obtain ⟨j, h1, h2, h3, h4, h5⟩ := atI_get he
  obtain ⟨w, ew, rw'⟩ := r.get h2
  have hl := r.length
  have hn := line63
  have fin : EP X pins σ Q w s := ⟨z, H, I, rw', q⟩
  by_cases h0 : 0 ≤ i
  · have hj : i.toNat = j := by
      rw [seqIndex_of h0 h5] at h1
      exact Option.some.inj h1
    exact item_listR pl.isList h0 (by omega) (by rw [hj]; simpa using ew) fin hs
  · have hj : (i + (its.toArray.size : Int)).toNat = j := by
      rw [seqIndex_neg (by omega) h4] at h1
      rw [List.size_toArray, ← hl]
      exact Option.some.inj h1
    exact subscriptTail_builtinR (x := w) pl.isList.typeIs slot_list_getitem.lookup
      (wpAny_getItem_list_neg (Q := fun r s' => r = w ∧ EP X pins σ Q r s') pl.isList (by omega) (by rw [List.size_toArray] <;> omega) (by omega) (by rw [hj]; simpa using ew) ⟨rfl, fin⟩) hs
theorem ix_tup : IxR X (rIxT X.K) := by
  intro value slice pins s σ H x y v u Q I rx ry h hs
  obtain ⟨p, xs, i, z, rfl, rfl, hq, he, q⟩ := h
  cases rx
  obtain ⟨t, rfl⟩ := ry
  obtain ⟨its, r, pl, hz⟩ := I.tuple hq
  obtain ⟨j, h1, h2, h3, h4, h5⟩ := atI_get he
  obtain ⟨w, ew, rw'⟩ := r.get h2
  have hl := r.length
  have hn := line63
  have fin : EP X pins σ Q w s := ⟨z, H, I, rw', q⟩
  exact subscriptTail_builtinR (x := w) pl.typeIs slot_tuple_getitem.lookup
    (getItem_tuple (j := j) (Q := fun r s' => r = w ∧ EP X pins σ Q r s') pl (by omega) (by omega) (by rw [List.size_toArray, ← hl]; exact h1) (by simpa using ew) ⟨rfl, fin⟩) hs
theorem mapSeq_set (its : List Value) (n j : Nat) (u : Value) : Obj.mapSeq (·.setIfInBounds j u) { cls := .type "list", data := .seq its.toArray n } = { cls := .type "list", data := .seq (its.set j u).toArray n } := by
  simp [Obj.mapSeq]
theorem Inv.lst {pins : List (Addr × Obj)} {σ : St} {H : Hp} {s : Shared} {p : Addr} {xs : List V} (I : Inv X pins σ H s) (h : H p = some (.lst xs)) :
    ∃ (its : List Value) (n : Nat), Vals xs its ∧ s.heap.get? p = some { cls := .type "list", data := .seq its.toArray n } ∧ xs.length ≤ sizeLine := by
  obtain ⟨z, its, n, r, e⟩ := I.hok p _ h
  exact ⟨its, n, r, e, z⟩
theorem Inv.lstUpd {pins : List (Addr × Obj)} {σ : St} {H : Hp} {s : Shared} {p : Addr} {xs ys : List V} {its its' : List Value} {n n' : Nat} {f : Obj → Obj} (I : Inv X pins σ H s) (h : H p = some (.lst xs))
    (ho : s.heap.get? p = some { cls := .type "list", data := .seq its.toArray n }) (hf : f { cls := .type "list", data := .seq its.toArray n } = { cls := .type "list", data := .seq its'.toArray n' }) (r : Vals ys its') (hz : ys.length ≤ sizeLine) (t : Nat) :
    Inv X pins σ (upd H p (.lst ys)) { s with heap := s.heap.update p f, toks := t } := by
  have e : (s.heap.update p f).get? p = some { cls := .type "list", data := .seq its'.toArray n' } := by
    rw [Heap.get?_update_self f ho (by rw [hf] <;> rfl), hf]
  refine I.write (x := p) (e := p) (by rw [h]; trivial) (.inl rfl) (fun b u hb q => (Heap.get?_update_other _ _ (Ne.symm hb)).trans q) ⟨_, e⟩ ?_
  exact ⟨hz, its', n', r, e⟩
def rSetL : V → V → V → Hp → (Hp → Prop) → Prop := fun o i v H Q => ∃ p xs k j, o = .ref p ∧ i = .int k ∧ H p = some (.lst xs) ∧ ixN xs.length k = some j ∧ Q (upd H p (.lst (xs.set j v)))
theorem set_list : PSet X rSetL := by
  intro pins s σ H o i v ov iv u Q I ro ri rv h
  obtain ⟨p, xs, k, j, rfl, rfl, hp, hj, q⟩ := h
  cases ro
  obtain ⟨t, rfl⟩ := ri
  obtain ⟨its, n, r, ho, hz⟩ := I.lst hp
  obtain ⟨h1, h2, h3, h4⟩ := ixN_seq hj
  have hl := r.length
  have hn := line63
  have I' : Inv X pins σ (upd H p (.lst (xs.set j v))) { s with heap := s.heap.update p (Obj.mapSeq (·.setIfInBounds j u)) } :=
    I.lstUpd hp ho (mapSeq_set its n j u) (r.set rv j) (by rw [List.length_set]; exact hz) s.toks
  by_cases h0 : 0 ≤ k
  · have hk : k.toNat = j := by
      rw [seqIndex_of h0 h4] at h1
      exact Option.some.inj h1
    exact PySem.W.ki_setAt ho h0 (by omega) (by rw [List.size_toArray, ← hl]; exact h4) (by rw [hk]; exact ⟨_, I', q⟩)
  · have hk : (k + (its.toArray.size : Int)).toNat = j := by
      rw [seqIndex_neg (by omega) h3] at h1
      rw [List.size_toArray, ← hl]
      exact Option.some.inj h1
    exact PySem.W.ki_setBack ho (by omega) (by rw [List.size_toArray, ← hl]; exact h3) (by omega) (by rw [hk]; exact ⟨_, I', q⟩)
def flatV : V → Bool
  | .non => true
  | .bl _ => true
  | .int _ => true
  | .str _ => true
  | _ => false
def eqV : V → V → Bool
  | .non, .non => true
  | .bl a, .bl b => a == b
  | .bl a, .int b => (if a then 1 else 0) == b
  | .int a, .bl b => a == (if b then 1 else 0)
  | .int a, .int b => a == b
  | .str a, .str b => a == b
  | _, _ => false
theorem eqAt_V {A : Around} {s : Shared} {y x : V} {u v : Value} (ry : RelV y u) (rx : RelV x v) (fy : flatV y = true) (fx : flatV x = true) : SeqAt.EqAt A s u v (eqV y x) := by
  cases y with
  | non =>
    cases ry
    cases x with
    | non => cases rx; exact SeqAt.EqAt.same _
    | bl b => cases rx; exact SeqAt.EqAt.none_bool b
    | int b => obtain ⟨t, rfl⟩ := rx; exact SeqAt.EqAt.none_int b t
    | str b => obtain ⟨t, rfl⟩ := rx; exact SeqAt.EqAt.none_str b t
    | _ => exact absurd (show false = true from fx) Bool.false_ne_true
  | bl a =>
    cases ry
    cases x with
    | non => cases rx; exact SeqAt.EqAt.bool_none a
    | bl b => cases rx; exact SeqAt.EqAt.bool_bool a b
    | int b => obtain ⟨t, rfl⟩ := rx; exact SeqAt.EqAt.bool_int a b t
    | str b => obtain ⟨t, rfl⟩ := rx; exact SeqAt.EqAt.bool_str a b t
    | _ => exact absurd (show false = true from fx) Bool.false_ne_true
  | int a =>
    obtain ⟨t', rfl⟩ := ry
    cases x with
    | non => cases rx; exact SeqAt.EqAt.int_none a t'
    | bl b => cases rx; exact SeqAt.EqAt.int_bool a t' b
    | int b => obtain ⟨t, rfl⟩ := rx; exact SeqAt.EqAt.int_int a t' b t
    | str b => obtain ⟨t, rfl⟩ := rx; exact SeqAt.EqAt.int_str a t' b t
    | _ => exact absurd (show false = true from fx) Bool.false_ne_true
  | str a =>
    obtain ⟨t', rfl⟩ := ry
    cases x with
    | non => cases rx; exact SeqAt.EqAt.str_none a t'
    | bl b => cases rx; exact SeqAt.EqAt.str_bool a t' b
    | int b => obtain ⟨t, rfl⟩ := rx; exact SeqAt.EqAt.str_int a t' b t
    | str b => obtain ⟨t, rfl⟩ := rx; exact SeqAt.EqAt.str_str a t' b t
    | _ => exact absurd (show false = true from fx) Bool.false_ne_true
  | _ => exact absurd (show false = true from fy) Bool.false_ne_true
def eqU (x : V) (u : Value) : Bool := match u with
  | .none => eqV .non x
  | .bool b => eqV (.bl b) x
  | .int i _ => eqV (.int i) x
  | .str z _ => eqV (.str z) x
  | _ => false
theorem eqU_of {x y : V} {u : Value} (r : RelV y u) (f : flatV y = true) : eqU x u = eqV y x := by
  cases y with
  | non => cases r; rfl
  | bl b => cases r; rfl
  | int i => obtain ⟨t, rfl⟩ := r; rfl
  | str z => obtain ⟨t, rfl⟩ := r; rfl
  | _ => exact absurd (show false = true from f) Bool.false_ne_true
theorem any_eqU {x : V} : ∀ {xs : List V} {us : List Value}, Vals xs us → xs.all flatV = true → us.any (eqU x) = xs.any fun y => eqV y x
  | _, _, .nil, _ => rfl
  | y :: xs, u :: us, .cons r t, f => by
    rw [List.all_cons, Bool.and_eq_true] at f
    rw [List.any_cons, List.any_cons, eqU_of r f.1, any_eqU t f.2]
theorem mem_eqAt {A : Around} {s : Shared} {x : V} {v : Value} (rx : RelV x v) (fx : flatV x = true) : ∀ {xs : List V} {us : List Value}, Vals xs us → xs.all flatV = true → ∀ u ∈ us, SeqAt.EqAt A s u v (eqU x u)
  | _, _, .nil, _ => fun u hu => by cases hu
  | y :: xs, u :: us, .cons r t, f => fun u' hu => by
    rw [List.all_cons, Bool.and_eq_true] at f
    rcases List.mem_cons.mp hu with rfl | hu
    · rw [eqU_of r f.1]; exact eqAt_V r rx f.1 fx
    · exact mem_eqAt rx fx t f.2 u' hu
def inV (x : V) (xs : List V) : Bool := xs.any fun y => eqV y x
def rIn (K : PySem.W.Frag) (neg : Bool) : R2 := fun x y H Q => ∃ p xs, y = .ref p ∧ (SqL K H p xs ∨ SqT K H p xs) ∧ flatV x = true ∧ xs.all flatV = true ∧ Q (.bl (if neg then !inV x xs else inV x xs)) H
theorem op_in_seq : OpR X (compareOp .In) (rIn X.K false) := by
  intro pins s σ H x y v u Q I rx ry h
  obtain ⟨p, xs, rfl, hq, fx, fs, q⟩ := h
  cases ry
  rcases hq with hq | hq
  · obtain ⟨its, r, pl, hz⟩ := I.list hq
    refine SeqAt.in_listAt (eqU x) pl.isList (fun w hw => mem_eqAt rx fx r fs w (by simpa using hw)) ⟨.bl _, H, I, rfl, ?_⟩
    rw [show its.toArray.any (eqU x) = its.any (eqU x) by simp, any_eqU r fs]
    exact q
  · obtain ⟨its, r, pl, hz⟩ := I.tuple hq
    refine SeqAt.in_tupleAt (eqU x) pl (fun w hw => mem_eqAt rx fx r fs w (by simpa using hw)) ⟨.bl _, H, I, rfl, ?_⟩
    rw [show its.toArray.any (eqU x) = its.any (eqU x) by simp, any_eqU r fs]
    exact q
theorem op_notIn_seq : OpR X (compareOp .NotIn) (rIn X.K true) := by
  intro pins s σ H x y v u Q I rx ry h
  obtain ⟨p, xs, rfl, hq, fx, fs, q⟩ := h
  cases ry
  rcases hq with hq | hq
  · obtain ⟨its, r, pl, hz⟩ := I.list hq
    refine SeqAt.notIn_listAt (eqU x) pl.isList (fun w hw => mem_eqAt rx fx r fs w (by simpa using hw)) ⟨.bl _, H, I, rfl, ?_⟩
    rw [show its.toArray.any (eqU x) = its.any (eqU x) by simp, any_eqU r fs]
    exact q
  · obtain ⟨its, r, pl, hz⟩ := I.tuple hq
    refine SeqAt.notIn_tupleAt (eqU x) pl (fun w hw => mem_eqAt rx fx r fs w (by simpa using hw)) ⟨.bl _, H, I, rfl, ?_⟩
    rw [show its.toArray.any (eqU x) = its.any (eqU x) by simp, any_eqU r fs]
    exact q
theorem call_len_seq : CallR X (.builtin "len") (fun xs H Q => ∃ p ys, xs = [.ref p] ∧ (SqL X.K H p ys ∨ SqT X.K H p ys) ∧ Q (.int ys.length) H) := by
  intro pins s σ H xs us Q I r h
  obtain ⟨p, ys, rfl, hq, q⟩ := h
  obtain ⟨u, rfl, rx⟩ := vals1 r
  cases rx
  have hn := line63
  rcases hq with hq | hq
  · obtain ⟨its, r', pl, hz⟩ := I.list hq
    have hlen := r'.length
    exact Calls.call_len_list pl.isList (by simp only [List.size_toArray] <;> omega) ⟨.int ys.length, H, I.tok _, ⟨s.toks + 1, by rw [List.size_toArray, hlen]⟩, q⟩
  · obtain ⟨its, r', pl, hz⟩ := I.tuple hq
    have hlen := r'.length
    exact len_tuple pl (by simp only [List.size_toArray] <;> omega) ⟨.int ys.length, H, I.tok _, ⟨s.toks + 1, by rw [List.size_toArray, hlen]⟩, q⟩
theorem CallR.or {f : Value} {r r' : List V → Hp → VK → Prop} (h : CallR X f r) (h' : CallR X f r') : CallR X f (fun xs H Q => r xs H Q ∨ r' xs H Q) := by
  intro pins s σ H xs us Q I rs q
  rcases q with q | q
  · exact h pins s σ H xs us Q I rs q
  · exact h' pins s σ H xs us Q I rs q
theorem call_tuple_of : CallR X (.type "tuple") (fun xs H Q => ∃ p ys, xs = [.ref p] ∧ ((SqL X.K H p ys ∧ ∀ l, H l = none → Q (.ref l) (upd H l (.tup ys))) ∨ (SqT X.K H p ys ∧ Q (.ref p) H))) := by
  intro pins s σ H xs us Q I r h
  obtain ⟨p, ys, rfl, h⟩ := h
  obtain ⟨u, rfl, rx⟩ := vals1 r
  cases rx
  rcases h with ⟨hq, q⟩ | ⟨hq, q⟩
  · obtain ⟨its, r', pl, hz⟩ := I.list hq
    have hlen := r'.length
    refine call_tuple_list pl.isList (fun h' kp => ?_) (by simp only [List.size_toArray] <;> omega)
    have I1 : Inv X pins σ H { s with heap := h' } := I.kept (t' := s.toks) kp
    have I2 : Inv X pins σ (upd H h'.objs.size (.tup ys)) { s with heap := h'.push { cls := .type "tuple", data := .seq its.toArray } } :=
      I1.laid (t' := s.toks) (fun b o e => Heap.get?_push_of_some _ e) (Nat.le_refl _) (show ObjOk X.prog X.w _ _ _ (.tup ys) from ⟨hz, its, r', IsTup.new _ _, _, Heap.get?_push_size _ rfl, rfl⟩)
    exact ⟨.ref h'.objs.size, _, I2, rfl, q _ (I1.hok.fresh (Nat.le_refl _))⟩
  · obtain ⟨its, r', pl, hz⟩ := I.tuple hq
    exact call_tuple_same pl ⟨.ref p, H, I, rfl, q⟩
def tyV (K : PySem.W.Frag) (T : String) (x : V) (H : Hp) : Prop := match x with
  | .str _ => T = "str"
  | .int _ => T = "int"
  | .ref p => (T = "list" ∧ ∃ xs, SqL K H p xs) ∨ (T = "tuple" ∧ ∃ o, K.lookup p = some o ∧ o.cls = .type "tuple" ∧ o.dict = none) ∨
      (T = "dict" ∧ ((∃ kvs, H p = some (.dK kvs)) ∨ ∃ kvs, H p = some (.dT kvs))) ∨ (T = "set" ∧ ∃ S n, H p = some (.set S n))
  | _ => False
theorem tyV_is {pins : List (Addr × Obj)} {σ : St} {H : Hp} {s : Shared} {T : String} {x : V} {v : Value} (I : Inv X pins σ H s) (r : RelV x v) (ty : tyV X.K T x H) :
    s.TypeIs v T ∧ ∀ a, v = .ref a → ∃ ob, s.heap.get? a = some ob ∧ ob.dict = none := by
  cases x with
  | str z =>
    obtain ⟨t, rfl⟩ := r
    cases (show T = "str" from ty)
    exact ⟨typeIs_str s z t, fun _ e => nomatch e⟩
  | int i =>
    obtain ⟨t, rfl⟩ := r
    cases (show T = "int" from ty)
    exact ⟨typeIs_int s i t, fun _ e => nomatch e⟩
  | ref p =>
    cases r
    rcases ty with ⟨rfl, xs, hq⟩ | ⟨rfl, o, hk, hc, hd⟩ | ⟨rfl, hk⟩ | ⟨rfl, S, n, hk⟩
    · obtain ⟨its, _, pl, _⟩ := I.list hq
      refine ⟨pl.isList.typeIs, fun a e => ?_⟩
      cases e
      obtain ⟨o, n, e, c, hd, _⟩ := pl
      exact ⟨o, e, hd⟩
    · refine ⟨⟨o, I.kIn p o hk, hc⟩, fun a e => ?_⟩
      cases e
      exact ⟨o, I.kIn _ o hk, hd⟩
    · have z : ∃ o, s.heap.get? p = some o ∧ o.ExactDict := by
        rcases hk with ⟨kvs, hk⟩ | ⟨kvs, hk⟩
        · obtain ⟨_, _, _, _, o, _, _, e, ex, _⟩ := I.hok p _ hk
          exact ⟨o, e, ex⟩
        · obtain ⟨_, _, _, _, o, _, _, e, ex, _⟩ := I.hok p _ hk
          exact ⟨o, e, ex⟩
      obtain ⟨o, e, ex⟩ := z
      refine ⟨⟨o, e, ex.1⟩, fun a e2 => ?_⟩
      cases e2
      exact ⟨o, e, ex.2.1⟩
    · obtain ⟨o, _, _, _, e, ex, _⟩ := I.hok p _ hk
      refine ⟨⟨o, e, ex.1⟩, fun a e2 => ?_⟩
      cases e2
      exact ⟨o, e, ex.2.1⟩
  | _ => exact False.elim ty
def tBM (K : PySem.W.Frag) (T : String) (r : V → List V → Hp → VK → Prop) (to : TE) (t : TA) : TE := fun σ H Q => to σ H fun x H1 => tyV K T x H1 ∧ t σ H1 fun xs H2 => r x xs H2 Q
variable {o e : Expr} {es : List Expr} {to : TE} {t : TA} {name : Str} {apos cpos : Pos} {T id : String} {r : V → List V → Hp → VK → Prop}
theorem pe_bm (pa : PlainAttrs T) (slot : Slot T name id) (hty : typeOf (.builtin id) = pure (.type "method_descriptor")) (hm : MtR X id r) (ho : PE X o to) (ha : PA X (e :: es) t)
    (hbase : attributeBase o name X.env (eval o X.env) = eval o X.env := by rfl)
    (hfew : ((backTo cpos (starEach (e :: es) X.env)).all (fun x => !x.1) && (backToKw cpos (keywordEach [] X.env)).all (fun x => x.1.isSome)
      && decide ((e :: es).length + ([] : List Keyword).length + (if ([] : List Keyword).isEmpty then 0 else 1) < 30)) = true := by rfl)
    (hline : (apos.endLine == cpos.line) = true := by rfl) (hs : starEach (e :: es) X.env = (false, eval e X.env) :: starEach es X.env := by rfl) (hplain : (backTo cpos (starEach es X.env)).any (·.1) = false := by rfl) :
    PE X (.Call (.Attribute o name apos) (e :: es) [] cpos) (tBM X.K T r to t) := by
  intro pins s σ H Q I h
  refine wpAny_Call_method_late hbase hfew hline rfl (thn (ho pins s σ H _ I h) fun v s1 ⟨x, H1, I1, r1, ty, q1⟩ => ?_)
  obtain ⟨h1, h2⟩ := tyV_is I1 r1 ty
  refine ⟨T, id, pa, slot, hty, h1, h2, ?_⟩
  have hA := ha cpos pins s1 σ H1 _ I1 q1
  rw [hs] at hA ⊢
  refine Calls.callWith_builtin (by show (false || (backTo cpos (starEach es X.env)).any (·.1)) = false; rw [hplain] <;> rfl) (Calls.evalArgs_plain ?_)
  exact thn hA fun us s2 ⟨vs, H2, I2, r2, q2⟩ => hm pins s2 σ H2 x vs v us Q I2 r1 r2 q2
end
end L2
namespace L2
open PySem PySem.Spec PyProof.Rows
def MtM (X : Cx) (id : String) (r : V → List V → Hp → VK → Prop) : Prop :=
  ∀ (pins : List (Addr × Obj)) (s : Shared) (σ : St) (H : Hp) (x : V) (xs : List V) (v : Value) (us : List Value) (Q : VK), Inv X pins σ H s → RelV x v → Vals xs us → r x xs H Q →
    wpAny (model X.prog X.w) X.A (call (.builtin id) (v :: us)) (EP X pins σ Q) X.xe s
theorem Vals.one : ∀ {x : V} {us : List Value}, Vals [x] us → ∃ u, us = [u] ∧ RelV x u
  | _, _, .cons r .nil => ⟨_, rfl, r⟩
theorem Vals.two : ∀ {x y : V} {us : List Value}, Vals [x, y] us → ∃ u v, us = [u, v] ∧ RelV x u ∧ RelV y v
  | _, _, _, .cons r (.cons q .nil) => ⟨_, _, rfl, r, q⟩
theorem Vals.zero : ∀ {us : List Value}, Vals [] us → us = []
  | _, .nil => rfl
theorem Vals.dropLast {xs : List V} {us : List Value} (h : Vals xs us) : Vals xs.dropLast us.dropLast := by
  induction h with
  | nil => exact .nil
  | cons r t ih =>
    cases t with
    | nil => exact .nil
    | cons q t' => exact .cons r ih
theorem Vals.reverse {xs : List V} {us : List Value} (h : Vals xs us) : Vals xs.reverse us.reverse := by
  induction h with
  | nil => exact .nil
  | cons r t ih => rw [List.reverse_cons, List.reverse_cons]; exact Vals.append ih (.cons r .nil)
section
variable {X : Cx} {pins : List (Addr × Obj)} {σ : St} {H : Hp} {s : Shared} {l b : Addr} {xs ys zs : List V}
theorem Inv.lset {its its' : List Value} {n : Nat} {f : Array Value → Array Value} {t' : Nat} (I : Inv X pins σ H s) (hH : H l = some (.lst xs))
    (e : s.heap.get? l = some { cls := .type "list", data := .seq its.toArray n }) (hf : f its.toArray = its'.toArray) (hv : Vals ys its') (hz : ys.length ≤ sizeLine) :
    Inv X pins σ (upd H l (.lst ys)) { s with heap := s.heap.update l (Obj.mapSeq f), toks := t' } := by
  have q := PySem.IsL.update e f
  rw [hf] at q
  refine I.write (x := l) (e := l) (by rw [hH]; exact trivial) (.inl rfl) (fun b' u hb hu => (Heap.get?_update_other s.heap (Obj.mapSeq f) (Ne.symm hb)).trans hu) ⟨_, q⟩ ?_
  exact ⟨hz, its', _, hv, q⟩
theorem Inv.lnew {its : List Value} {t' : Nat} (I : Inv X pins σ H s) (hv : Vals ys its) (hz : ys.length ≤ sizeLine) :
    Inv X pins σ (upd H s.heap.objs.size (.lst ys)) { s with heap := s.heap.push { cls := .type "list", data := .seq its.toArray }, toks := t' } :=
  I.laid (fun _ _ q => Heap.get?_push_of_some _ q) (Nat.le_refl _) ⟨hz, its, 0, hv, Heap.get?_push_size _ rfl⟩
theorem Inv.fresh (I : Inv X pins σ H s) : H s.heap.objs.size = none := I.hok.fresh (Nat.le_refl _)
theorem Inv.lstM (I : Inv X pins σ H s) (hH : H l = some (.lst xs)) : xs.length ≤ sizeLine ∧ ∃ (its : List Value) (n : Nat), Vals xs its ∧ xs.length = its.length ∧ s.heap.get? l = some { cls := .type "list", data := .seq its.toArray n } := by
  obtain ⟨z, its, n, r, e⟩ := I.hok l _ hH
  exact ⟨z, its, n, r, r.length, e⟩
end
section
variable {X : Cx}
def rAppend : V → List V → Hp → VK → Prop := fun x vs H Q => ∃ l xs y, x = .ref l ∧ vs = [y] ∧ H l = some (.lst xs) ∧ xs.length < sizeLine ∧ Q .non (upd H l (.lst (xs ++ [y])))
theorem mt_append : MtM X "list.append" rAppend := by
  intro pins s σ H x vs v us Q I rx rv h
  obtain ⟨l, xs, y, rfl, rfl, hH, hz, q⟩ := h
  cases rx
  obtain ⟨u, rfl, ru⟩ := rv.one
  obtain ⟨z, its, n, r, hl, e⟩ := I.lstM hH
  refine call_meets F.slot_list_append ⟨_, e, rfl⟩ F.entry_list_append (F.args_list_append_2 _ _) (PySem.list_append l its.toArray n u (by rw [List.size_toArray]; omega)) ⟨e, ?_⟩
  refine ⟨.non, _, I.lset (its' := its ++ [u]) hH e (by simp) (r.append (.cons ru .nil)) ?_, rfl, q⟩
  rw [List.length_append, List.length_singleton]
  omega
def rCat : R2 := fun x y H Q => ∃ l b xs zs, x = .ref l ∧ y = .ref b ∧ H l = some (.lst xs) ∧ H b = some (.lst zs) ∧ xs.length + zs.length ≤ sizeLine ∧ ∀ p, H p = none → Q (.ref p) (upd H p (.lst (xs ++ zs)))
theorem op_cat : OpR X (binaryOp .Add) rCat := by
  intro pins s σ H x y v u Q I rx ry h
  obtain ⟨l, b, xs, zs, rfl, rfl, hH, hB, hz, q⟩ := h
  cases rx
  cases ry
  obtain ⟨z, its, n, r, hl, e⟩ := I.lstM hH
  obtain ⟨z2, its2, n2, r2, hl2, e2⟩ := I.lstM hB
  refine PySem.P.add_list e e2 ?_ (by rw [List.size_toArray, List.size_toArray]; omega)
  have ea : its.toArray ++ its2.toArray = (its ++ its2).toArray := by simp
  rw [ea]
  exact ⟨.ref _, _, I.lnew (t' := s.toks) (r.append r2) (by rw [List.length_append]; omega), rfl, q _ I.fresh⟩
end
section
variable {prog : Program} {w : World} {A : Around} {E : Value → Shared → Prop} {s : Shared}
end
section
variable {X : Cx}
end
end L2
namespace Att
open PySem PySem.W PySem.Calls PyProof.Rows
theorem ints_of_wellAll {P : Params} {h : Heap} : ∀ (ns : List Int) (vs : List Value), WellAll P h vs (ns.map WData.int) → IntsAre vs ns := by
  intro ns
  induction ns with
  | nil =>
    intro vs w
    rw [List.map_nil] at w
    cases w
    exact .nil
  | cons n ns ih =>
    intro vs w
    rw [List.map_cons] at w
    cases w with
    | cons a b =>
      cases a
      exact .cons _ _ (ih _ b)
theorem script_of {l : OpenLaw} {n : Nat} (hn : l.most = some n) {P : Params} {h : Heap} {args : List WData} {vals : List Value}
    (hpre : l.row.toRowW.claim.pre args = true) (hwl : WellAll P h vals args) :
    ∃ a vs ns, vals = [Value.ref a] ∧ args = [WData.list (ns.map WData.int)] ∧ h.get? a = some { cls := .type "list", data := .seq vs.toArray } ∧ IntsAre vs ns ∧ ns.length ≤ n := by
  have hsh : WShape.hasAll [] args [.list .int] = true := (pre_splitW hpre).1
  have hc : l.pre.holds [] { args := args } = true := (pre_splitW hpre).2
  obtain ⟨d, r, rfl, h1, h2⟩ := hasAllW_cons hsh
  obtain rfl := hasAllW_nil h2
  obtain ⟨xs, rfl, h3⟩ := hasW_list h1
  obtain ⟨ns, rfl⟩ := items_int h3
  have hlen : ns.length ≤ n := by
    unfold OpenLaw.pre at hc
    have h4 : (WTm.not (.lt (.lit (.int (n : Int))) (.len (.arg 0)))).holds [] { args := [.list (ns.map .int)] } = true := by
      have h4 := (holds_andW hc).1
      rw [hn] at h4
      exact h4
    have h5 := condW_of h4 (w_not (w_lt w_lit (w_len_list (w_arg rfl))))
    rw [List.length_map] at h5
    refine Nat.le_of_not_lt fun q => ?_
    have q' : (n : Int) < ((ns.length : Nat) : Int) := by omega
    first
      | (rw [decide_eq_true q'] at h5; exact absurd h5 (by decide))
      | (simp at h5; omega)
  cases hwl with
  | cons w1 w2 =>
    cases w2
    cases w1 with
    | list ho hall => exact ⟨_, _, ns, rfl, rfl, ho, ints_of_wellAll ns _ hall, hlen⟩
theorem post_true (l : OpenLaw) (args : List WData) : l.row.toRowW.claim.post args (.bool true) args = true :=
  postW_of (r := l.row.toRowW) (X := (true == true))
    (show WShape.has [] (.bool true) .bool = true by first | rfl | decide | simp [WShape.has, WShape.arms, WShape.armsAll])
    (show (WTm.eq .res (.lit (.bool true))).value [] { args := args, res := some (.bool true), after := args } = some (.bool (true == true)) from w_eq_bool (w_res rfl) w_lit) rfl
theorem attach_call {l : OpenLaw} {n : Nat} {q : Program} {loose : List Str} {XP : (Str → Option Value) → Heap → Prop} {YP : World → Heap → Prop} {d : DefRec}
    (hn : l.most = some n) (hdf : d.params.defaults = [])
    (call : ∀ (w : World) (s₀ s₁ : Shared) (mg mb : Str → Option Value) (fa : Addr) (o : Obj) (pm cd doc : Value) (a : Addr) (vs : List Value) (ns : List Int),
      Ground q loose [] XP w s₀ mg mb s₁.heap → YP w s₁.heap →
      s₁.heap.get? fa = some o → o.data = .func (docDef d.name d.params d.body d.scope pm cd doc) → s₁.heap.CodeRec cd d.name → mg d.name = some (.ref fa) →
      s₁.heap.get? a = some { cls := .type "list", data := .seq vs.toArray } → IntsAre vs ns → ns.length ≤ n → s₁.gens = #[] →
      codeAny (model l.prog w) callerA (.call (.ref fa) ⟨[.ref a], []⟩) (fun r s' => r = .ok (.ret (.bool true)) ∧ OldK s₁.heap s'.heap ∧ s'.os = s₁.os ∧ AllBare s'.gens) s₁) :
    WalkO q loose XP YP l.row.toRowW d [] (fun f vs => PySem.call f vs) := by
  intro w s₀ s₁ mg mb G Y fa o pm cd doc dV kV ho hd hcd hD hmg hg args vals as hpre hlay hrd hwl hlo
  obtain rfl : dV = .none := Dflts.none hD hdf
  obtain rfl : kV = .none := Dflts.noKw hD
  obtain ⟨a, vs, ns, rfl, rfl, hobj, hints, hlen⟩ := script_of hn hpre hwl
  refine enter_call (codeAny_mono (call w s₀ s₁ mg mb fa o pm cd doc a vs ns G Y ho (fd_plain hd) hcd hmg hobj hints hlen hg) fun r s' hq => ?_)
  obtain ⟨rfl, h2, h3, h4⟩ := hq
  exact ⟨.inl ⟨.bool true, .bool true, [], rfl, fun _ => rfl, .bool true, post_true l _, fun _ => ⟨List.Pairwise.nil, fun _ hm => (nomatch hm)⟩⟩, h2, h3, h4⟩
section
variable {prog : Program} {w : World} {A : Around} {E : Value → Shared → Prop} {s : Shared} {K : Frag}
end
end Att
namespace L2
open PySem PySem.Spec PyProof.Rows
theorem vals_ints : ∀ {vs : List Value} {ns : List Int}, IntsAre vs ns → Vals (ns.map V.int) vs
  | _, _, .nil => .nil
  | _, _, .cons n t h => .cons ⟨t, rfl⟩ (vals_ints h)
def Only (H : Hp) : Prop := ∀ b, H b = none ∨ ∃ o xs, H b = some (.frz o (.lst xs))
theorem law_call {P : Program} {w : World} {K : PySem.W.Frag} {mg mb : Str → Option Value} {CX : CXT} {k : Nat} {fa a : Addr} {fd : FuncData} {x : Str} {sp : Sp} {s₁ : Shared} {vs : List Value} {ns : List Int}
    (KX : K.In s₁.heap) (hns : s₁.heap.Ns mainGlobals mg) (hb : s₁.heap.Ns builtinsNs mb) (hbb : ∀ x : Str, x ≠ "__name__" → mb x = bootBuiltins x) (hlim : s₁.heap.NoLimit) (hg : s₁.gens = #[])
    (ha : s₁.heap.get? a = some { cls := .type "list", data := .seq vs.toArray }) (hi : IntsAre vs ns) (hl : ns.length ≤ sizeLine) (hr : Room k callerA)
    (F : ∀ base : Heap, K.In base → base.Ns mainGlobals mg → FnOk P w K mg base CX k fa fd [x] sp) (hbind : ∀ (s : Shared) (u : Value), BindsTo s fd ⟨[u], []⟩ [(x, u)])
    (hsp : ∀ H : Hp, Only H → SqL K H a (ns.map V.int) → sp [.ref a] H (fun v _ => v = .bl true) fun _ _ _ => False)
    (hCX : ∀ H e s', CX [] H s₁ (fun _ _ _ => False) e s' → False) :
    codeAny (model P w) callerA (.call (.ref fa) ⟨[.ref a], []⟩) (fun r s' => r = .ok (.ret (.bool true)) ∧ OldK s₁.heap s'.heap ∧ s'.os = s₁.os ∧ AllBare s'.gens) s₁ := by
  have rv := vals_ints hi
  have lenV := hi.length
  -- from an abstract heap in which nothing but the script may be tracked
  have core : ∀ H : Hp, Only H → SqL K H a (ns.map V.int) → HOk P w H s₁.heap → (∀ b, H b ≠ none → b = a) → (H a ≠ none → K.lookup a = none) →
      codeAny (model P w) callerA (.call (.ref fa) ⟨[.ref a], []⟩) (fun r s' => r = .ok (.ret (.bool true)) ∧ OldK s₁.heap s'.heap ∧ s'.os = s₁.os ∧ AllBare s'.gens) s₁ := by
    intro H hO hS hok hA hK
    have base_of : ∀ {b : Addr} {o : Obj}, s₁.heap.get? b = some o → H b = none → (hidT s₁.heap H).get? b = some o := fun e n => hidT_get e n
    have noA : ∀ {b : Addr} {o : Obj} {es : Array DictEntry} {ep : Nat}, s₁.heap.get? b = some o → o.data = .dict es ep → H b = none := fun {b o es ep} e d => by
      cases q : H b with
      | none => rfl
      | some u =>
        have e' : b = a := hA b (by rw [q]; simp)
        subst e'
        rw [ha] at e; cases e
        have d' : Data.seq vs.toArray _ = Data.dict es ep := d
        cases d'
    have nsK : ∀ {b : Addr} {m : Str → Option Value}, s₁.heap.Ns b m → (hidT s₁.heap H).Ns b m := fun {b m} ⟨o, es, ep, e, d, r⟩ => ⟨o, es, ep, base_of e (noA e d), d, r⟩
    have hKb : K.In (hidT s₁.heap H) := fun b o e => base_of (KX b o e) (by
      cases q : H b with
      | none => rfl
      | some u =>
        have e' : b = a := hA b (by rw [q]; simp)
        subst e'
        rw [hK (by rw [q]; simp)] at e; cases e)
    have hM : Mod K mg (hidT s₁.heap H) := ⟨hKb, nsK hns, ⟨mb, nsK hb, hbb⟩, let ⟨mc, h1, h2⟩ := hlim; ⟨mc, nsK h1, h2⟩⟩
    have e0 : Env0 P w K mg (hidT s₁.heap H) callerA [] s₁ H := ⟨rfl, hM, fun b o e => of_hidT e, Nat.le_of_eq (hidT_size _ _), trivial, fun b hb => absurd (show b ∈ ([] : List Addr) from hb) (by simp), hok, .of_eq hg⟩
    refine codeAny_mono ((F _ hKb (nsK hns)).run callerA [] s₁ H ⟨[.ref a], []⟩ [.ref a] [.ref a] _ _ hr e0 (hbind s₁ (.ref a)) (.cons rfl .nil) (hsp H hO hS)) fun r s' h => ?_
    cases r with
    | error e => exact (hCX H e s' h).elim
    | ok fl =>
      cases fl with
      | next => exact False.elim h
      | brk => exact False.elim h
      | cont => exact False.elim h
      | ret u =>
        obtain ⟨v, H', os, bare, un, hok', r', q⟩ := h
        have q' : v = .bl true := q
        subst q'
        obtain rfl : u = Value.bool true := r'
        refine ⟨rfl, OldK.of_keep fun b o e => ?_, os, bare⟩
        cases q : H b with
        | none => exact un.keep b o e q (by intro z; exact absurd (show b ∈ ([] : List Addr) from z) (by simp)) (by simp)
        | some u =>
          rcases hO b with z | ⟨ob, xs, z⟩
          · rw [q] at z; cases z
          · have z2 := un.frzs b ob _ z
            obtain ⟨e1, _⟩ := hok b _ z
            obtain ⟨e2, _⟩ := hok' b _ z2
            rw [e] at e1; cases e1
            exact e2
  cases hk : K.lookup a with
  | some o =>
    -- the script is one of the module's own objects
    have e := KX a o hk
    rw [ha] at e
    cases e
    refine core (fun _ => none) (fun _ => .inl rfl) (.inr ⟨_, vs.toArray, _, hk, rfl, rfl, rfl, by rw [List.size_toArray, lenV]; exact hl, by simpa using rv⟩) (fun b u z => by have z' : (none : Option HO) = some u := z; cases z') (fun b z => absurd rfl z) fun z => absurd rfl z
  | none =>
    refine core (fun b => if b = a then some (.frz { cls := .type "list", data := .seq vs.toArray } (.lst (ns.map V.int))) else none) (fun b => ?_) (.inl (.inr ⟨{ cls := .type "list", data := .seq vs.toArray }, if_pos rfl⟩)) (fun b u z => ?_) (fun b z => ?_) fun _ => hk
    · by_cases hb : b = a
      · exact .inr ⟨_, _, if_pos hb⟩
      · exact .inl (if_neg hb)
    · by_cases hb : b = a
      · have z' := (if_pos hb).symm.trans z
        cases z'
        subst hb
        exact ⟨ha, by rw [List.length_map]; exact hl, vs, _, rv, ha⟩
      · have z' := (if_neg hb).symm.trans z
        cases z'
    · by_cases hb : b = a
      · exact hb
      · exact absurd (if_neg hb) z
end L2
namespace L2
open PySem PySem.Spec PyProof.Rows
theorem walk_of {l : PySem.W.OpenLaw} {n k : Nat} {q : Program} {loose : List Str} {XP : (Str → Option Value) → Heap → Prop} {YP : World → Heap → Prop} {d : DefRec} {K : Params → PySem.W.Frag} {CX : World → CXT} {sp : World → Sp} {x : Str}
    (hn : l.most = some n) (hn2 : n ≤ sizeLine) (hdf : d.params.defaults = []) (hr : Room k callerA)
    (hY : ∀ (w : World) (h : Heap), YP w h → (K w.params).In h)
    (F : ∀ (w : World) (mg : Str → Option Value) (fa : Addr) (h : Heap), (K w.params).In h → h.Ns mainGlobals mg → mg d.name = some (.ref fa) →
      ∃ fd : FuncData, (∀ (s : Shared) (u : Value), BindsTo s fd ⟨[u], []⟩ [(x, u)]) ∧
        ∀ base : Heap, (K w.params).In base → base.Ns mainGlobals mg → FnOk l.prog w (K w.params) mg base (CX w) k fa fd [x] (sp w))
    (hsp : ∀ (w : World) (H : Hp) (a : Addr) (ns : List Int), ns.length ≤ n → Only H → SqL (K w.params) H a (ns.map V.int) → sp w [.ref a] H (fun v _ => v = .bl true) fun _ _ _ => False)
    (hCX : ∀ (w : World) (H : Hp) (s : Shared) (e : Value) (s' : Shared), CX w [] H s (fun _ _ _ => False) e s' → False) :
    PySem.W.WalkO q loose XP YP l.row.toRowW d [] (fun f vs => PySem.call f vs) := by
  refine Att.attach_call hn hdf fun w s₀ s₁ mg mb fa o pm cd doc a vs ns G Y ho hd hcd hmg hobj hints hlen hg => ?_
  have KX := hY w _ Y
  obtain ⟨fd, hb, hF⟩ := F w mg fa _ KX G.T.g hmg
  exact law_call KX G.T.g G.T.b G.T.builtins G.T.nolimit hg hobj hints (Nat.le_trans hlen hn2) hr hF hb (fun H hO hS => hsp w H a ns hlen hO hS) fun H e s' => hCX w H s₁ e s'
end L2
namespace L2
open PySem PySem.Spec PyProof.Rows
def inClass (s : Stmt) (j : Nat) : Stmt := match s with
  | .ClassDef _ _ _ body _ _ _ _ _ _ _ => body.getD j (.Pass ⟨0, 0, 0, 0⟩)
  | _ => .Pass ⟨0, 0, 0, 0⟩
def defArgs (s : Stmt) : Arguments := match s with
  | .FunctionDef _ a _ _ _ _ _ _ _ _ => a
  | _ => { posonlyargs := [], args := [], vararg := none, kwonlyargs := [], kw_defaults := [], kwarg := none, defaults := [] }
def defBody (s : Stmt) : List Stmt := match s with
  | .FunctionDef _ _ b _ _ _ _ _ _ _ => b
  | _ => []
def defScope (s : Stmt) : Scope := match s with
  | .FunctionDef _ _ _ _ _ _ sc _ _ _ => sc
  | _ => { kind := .function, names := [], isGenerator := false, isCoroutine := false }
abbrev CX0 : CXT := fun _ _ _ _ _ _ => False
abbrev E0 : XK := fun _ _ _ => False
theorem pass0 {X : Cx} : Passes CX0 X E0 := fun _ _ _ _ _ _ _ h => h.elim
structure Fun (K : PySem.W.Frag) (x qual : Str) (st : Stmt) (f : Addr) (fd : FuncData) : Prop where
  ex : ∃ (oc : Value) (od : Option Addr) (kV doc pm : Value) (an : Option Addr) (cdv ct : Value) (osl : Array (Option Value)),
    fd = PySem.W.fnOf x qual (defArgs st) (defBody st) (defScope st) .none kV doc pm an cdv ct ∧ K.lookup f = some ⟨oc, od, .func fd, osl⟩ ∧ PySem.W.codeIn K cdv qual = true
  kp : PySem.W.keepIn K (.ref f) = true
section
variable {P : Program} {w : World} {K : PySem.W.Frag} {mg : Str → Option Value} {base : Heap}
theorem Fun.ok {x qual : Str} {st : Stmt} {f : Addr} {fd : FuncData} {N ps : List Str} {k : Nat} {sp : Sp} (F : Fun K x qual st f fd) (S : FnScope N ps (defScope st)) (len : ∀ vs H Q E, sp vs H Q E → vs.length = ps.length)
    (hbody : ∀ (cdv : Value) (A : Around) (outer : List Env) (s : Shared) (H : Hp) (vs : List V) (Q : VK) (E : XK), Room k (A.deeper (envOfC qual (defScope st) s.heap.objs.size f cdv)) → sp vs H Q E →
      ∃ t, PSs (cxOf CX0 P w K mg base N qual (defScope st) f cdv A outer s H E).nox (defBody st) t ∧ t { nx := fun _ H' => Q .non H', rt := Q } (start N vs) H) : FnOk P w K mg base CX0 (k + 1) f fd ps sp := by
  obtain ⟨oc, od, kV, doc, pm, an, cdv, ct, osl, rfl, lk, hcd⟩ := F.ex
  refine fn_of lk hcd S len fun A outer s H vs Q E hr hsp => ?_
  obtain ⟨t, h, q⟩ := hbody cdv A outer s H vs Q E hr hsp
  exact ⟨t, h.nox, q⟩
theorem Fun.binds {x qual : Str} {st : Stmt} {f : Addr} {fd : FuncData} {ps : List Str} (F : Fun K x qual st f fd)
    (h : ∀ (kV doc pm : Value) (an : Option Addr) (cdv ct : Value) (us : List Value), us.length = ps.length → bindArgs (PySem.W.fnOf x qual (defArgs st) (defBody st) (defScope st) .none kV doc pm an cdv ct) ⟨us, []⟩ = pure (ps.zip us)) : Binds K fd ps [] := by
  obtain ⟨oc, od, kV, doc, pm, an, cdv, ct, osl, rfl, lk, hcd⟩ := F.ex
  exact .all (h kV doc pm an cdv ct)
theorem fun_mk {x qual : Str} {st : Stmt} {f : Addr} {oc : Value} {od an : Option Addr} {osl : Array (Option Value)} {kV doc pm cdv ct : Value} (l : K.lookup f = some ⟨oc, od, .func (PySem.W.fnOf x qual (defArgs st) (defBody st) (defScope st) .none kV doc pm an cdv ct), osl⟩)
    (c : PySem.W.codeIn K cdv qual = true) (k : PySem.W.keepIn K (.ref f) = true) : Fun K x qual st f (PySem.W.fnOf x qual (defArgs st) (defBody st) (defScope st) .none kV doc pm an cdv ct) := ⟨⟨oc, od, kV, doc, pm, an, cdv, ct, osl, rfl, l, c⟩, k⟩
end
section
variable {X : Cx}
theorem pv (i : Nat) {x : Str} {pos : Pos} (hN : X.N[i]? = some x := by rfl) (hv : Vis X.env.scope x := by first | exact Or.inl rfl | exact Or.inr (Or.inl rfl) | exact Or.inr (Or.inr rfl)) (hd : (x == ("__debug__" : Str)) = false := by decide)
    (hcd : (x == ("__classdict__" : Str)) = false := by decide) : PE X (.Name x pos) (tVar i) := pe_var hN hv hd hcd
end
theorem iteF {A B : Prop} (h : B) : if false = true then A else B := by
  rw [if_neg Bool.false_ne_true]
  exact h
theorem iteT {A B : Prop} (h : A) : if true = true then A else B := by
  rw [if_pos rfl]
  exact h
theorem ite2 {c A B : Prop} [Decidable c] (h1 : c → A) (h2 : ¬ c → B) : if c then A else B := by
  by_cases h : c
  · rw [if_pos h]
    exact h1 h
  · rw [if_neg h]
    exact h2 h
theorem iteNS {c A B : Prop} [Decidable c] (hc : c) (h : B) : if (!decide c) = true then A else B := by
  rw [decide_eq_true hc]
  exact iteF h
def Same (H H' : Hp) : Prop := ∀ b o, H b = some o → H' b = some o
theorem Same.refl (H : Hp) : Same H H := fun _ _ h => h
theorem Same.trans {H H1 H2 : Hp} (a : Same H H1) (b : Same H1 H2) : Same H H2 := fun c o h => b c o (a c o h)
theorem Same.free {H H' : Hp} (e : Same H H') {l : Addr} (h : H' l = Option.none) : H l = Option.none := by
  cases q : H l with
  | none => rfl
  | some o =>
    rw [e l o q] at h
    cases h
theorem Same.seq {K : PySem.W.Frag} {H H' : Hp} {a : Addr} {xs : List V} (e : Same H H') (h : SqL K H a xs) : SqL K H' a xs := by
  rcases h with (h | ⟨o, h⟩) | h
  · exact .inl (.inl (e _ _ h))
  · exact .inl (.inr ⟨o, e _ _ h⟩)
  · exact .inr h
end L2
set_option maxRecDepth 100000
namespace L3
open PySem
def closL (cells : List (Str × Addr)) : List (Str × NameKind) → List (Str × Addr) → List (Str × Addr)
  | [], cs => cs
  | (n, k) :: r, cs => closL cells r (if k == .free then (match cells.lookup n with | some c => (n, c) :: cs | none => cs) else cs)
theorem closureFor_eq {scope : Scope} {env : Env} (h : ∀ x ∈ scope.names, x.2 = .free → (env.cells.lookup x.1).isSome = true) : closureFor scope env = pure (closL env.cells scope.names []) := by
  unfold closureFor
  dsimp only
  generalize scope.names = names at h ⊢
  generalize ([] : List (Str × Addr)) = cs
  induction names generalizing cs with
  | nil => rfl
  | cons x r ih =>
    obtain ⟨n, k⟩ := x
    have ih' := fun cs => ih (fun y hy => h y (List.mem_cons_of_mem _ hy)) cs
    rw [List.forIn_cons]
    by_cases hk : (k == NameKind.free) = true
    · have hs := h (n, k) List.mem_cons_self (by simpa using hk)
      obtain ⟨c, hc⟩ := Option.isSome_iff_exists.mp hs
      have hc' : env.cells.lookup n = some c := hc
      have e1 : cellOf env n = pure c := by unfold cellOf; rw [hc']
      simp only [hk, if_true, e1, closL, hc']
      exact ih' _
    · have hk' : (k == NameKind.free) = false := by simpa using hk
      simp only [hk', Bool.false_eq_true, if_false, closL]
      exact ih' _
theorem closL_lookup {cells : List (Str × Addr)} {x : Str} {c : Addr} : ∀ {names : List (Str × NameKind)} {cs : List (Str × Addr)}, (∀ c, cs.lookup x = some c → cells.lookup x = some c) → (closL cells names cs).lookup x = some c → cells.lookup x = some c
  | [], _, h, e => h c e
  | (n, k) :: r, cs, h, e => by
    unfold closL at e
    refine closL_lookup (names := r) (fun c' e' => ?_) e
    by_cases hk : (k == NameKind.free) = true
    · rw [if_pos hk] at e'
      cases hc : cells.lookup n with
      | none => rw [hc] at e'; exact h c' e'
      | some d =>
        rw [hc] at e'
        by_cases hx : (x == n) = true
        · have : x = n := by simpa using hx
          subst this
          simp only [List.lookup_cons, beq_self_eq_true] at e'
          cases e'
          exact hc
        · have hx' : (x == n) = false := by simpa using hx
          simp only [List.lookup_cons, hx'] at e'
          exact h c' e'
    · rw [if_neg hk] at e'
      exact h c' e'
theorem closL_keep {cells : List (Str × Addr)} {x : Str} : ∀ {names : List (Str × NameKind)} {cs : List (Str × Addr)}, (∃ c, cs.lookup x = some c) → ∃ c, (closL cells names cs).lookup x = some c
  | [], _, h => h
  | (n, k) :: r, cs, h => by
    unfold closL
    refine closL_keep (names := r) ?_
    by_cases hk : (k == NameKind.free) = true
    · rw [if_pos hk]
      cases hc : cells.lookup n with
      | none => exact h
      | some d =>
        by_cases hx : (x == n) = true
        · exact ⟨d, by simp only [List.lookup_cons, hx]⟩
        · have hx' : (x == n) = false := by simpa using hx
          simp only [List.lookup_cons, hx']
          exact h
    · rw [if_neg hk]; exact h
theorem closL_has {cells : List (Str × Addr)} {x : Str} {d : Addr} (hd : cells.lookup x = some d) : ∀ {names : List (Str × NameKind)} {cs : List (Str × Addr)}, (x, NameKind.free) ∈ names → ∃ c, (closL cells names cs).lookup x = some c
  | [], _, h => nomatch h
  | (n, k) :: r, cs, h => by
    unfold closL
    rcases List.mem_cons.mp h with e | e
    · cases e
      refine closL_keep (names := r) ⟨d, ?_⟩
      rw [if_pos (by rfl), hd]
      simp only [List.lookup_cons, beq_self_eq_true]
    · exact closL_has hd e
end L3
namespace L3
open PySem
open Sem (wp)
section
variable {prog : Program} {w : World} {A : Around} {R : Result → Shared → Prop} {s : Shared}
abbrev testsOf (ifs : List Expr) (env : Env) : Sem Bool := forIn ifs true fun c r => if r = true then do let ok ← isTrue c env (eval c env); pure (ForInStep.yield ok) else pure (ForInStep.yield r)
theorem comp_loop {elt tg iter : Expr} {ifs : List Expr} {scope : Scope} {pos : Pos} {it acc : Value} {env : Env} (I : Nat → Shared → Prop)
    (turn : ∀ n s, I n s → wpAny (model prog w) A (pyNext it) (fun r s1 => match r with
      | none => R (.ok .next) s1
      | some v => wpAny (model prog w) A (letOwnedTupleGo tg it v) (fun _ s2 => wpAny (model prog w) A (assign tg env v) (fun _ s3 => wpAny (model prog w) A (testsOf ifs env) (fun ok s4 =>
          if ok = true then wpAny (model prog w) A (eval elt env) (fun x s5 => wpAny (model prog w) A (call (.builtin "list.append") [acc, x]) (fun _ s6 => ∃ m, m < n ∧ I m s6) (fun _ _ => False) s5) (fun _ _ => False) s4
          else ∃ m, m < n ∧ I m s4) (fun _ _ => False) s3) (fun _ _ => False) s2) (fun _ _ => False) s1) (fun _ _ => False) s)
    (n : Nat) (h : I n s) : codeAny (model prog w) A (.compLoop (.ListComp elt [⟨tg, iter, ifs, 0⟩] scope pos) 0 it acc env) R s := by
  refine codeAny_loop rfl I (fun n s hI => ?_) n h
  show wpAny _ A ((compTurn (.ListComp elt [⟨tg, iter, ifs, 0⟩] scope pos) 0 it acc env).onRaise (fun x => do noteFrame x env; theTreesLotGoes x)) _ _ s
  refine wpAny_noted ?_
  rw [compTurn_list]
  refine wpAny_bind (wpAny_standAt (wpAny_bind (wpAny_mono (turn n s hI) (fun r s1 h1 => ?_) fun _ _ z => z.elim)))
  cases r with
  | none => exact wpAny_pure h1
  | some v =>
    refine wpAny_bind (wpAny_mono h1 (fun _ s2 h2 => ?_) fun _ _ z => z.elim)
    refine wpAny_bind (wpAny_mono h2 (fun _ s3 h3 => wpAny_bind (wpAny_mono h3 (fun ok s4 h4 => ?_) fun _ _ z => z.elim)) fun _ _ z => z.elim)
    cases ok with
    | false => exact wpAny_pure ⟨rfl, h4⟩
    | true =>
      refine wpAny_bind (wpAny_bind (wpAny_mono h4 (fun x s5 h5 => wpAny_bind (wpAny_mono h5 (fun _ s6 h6 => wpAny_pure (wpAny_pure ⟨rfl, h6⟩)) fun _ _ z => z.elim)) fun _ _ z => z.elim))
end
end L3
namespace L3
open PySem
def compOk (sc0 scope : Scope) (N N' : List Str) (sh : List Nat) : Bool :=
  (scope.kind == .function) && (scope.names.all fun y => y.2 != .cell && ((y.2 != .local || scope.names.lookup y.1 == some .local) && (y.2 != .free || sc0.names.lookup y.1 == some .cell))) &&
    ((N'.take N.length == N) && N.zipIdx.all fun p => scope.names.lookup p.1 != some .local || sh.contains p.2)
structure CompParts (sc0 scope : Scope) (N N' : List Str) (sh : List Nat) : Prop where
  kind : scope.kind = .function
  cell : ∀ y ∈ scope.names, y.2 ≠ .cell
  loc : ∀ y ∈ scope.names, y.2 = .local → scope.names.lookup y.1 = some .local
  free : ∀ y ∈ scope.names, y.2 = .free → sc0.names.lookup y.1 = some .cell
  pre : N'.take N.length = N
  shad : ∀ (i : Nat) (x : Str), N[i]? = some x → scope.names.lookup x = some .local → i ∈ sh
theorem compOk_parts {sc0 scope : Scope} {N N' : List Str} {sh : List Nat} (h : compOk sc0 scope N N' sh = true) : CompParts sc0 scope N N' sh := by
  unfold compOk at h
  rw [Bool.and_eq_true, Bool.and_eq_true, Bool.and_eq_true] at h
  obtain ⟨⟨h1, h2⟩, h3, h4⟩ := h
  rw [List.all_eq_true] at h2 h4
  have q : ∀ y ∈ scope.names, y.2 ≠ .cell ∧ (y.2 = .local → scope.names.lookup y.1 = some .local) ∧ (y.2 = .free → sc0.names.lookup y.1 = some .cell) := fun y hy => by
    have := h2 y hy
    rw [Bool.and_eq_true, Bool.and_eq_true] at this
    obtain ⟨a, b, c⟩ := this
    refine ⟨by simpa using a, fun e => ?_, fun e => ?_⟩
    · rw [e] at b; simpa using b
    · rw [e] at c; simpa using c
  refine ⟨by simpa using h1, fun y hy => (q y hy).1, fun y hy => (q y hy).2.1, fun y hy => (q y hy).2.2, by simpa using h3, fun i x e l => ?_⟩
  have := h4 (x, i) (by rw [List.mem_zipIdx_iff_getElem?]; simpa using e)
  simp only [l] at this
  simpa using this
theorem relab_inv {env : Env} {x : Str} {k : NameKind} : ∀ {names : List (Str × NameKind)}, (names.map fun (n, k) => if (k == NameKind.free && env.scope.kind == .function && env.kindOf n == some .cell) then (n, NameKind.cell) else (n, k)).lookup x = some k →
    ∃ k0, names.lookup x = some k0 ∧ (k = k0 ∨ (k0 = .free ∧ k = .cell))
  | [], h => by simp at h
  | (n, k1) :: r, h => by
    have ih := @relab_inv env x k r
    rw [List.map_cons] at h
    dsimp only at h
    by_cases hx : (x == n) = true
    · refine ⟨k1, by simp only [List.lookup_cons, hx], ?_⟩
      by_cases hc : (k1 == NameKind.free && env.scope.kind == .function && env.kindOf n == some .cell) = true
      · rw [if_pos hc] at h
        simp only [List.lookup_cons, hx] at h
        have : k1 = .free := by
          rw [Bool.and_eq_true, Bool.and_eq_true] at hc
          simpa using hc.1.1
        exact .inr ⟨this, (Option.some.inj h).symm⟩
      · rw [if_neg hc] at h
        simp only [List.lookup_cons, hx] at h
        exact .inl (Option.some.inj h).symm
    · have hx' : (x == n) = false := by simpa using hx
      by_cases hc : (k1 == NameKind.free && env.scope.kind == .function && env.kindOf n == some .cell) = true
      · rw [if_pos hc] at h
        simp only [List.lookup_cons, hx'] at h ⊢
        exact ih h
      · rw [if_neg hc] at h
        simp only [List.lookup_cons, hx'] at h ⊢
        exact ih h
theorem mem_of_look {x : Str} {k : NameKind} : ∀ {names : List (Str × NameKind)}, names.lookup x = some k → (x, k) ∈ names
  | [], h => by simp at h
  | (n, k1) :: r, h => by
    by_cases hx : (x == n) = true
    · have e : x = n := by simpa using hx
      subst e
      simp only [List.lookup_cons, beq_self_eq_true] at h
      cases h
      exact List.mem_cons_self
    · have hx' : (x == n) = false := by simpa using hx
      simp only [List.lookup_cons, hx'] at h
      exact List.mem_cons_of_mem _ (mem_of_look h)
def blank {α : Type} (sh : List Nat) (σ : List (Option α)) : List (Option α) := sh.foldl (fun σ i => σ.set i none) σ
theorem blank_length {α : Type} : ∀ (sh : List Nat) (σ : List (Option α)), (blank sh σ).length = σ.length
  | [], _ => rfl
  | j :: sh, σ => by
    show (blank sh (σ.set j none)).length = _
    rw [blank_length sh, List.length_set]
theorem blank_get {α : Type} {i : Nat} {v : α} : ∀ {sh : List Nat} {σ : List (Option α)}, (blank sh σ)[i]? = some (some v) → i ∉ sh ∧ σ[i]? = some (some v)
  | [], σ, h => ⟨by simp, h⟩
  | j :: sh, σ, h => by
    have h' : (blank sh (σ.set j none))[i]? = some (some v) := h
    obtain ⟨h1, h2⟩ := blank_get h'
    by_cases e : j = i
    · subst e
      rw [List.getElem?_set] at h2
      simp at h2
    · rw [List.getElem?_set_ne e] at h2
      exact ⟨fun z => (List.mem_cons.mp z).elim (fun q => e q.symm) h1, h2⟩
end L3
namespace L3
open PySem
open Sem (wp)
section
variable {prog : Program} {w : World} {A : Around} {E : Value → Shared → Prop} {s : Shared}
structure AtT (it t : Addr) (xs : Array Value) (i : Nat) (h : Heap) : Prop where
  iter : h.IsTupleIter it t i
  tup : h.IsTuple t xs
theorem AtT.move {it t b : Addr} {xs : Array Value} {i : Nat} {h h' : Heap} (a : AtT it t xs i h) (k : Heap.ExtBut b h h') (h1 : it ≠ b) (h2 : t ≠ b) : AtT it t xs i h' := ⟨a.iter.extBut k h1, a.tup.extBut k h2⟩
theorem AtT.keeps {it t : Addr} {xs : Array Value} {i : Nat} {h h' : Heap} (a : AtT it t xs i h) (k1 : ∀ o, h.get? it = some o → h'.get? it = some o) (k2 : ∀ o, h.get? t = some o → h'.get? t = some o) : AtT it t xs i h' :=
  ⟨a.iter.at k1, let ⟨o, ho, r⟩ := a.tup; ⟨o, k2 o ho, r⟩⟩
theorem tnext_item {it t : Addr} {i : Nat} {xs : Array Value} {x : Value} {Q : Value → Shared → Prop} (a : AtT it t xs i s.heap) (hne : t ≠ it) (hx : xs[i]? = some x)
    (hQ : ∀ h', AtT it t xs (i + 1) h' → Heap.SameBut it s.heap h' → Q x { s with heap := h' }) : wpAny (model prog w) A (Builtin.SmallTypes.nextOf (.ref it)) Q E s := by
  obtain ⟨hit, ht⟩ := a
  have ht0 := ht
  obtain ⟨o, ho, hc, hd⟩ := id hit
  obtain ⟨ol, hol, _, nl, hdl⟩ := ht
  unfold Builtin.SmallTypes.nextOf
  refine wpAny_bind (wpAny_callSpecial?_slot (name := Str.ofString "__next__") hit.typeIs F.slot_tuple_iterator_next (wpAny_call_entry F.slot_tuple_iterator_next hit.typeIs F.entry_tuple_iterator_next ?_ (F.args_tuple_iterator_next_1 _)))
  show wpAny _ _ (field (.ref it) 0 >>= _) _ _ s
  refine wpAny_bind (wpAny_field ho hd (x := .ref t) rfl ?_)
  show wpAny _ _ (if (Value.ref t == Value.none) = true then _ else _) _ _ s
  rw [if_neg (show ¬ ((Value.ref t == Value.none) = true) from Bool.false_ne_true)]
  show wpAny _ _ (field (.ref it) 1 >>= _) _ _ s
  refine wpAny_bind (wpAny_field ho hd (x := .int i 0) rfl ?_)
  show wpAny _ _ (seqItems? (.ref t) >>= _) _ _ s
  refine wpAny_bind (wpAny_seqItems hol hdl ?_)
  simp only [Int.toNat_natCast, hx]
  refine wpAny_bind (wpAny_setField ho hd (by simp) (wpAny_pure ⟨x, rfl, wpAny_pure (hQ _ ⟨?_, ht0.extBut (Heap.SameBut.update ..).extBut hne⟩ (Heap.SameBut.update ..))⟩))
  refine ⟨_, Heap.get?_update_self _ ho (Obj.isFreed_of_fields (Obj.data_mapFields hd _)), (Obj.cls_mapFields ..).trans hc, ?_⟩
  rw [Obj.data_mapFields hd]; simp [rawInt]
theorem tnext_end {it t : Addr} {i : Nat} {xs : Array Value} {Q : Value → Shared → Prop} (hh : A.handled = none) (a : AtT it t xs i s.heap) (hx : xs[i]? = none)
    (hE : ∀ h' e, Heap.ExtBut it s.heap h' → (∃ o, h'.get? e = some o ∧ o.cls = .type "StopIteration") → E (.ref e) { s with heap := h' }) : wpAny (model prog w) A (Builtin.SmallTypes.nextOf (.ref it)) Q E s := by
  obtain ⟨hit, ht⟩ := a
  obtain ⟨o, ho, hc, hd⟩ := id hit
  obtain ⟨ol, hol, _, nl, hdl⟩ := ht
  unfold Builtin.SmallTypes.nextOf
  refine wpAny_bind (wpAny_callSpecial?_slot (name := Str.ofString "__next__") hit.typeIs F.slot_tuple_iterator_next (wpAny_call_entry F.slot_tuple_iterator_next hit.typeIs F.entry_tuple_iterator_next ?_ (F.args_tuple_iterator_next_1 _)))
  show wpAny _ _ (field (.ref it) 0 >>= _) _ _ s
  refine wpAny_bind (wpAny_field ho hd (x := .ref t) rfl ?_)
  show wpAny _ _ (if (Value.ref t == Value.none) = true then _ else _) _ _ s
  rw [if_neg (show ¬ ((Value.ref t == Value.none) = true) from Bool.false_ne_true)]
  show wpAny _ _ (field (.ref it) 1 >>= _) _ _ s
  refine wpAny_bind (wpAny_field ho hd (x := .int i 0) rfl ?_)
  show wpAny _ _ (seqItems? (.ref t) >>= _) _ _ s
  refine wpAny_bind (wpAny_seqItems hol hdl ?_)
  simp only [Int.toNat_natCast, hx]
  refine wpAny_bind (wpAny_rule (wpAny_bind (wpAny_setField ho hd (by simp) ?_)))
  show wpAny _ _ (newExc (.type "StopIteration") [] >>= _) _ _ _
  refine wpAny_bind ?_
  simp only [newExc, newTuple]
  refine wpAny_bind (wpAny_newObj_type ?_ (by size_fits))
  refine wpAny_bind (m := firstArgMember _ _) (wpAny_of_eq (a := Value.none) (by first | rfl | (simp only [firstArgMember]; rfl)) ?_)
  refine wpAny_newObj_type ?_ (by size_fits)
  simp only [raiseNew]
  refine wpAny_bind (wpAny_handled ?_)
  first | rw [show A.in1.handled = none from hh] | rw [hh]
  refine wpAny_bind (wpAny_pure (wpAny_throw ?_))
  exact hE _ _ (((Heap.SameBut.update ..).extBut.push _).push _) ⟨_, Heap.get?_push_size _ rfl, rfl⟩
theorem enumT_next {e it t : Addr} {i : Nat} {xs : Array Value} {x old : Value} {Q : Value → Shared → Prop} (he : IsEnum s.heap e it i old) (a : AtT it t xs i s.heap) (hx : xs[i]? = some x) (hne : e ≠ it) (hte : t ≠ e) (hti : t ≠ it)
    (hQ : ∀ h', IsEnumOut h' e it ((i : Int) + 1) x s.heap.objs.size → AtT it t xs (i + 1) h' → h'.get? s.heap.objs.size = some { cls := .type "tuple", data := .seq #[.int i s.toks, x] } → h'.objs.size = s.heap.objs.size + 1 →
      (∀ b o, b ≠ e → b ≠ it → s.heap.get? b = some o → h'.get? b = some o) → Q (.ref s.heap.objs.size) { s with heap := h', toks := s.toks + 1 }) :
    wpAny (model prog w) A (Builtin.«enumerate.__next__» ⟨[.ref e], []⟩) (fun fin s' => ∃ v, fin = .done (.ret v) ∧ Q v s') E s := by
  obtain ⟨hp, g, d, tk, os⟩ := s
  show wpAny _ _ (field (.ref e) 2 >>= _) _ _ _
  refine wpAny_bind (wpAny_field he rfl (x := .ref it) rfl ?_)
  refine wpAny_bind (tnext_item a hti hx fun h1 a1 k1 => ?_)
  replace k1 : Heap.SameBut it hp h1 := k1
  have e1 : IsEnum h1 e it i old := (k1.2 e hne).trans he
  show wpAny _ _ (field (.ref e) 3 >>= _) _ _ ⟨h1, g, d, tk, os⟩
  refine wpAny_bind (wpAny_field e1 rfl (x := rawInt i) rfl ?_)
  show wpAny _ _ (field (.ref e) 4 >>= _) _ _ ⟨h1, g, d, tk, os⟩
  refine wpAny_bind (wpAny_field e1 rfl (x := .none) rfl ?_)
  show wpAny _ _ (mkInt i >>= _) _ _ ⟨h1, g, d, tk, os⟩
  refine wpAny_bind (wpAny_mkInt ?_)
  show wpAny _ _ (setField (.ref e) 3 (rawInt ((i : Int) + 1)) >>= _) _ _ ⟨h1, g, d, tk + 1, os⟩
  refine wpAny_bind (wpAny_setField_rec e1 (by simp) fun h2 e2 k2 => ?_)
  replace k2 : Heap.SameBut e h1 h2 := k2
  replace e2 : IsEnum h2 e it ((i : Int) + 1) old := e2
  show wpAny _ _ (setField (.ref e) 4 .none >>= _) _ _ ⟨h2, g, d, tk + 1, os⟩
  refine wpAny_bind (wpAny_setField_rec e2 (by simp) fun h3 e3 k3 => ?_)
  replace k3 : Heap.SameBut e h2 h3 := k3
  replace e3 : IsEnum h3 e it ((i : Int) + 1) old := e3
  show wpAny _ _ (newTuple [.int i tk, x] >>= _) _ _ ⟨h3, g, d, tk + 1, os⟩
  refine wpAny_bind (wpAny_newTuple ?_)
  have e4 : IsEnum (h3.push { cls := .type "tuple", data := .seq #[.int i tk, x] }) e it ((i : Int) + 1) old := Heap.get?_push_of_some _ e3
  generalize q4 : h3.push { cls := .type "tuple", data := .seq #[.int i tk, x] } = h4 at e4
  have sz : h3.objs.size = hp.objs.size := by rw [k3.1, k2.1, k1.1]
  have el : e < hp.objs.size := Heap.lt_size he
  have t4 : h4.get? hp.objs.size = some { cls := .type "tuple", data := .seq #[.int i tk, x] } := by rw [← q4, ← sz]; exact Heap.get?_push_size _ rfl
  have z4 : h4.objs.size = hp.objs.size + 1 := by rw [← q4, Heap.size_push, sz]
  have k4 : ∀ b o, b ≠ e → b ≠ it → hp.get? b = some o → h4.get? b = some o := fun b o n1 n2 hb => by
    rw [← q4]; exact Heap.get?_push_of_some _ (k3.extBut b o n1 (k2.extBut b o n1 (k1.extBut b o n2 hb)))
  have a4 : AtT it t xs (i + 1) h4 := by
    rw [← q4]
    exact ((a1.move k2.extBut hne.symm hte).move k3.extBut hne.symm hte).keeps (fun o ho => Heap.get?_push_of_some _ ho) fun o ho => Heap.get?_push_of_some _ ho
  show wpAny _ _ (Builtin.SmallTypes.ownedTupleIsFree (.ref e) >>= _) _ _ ⟨h4, g, d, tk + 1, os⟩
  rw [sz]
  clear q4 e3 k3 e2 k2 e1 k1 a1 sz h3 h2 h1
  refine wpAny_bind ?_
  unfold Builtin.SmallTypes.ownedTupleIsFree
  refine wpAny_bind (wpAny_field e4 rfl (x := .none) rfl (wpAny_pure ?_))
  simp only [if_true]
  refine wpAny_bind (wpAny_rule ?_)
  refine wpAny_bind (wpAny_field e4 rfl (x := old) rfl ?_)
  refine wpAny_bind (wpAny_setField_rec e4 (by simp) fun h5 e5 k5 => ?_)
  replace k5 : Heap.SameBut e h4 h5 := k5
  replace e5 : IsEnum h5 e it ((i : Int) + 1) x := e5
  show wpAny _ _ (Builtin.SmallTypes.ownedTupleHandOut (.ref e) (.ref hp.objs.size) >>= _) _ _ ⟨h5, g, d, tk + 1, os⟩
  refine wpAny_bind ?_
  unfold Builtin.SmallTypes.ownedTupleHandOut
  refine wpAny_bind (wpAny_setField_rec e5 (by simp) fun h6 e6 k6 => ?_)
  replace k6 : Heap.SameBut e h5 h6 := k6
  replace e6 : IsEnumOut h6 e it ((i : Int) + 1) x hp.objs.size := e6
  refine wpAny_setField_rec e6 (by simp) fun h7 e7 k7 => ?_
  replace k7 : Heap.SameBut e h6 h7 := k7
  replace e7 : IsEnumOut h7 e it ((i : Int) + 1) x hp.objs.size := e7
  have up : ∀ b o, b ≠ e → h4.get? b = some o → h7.get? b = some o := fun b o n q => k7.extBut b o n (k6.extBut b o n (k5.extBut b o n q))
  refine wpAny_bind (wpAny_letGo (wpAny_pure ⟨_, rfl, hQ h7 e7 (a4.keeps (fun o q => up _ o hne.symm q) fun o q => up _ o hte q) (up _ _ (Nat.ne_of_gt el) t4) ?_ fun b o n1 n2 q => up b o n1 (k4 b o n1 n2 q)⟩))
  rw [k7.1, k6.1, k5.1, z4]
theorem enumT_pyNext {e it t : Addr} {i : Nat} {xs : Array Value} {x old : Value} {Q : Option Value → Shared → Prop} (he : IsEnum s.heap e it i old) (a : AtT it t xs i s.heap) (hx : xs[i]? = some x) (hne : e ≠ it) (hte : t ≠ e) (hti : t ≠ it)
    (hQ : ∀ h', IsEnumOut h' e it ((i : Int) + 1) x s.heap.objs.size → AtT it t xs (i + 1) h' → h'.get? s.heap.objs.size = some { cls := .type "tuple", data := .seq #[.int i s.toks, x] } → h'.objs.size = s.heap.objs.size + 1 →
      (∀ b o, b ≠ e → b ≠ it → s.heap.get? b = some o → h'.get? b = some o) → Q (some (.ref s.heap.objs.size)) { s with heap := h', toks := s.toks + 1 }) :
    wpAny (model prog w) A (pyNext (.ref e)) Q E s := by
  have hT : s.TypeIs (.ref e) "enumerate" := ⟨_, he, rfl⟩
  unfold pyNext
  exact wpAny_bind (wpAny_attempt (wpAny_callSpecial?_slot (name := Str.ofString "__next__") hT F.slot_enumerate_next (wpAny_call_entry F.slot_enumerate_next hT F.entry_enumerate_next
    (enumT_next he a hx hne hte hti fun h' p1 p2 p3 p4 p5 => wpAny_pure (hQ h' p1 p2 p3 p4 p5)) (F.args_enumerate_next_1 _))))
theorem enumT_pyEnd {e it t : Addr} {i : Nat} {xs : Array Value} {old : Value} {Q : Option Value → Shared → Prop} (hh : A.handled = none) (he : IsEnum s.heap e it i old) (a : AtT it t xs i s.heap) (hx : xs[i]? = none)
    (hQ : ∀ h', Heap.ExtBut it s.heap h' → Q none { s with heap := h' }) : wpAny (model prog w) A (pyNext (.ref e)) Q E s := by
  have hT : s.TypeIs (.ref e) "enumerate" := ⟨_, he, rfl⟩
  unfold pyNext
  refine wpAny_bind (wpAny_attempt (wpAny_callSpecial?_slot (name := Str.ofString "__next__") hT F.slot_enumerate_next (wpAny_call_entry F.slot_enumerate_next hT F.entry_enumerate_next ?_ (F.args_enumerate_next_1 _))))
  show wpAny _ _ (field (.ref e) 2 >>= _) _ _ _
  refine wpAny_bind (wpAny_field he rfl (x := .ref it) rfl ?_)
  refine wpAny_bind (tnext_end hh a hx fun h' x he' hx' => ?_)
  obtain ⟨o, ho, hc⟩ := hx'
  exact wpAny_bind (wpAny_isInstance (T := "StopIteration") (b := true) ⟨o, ho, hc⟩ isSubtype_stop (wpAny_pure (hQ _ he')))
end
end L3
namespace L3
open PySem
open Sem (wp)
open AutoSeq1 (wpAny_loadPart')
set_option maxRecDepth 100000
abbrev tupIt (t : Addr) : Obj := { cls := .type "tuple_iterator", data := .fields #[.ref t, .int 0 0] }
theorem enumT_new (t : Addr) (xs : Array Value) (n : Nat) (dct : Option Addr) (sl : Array (Option Value)) :
    Meets (Builtin.«enumerate.__new__» ⟨[.type "enumerate", .ref t], []⟩) (fun _ R s => s.heap.get? t = some { cls := .type "tuple", dict := dct, data := .seq xs n, slots := sl } ∧
      R (.ok (.ret (.ref (s.heap.push (tupIt t)).objs.size))) { s with heap := (s.heap.push (tupIt t)).push { cls := .type "enumerate", data := .fields #[.none, .bool false, .ref s.heap.objs.size, rawInt 0, .none, .none] } }) :=
  .of_wp fun prog w A R s h => by
    obtain ⟨hp, g, d, tk, os⟩ := s; obtain ⟨ht, h⟩ := h
    have hsub := sub_enumerate
    have hT : Heap.IsTuple (Shared.heap ⟨hp, g, d, tk, os⟩) t xs := ⟨_, ht, rfl, n, rfl⟩
    wp_walk using wpAny_loadPart' ht
    refine wpAny_stack_any fun st => wpAny_pure ?_
    split
    · rename_i c _ _ _ _ _
      cases (c == Value.type "enumerate")
      · wp_walk using wpAny_loadPart' ht, wpAny_pyIter_tuple hT
        exact ⟨_, rfl, h⟩
      · wp_walk using wpAny_loadPart' ht, wpAny_pyIter_tuple hT
        exact ⟨_, rfl, h⟩
    · wp_walk using wpAny_loadPart' ht, wpAny_pyIter_tuple hT
      exact ⟨_, rfl, h⟩
section
variable {prog : Program} {w : World} {A : Around} {E : Value → Shared → Prop} {s : Shared}
theorem call_enumT {t : Addr} {xs : Array Value} {Q : Value → Shared → Prop} (hT : s.heap.IsTuple t xs)
    (h : ∀ h', IsEnum h' (s.heap.objs.size + 1) s.heap.objs.size 0 .none → AtT s.heap.objs.size t xs 0 h' → h'.objs.size = s.heap.objs.size + 2 → (∀ b o, s.heap.get? b = some o → h'.get? b = some o) →
      Q (.ref (s.heap.objs.size + 1)) { s with heap := h' }) : wpAny (model prog w) A (call (.type "enumerate") [.ref t]) Q E s := by
  have hT0 := hT
  obtain ⟨⟨c, dct, dt, sl⟩, hl, hc, n, hd⟩ := hT
  replace hc : c = .type "tuple" := hc
  replace hd : dt = .seq xs n := hd
  subst hc hd
  refine callType_new F.called_enumerate (by decide) (F.typeCall_enumerate_1 _) (F.newCall_enumerate_1 _) (fun obj => F.args_object_init_2 obj _) F.entry_enumerate_new (enumT_new t xs n dct sl) ⟨hl, ?_⟩
  have hz : (s.heap.push (tupIt t)).objs.size = s.heap.objs.size + 1 := Heap.size_push ..
  show _ ∧ _
  rw [hz]
  have he : IsEnum ((s.heap.push (tupIt t)).push { cls := .type "enumerate", data := .fields #[.none, .bool false, .ref s.heap.objs.size, rawInt 0, .none, .none] }) (s.heap.objs.size + 1) s.heap.objs.size 0 .none := by
    have q := Heap.get?_push_size (s.heap.push (tupIt t)) (o := { cls := .type "enumerate", data := .fields #[.none, .bool false, .ref s.heap.objs.size, rawInt 0, .none, .none] }) rfl
    rw [hz] at q; exact q
  exact ⟨⟨_, he, rfl⟩, h _ he ⟨⟨_, Heap.get?_push_of_some _ (Heap.get?_push_size _ rfl), rfl, rfl⟩, (hT0.push _).push _⟩ (by rw [Heap.size_push, hz]) fun b o x => Heap.get?_push_of_some _ (Heap.get?_push_of_some _ x)⟩
structure ZipAt (z TI TO i1 i2 t1 t2 : Addr) (xs ys : Array Value) (i : Nat) (f0 : Value) (h : Heap) : Prop where
  z : IsZip h z TI TO f0
  TI : IsPair h TI (.ref i1) (.ref i2)
  TO : ∃ a b, IsPair h TO a b
  one : AtT i1 t1 xs i h
  two : AtT i2 t2 ys i h
theorem ZipAt.keeps {z TI TO i1 i2 t1 t2 : Addr} {xs ys : Array Value} {i : Nat} {f0 : Value} {h h' : Heap} (Z : ZipAt z TI TO i1 i2 t1 t2 xs ys i f0 h) (k : ∀ b ∈ [z, TI, TO, i1, i2], ∀ o, h.get? b = some o → h'.get? b = some o)
    (k1 : ∀ o, h.get? t1 = some o → h'.get? t1 = some o) (k2 : ∀ o, h.get? t2 = some o → h'.get? t2 = some o) : ZipAt z TI TO i1 i2 t1 t2 xs ys i f0 h' :=
  ⟨k z (by simp) _ Z.z, k TI (by simp) _ Z.TI, let ⟨a, b, q⟩ := Z.TO; ⟨a, b, k TO (by simp) _ q⟩, Z.one.keeps (k i1 (by simp)) k1, Z.two.keeps (k i2 (by simp)) k2⟩
theorem zipT_next {z TI TO i1 i2 t1 t2 : Addr} {xs ys : Array Value} {i : Nat} {x y : Value} {Q : Value → Shared → Prop} (D : ZipApart z TI TO i1 i2 t1 t2) (Z : ZipAt z TI TO i1 i2 t1 t2 xs ys i .none s.heap) (hx : xs[i]? = some x) (hy : ys[i]? = some y)
    (hQ : ∀ h', ZipAt z TI TO i1 i2 t1 t2 xs ys (i + 1) (rawInt s.heap.objs.size) h' → IsPair h' s.heap.objs.size x y → h'.objs.size = s.heap.objs.size + 1 →
      (∀ c o, c ≠ z → c ≠ TO → c ≠ i1 → c ≠ i2 → s.heap.get? c = some o → h'.get? c = some o) → Q (.ref s.heap.objs.size) { s with heap := h' }) :
    wpAny (model prog w) A (Builtin.«zip.__next__» ⟨[.ref z], []⟩) (fun fin s' => ∃ v, fin = .done (.ret v) ∧ Q v s') E s := by
  obtain ⟨hz, hTI, ⟨a, b, hTO⟩, h1, h2⟩ := Z
  show wpAny _ _ (field (.ref z) 2 >>= _) _ _ _
  refine wpAny_bind (wpAny_field hz rfl (x := .bool false) rfl ?_)
  show wpAny _ _ (field (.ref z) 3 >>= _) _ _ _
  refine wpAny_bind (wpAny_field hz rfl (x := .ref TI) rfl ?_)
  refine wpAny_bind (wpAny_seqItems hTI rfl ?_)
  show wpAny _ _ (Builtin.SmallTypes.ownedTupleIsFree (.ref z) >>= _) _ _ _
  refine wpAny_bind ?_
  unfold Builtin.SmallTypes.ownedTupleIsFree
  refine wpAny_bind (wpAny_field hz rfl (x := .none) rfl (wpAny_pure ?_))
  simp only [if_true]
  refine wpAny_bind (wpAny_rule (wpAny_bind (wpAny_field hz rfl (x := .ref TO) rfl (wpAny_bind (wpAny_setField_rec hz (by simp) fun g1 z1 k1 => ?_)))))
  replace z1 : IsZip g1 z TI TO .ellipsis := z1
  refine wpAny_bind ?_
  simp only [List.forIn_cons, List.forIn_nil, List.zipIdx_cons, List.zipIdx_nil]
  refine wpAny_bind (wpAny_bind (wpAny_onRaise ?_))
  show wpAny _ _ (Builtin.SmallTypes.nextOf (.ref i1) >>= _) _ _ _
  refine wpAny_bind (tnext_item (h1.move k1.extBut D.i1z D.l1z) D.l1i1 hx fun g2 p2 k2 => wpAny_pure ?_)
  have O2 : IsPair g2 TO a b := k2.extBut _ _ D.TOi1 (k1.extBut _ _ D.TOz hTO)
  refine wpAny_bind (wpAny_seqItems O2 rfl (wpAny_bind (wpAny_updateSeq_pair O2 fun g3 O3 k3 => ?_)))
  replace O3 : IsPair g3 TO x b := O3
  refine wpAny_bind (wpAny_letGo (wpAny_pure (wpAny_bind (wpAny_bind (wpAny_onRaise ?_)))))
  show wpAny _ _ (Builtin.SmallTypes.nextOf (.ref i2) >>= _) _ _ _
  refine wpAny_bind (tnext_item (((h2.move k1.extBut D.i2z D.l2z).move k2.extBut D.i12.symm D.l2i1).move k3.extBut D.TOi2.symm D.l2TO) D.l2i2 hy fun g4 p4 k4 => wpAny_pure ?_)
  have O4 : IsPair g4 TO x b := k4.extBut _ _ D.TOi2 O3
  refine wpAny_bind (wpAny_seqItems O4 rfl (wpAny_bind (wpAny_updateSeq_pair O4 fun g5 O5 k5 => ?_)))
  replace O5 : IsPair g5 TO x y := O5
  refine wpAny_bind (wpAny_letGo (wpAny_pure (wpAny_pure (wpAny_bind (wpAny_seqItems O5 rfl (wpAny_bind (wpAny_newTuple ?_)))))))
  have sz : g5.objs.size = s.heap.objs.size := by rw [k5.1, k4.1, k3.1, k2.1, k1.1]
  have z5 : IsZip g5 z TI TO .ellipsis := k5.extBut _ _ D.TOz.symm (k4.extBut _ _ D.i2z.symm (k3.extBut _ _ D.TOz.symm (k2.extBut _ _ D.i1z.symm z1)))
  have kp5 : ∀ c o, c ≠ z → c ≠ TO → c ≠ i1 → c ≠ i2 → s.heap.get? c = some o → g5.get? c = some o := fun c o c1 c2 c3 c4 e => k5.extBut _ _ c2 (k4.extBut _ _ c4 (k3.extBut _ _ c2 (k2.extBut _ _ c3 (k1.extBut _ _ c1 e))))
  have a5 : AtT i1 t1 xs (i + 1) g5 := ((p2.move k3.extBut D.TOi1.symm D.l1TO).move k4.extBut D.i12 D.l1i2).move k5.extBut D.TOi1.symm D.l1TO
  have b5 : AtT i2 t2 ys (i + 1) g5 := p4.move k5.extBut D.TOi2.symm D.l2TO
  have zlt : z < g5.objs.size := Heap.lt_size z5
  show wpAny _ _ (Builtin.SmallTypes.ownedTupleHandOut (.ref z) (.ref g5.objs.size) >>= _) _ _ _
  refine wpAny_bind ?_
  unfold Builtin.SmallTypes.ownedTupleHandOut
  have z6 : IsZip (g5.push { cls := .type "tuple", data := .seq #[x, y] }) z TI TO .ellipsis := Heap.get?_push_of_some _ z5
  refine wpAny_bind (wpAny_setField_rec z6 (by simp) fun g7 z7 k7 => ?_)
  replace z7 : IsZip g7 z TI TO (rawInt g5.objs.size) := z7
  refine wpAny_setField_rec z7 (by simp) fun g8 z8 k8 => ?_
  replace z8 : IsZip g8 z TI TO (rawInt g5.objs.size) := z8
  have up : ∀ c o, c ≠ z → g5.get? c = some o → g8.get? c = some o := fun c o c1 e => k8.extBut _ _ c1 (k7.extBut _ _ c1 (Heap.get?_push_of_some _ e))
  have T8 : IsPair g8 g5.objs.size x y := k8.extBut _ _ (Nat.ne_of_gt zlt) (k7.extBut _ _ (Nat.ne_of_gt zlt) (Heap.get?_push_size _ rfl))
  have s8 : g8.objs.size = g5.objs.size + 1 := by rw [k8.1, k7.1, Heap.size_push]
  rw [sz] at z8 T8 s8
  refine wpAny_pure ⟨_, rfl, ?_⟩
  show Q (.ref g5.objs.size) _
  rw [sz]
  exact hQ g8 ⟨z8, up _ _ D.TIz (kp5 _ _ D.TIz D.TITO D.TIi1 D.TIi2 hTI), ⟨x, y, up _ _ D.TOz O5⟩, a5.keeps (fun o q => up _ o D.i1z q) (fun o q => up _ o D.l1z q), b5.keeps (fun o q => up _ o D.i2z q) fun o q => up _ o D.l2z q⟩ T8 s8
    fun c o c1 c2 c3 c4 e => up c o c1 (kp5 c o c1 c2 c3 c4 e)
theorem zipT_stop {z TI TO i1 i2 t1 t2 : Addr} {xs ys : Array Value} {i : Nat} {Q : Fin → Shared → Prop} (hh : A.handled = none) (D : ZipApart z TI TO i1 i2 t1 t2) (Z : ZipAt z TI TO i1 i2 t1 t2 xs ys i .none s.heap) (hend : xs[i]? = none ∨ ys[i]? = none)
    (hE : ∀ h' e, (∀ c o, c ≠ z → c ≠ TO → c ≠ i1 → c ≠ i2 → s.heap.get? c = some o → h'.get? c = some o) → (∃ o, h'.get? e = some o ∧ o.cls = .type "StopIteration") → E (.ref e) { s with heap := h' }) :
    wpAny (model prog w) A (Builtin.«zip.__next__» ⟨[.ref z], []⟩) Q E s := by
  obtain ⟨hz, hTI, ⟨a, b, hTO⟩, h1, h2⟩ := Z
  show wpAny _ _ (field (.ref z) 2 >>= _) _ _ _
  refine wpAny_bind (wpAny_field hz rfl (x := .bool false) rfl ?_)
  show wpAny _ _ (field (.ref z) 3 >>= _) _ _ _
  refine wpAny_bind (wpAny_field hz rfl (x := .ref TI) rfl ?_)
  refine wpAny_bind (wpAny_seqItems hTI rfl ?_)
  show wpAny _ _ (Builtin.SmallTypes.ownedTupleIsFree (.ref z) >>= _) _ _ _
  refine wpAny_bind ?_
  unfold Builtin.SmallTypes.ownedTupleIsFree
  refine wpAny_bind (wpAny_field hz rfl (x := .none) rfl (wpAny_pure ?_))
  simp only [if_true]
  refine wpAny_bind (wpAny_rule (wpAny_bind (wpAny_field hz rfl (x := .ref TO) rfl (wpAny_bind (wpAny_setField_rec hz (by simp) fun g1 z1 k1 => ?_)))))
  replace z1 : IsZip g1 z TI TO .ellipsis := z1
  refine wpAny_bind ?_
  simp only [List.forIn_cons, List.forIn_nil, List.zipIdx_cons, List.zipIdx_nil]
  refine wpAny_bind (wpAny_bind (wpAny_onRaise ?_))
  show wpAny _ _ (Builtin.SmallTypes.nextOf (.ref i1) >>= _) _ _ _
  cases hx : xs[i]? with
  | none =>
    refine wpAny_bind (tnext_end hh (h1.move k1.extBut D.i1z D.l1z) hx fun g2 e k2 he => ?_)
    obtain ⟨oe, hoe, hce⟩ := he
    have z2 : IsZip g2 z TI TO .ellipsis := k2 _ _ D.i1z.symm z1
    have hez : e ≠ z := fun q => by subst q; rw [z2] at hoe; cases hoe; simp at hce
    exact wpAny_setField_rec z2 (by simp) fun g3 _ k3 => hE g3 e (fun c o c1 _ c3 _ q => k3.extBut _ _ c1 (k2 _ _ c3 (k1.extBut _ _ c1 q))) ⟨oe, k3.extBut _ _ hez hoe, hce⟩
  | some x =>
    have hy : ys[i]? = none := by rcases hend with q | q; rw [hx] at q; cases q; exact q
    refine wpAny_bind (tnext_item (h1.move k1.extBut D.i1z D.l1z) D.l1i1 hx fun g2 p2 k2 => wpAny_pure ?_)
    have O2 : IsPair g2 TO a b := k2.extBut _ _ D.TOi1 (k1.extBut _ _ D.TOz hTO)
    refine wpAny_bind (wpAny_seqItems O2 rfl (wpAny_bind (wpAny_updateSeq_pair O2 fun g3 O3 k3 => ?_)))
    refine wpAny_bind (wpAny_letGo (wpAny_pure (wpAny_bind (wpAny_bind (wpAny_onRaise ?_)))))
    show wpAny _ _ (Builtin.SmallTypes.nextOf (.ref i2) >>= _) _ _ _
    refine wpAny_bind (tnext_end hh (((h2.move k1.extBut D.i2z D.l2z).move k2.extBut D.i12.symm D.l2i1).move k3.extBut D.TOi2.symm D.l2TO) hy fun g4 e k4 he => ?_)
    obtain ⟨oe, hoe, hce⟩ := he
    have z4 : IsZip g4 z TI TO .ellipsis := k4 _ _ D.i2z.symm (k3.extBut _ _ D.TOz.symm (k2.extBut _ _ D.i1z.symm z1))
    have hez : e ≠ z := fun q => by subst q; rw [z4] at hoe; cases hoe; simp at hce
    exact wpAny_setField_rec z4 (by simp) fun g5 _ k5 => hE g5 e (fun c o c1 c2 c3 c4 q => k5.extBut _ _ c1 (k4 _ _ c4 (k3.extBut _ _ c2 (k2.extBut _ _ c3 (k1.extBut _ _ c1 q))))) ⟨oe, k5.extBut _ _ hez hoe, hce⟩
theorem zipT_pyNext {z TI TO i1 i2 t1 t2 : Addr} {xs ys : Array Value} {i : Nat} {x y : Value} {Q : Option Value → Shared → Prop} (D : ZipApart z TI TO i1 i2 t1 t2) (Z : ZipAt z TI TO i1 i2 t1 t2 xs ys i .none s.heap) (hx : xs[i]? = some x) (hy : ys[i]? = some y)
    (hQ : ∀ h', ZipAt z TI TO i1 i2 t1 t2 xs ys (i + 1) (rawInt s.heap.objs.size) h' → IsPair h' s.heap.objs.size x y → h'.objs.size = s.heap.objs.size + 1 →
      (∀ c o, c ≠ z → c ≠ TO → c ≠ i1 → c ≠ i2 → s.heap.get? c = some o → h'.get? c = some o) → Q (some (.ref s.heap.objs.size)) { s with heap := h' }) : wpAny (model prog w) A (pyNext (.ref z)) Q E s := by
  have hT : s.TypeIs (.ref z) "zip" := ⟨_, Z.z, rfl⟩
  unfold pyNext
  exact wpAny_bind (wpAny_attempt (wpAny_callSpecial?_slot (name := Str.ofString "__next__") hT F.slot_zip_next (wpAny_call_entry F.slot_zip_next hT F.entry_zip_next
    (zipT_next D Z hx hy fun h' p1 p2 p3 p4 => wpAny_pure (hQ h' p1 p2 p3 p4)) (F.args_zip_next_1 _))))
theorem zipT_pyEnd {z TI TO i1 i2 t1 t2 : Addr} {xs ys : Array Value} {i : Nat} {Q : Option Value → Shared → Prop} (hh : A.handled = none) (D : ZipApart z TI TO i1 i2 t1 t2) (Z : ZipAt z TI TO i1 i2 t1 t2 xs ys i .none s.heap) (hend : xs[i]? = none ∨ ys[i]? = none)
    (hQ : ∀ h', (∀ c o, c ≠ z → c ≠ TO → c ≠ i1 → c ≠ i2 → s.heap.get? c = some o → h'.get? c = some o) → Q none { s with heap := h' }) : wpAny (model prog w) A (pyNext (.ref z)) Q E s := by
  have hT : s.TypeIs (.ref z) "zip" := ⟨_, Z.z, rfl⟩
  unfold pyNext
  refine wpAny_bind (wpAny_attempt (wpAny_callSpecial?_slot (name := Str.ofString "__next__") hT F.slot_zip_next (wpAny_call_entry F.slot_zip_next hT F.entry_zip_next
    (zipT_stop hh D Z hend fun h' e hk he => ?_) (F.args_zip_next_1 _))))
  obtain ⟨o, ho, hc⟩ := he
  exact wpAny_bind (wpAny_isInstance (T := "StopIteration") (b := true) ⟨o, ho, hc⟩ isSubtype_stop (wpAny_pure (hQ _ hk)))
abbrev zh1 (h : Heap) (t1 : Addr) : Heap := h.push (tupIt t1)
abbrev zh2 (h : Heap) (t1 t2 : Addr) : Heap := (zh1 h t1).push (tupIt t2)
abbrev zh3 (h : Heap) (t1 t2 : Addr) : Heap := (zh2 h t1 t2).push { cls := .type "tuple", data := .seq #[.ref h.objs.size, .ref (zh1 h t1).objs.size] }
abbrev zh4 (h : Heap) (t1 t2 : Addr) : Heap := (zh3 h t1 t2).push { cls := .type "tuple", data := .seq #[.none, .none] }
abbrev zh5 (h : Heap) (t1 t2 : Addr) : Heap := (zh4 h t1 t2).push { cls := .type "zip", data := .fields #[.none, .bool false, .bool false, .ref (zh2 h t1 t2).objs.size, .ref (zh3 h t1 t2).objs.size] }
theorem zipT_new (t1 t2 : Addr) (xs ys : Array Value) :
    Meets (Builtin.«zip.__new__» ⟨[.type "zip", .ref t1, .ref t2], []⟩) (fun _ R s => s.heap.IsTuple t1 xs ∧ s.heap.IsTuple t2 ys ∧ R (.ok (.ret (.ref (zh4 s.heap t1 t2).objs.size))) { s with heap := zh5 s.heap t1 t2 }) :=
  .of_wp fun prog w A R s h => by
    obtain ⟨hp, g, d, tk, os⟩ := s; obtain ⟨ht1, ht2, h⟩ := h
    have hsub := sub_zip
    have T1 : Heap.IsTuple (Shared.heap ⟨hp, g, d, tk, os⟩) t1 xs := ht1
    have T2 : Heap.IsTuple (Shared.heap ⟨hp.push { cls := .type "tuple_iterator", data := .fields #[.ref t1, .int 0 0] }, g, d, tk, os⟩) t2 ys := Heap.IsTuple.push ht2 _
    wp_walk using wpAny_pyIter_tuple T1, wpAny_pyIter_tuple T2
    exact ⟨_, rfl, h⟩
theorem call_zipT {t1 t2 : Addr} {xs ys : Array Value} {Q : Value → Shared → Prop} (ht1 : s.heap.IsTuple t1 xs) (ht2 : s.heap.IsTuple t2 ys)
    (h : ∀ h', ZipAt (s.heap.objs.size + 4) (s.heap.objs.size + 2) (s.heap.objs.size + 3) s.heap.objs.size (s.heap.objs.size + 1) t1 t2 xs ys 0 .none h' → h'.objs.size = s.heap.objs.size + 5 →
      (∀ c o, s.heap.get? c = some o → h'.get? c = some o) → Q (.ref (s.heap.objs.size + 4)) { s with heap := h' }) : wpAny (model prog w) A (call (.type "zip") [.ref t1, .ref t2]) Q E s := by
  refine callType_new F.called_zip (by decide) (F.typeCall_zip_2 _ _) (F.newCall_zip_2 _ _) (fun obj => F.args_object_init_3 obj _ _) F.entry_zip_new (zipT_new t1 t2 xs ys) ⟨ht1, ht2, ?_⟩
  have z1 : (zh1 s.heap t1).objs.size = s.heap.objs.size + 1 := Heap.size_push ..
  have z2 : (zh2 s.heap t1 t2).objs.size = s.heap.objs.size + 2 := by rw [Heap.size_push, z1]
  have z3 : (zh3 s.heap t1 t2).objs.size = s.heap.objs.size + 3 := by rw [Heap.size_push, z2]
  have z4 : (zh4 s.heap t1 t2).objs.size = s.heap.objs.size + 4 := by rw [Heap.size_push, z3]
  have z5 : (zh5 s.heap t1 t2).objs.size = s.heap.objs.size + 5 := by rw [Heap.size_push, z4]
  have up : ∀ c o, s.heap.get? c = some o → (zh5 s.heap t1 t2).get? c = some o := fun c o q => Heap.get?_push_of_some _ (Heap.get?_push_of_some _ (Heap.get?_push_of_some _ (Heap.get?_push_of_some _ (Heap.get?_push_of_some _ q))))
  have g5 : (zh5 s.heap t1 t2).get? (zh4 s.heap t1 t2).objs.size = some _ := Heap.get?_push_size _ rfl
  have g4 : (zh5 s.heap t1 t2).get? (zh3 s.heap t1 t2).objs.size = some _ := Heap.get?_push_of_some _ (Heap.get?_push_size _ rfl)
  have g3 : (zh5 s.heap t1 t2).get? (zh2 s.heap t1 t2).objs.size = some _ := Heap.get?_push_of_some _ (Heap.get?_push_of_some _ (Heap.get?_push_size _ rfl))
  have g2 : (zh5 s.heap t1 t2).get? (zh1 s.heap t1).objs.size = some _ := Heap.get?_push_of_some _ (Heap.get?_push_of_some _ (Heap.get?_push_of_some _ (Heap.get?_push_size _ rfl)))
  have g1 : (zh5 s.heap t1 t2).get? s.heap.objs.size = some _ := Heap.get?_push_of_some _ (Heap.get?_push_of_some _ (Heap.get?_push_of_some _ (Heap.get?_push_of_some _ (Heap.get?_push_size _ rfl))))
  show _ ∧ _
  rw [z2, z3, z4] at g5
  rw [z1, z2] at g3
  rw [z3] at g4
  rw [z1] at g2
  rw [z4]
  have T1 : (zh5 s.heap t1 t2).IsTuple t1 xs := let ⟨o, ho, r⟩ := ht1; ⟨o, up _ _ ho, r⟩
  have T2 : (zh5 s.heap t1 t2).IsTuple t2 ys := let ⟨o, ho, r⟩ := ht2; ⟨o, up _ _ ho, r⟩
  exact ⟨⟨_, g5, rfl⟩, h _ ⟨g5, g3, ⟨_, _, g4⟩, ⟨⟨_, g1, rfl, rfl⟩, T1⟩, ⟨⟨_, g2, rfl, rfl⟩, T2⟩⟩ z5 up⟩
end
end L3
namespace L3
open PySem PyProof.Rows
section
variable {prog : Program} {w : World} {A : Around} {E : Value → Shared → Prop} {s : Shared}
def cutAt (n : Nat) (lo hi st : Option Int) : Int × Int × Nat :=
  ((Builtin.Slice.sliceAdjust lo hi (st.getD 1) (n : Int)).1, st.getD 1, Builtin.Slice.slicePlaces (Builtin.Slice.sliceAdjust lo hi (st.getD 1) (n : Int)).1 (Builtin.Slice.sliceAdjust lo hi (st.getD 1) (n : Int)).2 (st.getD 1))
def pickAt {α : Type} (xs : List α) (c : Int × Int × Nat) : List α := (List.range c.2.2).filterMap fun (k : Nat) => xs[(c.1 + (k : Int) * c.2.1).toNat]?
def wholeAt (n : Nat) (c : Int × Int × Nat) : Bool := c.1 == 0 && c.2.1 == 1 && c.2.2 == n
theorem slicePartAny {v : Value} {o : Option Int} {Q : Option Int → Shared → Prop} (p : IsPart v o) (h : Q o s) : wpAny (model prog w) A (Builtin.Slice.slicePartIndex v) Q E s := by
  cases p with
  | none => exact slicePart_none h
  | int i t => exact slicePart_int h
theorem sliceAny {sl : Addr} {vl vu vs : Value} {lo hi st : Option Int} {n : Nat} {Q : Int × Int × Nat → Shared → Prop} (hs : s.heap.IsSliceOf sl vl vu vs) (pl : IsPart vl lo) (pu : IsPart vu hi) (ps : IsPart vs st) (h0 : st.getD 1 ≠ 0)
    (h : Q (cutAt n lo hi st) s) : wpAny (model prog w) A (Builtin.Slice.sliceApplied (.ref sl) (pure (n : Int))) Q E s := by
  obtain ⟨os, hos, hcs, hds⟩ := id hs
  unfold Builtin.Slice.sliceApplied Builtin.Slice.sliceFields
  refine wpAny_bind (wpAny_bind (wpAny_field hos hds (x := vl) rfl (wpAny_bind (wpAny_field hos hds (x := vu) rfl (wpAny_bind (wpAny_field hos hds (x := vs) rfl (wpAny_pure ?_)))))))
  refine wpAny_bind (slicePartAny ps ?_)
  show wpAny _ _ (if (st.getD 1 == 0) = true then _ else _) _ _ s
  rw [if_neg (by simpa using h0)]
  exact wpAny_bind (slicePartAny pl (wpAny_bind (slicePartAny pu (wpAny_bind (wpAny_pure (wpAny_pure h))))))
theorem tupleCut {t sl : Addr} {items : Array Value} {vl vu vs : Value} {lo hi st : Option Int} {Q : Value → Shared → Prop} (ht : IsTup s.heap t items) (hs : s.heap.IsSliceOf sl vl vu vs) (pl : IsPart vl lo) (pu : IsPart vu hi) (ps : IsPart vs st) (h0 : st.getD 1 ≠ 0)
    (h1 : wholeAt items.size (cutAt items.size lo hi st) = true → Q (.ref t) s)
    (h2 : wholeAt items.size (cutAt items.size lo hi st) = false → Q (.ref s.heap.objs.size) { s with heap := s.heap.push { cls := .type "tuple", data := .seq (pickAt items.toList (cutAt items.size lo hi st)).toArray } })
    (hsz : (cutAt items.size lo hi st).2.2 ≤ sizeLine) : wpAny (model prog w) A (getItem (.ref t) (.ref sl)) Q E s := by
  have htake : sizeOk (.seq (pickAt items.toList (cutAt items.size lo hi st)).toArray) := by
    show (pickAt items.toList (cutAt items.size lo hi st)).toArray.size ≤ sizeLine
    rw [List.size_toArray]
    refine Nat.le_trans (List.length_filterMap_le _ _) ?_
    rw [List.length_range]
    exact hsz
  obtain ⟨os, hos, hcs, hds⟩ := id hs
  have hTs : s.TypeIs (.ref sl) "slice" := ⟨os, hos, hcs⟩
  unfold getItem
  try with_reducible refine wpAny_holding ?_
  first | refine wpAny_bind (wpAny_pure ?_) | skip
  refine wpAny_bind (wpAny_sequenceKey ht.typeIs (by decide) ?_)
  refine wpAny_bind (wpAny_callSpecial?_slot (name := Str.ofString "__getitem__") ht.typeIs PyProof.Rows.slot_tuple_getitem (wpAny_call_entry PyProof.Rows.slot_tuple_getitem ht.typeIs entry_tuple_getitem ?_ (args_tuple_getitem _ _)))
  show wpAny _ _ (Builtin.Tuple.tupleItemsOf (.ref t) >>= _) _ _ s
  refine wpAny_bind (tupleItemsOf_ ht ?_)
  refine wpAny_bind (wpAny_typeOf hTs ?_)
  rw [if_pos (by decide)]
  refine wpAny_bind (sliceAny hs pl pu ps h0 ?_)
  generalize cutAt items.size lo hi st = c at h1 h2 htake
  obtain ⟨a, b, n⟩ := c
  have e : (List.filterMap (fun (k : Nat) => items[(a + (k : Int) * b).toNat]?) (List.range n)) = pickAt items.toList (a, b, n) := by
    unfold pickAt
    congr 1
    funext k
    rw [Array.getElem?_toList]
  show wpAny _ _ (if (a == 0 && b == 1 && n == items.size) = true then _ else _) _ _ s
  cases hw : wholeAt items.size (a, b, n) with
  | true =>
    have hw' : (a == 0 && b == 1 && n == items.size) = true := hw
    rw [if_pos hw']
    obtain ⟨o, ho, hc, nn, hd⟩ := id ht
    have q := h1 hw
    first
      | (refine wpAny_bind (m := Builtin.Tuple.tupleIsExact _) ?_; unfold Builtin.Tuple.tupleIsExact; refine wpAny_bind (wpAny_typeOf ht.typeIs (wpAny_pure ?_)); rw [if_pos (by decide)]; exact wpAny_bind (wpAny_rule (wpAny_pure ⟨_, rfl, wpAny_pure q⟩)))
      | trace_state
  | false =>
    have hw' : ¬ ((a == 0 && b == 1 && n == items.size) = true) := by
      intro z
      have : wholeAt items.size (a, b, n) = true := z
      rw [hw] at this; cases this
    rw [if_neg hw', e]
    have q := h2 hw
    first
      | exact wpAny_bind (m := Builtin.Tuple.tupleExact _) (wpAny_newObj_type (wpAny_pure ⟨_, rfl, wpAny_pure q⟩) htake)
      | exact wpAny_bind (m := Builtin.Tuple.tupleExact _) (wpAny_newObj_type (wpAny_bind (wpAny_pure (wpAny_pure ⟨_, rfl, wpAny_pure q⟩))) htake)
      | exact wpAny_bind (wpAny_bind (m := Builtin.Tuple.tupleExact _) (wpAny_newObj_type (wpAny_pure (wpAny_pure ⟨_, rfl, wpAny_pure q⟩)) htake))
      | exact wpAny_bind (wpAny_bind (m := Builtin.Tuple.tupleExact _) (wpAny_newObj_type (wpAny_pure ⟨_, rfl, wpAny_pure q⟩) htake))
end
end L3
namespace L3
open PySem
theorem bt_len : bootBuiltins "len" = some (.builtin "len") := by decide +kernel
theorem bt_tuple : bootBuiltins "tuple" = some (.type "tuple") := by decide +kernel
theorem bt_all : bootBuiltins "all" = some (.builtin "all") := by decide +kernel
theorem bt_isinstance : bootBuiltins "isinstance" = some (.builtin "isinstance") := by decide +kernel
theorem bt_max : bootBuiltins "max" = some (.builtin "max") := by decide +kernel
theorem bt_bool : bootBuiltins "bool" = some (.type "bool") := by decide +kernel
theorem bt_str : bootBuiltins "str" = some (.type "str") := by decide +kernel
theorem bt_int : bootBuiltins "int" = some (.type "int") := by decide +kernel
theorem bt_list : bootBuiltins "list" = some (.type "list") := by decide +kernel
theorem bt_sum : bootBuiltins "sum" = some (.builtin "sum") := by decide +kernel
theorem bt_sorted : bootBuiltins "sorted" = some (.builtin "sorted") := by decide +kernel
end L3
set_option maxRecDepth 100000
namespace L2
open PySem PySem.Spec PyProof.Rows
section
variable {X : Cx} {pins : List (Addr × Obj)} {σ : St} {H : Hp} {s : Shared} {h' : Heap}
theorem Inv.turnLay {a : Addr} {o : HO} {t' : Nat} {ch : List Addr} (I : Inv X pins σ H s) (hf : ∀ b ∈ ch, FpOk X pins H b) (k : ∀ b u, b ∉ ch → s.heap.get? b = some u → h'.get? b = some u) (hp : s.heap.objs.size ≤ a)
    (new : ObjOk X.prog X.w (upd H a o) h' a o) : Inv X pins σ (upd H a o) { s with heap := h', toks := t' } := by
  have fa : H a = none := I.hok.fresh hp
  have nch : ∀ b u, H b = some u → b ∉ ch := fun b u e z => by rw [(hf b z).1] at e; cases e
  refine I.step (g' := s.gens) (d' := s.drawn) (ch := ch) (fun b hb => ?_) (fun b u _ _ hc e _ => k b u hc e) (fun b u _ _ hc e _ => ⟨u.slots, k b u hc e⟩) (fun b u hc e n => ?_) (fun b u hc e => ⟨u, k b u hc e⟩)
    (fun b xs e => ?_) (fun b ob u e => ?_) (fun b ps e => ?_) (fun m hm => ?_) (fun b u e => ?_) I.bare
  · obtain ⟨_, f1, _, f3, f4, f5⟩ := hf b hb
    exact ⟨f3, f1, f4, f5⟩
  · rw [upd_ne (Nat.ne_of_lt (Nat.lt_of_lt_of_le (Heap.lt_size e) hp))]; exact n
  · rw [upd_ne (ne_of_none e fa)]; exact e
  · rw [upd_ne (ne_of_none e fa)]; exact e
  · exact ⟨#[], by rw [upd_ne (ne_of_none e fa), e]; simp⟩
  · obtain ⟨ob, es, ep, ho, r⟩ := hm
    exact ⟨ob, es, ep, k _ ob (fun z => (hf _ z).2.1 rfl) ho, r⟩
  · by_cases hb : b = a
    · subst hb; rw [upd_same] at e; cases e; exact new
    · rw [upd_ne hb] at e
      refine (I.hok b u e).stay (fun c v hc q => k c v ?_ q) (fun c q => by rw [upd_ne (ne_of_none q fa)]; exact q) fun c xs q => by rw [upd_ne (ne_of_none q fa)]; exact q
      rcases hc with z | z
      · rw [z]; exact nch b u e
      · exact nch c _ z
theorem Inv.turnMany {t' : Nat} {ch : List Addr} (I : Inv X pins σ H s) (hf : ∀ b ∈ ch, FpOk X pins H b) (k : ∀ b u, b ∉ ch → s.heap.get? b = some u → h'.get? b = some u) : Inv X pins σ H { s with heap := h', toks := t' } := by
  have nch : ∀ b u, H b = some u → b ∉ ch := fun b u e z => by rw [(hf b z).1] at e; cases e
  refine I.step (g' := s.gens) (d' := s.drawn) (ch := ch) (fun b hb => ?_) (fun b u _ _ hc e _ => k b u hc e) (fun b u _ _ hc e _ => ⟨u.slots, k b u hc e⟩) (fun b u hc e n => n) (fun b u hc e => ⟨u, k b u hc e⟩)
    (fun b xs e => e) (fun b ob u e => e) (fun b ps e => ⟨#[], by rw [e]; simp⟩) (fun m hm => ?_) (fun b u e => ?_) I.bare
  · obtain ⟨_, f1, _, f3, f4, f5⟩ := hf b hb
    exact ⟨f3, f1, f4, f5⟩
  · obtain ⟨ob, es, ep, ho, r⟩ := hm
    exact ⟨ob, es, ep, k _ ob (fun z => (hf _ z).2.1 rfl) ho, r⟩
  · refine (I.hok b u e).stay (fun c v hc q => k c v ?_ q) (fun _ q => q) fun _ _ q => q
    rcases hc with z | z
    · rw [z]; exact nch b u e
    · exact nch c _ z
end
def Ite (K : PySem.W.Frag) (a : Addr) : It :=
  ⟨fun i H => ∃ xs x, SqT K H a xs ∧ xs[i]? = some x, fun i H v H' => ∃ p x, H p = none ∧ v = .ref p ∧ H' = upd H p (.tup [.int i, x]) ∧ ∀ xs, SqT K H a xs → xs[i]? = some x, fun i H => ∃ xs, SqT K H a xs ∧ xs.length ≤ i⟩
def Itz (K : PySem.W.Frag) (a b : Addr) : It :=
  ⟨fun i H => ∃ xs ys x y, SqT K H a xs ∧ SqT K H b ys ∧ xs[i]? = some x ∧ ys[i]? = some y,
   fun i H v H' => ∃ p x y, H p = none ∧ v = .ref p ∧ H' = upd H p (.tup [x, y]) ∧ (∀ xs, SqT K H a xs → xs[i]? = some x) ∧ ∀ ys, SqT K H b ys → ys[i]? = some y,
   fun i H => ∃ xs ys, SqT K H a xs ∧ SqT K H b ys ∧ (xs.length ≤ i ∨ ys.length ≤ i)⟩
theorem turn_enumT {P : Program} {w : World} {K : PySem.W.Frag} {elts : List Expr} {x1} {tp : Pos} {e it a : Addr} (hne : e ≠ it) (hae : a ≠ e) (hai : a ≠ it) :
    Turn P w K (.Tuple elts x1 tp) (Ite K a) [e, it] e (fun i h => (∃ old, IsEnum h e it i old) ∧ h.IsTupleIter it a i) where
  mem := by simp
  obj := fun i h st b hb => by
    obtain ⟨⟨old, q⟩, ⟨o, e1, c, d⟩⟩ := st
    rcases List.mem_cons.mp hb with z | z
    · subst z; exact ⟨_, q, fun v z => by have z' : Data.fields _ = Data.cell v := z; cases z'⟩
    · have z : b = it := by simpa using z
      subst z; exact ⟨o, e1, fun v z => by rw [d] at z; cases z⟩
  keep := fun i h h' ⟨⟨old, q⟩, r⟩ k => ⟨⟨old, k e (by simp) _ q⟩, r.at fun o z => k it (by simp) o z⟩
  item := by
    intro X hP hw hK hc i pins s σ H E I hf st hg
    subst hP hw hK
    obtain ⟨⟨old, he⟩, hit⟩ := st
    obtain ⟨xs, x, hq, hx⟩ := hg
    obtain ⟨its, rv, p, hz⟩ := I.tuple hq
    obtain ⟨u, hu, ru⟩ := rv.get hx
    refine L3.enumT_pyNext he ⟨hit, p⟩ (x := u) (by simpa using hu) hne hae hai fun h' o1 a1 tp1 sz k1 => ⟨_, rfl, ?_⟩
    refine wpAny_letOwnedTupleGo_enum o1 fun h2 e2 k2 => ?_
    have hT : s.heap.objs.size ≠ e := Nat.ne_of_gt (Heap.lt_size he)
    have kk : ∀ b v, b ∉ [e, it] → s.heap.get? b = some v → h2.get? b = some v := fun b v hb q => by
      have n1 : b ≠ e := fun z => hb (by simp [z])
      have n2 : b ≠ it := fun z => hb (by simp [z])
      exact (k2.2 b n1).trans (k1 b v n1 n2 q)
    have new : ObjOk X.prog X.w (upd H s.heap.objs.size (.tup [.int i, x])) h2 s.heap.objs.size (.tup [.int i, x]) :=
      ⟨by show 2 ≤ sizeLine; decide, [.int i s.toks, u], .cons ⟨_, rfl⟩ (.cons ru .nil), ⟨_, (k2.2 _ hT).trans tp1, rfl, _, rfl⟩, _, (k2.2 _ hT).trans tp1, rfl⟩
    have IL : Inv X pins σ (upd H s.heap.objs.size (.tup [.int i, x])) { s with heap := h2, toks := s.toks + 1 } := I.turnLay (t' := s.toks + 1) (ch := [e, it]) hf kk (Nat.le_refl _) new
    refine ⟨.ref s.heap.objs.size, _, IL, rfl, ⟨_, x, I.hok.fresh (Nat.le_refl _), rfl, rfl, fun ys hy => by rw [I.tuple_inj hy hq]; exact hx⟩, ⟨⟨u, ?_⟩, a1.iter.at fun o z => (k2.2 it hne.symm).trans z⟩, fun b hb => ?_⟩
    · have e3 : IsEnum h2 e it ((i : Int) + 1) u := e2
      rw [show (((i + 1 : Nat) : Int)) = (i : Int) + 1 by omega]
      exact e3
    · rw [upd_ne (Nat.ne_of_lt ?_)]
      · exact (hf b hb).1
      · rcases List.mem_cons.mp hb with z | z
        · rw [z]; exact Heap.lt_size he
        · have z : b = it := by simpa using z
          obtain ⟨o, q, _⟩ := hit
          rw [z]; exact Heap.lt_size q
  done := by
    intro X hP hw hK hc i pins s σ H E I hf st hg
    subst hP hw hK
    obtain ⟨⟨old, he⟩, hit⟩ := st
    obtain ⟨xs, hq, hx⟩ := hg
    obtain ⟨its, rv, p, hz⟩ := I.tuple hq
    have hl := rv.length
    refine L3.enumT_pyEnd (I.ok.hd hc) he ⟨hit, p⟩ (by simp; omega) fun h' k => ⟨rfl, I.turnMany (t' := s.toks) (ch := [e, it]) hf fun b v hb q => k b v (fun z => hb (by simp [z])) q⟩
  self := fun _ _ _ _ _ ⟨⟨_, q⟩, _⟩ h => wpAny_pyIter_enum q h
theorem turn_zipT {P : Program} {w : World} {K : PySem.W.Frag} {elts : List Expr} {x1} {tp : Pos} {z TI TO i1 i2 a b : Addr} (D : ZipApart z TI TO i1 i2 a b) :
    Turn P w K (.Tuple elts x1 tp) (Itz K a b) [z, TI, TO, i1, i2] z (fun i h => IsZip h z TI TO .none ∧ IsPair h TI (.ref i1) (.ref i2) ∧ (∃ u v, IsPair h TO u v) ∧ h.IsTupleIter i1 a i ∧ h.IsTupleIter i2 b i) where
  mem := by simp
  obj := fun i h st c hc => by
    obtain ⟨q1, q2, ⟨u, v, q3⟩, ⟨o4, e4, c4, d4⟩, ⟨o5, e5, c5, d5⟩⟩ := st
    simp only [List.mem_cons, List.not_mem_nil, or_false] at hc
    rcases hc with rfl | rfl | rfl | rfl | rfl
    · exact ⟨_, q1, fun v z => by have z' : Data.fields _ = Data.cell v := z; cases z'⟩
    · exact ⟨_, q2, fun v z => by have z' : Data.seq _ _ = Data.cell v := z; cases z'⟩
    · exact ⟨_, q3, fun v z => by have z' : Data.seq _ _ = Data.cell v := z; cases z'⟩
    · exact ⟨o4, e4, fun v z => by rw [d4] at z; cases z⟩
    · exact ⟨o5, e5, fun v z => by rw [d5] at z; cases z⟩
  keep := fun i h h' ⟨q1, q2, ⟨u, v, q3⟩, r4, r5⟩ k => ⟨k _ (by simp) _ q1, k _ (by simp) _ q2, ⟨u, v, k _ (by simp) _ q3⟩, r4.at fun o q => k _ (by simp) o q, r5.at fun o q => k _ (by simp) o q⟩
  item := by
    intro X hP hw hK hc i pins s σ H E I hf st hg
    subst hP hw hK
    have st0 := st
    obtain ⟨q1, q2, q3, r4, r5⟩ := st
    obtain ⟨xs, ys, x, y, hq, hq', hx, hy⟩ := hg
    obtain ⟨its, rv, p, _⟩ := I.tuple hq
    obtain ⟨its', rv', p', _⟩ := I.tuple hq'
    obtain ⟨u, hu, ru⟩ := rv.get hx
    obtain ⟨v, hv, rw'⟩ := rv'.get hy
    refine L3.zipT_pyNext D ⟨q1, q2, q3, ⟨r4, p⟩, ⟨r5, p'⟩⟩ (x := u) (y := v) (by simpa using hu) (by simpa using hv) fun h' Z tp1 sz k1 => ⟨_, rfl, ?_⟩
    refine wpAny_letOwnedTupleGo_zip Z.z fun h2 z2 k2 => ?_
    have lt : ∀ c ∈ [z, TI, TO, i1, i2], c < s.heap.objs.size := fun c hc => by
      obtain ⟨w1, w2, ⟨_, _, w3⟩, ⟨_, w4, _⟩, ⟨_, w5, _⟩⟩ := st0
      simp only [List.mem_cons, List.not_mem_nil, or_false] at hc
      rcases hc with rfl | rfl | rfl | rfl | rfl
      · exact Heap.lt_size w1
      · exact Heap.lt_size w2
      · exact Heap.lt_size w3
      · exact Heap.lt_size w4
      · exact Heap.lt_size w5
    have hT : s.heap.objs.size ≠ z := Nat.ne_of_gt (lt z (by simp))
    have kk : ∀ c w', c ∉ [z, TI, TO, i1, i2] → s.heap.get? c = some w' → h2.get? c = some w' := fun c w' hc q => by
      have n1 : c ≠ z := fun e => hc (by simp [e])
      exact (k2.2 c n1).trans (k1 c w' n1 (fun e => hc (by simp [e])) (fun e => hc (by simp [e])) (fun e => hc (by simp [e])) q)
    have new : ObjOk X.prog X.w (upd H s.heap.objs.size (.tup [x, y])) h2 s.heap.objs.size (.tup [x, y]) :=
      ⟨by show 2 ≤ sizeLine; decide, [u, v], .cons ru (.cons rw' .nil), ⟨_, (k2.2 _ hT).trans tp1, rfl, _, rfl⟩, _, (k2.2 _ hT).trans tp1, rfl⟩
    have IL : Inv X pins σ (upd H s.heap.objs.size (.tup [x, y])) { s with heap := h2, toks := s.toks } := I.turnLay (t' := s.toks) (ch := [z, TI, TO, i1, i2]) hf kk (Nat.le_refl _) new
    refine ⟨.ref s.heap.objs.size, _, IL, rfl,
      ⟨_, x, y, I.hok.fresh (Nat.le_refl _), rfl, rfl, fun ys hy' => by rw [I.tuple_inj hy' hq]; exact hx, fun ys hy' => by rw [I.tuple_inj hy' hq']; exact hy⟩,
      ⟨z2, (k2.2 _ D.TIz).trans Z.TI, ?_, Z.one.iter.at fun o q => (k2.2 _ D.i1z).trans q, Z.two.iter.at fun o q => (k2.2 _ D.i2z).trans q⟩, fun c hc => ?_⟩
    · obtain ⟨a', b', q⟩ := Z.TO
      exact ⟨a', b', (k2.2 _ D.TOz).trans q⟩
    · rw [upd_ne (Nat.ne_of_lt (lt c hc))]; exact (hf c hc).1
  done := by
    intro X hP hw hK hc i pins s σ H E I hf st hg
    subst hP hw hK
    obtain ⟨q1, q2, q3, r4, r5⟩ := st
    obtain ⟨xs, ys, hq, hq', hx⟩ := hg
    obtain ⟨its, rv, p, _⟩ := I.tuple hq
    obtain ⟨its', rv', p', _⟩ := I.tuple hq'
    have hl := rv.length
    have hl' := rv'.length
    refine L3.zipT_pyEnd (I.ok.hd hc) D ⟨q1, q2, q3, ⟨r4, p⟩, ⟨r5, p'⟩⟩ ?_ fun h' k => ⟨rfl, I.turnMany (t' := s.toks) (ch := [z, TI, TO, i1, i2]) hf fun c v hc q =>
      k c v (fun e => hc (by simp [e])) (fun e => hc (by simp [e])) (fun e => hc (by simp [e])) (fun e => hc (by simp [e])) q⟩
    rcases hx with hx | hx
    · exact .inl (by simp; omega)
    · exact .inr (by simp; omega)
  self := fun _ _ _ _ _ ⟨q, _⟩ h => wpAny_pyIter_zip q h
section
variable {X : Cx}
def iEnumT (K : PySem.W.Frag) (ta : TA) : TI := fun σ H R => ta σ H fun vs H1 => ∃ a, vs = [.ref a] ∧ (∃ xs, SqT K H1 a xs) ∧ R (Ite K a) H1
def iZipT (K : PySem.W.Frag) (ta : TA) : TI := fun σ H R => ta σ H fun vs H1 => ∃ a b, vs = [.ref a, .ref b] ∧ (∃ xs, SqT K H1 a xs) ∧ (∃ ys, SqT K H1 b ys) ∧ R (Itz K a b) H1
theorem pi_enumT {a : Expr} {ta : TA} {p pos tp : Pos} {elts : List Expr} {x1} (hg : Gl X "enumerate") (hm : X.mg "enumerate" = none) (ha : PA X [a] ta) (hs : starEach [a] X.env = [(false, eval a X.env)] := by rfl) :
    PI X (.Tuple elts x1 tp) (.Call (.Name "enumerate" p) [a] [] pos) (iEnumT X.K ta) := by
  intro pins s σ H R I h
  refine Call_ (ld_blt I hg hm boot_enumerate (PyProof.Rows.callWith_type1 (thn (ha pos pins s σ H _ I h) fun us s1 ⟨vs, H1, I1, r1, q1⟩ => ?_) hs rfl))
  obtain ⟨t, e, ⟨xs, hq⟩, q⟩ := q1
  subst e
  cases r1 with
  | cons r rr =>
    cases rr
    cases r
    obtain ⟨its, rv, pt, hz⟩ := I1.tuple hq
    have pt' : s1.heap.IsTuple t its.toArray := pt
    have tlt : t < s1.heap.objs.size := by obtain ⟨o, ho, _⟩ := pt'; exact Heap.lt_size ho
    refine L3.call_enumT pt' fun h' he a0 sz k => ?_
    have I2 : Inv X pins σ H1 { s1 with heap := h' } := I1.kept (t' := s1.toks) k
    refine wpAny_pyIter_enum (it := s1.heap.objs.size) (i := 0) (old := .none) he ⟨_, [s1.heap.objs.size + 1, s1.heap.objs.size], _, _, H1, rfl, I2, turn_enumT (a := t) (Nat.ne_of_gt (Nat.lt_succ_self _)) (Nat.ne_of_lt (Nat.lt_succ_of_lt tlt)) (Nat.ne_of_lt tlt), ⟨⟨_, he⟩, a0.iter⟩, fun b hb => ?_, q⟩
    have hb' : s1.heap.objs.size ≤ b := by
      simp only [List.mem_cons, List.not_mem_nil, or_false] at hb
      rcases hb with rfl | rfl
      · exact Nat.le_succ _
      · exact Nat.le_refl _
    exact I1.fpOk hb' (I1.hok.fresh hb')
theorem pi_zipT {a b : Expr} {ta : TA} {p pos tp : Pos} {elts : List Expr} {x1} (hg : Gl X "zip") (hm : X.mg "zip" = none) (ha : PA X [a, b] ta)
    (hs : starEach [a, b] X.env = [(false, eval a X.env), (false, eval b X.env)] := by rfl) (hs2 : starEach [b] X.env = [(false, eval b X.env)] := by rfl) : PI X (.Tuple elts x1 tp) (.Call (.Name "zip" p) [a, b] [] pos) (iZipT X.K ta) := by
  intro pins s σ H R I h
  refine Call_ (ld_blt I hg hm boot_zip (PyProof.Rows.callWith_type1 (thn (ha pos pins s σ H _ I h) fun us s1 ⟨vs, H1, I1, r1, q1⟩ => ?_) (by rw [hs, hs2]) (by rw [hs2]; rfl)))
  obtain ⟨t, t2, e, ⟨xs, hq⟩, ⟨ys, hq'⟩, q⟩ := q1
  subst e
  cases r1 with
  | cons r rr =>
    cases rr with
    | cons r' rr =>
      cases rr
      cases r
      cases r'
      obtain ⟨its, rv, pt, hz⟩ := I1.tuple hq
      obtain ⟨its', rv', pt', hz'⟩ := I1.tuple hq'
      have T1 : s1.heap.IsTuple t its.toArray := pt
      have T2 : s1.heap.IsTuple t2 its'.toArray := pt'
      have l1 : t < s1.heap.objs.size := by obtain ⟨o, ho, _⟩ := T1; exact Heap.lt_size ho
      have l2 : t2 < s1.heap.objs.size := by obtain ⟨o, ho, _⟩ := T2; exact Heap.lt_size ho
      refine L3.call_zipT T1 T2 fun h' Z sz k => ?_
      have I2 : Inv X pins σ H1 { s1 with heap := h' } := I1.kept (t' := s1.toks) k
      have D : ZipApart (s1.heap.objs.size + 4) (s1.heap.objs.size + 2) (s1.heap.objs.size + 3) s1.heap.objs.size (s1.heap.objs.size + 1) t t2 := PyProof.Rows.zipApart_new l1 l2
      refine wpAny_pyIter_zip Z.z ⟨_, [s1.heap.objs.size + 4, s1.heap.objs.size + 2, s1.heap.objs.size + 3, s1.heap.objs.size, s1.heap.objs.size + 1], _, _, H1, rfl, I2, turn_zipT D, ⟨Z.z, Z.TI, Z.TO, Z.one.iter, Z.two.iter⟩, fun c hc => ?_, q⟩
      have hc' : s1.heap.objs.size ≤ c := by
        simp only [List.mem_cons, List.not_mem_nil, or_false] at hc
        rcases hc with rfl | rfl | rfl | rfl | rfl <;> first | exact Nat.le_refl _ | exact Nat.le_add_right _ _
      exact I1.fpOk hc' (I1.hok.fresh hc')
end
section
variable {X : Cx}
def Cx.comp (X : Cx) (scope : Scope) (N' : List Str) (C : Addr) (fp : List Addr) (pins : List (Addr × Obj)) (s₂ : Shared) (H₂ : Hp) : Cx :=
  { X with N := N', s₀ := s₂, H₀ := H₂, env := compEnvC scope (L3.closL X.env.cells scope.names []) C X.env, outer := X.stack, ex := fp, fn := fun _ => false, pn := X.pn ++ pins, xe := fun _ _ => False }
theorem comp_look {scope : Scope} {x : Str} {c : Addr} (h : (L3.closL X.env.cells scope.names []).lookup x = some c) : X.env.cells.lookup x = some c :=
  L3.closL_lookup (cs := []) (fun _ e => by simp at e) h
variable {scope : Scope} {N' : List Str} {sh : List Nat} {pins : List (Addr × Obj)} {σ : St} {H : Hp} {s : Shared} {C : Addr} {fp : List Addr}
theorem comp_free (cp : L3.CompParts X.env.scope scope X.N N' sh) {x : Str} (h : (relabel scope X.env).names.lookup x = some .cell ∨ (relabel scope X.env).names.lookup x = some .free) : (x, NameKind.free) ∈ scope.names ∧ X.env.kindOf x = some .cell := by
  have q : (x, NameKind.free) ∈ scope.names := by
    rcases h with h | h
    · obtain ⟨k0, h0, h1⟩ := L3.relab_inv h
      rcases h1 with h1 | ⟨h1, _⟩
      · subst h1; exact absurd rfl (cp.cell _ (L3.mem_of_look h0))
      · subst h1; exact L3.mem_of_look h0
    · obtain ⟨k0, h0, h1⟩ := L3.relab_inv h
      rcases h1 with h1 | ⟨_, h1⟩
      · subst h1; exact L3.mem_of_look h0
      · cases h1
  exact ⟨q, cp.free _ q rfl⟩
theorem comp_ok (I : Inv X pins σ H s) (cp : L3.CompParts X.env.scope scope X.N N' sh) (hC : s.heap.objs.size ≤ C) (hf : ∀ b ∈ fp, FpOk X pins H b) (hlt : ∀ b ∈ fp, b < s.heap.objs.size) : (X.comp scope N' C fp pins s H).Ok := by
  refine ⟨I.ok.mod, cp.kind, I.ok.glob, I.ok.blt, hC, fun x y c h1 h2 => I.ok.inj x y c (comp_look h1) (comp_look h2), fun x hx => ?_, fun x c z _ => ?_, I.ok.hd, I.ok.frames, .inl rfl, fun b hb => ⟨?_, fun x c e => ?_⟩, I.bs, Nat.le_trans I.ok.bsz I.sz, fun b o e hb => ?_, fun b hb z => ?_, I.stack, I.stkFree⟩
  · obtain ⟨q, kq⟩ := comp_free cp hx
    obtain ⟨d, hd⟩ := I.ok.has x (.inl kq)
    exact L3.closL_has hd q
  · exact absurd (show false = true from z) Bool.false_ne_true
  · exact Nat.ne_of_lt (Nat.lt_of_lt_of_le (hlt b hb) hC)
  · exact (hf b hb).2.2.2.2.1 x c (comp_look e)
  · rcases (hf b hb).2.2.2.1 with z | z
    · exact I.ok.noex b o e z
    · exact absurd (Nat.lt_of_lt_of_le (Heap.lt_size e) (Nat.le_trans I.ok.bsz z)) (Nat.lt_irrefl _)
  · rcases List.mem_cons.mp (I.stkSub b z) with e | e
    · exact (hf b hb).2.1 e
    · exact (hf b hb).2.2.1 e
theorem comp_in (I : Inv X pins σ H s) (cp : L3.CompParts X.env.scope scope X.N N' sh) {more : Nat} (hm : N'.length = X.N.length + more) (hC : s.heap.objs.size ≤ C) (hf : ∀ b ∈ fp, FpOk X pins H b) (hlt : ∀ b ∈ fp, b < s.heap.objs.size)
    {h1 : Heap} {t : Nat} {m : Str → Option Value} (k : ∀ b o, s.heap.get? b = some o → h1.get? b = some o) (hn : h1.Ns C m) : Inv (X.comp scope N' C fp pins s H) [] (L3.blank sh σ ++ List.replicate more none) H { s with heap := h1, toks := t } := by
  have neC : ∀ b o, s.heap.get? b = some o → b ≠ C := fun b o e => Nat.ne_of_lt (Nat.lt_of_lt_of_le (Heap.lt_size e) hC)
  have lenσ : σ.length = X.N.length := I.len
  refine ⟨comp_ok I cp hC hf hlt, rfl, I.bare, Un.kept k, ⟨m, hn, fun i x v e1 e2 e3 => ?_⟩, fun x c e => ?_, I.hok.fresh hC, fun x c e => I.freeC x c (comp_look e), fun p hp => ?_, I.hok.kept k, ?_⟩
  · have hi : i < (L3.blank sh σ).length := by
      by_cases hi : i < (L3.blank sh σ).length
      · exact hi
      · rw [List.getElem?_append_right (Nat.le_of_not_lt hi), List.getElem?_replicate] at e2
        split at e2 <;> cases e2
    rw [List.getElem?_append_left hi] at e2
    obtain ⟨h1', h2'⟩ := L3.blank_get e2
    rw [L3.blank_length, lenσ] at hi
    have eN : X.N[i]? = some x := by
      have q : (N'.take X.N.length)[i]? = some x := by rw [List.getElem?_take_of_lt hi]; exact e1
      rw [cp.pre] at q; exact q
    have e3' : (relabel scope X.env).names.lookup x = some .local ∨ (relabel scope X.env).names.lookup x = some .cell ∨ (relabel scope X.env).names.lookup x = some .free := e3
    rcases e3' with z | z
    · obtain ⟨k0, h0, hk⟩ := L3.relab_inv z
      have : k0 = .local := by
        rcases hk with q | ⟨_, q⟩
        · exact q.symm
        · cases q
      subst this
      exact absurd (cp.shad i x eN h0) h1'
    · obtain ⟨q, kq⟩ := comp_free cp z
      obtain ⟨m0, _, hl⟩ := I.loc
      obtain ⟨u, ru, lu⟩ := hl i x v eN h2' (.inr (.inl kq))
      rcases lu with ⟨kl, _⟩ | ⟨_, c, hc, ic⟩
      · rw [kq] at kl; cases kl
      · obtain ⟨c', hc'⟩ := L3.closL_has (cs := []) hc q
        have := comp_look (X := X) hc'
        rw [hc] at this; cases this
        exact ⟨u, ru, .inr ⟨z, c, hc', ic.keeps k⟩⟩
  · obtain ⟨v, z⟩ := I.cell x c (comp_look e)
    exact ⟨v, z.keeps k⟩
  · have hp' : p ∈ X.pn ++ pins := by simpa [Cx.comp] using hp
    obtain ⟨e, n, ne, nf, d⟩ := I.pin p hp'
    refine ⟨k _ _ e, n, neC _ _ e, fun z => ?_, d⟩
    rcases List.mem_cons.mp (I.stkSub p.1 z) with q | q
    · exact ne q
    · exact nf q
  · show (L3.blank sh σ ++ List.replicate more none).length = N'.length
    rw [List.length_append, L3.blank_length, List.length_replicate, lenσ, hm]
theorem comp_out {D : Addr} {n : Nat} {acc : List V} {ys : Array Value} {pl : List (Addr × Obj)} {σ4 : St} {H4 : Hp} {s4 : Shared} {h' : Heap} (I : Inv X pins σ H s) (hC : s.heap.objs.size ≤ C) (hf : ∀ b ∈ fp, FpOk X pins H b)
    (I4 : Inv (X.comp scope N' C fp pins s H) pl σ4 H4 s4) (hD : s.heap.objs.size ≤ D) (hDC : D ≠ C) (gD : s4.heap.get? D = some { cls := .type "list", data := .seq ys n }) (va : Vals acc ys.toList) (fD : H4 D = none) (hl : acc.length ≤ sizeLine)
    (sb : Heap.SameBut C s4.heap h') : Inv X pins σ (upd H4 D (.lst acc)) { s4 with heap := h' } := by
  have B : Un (frs X.stack) fp H H4 s.heap s4.heap := I4.base
  have fC : H4 C = none := I4.free
  have lo : ∀ b o, s.heap.get? b = some o → b ≠ C ∧ b ≠ D := fun b o e => ⟨Nat.ne_of_lt (Nat.lt_of_lt_of_le (Heap.lt_size e) hC), Nat.ne_of_lt (Nat.lt_of_lt_of_le (Heap.lt_size e) hD)⟩
  have u : Un (frs X.stack) fp H (upd H4 D (.lst acc)) s.heap h' := by
    refine ⟨fun b o e n hb hx => (sb.2 b (lo b o e).1).trans (B.keep b o e n hb hx), fun b o e n hb hx => ?_, fun b o e n hx => by rw [upd_ne (lo b o e).2]; exact B.free b o e n hx, fun b o e hx => ?_,
      fun b xs e => ?_, fun b o v e => ?_, fun b ps e => ?_⟩
    · obtain ⟨sl, q⟩ := B.slot b o e n hb hx
      exact ⟨sl, (sb.2 b (lo b o e).1).trans q⟩
    · obtain ⟨o', q⟩ := B.there b o e hx
      exact ⟨o', (sb.2 b (lo b o e).1).trans q⟩
    · have q := B.tups b xs e
      rw [upd_ne (ne_of_none q fD)]; exact q
    · have q := B.frzs b o v e
      rw [upd_ne (ne_of_none q fD)]; exact q
    · obtain ⟨more, q⟩ := B.tbls b ps e
      exact ⟨more, by rw [upd_ne (ne_of_none q fD)]; exact q⟩
  have hok : HOk X.prog X.w (upd H4 D (.lst acc)) h' := fun b v e => by
    by_cases hb : b = D
    · subst hb
      rw [upd_same] at e; cases e
      exact ⟨hl, ys.toList, n, va, by rw [sb.2 _ hDC, gD]⟩
    · rw [upd_ne hb] at e
      refine (show ObjOk X.prog X.w H4 s4.heap b v from I4.hok b v e).stay (fun c w' hc q => (sb.2 c ?_).trans q) (fun c q => by rw [upd_ne (ne_of_none q fD)]; exact q) fun c xs q => by rw [upd_ne (ne_of_none q fD)]; exact q
      rcases hc with z | z
      · rw [z]; exact ne_of_none e fC
      · exact ne_of_none z fC
  exact I.call' (s' := { s4 with heap := h' }) (ch := fp) (show s4.os = s.os from I4.os) u hok I4.bare fun b hb => ⟨(hf b hb).2.2.2.1, (hf b hb).2.1, (hf b hb).2.2.2.2.1, (hf b hb).2.2.2.2.2⟩
end
def PIf (X : Cx) (ifs : List Expr) (tt : TT) : Prop :=
  ∀ (pins : List (Addr × Obj)) (s : Shared) (σ : St) (H : Hp) (Q : Bool → Hp → Prop), Inv X pins σ H s → tt σ H Q → wpAny (model X.prog X.w) X.A (L3.testsOf ifs X.env) (TP X pins σ Q) X.xe s
theorem pif_nil {X : Cx} : PIf X [] (fun _ H Q => Q true H) := fun _ _ _ H _ I h => wpAny_tests_nil ⟨H, I, h⟩
theorem pif_one {X : Cx} {c : Expr} {t : TT} (h : PT X c t) : PIf X [c] t := fun pins s σ H Q I q => wpAny_tests_one (h pins s σ H Q I q)
def compW (J : It) (g : TG) (tt : TT) (te : TE) (σ : St) (H : Hp) (Q : VK) : Prop := ∃ W : Nat → Nat → List V → St → Hp → Prop, (∃ m, W 0 m [] σ H) ∧ ∀ i m acc σ' H', W i m acc σ' H' →
  (J.stop i H' ∧ acc.length ≤ sizeLine ∧ ∀ D, H' D = none → Q (.ref D) (upd H' D (.lst acc))) ∨
  (J.go i H' ∧ acc.length < sizeLine ∧ ∃ N : List V → St → Hp → Prop, (∀ acc' σ2 H2, N acc' σ2 H2 → ∃ m', m' < m ∧ W (i + 1) m' acc' σ2 H2) ∧
    ∀ x H2, J.yld i H' x H2 → g x σ' H2 fun σ2 H3 => tt σ2 H3 fun b H4 => if b = true then te σ2 H4 fun y H5 => N (acc ++ [y]) σ2 H5 else N acc σ2 H4)
def tComp (wi : TI) (g : TG) (tt : TT) (te : TE) (sh : List Nat) (more : Nat) : TE := fun σ H Q => wi σ H fun J H1 => compW J g tt te (L3.blank sh σ ++ List.replicate more none) H1 Q
theorem comp_any {X : Cx} {elt tg iter : Expr} {ifs : List Expr} {scope : Scope} {pos pos' : Pos} {wi : TI} {g : TG} {tt : TT} {te : TE} {sh : List Nat} {N' : List Str} {more : Nat} (hcalm : X.calm = true) (hi : PI X tg iter wi)
    (hg : ∀ C fp pins s H, PG (X.comp scope N' C fp pins s H) tg g) (ht : ∀ C fp pins s H, PIf (X.comp scope N' C fp pins s H) ifs tt) (he : ∀ C fp pins s H, PE (X.comp scope N' C fp pins s H) elt te)
    (hc : L3.compOk X.env.scope scope X.N N' sh = true) (hm : N'.length = X.N.length + more) (hs : ∀ x, foldedSetIterable iter X.env x = pure x) {use : Option (Value → Sem Unit)} {Qv : Value → Shared → Prop}
    {pins : List (Addr × Obj)} {s : Shared} {σ : St} {H : Hp} {Q : VK} (I : Inv X pins σ H s) (h : tComp wi g tt te sh more σ H Q)
    (fin : ∀ (D C : Addr) (s2 : Shared) (H2 : Hp) (fp : List Addr) (pl : List (Addr × Obj)) (σ4 : St) (H4 : Hp) (s4 : Shared) (n : Nat) (ys : Array Value) (acc : List V), Inv X pins σ H2 s2 → (∀ b ∈ fp, FpOk X pins H2 b) → s2.heap.objs.size ≤ C → s2.heap.objs.size ≤ D → D ≠ C →
      Inv (X.comp scope N' C fp pins s2 H2) pl σ4 H4 s4 → s4.heap.get? D = some { cls := .type "list", data := .seq ys n } → Vals acc ys.toList → H4 D = none → acc.length ≤ sizeLine → Q (.ref D) (upd H4 D (.lst acc)) → compPost (model X.prog X.w) X.A X.xe use Qv (.ref D) C (.ok .next) s4) :
    wpAny (model X.prog X.w) X.A (comprehension (.ListComp elt [⟨tg, iter, ifs, 0⟩] scope pos) scope X.env pos' (newList []) false (eval iter X.env) use) Qv X.xe s := by
  have cp := L3.compOk_parts hc
  refine wpAny_comprehension_free (cl := L3.closL X.env.cells scope.names []) rfl hs (L3.closureFor_eq fun x hx hk => ?_) cp.kind cp.loc ?_
  · obtain ⟨c, q⟩ := I.ok.has x.1 (.inl (cp.free x hx hk))
    rw [q]; rfl
  show wpAny _ X.A (eval iter X.env) _ _ s
  refine thn (hi pins s σ H _ I h) fun v s1 h1 => thn h1 fun itv s2 h2 => ?_
  obtain ⟨it, fp, tn, J, H2, e, I2, T, st2, f2, W, ⟨m0, w0⟩, turn⟩ := h2
  subst e
  have hlt : ∀ b ∈ fp, b < s2.heap.objs.size := fun b hb => by
    obtain ⟨o, q, _⟩ := T.obj 0 _ st2 b hb
    exact Heap.lt_size q
  refine wpAny_newObj_type (wpAny_newFunctionEnv cp.cell (by intro y hy; simp at hy) (fun h₁ hns hsb => ?_) cp.kind)
  dsimp only at hns hsb ⊢
  generalize hG : s2.heap.push { cls := .type "list", dict := none, data := .seq ([] : List Value).toArray } = G at hns hsb ⊢
  have hz : G.objs.size = s2.heap.objs.size + 1 := by rw [← hG, Heap.size_push]
  have hC : s2.heap.objs.size ≤ G.objs.size := by omega
  have hDC : s2.heap.objs.size ≠ G.objs.size := by omega
  have old : ∀ b o, s2.heap.get? b = some o → h₁.get? b = some o := fun b o q => by
    have hb := Heap.lt_size q
    exact hsb.extBut b o (Nat.ne_of_lt (Nat.lt_of_lt_of_le hb hC)) (Heap.get?_push_of_some _ (hG ▸ Heap.get?_push_of_some _ q))
  have acc0 : h₁.PlainList s2.heap.objs.size #[] := ⟨_, hsb.extBut _ _ hDC (Heap.get?_push_of_some _ (hG ▸ Heap.get?_push_size _ rfl))⟩
  have nfD : s2.heap.objs.size ∉ frs X.stack := fun z => by
    obtain ⟨_, o, ho, _⟩ := I2.stack.mem z
    exact absurd (Heap.lt_size ho) (Nat.lt_irrefl _)
  have fpD : ∀ b ∈ fp, s2.heap.objs.size ≠ b := fun b hb => Nat.ne_of_gt (hlt b hb)
  have cD : ∀ x c, (L3.closL X.env.cells scope.names []).lookup x = some c → c ≠ s2.heap.objs.size := fun x c q z => by
    obtain ⟨w', z'⟩ := I2.cell x c (comp_look q)
    rw [z] at z'
    exact absurd z'.lt (Nat.lt_irrefl _)
  have pnD : ∀ p ∈ X.pn ++ pins, p.1 ≠ s2.heap.objs.size := fun p hp z => by
    have q := (I2.pin p hp).1
    rw [z] at q
    exact absurd (Heap.lt_size q) (Nat.lt_irrefl _)
  have okX : (X.comp scope N' G.objs.size fp pins s2 H2).Ok := comp_ok I2 cp hC f2 hlt
  -- the iterator's records, seen from the block
  have stat : ∀ {o : Obj} {H' : Hp}, (∀ b ∈ fp, H' b = none) → ∀ b ∈ fp, FpOk (X.comp scope N' G.objs.size fp pins s2 H2) [(s2.heap.objs.size, o)] H' b := fun {o H'} hn b hb => by
    refine ⟨hn b hb, (okX.exf b hb).1, okX.exfs b hb, .inl hb, (okX.exf b hb).2, fun p hp => ?_⟩
    rcases List.mem_append.mp hp with z | z
    · exact (f2 b hb).2.2.2.2.2 p z
    · have : p = (s2.heap.objs.size, o) := by simpa using z
      rw [this]; exact fpD b hb
  -- the list so far, held as it is
  have hold : ∀ {σ' : St} {H' : Hp} {s' : Shared} {o : Obj}, Inv (X.comp scope N' G.objs.size fp pins s2 H2) [] σ' H' s' → s'.heap.get? s2.heap.objs.size = some o → H' s2.heap.objs.size = none → (∀ v, o.data ≠ .cell v) →
      Inv (X.comp scope N' G.objs.size fp pins s2 H2) [(s2.heap.objs.size, o)] σ' H' s' := fun {σ' H' s' o} I' q n d => I'.pins_of fun p hp => by
    have : p = (s2.heap.objs.size, o) := by simpa using hp
    subst this
    exact ⟨q, n, hDC, nfD, d⟩
  have loop : ∀ s₃ : Shared, s₃ = { s2 with heap := h₁, toks := s2.toks + ([] : List (Str × Value)).length } →
      codeAny (model X.prog X.w) X.A (.compLoop (.ListComp elt [⟨tg, iter, ifs, 0⟩] scope pos) 0 (.ref it) (.ref s2.heap.objs.size) (compEnvC scope (L3.closL X.env.cells scope.names []) G.objs.size X.env))
        (compPost (model X.prog X.w) X.A X.xe use Qv (.ref s2.heap.objs.size) G.objs.size) s₃ := by
    rintro s₃ rfl
    refine L3.comp_loop (fun n s' => ∃ i acc ys σ' H', Inv (X.comp scope N' G.objs.size fp pins s2 H2) [] σ' H' s' ∧ tn i s'.heap ∧ (∀ b ∈ fp, H' b = none) ∧ s'.heap.PlainList s2.heap.objs.size ys ∧ Vals acc ys.toList ∧ H' s2.heap.objs.size = none ∧ W i n acc σ' H') ?_ m0
      ⟨0, [], #[], _, H2, comp_in I2 cp hm hC f2 hlt old hns, T.keep _ _ _ st2 (fun b _ o q => old b o q), fun b hb => (f2 b hb).1, acc0, .nil, I2.hok.fresh (Nat.le_refl _), w0⟩
    rintro n s3 ⟨i, acc, ys, σ3, H3, I3, st3, fr3, ⟨nn, gD⟩, va, fD, w3⟩
    have dD : ∀ v, ({ cls := .type "list", data := .seq ys nn } : Obj).data ≠ .cell v := fun v z => by
      have z' : Data.seq ys nn = Data.cell v := z
      cases z'
    have I3' := hold I3 gD fD dD
    rcases turn i n acc σ3 H3 w3 with ⟨stop, hl, q⟩ | ⟨go, hl, N, hN, step⟩
    · refine thn (T.done (X.comp scope N' G.objs.size fp pins s2 H2) rfl rfl rfl hcalm i _ s3 σ3 H3 (fun _ _ => False) I3' (stat fr3) st3 stop) fun r s4 ⟨hr, I4⟩ => ?_
      subst hr
      have g4 := (I4.pin (s2.heap.objs.size, _) (List.mem_append_right _ List.mem_cons_self)).1
      exact fin _ _ s2 H2 fp _ _ _ s4 _ _ acc I2 f2 hC (Nat.le_refl _) hDC I4 g4 va fD hl (q _ fD)
    · refine thn (T.item (X.comp scope N' G.objs.size fp pins s2 H2) rfl rfl rfl hcalm i _ s3 σ3 H3 (fun _ _ => False) I3' (stat fr3) st3 go) fun r s4 ⟨u, hr, h4⟩ => ?_
      subst hr
      refine thn h4 fun _ s5 ⟨x, H5, I5, r5, y5, st5, fr5⟩ => ?_
      have I5' := I5.pinned (stat fr5) (T.obj _ _ st5)
      refine thn (hg _ _ _ _ _ _ s5 σ3 H5 x u _ I5' r5 (step x H5 y5)) fun _ s6 ⟨σ6, H6, I6, q6⟩ => ?_
      refine thn (ht _ _ _ _ _ _ s6 σ6 H6 _ I6 q6) fun b s7 ⟨H7, I7, q7⟩ => ?_
      have inD : ∀ {o : Obj}, (s2.heap.objs.size, o) ∈ [(s2.heap.objs.size, o)] ++ pinsAt fp s5.heap := List.mem_append_left _ List.mem_cons_self
      have turned : ∀ {σ' : St} {H' : Hp} {s' : Shared}, Inv (X.comp scope N' G.objs.size fp pins s2 H2) ([(s2.heap.objs.size, ({ cls := .type "list", data := .seq ys nn } : Obj))] ++ pinsAt fp s5.heap) σ' H' s' →
          (∀ b ∈ fp, ∀ o, s5.heap.get? b = some o → s'.heap.get? b = some o) ∧ ∀ b ∈ fp, H' b = none := fun I' => by
        refine ⟨fun b hb o q => (I'.pin (b, o) (List.mem_append_right _ (List.mem_append_right _ (mem_pinsAt hb q)))).1, fun b hb => ?_⟩
        obtain ⟨o, q, _⟩ := T.obj _ _ st5 b hb
        exact (I'.pin (b, o) (List.mem_append_right _ (List.mem_append_right _ (mem_pinsAt hb q)))).2.1
      cases b with
      | false =>
        rw [if_neg Bool.false_ne_true] at q7 ⊢
        obtain ⟨m', hm', w7⟩ := hN _ _ _ q7
        have p7 := I7.pin (s2.heap.objs.size, _) (List.mem_append_right _ inD)
        exact ⟨m', hm', i + 1, acc, ys, σ6, H7, I7.pins_of (fun p hp => absurd hp (by simp)), T.keep _ _ _ st5 (turned I7).1, (turned I7).2, ⟨nn, p7.1⟩, va, p7.2.1, w7⟩
      | true =>
        rw [if_pos rfl] at q7 ⊢
        refine thn (he _ _ _ _ _ _ s7 σ6 H7 _ I7 q7) fun yv s8 ⟨y, H8, I8, r8, q8⟩ => ?_
        obtain ⟨m', hm', w8⟩ := hN _ _ _ q8
        have p8 := I8.pin (s2.heap.objs.size, _) (List.mem_append_right _ inD)
        have lenv := va.length
        refine wpAny_list_append_plain (hsz := by rw [← Array.length_toList, ← lenv]; exact Nat.le_of_lt hl) ⟨nn, p8.1⟩ fun h9 pl9 sb9 => ?_
        have J8 : Inv (X.comp scope N' G.objs.size fp pins s2 H2) [] σ6 H8 s8 := I8.pins_of fun p hp => absurd hp (by simp)
        refine ⟨m', hm', i + 1, acc ++ [y], ys.push yv, σ6, H8, J8.turned (t' := s8.toks) (fun b o hb q => (sb9.2 b hb).trans q) p8.2.1 hDC (.inr (Nat.le_refl _)) cD (fun p hp => pnD p (by simpa [Cx.comp] using hp)), ?_, (turned I8).2, pl9, ?_, p8.2.1, w8⟩
        · exact T.keep _ _ _ st5 fun b hb o q => (sb9.2 b (fpD b hb).symm).trans ((turned I8).1 b hb o q)
        · rw [Array.toList_push]
          exact va.append (.cons r8 .nil)
  exact codeAny_compStart_list (loop _ rfl) (T.self _ 0 _ _ _ (T.keep _ _ _ st2 fun b _ o q => old b o q) (loop _ rfl))
theorem pe_comp {X : Cx} {elt tg iter : Expr} {ifs : List Expr} {scope : Scope} {pos : Pos} {wi : TI} {g : TG} {tt : TT} {te : TE} (sh : List Nat) (N' : List Str) (more : Nat) (hcalm : X.calm = true) (hi : PI X tg iter wi)
    (hg : ∀ C fp pins s H, PG (X.comp scope N' C fp pins s H) tg g) (ht : ∀ C fp pins s H, PIf (X.comp scope N' C fp pins s H) ifs tt) (he : ∀ C fp pins s H, PE (X.comp scope N' C fp pins s H) elt te)
    (hc : L3.compOk X.env.scope scope X.N N' sh = true := by rfl) (hm : N'.length = X.N.length + more := by rfl) (hs : ∀ x, foldedSetIterable iter X.env x = pure x := by intro _; rfl) :
    PE X (.ListComp elt [⟨tg, iter, ifs, 0⟩] scope pos) (tComp wi g tt te sh more) := by
  intro pins s σ H Q I h
  rw [eval_ListComp]
  refine comp_any hcalm hi hg ht he hc hm hs (use := none) I h fun D C s2 H2 fp pl σ4 H4 s4 n ys acc I2 f2 hC hD hDC I4 g4 va fD hl q => ?_
  obtain ⟨m4, hn4, _⟩ := I4.loc
  exact ⟨m4, hn4, fun h' sb => ⟨.ref D, _, comp_out I2 hC f2 I4 hD hDC g4 va fD hl sb, rfl, q⟩⟩
theorem ps_comp {X : Cx} {elt tg iter : Expr} {ifs : List Expr} {scope : Scope} {pos py spos : Pos} {y : Str} {wi : TI} {g : TG} {tt : TT} {te : TE} (i : Nat) (sh : List Nat) (N' : List Str) (more : Nat) (hcalm : X.calm = true) (hN : X.N.Nodup) (hiy : X.N[i]? = some y) (hy : X.env.scope.names.lookup y = some .local) (hi : PI X tg iter wi)
    (hg : ∀ C fp pins s H, PG (X.comp scope N' C fp pins s H) tg g) (ht : ∀ C fp pins s H, PIf (X.comp scope N' C fp pins s H) ifs tt) (he : ∀ C fp pins s H, PE (X.comp scope N' C fp pins s H) elt te)
    (hc : L3.compOk X.env.scope scope X.N N' sh = true := by rfl) (hm : N'.length = X.N.length + more := by rfl) (hs : ∀ x, foldedSetIterable iter X.env x = pure x := by intro _; rfl)
    (hsw : swapsWith (.ListComp elt [⟨tg, iter, ifs, 0⟩] scope pos) (some (.Name y py)) spos.line X.env = pure true := by rfl) :
    PS X (.Assign [.Name y py] (.ListComp elt [⟨tg, iter, ifs, 0⟩] scope pos) spos) (tAsg (tComp wi g tt te sh more) (gName i)) := by
  intro pins s σ H D' I h
  rw [exec_Assign_Name_used _ _ _ _ hsw]
  refine wpAny_bind (wpAny_standAt (wpAny_bind ?_))
  show wpAny _ X.A (do let _ ← comprehension (.ListComp elt [⟨tg, iter, ifs, 0⟩] scope pos) scope X.env _ (newList []) false (eval iter X.env) (some (assign (.Name y py) X.env))) _ _ s
  refine wpAny_bind (wpAny_mono (comp_any hcalm hi hg ht he hc hm hs (use := some (assign (.Name y py) X.env)) (Qv := fun _ s' => SP X pins D' .next s') I h fun D C s2 H2 fp pl σ4 H4 s4 n ys acc I2 f2 hC hD hDC I4 g4 va fD hl q => ?_) (fun _ s' hq => wpAny_pure (wpAny_pure hq)) fun _ _ e => e)
  obtain ⟨m4, hn4, _⟩ := I4.loc
  have Io : Inv X pins σ (upd H4 D (.lst acc)) s4 := comp_out I2 hC f2 I4 hD hDC g4 va fD hl (Heap.SameBut.refl ..)
  have lL : X.env.locals < C := Nat.lt_of_lt_of_le I2.lt hC
  show wpAny _ X.A (assign (.Name y py) X.env (.ref D)) _ _ s4
  refine wpAny_assign_Name (store_ok2 Io hN hiy (.inl hy) (v := .ref D) rfl (fun s5 I5 ⟨a, sb5, ha⟩ => ?_) (.inr hy))
  have cC : ∀ x c, X.env.cells.lookup x = some c → c ≠ C := fun x c z zz => by
    obtain ⟨v, z'⟩ := I2.cell x c z
    rw [zz] at z'
    exact absurd (Nat.lt_of_lt_of_le z'.lt hC) (Nat.lt_irrefl _)
  have aC : C ≠ a := fun z => by
    rcases ha with y' | y'
    · rw [← z] at y'; rw [y'] at lL; exact absurd lL (Nat.lt_irrefl _)
    · exact cC _ _ y' z.symm
  refine ⟨m4, Heap.Ns.sameBut hn4 sb5 aC, fun h' sb => ⟨_, _, I5.turned (t' := s5.toks) (it := C) (fun b o hb z => (sb.2 b hb).trans z) ?_ (Nat.ne_of_gt lL) (.inr (Nat.le_trans I2.sz hC)) cC (fun p hp z => ?_), q⟩⟩
  · rw [upd_ne hDC.symm]
    exact I4.free
  · have q' := (I2.pin p hp).1
    rw [z] at q'
    exact absurd (Nat.lt_of_lt_of_le (Heap.lt_size q') hC) (Nat.lt_irrefl _)
theorem range_all : ∀ (bs : List Bool), ((List.range bs.length).all fun i => bs.getD i true) = bs.all id := by
  intro bs
  rw [Bool.eq_iff_iff, List.all_eq_true, List.all_eq_true]
  constructor
  · intro h b hb
    obtain ⟨i, hi, e⟩ := List.mem_iff_getElem.mp hb
    have q := h i (List.mem_range.mpr hi)
    rw [List.getD_eq_getElem?_getD, List.getElem?_eq_getElem hi] at q
    rw [← e]; exact q
  · intro h i hi
    have hi := List.mem_range.mp hi
    rw [List.getD_eq_getElem?_getD, List.getElem?_eq_getElem hi]
    exact h _ (List.getElem_mem hi)
section
variable {X : Cx}
theorem call_allL (hc : X.calm = true) : CallR X (.builtin "all") (fun xs H Q => ∃ (p : Addr) (bs : List Bool), xs = [.ref p] ∧ SqL X.K H p (bs.map V.bl) ∧ Q (.bl (bs.all id)) H) := by
  intro pins s σ H xs us Q I r h
  obtain ⟨p, bs, rfl, hq, q⟩ := h
  obtain ⟨u, rfl, rx⟩ := vals1 r
  cases rx
  obtain ⟨its, rv, pl, hz⟩ := I.list hq
  have hlen : its.length = bs.length := by rw [← rv.length, List.length_map]
  have plt : p < s.heap.objs.size := by
    obtain ⟨o, ho, _⟩ := pl.isList
    exact Heap.lt_size ho
  have hh : X.A.in1.handled = none := I.ok.hd hc
  refine call_all_walk (wpAny_pyIter_list pl.isList ⟨s.heap.objs.size, _, _, _, _, _, fun i => bs.getD i true, rfl, Walks.list hh s.heap.objs.size p (Nat.ne_of_lt plt) its.toArray, ⟨⟨_, Heap.get?_push_size _ rfl, rfl, rfl⟩, pl.isList.push _⟩, fun i v s' Q' E' hv hQ => ?_, fun h' tk k => ?_⟩)
  · have hv' : its[i]? = some v := by simpa using hv
    have hi : i < bs.length := by
      rw [← hlen]; exact (List.getElem?_eq_some_iff.mp hv').1
    obtain ⟨u, hu, ru⟩ := rv.get (i := i) (x := .bl bs[i]) (by rw [List.getElem?_map, List.getElem?_eq_getElem hi]; rfl)
    rw [hv'] at hu; cases hu
    cases ru
    have e : bs.getD i true = bs[i] := by rw [List.getD_eq_getElem?_getD, List.getElem?_eq_getElem hi]; rfl
    have hQ' : Q' (bs.getD i true) s' := hQ
    rw [e] at hQ'
    exact wpAny_truthy_bool hQ'
  · have e : its.toArray.size = bs.length := by rw [List.size_toArray, hlen]
    rw [e, range_all]
    refine ⟨.bl (bs.all id), H, ?_, rfl, q⟩
    have I1 : Inv X pins σ H { s with heap := s.heap.push { cls := .type "list_iterator", data := .fields #[.ref p, .int 0 0] } } := I.kept (t' := s.toks) fun b o z => Heap.get?_push_of_some _ z
    refine I1.turnMany (t' := tk) (ch := [s.heap.objs.size]) (fun b hb => ?_) fun b o hb z => k b o (by simpa using hb) z
    have : b = s.heap.objs.size := by simpa using hb
    subst this
    exact I.fpOk (Nat.le_refl _) (I.hok.fresh (Nat.le_refl _))
theorem call_isi : CallR X (.builtin "isinstance") (fun xs H Q => ∃ x c t b, xs = [x, .ty c] ∧ TyOf X.K H x t ∧ PySem.W.kitOne X.K t (.type c) = some b ∧ Q (.bl b) H) := by
  intro pins s σ H xs us Q I r h
  obtain ⟨x, c, t, b, rfl, ty, e, q⟩ := h
  obtain ⟨u, v, rfl, rx, rc⟩ := vals2 r
  cases (show v = Value.type c from rc)
  exact isinst_ok I rx ty e fun tk => ⟨.bl b, H, I.tok _, rfl, q⟩
def rSl3 (K : PySem.W.Frag) : V → Option Int → Option Int → Option Int → Hp → VK → Prop := fun x lo hi st H Q => ∃ a xs, x = .ref a ∧ SqT K H a xs ∧ st.getD 1 ≠ 0 ∧ (L3.cutAt xs.length lo hi st).2.2 ≤ sizeLine ∧
  (L3.wholeAt xs.length (L3.cutAt xs.length lo hi st) = true → Q (.ref a) H) ∧ (L3.wholeAt xs.length (L3.cutAt xs.length lo hi st) = false → ∀ p, H p = none → Q (.ref p) (upd H p (.tup (L3.pickAt xs (L3.cutAt xs.length lo hi st)))))
theorem vals_pick {xs : List V} {us : List Value} (r : Vals xs us) (f : Nat → Nat) : ∀ l : List Nat, Vals (l.filterMap fun k => xs[f k]?) (l.filterMap fun k => us[f k]?)
  | [] => .nil
  | k :: l => by
    have ih := vals_pick r f l
    rw [List.filterMap_cons, List.filterMap_cons]
    cases e : xs[f k]? with
    | none =>
      have e2 : us[f k]? = none := by
        rw [List.getElem?_eq_none_iff] at e ⊢
        rw [← r.length]; exact e
      rw [e2]; exact ih
    | some x =>
      obtain ⟨u, hu, ru⟩ := r.get e
      rw [hu]; exact .cons ru ih
def tSl3 (r : V → Option Int → Option Int → Option Int → Hp → VK → Prop) (te : TE) (tl th ts : TO) : TE := fun σ H Q => te σ H fun x H1 => tl σ H1 fun l H2 => th σ H2 fun u H3 => ts σ H3 fun st H4 => r x l u st H4 Q
theorem pe_slice3 {e : Expr} {te : TE} {lo hi st : Option Expr} {tl th ts : TO} {pos p2 : Pos} (he : PE X e te) (hl : PO X lo tl) (hu : PO X hi th) (hst : PO X st ts) : PE X (.Subscript e (.Slice lo hi st p2) pos) (tSl3 (rSl3 X.K) te tl th ts) := by
  intro pins s σ H Q I h
  refine Subscript_ (thn (he pins s σ H _ I h) fun v s1 ⟨x, H1, I1, r1, q1⟩ => ?_)
  refine wpAny_Slice (thn (hl pins s1 σ H1 _ I1 q1) fun vl s2 ⟨l, H2, I2, pl, q2⟩ => thn (hu pins s2 σ H2 _ I2 q2) fun vu s3 ⟨u, H3, I3, pu, q3⟩ => thn (hst pins s3 σ H3 _ I3 q3) fun vs s4 ⟨k, H4, I4, ps, q4⟩ => ?_)
  obtain ⟨a, xs, rfl, hx, h0, hz2, q5, q6⟩ := q4
  cases r1
  have I5 : Inv X pins σ H4 { s4 with heap := s4.heap.push { cls := .type "slice", data := .fields #[vl, vu, vs] } } := I4.kept (t' := s4.toks) fun b ob q => Heap.get?_push_of_some _ q
  obtain ⟨its, r, ht, hz⟩ := I5.tuple hx
  have hlen : its.toArray.size = xs.length := by rw [List.size_toArray]; exact r.length.symm
  have hg : wpAny (model X.prog X.w) X.A (getItem (.ref a) (.ref s4.heap.objs.size)) (EP X pins σ Q) X.xe { s4 with heap := s4.heap.push { cls := .type "slice", data := .fields #[vl, vu, vs] } } := by
    refine L3.tupleCut ht (Heap.IsSliceOf.new ..) pl pu ps h0 (fun w => ?_) (fun w => ?_) (by rw [hlen]; exact hz2)
    · rw [hlen] at w
      exact ⟨.ref a, H4, I5, rfl, q5 w⟩
    · rw [hlen] at w ⊢
      refine ⟨.ref _, _, I5.laid (t' := s4.toks) (o := .tup (L3.pickAt xs (L3.cutAt xs.length l u k))) (fun b ob q => Heap.get?_push_of_some _ q) (Nat.le_refl _) ?_, rfl, q6 w _ (I5.hok.fresh (Nat.le_refl _))⟩
      refine ⟨?_, _, vals_pick r _ _, IsTup.new _ _, _, Heap.get?_push_size _ rfl, rfl⟩
      exact Nat.le_trans (List.length_filterMap_le _ _) (by rw [List.length_range]; exact hz2)
  show wpAny (model X.prog X.w) X.A (subscriptTail e (.Slice lo hi st p2) (.ref a) (.ref s4.heap.objs.size)) (EP X pins σ Q) X.xe { s4 with heap := s4.heap.push { cls := .type "slice", data := .fields #[vl, vu, vs] } }
  cases st with
  | none => exact tail_any (ops := [.ref s4.heap.objs.size, .ref a]) ht.typeIs PyProof.Rows.slot_tuple_getitem.lookup hg (by with_unfolding_all rfl)
  | some st => exact tail_any (ops := [.ref a, .ref s4.heap.objs.size]) ht.typeIs PyProof.Rows.slot_tuple_getitem.lookup hg (by with_unfolding_all rfl)
def rCat0 (K : PySem.W.Frag) : R2 := fun x y H Q => ∃ a b xs ys, x = .ref a ∧ y = .ref b ∧ SqT K H a xs ∧ SqT K H b ys ∧ xs.length + ys.length ≤ sizeLine ∧
  (xs = [] → Q (.ref b) H) ∧ (xs ≠ [] → ys = [] → Q (.ref a) H) ∧ (xs ≠ [] → ys ≠ [] → ∀ p, H p = none → Q (.ref p) (upd H p (.tup (xs ++ ys))))
theorem op_cat0 : OpR X (binaryOp .Add) (rCat0 X.K) := by
  intro pins s σ H x y v u Q I rx ry h
  obtain ⟨a, b, xs, ys, rfl, rfl, ha, hb, hz, q0, q1, q2⟩ := h
  by_cases hx : xs = []
  · cases rx
    cases ry
    obtain ⟨its, r1, p1, _⟩ := I.tuple ha
    obtain ⟨its2, r2, p2, _⟩ := I.tuple hb
    have e1 : its = [] := r1.nil_iff.mpr hx
    obtain ⟨⟨cls, dd, data, sl⟩, ho, hc, n, hd⟩ := id p1
    obtain ⟨⟨cls2, dd2, data2, sl2⟩, ho2, hc2, n2, hd2⟩ := id p2
    simp only at hc hd hc2 hd2
    subst hc hd hc2 hd2
    exact concat_meets ⟨_, ho, rfl⟩ ⟨_, ho2, rfl⟩ noFill_tuple_add seq_tuple_add PySem.F.slot_tuple_add PySem.F.entry_tuple_add (PySem.F.args_tuple_add_2 _ _)
      (tuple_addW0 a b its.toArray its2.toArray n n2 dd dd2 sl sl2 (by simp [e1])) ⟨ho, ho2, ⟨.ref b, H, I, rfl, q0 hx⟩⟩
  · exact op_catT pins s σ H _ _ v u Q I rx ry ⟨a, b, xs, ys, rfl, rfl, ha, hb, hx, hz, fun z => q1 hx z, fun z => q2 hx z⟩
end
end L2
namespace L2
open PySem PySem.Spec PyProof.Rows
structure Fn (P : Program) (w : World) (K : PySem.W.Frag) (mg : Str → Option Value) (base : Heap) (x : Str) (ps : List Str) (k : Nat) (sp : Sp) : Prop where
  ex : ∃ f fd, FnOk P w K mg base CX0 k f fd ps sp ∧ mg x = some (.ref f) ∧ PySem.W.keepIn K (.ref f) = true ∧ Binds K fd ps []
theorem Fn.of {P : Program} {w : World} {K : PySem.W.Frag} {mg : Str → Option Value} {base : Heap} {x : Str} {ps : List Str} {k : Nat} {sp : Sp} {f : Addr} {fd : FuncData} (O : FnOk P w K mg base CX0 k f fd ps sp) (m : mg x = some (.ref f)) (kp : PySem.W.keepIn K (.ref f) = true) (b : Binds K fd ps []) :
    Fn P w K mg base x ps k sp := ⟨f, fd, O, m, kp, b⟩
section
variable {X : Cx} {x : Str} {ps : List Str} {k k' : Nat} {sp : Sp} {e : Expr} {es : List Expr} {t : TA} {p pos : Pos}
theorem pe_fn (F : Fn X.prog X.w X.K X.mg X.base x ps k sp) (hr : Room k' X.A) (ha : PA X (e :: es) t) (hk : k ≤ k' := by first | decide | exact Nat.le_refl _) (hg : Gl X x := by rfl) (hdb : (x == ("__debug__" : Str)) = false := by decide)
    (he : starEach (e :: es) X.env = (false, eval e X.env) :: starEach es X.env := by rfl) (hpl : (backTo pos (starEach es X.env)).any (·.1) = false := by rfl) : PE X (.Call (.Name x p) (e :: es) [] pos) (tCall sp [] E0 t) := by
  obtain ⟨f, fd, O, m, kp, b⟩ := F.ex
  exact pe_call O (hr.mono hk) hg m kp b .nil pass0 ha hdb he hpl
theorem ps_join {st : Stmt} {t : TS} (h : PS X st t) : PS X st (fun D σ H => ∃ J : St → Hp → Prop, (∀ σ' H', J σ' H' → D.nx σ' H') ∧ t { D with nx := J } σ H) := by
  intro pins s σ H D I q
  obtain ⟨J, hJ, q⟩ := q
  refine thn (h pins s σ H _ I q) fun f s1 r => ?_
  cases f with
  | next =>
    obtain ⟨σ', H', I', r⟩ := r
    exact ⟨σ', H', I', hJ _ _ r⟩
  | ret v => exact r
  | brk => exact r
  | cont => exact r
end
section
variable {X : Cx}
theorem pg_tupK (K : PySem.W.Frag) (n : Nat) {es : List Expr} {k : Nat} {t : TGs} {pos : Pos} (hc : X.calm = true) (h : PGs X es t) (hK : X.K = K) (hn : (assignEach es X.env).length = n) (hst : (assignEach es X.env).findIdx? (·.1) = none) : PG X (.Tuple es k pos) (gTup K n t) := by
  subst hK
  exact pg_tup hc h hn hst
theorem ix_tupK (K : PySem.W.Frag) (hK : X.K = K) : IxR X (rIxT K) := by
  subst hK
  exact ix_tup
theorem ix_listK (K : PySem.W.Frag) (hK : X.K = K) : IxR X (rIxL K) := by
  subst hK
  exact ix_list
theorem call_len_seqK (K : PySem.W.Frag) (hK : X.K = K) : CallR X (.builtin "len") (fun xs H Q => ∃ p ys, xs = [.ref p] ∧ (SqL K H p ys ∨ SqT K H p ys) ∧ Q (.int ys.length) H) := by
  subst hK
  exact call_len_seq
end
theorem same_new {H : Hp} {p : Addr} (h : H p = none) (o : HO) : Same H (upd H p o) := fun b u q => by rw [upd_ne (ne_of_none q h)]; exact q
theorem small {n : Nat} (h : n ≤ 1000000) : n ≤ sizeLine := Nat.le_trans h (by rw [sizeLine_eq]; decide)
theorem smallL {n : Nat} (h : n ≤ 1000000) : n < sizeLine := Nat.lt_of_le_of_lt h (by rw [sizeLine_eq]; decide)
def Scr (K : PySem.W.Frag) (H : Hp) (a : Addr) (ns : List Int) : Prop := (∃ o, H a = some (.frz o (.lst (ns.map V.int)))) ∨
  ∃ (o : Obj) (its : Array Value) (n : Nat), K.lookup a = some o ∧ o.cls = .type "list" ∧ o.dict = none ∧ o.data = .seq its n ∧ its.size ≤ sizeLine ∧ Vals (ns.map V.int) its.toList
theorem Scr.seq {K : PySem.W.Frag} {H : Hp} {a : Addr} {ns : List Int} (h : Scr K H a ns) : SqL K H a (ns.map V.int) := by
  rcases h with ⟨o, h⟩ | h
  · exact .inl (.inr ⟨o, h⟩)
  · exact .inr h
theorem Scr.of {K : PySem.W.Frag} {H : Hp} {a : Addr} {ns : List Int} (h : SqL K H a (ns.map V.int)) (o : Only H) : Scr K H a ns := by
  rcases h with (h | ⟨ob, h⟩) | h
  · rcases o a with z | ⟨ob, xs, z⟩
    · rw [z] at h; cases h
    · rw [z] at h; cases h
  · exact .inl ⟨ob, h⟩
  · exact .inr h
abbrev zeros (k : Nat) : List V := List.replicate k (V.int 0)
def Twn (H : Hp) (t : Addr) (k : Nat) : Prop := H t = some (.lst (zeros k))
def Grow (t : Addr) (H H' : Hp) : Prop := ∀ b o, b ≠ t → H b = some o → H' b = some o
theorem Grow.refl (t : Addr) (H : Hp) : Grow t H H := fun _ _ _ h => h
theorem Grow.trans {t : Addr} {H H1 H2 : Hp} (a : Grow t H H1) (b : Grow t H1 H2) : Grow t H H2 := fun c o n h => b c o n (a c o n h)
theorem Grow.same {t : Addr} {H H1 : Hp} (a : Same H H1) : Grow t H H1 := fun c o _ h => a c o h
theorem Grow.upd {t : Addr} {H : Hp} (o : HO) : Grow t H (upd H t o) := fun c u n h => by rw [upd_ne n]; exact h
theorem Grow.scr {K : PySem.W.Frag} {t a : Addr} {H H' : Hp} {ns : List Int} {k : Nat} (g : Grow t H H') (tw : Twn H t k) (s : Scr K H a ns) : Scr K H' a ns := by
  rcases s with ⟨o, h⟩ | h
  · exact .inl ⟨o, g _ _ (fun z => by subst z; unfold Twn at tw; rw [tw] at h; cases h) h⟩
  · exact .inr h
theorem Grow.tup {t a : Addr} {H H' : Hp} {xs : List V} {k : Nat} (g : Grow t H H') (tw : Twn H t k) (h : H a = some (.tup xs)) : H' a = some (.tup xs) :=
  g _ _ (fun z => by subst z; unfold Twn at tw; rw [tw] at h; cases h) h
theorem Same.scr {K : PySem.W.Frag} {a : Addr} {H H' : Hp} {ns : List Int} (g : Same H H') (s : Scr K H a ns) : Scr K H' a ns := by
  rcases s with ⟨o, h⟩ | h
  · exact .inl ⟨o, g _ _ h⟩
  · exact .inr h
theorem Same.twn {t : Addr} {H H' : Hp} {k : Nat} (g : Same H H') (s : Twn H t k) : Twn H' t k := g _ _ s
def scl : V → Bool
  | .non => true | .bl _ => true | .int _ => true | .str _ => true | _ => false
def Eqv (H : Hp) : Nat → V → V → Prop
  | 0, _, _ => False
  | n + 1, x, y => (x = y ∧ scl x = true) ∨ ∃ a b xs ys, x = .ref a ∧ y = .ref b ∧ H a = some (.tup xs) ∧ H b = some (.tup ys) ∧ xs.length ≤ 1000000 ∧ Paired (Eqv H n) xs ys
theorem Eqv.same {H H' : Hp} (g : Same H H') : ∀ {n : Nat} {x y : V}, Eqv H n x y → Eqv H' n x y
  | 0, _, _, h => h
  | n + 1, x, y, h => by
    rcases h with h | ⟨a, b, xs, ys, e1, e2, h1, h2, hz, p⟩
    · exact .inl h
    · exact .inr ⟨a, b, xs, ys, e1, e2, g _ _ h1, g _ _ h2, hz, Paired.mapP p fun _ _ q => Eqv.same g q⟩
theorem Eqv.int {H : Hp} {n : Nat} (i : Int) : Eqv H (n + 1) (.int i) (.int i) := .inl ⟨rfl, rfl⟩
theorem eqv_ints {H : Hp} {n : Nat} : ∀ (l : List Int), Paired (Eqv H (n + 1)) (l.map V.int) (l.map V.int)
  | [] => .nil
  | i :: l => .cons (Eqv.int i) (eqv_ints l)
theorem Eqv.ints {H : Hp} {n : Nat} {a b : Addr} {l : List Int} (h1 : H a = some (.tup (l.map V.int))) (h2 : H b = some (.tup (l.map V.int))) (hz : l.length ≤ 1000000) : Eqv H (n + 2) (.ref a) (.ref b) :=
  .inr ⟨a, b, _, _, rfl, rfl, h1, h2, by rw [List.length_map]; exact hz, eqv_ints l⟩
def spSame (n : Nat) : Sp := fun vs H Q _ => ∃ x y, vs = [x, y] ∧ Eqv H n x y ∧ ∀ H', Same H H' → Q (.bl true) H'
def lcell (ns : List Int) (k : Nat) : Int := if ns = [] then 0 else ns.getD (k % ns.length) 0
def drw1 (ns : List Int) (k : Nat) : Int := (lcell ns k + 104729 * (k : Int)) % 4294967291
def drw2 (ns : List Int) (k : Nat) : Int := drw1 ns k * drw1 ns k % 4294967279 * 48271 % 4294967291
def drw3 (ns : List Int) (k : Nat) : Int := drw2 ns k * drw2 ns k % 4294967279 * 69621 % 4294967291
def drw (ns : List Int) (k : Nat) (m : Int) : Int := (drw2 ns k / 64 * 67108864 + drw3 ns k / 64) % m
theorem drw_nn (ns : List Int) (k : Nat) {m : Int} (h : 0 < m) : 0 ≤ drw ns k m := Int.emod_nonneg _ (by omega)
theorem drw_lt (ns : List Int) (k : Nat) {m : Int} (h : 0 < m) : drw ns k m < m := Int.emod_lt_of_pos _ h
def spDraw (K : PySem.W.Frag) : Sp := fun vs H Q _ => ∃ (a t : Addr) (ns : List Int) (k : Nat) (m : Int), vs = [.ref a, .ref t, .int m] ∧ Scr K H a ns ∧ ns.length ≤ 63 ∧ Twn H t k ∧ k ≤ 900000 ∧ 0 < m ∧
  ∀ H', Grow t H H' → Twn H' t (k + 1) → Q (.int (drw ns (k + 1) m)) H'
def dbits (ns : List Int) (k n : Nat) : List Int := (List.range n).map fun i => drw ns (k + i + 1) 2
theorem dbits_length (ns : List Int) (k n : Nat) : (dbits ns k n).length = n := by simp [dbits]
theorem dbits_succ (ns : List Int) (k n : Nat) : dbits ns k (n + 1) = dbits ns k n ++ [drw ns (k + n + 1) 2] := by simp [dbits, List.range_succ]
def spBits (K : PySem.W.Frag) : Sp := fun vs H Q _ => ∃ (a t : Addr) (ns : List Int) (k : Nat) (m : Int), vs = [.ref a, .ref t, .int m] ∧ Scr K H a ns ∧ ns.length ≤ 63 ∧ Twn H t k ∧ k ≤ 800000 ∧ 0 ≤ m ∧ m ≤ 1000 ∧
  ∀ p H', Grow t H H' → Twn H' t (k + 1 + (drw ns (k + 1) (m + 1)).toNat) → H' p = some (.tup ((dbits ns (k + 1) (drw ns (k + 1) (m + 1)).toNat).map V.int)) → Q (.ref p) H'
def spLaw (K : PySem.W.Frag) : Sp := fun vs H Q _ => ∃ (a : Addr) (ns : List Int), vs = [.ref a] ∧ Scr K H a ns ∧ ns.length ≤ 63 ∧ ∀ H', Q (.bl true) H'
end L2
set_option maxRecDepth 100000
namespace L2
open PySem
def Tr (B h : Heap) (e : Addr) (cls c fl : Value) : Prop :=
  ∃ oe vs T oT ts, h.get? e = some oe ∧ oe.cls = cls ∧ oe.data = .fields vs ∧ vs[2]? = some c ∧ vs[1]? = some (.ref T) ∧ B.get? T = none ∧ T ≠ e ∧ h.get? T = some oT ∧ oT.data = .fields ts ∧ ts[3]? = some fl
def Fl (B : Heap) (l : List Env) (e : Addr) (cls c fl : Value) (h : Heap) : Prop :=
  B.StaysIn h ∧ B.get? e = none ∧ h.FunFrames B l ∧ Tr B h e cls c fl
theorem Fl.rest {B h : Heap} {env : Env} {outer : List Env} {e : Addr} {cls c fl : Value} (x : Fl B (env :: outer) e cls c fl h) : Fl B outer e cls c fl h := by
  obtain ⟨x1, x2, ⟨_, _, x3⟩, x4⟩ := x
  exact ⟨x1, x2, x3, x4⟩
section
variable {M : Model} {A : Around} {E : Value → Shared → Prop} {s : Shared} {B : Heap} {env : Env} {outer : List Env} {L e : Addr} {oe : Obj} {vs : Array Value} {cls c : Value} {Q : Unit → Shared → Prop}
theorem fl_entry {head : Value} {nx : Bool} (fA : A.frames = some (env :: outer)) (fF : s.heap.FunFrames B (env :: outer)) (fL : env.frame = some L) (e1 : s.heap.get? e = some oe) (sB : B.StaysIn s.heap) (eB : B.get? e = none) (ed : oe.data = .fields vs) (ec : vs[2]? = some c)
    (q : ∀ g, Fl B (env :: outer) e oe.cls c (rawInt L) g → s.heap.UpToSlots g → Q () { s with heap := g }) :
    wpAny M A (do let a ← frameOf env; let pl ← entryPlaceOf L nx; let b ← EntryCells.newEntry head a .none (rawInt L) .none pl; setField (.ref e) 1 b) Q E s := by
  have ez : 2 < vs.size := (Array.getElem?_eq_some_iff.mp ec).1
  have notF : ∀ b o ws, s.heap.get? b = some o → o.data = .fields ws → b ∉ (env :: outer).filterMap (·.frame) := fun b o ws e2 e3 y => by
    obtain ⟨_, o', e4, n4⟩ := fF.mem y
    rw [e2] at e4; cases e4; exact n4 ws e3
  refine wpAny_bind (wpAny_frameOf_fun fA fF fL fun g1 sl => wpAny_bind (wpAny_entryPlaceOf fun pl hpl => ?_))
  unfold EntryCells.newEntry newFields
  refine wpAny_bind (wpAny_newObj_type ?_ (hpl.sizeOk5 _ _ _ _ _))
  have tb : ∃ ts, (.fields ([head, .ref L, .none, rawInt L, .none] ++ (if pl.isEmpty then List.replicate 6 Value.none else pl)).toArray : Data) = .fields ts ∧ ts[3]? = some (rawInt L) := ⟨_, rfl, by simp⟩
  generalize (Data.fields ([head, .ref L, .none, rawInt L, .none] ++ (if pl.isEmpty then List.replicate 6 Value.none else pl)).toArray) = da at tb ⊢
  obtain ⟨ts, rfl, t3⟩ := tb
  have g1e : g1.get? e = some oe := (sl.2.1 e (notF e oe vs e1 ed)).trans e1
  have ob := Heap.get?_push_of_some (h := g1) { cls := .type "traceback", dict := none, data := .fields ts } g1e
  have ob2 := Heap.get?_push_size g1 (o := { cls := .type "traceback", dict := none, data := .fields ts }) rfl
  refine wpAny_setField ob ed (by omega) (q _ ?_ ?_)
  all_goals
    have far : g1.objs.size ≠ e := Nat.ne_of_gt (Heap.lt_size g1e)
    have kp : ∀ b o, b ≠ e → g1.get? b = some o → ((g1.push { cls := .type "traceback", dict := none, data := .fields ts }).update e (Obj.mapFields (·.setIfInBounds 1 (Value.ref g1.objs.size)))).get? b = some o := fun b o n y =>
      (Heap.get?_update_other _ _ (Ne.symm n)).trans (Heap.get?_push_of_some _ y)
    have rec0 : ∀ b o, s.heap.get? b = some o → (∀ ws, o.data ≠ .fields ws) → b ≠ e := fun b o y n z => by
      subst z; rw [e1] at y; cases y; exact n vs ed
  · have inB : ∀ b o, B.get? b = some o → g1.get? b = some o := fun b o y => (sl.2.1 b fun z => by rw [(fF.mem z).1] at y; cases y).trans (sB b o y)
    have ed2 := Obj.data_mapFields ed (·.setIfInBounds 1 (Value.ref g1.objs.size))
    refine ⟨fun b o y => kp b o (fun z => by subst z; rw [eB] at y; cases y) (inB b o y), eB, fF.of_keeps fun b o y n => ?_, _, _, g1.objs.size, _, ts, Heap.get?_update_self _ ob (Obj.isFreed_of_fields ed2), Obj.cls_mapFields _ _, ed2, ?_, ?_, ?_, far, (Heap.get?_update_other _ _ (Ne.symm far)).trans ob2, rfl, t3⟩
    · obtain ⟨sl2, y2⟩ := sl.2.2 b o y
      exact ⟨_, kp b _ (rec0 b o y n) y2, rfl⟩
    · rw [Array.getElem?_setIfInBounds_ne (by decide)]; exact ec
    · simp [show 1 < vs.size by omega]
    · cases y : B.get? g1.objs.size with
      | none => rfl
      | some o => exact absurd (Heap.lt_size (inB _ _ y)) (Nat.lt_irrefl _)
  · intro b o y n
    obtain ⟨sl2, y2⟩ := sl.2.2 b o y
    exact ⟨sl2, kp b _ (rec0 b o y n) y2⟩
theorem fl_new (fA : A.frames = some (env :: outer)) (fF : s.heap.FunFrames B (env :: outer)) (fL : env.frame = some L) (e1 : s.heap.get? e = some oe) (sB : B.StaysIn s.heap) (eB : B.get? e = none) (ed : oe.data = .fields vs) (ec : vs[2]? = some c) (et : vs[1]? = some .none)
    (q : ∀ g, Fl B (env :: outer) e oe.cls c (rawInt L) g → s.heap.UpToSlots g → Q () { s with heap := g }) : wpAny M A (noteFrame (.ref e) env) Q E s := by
  unfold noteFrame
  simp only [fL]
  refine wpAny_bind (wpAny_field e1 ed et ?_)
  rw [if_neg (by decide)]
  exact fl_entry fA fF fL e1 sB eB ed ec q
theorem fl_note (fA : A.frames = some (env :: outer)) (fL : env.frame = some L) (x : Fl B (env :: outer) e cls c .none s.heap)
    (q : ∀ g, Fl B (env :: outer) e cls c (rawInt L) g → s.heap.UpToSlots g → Q () { s with heap := g }) : wpAny M A (noteFrame (.ref e) env) Q E s := by
  obtain ⟨sB, eB, fF, oe, vs, T, oT, ts, e1, rfl, ed, ec, et, tB, tn, t1, td, t3⟩ := x
  unfold noteFrame
  simp only [fL]
  refine wpAny_bind (wpAny_field e1 ed et ?_)
  rw [if_pos (show (Value.ref T != Value.none) = true by simp)]
  refine wpAny_bind (wpAny_field t1 td t3 ?_)
  rw [if_neg (show ¬ ((Value.none == rawInt L) = true) by simp [rawInt])]
  refine wpAny_bind (wpAny_setField t1 td (Array.getElem?_eq_some_iff.mp t3).1 ?_)
  have oth : ∀ b, b ≠ T → (s.heap.update T (Obj.mapFields (·.setIfInBounds 3 Value.none))).get? b = s.heap.get? b := fun b n => Heap.get?_update_other _ _ (Ne.symm n)
  have rec0 : ∀ b o, s.heap.get? b = some o → (∀ ws, o.data ≠ .fields ws) → b ≠ T := fun b o y n z => by
    subst z; rw [t1] at y; cases y; exact n ts td
  refine fl_entry (s := { s with heap := s.heap.update T (Obj.mapFields (·.setIfInBounds 3 Value.none)) }) fA (fF.of_keeps fun b o y n => ⟨o, (oth b (rec0 b o y n)).trans y, rfl⟩) fL ((oth e (Ne.symm tn)).trans e1) (fun b o y => (oth b fun z => by subst z; rw [tB] at y; cases y).trans (sB b o y)) eB ed ec
    fun g y1 y2 => q g y1 fun b o z n => y2 b o ((oth b (rec0 b o z n)).trans z) n
theorem fl_land {l : List Env} {fl : Value} (x : Fl B l e cls c fl s.heap) (q : ∀ g, Fl B l e cls c .none g → s.heap.UpToSlots g → Q () { s with heap := g }) : wpAny M A (setFlight (.ref e) none) Q E s := by
  obtain ⟨sB, eB, fF, oe, vs, T, oT, ts, e1, ek, ed, ec, et, tB, tn, t1, td, t3⟩ := x
  have z3 : 3 < ts.size := (Array.getElem?_eq_some_iff.mp t3).1
  have oth : ∀ b, b ≠ T → (s.heap.update T (Obj.mapFields (·.setIfInBounds 3 ((none : Option Addr).elim Value.none fun f => rawInt f)))).get? b = s.heap.get? b := fun b n => Heap.get?_update_other _ _ (Ne.symm n)
  have rec0 : ∀ b o, s.heap.get? b = some o → (∀ ws, o.data ≠ .fields ws) → b ≠ T := fun b o y n z => by
    subst z; rw [t1] at y; cases y; exact n ts td
  unfold setFlight
  refine wpAny_bind (wpAny_field e1 ed et ?_)
  rw [if_pos (show (Value.ref T != Value.none) = true by simp)]
  refine wpAny_setField t1 td z3 (q _ ⟨fun b o y => (oth b fun z => by subst z; rw [tB] at y; cases y).trans (sB b o y), eB, fF.of_keeps fun b o y n => ⟨o, (oth b (rec0 b o y n)).trans y, rfl⟩, oe, vs, T, _, _, (oth e (Ne.symm tn)).trans e1, ek, ed, ec, et, tB, tn, Heap.get?_update_self _ t1 (Obj.isFreed_of_fields (Obj.data_mapFields td _)), Obj.data_mapFields td _, ?_⟩ fun b o y n => ⟨o.slots, (oth b (rec0 b o y n)).trans y⟩)
  simp [z3]
theorem fl_leave (fA : A.frames = some (env :: outer)) (fL : env.frame = some L) (x : Fl B (env :: outer) e cls c .none s.heap)
    (q : ∀ g, Fl B outer e cls c .none g → s.heap.UpToSlots g → Q () { s with heap := g }) : wpAny M A (leaving env (.ref e)) Q E s := by
  unfold leaving
  exact wpAny_bind (fl_note fA fL x fun g1 y1 u1 => fl_land (s := { s with heap := g1 }) y1 fun g2 y2 u2 => q g2 y2.rest (u1.trans u2))
theorem fl_leaveNew (fA : A.frames = some (env :: outer)) (fF : s.heap.FunFrames B (env :: outer)) (fL : env.frame = some L) (e1 : s.heap.get? e = some oe) (sB : B.StaysIn s.heap) (eB : B.get? e = none) (ed : oe.data = .fields vs) (ec : vs[2]? = some c) (et : vs[1]? = some .none)
    (q : ∀ g, Fl B outer e oe.cls c .none g → s.heap.UpToSlots g → Q () { s with heap := g }) : wpAny M A (leaving env (.ref e)) Q E s := by
  unfold leaving
  exact wpAny_bind (fl_new fA fF fL e1 sB eB ed ec et fun g1 y1 u1 => fl_land (s := { s with heap := g1 }) y1 fun g2 y2 u2 => q g2 y2.rest (u1.trans u2))
end
end L2
namespace L2
open PySem
inductive Reach (h : Heap) : Value → Value → Prop
  | refl (v : Value) : Reach h v v
  | step {a : Addr} {o : Obj} {vs : Array Value} {v u : Value} : h.get? a = some o → o.data = .fields vs → vs[2]? = some v → Reach h v u → Reach h (.ref a) u
theorem Reach.snoc {h : Heap} {u : Value} {b : Addr} {o : Obj} {vs : Array Value} {v : Value} (x : Reach h u (.ref b)) (e1 : h.get? b = some o) (e2 : o.data = .fields vs) (e3 : vs[2]? = some v) : Reach h u v := by
  generalize hz : Value.ref b = z at x
  induction x with
  | refl y => subst hz; exact .step e1 e2 e3 (.refl _)
  | step a1 a2 a3 _ ih => exact .step a1 a2 a3 (ih hz)
def Chain (h : Heap) (F : Addr → Prop) : Nat → Value → Prop
  | 0, v => v = .none
  | n + 1, v => v = .none ∨ ∃ a o vs c, v = .ref a ∧ h.get? a = some o ∧ F a ∧ o.data = .fields vs ∧ vs[2]? = some c ∧ Chain h F n c
theorem Chain.imp {h g : Heap} {F G : Addr → Prop} (k : ∀ a o vs, F a → h.get? a = some o → o.data = .fields vs → g.get? a = some o ∧ G a) : ∀ {n : Nat} {v : Value}, Chain h F n v → Chain g G n v
  | 0, _, x => x
  | n + 1, _, x => by
    rcases x with x | ⟨a, o, vs, c, e1, e2, e3, e4, e5, r⟩
    · exact .inl x
    · exact .inr ⟨a, o, vs, c, e1, (k a o vs e3 e2 e4).1, (k a o vs e3 e2 e4).2, e4, e5, Chain.imp k r⟩
def ChainP (ps : List (Addr × Obj)) : Nat → Value → Prop
  | 0, v => v = .none
  | n + 1, v => v = .none ∨ ∃ a o vs c, v = .ref a ∧ (a, o) ∈ ps ∧ o.data = .fields vs ∧ vs[2]? = some c ∧ ChainP ps n c
theorem ChainP.more {ps qs : List (Addr × Obj)} (k : ∀ p ∈ ps, p ∈ qs) : ∀ {n : Nat} {v : Value}, ChainP ps n v → ChainP qs n v
  | 0, _, x => x
  | n + 1, _, x => by
    rcases x with x | ⟨a, o, vs, c, e1, e2, e4, e5, r⟩
    · exact .inl x
    · exact .inr ⟨a, o, vs, c, e1, k _ e2, e4, e5, ChainP.more k r⟩
theorem ChainP.chain {h : Heap} {F : Addr → Prop} {ps : List (Addr × Obj)} (k : ∀ p ∈ ps, h.get? p.1 = some p.2 ∧ F p.1) : ∀ {n : Nat} {v : Value}, ChainP ps n v → Chain h F n v
  | 0, _, x => x
  | n + 1, _, x => by
    rcases x with x | ⟨a, o, vs, c, e1, e2, e4, e5, r⟩
    · exact .inl x
    · exact .inr ⟨a, o, vs, c, e1, (k _ e2).1, (k _ e2).2, e4, e5, ChainP.chain k r⟩
theorem Chain.pins {h : Heap} {F : Addr → Prop} : ∀ {n : Nat} {v : Value}, Chain h F n v → ∃ ps : List (Addr × Obj), (∀ p ∈ ps, h.get? p.1 = some p.2 ∧ F p.1 ∧ ∃ vs, p.2.data = .fields vs) ∧ ChainP ps n v
  | 0, _, x => ⟨[], fun _ y => absurd y (by simp), x⟩
  | n + 1, _, x => by
    rcases x with x | ⟨a, o, vs, c, e1, e2, e3, e4, e5, r⟩
    · exact ⟨[], fun _ y => absurd y (by simp), .inl x⟩
    · obtain ⟨ps, k, r⟩ := Chain.pins r
      refine ⟨(a, o) :: ps, fun p y => ?_, .inr ⟨a, o, vs, c, e1, List.mem_cons_self, e4, e5, r.more fun p y => List.mem_cons_of_mem _ y⟩⟩
      rcases List.mem_cons.mp y with rfl | y
      · exact ⟨e2, e3, vs, e4⟩
      · exact k p y
theorem entry_unchain : entryFor table "proto.unchain" = some Builtin.«proto.unchain» := entryFor_of_tree (by kernel_rfl)
section
variable {prog : Program} {w : World}
theorem unchain_ok {e : Addr} : ∀ (n : Nat) {A : Around} {R : Result → Shared → Prop} {s : Shared} {o : Addr} {oo : Obj} {vs : Array Value} {c slow : Value} {tg : Bool}, s.heap.get? o = some oo → oo.data = .fields vs → vs[2]? = some c → Chain s.heap (· ≠ e) n c → Reach s.heap slow (.ref o) →
    R (.ok (.ret .none)) s → codeAny (model prog w) A (.builtin "proto.unchain" ⟨[.ref e, .ref o, slow, .bool tg], []⟩) R s := by
  intro n
  induction n with
  | zero =>
    intro A R s o oo vs c slow tg e1 e2 e3 ch rc q
    obtain rfl : c = .none := ch
    refine codeAny_builtin entry_unchain ?_
    unfold Builtin.«proto.unchain»
    refine wpAny_bind (wpAny_field e1 e2 e3 ?_)
    rw [if_pos (by simp)]
    exact wpAny_pure q
  | succ n ih =>
    intro A R s o oo vs c slow tg e1 e2 e3 ch rc q
    refine codeAny_builtin entry_unchain ?_
    unfold Builtin.«proto.unchain»
    refine wpAny_bind (wpAny_field e1 e2 e3 ?_)
    rcases ch with rfl | ⟨a, oa, ws, d, rfl, a1, a2, a3, a4, r⟩
    · rw [if_pos (by simp)]
      exact wpAny_pure q
    rw [if_neg (by simp), if_neg (by simpa using a2)]
    by_cases hs : (Value.ref a == slow) = true
    · rw [if_pos hs]
      exact wpAny_bind (wpAny_rule (wpAny_pure q))
    rw [if_neg hs]
    have rc2 : Reach s.heap slow (.ref a) := rc.snoc e1 e2 e3
    cases tg with
    | false => exact wpAny_bind (wpAny_pure (wpAny_pure ⟨Code.quiet_builtin _ (by decide +kernel), ih a1 a3 a4 r rc2 q⟩))
    | true =>
      cases rc2 with
      | refl => exact absurd (by simp) hs
      | step b1 b2 b3 rc3 => exact wpAny_bind (wpAny_field b1 b2 b3 (wpAny_pure ⟨Code.quiet_builtin _ (by decide +kernel), ih a1 a3 a4 r rc3 q⟩))
end
end L2
namespace L2
open PySem
section
variable {prog : Program} {w : World} {A : Around} {E : Value → Shared → Prop} {env : Env}
variable {nm q : Str} {C N : Addr} {bs bm bmB : List Value} {hdct : Bool} {sn : List Str} {sub : List Value} {ab : Bool} {col : Option Bool} {dd : Option Addr} {k0 k1 k2 k3 k5 : Option Value} {newId : String}
def Behind (h : Heap) (F : Addr → Prop) (y : Addr) : Prop := ∃ n, Chain h F (n + 1) (.ref y)
theorem raiseNew_behind {α : Type} {Q : α → Shared → Prop} {s : Shared} {e y : Addr} {oe : Obj} {vs : Array Value} (hh : A.handled = some (.ref y)) (he : s.heap.get? e = some oe) (hd : oe.data = .fields vs) (hz : 2 < vs.size) (hy : Behind s.heap (· ≠ e) y)
    (hE : E (.ref e) { s with heap := s.heap.update e (Obj.mapFields (·.setIfInBounds 2 (.ref y))) }) : wpAny (model prog w) A (raiseNew (.ref e) : Sem α) Q E s := by
  obtain ⟨n, z | ⟨a, o, ws, c, z, e1, e2, e3, e4, r⟩⟩ := hy
  · cases z
  cases z
  unfold raiseNew
  refine wpAny_bind (wpAny_handled ?_)
  rw [hh]
  dsimp only
  rw [if_pos (by simpa using e2)]
  refine wpAny_bind (wpAny_holding (wpAny_runValue (unchain_ok n e1 e3 e4 r (.refl _) ?_)))
  simp only [updateField]
  refine wpAny_bind (wpAny_bind (wpAny_load he ?_))
  rw [hd]
  dsimp only
  rw [if_pos hz]
  exact wpAny_update he (wpAny_throw hE)
theorem raiseStmt_behind {s : Shared} {x z : Sem Value} {Q : Flow → Shared → Prop} {y : Addr} (hbase : bm.contains (.type "BaseException") = true) (hh : A.handled = some (.ref y)) (hz : ∀ s', wpAny (model prog w) A z (fun v s'' => v = .none ∧ s'' = s') E s')
    (h : wpAny (model prog w) A x (fun v s₁ => ∃ e t, v = .ref e ∧ s₁.heap.get? C = some (excClassObj nm q C N bs bm hdct sn sub ab col dd k0 k1 k2 k3 k5 newId) ∧
      s₁.heap.get? e = some { cls := .ref C, data := .fields #[.ref t, .none, .none, .none, .bool false, .none] } ∧ Behind s₁.heap (· ≠ e) y ∧
      ∀ g, g.get? e = some { cls := .ref C, data := .fields #[.ref t, .none, .ref y, .none, .bool true, .none] } → (∀ b, b ≠ e → g.get? b = s₁.heap.get? b) → E (.ref e) { s₁ with heap := g }) E s) :
    wpAny (model prog w) A (raiseStmt env (some x) (some z)) Q E s := by
  have hcB : (Value.ref C :: bm).contains (.type "BaseException") = true := by rw [List.contains_cons, hbase, Bool.or_true]
  unfold raiseStmt
  refine wpAny_bind (wpAny_mono h (fun v s₁ h₁ => ?_) fun _ _ u => u)
  obtain ⟨e, t, rfl, hC, he, hy, hE⟩ := h₁
  refine wpAny_bind (wpAny_holding (wpAny_mono (hz s₁) (fun v s₂ h₂ => ?_) fun _ _ u => u))
  obtain ⟨rfl, rfl⟩ := h₂
  refine wpAny_bind (wpAny_pure ?_)
  obtain ⟨hp, g, d, tk, os⟩ := s₂
  have hne : C ≠ e := fun u => by rw [u] at hC; have hw := hC.symm.trans he; injection hw with hw; injection hw with _ _ hw; cases hw
  have he2 : ((hp.update e (Obj.mapFields (·.setIfInBounds 3 Value.none))).update e (Obj.mapFields (·.setIfInBounds 4 (Value.bool true)))).get? e = some { cls := .ref C, data := .fields #[.ref t, .none, .none, .none, .bool true, .none] } :=
    Heap.get?_update_self _ (Heap.get?_update_self _ he rfl) rfl
  have ot2 : ∀ b, b ≠ e → ((hp.update e (Obj.mapFields (·.setIfInBounds 3 Value.none))).update e (Obj.mapFields (·.setIfInBounds 4 (Value.bool true)))).get? b = hp.get? b := fun b n =>
    (Heap.get?_update_other _ _ (Ne.symm n)).trans (Heap.get?_update_other _ _ (Ne.symm n))
  have hC2 := (ot2 C hne).trans hC
  repeat (first | with_reducible refine wpAny_loadPart_at he2 ?_ | with_reducible refine wpAny_loadPart_at hC2 ?_ | with_reducible refine wpAny_loadPart_at he ?_ | with_reducible refine wpAny_loadPart_at hC ?_ | (with_reducible refine wpAny_isSubtype_exc hC ?_; rw [hcB]) | wp_step)
  refine raiseNew_behind hh he2 rfl (by show 2 < 6; decide) ?_ (hE _ (Heap.get?_update_self _ he2 rfl) fun b n => (Heap.get?_update_other _ _ (Ne.symm n)).trans (ot2 b n))
  obtain ⟨n, hy⟩ := hy
  exact ⟨n, hy.imp fun a o _ na ea _ => ⟨(ot2 a na).trans ea, na⟩⟩
end
end L2
namespace L2
open PySem
section
variable {prog : Program} {w : World} {A : Around} {E : Value → Shared → Prop} {s : Shared} {env : Env}
variable {nm q : Str} {C N : Addr} {bs bm bmB : List Value} {hdct : Bool} {sn : List Str} {sub : List Value} {ab : Bool} {col : Option Bool} {dd : Option Addr} {k0 k1 k2 k3 k5 : Option Value} {T newId initId : String}
theorem Raise_behind (F : ExcBaseFacts T newId initId bmB) {mN : Str → Option Value} {x : Str} {np cpos pos p2 : Pos} {j : Nat} {args : List Expr} {Q : Flow → Shared → Prop} {y : Addr} (hb : bm.contains (.type "BaseException") = true) (hh : A.handled = some (.ref y))
    (hp : (backTo cpos (starEach args env)).any (·.1) = false) (hi : mN "__init__" = none)
    (h : wpAny (model prog w) A (eval (.Name x np) env) (fun f s₁ => f = .ref C ∧ wpAny (model prog w) A (evalArgs (.ref C) true (backTo cpos (starEach args env)) [])
      (fun a s₂ => a.kw = [] ∧ a.pos.length ≤ sizeLine ∧ s₂.heap.get? C = some (excClassObj nm q C N bs bm hdct sn sub ab col dd k0 k1 k2 k3 k5 newId) ∧ s₂.heap.Ns N mN ∧ OwnTail s₂.heap bmB bm ∧
        ∀ h' e, Heap.MadeExcOf s₂.heap h' e (.ref C) a.pos → Behind h' (· ≠ e) y ∧ ∀ g t, g.get? e = some { cls := .ref C, data := .fields #[.ref t, .none, .ref y, .none, .bool true, .none] } → (∀ b, b ≠ e → g.get? b = h'.get? b) → E (.ref e) { s₂ with heap := g }) E s₁) E s) :
    wpAny (model prog w) A (exec (.Raise (some (.Call (.Name x np) args [] cpos)) (some (.Constant .none j p2)) pos) env) Q E s := by
  rw [arm_exec_Raise]
  refine wpAny_bind (wpAny_standAt (raiseStmt_behind (C := C) (N := N) (nm := nm) (q := q) (bs := bs) (bm := bm) (sn := sn) (sub := sub) (hdct := hdct) (ab := ab) (col := col) (dd := dd) (k0 := k0) (k1 := k1) (k2 := k2) (k3 := k3) (k5 := k5) (newId := newId) (y := y) hb hh (fun s' => ?_) ?_))
  · exact wpAny_bind (wpAny_Constant_none (wpAny_bind (wpAny_standAt (wpAny_pure ⟨rfl, rfl⟩))))
  refine wpAny_bind (wpAny_mono (wpAny_Call_ofName (wpAny_mono h (fun f s₁ z1 => ?_) fun _ _ u => u)) (fun v s₃ z3 => wpAny_bind (wpAny_standAt (wpAny_pure z3))) fun _ _ u => u)
  obtain ⟨rfl, z1⟩ := z1
  unfold callWith
  refine wpAny_bind (wpAny_holding (wpAny_mono z1 (fun a s₂ z2 => wpAny_bind (wpAny_standAt ?_)) fun _ _ u => u))
  obtain ⟨ap, ak⟩ := a
  obtain ⟨ek, hl, hC, hn, ht, z2⟩ := z2
  obtain rfl : ak = [] := ek
  obtain ⟨hp2, g, d, tk, os⟩ := s₂
  simp only [hp]
  refine wpAny_bind (wpAny_keeperOf_exc hC ?_)
  refine wpAny_bind (wpAny_call_exc_subT (hrest := hl) F ht hC hn hi fun h' e hm => wpAny_bind (wpAny_holding (wpAny_point (wpAny_pure ?_))))
  obtain ⟨t, e1, _, _⟩ := hm.there
  exact ⟨e, t, rfl, hm.keeps _ _ hC, e1, (z2 h' e hm).1, fun g y1 y2 => (z2 h' e hm).2 g t y1 y2⟩
end
end L2
namespace L2
open PySem PySem.Spec PyProof.Rows
theorem hok_none {P : Program} {w : World} {H : Hp} {h : Heap} {a : Addr} (x : HOk P w H h) (e : h.get? a = none) : H a = none := by
  cases q : H a with
  | none => rfl
  | some o =>
    have y := x a o q
    have : ∃ ob, h.get? a = some ob := by
      cases o with
      | lst xs => obtain ⟨_, _, _, _, e⟩ := y; exact ⟨_, e⟩
      | tup xs => obtain ⟨_, _, _, ⟨_, e, _⟩, _⟩ := y; exact ⟨_, e⟩
      | dK kvs => obtain ⟨_, _, _, _, o, _, _, e, _⟩ := y; exact ⟨_, e⟩
      | dT kvs => obtain ⟨_, _, _, _, o, _, _, e, _⟩ := y; exact ⟨_, e⟩
      | set S n => obtain ⟨o, _, _, _, e, _⟩ := y; exact ⟨_, e⟩
      | ins C dx fs => obtain ⟨_, _, _, e, _⟩ := y; exact ⟨_, e⟩
      | own y => obtain ⟨_, e⟩ := y; exact ⟨_, e⟩
      | xd fs => obtain ⟨_, ⟨_, _, _, e, _⟩, _⟩ := y; exact ⟨_, e⟩
      | rng lo hi => obtain ⟨_, _, _, e⟩ := y; exact ⟨_, e⟩
      | frz ob u => obtain ⟨e, _⟩ := y; exact ⟨_, e⟩
      | tbl ps => exact ⟨_, show h.get? a = some _ from y⟩
      | met f z => exact ⟨_, show h.get? a = some _ from y⟩
      | ext φ => obtain ⟨_, ⟨_, e⟩, _⟩ := y; exact ⟨_, e⟩
    obtain ⟨ob, z⟩ := this
    rw [e] at z; cases z
structure Flown (P : Program) (w : World) (outer : List Env) (H : Hp) (s : Shared) (x C : Addr) (c : Value) (B : Heap) (H' : Hp) (s' : Shared) : Prop where
  fly : Fl B outer x (.ref C) c .none s'.heap
  os : s'.os = s.os
  bare : AllBare s'.gens
  k1 : ∀ b o, s.heap.get? b = some o → H b = none → b ∉ frs outer → B.get? b = some o
  k2 : ∀ b o, s.heap.get? b = some o → H b = none → b ∈ frs outer → ∃ sl, s'.heap.get? b = some { o with slots := sl }
  k3 : ∀ b o, s.heap.get? b = some o → b ∉ frs outer → ∃ o', B.get? b = some o'
  free : ∀ b o, s.heap.get? b = some o → H b = none → H' b = none
  tups : ∀ b xs, H b = some (.tup xs) → H' b = some (.tup xs)
  frzs : ∀ b o u, H b = some (.frz o u) → H' b = some (.frz o u)
  tbls : ∀ b ps, H b = some (.tbl ps) → ∃ more, H' b = some (.tbl (ps ++ more))
  hok : HOk P w H' B
  new : H' x = none
  ch : ∃ n, Chain B (fun a => H' a = none) n c
def CXR (P : Program) (w : World) : CXT := fun outer H s E e s' => ∃ (x C : Addr) (c : Value) (B : Heap) (H' : Hp), e = .ref x ∧ Flown P w outer H s x C c B H' s' ∧ E (.ref C) none H'
theorem Flown.un {P : Program} {w : World} {outer : List Env} {H : Hp} {s : Shared} {x C : Addr} {c : Value} {B : Heap} {H' : Hp} {s' : Shared} (F : Flown P w outer H s x C c B H' s') {h : Heap} (st : B.StaysIn h) (up : s'.heap.UpToSlots h) : Un (frs outer) [] H H' s.heap h := by
  have nf : ∀ b ∈ frs outer, ∀ o, s'.heap.get? b = some o → ∀ vs, o.data ≠ .fields vs := fun b hb o e => by
    obtain ⟨_, o', ho', n'⟩ := F.fly.2.2.1.mem hb
    rw [e] at ho'; cases ho'; exact n'
  refine ⟨fun b o e n hb _ => st b o (F.k1 b o e n hb), fun b o e n hb _ => ?_, fun b o e n _ => F.free b o e n, fun b o e _ => ?_, F.tups, F.frzs, F.tbls⟩
  · obtain ⟨sl, q⟩ := F.k2 b o e n hb
    obtain ⟨sl', q'⟩ := up b _ q (nf b hb _ q)
    exact ⟨sl', q'⟩
  · by_cases hb : b ∈ frs outer
    · obtain ⟨_, o', ho', n'⟩ := F.fly.2.2.1.mem hb
      obtain ⟨sl', q'⟩ := up b _ ho' n'
      exact ⟨_, q'⟩
    · obtain ⟨o', q⟩ := F.k3 b o e hb
      exact ⟨o', st b o' q⟩
section
variable {P : Program} {w : World} {K : PySem.W.Frag} {mg : Str → Option Value} {base : Heap} {N : List Str} {qual : Str} {scope : Scope} {f : Addr} {cd : Value} {A : Around} {outer : List Env} {s : Shared} {H : Hp} {E : XK}
theorem frs_cons {env : Env} {l : List Env} {b : Addr} (h : b ∈ frs l) : b ∈ frs (env :: l) := by
  unfold frs at h ⊢
  obtain ⟨e, he, hf⟩ := List.mem_filterMap.mp h
  exact List.mem_filterMap.mpr ⟨e, List.mem_cons_of_mem _ he, hf⟩
theorem cx_raise {pins : List (Addr × Obj)} {σ : St} {H1 : Hp} {s1 : Shared} {g : Heap} {x C : Addr} {oe : Obj} {vs : Array Value} {c : Value} (I : Inv (cxOf (CXR P w) P w K mg base N qual scope f cd A outer s H E) pins σ H1 s1)
    (kp : ∀ b o, s1.heap.get? b = some o → g.get? b = some o) (xn : s1.heap.get? x = none) (xg : g.get? x = some oe) (xk : oe.cls = .ref C) (xd : oe.data = .fields vs) (x1 : vs[1]? = some .none) (x2 : vs[2]? = some c) (xh : ∃ n, Chain s1.heap (fun a => H1 a = none) n c)
    (q : E (.ref C) none H1) : (cxOf (CXR P w) P w K mg base N qual scope f cd A outer s H E).xe (.ref x) { s1 with heap := g } := by
  have notF : ∀ b o, s.heap.get? b = some o → b ∉ frs outer → b ∉ frs (envOfC qual scope s.heap.objs.size f cd :: outer) := fun b o e hb z => by
    rcases List.mem_cons.mp (I.stkSub b z) with y | y
    · exact absurd (Heap.lt_size e) (by rw [y]; exact Nat.lt_irrefl _)
    · exact hb y
  have noex : ∀ b : Addr, b ∉ (cxOf (CXR P w) P w K mg base N qual scope f cd A outer s H E).ex := fun b z => absurd (show b ∈ ([] : List Addr) from z) (by simp)
  have fF : s1.heap.FunFrames (PySem.W.hideAll s1.heap (frs (envOfC qual scope s.heap.objs.size f cd :: outer))) (envOfC qual scope s.heap.objs.size f cd :: outer) :=
    PySem.W.funFrames_hide I.stack fun env he a ha => List.mem_filterMap.mpr ⟨env, he, ha⟩
  have notR : ∀ b o ws, s1.heap.get? b = some o → o.data = .fields ws → b ∉ frs (envOfC qual scope s.heap.objs.size f cd :: outer) := fun b o ws e2 e3 y => by
    obtain ⟨_, o', e4, n4⟩ := fF.mem y
    rw [e2] at e4; cases e4; exact n4 ws e3
  have nB : (PySem.W.hideAll s1.heap (frs (envOfC qual scope s.heap.objs.size f cd :: outer))).get? x = none := by
    cases z : (PySem.W.hideAll s1.heap (frs (envOfC qual scope s.heap.objs.size f cd :: outer))).get? x with
    | none => rfl
    | some o =>
      have z2 := PySem.W.of_hideAll _ z
      rw [xn] at z2; cases z2
  obtain ⟨n, xh⟩ := xh
  refine fl_leaveNew (s := { s1 with heap := g }) (B := PySem.W.hideAll s1.heap (frs (envOfC qual scope s.heap.objs.size f cd :: outer))) (outer := outer) (L := s.heap.objs.size) I.ok.frames (fF.of_keeps fun b o y _ => ⟨o, kp b o y, rfl⟩) rfl xg (fun b o z => kp b o (PySem.W.of_hideAll _ z)) nB xd x2 x1
    fun g2 fl up => ⟨x, C, c, _, H1, rfl, ⟨xk ▸ fl, I.os, I.bare, fun b o e n hb => ?_, fun b o e n hb => ?_, fun b o e hb => ?_, fun b o e n => I.base.free b o e n (noex b), I.base.tups, I.base.frzs, I.base.tbls, fun b u e => ?_, hok_none I.hok xn, n, xh.imp fun a o ws na ea da => ⟨PySem.W.hideAll_get _ ea (notR a o ws ea da), na⟩⟩, q⟩
  · exact PySem.W.hideAll_get _ (I.base.keep b o e n hb (noex b)) (notF b o e hb)
  · obtain ⟨sl, z⟩ := I.base.slot b o e n hb (noex b)
    obtain ⟨_, o', ho', nf⟩ := I.funs.mem hb
    rw [z] at ho'; cases ho'
    obtain ⟨sl', z'⟩ := up b _ (kp _ _ z) nf
    exact ⟨sl', z'⟩
  · obtain ⟨o', z⟩ := I.base.there b o e (noex b)
    exact ⟨o', PySem.W.hideAll_get _ z (notF b o e hb)⟩
  · have nfr : ∀ c v, H1 c = some v → c ∉ frs (envOfC qual scope s.heap.objs.size f cd :: outer) := fun c v e z => by
      rw [I.stkFree c z] at e; cases e
    refine (show ObjOk P w H1 s1.heap b u from I.hok b u e).stay (fun c v hc z => PySem.W.hideAll_get _ z ?_) (fun _ z => z) fun _ _ z => z
    rcases hc with y | y
    · rw [y]; exact nfr b u e
    · exact nfr c _ y
theorem cx_pass : Passes (CXR P w) (cxOf (CXR P w) P w K mg base N qual scope f cd A outer s H E) E := by
  intro pins σ H1 s1 e s' I h
  obtain ⟨x, C, c, B, H', rfl, F, q⟩ := h
  have noex : ∀ b : Addr, b ∉ (cxOf (CXR P w) P w K mg base N qual scope f cd A outer s H E).ex := fun b z => absurd (show b ∈ ([] : List Addr) from z) (by simp)
  have notF : ∀ b o, s.heap.get? b = some o → b ∉ frs outer → b ∉ frs (envOfC qual scope s.heap.objs.size f cd :: outer) := fun b o e hb z => by
    rcases List.mem_cons.mp (I.stkSub b z) with y | y
    · exact absurd (Heap.lt_size e) (by rw [y]; exact Nat.lt_irrefl _)
    · exact hb y
  refine fl_leave (outer := outer) (L := s.heap.objs.size) I.ok.frames rfl F.fly fun h'' fl up => ⟨x, C, c, B, H', rfl, ⟨fl, F.os.trans I.os, F.bare, fun b o e n hb => ?_, fun b o e n hb => ?_, fun b o e hb => ?_, fun b o e n => ?_, fun b xs e => F.tups b xs (I.base.tups b xs e), fun b o u e => F.frzs b o u (I.base.frzs b o u e), fun b ps e => ?_, F.hok, F.new, F.ch⟩, q⟩
  · exact F.k1 b o (I.base.keep b o e n hb (noex b)) (I.base.free b o e n (noex b)) (notF b o e hb)
  · obtain ⟨sl, z⟩ := I.base.slot b o e n hb (noex b)
    obtain ⟨sl', z'⟩ := F.k2 b _ z (I.base.free b o e n (noex b)) (frs_cons hb)
    have hb' : b ∈ frs (envOfC qual scope s.heap.objs.size f cd :: outer) := frs_cons hb
    obtain ⟨_, o2, ho2, nf2⟩ := F.fly.2.2.1.mem hb'
    rw [z'] at ho2; cases ho2
    obtain ⟨sl2, z2⟩ := up b _ z' nf2
    exact ⟨sl2, z2⟩
  · obtain ⟨o', z⟩ := I.base.there b o e (noex b)
    exact F.k3 b o' z (notF b o e hb)
  · obtain ⟨o', z⟩ := I.base.there b o e (noex b)
    exact F.free b o' z (I.base.free b o e n (noex b))
  · obtain ⟨m1, e1⟩ := I.base.tbls b ps e
    obtain ⟨m2, e2⟩ := F.tbls b _ e1
    exact ⟨m1 ++ m2, by rw [e2, Array.append_assoc]⟩
theorem Fun.okX {x qual : Str} {st : Stmt} {f : Addr} {fd : FuncData} {N ps : List Str} {k : Nat} {sp : Sp} (F : Fun K x qual st f fd) (S : FnScope N ps (defScope st)) (len : ∀ vs H Q E, sp vs H Q E → vs.length = ps.length)
    (hbody : ∀ (cdv : Value) (A : Around) (outer : List Env) (s : Shared) (H : Hp) (vs : List V) (Q : VK) (E : XK), Room k (A.deeper (envOfC qual (defScope st) s.heap.objs.size f cdv)) → sp vs H Q E →
      ∃ t, PSs (cxOf (CXR P w) P w K mg base N qual (defScope st) f cdv A outer s H E) (defBody st) t ∧ t { nx := fun _ H' => Q .non H', rt := Q } (start N vs) H) : FnOk P w K mg base (CXR P w) (k + 1) f fd ps sp := by
  obtain ⟨oc, od, kV, doc, pm, an, cdv, ct, osl, rfl, lk, hcd⟩ := F.ex
  exact fn_of lk hcd S len fun A outer s H vs Q E hr hsp => hbody cdv A outer s H vs Q E hr hsp
end
theorem FnOk.calm {P : Program} {w : World} {K : PySem.W.Frag} {mg : Str → Option Value} {base : Heap} {CX : CXT} {k : Nat} {f : Addr} {fd : FuncData} {ps : List Str} {sp : Sp} (F : FnOk P w K mg base CX0 k f fd ps sp) : FnOk P w K mg base CX k f fd ps sp :=
  ⟨F.len, fun A outer s H args us vs Q E hr he hb hv hs => codeAny_mono (F.run A outer s H args us vs Q E hr he hb hv hs) fun r s' h => by
    cases r with
    | error e => exact False.elim h
    | ok fl => cases fl <;> exact h⟩
structure FnX (P : Program) (w : World) (K : PySem.W.Frag) (mg : Str → Option Value) (base : Heap) (x : Str) (f : Addr) (fd : FuncData) (ps : List Str) (k : Nat) (sp : Sp) : Prop where
  ok : FnOk P w K mg base (CXR P w) k f fd ps sp
  mg : mg x = some (.ref f)
  kp : PySem.W.keepIn K (.ref f) = true
  bd : Binds K fd ps []
end L2
namespace L2
open PySem PySem.Spec PyProof.Rows
structure Exc (K : PySem.W.Frag) (mg : Str → Option Value) (x : Str) (C : Addr) (mro : List Value) : Prop where
  bound : mg x = some (.ref C)
  isin : PySem.W.excIn K C [.type "ValueError", .type "Exception", .type "BaseException", .type "object"] "ValueError.__new__" = true
  mro : ∃ c d cd sl, K.lookup C = some ⟨c, d, .cls cd, sl⟩ ∧ cd.mro = mro
theorem Exc.obj {K : PySem.W.Frag} {mg : Str → Option Value} {x : Str} {C : Addr} {mro : List Value} (O : Exc K mg x C mro) {h : Heap} (X : K.In h) :
    ∃ bm N nm q bs hdct sn sub ab col dd k0 k1 k2 k3 k5 mN, h.get? C = some (excClassObj nm q C N bs bm hdct sn sub ab col dd k0 k1 k2 k3 k5 "ValueError.__new__") ∧ h.Ns N mN ∧ mN "__init__" = none ∧
      OwnTail h [.type "ValueError", .type "Exception", .type "BaseException", .type "object"] bm ∧ mro = .ref C :: bm := by
  obtain ⟨_, q, c0, d0, cd0, sl0, lk, em⟩ := O
  unfold PySem.W.excIn at q
  rw [lk] at q
  split at q
  · rename_i dd cd sl ho
    cases ho
    split at q
    · rename_i C' bm k0 k1 k2 k3 n k5 hm hs
      simp only [Bool.and_eq_true, beq_iff_eq, Bool.not_eq_true'] at q
      obtain ⟨⟨⟨⟨⟨rfl, rfl⟩, hdel⟩, ht⟩, hok⟩, hni⟩ := q
      obtain ⟨nm, bs, mr, ns, qn, hd, sn, sub, ab, col, del⟩ := cd0
      dsimp only at hm hdel hok hni em
      subst hm hdel
      have hsl : sl0 = #[k0, k1, k2, k3, some (.builtin "ValueError.__new__"), k5] := by
        obtain ⟨l⟩ := sl0
        simp only at hs
        rw [hs]
      subst hsl
      exact ⟨bm, ns, nm, qn, bs, hd, sn, sub, ab, col, d0, k0, k1, k2, k3, k5, _, X _ _ lk, .of_isNs (PySem.W.isNs_of_in X hok), PySem.W.nsMap_none_of_in X hok hni, PySem.W.tail_of_in X ht, em.symm⟩
    · cases q
  · cases q
def tRaise (C : Addr) (E : XK) (ta : TA) : TS := fun _ σ H => ta σ H fun vs H1 => vs.length ≤ sizeLine ∧ E (.ref C) none H1
theorem ps_raise {P : Program} {w : World} {K : PySem.W.Frag} {mg : Str → Option Value} {base : Heap} {N : List Str} {qual : Str} {scope : Scope} {f : Addr} {cd : Value} {A : Around} {outer : List Env} {s₀ : Shared} {H₀ : Hp} {E : XK}
    {x : Str} {C : Addr} {mro : List Value} {e : Expr} {es : List Expr} {ta : TA} {np cpos pos : Pos} (O : Exc K mg x C mro) (ha : PA (cxOf (CXR P w) P w K mg base N qual scope f cd A outer s₀ H₀ E) (e :: es) ta)
    (hg : Gl (cxOf (CXR P w) P w K mg base N qual scope f cd A outer s₀ H₀ E) x := by rfl) (hdb : (x == ("__debug__" : Str)) = false := by decide)
    (he : starEach (e :: es) (envOfC qual scope s₀.heap.objs.size f cd) = (false, eval e (envOfC qual scope s₀.heap.objs.size f cd)) :: starEach es (envOfC qual scope s₀.heap.objs.size f cd) := by rfl)
    (hpl : (backTo cpos (starEach es (envOfC qual scope s₀.heap.objs.size f cd))).any (·.1) = false := by rfl) :
    PS (cxOf (CXR P w) P w K mg base N qual scope f cd A outer s₀ H₀ E) (.Raise (some (.Call (.Name x np) (e :: es) [] cpos)) none pos) (tRaise C E ta) := by
  intro pins s σ H D I h
  obtain ⟨bm, N', nm, q, bs, hdct, sn, sub, ab, col, dd, k0, k1, k2, k3, k5, mN, hC, hN, hni, T, _⟩ := O.obj I.ok.mod.kin
  refine wpAny_Raise_call_subT (C := C) (nm := nm) (q := q) (N := N') (bs := bs) (bm := bm) (hdct := hdct) (sn := sn) (sub := sub) (ab := ab) (col := col) (dd := dd) (k0 := k0) (k1 := k1) (k2 := k2) (k3 := k3) (k5 := k5) (mN := mN)
    PySem.F.excBase_ValueError (T.hasType PySem.F.excBase_ValueError.hasBase) (I.ok.hd rfl) ?_ hni (ld_glob I hg O.bound ⟨rfl, ?_⟩ hdb)
  · show (backTo cpos (starEach (e :: es) (envOfC qual scope s₀.heap.objs.size f cd))).any (·.1) = false
    rw [he]
    show (false || (backTo cpos (starEach es (envOfC qual scope s₀.heap.objs.size f cd))).any (·.1)) = false
    rw [hpl]; rfl
  have hA := ha cpos pins s σ H _ I h
  show wpAny _ _ (evalArgs (.ref C) true (backTo cpos (starEach (e :: es) (envOfC qual scope s₀.heap.objs.size f cd))) []) _ _ s
  have hA' : wpAny (model P w) (cxOf (CXR P w) P w K mg base N qual scope f cd A outer s₀ H₀ E).A (spliced (backTo cpos (starEach (e :: es) (envOfC qual scope s₀.heap.objs.size f cd)))) _ _ s := hA
  rw [he] at hA' ⊢
  refine Calls.evalArgs_plain (thn hA' fun us s1 ⟨vs, H1, I1, r, hz, q1⟩ => ⟨rfl, by rw [← r.length]; exact hz, I1.bk _ _ hC, hN.keeps I1.bk, T.keeps I1.bk, fun h' x' hm => (let ⟨t, e1, _, _⟩ := hm.there; cx_raise I1 hm.keeps hm.new e1 rfl rfl rfl rfl ⟨0, rfl⟩ q1)⟩)
def XP (X : Cx) (pins : List (Addr × Obj)) (σ : St) (Ex : XK) (e : Value) (s' : Shared) : Prop := ∃ H1 s1, Inv X pins σ H1 s1 ∧ CXR X.prog X.w X.stack H1 s1 Ex e s'
abbrev TX := St → Hp → VK → XK → Prop
def PEx (X : Cx) (e : Expr) (t : TX) : Prop :=
  ∀ (pins : List (Addr × Obj)) (s : Shared) (σ : St) (H : Hp) (Q : VK) (Ex : XK), Inv X pins σ H s → t σ H Q Ex → wpAny (model X.prog X.w) X.A (eval e X.env) (EP X pins σ Q) (XP X pins σ Ex) s
section
variable {X : Cx} {e : Expr} {es : List Expr} {pos : Pos}
theorem noxe {α : Type} {t : Sem α} {Q : α → Shared → Prop} {M : Model} {A : Around} {E : Value → Shared → Prop} {s : Shared} (h : wpAny M A t Q X.nox.xe s) : wpAny M A t Q E s := wpAny_mono h (fun _ _ z => z) fun _ _ z => False.elim z
variable {k : Nat} {f C : Addr} {fd : FuncData} {ps : List Str} {sp : Sp} {m x : Str} {p apos : Pos} {o : Expr} {ta : TE} {t : TA}
theorem run_fnx {pins : List (Addr × Obj)} {σ : St} {H : Hp} {s : Shared} {Q : VK} {Ex : XK} {us : List Value} {vs : List V} (F : FnOk X.prog X.w X.K X.mg X.base (CXR X.prog X.w) k f fd ps sp) (hr : Room k X.A) (hb : Binds X.K fd ps [])
    (I : Inv X pins σ H s) (r : Vals vs us) (h : sp vs H Q Ex) : wpAny (model X.prog X.w) X.A (call (.ref f) us) (EP X pins σ Q) (XP X pins σ Ex) s := by
  have hl : (us ++ []).length = ps.length := by rw [List.append_nil, ← r.length]; exact F.len _ _ _ _ h
  have hb' := hb s us I.kIn hl
  rw [List.append_nil] at hb'
  refine wpAny_call (codeAny_mono (F.run X.A X.stack s H ⟨us, []⟩ us vs Q Ex hr I.env0 hb' r h) fun r s' hq => ?_)
  cases r with
  | error e => exact ⟨H, s, I, hq⟩
  | ok fl =>
    cases fl with
    | ret u => exact I.after hq
    | next => exact False.elim hq
    | brk => exact False.elim hq
    | cont => exact False.elim hq
theorem px_callV (i : Nat) {k' : Nat} (hv : PE X.nox (.Name x p) (tVar i)) (hr : Room k' X.A) (ha : PA X.nox (e :: es) t)
    (he : starEach (e :: es) X.env = (false, eval e X.env) :: starEach es X.env := by rfl) (hpl : (backTo pos (starEach es X.env)).any (·.1) = false := by rfl) :
    PEx X.nox (.Call (.Name x p) (e :: es) [] pos) (fun σ H Q Ex => ∃ f fd k ps sp, σ[i]? = some (some (.ref f)) ∧ FnOk X.prog X.w X.K X.mg X.base (CXR X.prog X.w) k f fd ps sp ∧ k ≤ k' ∧ PySem.W.keepIn X.K (.ref f) = true ∧ Binds X.K fd ps [] ∧ t σ H fun vs H1 => sp vs H1 Q Ex) := by
  intro pins s σ H Q Ex I h
  obtain ⟨f, fd, k, ps, sp, ef, F, hk, kp, hb, h⟩ := h
  refine wpAny_Call_Name_kw (thn (noxe (hv pins s σ H (fun v H' => v = .ref f ∧ H' = H) I ⟨_, ef, rfl, rfl⟩)) fun u s1 ⟨v, H1, I1, rv, ev, eH⟩ => ?_)
  subst ev eH
  obtain rfl : u = Value.ref f := rv
  refine PySem.W.callWith_K (h₀ := X.base) I.ok.mod.kin kp (thn (noxe (ha pos pins s1 σ H1 _ I1 h)) fun us s2 ⟨vs, H2, I2, r, q⟩ => ⟨I2.kIn, ?_⟩) he hpl
  exact run_fnx (X := X.nox) F (hr.mono hk) hb I2 r q
theorem px_call (F : FnOk X.prog X.w X.K X.mg X.base (CXR X.prog X.w) k f fd ps sp) (hr : Room k X.A) (hg : Gl X x) (hm : X.mg x = some (.ref f)) (hk : PySem.W.keepIn X.K (.ref f) = true) (hb : Binds X.K fd ps []) (ha : PA X.nox (e :: es) t)
    (hdb : (x == ("__debug__" : Str)) = false := by decide) (he : starEach (e :: es) X.env = (false, eval e X.env) :: starEach es X.env := by rfl) (hpl : (backTo pos (starEach es X.env)).any (·.1) = false := by rfl) :
    PEx X.nox (.Call (.Name x p) (e :: es) [] pos) (fun σ H Q Ex => t σ H fun vs H1 => sp vs H1 Q Ex) := by
  intro pins s σ H Q Ex I h
  refine wpAny_Call_Name_kw (ld_glob I hg hm ?_ hdb)
  refine PySem.W.callWith_K (h₀ := X.base) I.ok.mod.kin hk (thn (noxe (ha pos pins s σ H _ I h)) fun us s1 ⟨vs, H1, I1, r, q⟩ => ⟨I1.kIn, ?_⟩) he hpl
  exact run_fnx (X := X.nox) F hr hb I1 r q
end
theorem exc_matches {M : Model} {A : Around} {E : Value → Shared → Prop} {nm q nm' q' : Str} {C N D N' : Addr} {bs bm bs' bm' : List Value} {hdct hdct' : Bool} {sn sn' : List Str} {sub sub' : List Value} {ab ab' : Bool} {col col' : Option Bool} {dd dd' : Option Addr} {k0 k1 k2 k3 k5 l0 l1 l2 l3 l5 : Option Value} {newId newId' : String}
    {h : Heap} {g : Array GenState} {d : Drawn} {t : Nat} {os : OsState} {e : Addr} {oe : Obj} {Q : Bool → Shared → Prop}
    (hC : h.get? C = some (excClassObj nm q C N bs bm hdct sn sub ab col dd k0 k1 k2 k3 k5 newId)) (hD : h.get? D = some (excClassObj nm' q' D N' bs' bm' hdct' sn' sub' ab' col' dd' l0 l1 l2 l3 l5 newId'))
    (he : h.get? e = some oe) (hcls : oe.cls = .ref C) (hbase : bm'.contains (.type "BaseException") = true) (hq : Q ((Value.ref C :: bm).contains (.ref D)) ⟨h, g, d, t, os⟩) : wpAny M A (excMatches (.ref e) (.ref D)) Q E ⟨h, g, d, t, os⟩ := by
  have hcB : (Value.ref D :: bm').contains (.type "BaseException") = true := by rw [List.contains_cons, hbase, Bool.or_true]
  have f := tc_notTuple
  unfold excMatches
  cases hb : (Value.ref C :: bm).contains (.ref D) with
  | true =>
    rw [hb] at hq
    repeat (first | (with_reducible refine wpAny_loadPart_at he ?_; rw [hcls]) | with_reducible refine wpAny_loadPart_at hD ?_ | (with_reducible refine wpAny_isSubtype_exc hD ?_; rw [hcB]) | (with_reducible refine wpAny_isSubtype_exc hC ?_; rw [hb]) | wp_step)
    exact hq
  | false =>
    rw [hb] at hq
    repeat (first | (with_reducible refine wpAny_loadPart_at he ?_; rw [hcls]) | with_reducible refine wpAny_loadPart_at hD ?_ | (with_reducible refine wpAny_isSubtype_exc hD ?_; rw [hcB]) | (with_reducible refine wpAny_isSubtype_exc hC ?_; rw [hb]) | wp_step)
    exact hq
abbrev Cx.caught (X : Cx) (x : Addr) (ps : List (Addr × Obj)) : Cx := { X with A := X.A.mark (some (.ref x)), calm := false, pn := ps ++ X.pn }
theorem caught_ok {X : Cx} {e : Addr} {ps : List (Addr × Obj)} (ok : X.Ok) : (X.caught e ps).Ok :=
  ⟨ok.mod, ok.kind, ok.glob, ok.blt, ok.above, ok.inj, ok.has, ok.cab, fun z => absurd (show false = true from z) Bool.false_ne_true, ok.frames, ok.stk, ok.exf, ok.bs, ok.bsz, ok.noex, ok.exfs, ok.funs, ok.frf⟩
theorem Inv.caught {X : Cx} {e : Addr} {ps pins : List (Addr × Obj)} {σ : St} {H : Hp} {s : Shared} (I : Inv X pins σ H s) (hp : ∀ p ∈ ps, s.heap.get? p.1 = some p.2 ∧ H p.1 = none ∧ p.1 ≠ X.env.locals ∧ p.1 ∉ X.fs ∧ ∀ v, p.2.data ≠ .cell v) : Inv (X.caught e ps) pins σ H s :=
  ⟨caught_ok I.ok, I.os, I.bare, I.base, I.loc, I.cell, I.free, I.freeC, fun p z => by
    rcases List.mem_append.mp z with z | z
    · rcases List.mem_append.mp z with z | z
      · exact hp p z
      · exact I.pin p (List.mem_append_left _ z)
    · exact I.pin p (List.mem_append_right _ z), I.hok, I.len⟩
theorem Inv.uncaught {X : Cx} {e : Addr} {ps pins : List (Addr × Obj)} {σ : St} {H : Hp} {s : Shared} (ok : X.Ok) (I : Inv (X.caught e ps) pins σ H s) : Inv X pins σ H s := ⟨ok, I.os, I.bare, I.base, I.loc, I.cell, I.free, I.freeC, fun p z => I.pin p (by
    rcases List.mem_append.mp z with z | z
    · exact List.mem_append_left _ (List.mem_append_right _ z)
    · exact List.mem_append_right _ z), I.hok, I.len⟩
theorem SP.uncaught {X : Cx} {e : Addr} {ps pins : List (Addr × Obj)} {D : Ends} {f : Flow} {s : Shared} (ok : X.Ok) (h : SP (X.caught e ps) pins D f s) : SP X pins D f s := by
  cases f with
  | next => obtain ⟨σ', H', I', q⟩ := h; exact ⟨σ', H', I'.uncaught ok, q⟩
  | brk => obtain ⟨σ', H', I', q⟩ := h; exact ⟨σ', H', I'.uncaught ok, q⟩
  | cont => obtain ⟨σ', H', I', q⟩ := h; exact ⟨σ', H', I'.uncaught ok, q⟩
  | ret v => obtain ⟨x, σ', H', I', r, q⟩ := h; exact ⟨x, σ', H', I'.uncaught ok, r, q⟩
def HeadP (ps : List (Addr × Obj)) (x : Addr) : Prop := ∃ n, ChainP ps (n + 1) (.ref x)
inductive Hs (X : Cx) : List ExceptHandler → List (Addr × TS) → Prop where
  | nil : Hs X [] []
  | cons {x : Str} {C : Addr} {mro : List Value} {b₀ : Stmt} {suite : List Stmt} {pos np : Pos} {rest : List ExceptHandler} {ts : TS} {l : List (Addr × TS)} (O : Exc X.K X.mg x C mro) (hg : Gl X x) (hdb : (x == ("__debug__" : Str)) = false)
      (hs : ∀ e ps, X.Ok → HeadP ps e → PSs (X.caught e ps) (b₀ :: suite) ts) (r : Hs X rest l) : Hs X (.ExceptHandler (some (.Name x np)) none (b₀ :: suite) pos :: rest) ((C, ts) :: l)
def pickH (mro : List Value) : List (Addr × TS) → Option TS
  | [] => none
  | (C, t) :: r => if mro.contains (.ref C) = true then some t else pickH mro r
abbrev TSx := Ends → XK → St → Hp → Prop
def PSx (X : Cx) (st : Stmt) (t : TSx) : Prop :=
  ∀ (pins : List (Addr × Obj)) (s : Shared) (σ : St) (H : Hp) (D : Ends) (Ex : XK), Inv X pins σ H s → t D Ex σ H → wpAny (model X.prog X.w) X.A (exec st X.env) (SP X pins D) (XP X pins σ Ex) s
theorem psx_set {X : Cx} {e : Expr} {te : TX} {i : Nat} {x : Str} {pos' ap : Pos} (hN : X.N.Nodup) (hi : X.N[i]? = some x) (hx : X.env.scope.names.lookup x = some .local) (he : PEx X.nox e te) (hsw : swapsWith e (some (.Name x pos')) ap.line X.env = pure false := by rfl) :
    PSx X.nox (.Assign [.Name x pos'] e ap) (fun D Ex σ H => te σ H (fun y H1 => D.nx (σ.set i (some y)) H1) Ex) := by
  intro pins s σ H D Ex I h
  refine wpAny_Assign_Name (thn (he pins s σ H _ _ I h) fun v s1 ⟨y, H1, I1, r1, q1⟩ => ?_) hsw
  exact store_ok I1 hN hi (.inl hx) r1 (fun s2 I2 => ⟨_, H1, I2, q1⟩) (.inr hx)
theorem psx_ret {X : Cx} {e : Expr} {te : TX} {ap : Pos} (he : PEx X.nox e te) : PSx X.nox (.Return (some e) ap) (fun D Ex σ H => te σ H D.rt Ex) := by
  intro pins s σ H D Ex I h
  exact wpAny_Return_some (thn (he pins s σ H _ _ I h) fun v s1 ⟨y, H1, I1, r1, q1⟩ => ⟨y, σ, H1, I1, r1, q1⟩)
def tTry (K : PySem.W.Frag) (mg : Str → Option Value) (te : TSx) (l : List (Addr × TS)) : TS := fun D σ H => te D (fun c _ H1 => ∃ x C mro t, c = .ref C ∧ Exc K mg x C mro ∧ pickH mro l = some t ∧ t D σ H1) σ H
theorem ps_try {X : Cx} {st : Stmt} {te : TSx} {h₀ : ExceptHandler} {hs : List ExceptHandler} {l : List (Addr × TS)} {pos : Pos} (he : PSx X.nox st te) (hh : Hs X (h₀ :: hs) l) (hf : X.env.frame = some X.env.locals) (hst : X.stack = X.env :: X.outer)
    (hpa : ∀ v, PassesOwnAt (model X.prog X.w) (X.A.mark v) X.A X.env X.xe) : PS X (.Try [st] (h₀ :: hs) [] [] pos) (tTry X.K X.mg te l) := by
  intro pins s σ H D I h
  refine wpAny_Try_except ?_
  refine wpAny_mono (Q := SP X.nox pins D) (E := XP X.nox pins σ fun c _ H1 => ∃ x C mro t, c = .ref C ∧ Exc X.K X.mg x C mro ∧ pickH mro l = some t ∧ t D σ H1) ?_ (fun f s1 q => ?_) fun ev s1 q => ?_
  · refine wpAny_execs_cons (thn (he pins s σ H D _ (I.wish _) h) fun f s1 q => ?_)
    cases f with
    | next => exact wpAny_execs_nil q
    | ret v => exact q
    | brk => exact q
    | cont => exact q
  · cases f with
    | next => exact wpAny_execs_nil (SP.unwish q)
    | ret v => exact SP.unwish q
    | brk => exact SP.unwish q
    | cont => exact SP.unwish q
  obtain ⟨H1, s2, I1, xa, C, c, B, H', rfl, F, nmx, C', mro, t, ec, O, pk, qt⟩ := q
  cases ec
  have F' : Flown X.prog X.w (X.env :: X.outer) H1 s2 xa C c B H' s1 := by
    have : Flown X.prog X.w X.stack H1 s2 xa C c B H' s1 := F
    rw [hst] at this; exact this
  have hfr : X.A.frames = some (X.env :: X.outer) := by rw [← hst]; exact I.ok.frames
  have I1' : Inv X pins σ H1 s2 := I1.unwish
  refine fl_note hfr hf F'.fly fun h4 held4 up4 => ?_
  refine fl_land (s := { s1 with heap := h4 }) held4 fun h5 fl5 up5' => ?_
  have up5 := up4.trans up5'
  -- whatever the handlers find, the names stand
  have inv : ∀ {h : Heap}, B.StaysIn h → s1.heap.UpToSlots h → Inv X pins σ H' { s1 with heap := h } := fun {h} st up => by
    have u := F.un st up
    exact I1'.call' (s' := { s1 with heap := h }) (ch := []) F.os u (F.hok.kept st) F.bare fun b z => absurd z (by simp)
  have ok := I.ok
  have main : ∀ {hs' : List ExceptHandler} {l' : List (Addr × TS)}, Hs X hs' l' → pickH mro l' = some t → wpAny (model X.prog X.w) X.A (handleBy (.ref xa) X.env hs') (SP X pins D) X.xe { s1 with heap := h5 } := by
    intro hs' l' hH
    induction hH with
    | nil => intro z; cases z
    | @cons nm2 C2 mro2 b₀ suite p2 np rest ts l2 O2 hg hdb hsu r ih =>
      intro z
      have I5 : Inv X pins σ H' { s1 with heap := h5 } := inv fl5.1 up5
      refine wpAny_handleBy_cons (codeAny_handlers_test ?_) (by intro q; cases q)
      have Ic : Inv (X.caught xa []) pins σ H' { s1 with heap := h5 } := I5.caught fun p hp => absurd hp (by simp)
      refine wpAny_mono (E := fun _ _ => False) (ld_glob Ic hg O2.bound (Q := fun c s' => c = .ref C2 ∧ s' = { s1 with heap := h5 }) ⟨rfl, rfl⟩ hdb) (fun c s' hc => ?_) fun _ _ z => z.elim
      obtain ⟨rfl, rfl⟩ := hc
      obtain ⟨bm, N1, nm, q1, bs, hdct, sn, sub, ab, col, dd, k0, k1, k2, k3, k5, mN, hC, _, _, T, em⟩ := O.obj I5.kIn
      obtain ⟨bm', N1', nm', q1', bs', hdct', sn', sub', ab', col', dd', l0, l1, l2', l3, l5, mN', hC', _, _, T', em'⟩ := O2.obj I5.kIn
      obtain ⟨ob, vs5, _, _, _, hob, hobc, _⟩ := fl5.2.2.2
      refine exc_matches (oe := ob) hC hC' hob hobc (T'.hasType PySem.F.excBase_ValueError.hasBase) ?_
      rw [← em]
      cases hb : mro.contains (.ref C2) with
      | true =>
        have z' : (if mro.contains (.ref C2) = true then some ts else pickH mro l2) = some t := z
        rw [hb, if_pos rfl] at z'
        cases z'
        refine codeAny_handlers_suite ?_
        refine fl_land (s := { s1 with heap := h5 }) fl5 fun h6 fl6 up6 => ?_
        have I6 : Inv X pins σ H' { s1 with heap := h6 } := inv fl6.1 (up5.trans up6)
        obtain ⟨oe, vs, _, _, _, g1, g2, g3, g4, _⟩ := fl6.2.2.2
        obtain ⟨n, chn⟩ := F.ch
        have chn6 : Chain h6 (fun a => H' a = none) (n + 1) (.ref xa) := .inr ⟨xa, oe, vs, c, rfl, g1, F.new, g3, g4, chn.imp fun a o ws na ea _ => ⟨fl6.1 a o ea, na⟩⟩
        obtain ⟨ps, pk1, pk2⟩ := chn6.pins
        have Ic6 : Inv (X.caught xa ps) pins σ H' { s1 with heap := h6 } := I6.caught fun p hp => by
          obtain ⟨a1, a2, ws, a3⟩ := pk1 p hp
          refine ⟨a1, a2, fun y => ?_, fun y => ?_, fun v y => ?_⟩
          · obtain ⟨m, ⟨o', es, ep, ho', hd', _⟩, _⟩ := I6.loc
            rw [y] at a1
            have a1' : h6.get? X.env.locals = some o' := ho'
            rw [a1'] at a1; cases a1
            rw [hd'] at a3; cases a3
          · obtain ⟨_, o', ho', n'⟩ := I6.funs.mem y
            have a1' : h6.get? p.1 = some o' := ho'
            rw [a1'] at a1; cases a1
            exact n' ws a3
          · rw [a3] at y; cases y
        refine wpAny_passesOwnAt (hpa _) ?_
        exact wpAny_mono (hsu xa ps ok ⟨n, pk2⟩ pins _ σ H' D Ic6 qt) (fun f s' q => SP.uncaught ok q) fun _ _ q => q
      | false =>
        have z' : (if mro.contains (.ref C2) = true then some ts else pickH mro l2) = some t := z
        rw [hb, if_neg Bool.false_ne_true] at z'
        exact ih z'
  exact main hh pk
theorem ps_raiseH {P : Program} {w : World} {K : PySem.W.Frag} {mg : Str → Option Value} {base : Heap} {N : List Str} {qual : Str} {scope : Scope} {f : Addr} {cd : Value} {A : Around} {outer : List Env} {s₀ : Shared} {H₀ : Hp} {E : XK} {y : Addr} {ps : List (Addr × Obj)}
    {x : Str} {C : Addr} {mro : List Value} {e : Expr} {es : List Expr} {ta : TA} {np cpos pos p2 : Pos} {j : Nat} (ok : (cxOf (CXR P w) P w K mg base N qual scope f cd A outer s₀ H₀ E).Ok) (hd : HeadP ps y) (O : Exc K mg x C mro) (ha : PA ((cxOf (CXR P w) P w K mg base N qual scope f cd A outer s₀ H₀ E).caught y ps) (e :: es) ta)
    (hg : Gl (cxOf (CXR P w) P w K mg base N qual scope f cd A outer s₀ H₀ E) x := by rfl) (hdb : (x == ("__debug__" : Str)) = false := by decide)
    (he : starEach (e :: es) (envOfC qual scope s₀.heap.objs.size f cd) = (false, eval e (envOfC qual scope s₀.heap.objs.size f cd)) :: starEach es (envOfC qual scope s₀.heap.objs.size f cd) := by rfl)
    (hpl : (backTo cpos (starEach es (envOfC qual scope s₀.heap.objs.size f cd))).any (·.1) = false := by rfl) :
    PS ((cxOf (CXR P w) P w K mg base N qual scope f cd A outer s₀ H₀ E).caught y ps) (.Raise (some (.Call (.Name x np) (e :: es) [] cpos)) (some (.Constant .none j p2)) pos) (tRaise C E ta) := by
  intro pins s σ H D I h
  obtain ⟨bm, N', nm, q, bs, hdct, sn, sub, ab, col, ddd, k0, k1, k2, k3, k5, mN, hC, hN, hni, T, _⟩ := O.obj I.ok.mod.kin
  refine Raise_behind (C := C) (nm := nm) (q := q) (N := N') (bs := bs) (bm := bm) (hdct := hdct) (sn := sn) (sub := sub) (ab := ab) (col := col) (dd := ddd) (k0 := k0) (k1 := k1) (k2 := k2) (k3 := k3) (k5 := k5) (mN := mN) (y := y)
    PySem.F.excBase_ValueError (T.hasType PySem.F.excBase_ValueError.hasBase) rfl ?_ hni (ld_glob I hg O.bound ⟨rfl, ?_⟩ hdb)
  · show (backTo cpos (starEach (e :: es) (envOfC qual scope s₀.heap.objs.size f cd))).any (·.1) = false
    rw [he]
    show (false || (backTo cpos (starEach es (envOfC qual scope s₀.heap.objs.size f cd))).any (·.1)) = false
    rw [hpl]; rfl
  have hA := ha cpos pins s σ H _ I h
  show wpAny _ _ (evalArgs (.ref C) true (backTo cpos (starEach (e :: es) (envOfC qual scope s₀.heap.objs.size f cd))) []) _ _ s
  have hA' : wpAny (model P w) ((cxOf (CXR P w) P w K mg base N qual scope f cd A outer s₀ H₀ E).caught y ps).A (spliced (backTo cpos (starEach (e :: es) (envOfC qual scope s₀.heap.objs.size f cd)))) _ _ s := hA
  rw [he] at hA' ⊢
  refine Calls.evalArgs_plain (thn hA' fun us s1 ⟨vs, H1, I1, r, hz, q1⟩ => ⟨rfl, by rw [← r.length]; exact hz, I1.bk _ _ hC, hN.keeps I1.bk, T.keeps I1.bk, fun h' x' hm => ?_⟩)
  obtain ⟨n, hd⟩ := hd
  have pin1 : ∀ p ∈ ps, s1.heap.get? p.1 = some p.2 ∧ H1 p.1 = none := fun p z => let w := I1.pin p (List.mem_append_left _ (List.mem_append_left _ z)); ⟨w.1, w.2.1⟩
  refine ⟨⟨n, hd.chain fun p z => ⟨hm.keeps _ _ (pin1 p z).1, fun z2 => ?_⟩⟩, fun g t y1 y2 => ?_⟩
  · have z3 := (pin1 p z).1
    rw [z2, hm.new] at z3; cases z3
  · refine cx_raise (I1.uncaught ok) (fun b o z => (y2 b fun z2 => ?_).trans (hm.keeps b o z)) hm.new y1 rfl rfl rfl rfl ⟨n + 1, hd.chain pin1⟩ q1
    rw [z2, hm.new] at z; cases z
structure RoomH (k : Nat) (A : Around) : Prop where
  dp : A.depth + 3 * k + 5 < recursionLimit
  un : A.units + 16 * k + 200 < cLine
theorem Room.h {k : Nat} {A : Around} (r : Room k A) (v : Option Value) : RoomH k (A.mark v) := ⟨r.dp, r.un⟩
structure FnOkH (P : Program) (w : World) (K : PySem.W.Frag) (mg : Str → Option Value) (base : Heap) (k : Nat) (f : Addr) (fd : FuncData) (ps : List Str) (sp : Sp) : Prop where
  len : ∀ vs H Q E, sp vs H Q E → vs.length = ps.length
  run : ∀ (A : Around) (outer : List Env) (s : Shared) (H : Hp) (args : Args) (us : List Value) (vs : List V) (Q : VK) (E : XK), RoomH k A → Env0 P w K mg base A outer s H → BindsTo s fd args (ps.zip us) → Vals vs us → sp vs H Q E →
    codeAny (model P w) A (.call (.ref f) args) (CR CX0 outer P w H s Q E) s
abbrev Cx.uncalm (X : Cx) : Cx := { X with calm := false }
section
variable {P : Program} {w : World} {K : PySem.W.Frag} {mg : Str → Option Value} {base : Heap}
theorem Fun.okH {x qual : Str} {st : Stmt} {f : Addr} {fd : FuncData} {N ps : List Str} {k : Nat} {sp : Sp} (F : Fun K x qual st f fd) (S : FnScope N ps (defScope st)) (len : ∀ vs H Q E, sp vs H Q E → vs.length = ps.length)
    (hbody : ∀ (cdv : Value) (A : Around) (outer : List Env) (s : Shared) (H : Hp) (vs : List V) (Q : VK) (E : XK), sp vs H Q E →
      ∃ t, PSs (cxOf CX0 P w K mg base N qual (defScope st) f cdv A outer s H E).uncalm.nox (defBody st) t ∧ t { nx := fun _ H' => Q .non H', rt := Q } (start N vs) H) : FnOkH P w K mg base (k + 1) f fd ps sp := by
  obtain ⟨oc, od, kV, doc, pm, an, cdv, ct, osl, rfl, lk, hcd⟩ := F.ex
  refine ⟨len, fun A outer s H args us vs Q E hr e0 hb r hsp => ?_⟩
  have hl := len _ _ _ _ hsp
  have KX : K.In s.heap := e0.mod.kin.keeps fun b o e => (e0.bs b o e).1
  have lim : s.heap.NoLimit := e0.mod.nolimit.keeps fun b o e => (e0.bs b o e).1
  have hkind : ∀ y ∈ ps.zip us, (defScope st).names.lookup y.1 = some .local ∨ ((defScope st).names.lookup y.1 = some .cell ∧ ((cellsFrom (s.heap.objs.size + 1) (defScope st).names []).lookup y.1).isSome = true) := fun ⟨n, v⟩ hy => by
    rcases S.par n (List.of_mem_zip hy).1 with q | q
    · exact .inl q
    · exact .inr ⟨q, PySem.W.cellsFrom_some _ _ _ (.inl q)⟩
  refine codeAny_call_function (by have := hr.dp; omega) (KX _ _ lk) rfl S.co S.gen rfl (PySem.W.codeRec_of KX hcd) (hb _ _ _ _ ?_)
  refine wpAny_newFunctionEnv_cells S.kind hkind fun env he s1 x => ?_
  subst he
  refine ⟨lim.keeps x.toInCall.keep, codeAny_func ?_⟩
  obtain ⟨t, ht, hq⟩ := hbody cdv A outer s H vs Q E hsp
  have e1 : Env0 P w K mg base { A with handled := none } outer s H := ⟨e0.frames, e0.mod, e0.bs, e0.bsz, e0.funs, e0.frf, e0.hok, e0.bare⟩
  have I0 : Inv (cxOf CX0 P w K mg base N qual (defScope st) f cdv { A with handled := none } outer s H E) [] (start N vs) H s1 := inv_start S rfl e1 hl r x
  have I : Inv (cxOf CX0 P w K mg base N qual (defScope st) f cdv A outer s H E).uncalm.nox [] (start N vs) H s1 :=
    ⟨⟨I0.ok.mod, I0.ok.kind, I0.ok.glob, I0.ok.blt, I0.ok.above, I0.ok.inj, I0.ok.has, I0.ok.cab, fun z => absurd (show false = true from z) Bool.false_ne_true, Around.frames_deeper e0.frames, I0.ok.stk, I0.ok.exf, I0.ok.bs, I0.ok.bsz, I0.ok.noex, I0.ok.exfs, I0.ok.funs, I0.ok.frf⟩, I0.os, I0.bare, I0.base, I0.loc, I0.cell, I0.free, I0.freeC, I0.pin, I0.hok, I0.len⟩
  refine wpAny_mono (ht [] s1 (start N vs) H _ I hq) (fun fl s' hs => ?_) fun e s' hs => False.elim hs
  have fin : ∀ {σ' : St} {H' : Hp} {v : V} {u : Value}, Inv (cxOf CX0 P w K mg base N qual (defScope st) f cdv A outer s H E).uncalm.nox [] σ' H' s' → RelV v u → Q v H' → CE outer P w H s Q u s' :=
    fun {σ' H' v u} J rv q => ⟨v, H', J.os, J.bare, J.base, J.hok, rv, q⟩
  cases fl with
  | ret u =>
    obtain ⟨v, σ', H', J, rv, q⟩ := hs
    exact fin J rv q
  | next =>
    obtain ⟨σ', H', J, q⟩ := hs
    exact fin (v := V.non) (u := Value.none) J rfl q
  | brk =>
    obtain ⟨_, _, _, q⟩ := hs
    exact False.elim q
  | cont =>
    obtain ⟨_, _, _, q⟩ := hs
    exact False.elim q
end
section
variable {X : Cx} {k : Nat} {f C : Addr} {fd : FuncData} {ps : List Str} {sp : Sp} {m : Str} {pos apos : Pos} {e o : Expr} {es : List Expr} {ta : TE} {t : TA}
theorem pe_methH {pl : Sem Bool} (he : PE X o ta) (c : Cls X.K C) (hm : Meth X.K C m f) (F : FnOkH X.prog X.w X.K X.mg X.base k f fd ps sp) (hr : RoomH k X.A) (hb : Binds X.K fd ps []) (ha : PA X (e :: es) t)
    (hst : starEach (e :: es) X.env = (false, eval e X.env) :: starEach es X.env := by rfl) (hpl : (backTo pos (starEach es X.env)).any (·.1) = false := by rfl)
    (ht : eval (.Call (.Attribute o m apos) (e :: es) [] pos) X.env = (do
      let ov ← eval o X.env
      standAt apos.atName
      let (f, first) ← holding [ov] (getMethod ov m pl)
      callWith pos f first (backTo pos (starEach (e :: es) X.env)) (backToKw pos (keywordEach [] X.env))) := by rfl) :
    PE X (.Call (.Attribute o m apos) (e :: es) [] pos) (tMeth C m sp [] E0 ta t) := by
  intro pins s σ H Q I h
  refine PySem.W.methodCall_KW (pl := pl) (thn (he pins s σ H _ I h) fun u s1 ⟨x, H1, I1, rx, a, dx, fs, ex, ea, l, q⟩ => ?_) ht
  subst ex
  obtain rfl : u = Value.ref a := rx
  refine getmeth_ok I1 ea c hm l ?_
  refine PySem.W.callWith_K (first := [.ref a]) (h₀ := X.base) I.ok.mod.kin hm.kp (thn (ha pos pins s1 σ H1 _ I1 q) fun us s2 ⟨vs, H2, I2, r, q2⟩ => ⟨I2.kIn, ?_⟩) hst hpl
  have q2 : sp (.ref a :: (vs ++ [])) H2 Q E0 := q2
  rw [List.append_nil] at q2
  have r2 : Vals (.ref a :: vs) (.ref a :: us) := .cons rfl r
  have hl : ((.ref a :: us) ++ ([] : List Value)).length = ps.length := by rw [List.append_nil, ← r2.length]; exact F.len _ _ _ _ q2
  have hb' := hb s2 (.ref a :: us) I2.kIn hl
  rw [List.append_nil] at hb'
  refine wpAny_call (codeAny_mono (F.run X.A X.stack s2 H2 ⟨.ref a :: us, []⟩ (.ref a :: us) (.ref a :: vs) Q E0 hr I2.env0 hb' r2 q2) fun r s' hq => ?_)
  cases r with
  | error e => exact False.elim hq
  | ok fl =>
    cases fl with
    | ret u => exact I2.after hq
    | next => exact False.elim hq
    | brk => exact False.elim hq
    | cont => exact False.elim hq
end
section
variable {P : Program} {w : World} {K : PySem.W.Frag} {mg : Str → Option Value} {base : Heap} {N : List Str} {qual : Str} {scope : Scope} {f' : Addr} {cd : Value} {A : Around} {outer : List Env} {s₀ : Shared} {H₀ : Hp} {E : XK}
  {x : Str} {f : Addr} {fd : FuncData} {ps : List Str} {k k' : Nat} {sp : Sp} {e : Expr} {es : List Expr} {t : TA} {p pos : Pos}
theorem pe_fnX (F : FnX P w K mg base x f fd ps k sp) (hr : Room k' (cxOf (CXR P w) P w K mg base N qual scope f' cd A outer s₀ H₀ E).A) (ha : PA (cxOf (CXR P w) P w K mg base N qual scope f' cd A outer s₀ H₀ E) (e :: es) t) (hk : k ≤ k' := by first | decide | exact Nat.le_refl _) (hg : Gl (cxOf (CXR P w) P w K mg base N qual scope f' cd A outer s₀ H₀ E) x := by rfl) (hdb : (x == ("__debug__" : Str)) = false := by decide)
    (he : starEach (e :: es) (envOfC qual scope s₀.heap.objs.size f' cd) = (false, eval e (envOfC qual scope s₀.heap.objs.size f' cd)) :: starEach es (envOfC qual scope s₀.heap.objs.size f' cd) := by rfl) (hpl : (backTo pos (starEach es (envOfC qual scope s₀.heap.objs.size f' cd))).any (·.1) = false := by rfl) :
    PE (cxOf (CXR P w) P w K mg base N qual scope f' cd A outer s₀ H₀ E) (.Call (.Name x p) (e :: es) [] pos) (tCall sp [] E t) :=
  pe_call F.ok (hr.mono hk) hg F.mg F.kp F.bd .nil cx_pass ha hdb he hpl
end
section
variable {X : Cx} {x : Str} {f : Addr} {fd : FuncData} {ps : List Str} {k k' : Nat} {sp : Sp} {e : Expr} {es : List Expr} {t : TA} {p pos : Pos}
theorem px_fn (F : FnX X.prog X.w X.K X.mg X.base x f fd ps k sp) (hr : Room k' X.A) (ha : PA X.nox (e :: es) t) (hk : k ≤ k' := by first | decide | exact Nat.le_refl _) (hg : Gl X x := by rfl) (hdb : (x == ("__debug__" : Str)) = false := by decide)
    (he : starEach (e :: es) X.env = (false, eval e X.env) :: starEach es X.env := by rfl) (hpl : (backTo pos (starEach es X.env)).any (·.1) = false := by rfl) :
    PEx X.nox (.Call (.Name x p) (e :: es) [] pos) (fun σ H Q Ex => t σ H fun vs H1 => sp vs H1 Q Ex) :=
  px_call F.ok (hr.mono hk) hg F.mg F.kp F.bd ha hdb he hpl
end
end L2
namespace L2
open PySem PySem.Spec PyProof.Rows
section
variable {X : Cx} {pos : Pos}
end
end L2
namespace L2
open PySem PySem.Spec PyProof.Rows
section
variable {X : Cx}
theorem call_sumL (hc : X.calm = true) : CallR X (.builtin "sum") (fun xs H Q => ∃ (p : Addr) (ns : List Int), xs = [.ref p] ∧ SqL X.K H p (ns.map V.int) ∧ Q (.int ns.sum) H) := by
  intro pins s σ H xs us Q I r h
  obtain ⟨p, ns, rfl, hq, q⟩ := h
  obtain ⟨u, rfl, rx⟩ := vals1 r
  cases rx
  obtain ⟨its, rv, pl, hz⟩ := I.list hq
  have hlen : its.length = ns.length := by rw [← rv.length, List.length_map]
  have plt : p < s.heap.objs.size := by
    obtain ⟨o, ho, _⟩ := pl.isList
    exact Heap.lt_size ho
  have hh : X.A.in1.handled = none := I.ok.hd hc
  refine call_sum_walkG (wpAny_pyIter_list pl.isList ⟨s.heap.objs.size, _, _, _, _, _, fun i => ns.getD i 0, rfl, Walks.list hh s.heap.objs.size p (Nat.ne_of_lt plt) its.toArray, ⟨⟨_, Heap.get?_push_size _ rfl, rfl, rfl⟩, pl.isList.push _⟩, fun b hb => ?_, fun i v hv => ?_, fun h' tk t' k => ?_⟩)
  · show b < (s.heap.push _).objs.size
    rw [Heap.size_push]
    have : b = s.heap.objs.size ∨ b = p := by simpa using hb
    rcases this with rfl | rfl
    · exact Nat.lt_succ_self _
    · exact Nat.lt_succ_of_lt plt
  · have hv' : its[i]? = some v := by simpa using hv
    have hi : i < ns.length := by rw [← hlen]; exact (List.getElem?_eq_some_iff.mp hv').1
    obtain ⟨u, hu, ru⟩ := rv.get (i := i) (x := .int ns[i]) (by rw [List.getElem?_map, List.getElem?_eq_getElem hi]; rfl)
    rw [hv'] at hu; cases hu
    obtain ⟨t, rfl⟩ := ru
    refine ⟨t, ?_⟩
    show Value.int ns[i] t = Value.int (ns.getD i 0) t
    rw [List.getD_eq_getElem?_getD, List.getElem?_eq_getElem hi]
    rfl
  · have e : its.toArray.size = ns.length := by rw [List.size_toArray, hlen]
    rw [e, preSum_getD, List.take_length]
    refine ⟨.int ns.sum, H, ?_, ⟨_, rfl⟩, q⟩
    have I1 : Inv X pins σ H { s with heap := s.heap.push { cls := .type "list_iterator", data := .fields #[.ref p, .int 0 0] } } := I.kept (t' := s.toks) fun b o z => Heap.get?_push_of_some _ z
    refine I1.turnMany (t' := tk) (ch := [s.heap.objs.size]) (fun b hb => ?_) fun b o hb z => k b o (by simpa using hb) z
    have : b = s.heap.objs.size := by simpa using hb
    subst this
    exact I.fpOk (Nat.le_refl _) (I.hok.fresh (Nat.le_refl _))
end
end L2
set_option maxRecDepth 100000
namespace L2
open PySem PySem.Spec PyProof.Rows
section
variable {X : Cx}
theorem call_sumT (hc : X.calm = true) : CallR X (.builtin "sum") (fun xs H Q => ∃ (p : Addr) (ns : List Int), xs = [.ref p] ∧ SqT X.K H p (ns.map V.int) ∧ Q (.int ns.sum) H) := by
  intro pins s σ H xs us Q I r h
  obtain ⟨p, ns, rfl, hq, q⟩ := h
  obtain ⟨u, rfl, rx⟩ := vals1 r
  cases rx
  obtain ⟨its, rv, pl, hz⟩ := I.tuple hq
  have pl' : s.heap.IsTuple p its.toArray := pl
  have hlen : its.length = ns.length := by rw [← rv.length, List.length_map]
  have plt : p < s.heap.objs.size := by
    obtain ⟨o, ho, _⟩ := pl'
    exact Heap.lt_size ho
  have hh : X.A.in1.handled = none := I.ok.hd hc
  refine call_sum_walkG (wpAny_pyIter_tuple pl' ⟨s.heap.objs.size, _, _, _, _, _, fun i => ns.getD i 0, rfl, Walks.tuple hh s.heap.objs.size p (Nat.ne_of_lt plt) its.toArray, ⟨⟨_, Heap.get?_push_size _ rfl, rfl, rfl⟩, pl'.push _⟩, fun b hb => ?_, fun i v hv => ?_, fun h' tk t' k => ?_⟩)
  · show b < (s.heap.push _).objs.size
    rw [Heap.size_push]
    have : b = s.heap.objs.size ∨ b = p := by simpa using hb
    rcases this with rfl | rfl
    · exact Nat.lt_succ_self _
    · exact Nat.lt_succ_of_lt plt
  · have hv' : its[i]? = some v := by simpa using hv
    have hi : i < ns.length := by rw [← hlen]; exact (List.getElem?_eq_some_iff.mp hv').1
    obtain ⟨u, hu, ru⟩ := rv.get (i := i) (x := .int ns[i]) (by rw [List.getElem?_map, List.getElem?_eq_getElem hi]; rfl)
    rw [hv'] at hu; cases hu
    obtain ⟨t, rfl⟩ := ru
    refine ⟨t, ?_⟩
    show Value.int ns[i] t = Value.int (ns.getD i 0) t
    rw [List.getD_eq_getElem?_getD, List.getElem?_eq_getElem hi]
    rfl
  · have e : its.toArray.size = ns.length := by rw [List.size_toArray, hlen]
    rw [e, preSum_getD, List.take_length]
    refine ⟨.int ns.sum, H, ?_, ⟨_, rfl⟩, q⟩
    have I1 : Inv X pins σ H { s with heap := s.heap.push { cls := .type "tuple_iterator", data := .fields #[.ref p, .int 0 0] } } := I.kept (t' := s.toks) fun b o z => Heap.get?_push_of_some _ z
    refine I1.turnMany (t' := tk) (ch := [s.heap.objs.size]) (fun b hb => ?_) fun b o hb z => k b o (by simpa using hb) z
    have : b = s.heap.objs.size := by simpa using hb
    subst this
    exact I.fpOk (Nat.le_refl _) (I.hok.fresh (Nat.le_refl _))
theorem PI.or {tg l : Expr} {w1 w2 : TI} (h1 : PI X tg l w1) (h2 : PI X tg l w2) : PI X tg l (fun σ H R => w1 σ H R ∨ w2 σ H R) := by
  intro pins s σ H R I h
  rcases h with h | h
  · exact h1 pins s σ H R I h
  · exact h2 pins s σ H R I h
end
section
variable {prog : Program} {w : World} {A : Around} {E : Value → Shared → Prop} {s : Shared}
theorem tindex_loop {us : List Value} {ns : List Int} {z : Int} {tz : Tok} {j : Nat} {Q : Option Fin × Unit → Shared → Prop} (hi : IntsAre us ns) (hj : ns[j]? = some z) (hno : ∀ i, i < j → ns[i]? ≠ some z) (q : ∀ r, r = .done (.ret (.int j s.toks)) → Q (some r, ()) { s with toks := s.toks + 1 }) :
    ∀ (k i : Nat), i + k = us.length → i ≤ j → wpAny (model prog w) A (forIn (List.range' i k) ((none, ()) : Option Fin × Unit) fun (i : Nat) __s =>
            match us.toArray[i]? with
            | some y => do
              let __do_lift ← eqBool y (Value.int z tz)
              if __do_lift = true then do
                  let __do_lift ← retInt ↑i
                  pure (ForInStep.done (some __do_lift, ()))
                else pure (ForInStep.yield (none, ()))
            | _ => pure (ForInStep.yield (none, ()))) Q E s := by
  have hlen : us.length = ns.length := by
    clear hj hno q
    induction hi with
    | nil => rfl
    | cons _ _ _ ih => simp [ih]
  have get : ∀ i (h : i < ns.length), ∃ t, us[i]? = some (Value.int ns[i] t) := by
    clear hj hno q hlen
    induction hi with
    | nil => intro i h; exact absurd h (Nat.not_lt_zero _)
    | cons m t r ih =>
      intro i h
      cases i with
      | zero => exact ⟨t, rfl⟩
      | succ i => obtain ⟨t', e⟩ := ih i (by simpa using h); exact ⟨t', by simpa using e⟩
  have hjl : j < ns.length := (List.getElem?_eq_some_iff.mp hj).1
  intro k
  induction k with
  | zero => intro i e h; omega
  | succ k ih =>
    intro i e h
    rw [List.range'_succ, List.forIn_cons]
    obtain ⟨t, et⟩ := get i (by omega)
    have et' : us.toArray[i]? = some (Value.int ns[i] t) := by simpa using et
    rw [et']
    refine wpAny_bind (wpAny_bind (wpAny_eqBool_int ?_))
    by_cases c : i = j
    · subst c
      have ez : ns[i] = z := by rw [List.getElem?_eq_getElem hjl] at hj; exact Option.some.inj hj
      rw [if_pos (by simp [ez])]
      unfold retInt
      refine wpAny_bind (wpAny_bind (wpAny_mkInt (wpAny_pure (wpAny_pure (wpAny_pure (q _ rfl))))))
    · have ne : ¬ ns[i] = z := fun y => hno i (by omega) (by rw [List.getElem?_eq_getElem (by omega), y])
      rw [if_neg (by simpa using ne)]
      exact wpAny_pure (ih (i + 1) (by omega) (by omega))
theorem tindex_body {t : Addr} {us : List Value} {ns : List Int} {z : Int} {tz : Tok} {j : Nat} {Q : Value → Shared → Prop} (hT : s.heap.IsTuple t us.toArray) (hi : IntsAre us ns) (hj : ns[j]? = some z) (hno : ∀ i, i < j → ns[i]? ≠ some z)
    (q : Q (.int j s.toks) { s with toks := s.toks + 1 }) : wpAny (model prog w) A (Builtin.«tuple.index» ⟨[.ref t, .int z tz], []⟩) (fun fin s' => ∃ v, fin = .done (.ret v) ∧ Q v s') E s := by
  obtain ⟨hp, g, d, tk, os⟩ := s
  obtain ⟨⟨cls, dd, data, sl⟩, ho, hc, n, hd⟩ := hT
  simp only at hc hd
  subst hc hd
  unfold Builtin.«tuple.index»
  simp only [Std.Legacy.Range.forIn_eq_forIn_range']
  wp_walk using AutoSeq1.wpAny_loadPart' ho
  have sz : [:min us.toArray.size us.toArray.size].size = us.length := by simp [Std.Legacy.Range.size]
  rw [sz]
  refine tindex_loop (us := us) (ns := ns) (z := z) (tz := tz) (j := j) hi hj hno (fun r er => ?_) us.length 0 (Nat.zero_add _) (Nat.zero_le _)
  subst er
  exact wpAny_pure ⟨_, rfl, q⟩
end
section
variable {X : Cx}
theorem mt_tindex : MtR X "tuple.index" (fun x xs H Q => ∃ (a : Addr) (ns : List Int) (z : Int) (j : Nat), x = .ref a ∧ xs = [.int z] ∧ SqT X.K H a (ns.map V.int) ∧ ns[j]? = some z ∧ (∀ i, i < j → ns[i]? ≠ some z) ∧ Q (.int (j : Int)) H) := by
  intro pins s σ H x xs v us Q I rx rv h
  obtain ⟨a, ns, z, j, rfl, rfl, hq, hj, hno, q⟩ := h
  cases rx
  obtain ⟨u, rfl, ru⟩ := rv.one
  obtain ⟨tz, rfl⟩ := ru
  obtain ⟨its, r, pt, _⟩ := I.tuple hq
  exact wpAny_call_entry PySem.F.slot_tuple_index pt.typeIs PySem.F.entry_tuple_index (tindex_body pt (intsAre_of r) hj hno ⟨.int (j : Int), H, I.tok _, ⟨_, rfl⟩, q⟩) (PySem.F.args_tuple_index_2 _ _)
variable {o e : Expr} {es : List Expr} {to : TE} {t : TA} {name : Str} {apos cpos : Pos} {id : String} {r : V → List V → Hp → VK → Prop}
def tBMT (r : V → List V → Hp → VK → Prop) (to : TE) (t : TA) : TE := fun σ H Q => to σ H fun x H1 => (∃ p xs, x = .ref p ∧ H1 p = some (.tup xs)) ∧ t σ H1 fun xs H2 => r x xs H2 Q
theorem pe_bmT (pa : PlainAttrs "tuple") (slot : Slot "tuple" name id) (hty : typeOf (.builtin id) = pure (.type "method_descriptor")) (hm : MtR X id r) (ho : PE X o to) (ha : PA X (e :: es) t)
    (hbase : attributeBase o name X.env (eval o X.env) = eval o X.env := by rfl)
    (hfew : ((backTo cpos (starEach (e :: es) X.env)).all (fun x => !x.1) && (backToKw cpos (keywordEach [] X.env)).all (fun x => x.1.isSome)
      && decide ((e :: es).length + ([] : List Keyword).length + (if ([] : List Keyword).isEmpty then 0 else 1) < 30)) = true := by rfl)
    (hline : (apos.endLine == cpos.line) = true := by rfl) (hs : starEach (e :: es) X.env = (false, eval e X.env) :: starEach es X.env := by rfl) (hplain : (backTo cpos (starEach es X.env)).any (·.1) = false := by rfl) :
    PE X (.Call (.Attribute o name apos) (e :: es) [] cpos) (tBMT r to t) := by
  intro pins s σ H Q I h
  refine wpAny_Call_method_late hbase hfew hline rfl (thn (ho pins s σ H _ I h) fun v s1 ⟨x, H1, I1, r1, ⟨p, xs, ex, hp⟩, q1⟩ => ?_)
  subst ex
  cases r1
  obtain ⟨_, its, _, pt, ob, h2, h3⟩ := (show ObjOk X.prog X.w H1 s1.heap p (.tup xs) from I1.hok p _ hp)
  refine ⟨"tuple", id, pa, slot, hty, pt.typeIs, fun a ea => by cases ea; exact ⟨ob, h2, h3⟩, ?_⟩
  have hA := ha cpos pins s1 σ H1 _ I1 q1
  rw [hs] at hA ⊢
  refine Calls.callWith_builtin (by show (false || (backTo cpos (starEach es X.env)).any (·.1)) = false; rw [hplain] <;> rfl) (Calls.evalArgs_plain ?_)
  exact thn hA fun us s2 ⟨vs, H2, I2, r2, q2⟩ => hm pins s2 σ H2 (.ref p) vs (.ref p) us Q I2 rfl r2 q2
end
end L2
namespace L2
open PySem PySem.Spec PyProof.Rows
def IteL (K : PySem.W.Frag) (a : Addr) : It :=
  ⟨fun i H => ∃ xs x, SqL K H a xs ∧ xs[i]? = some x, fun i H v H' => ∃ p x, H p = none ∧ v = .ref p ∧ H' = upd H p (.tup [.int i, x]) ∧ ∀ xs, SqL K H a xs → xs[i]? = some x, fun i H => ∃ xs, SqL K H a xs ∧ xs.length ≤ i⟩
theorem turn_enumL {P : Program} {w : World} {K : PySem.W.Frag} {elts : List Expr} {x1} {tp : Pos} {e it a : Addr} (hne : e ≠ it) (hae : a ≠ e) (hai : a ≠ it) :
    Turn P w K (.Tuple elts x1 tp) (IteL K a) [e, it] e (fun i h => (∃ old, IsEnum h e it i old) ∧ h.IsListIter it a i) where
  mem := by simp
  obj := fun i h st b hb => by
    obtain ⟨⟨old, q⟩, ⟨o, e1, c, d⟩⟩ := st
    rcases List.mem_cons.mp hb with z | z
    · subst z; exact ⟨_, q, fun v z => by have z' : Data.fields _ = Data.cell v := z; cases z'⟩
    · have z : b = it := by simpa using z
      subst z; exact ⟨o, e1, fun v z => by rw [d] at z; cases z⟩
  keep := fun i h h' ⟨⟨old, q⟩, r⟩ k => ⟨⟨old, k e (by simp) _ q⟩, r.at fun o z => k it (by simp) o z⟩
  item := by
    intro X hP hw hK hc i pins s σ H E I hf st hg
    subst hP hw hK
    obtain ⟨⟨old, he⟩, hit⟩ := st
    obtain ⟨xs, x, hq, hx⟩ := hg
    obtain ⟨its, rv, p, hz⟩ := I.list hq
    obtain ⟨u, hu, ru⟩ := rv.get hx
    refine wpAny_pyNext_enum_item he hit p.isList (x := u) (by simpa using hu) hne fun h' o1 a1 tp1 sz k1 => ⟨_, rfl, ?_⟩
    refine wpAny_letOwnedTupleGo_enum o1 fun h2 e2 k2 => ?_
    have hT : s.heap.objs.size ≠ e := Nat.ne_of_gt (Heap.lt_size he)
    have kk : ∀ b v, b ∉ [e, it] → s.heap.get? b = some v → h2.get? b = some v := fun b v hb q => by
      have n1 : b ≠ e := fun z => hb (by simp [z])
      have n2 : b ≠ it := fun z => hb (by simp [z])
      exact (k2.2 b n1).trans (k1 b v n1 n2 q)
    have new : ObjOk X.prog X.w (upd H s.heap.objs.size (.tup [.int i, x])) h2 s.heap.objs.size (.tup [.int i, x]) :=
      ⟨by show 2 ≤ sizeLine; decide, [.int i s.toks, u], .cons ⟨_, rfl⟩ (.cons ru .nil), ⟨_, (k2.2 _ hT).trans tp1, rfl, _, rfl⟩, _, (k2.2 _ hT).trans tp1, rfl⟩
    have IL : Inv X pins σ (upd H s.heap.objs.size (.tup [.int i, x])) { s with heap := h2, toks := s.toks + 1 } := I.turnLay (t' := s.toks + 1) (ch := [e, it]) hf kk (Nat.le_refl _) new
    refine ⟨.ref s.heap.objs.size, _, IL, rfl, ⟨_, x, I.hok.fresh (Nat.le_refl _), rfl, rfl, fun ys hy => by rw [I.list_inj hy hq]; exact hx⟩, ⟨⟨u, ?_⟩, a1.at fun o z => (k2.2 it hne.symm).trans z⟩, fun b hb => ?_⟩
    · have e3 : IsEnum h2 e it ((i : Int) + 1) u := e2
      rw [show (((i + 1 : Nat) : Int)) = (i : Int) + 1 by omega]
      exact e3
    · rw [upd_ne (Nat.ne_of_lt ?_)]
      · exact (hf b hb).1
      · rcases List.mem_cons.mp hb with z | z
        · rw [z]; exact Heap.lt_size he
        · have z : b = it := by simpa using z
          obtain ⟨o, q, _⟩ := hit
          rw [z]; exact Heap.lt_size q
  done := by
    intro X hP hw hK hc i pins s σ H E I hf st hg
    subst hP hw hK
    obtain ⟨⟨old, he⟩, hit⟩ := st
    obtain ⟨xs, hq, hx⟩ := hg
    obtain ⟨its, rv, p, hz⟩ := I.list hq
    have hl := rv.length
    refine wpAny_pyNext_enum_end (I.ok.hd hc) he hit p.isList (by simp; omega) fun h' k => ⟨rfl, I.turnMany (t' := s.toks) (ch := [e, it]) hf fun b v hb q => k b v (fun z => hb (by simp [z])) q⟩
  self := fun _ _ _ _ _ ⟨⟨_, q⟩, _⟩ h => wpAny_pyIter_enum q h
section
variable {X : Cx}
def iEnumL (K : PySem.W.Frag) (ta : TA) : TI := fun σ H R => ta σ H fun vs H1 => ∃ a, vs = [.ref a] ∧ (∃ xs, SqL K H1 a xs) ∧ R (IteL K a) H1
theorem pi_enumL {a : Expr} {ta : TA} {p pos tp : Pos} {elts : List Expr} {x1} (hg : Gl X "enumerate") (hm : X.mg "enumerate" = none) (ha : PA X [a] ta) (hs : starEach [a] X.env = [(false, eval a X.env)] := by rfl) :
    PI X (.Tuple elts x1 tp) (.Call (.Name "enumerate" p) [a] [] pos) (iEnumL X.K ta) := by
  intro pins s σ H R I h
  refine Call_ (ld_blt I hg hm boot_enumerate (PyProof.Rows.callWith_type1 (thn (ha pos pins s σ H _ I h) fun us s1 ⟨vs, H1, I1, r1, q1⟩ => ?_) hs rfl))
  obtain ⟨t, e, ⟨xs, hq⟩, q⟩ := q1
  subst e
  cases r1 with
  | cons r rr =>
    cases rr
    cases r
    obtain ⟨its, rv, pt, hz⟩ := I1.list hq
    have tlt : t < s1.heap.objs.size := by obtain ⟨o, ho, _⟩ := pt.isList; exact Heap.lt_size ho
    refine call_enumerate_list pt.isList fun h' he a0 sz k => ?_
    have I2 : Inv X pins σ H1 { s1 with heap := h' } := I1.kept (t' := s1.toks) k
    refine wpAny_pyIter_enum (it := s1.heap.objs.size) (i := 0) (old := .none) he ⟨_, [s1.heap.objs.size + 1, s1.heap.objs.size], _, _, H1, rfl, I2, turn_enumL (a := t) (Nat.ne_of_gt (Nat.lt_succ_self _)) (Nat.ne_of_lt (Nat.lt_succ_of_lt tlt)) (Nat.ne_of_lt tlt), ⟨⟨_, he⟩, a0⟩, fun b hb => ?_, q⟩
    have hb' : s1.heap.objs.size ≤ b := by
      simp only [List.mem_cons, List.not_mem_nil, or_false] at hb
      rcases hb with rfl | rfl
      · exact Nat.le_succ _
      · exact Nat.le_refl _
    exact I1.fpOk hb' (I1.hok.fresh hb')
end
end L2
namespace L2
open PySem PySem.Spec PyProof.Rows
section
variable {X : Cx}
end
end L2
set_option maxRecDepth 100000
namespace PySem
namespace R4
end R4
open PyProof.Rows
section
variable {prog : Program} {w : World} {A : Around} {E : Value → Shared → Prop} {s : Shared}
def Heap.IsRevT (h : Heap) (a t : Addr) (i : Int) : Prop := ∃ o, h.get? a = some o ∧ o.cls = .type "reversed" ∧ o.data = .fields #[.ref t, rawInt i]
theorem Heap.IsRevT.typeIs {a t : Addr} {i : Int} (x : s.heap.IsRevT a t i) : s.TypeIs (.ref a) "reversed" := let ⟨o, ho, hc, _⟩ := x; ⟨o, ho, hc⟩
theorem Heap.IsRevT.at {h h' : Heap} {a t : Addr} {i : Int} (x : h.IsRevT a t i) (e : ∀ o, h.get? a = some o → h'.get? a = some o) : h'.IsRevT a t i := let ⟨o, ho, r⟩ := x; ⟨o, e _ ho, r⟩
end
section
variable {prog : Program} {w : World} {A : Around} {E : Value → Shared → Prop} {s : Shared} {I : Addr} {fp wr : List Addr} {G : Array GenState → Array GenState → Prop} {n : Nat} {P : Nat → Value → Prop} {St : Nat → Shared → Prop}
end
end PySem
namespace L2
open PySem PySem.Spec PyProof.Rows
section
variable {X : Cx}
end
end L2
namespace HT
open PySem PyProof.Rows
section
open PySem.SeqAt
open PySem.AutoSeq1 (wpAny_loadPart')
open PySem.MeetsSeq PySem.MeetsSeq2 PySem.MeetsSeq3
end
section
variable {prog : Program} {w : World} {A : Around} {E : Value → Shared → Prop} {s : Shared}
end
end HT
namespace L2
open PySem PySem.Spec PyProof.Rows
section
variable {X : Cx}
end
def ItrS (lo st : Int) (n : Nat) : It := ⟨fun i _ => i < n, fun i H x H' => H' = H ∧ x = .int (lo + i * st), fun i _ => n ≤ i⟩
theorem turn_rangeS {P : Program} {w : World} {K : PySem.W.Frag} {tg : Expr} (it : Addr) (lo st : Int) (n : Nat) : Turn P w K tg (ItrS lo st n) [it] it (fun i h => IsRangeIter h it (lo + (i : Nat) * st) ((n : Int) - (i : Nat)) st) where
  mem := by simp
  obj := fun i h st b hb => by
    have e : b = it := by simpa using hb
    subst e
    exact ⟨_, st, fun v z => by
      have z' : Data.fields _ = Data.cell v := z
      cases z'⟩
  keep := fun i h h' st k => k it (by simp) _ st
  item := by
    intro X hP hw hK hc i pins s σ H E I hf sti hg
    subst hP hw hK
    obtain ⟨f0, f1, f2, f3, f4, f5⟩ := hf it (by simp)
    have W := Walks.range (prog := X.prog) (w := X.w) (I.ok.hd hc) it lo st n
    refine W.item i s _ _ hg sti fun v h' tk hv st' kk => ?_
    obtain ⟨t, rfl⟩ := hv
    have I1 : Inv X pins σ H { s with heap := h', toks := tk } := I.turned (fun b o hb e => kk b o (by simpa using hb) e) f0 f1 f3 f4 f5
    exact ⟨_, rfl, go_of (s := { s with heap := h', toks := tk }) (n := "range_iterator") st' rfl rfl (by decide) ⟨.int (lo + i * st), H, I1, ⟨t, rfl⟩, ⟨rfl, rfl⟩, st', fun b hb => (hf b hb).1⟩⟩
  done := by
    intro X hP hw hK hc i pins s σ H E I hf st hg
    subst hP hw hK
    obtain ⟨f0, f1, f2, f3, f4, f5⟩ := hf it (by simp)
    exact wpAny_pyNext_range_end (I.ok.hd hc) st (by have : n ≤ i := hg; omega) fun h' eb => ⟨rfl, I.turned (t' := s.toks) (fun b o hb e => eb b o hb e) f0 f1 f3 f4 f5⟩
  self := fun _ _ _ _ _ st h => wpAny_pyIter_rangeiter st h
theorem rangeSize_down (a b : Int) : Builtin.Range.rangeSize a b (-1) = if a > b then a - b else 0 := by
  unfold Builtin.Range.rangeSize
  rw [if_neg (by decide), show -(-1 : Int) = 1 from rfl, Int.ediv_one]
  split <;> omega
theorem small_down {a b : Int} (ha : -(2 ^ 62) ≤ a) (ha' : a < 2 ^ 62) (hb : -(2 ^ 62) ≤ b) (hb' : b < 2 ^ 62) : Builtin.Range.small a b (-1) = true := by
  unfold Builtin.Range.small
  rw [rangeSize_down]
  simp only [Builtin.Range.rangeFitsLong, Bool.and_eq_true, Bool.or_eq_true, decide_eq_true_eq, beq_iff_eq, show ¬ ((-1 : Int) > 0) by decide, if_false]
  split <;> omega
def iRngDown (ta : TA) : TI := fun σ H R => ta σ H fun vs H1 => ∃ (lo hi : Int), vs = [.int lo, .int hi, .int (-1)] ∧ (-(2 ^ 62) ≤ lo ∧ lo < 2 ^ 62 ∧ -(2 ^ 62) ≤ hi ∧ hi < 2 ^ 62) ∧ R (ItrS lo (-1) (lo - hi).toNat) H1
section
variable {X : Cx} {tg : Expr}
theorem pi_rangeDown {a b c : Expr} {ta : TA} {p pos : Pos} (hg : Gl X "range") (hm : X.mg "range" = none) (ha : PA X [a, b, c] ta) (hs : starEach [a, b, c] X.env = [(false, eval a X.env), (false, eval b X.env), (false, eval c X.env)] := by rfl)
    (hs2 : starEach [b, c] X.env = [(false, eval b X.env), (false, eval c X.env)] := by rfl) : PI X tg (.Call (.Name "range" p) [a, b, c] [] pos) (iRngDown ta) := by
  intro pins s σ H R I h
  refine Call_ (ld_blt I hg hm boot_range (PyProof.Rows.callWith_type1 (thn (ha pos pins s σ H _ I h) fun us s1 ⟨vs, H1, I1, r1, q1⟩ => ?_) (by rw [hs, hs2]) (by rw [hs2]; rfl)))
  obtain ⟨lo, hi, e, ⟨q1, q2, q3, q4⟩, q⟩ := q1
  subst e
  cases r1 with
  | cons r rr =>
    cases rr with
    | cons r' rr =>
      cases rr with
      | cons r'' rr =>
        cases rr
        obtain ⟨t, rfl⟩ := r
        obtain ⟨t', rfl⟩ := r'
        obtain ⟨t'', rfl⟩ := r''
        refine call_range_3 (by decide) ?_ (Or.inl (PyProof.noPylong_small (by omega)))
        refine wpAny_pyIter_range (IsRange.new ..) (small_down q1 q2 q3 q4) ?_
        have I2 : Inv X pins σ H1 { s1 with heap := s1.heap.push { cls := .type "range", data := .fields #[.int lo t, .int hi t', .int (-1) t''] }, toks := s1.toks } := I1.kept fun b o e => Heap.get?_push_of_some _ e
        refine ⟨_, [(s1.heap.push { cls := .type "range", data := .fields #[.int lo t, .int hi t', .int (-1) t''] }).objs.size], _, _, H1, rfl, I2.kept (t' := s1.toks) fun b o e => Heap.get?_push_of_some _ e, turn_rangeS _ lo (-1) (lo - hi).toNat, ?_, fun b hb => ?_, q⟩
        · have e1 : lo + ((0 : Nat) : Int) * (-1) = lo := by simp
          have e2 : (((lo - hi).toNat : Nat) : Int) - ((0 : Nat) : Int) = Builtin.Range.rangeSize lo hi (-1) := by rw [rangeSize_down]; omega
          show IsRangeIter _ _ (lo + ((0 : Nat) : Int) * (-1)) ((((lo - hi).toNat : Nat) : Int) - ((0 : Nat) : Int)) (-1)
          rw [e1, e2]
          exact Heap.get?_push_size _ rfl
        · have e : b = (s1.heap.push { cls := .type "range", data := .fields #[.int lo t, .int hi t', .int (-1) t''] }).objs.size := by simpa using hb
          subst e
          exact I2.fpOk (Nat.le_refl _) (I2.hok.fresh (Nat.le_refl _))
end
end L2
namespace L2
open PySem PySem.Spec PyProof.Rows
theorem for_rangeS {lo st : Int} {n : Nat} {g : TG} {tb : TS} {D : Ends} {σ : St} {H : Hp} (Pv : Nat → St → Hp → Prop) (h0 : Pv 0 σ H)
    (hs : ∀ i σ H, i < n → Pv i σ H → g (.int (lo + i * st)) σ H fun σ2 H2 => tb { D with nx := Pv (i + 1), ct := Pv (i + 1), bk := D.nx } σ2 H2) (hd : ∀ σ H, Pv n σ H → D.nx σ H) :
    ∃ W : Nat → Nat → St → Hp → Prop, (∃ m, W 0 m σ H) ∧ ∀ i m σ H, W i m σ H →
      ((ItrS lo st n).stop i H ∧ D.nx σ H) ∨ ((ItrS lo st n).go i H ∧ ∃ N : St → Hp → Prop, (∀ σ' H', N σ' H' → ∃ m', m' < m ∧ W (i + 1) m' σ' H') ∧ ∀ x H', (ItrS lo st n).yld i H x H' → g x σ H' fun σ2 H2 => tb { D with nx := N, ct := N, bk := D.nx } σ2 H2) := by
  refine ⟨fun i m σ H => m = n - i ∧ i ≤ n ∧ Pv i σ H, ⟨n, by simp, Nat.zero_le _, h0⟩, ?_⟩
  rintro i m σ H ⟨rfl, hi, p⟩
  by_cases hlt : i < n
  · refine .inr ⟨hlt, Pv (i + 1), fun σ' H' p' => ⟨n - (i + 1), by omega, rfl, hlt, p'⟩, fun x H' y => ?_⟩
    obtain ⟨e, e2⟩ := y
    subst e e2
    exact hs i σ _ hlt p
  · have e : i = n := by omega
    subst e
    exact .inl ⟨Nat.le_refl _, hd σ H p⟩
end L2
set_option maxRecDepth 100000
set_option maxHeartbeats 2000000
namespace L2
open PySem PySem.Spec PyProof.Rows
section
variable {κ : Type} [DecidableEq κ]
def valV (kvs : List (κ × V)) (k : κ) : Option V := (kvs.find? fun kv => decide (kv.1 = k)).map (·.2)
def putK (kvs : List (κ × V)) (k : κ) (v : V) : List (κ × V) :=
  if (kvs.any fun kv => decide (kv.1 = k)) = true then kvs.map (fun kv => if kv.1 = k then (kv.1, v) else kv) else kvs ++ [(k, v)]
def dropK (kvs : List (κ × V)) (k : κ) : List (κ × V) := kvs.filter fun kv => decide (kv.1 ≠ k)
theorem RelO.getD {o : Option V} {u : Option Value} {d : V} {d' : Value} (r : RelO o u) (rd : RelV d d') : RelV (o.getD d) (u.getD d') := by
  cases o with
  | none => cases u with
    | none => exact rd
    | some _ => exact (show False from r).elim
  | some _ => cases u with
    | none => exact (show False from r).elim
    | some _ => exact r
theorem KV.any {kvs : List (κ × V)} {vs : List (κ × Value)} (r : KV kvs vs) (k : κ) : (kvs.any fun kv => decide (kv.1 = k)) = vs.any fun kv => decide (kv.1 = k) := by
  unfold KV at r
  induction r with
  | nil => rfl
  | cons h t ih => rw [List.any_cons, List.any_cons, ih, h.1]
theorem KV.drop {kvs : List (κ × V)} {vs : List (κ × Value)} (r : KV kvs vs) (k : κ) : KV (dropK kvs k) (without vs k) := by
  unfold KV at r ⊢
  unfold dropK without
  induction r with
  | nil => exact .nil
  | @cons p q ps qs h t ih =>
    obtain ⟨h1, h2⟩ := h
    rw [List.filter_cons, List.filter_cons]
    by_cases e : p.1 = k
    · have a : ¬ decide (p.1 ≠ k) = true := by simp [e]
      have b : ¬ decide (q.1 ≠ k) = true := by simp [h1.symm.trans e]
      rw [if_neg a, if_neg b]; exact ih
    · have e' : ¬ q.1 = k := fun z => e (h1.trans z)
      have a : decide (p.1 ≠ k) = true := by simp [e]
      have b : decide (q.1 ≠ k) = true := by simp [e']
      rw [if_pos a, if_pos b]; exact .cons ⟨h1, h2⟩ ih
theorem KV.keys {kvs : List (κ × V)} {vs : List (κ × Value)} (r : KV kvs vs) : kvs.map (·.1) = vs.map (·.1) := by
  unfold KV at r
  induction r with
  | nil => rfl
  | cons h t ih => rw [List.map_cons, List.map_cons, ih, h.1]
theorem KV.length {kvs : List (κ × V)} {vs : List (κ × Value)} (r : KV kvs vs) : kvs.length = vs.length := Paired.length r
end
abbrev KT (H : Hp) : List (List Key × V) → List (List Key × Addr × Value) → Prop := Paired fun p q => p.1 = q.1 ∧ H q.2.1 = some (.tup (p.1.map kV)) ∧ RelV p.2 q.2.2
theorem KT.keeps {H H' : Hp} {kvs : List (List Key × V)} {xs : List (List Key × Addr × Value)} (r : KT H kvs xs) (ht : ∀ b ys, H b = some (.tup ys) → H' b = some (.tup ys)) : KT H' kvs xs :=
  Paired.mapP r fun _ _ z => ⟨z.1, ht _ _ z.2.1, z.2.2⟩
section
variable {P : Program} {w : World} {H : Hp} {h : Heap} {a : Addr}
end
def DGet (H : Hp) (a : Addr) (y : V) (r : Option V) : Prop :=
  (∃ kvs k, Rd H a (.dK kvs) ∧ y = kV k ∧ r = valV kvs k) ∨ ∃ kvs k b, Rd H a (.dT kvs) ∧ y = .ref b ∧ H b = some (.tup (k.map kV)) ∧ r = valV kvs k
def DPut (H : Hp) (a : Addr) (y v : V) (H' : Hp) : Prop :=
  (∃ kvs k, H a = some (.dK kvs) ∧ y = kV k ∧ kvs.length < sizeLine ∧ H' = upd H a (.dK (putK kvs k v))) ∨
  ∃ kvs k b, H a = some (.dT kvs) ∧ y = .ref b ∧ H b = some (.tup (k.map kV)) ∧ kvs.length < sizeLine ∧ H' = upd H a (.dT (putK kvs k v))
theorem DGet.k {H : Hp} {a : Addr} {kvs : List (Key × V)} {k : Key} (e : H a = some (.dK kvs)) : DGet H a (kV k) (valV kvs k) := .inl ⟨kvs, k, .inl e, rfl, rfl⟩
theorem DGet.t {H : Hp} {a b : Addr} {kvs : List (List Key × V)} {k : List Key} (e : H a = some (.dT kvs)) (eb : H b = some (.tup (k.map kV))) : DGet H a (.ref b) (valV kvs k) := .inr ⟨kvs, k, b, .inl e, rfl, eb, rfl⟩
theorem DPut.k {H : Hp} {a : Addr} {kvs : List (Key × V)} {k : Key} {v : V} (e : H a = some (.dK kvs)) (hl : kvs.length < sizeLine) : DPut H a (kV k) v (upd H a (.dK (putK kvs k v))) := .inl ⟨kvs, k, e, rfl, hl, rfl⟩
theorem DPut.t {H : Hp} {a b : Addr} {kvs : List (List Key × V)} {k : List Key} {v : V} (e : H a = some (.dT kvs)) (eb : H b = some (.tup (k.map kV))) (hl : kvs.length < sizeLine) :
    DPut H a (.ref b) v (upd H a (.dT (putK kvs k v))) := .inr ⟨kvs, k, b, e, rfl, eb, hl, rfl⟩
section
variable {X : Cx} {pins : List (Addr × Obj)} {σ : St} {H : Hp} {s : Shared} {a : Addr} {y v : V} {u r : Value} {o : Option V} {A : Around} {E : Value → Shared → Prop}
end
section
variable {X : Cx} {pins : List (Addr × Obj)} {σ : St} {H : Hp} {s : Shared} {a : Addr} {kvs : List (Key × V)} {k : Key} {u : Value} {A : Around} {E : Value → Shared → Prop}
end
section
variable {X : Cx} {o i e value : Expr} {pos pos' tpos : Pos} {td ty tv : TE}
end
section
variable {X : Cx} {pos : Pos}
end
structure M1 (X : Cx) (o : Expr) (m : Str) (apos : Pos) (e : Expr) (cpos : Pos) : Prop where
  base : attributeBase o m X.env (eval o X.env) = eval o X.env
  few : ((backTo cpos (starEach [e] X.env)).all (fun x => !x.1) && (backToKw cpos (keywordEach [] X.env)).all (fun x => x.1.isSome)
    && decide (([e] : List Expr).length + ([] : List Keyword).length + (if ([] : List Keyword).isEmpty then 0 else 1) < 30)) = true
  line : (apos.endLine == cpos.line) = true
  trees : backTo cpos (starEach [e] X.env) = [(false, eval e X.env)]
structure M2 (X : Cx) (o : Expr) (m : Str) (apos : Pos) (e f : Expr) (cpos : Pos) : Prop where
  base : attributeBase o m X.env (eval o X.env) = eval o X.env
  few : ((backTo cpos (starEach [e, f] X.env)).all (fun x => !x.1) && (backToKw cpos (keywordEach [] X.env)).all (fun x => x.1.isSome)
    && decide (([e, f] : List Expr).length + ([] : List Keyword).length + (if ([] : List Keyword).isEmpty then 0 else 1) < 30)) = true
  line : (apos.endLine == cpos.line) = true
  trees : backTo cpos (starEach [e, f] X.env) = [(false, eval e X.env), (false, eval f X.env)]
section
variable {X : Cx} {pins : List (Addr × Obj)} {σ : St} {H : Hp} {s : Shared} {a : Addr} {y d : V} {u r : Value} {o : Option V} {A : Around} {E : Value → Shared → Prop}
end
section
variable {X : Cx} {o e f : Expr} {apos cpos : Pos} {td ty tx : TE}
end
section
variable {X : Cx} {pins : List (Addr × Obj)} {σ : St} {H : Hp} {s : Shared} {a : Addr} {kvs : List (Key × V)} {A : Around} {E : Value → Shared → Prop}
end
section
variable {X : Cx} {pins : List (Addr × Obj)} {σ : St} {H : Hp} {s : Shared} {a : Addr} {y : V} {u : Value} {A : Around} {E : Value → Shared → Prop}
end
end L2
namespace L2
open PySem PySem.Spec PyProof.Rows
section
variable {X : Cx}
end
section
variable {κ : Type} [DecidableEq κ]
end
end L2
namespace L2
open PySem PySem.Spec PyProof.Rows
section
variable {X : Cx}
theorem vals_of : ∀ {xs : List V} {us : List Value}, xs.length = us.length → (∀ (i : Nat) x u, xs[i]? = some x → us[i]? = some u → RelV x u) → Vals xs us
  | [], [], _, _ => .nil
  | [], _ :: _, h, _ => by simp at h
  | _ :: _, [], h, _ => by simp at h
  | x :: xs, u :: us, h, f => .cons (f 0 x u rfl rfl) (vals_of (by simpa using h) fun i y v hy hv => f (i + 1) y v (by simpa using hy) (by simpa using hv))
def tListRange (ta : TA) : TE := fun σ H Q => ta σ H fun vs H1 => ∃ n : Nat, vs = [.int (n : Int)] ∧ n ≤ 1000000 ∧ ∀ p, H1 p = none → Q (.ref p) (upd H1 p (.lst ((List.range n).map fun (j : Nat) => V.int (j : Int))))
theorem pe_listRange {a : Expr} {ta : TA} {p pos p2 pos2 : Pos} (hc : X.calm = true) (hg : Gl X "list") (hm : X.mg "list" = none) (hg2 : Gl X "range") (hm2 : X.mg "range" = none) (ha : PA X [a] ta) (hs : starEach [a] X.env = [(false, eval a X.env)] := by rfl)
    (hs2 : starEach [.Call (.Name "range" p2) [a] [] pos2] X.env = [(false, eval (.Call (.Name "range" p2) [a] [] pos2) X.env)] := by rfl) : PE X (.Call (.Name "list" p) [.Call (.Name "range" p2) [a] [] pos2] [] pos) (tListRange ta) := by
  intro pins s σ H Q I h
  refine Call_ (ld_blt I hg hm L3.bt_list (PyProof.Rows.callWith_type1 ?_ hs2 rfl))
  rw [hs2]
  show wpAny _ _ (spliced ((false, eval (.Call (.Name "range" p2) [a] [] pos2) X.env) :: backTo pos [])) _ _ s
  refine Calls.spliced_cons ?_
  refine Call_ (ld_blt I hg2 hm2 boot_range (PyProof.Rows.callWith_type1 (thn (ha pos2 pins s σ H _ I h) fun us s1 ⟨vs, H1, I1, r1, q1⟩ => ?_) hs rfl))
  obtain ⟨n, e, hn, q⟩ := q1
  subst e
  obtain ⟨u, rfl, t, rfl⟩ := vals1 r1
  refine call_range_1 ?_
  refine Calls.spliced_nil ?_
  have hsz : Builtin.Range.rangeSize 0 (n : Int) 1 = (n : Nat) := by rw [rangeSize_one]; split <;> omega
  refine call_list_range (n := n) (I.ok.hd hc) (IsRange.new ..) (small_one (by omega) (by omega) (by omega) (by omega)) hsz (by omega) fun h' tk acc c' kp e hacc => ?_
  have I2 : Inv X pins σ H1 { s1 with heap := s1.heap.push { cls := .type "range", data := .fields #[.int 0 (s1.toks), .int (n : Int) t, .int 1 (s1.toks + 1)] }, toks := s1.toks + 1 + 1 } := I1.kept fun b o e => Heap.get?_push_of_some _ e
  refine ⟨.ref _, _, I2.laid (t' := tk) (o := .lst ((List.range n).map fun (j : Nat) => V.int (j : Int))) kp (Nat.le_refl _) ?_, rfl, q _ (I2.hok.fresh (Nat.le_refl _))⟩
  refine ⟨by rw [List.length_map, List.length_range]; exact Nat.le_trans hn (by decide), acc.toList, c', ?_, by rw [Array.toArray_toList]; exact e⟩
  refine vals_of (by rw [List.length_map, List.length_range, Array.length_toList, hacc.1]) fun i x u hx hu => ?_
  rw [Array.getElem?_toList] at hu
  obtain ⟨t2, rfl⟩ := hacc.2 i u hu
  rw [List.getElem?_map] at hx
  have hi : i < n := by
    rw [← hacc.1]
    exact (Array.getElem?_eq_some_iff.mp hu).1
  rw [List.getElem?_eq_getElem (by rw [List.length_range]; exact hi), List.getElem_range] at hx
  cases hx
  exact ⟨t2, by rw [Int.zero_add, Int.mul_one]⟩
end
end L2
namespace L2
open PySem
end L2
namespace L3
open PySem
open Sem (wp)
abbrev IsZipF (h : Heap) (z TI TO : Addr) (f0 : Value) (f : Bool) : Prop :=
  h.get? z = some { cls := .type "zip", dict := none, data := .fields #[f0, .bool f, .bool false, .ref TI, .ref TO], slots := #[] }
structure ZipOut (z TI TO i1 i2 t1 t2 : Addr) (xs ys : Array Value) (i : Nat) (a : Addr) (f : Bool) (h : Heap) : Prop where
  hz : IsZipF h z TI TO (rawInt a) f
  hTI : IsPair h TI (.ref i1) (.ref i2)
  one : AtT i1 t1 xs i h
  two : AtT i2 t2 ys i h
  al : ∃ o, h.get? a = some o
  az : a ≠ z
  a1 : a ≠ i1
  a2 : a ≠ i2
  lt : TO < h.objs.size
section
variable {prog : Program} {w : World} {A : Around} {E : Value → Shared → Prop} {s : Shared}
end
end L3
namespace L3
open PySem
def ZSt (z TI TO i1 i2 t1 t2 : Addr) (xs ys : Array Value) (S : Addr) (i : Nat) (h : Heap) : Prop :=
  (i = 0 ∧ ZipAt z TI TO i1 i2 t1 t2 xs ys 0 .none h) ∨ ∃ a f, ZipOut z TI TO i1 i2 t1 t2 xs ys i a f h ∧ a ≠ S
theorem ZSt.keep {z TI TO i1 i2 t1 t2 S : Addr} {xs ys : Array Value} {i : Nat} {h h' : Heap} (Z : ZSt z TI TO i1 i2 t1 t2 xs ys S i h) (nS : ∀ b ∈ [z, TI, TO, i1, i2, t1, t2], b ≠ S) (k : ∀ b o, b ≠ S → h.get? b = some o → h'.get? b = some o) (ks : h'.objs.size = h.objs.size) : ZSt z TI TO i1 i2 t1 t2 xs ys S i h' := by
  rcases Z with ⟨e, Z⟩ | ⟨a, f, Z, ha⟩
  · exact .inl ⟨e, Z.keeps (fun b hb o q => k b o (nS b (by simp only [List.mem_cons, List.not_mem_nil, or_false] at hb ⊢; rcases hb with h | h | h | h | h <;> simp [h])) q) (fun o q => k _ o (nS _ (by simp)) q) (fun o q => k _ o (nS _ (by simp)) q)⟩
  · obtain ⟨hz, hTI, h1, h2, ⟨o, al⟩, az, a1, a2, lt⟩ := Z
    exact .inr ⟨a, f, ⟨k _ _ (nS _ (by simp)) hz, k _ _ (nS _ (by simp)) hTI, h1.keeps (fun o q => k _ o (nS _ (by simp)) q) (fun o q => k _ o (nS _ (by simp)) q), h2.keeps (fun o q => k _ o (nS _ (by simp)) q) (fun o q => k _ o (nS _ (by simp)) q), ⟨o, k _ _ ha al⟩, az, a1, a2, by rw [ks]; exact lt⟩, ha⟩
section
variable {prog : Program} {w : World} {A : Around} {E : Value → Shared → Prop} {s : Shared}
end
end L3
namespace L2
open PySem PySem.Spec PyProof.Rows
end L2
namespace L2
open PySem PySem.Spec PyProof.Rows
end L2
namespace L2
open PySem PySem.Spec PyProof.Rows
section
variable {X : Cx} {tg : Expr}
end
end L2
namespace L2
open PySem PySem.Spec PyProof.Rows
abbrev tJoin (t : TS) : TS := fun D σ H => ∃ J : St → Hp → Prop, (∀ σ' H', J σ' H' → D.nx σ' H') ∧ t { D with nx := J } σ H
theorem ps_joinN {X : Cx} {st : Stmt} {t : TS} (h : PS X st t) : PS X st (tJoin t) := ps_join h
end L2
namespace L2
open PySem PySem.Spec PyProof.Rows
section
variable {X : Cx}
end
end L2
namespace L2
open PySem PySem.Spec PyProof.Rows
end L2
namespace L2
open PySem PySem.Spec PyProof.Rows
section
variable {X : Cx}
end
end L2
namespace L2
open PySem PySem.Spec PyProof.Rows
end L2
namespace L2
open PySem PySem.Spec PyProof.Rows
theorem comp_of {J : It} {n : Nat} {g : TG} {tt : TT} {te : TE} {σ : St} {H : Hp} {Q : VK} (Pv : Nat → List V → St → Hp → Prop) (h0 : Pv 0 [] σ H) (hl : ∀ i acc σ H, i ≤ n → Pv i acc σ H → acc.length ≤ 1000000)
    (hgo : ∀ i acc σ H, i < n → Pv i acc σ H → J.go i H) (hstop : ∀ acc σ H, Pv n acc σ H → J.stop n H)
    (hs : ∀ i acc σ H, i < n → Pv i acc σ H → ∀ x H2, J.yld i H x H2 → g x σ H2 fun σ2 H3 => tt σ2 H3 fun b H4 => if b = true then te σ2 H4 fun y H5 => Pv (i + 1) (acc ++ [y]) σ2 H5 else Pv (i + 1) acc σ2 H4)
    (hd : ∀ acc σ H D, Pv n acc σ H → H D = none → Q (.ref D) (upd H D (.lst acc))) : compW J g tt te σ H Q := by
  refine ⟨fun i m acc σ H => m = n - i ∧ i ≤ n ∧ Pv i acc σ H, ⟨n, by simp, Nat.zero_le _, h0⟩, ?_⟩
  rintro i m acc σ H ⟨rfl, hi, p⟩
  have hz := hl i acc σ H hi p
  by_cases hlt : i < n
  · exact .inr ⟨hgo i acc σ H hlt p, smallL hz, Pv (i + 1), fun acc' σ' H' p' => ⟨n - (i + 1), by omega, rfl, hlt, p'⟩, hs i acc σ H hlt p⟩
  · have e : i = n := by omega
    subst e
    exact .inl ⟨hstop acc σ H p, small hz, fun D fD => hd acc σ H D p fD⟩
theorem comp_range {lo : Int} {n : Nat} {g : TG} {tt : TT} {te : TE} {σ : St} {H : Hp} {Q : VK} (Pv : Nat → List V → St → Hp → Prop) (h0 : Pv 0 [] σ H) (hl : ∀ i acc σ H, i ≤ n → Pv i acc σ H → acc.length ≤ 1000000)
    (hs : ∀ i acc σ H, i < n → Pv i acc σ H → g (.int (lo + i)) σ H fun σ2 H3 => tt σ2 H3 fun b H4 => if b = true then te σ2 H4 fun y H5 => Pv (i + 1) (acc ++ [y]) σ2 H5 else Pv (i + 1) acc σ2 H4)
    (hd : ∀ acc σ H D, Pv n acc σ H → H D = none → Q (.ref D) (upd H D (.lst acc))) : compW (Itr lo n) g tt te σ H Q :=
  comp_of Pv h0 hl (fun i acc σ H h _ => h) (fun acc σ H _ => Nat.le_refl _) (fun i acc σ H h p x H2 y => by
    obtain ⟨e, y⟩ := y
    subst e y
    exact hs i acc σ _ h p) hd
theorem comp_tup {K : PySem.W.Frag} {a : Addr} {xs : List V} {g : TG} {tt : TT} {te : TE} {σ : St} {H : Hp} {Q : VK} (Pv : Nat → List V → St → Hp → Prop) (h0 : Pv 0 [] σ H) (hl : ∀ i acc σ H, i ≤ xs.length → Pv i acc σ H → acc.length ≤ 1000000)
    (ha : ∀ i acc σ H, i ≤ xs.length → Pv i acc σ H → SqT K H a xs)
    (hs : ∀ i x acc σ H, xs[i]? = some x → Pv i acc σ H → g x σ H fun σ2 H3 => tt σ2 H3 fun b H4 => if b = true then te σ2 H4 fun y H5 => Pv (i + 1) (acc ++ [y]) σ2 H5 else Pv (i + 1) acc σ2 H4)
    (hd : ∀ acc σ H D, Pv xs.length acc σ H → H D = none → Q (.ref D) (upd H D (.lst acc))) : compW (Itt K a) g tt te σ H Q :=
  comp_of Pv h0 hl (fun i acc σ H h p => ⟨xs, xs[i], ha i acc σ H (Nat.le_of_lt h) p, List.getElem?_eq_getElem h⟩) (fun acc σ H p => ⟨xs, ha _ acc σ H (Nat.le_refl _) p, Nat.le_refl _⟩) (fun i acc σ H h p x H2 y => by
    obtain ⟨e, y⟩ := y
    subst e
    exact hs i x acc σ _ (y xs (ha i acc σ _ (Nat.le_of_lt h) p)) p) hd
theorem comp_list {K : PySem.W.Frag} {a : Addr} {xs : List V} {g : TG} {tt : TT} {te : TE} {σ : St} {H : Hp} {Q : VK} (Pv : Nat → List V → St → Hp → Prop) (h0 : Pv 0 [] σ H) (hl : ∀ i acc σ H, i ≤ xs.length → Pv i acc σ H → acc.length ≤ 1000000)
    (ha : ∀ i acc σ H, i ≤ xs.length → Pv i acc σ H → SqL K H a xs)
    (hs : ∀ i x acc σ H, xs[i]? = some x → Pv i acc σ H → g x σ H fun σ2 H3 => tt σ2 H3 fun b H4 => if b = true then te σ2 H4 fun y H5 => Pv (i + 1) (acc ++ [y]) σ2 H5 else Pv (i + 1) acc σ2 H4)
    (hd : ∀ acc σ H D, Pv xs.length acc σ H → H D = none → Q (.ref D) (upd H D (.lst acc))) : compW (Itl K a) g tt te σ H Q :=
  comp_of Pv h0 hl (fun i acc σ H h p => ⟨xs, xs[i], ha i acc σ H (Nat.le_of_lt h) p, List.getElem?_eq_getElem h⟩) (fun acc σ H p => ⟨xs, ha _ acc σ H (Nat.le_refl _) p, Nat.le_refl _⟩) (fun i acc σ H h p x H2 y => by
    obtain ⟨e, y⟩ := y
    subst e
    exact hs i x acc σ _ (y xs (ha i acc σ _ (Nat.le_of_lt h) p)) p) hd
theorem comp_enum {K : PySem.W.Frag} {a : Addr} {xs : List V} {g : TG} {tt : TT} {te : TE} {σ : St} {H : Hp} {Q : VK} (Pv : Nat → List V → St → Hp → Prop) (h0 : Pv 0 [] σ H) (hl : ∀ i acc σ H, i ≤ xs.length → Pv i acc σ H → acc.length ≤ 1000000)
    (ha : ∀ i acc σ H, i ≤ xs.length → Pv i acc σ H → SqT K H a xs)
    (hs : ∀ i x acc σ H p, xs[i]? = some x → Pv i acc σ H → H p = none → g (.ref p) σ (upd H p (.tup [.int i, x])) fun σ2 H3 => tt σ2 H3 fun b H4 => if b = true then te σ2 H4 fun y H5 => Pv (i + 1) (acc ++ [y]) σ2 H5 else Pv (i + 1) acc σ2 H4)
    (hd : ∀ acc σ H D, Pv xs.length acc σ H → H D = none → Q (.ref D) (upd H D (.lst acc))) : compW (Ite K a) g tt te σ H Q :=
  comp_of Pv h0 hl (fun i acc σ H h p => ⟨xs, xs[i], ha i acc σ H (Nat.le_of_lt h) p, List.getElem?_eq_getElem h⟩) (fun acc σ H p => ⟨xs, ha _ acc σ H (Nat.le_refl _) p, Nat.le_refl _⟩) (fun i acc σ H h p x H2 y => by
    obtain ⟨q, z, fq, rfl, rfl, y⟩ := y
    exact hs i z acc σ _ q (y xs (ha i acc σ _ (Nat.le_of_lt h) p)) p fq) hd
theorem for_of {J : It} {n : Nat} {g : TG} {tb : TS} {D : Ends} {σ : St} {H : Hp} (Pv : Nat → St → Hp → Prop) (h0 : Pv 0 σ H) (hgo : ∀ i σ H, i < n → Pv i σ H → J.go i H) (hstop : ∀ σ H, Pv n σ H → J.stop n H)
    (hs : ∀ i σ H, i < n → Pv i σ H → ∀ x H2, J.yld i H x H2 → g x σ H2 fun σ2 H3 => tb { D with nx := Pv (i + 1), ct := Pv (i + 1), bk := D.nx } σ2 H3) (hd : ∀ σ H, Pv n σ H → D.nx σ H) :
    ∃ W : Nat → Nat → St → Hp → Prop, (∃ m, W 0 m σ H) ∧ ∀ i m σ H, W i m σ H →
      (J.stop i H ∧ D.nx σ H) ∨ (J.go i H ∧ ∃ N : St → Hp → Prop, (∀ σ' H', N σ' H' → ∃ m', m' < m ∧ W (i + 1) m' σ' H') ∧ ∀ x H', J.yld i H x H' → g x σ H' fun σ2 H2 => tb { D with nx := N, ct := N, bk := D.nx } σ2 H2) := by
  refine ⟨fun i m σ H => m = n - i ∧ i ≤ n ∧ Pv i σ H, ⟨n, by simp, Nat.zero_le _, h0⟩, ?_⟩
  rintro i m σ H ⟨rfl, hi, p⟩
  by_cases hlt : i < n
  · exact .inr ⟨hgo i σ H hlt p, Pv (i + 1), fun σ' H' p' => ⟨n - (i + 1), by omega, rfl, hlt, p'⟩, hs i σ H hlt p⟩
  · have e : i = n := by omega
    subst e
    exact .inl ⟨hstop σ H p, hd σ H p⟩
end L2
namespace L2
open PySem PySem.Spec PyProof.Rows
def Fit (n : Nat) : Prop := ∃ k, k ≤ 8000 ∧ n < 2 ^ k
theorem Fit.le {m n : Nat} (h : Fit n) (l : m ≤ n) : Fit m := by
  obtain ⟨k, h1, h2⟩ := h
  exact ⟨k, h1, Nat.lt_of_le_of_lt l h2⟩
theorem Fit.of {n : Nat} (h : n < 18446744073709551616) : Fit n := ⟨64, by decide, h⟩
theorem Fit.bits {i : Int} (h : Fit i.natAbs) : Builtin.Int.intBits i ≤ 2 ^ 20 := by
  obtain ⟨k, h1, h2⟩ := h
  refine Nat.le_trans (PyProof.Rows.intBits_le h2) (Nat.le_trans h1 ?_)
  decide
section
variable {X : Cx}
end
end L2
namespace PySem
open PySem.W PyProof.Rows
section
variable {prog : Program} {w : World} {A : Around} {E : Value → Shared → Prop} {s : Shared} {T : String} {r d : Addr} {n : Nat} {P : Nat → Value → Prop} {OK : Heap → Prop}
end
end PySem
namespace L2
open PySem PySem.Spec PyProof.Rows PySem.W
section
variable {X : Cx}
end
end L2
namespace L2
open PySem PySem.Spec PyProof.Rows
section
variable {X : Cx}
def rLIndex : V → List V → Hp → VK → Prop := fun x vs H Q => ∃ (l : Addr) (xs : List V) (y : V) (j : Nat) (z : V), x = .ref l ∧ vs = [y] ∧ H l = some (.lst xs) ∧ flatV y = true ∧ xs.all flatV = true ∧ xs[j]? = some z ∧ eqV z y = true ∧ (∀ i z', i < j → xs[i]? = some z' → eqV z' y = false) ∧ Q (.int (j : Int)) H
theorem mt_lindex : MtR X "list.index" rLIndex := by
  intro pins s σ H x vs v us Q I rx rv h
  obtain ⟨l, xs, y, j, z, rfl, rfl, hH, fy, fs, hj, hz, hno, q⟩ := h
  cases rx
  obtain ⟨u, rfl, ru⟩ := rv.one
  obtain ⟨zz, its, n, r, hl, e⟩ := I.lstM hH
  have hjx : j < xs.length := (List.getElem?_eq_some_iff.mp hj).1
  have hji : j < its.toArray.size := by rw [List.size_toArray, ← hl]; exact hjx
  have hflat : ∀ {i : Nat} {a : V}, xs[i]? = some a → flatV a = true := fun {i a} h => List.all_eq_true.mp fs a (List.mem_of_getElem? h)
  have key : ∀ {i : Nat} (hi : i < its.toArray.size) {a : V}, xs[i]? = some a → eqU y its.toArray[i] = eqV a y := fun {i} hi {a} h => by
    obtain ⟨w, hw, rw'⟩ := r.get h
    have : its.toArray[i] = w := by
      have h1 : its[i]? = some w := hw
      rw [List.getElem?_eq_getElem (by simpa using hi)] at h1
      simpa using Option.some.inj h1
    rw [this]
    exact eqU_of rw' (hflat h)
  refine call_meets F.slot_list_index ⟨_, e, rfl⟩ F.entry_list_index (F.args_list_index_2 _ _) (SeqAt.list_indexAt l its.toArray n none #[] u (eqU y) j hji ?_ ?_ ?_) ⟨e, fun w hw => mem_eqAt ru fy r fs w (by simpa using hw), ?_⟩
  · have : xs.length ≤ 16777216 := by rw [← sizeLine_eq]; exact zz
    omega
  · rw [key hji hj]
    exact hz
  · intro m hm hmj
    have hmx : m < xs.length := by omega
    rw [key hm (List.getElem?_eq_getElem hmx)]
    exact hno m _ hmj (List.getElem?_eq_getElem hmx)
  · exact ⟨.int (j : Int), H, I.tok _, ⟨_, rfl⟩, q⟩
end
end L2
namespace L2
open PySem PySem.Spec PyProof.Rows
theorem vals_of_ints : ∀ {us : List Value} {ns : List Int}, IntsAre us ns → Vals (ns.map V.int) us
  | _, _, .nil => .nil
  | _, _, .cons n t h => .cons ⟨t, rfl⟩ (vals_of_ints h)
theorem call_sorted {X : Cx} : CallR X (.builtin "sorted") (fun xs H Q => ∃ (p : Addr) (ns : List Int), xs = [.ref p] ∧ H p = some (.lst (ns.map V.int)) ∧ ns.length < 64 ∧ ∀ (l : Addr) (ns' : List Int), H l = none → ns'.Perm ns → ns'.Pairwise (· ≤ ·) → Q (.ref l) (upd H l (.lst (ns'.map V.int)))) := by
  intro pins s σ H xs us Q I r h
  obtain ⟨p, ns, rfl, hp, h64, q⟩ := h
  obtain ⟨u, rfl, rx⟩ := vals1 r
  cases rx
  obtain ⟨its, n, r', ho, hz⟩ := I.lst hp
  have hI := intsAre_of r'
  have hlen := r'.length
  rw [List.length_map] at hlen
  refine sorted_ints (l := p) (vs := its) (ns := ns) ⟨_, ho, rfl, n, rfl⟩ hI (by omega) fun out ns' i1 p1 s1 => ?_
  obtain ⟨e, he⟩ := sortedAll_at s.heap its out
  have hl' := p1.length_eq
  refine ⟨.ref (s.heap.objs.size + 1), _, I.laid (t' := s.toks) (fun b o x => sortedAll_old x) (Nat.le_succ _) (show ObjOk X.prog X.w _ _ _ (.lst (ns'.map V.int)) from ⟨?_, out.toList, e, vals_of_ints i1, ?_⟩), rfl, q _ ns' (I.hok.fresh (Nat.le_succ _)) p1 s1⟩
  · rw [List.length_map, hl']
    exact Nat.le_trans (Nat.le_of_lt h64) (by decide)
  · rw [Array.toArray_toList]
    exact he
end L2
namespace L2
open PySem PySem.Spec PyProof.Rows
section
variable {X : Cx}
def tListRange2 (ta : TA) : TE := fun σ H Q => ta σ H fun vs H1 => ∃ m n : Nat, vs = [.int (m : Int), .int (n : Int)] ∧ m ≤ 1000000 ∧ n ≤ 1000000 ∧ ∀ p, H1 p = none → Q (.ref p) (upd H1 p (.lst ((List.range (n - m)).map fun (j : Nat) => V.int ((m + j : Nat) : Int))))
theorem pe_listRange2 {a b : Expr} {ta : TA} {p pos p2 pos2 : Pos} (hc : X.calm = true) (hg : Gl X "list") (hm : X.mg "list" = none) (hg2 : Gl X "range") (hm2 : X.mg "range" = none) (ha : PA X [a, b] ta) (hs : starEach [a, b] X.env = [(false, eval a X.env), (false, eval b X.env)] := by rfl) (hs1 : starEach [b] X.env = [(false, eval b X.env)] := by rfl)
    (hs2 : starEach [.Call (.Name "range" p2) [a, b] [] pos2] X.env = [(false, eval (.Call (.Name "range" p2) [a, b] [] pos2) X.env)] := by rfl) : PE X (.Call (.Name "list" p) [.Call (.Name "range" p2) [a, b] [] pos2] [] pos) (tListRange2 ta) := by
  intro pins s σ H Q I h
  refine Call_ (ld_blt I hg hm L3.bt_list (PyProof.Rows.callWith_type1 ?_ hs2 rfl))
  rw [hs2]
  show wpAny _ _ (spliced ((false, eval (.Call (.Name "range" p2) [a, b] [] pos2) X.env) :: backTo pos [])) _ _ s
  refine Calls.spliced_cons ?_
  refine Call_ (ld_blt I hg2 hm2 boot_range (PyProof.Rows.callWith_type1 (thn (ha pos2 pins s σ H _ I h) fun us s1 ⟨vs, H1, I1, r1, q1⟩ => ?_) (by rw [hs, hs1]) (by rw [hs1]; rfl)))
  obtain ⟨m, n, e, hm', hn, q⟩ := q1
  subst e
  obtain ⟨u, u', rfl, ⟨t, rfl⟩, t', rfl⟩ := vals2 r1
  refine call_range_2 ?_
  refine Calls.spliced_nil ?_
  have hsz : Builtin.Range.rangeSize (m : Int) (n : Int) 1 = ((n - m : Nat) : Nat) := by rw [rangeSize_one]; split <;> omega
  refine call_list_range (n := n - m) (I.ok.hd hc) (IsRange.new ..) (small_one (by omega) (by omega) (by omega) (by omega)) hsz (by omega) fun h' tk acc c' kp e hacc => ?_
  have I2 : Inv X pins σ H1 { s1 with heap := s1.heap.push { cls := .type "range", data := .fields #[.int (m : Int) t, .int (n : Int) t', .int 1 (s1.toks)] }, toks := s1.toks + 1 } := I1.kept fun b o e => Heap.get?_push_of_some _ e
  refine ⟨.ref _, _, I2.laid (t' := tk) (o := .lst ((List.range (n - m)).map fun (j : Nat) => V.int ((m + j : Nat) : Int))) kp (Nat.le_refl _) ?_, rfl, q _ (I2.hok.fresh (Nat.le_refl _))⟩
  refine ⟨by rw [List.length_map, List.length_range]; exact Nat.le_trans (show n - m ≤ 1000000 by omega) (by decide), acc.toList, c', ?_, by rw [Array.toArray_toList]; exact e⟩
  refine vals_of (by rw [List.length_map, List.length_range, Array.length_toList, hacc.1]) fun i x u hx hu => ?_
  rw [Array.getElem?_toList] at hu
  obtain ⟨t2, rfl⟩ := hacc.2 i u hu
  rw [List.getElem?_map] at hx
  have hi : i < n - m := by
    rw [← hacc.1]
    exact (Array.getElem?_eq_some_iff.mp hu).1
  rw [List.getElem?_eq_getElem (by rw [List.length_range]; exact hi), List.getElem_range] at hx
  cases hx
  exact ⟨t2, by rw [Int.mul_one, Int.natCast_add]⟩
end
end L2
namespace L2
open PySem PySem.Spec PyProof.Rows
end L2
set_option maxHeartbeats 4000000
namespace Lw
open PySem L2
def vop : Option Nat → V
  | none => .non
  | some j => .int (j : Int)
def vab (ab : List (Option Nat)) : List V := ab.map vop
def okAb (ab : List (Option Nat)) : Prop := ∀ (i j : Nat), ab[i]? = some (some j) → j < i
def isUp (ab : List (Option Nat)) (i j : Nat) : Bool := ab[j]? == some (some i)
def kids (ab : List (Option Nat)) (i : Nat) : List Nat := (List.range ab.length).filter (isUp ab i)
def szL (ab : List (Option Nat)) : Nat → List Nat
  | 0 => List.replicate ab.length 1
  | k + 1 => match ab.getD (ab.length - 1 - k) none with
    | none => szL ab k
    | some u => (szL ab k).set u ((szL ab k).getD u 0 + (szL ab k).getD (ab.length - 1 - k) 0)
def szP (ab : List (Option Nat)) : List Nat := szL ab ab.length
def szA (ab : List (Option Nat)) (i : Nat) : Nat := (szP ab).getD i 0
theorem szL_len (ab : List (Option Nat)) : ∀ k, (szL ab k).length = ab.length
  | 0 => List.length_replicate
  | k + 1 => by
    unfold szL
    split
    · exact szL_len ab k
    · rw [List.length_set]
      exact szL_len ab k
def allAb : Nat → List (List (Option Nat))
  | 0 => [[]]
  | n + 1 => (allAb n).flatMap fun ab => (none :: (List.range n).map some).map fun x => ab ++ [x]
theorem mem_allAb : ∀ (n : Nat) (ab : List (Option Nat)), ab.length = n → okAb ab → ab ∈ allAb n
  | 0, ab, h, _ => by
    rw [List.length_eq_zero_iff.mp h]
    exact List.mem_singleton.mpr rfl
  | n + 1, ab, h, ok => by
    have hne : ab ≠ [] := fun e => by rw [e] at h; cases h
    rw [← List.dropLast_concat_getLast hne]
    have hl : ab.dropLast.length = n := by rw [List.length_dropLast]; omega
    have ok' : okAb ab.dropLast := fun i j e => by
      have hi : i < ab.dropLast.length := (List.getElem?_eq_some_iff.mp e).1
      refine ok i j ?_
      rw [← e, List.getElem?_dropLast, if_pos (by omega)]
    refine List.mem_flatMap.mpr ⟨ab.dropLast, mem_allAb n _ hl ok', List.mem_map.mpr ⟨_, ?_, rfl⟩⟩
    cases e : ab.getLast hne with
    | none => exact List.mem_cons_self
    | some j =>
      refine List.mem_cons_of_mem _ (List.mem_map.mpr ⟨j, List.mem_range.mpr ?_, rfl⟩)
      have := ok n j (by
        rw [← e, List.getLast_eq_getElem, List.getElem?_eq_getElem (by omega)]
        congr 2
        omega)
      exact this
def szOk (ab : List (Option Nat)) : Bool :=
  let s := szP ab
  ((List.range ab.length).all fun i => s.getD i 0 == 1 + ((kids ab i).map fun j => s.getD j 0).sum) && (((List.range ab.length).filter fun i => ab.getD i none == none).map fun j => s.getD j 0).sum == ab.length
def dr7 : Nat → List (List (Option Nat)) → List (List (Option Nat))
  | 0, l => l
  | i + 1, l => (dr7 i l).drop 720
theorem all_split {α : Type} {p : α → Bool} {l : List α} (k : Nat) (h1 : (l.take k).all p = true) (h2 : (l.drop k).all p = true) : l.all p = true := by
  rw [← List.take_append_drop k l, List.all_append, h1, h2]
  rfl
theorem sizes_lo : ((List.range 7).all fun n => (allAb n).all szOk) = true := by decide +kernel
theorem sizes_70 : ((dr7 0 (allAb 7)).take 720).all szOk = true := by decide +kernel
theorem sizes_71 : ((dr7 1 (allAb 7)).take 720).all szOk = true := by decide +kernel
theorem sizes_72 : ((dr7 2 (allAb 7)).take 720).all szOk = true := by decide +kernel
theorem sizes_73 : ((dr7 3 (allAb 7)).take 720).all szOk = true := by decide +kernel
theorem sizes_74 : ((dr7 4 (allAb 7)).take 720).all szOk = true := by decide +kernel
theorem sizes_75 : ((dr7 5 (allAb 7)).take 720).all szOk = true := by decide +kernel
theorem sizes_76 : ((dr7 6 (allAb 7)).take 720).all szOk = true := by decide +kernel
theorem sizes_77 : (dr7 7 (allAb 7)).all szOk = true := by decide +kernel
theorem sizes_7 : (allAb 7).all szOk = true := all_split 720 sizes_70 (all_split 720 sizes_71 (all_split 720 sizes_72 (all_split 720 sizes_73 (all_split 720 sizes_74 (all_split 720 sizes_75 (all_split 720 sizes_76 sizes_77))))))
theorem szOk_of {ab : List (Option Nat)} (hl : ab.length ≤ 7) (ok : okAb ab) : szOk ab = true := by
  rcases Nat.lt_or_ge ab.length 7 with y | y
  · have h := List.all_eq_true.mp sizes_lo ab.length (List.mem_range.mpr y)
    exact List.all_eq_true.mp h ab (mem_allAb _ ab rfl ok)
  · exact List.all_eq_true.mp sizes_7 ab (mem_allAb 7 ab (by omega) ok)
theorem sz_kids {ab : List (Option Nat)} (hl : ab.length ≤ 7) (ok : okAb ab) {i : Nat} (hi : i < ab.length) : szA ab i = 1 + ((kids ab i).map (szA ab)).sum := by
  have h := (Bool.and_eq_true _ _ ▸ szOk_of hl ok : _ ∧ _).1
  exact eq_of_beq (List.all_eq_true.mp h i (List.mem_range.mpr hi))
def frB (ab : List (Option Nat)) (done : List Nat) (i : Nat) : Bool := match ab[i]? with
  | some (some j) => done.contains j
  | _ => true
def rdy (ab : List (Option Nat)) (done : List Nat) : List Nat := ((List.range ab.length).filter (frB ab done)).filter fun i => !done.contains i
theorem sz_roots {ab : List (Option Nat)} (hl : ab.length ≤ 7) (ok : okAb ab) : ((rdy ab []).map (szA ab)).sum = ab.length := by
  have h := (Bool.and_eq_true _ _ ▸ szOk_of hl ok : _ ∧ _).2
  have e : rdy ab [] = (List.range ab.length).filter fun i => ab.getD i none == none := by
    unfold rdy
    rw [List.filter_filter]
    refine List.filter_congr fun i hi => ?_
    rw [List.mem_range] at hi
    unfold frB
    rw [List.getElem?_eq_getElem hi, List.getD_eq_getElem?_getD, List.getElem?_eq_getElem hi]
    cases ab[i] <;> rfl
  rw [e]
  exact eq_of_beq h
structure Cl (ab : List (Option Nat)) (done : List Nat) : Prop where
  nd : done.Nodup
  lt : ∀ x ∈ done, x < ab.length
  up : ∀ (x j : Nat), x ∈ done → ab[x]? = some (some j) → j ∈ done
theorem mem_rdy {ab : List (Option Nat)} {done : List Nat} {x : Nat} : x ∈ rdy ab done ↔ x < ab.length ∧ (∀ j, ab[x]? = some (some j) → j ∈ done) ∧ x ∉ done := by
  unfold rdy
  rw [List.mem_filter, List.mem_filter, List.mem_range]
  have e : frB ab done x = true ↔ ∀ j, ab[x]? = some (some j) → j ∈ done := by
    unfold frB
    split
    · rename_i j h
      rw [List.contains_iff_mem]
      exact ⟨fun y k hk => by rw [h] at hk; cases hk; exact y, fun y => y j h⟩
    · rename_i h
      exact ⟨fun _ j hj => absurd hj (h j), fun _ => rfl⟩
  rw [e, Bool.not_eq_true', ← Bool.not_eq_true, List.contains_iff_mem]
  exact ⟨fun ⟨⟨a, b⟩, c⟩ => ⟨a, b, c⟩, fun ⟨a, b, c⟩ => ⟨⟨a, b⟩, c⟩⟩
theorem Cl.nil (ab : List (Option Nat)) : Cl ab [] := ⟨List.nodup_nil, fun _ h => (by cases h), fun _ _ h => (by cases h)⟩
theorem Cl.step {ab : List (Option Nat)} {done : List Nat} {x : Nat} (h : Cl ab done) (hx : x ∈ rdy ab done) : Cl ab (done ++ [x]) := by
  obtain ⟨h1, h2, h3⟩ := mem_rdy.mp hx
  refine ⟨?_, fun y hy => ?_, fun y j hy e => ?_⟩
  · rw [List.nodup_append]
    refine ⟨h.nd, by simp, fun a ha b hb e => ?_⟩
    have : b = x := by simpa using hb
    rw [e, this] at ha
    exact h3 ha
  · rcases List.mem_append.mp hy with hy | hy
    · exact h.lt y hy
    · have : y = x := by simpa using hy
      rw [this]
      exact h1
  · rcases List.mem_append.mp hy with hy | hy
    · exact List.mem_append_left _ (h.up y j hy e)
    · have : y = x := by simpa using hy
      rw [this] at e
      exact List.mem_append_left _ (h2 j e)
theorem filter_or {α : Type} {p q r : α → Bool} : ∀ (l : List α), (∀ x ∈ l, p x = (q x || r x)) → (∀ x ∈ l, q x = true → r x = true → False) → (l.filter p).Perm (l.filter q ++ l.filter r)
  | [], _, _ => .nil
  | a :: l, h1, h2 => by
    have ih := filter_or l (fun x hx => h1 x (List.mem_cons_of_mem _ hx)) (fun x hx => h2 x (List.mem_cons_of_mem _ hx))
    have e := h1 a List.mem_cons_self
    have d := h2 a List.mem_cons_self
    cases hq : q a with
    | true =>
      have hr : r a = false := by
        cases hr : r a with
        | false => rfl
        | true => exact absurd hr (fun y => d hq y)
      rw [hq, hr] at e
      rw [List.filter_cons_of_pos (by rw [e]; rfl), List.filter_cons_of_pos hq, List.filter_cons_of_neg (by rw [hr]; decide)]
      exact ih.cons a
    | false =>
      cases hr : r a with
      | true =>
        rw [hq, hr] at e
        rw [List.filter_cons_of_pos (by rw [e]; rfl), List.filter_cons_of_neg (by rw [hq]; decide), List.filter_cons_of_pos hr]
        exact (ih.cons a).trans List.perm_middle.symm
      | false =>
        rw [hq, hr] at e
        rw [List.filter_cons_of_neg (by rw [e]; decide), List.filter_cons_of_neg (by rw [hq]; decide), List.filter_cons_of_neg (by rw [hr]; decide)]
        exact ih
theorem rdy_eq (ab : List (Option Nat)) (done : List Nat) : rdy ab done = (List.range ab.length).filter fun i => decide (i ∈ rdy ab done) := by
  unfold rdy
  rw [List.filter_filter]
  refine List.filter_congr fun i hi => ?_
  rw [Bool.eq_iff_iff, decide_eq_true_iff, List.mem_filter]
  exact ⟨fun h => ⟨hi, h⟩, fun h => h.2⟩
theorem rdy_step {ab : List (Option Nat)} {done : List Nat} {x : Nat} (ok : okAb ab) (h : Cl ab done) (hx : x ∈ rdy ab done) : (rdy ab (done ++ [x])).Perm ((rdy ab done).filter (fun y => decide (y ≠ x)) ++ kids ab x) := by
  obtain ⟨h1, h2, h3⟩ := mem_rdy.mp hx
  rw [rdy_eq ab (done ++ [x]), rdy_eq ab done, List.filter_filter]
  refine filter_or _ (fun y hy => ?_) (fun y hy a b => ?_)
  · rw [List.mem_range] at hy
    rw [Bool.eq_iff_iff, decide_eq_true_iff, Bool.or_eq_true, Bool.and_eq_true, decide_eq_true_iff, decide_eq_true_iff, mem_rdy, mem_rdy]
    unfold isUp
    rw [beq_iff_eq]
    constructor
    · rintro ⟨_, a, b⟩
      by_cases e : ab[y]? = some (some x)
      · exact .inr e
      · refine .inl ⟨fun z => b (by rw [z]; simp), hy, fun j ej => ?_, fun z => b (List.mem_append_left _ z)⟩
        rcases List.mem_append.mp (a j ej) with w | w
        · exact w
        · have : j = x := by simpa using w
          rw [this] at ej
          exact absurd ej e
    · rintro (⟨a, _, b, c⟩ | e)
      · refine ⟨hy, fun j ej => List.mem_append_left _ (b j ej), fun z => ?_⟩
        rcases List.mem_append.mp z with w | w
        · exact c w
        · exact a (by simpa using w)
      · refine ⟨hy, fun j ej => ?_, fun z => ?_⟩
        · rw [e] at ej
          cases ej
          simp
        · rcases List.mem_append.mp z with w | w
          · exact h3 (h.up y x w e)
          · have : y = x := by simpa using w
            rw [this] at e
            exact absurd (ok x x e) (Nat.lt_irrefl _)
  · rw [Bool.and_eq_true, decide_eq_true_iff, decide_eq_true_iff] at a
    have e : ab[y]? = some (some x) := eq_of_beq b
    exact h3 ((mem_rdy.mp a.2).2.1 x e)
theorem rdy_sorted (ab : List (Option Nat)) (done : List Nat) : (rdy ab done).Pairwise (· < ·) := by
  unfold rdy
  exact (List.pairwise_lt_range.filter _).filter _
theorem sorted_is {ab : List (Option Nat)} {done : List Nat} {x : Nat} (ok : okAb ab) (h : Cl ab done) (hx : x ∈ rdy ab done) {ns : List Int} (hp : ns.Perm (((rdy ab done).filter (fun y => decide (y ≠ x)) ++ kids ab x).map fun (n : Nat) => (n : Int))) (hs : ns.Pairwise (· ≤ ·)) : ns = (rdy ab (done ++ [x])).map fun (n : Nat) => (n : Int) := by
  have p2 := hp.trans ((rdy_step ok h hx).map fun (n : Nat) => (n : Int)).symm
  refine List.Perm.eq_of_pairwise (le := (· ≤ ·)) (fun a b _ _ h1 h2 => by omega) hs ?_ p2
  exact List.pairwise_map.mpr ((rdy_sorted ab _).imp fun h => by omega)
theorem sum_split {f : Nat → Nat} {x : Nat} : ∀ {l : List Nat}, l.Nodup → x ∈ l → (l.map f).sum = f x + ((l.filter (fun y => decide (y ≠ x))).map f).sum
  | a :: l, nd, h => by
    have hn := List.nodup_cons.mp nd
    by_cases e : a = x
    · subst e
      have e2 : l.filter (fun y => decide (y ≠ a)) = l := List.filter_eq_self.mpr (fun y hy => decide_eq_true (fun z => hn.1 (by rw [← z]; exact hy)))
      rw [List.filter_cons_of_neg (by simp), e2, List.map_cons, List.sum_cons]
    · have hx : x ∈ l := by
        rcases List.mem_cons.mp h with w | w
        · exact absurd w.symm e
        · exact w
      rw [List.filter_cons_of_pos (by simpa using e), List.map_cons, List.sum_cons, List.map_cons, List.sum_cons, sum_split hn.2 hx]
      omega
theorem rdy_nodup (ab : List (Option Nat)) (done : List Nat) : (rdy ab done).Nodup := (rdy_sorted ab done).imp fun h => Nat.ne_of_lt h
theorem rdy_sum_step {ab : List (Option Nat)} {done : List Nat} {x : Nat} (hl : ab.length ≤ 7) (ok : okAb ab) (h : Cl ab done) (hx : x ∈ rdy ab done) : ((rdy ab (done ++ [x])).map (szA ab)).sum + 1 = ((rdy ab done).map (szA ab)).sum := by
  rw [((rdy_step ok h hx).map (szA ab)).sum_nat, List.map_append, List.sum_append, sum_split (rdy_nodup ab done) hx, sz_kids hl ok (mem_rdy.mp hx).1]
  omega
structure Dn (ab : List (Option Nat)) (done : List Nat) : Prop where
  cl : Cl ab done
  sm : ((rdy ab done).map (szA ab)).sum + done.length = ab.length
theorem Dn.nil {ab : List (Option Nat)} (hl : ab.length ≤ 7) (ok : okAb ab) : Dn ab [] := ⟨Cl.nil ab, by rw [sz_roots hl ok]; rfl⟩
theorem Dn.step {ab : List (Option Nat)} {done : List Nat} {x : Nat} (hl : ab.length ≤ 7) (ok : okAb ab) (h : Dn ab done) (hx : x ∈ rdy ab done) : Dn ab (done ++ [x]) := ⟨h.cl.step hx, by
  have := rdy_sum_step hl ok h.cl hx
  have := h.sm
  rw [List.length_append, List.length_singleton]
  omega⟩
theorem sz_pos {ab : List (Option Nat)} (hl : ab.length ≤ 7) (ok : okAb ab) {i : Nat} (hi : i < ab.length) : 0 < szA ab i := by
  rw [sz_kids hl ok hi]
  omega
theorem Dn.end {ab : List (Option Nat)} {done : List Nat} (h : Dn ab done) (e : rdy ab done = []) : done.length = ab.length := by
  have := h.sm
  rw [e] at this
  simpa using this
theorem Dn.more {ab : List (Option Nat)} {done : List Nat} (hl : ab.length ≤ 7) (ok : okAb ab) (h : Dn ab done) (e : rdy ab done ≠ []) : done.length < ab.length := by
  have := h.sm
  cases y : rdy ab done with
  | nil => exact absurd y e
  | cons a l =>
    have ha : a ∈ rdy ab done := by rw [y]; exact List.mem_cons_self
    have := sz_pos hl ok (mem_rdy.mp ha).1
    have := h.sm
    rw [y, List.map_cons, List.sum_cons] at this
    omega
def ordF (ab : List (Option Nat)) : Nat → List (List Nat × Nat × Nat)
  | 0 => [([], 1, 1)]
  | k + 1 => (ordF ab k).flatMap fun r => (rdy ab r.1).map fun x => (r.1 ++ [x], r.2.1 * szA ab x, r.2.2 * ((rdy ab r.1).map (szA ab)).sum)
def dsc (n : Nat) : Nat → Nat
  | 0 => 1
  | k + 1 => dsc n k * (n - k)
def facN : Nat → Nat
  | 0 => 1
  | k + 1 => facN k * (k + 1)
def spr (ab : List (Option Nat)) : Nat → Nat
  | 0 => 1
  | k + 1 => spr ab k * szA ab k
theorem dsc_fac (n : Nat) : ∀ k, k ≤ n → dsc n k * facN (n - k) = facN n
  | 0, _ => by rw [dsc, Nat.one_mul]; rfl
  | k + 1, h => by
    rw [← dsc_fac n k (by omega), dsc, show n - k = (n - (k + 1)) + 1 by omega, facN, Nat.mul_assoc, Nat.mul_comm (n - (k + 1) + 1)]
def prd (f : Nat → Nat) : List Nat → Nat
  | [] => 1
  | x :: l => f x * prd f l
theorem prd_app (f : Nat → Nat) : ∀ (l l' : List Nat), prd f (l ++ l') = prd f l * prd f l'
  | [], l' => by rw [List.nil_append, prd, Nat.one_mul]
  | x :: l, l' => by rw [List.cons_append, prd, prd, prd_app f l l', Nat.mul_assoc]
theorem prd_split {f : Nat → Nat} {x : Nat} : ∀ {l : List Nat}, l.Nodup → x ∈ l → prd f l = f x * prd f (l.filter (fun y => decide (y ≠ x)))
  | a :: l, nd, h => by
    have hn := List.nodup_cons.mp nd
    by_cases e : a = x
    · subst e
      have e2 : l.filter (fun y => decide (y ≠ a)) = l := List.filter_eq_self.mpr (fun y hy => decide_eq_true (fun z => hn.1 (by rw [← z]; exact hy)))
      rw [List.filter_cons_of_neg (by simp), e2, prd]
    · have hx : x ∈ l := by
        rcases List.mem_cons.mp h with w | w
        · exact absurd w.symm e
        · exact w
      rw [List.filter_cons_of_pos (by simpa using e), prd, prd, prd_split hn.2 hx, Nat.mul_left_comm]
theorem len_split {x : Nat} : ∀ {l : List Nat}, l.Nodup → x ∈ l → l.length = 1 + (l.filter (fun y => decide (y ≠ x))).length
  | a :: l, nd, h => by
    have hn := List.nodup_cons.mp nd
    by_cases e : a = x
    · subst e
      have e2 : l.filter (fun y => decide (y ≠ a)) = l := List.filter_eq_self.mpr (fun y hy => decide_eq_true (fun z => hn.1 (by rw [← z]; exact hy)))
      rw [List.filter_cons_of_neg (by simp), e2, List.length_cons]
      omega
    · have hx : x ∈ l := by
        rcases List.mem_cons.mp h with w | w
        · exact absurd w.symm e
        · exact w
      rw [List.filter_cons_of_pos (by simpa using e), List.length_cons, List.length_cons, len_split hn.2 hx]
      omega
def und (n : Nat) (done : List Nat) : List Nat := (List.range n).filter fun y => decide (y ∉ done)
theorem und_step (n : Nat) (done : List Nat) (x : Nat) : und n (done ++ [x]) = (und n done).filter (fun y => decide (y ≠ x)) := by
  unfold und
  rw [List.filter_filter]
  refine List.filter_congr fun y _ => ?_
  rw [Bool.eq_iff_iff, decide_eq_true_iff, Bool.and_eq_true, decide_eq_true_iff, decide_eq_true_iff, List.mem_append, List.mem_singleton, not_or]
  exact And.comm
theorem und_nodup (n : Nat) (done : List Nat) : (und n done).Nodup := List.nodup_range.filter _
theorem spr_prd (ab : List (Option Nat)) : ∀ k, spr ab k = prd (szA ab) (List.range k)
  | 0 => rfl
  | k + 1 => by rw [spr, List.range_succ, prd_app, ← spr_prd ab k, prd, prd, Nat.mul_one]
theorem und_nil (n : Nat) : und n [] = List.range n := List.filter_eq_self.mpr fun y _ => decide_eq_true (by simp)
structure Rw (ab : List (Option Nat)) (k : Nat) (r : List Nat × Nat × Nat) : Prop where
  dn : Dn ab r.1
  ln : r.1.length = k
  ul : (und ab.length r.1).length + k = ab.length
  up : r.2.1 * prd (szA ab) (und ab.length r.1) = spr ab ab.length
  lo : r.2.2 = dsc ab.length k
theorem ord_rows {ab : List (Option Nat)} (hl : ab.length ≤ 7) (ok : okAb ab) : ∀ k, k ≤ ab.length → ∀ r ∈ ordF ab k, Rw ab k r
  | 0, _, r, hr => by
    have : r = ([], 1, 1) := by simpa [ordF] using hr
    subst this
    exact ⟨Dn.nil hl ok, rfl, by show (und ab.length []).length + 0 = _; rw [und_nil, List.length_range]; rfl, by show 1 * prd (szA ab) (und ab.length []) = _; rw [und_nil, Nat.one_mul, spr_prd], rfl⟩
  | k + 1, hk, r, hr => by
    obtain ⟨r0, hr0, hx0⟩ := List.mem_flatMap.mp hr
    obtain ⟨x, hx, rfl⟩ := List.mem_map.mp hx0
    clear hx0
    have ih := ord_rows hl ok k (by omega) r0 hr0
    have hm := mem_rdy.mp hx
    have hu : x ∈ und ab.length r0.1 := List.mem_filter.mpr ⟨List.mem_range.mpr hm.1, decide_eq_true hm.2.2⟩
    refine ⟨ih.dn.step hl ok hx, ?_, ?_, ?_, ?_⟩
    · show (r0.1 ++ [x]).length = _
      rw [List.length_append, ih.ln]
      rfl
    · show (und ab.length (r0.1 ++ [x])).length + _ = _
      rw [und_step]
      have := len_split (und_nodup _ _) hu
      have := ih.ul
      omega
    · show r0.2.1 * szA ab x * prd (szA ab) (und ab.length (r0.1 ++ [x])) = _
      rw [und_step, Nat.mul_assoc, ← prd_split (und_nodup _ _) hu]
      exact ih.up
    · show r0.2.2 * ((rdy ab r0.1).map (szA ab)).sum = _
      have := ih.dn.sm
      rw [ih.ln] at this
      rw [ih.lo, dsc]
      congr 1
      omega
theorem sum_const {α : Type} {f : α → Nat} {c : Nat} : ∀ {l : List α}, (∀ x ∈ l, f x = c) → (l.map f).sum = l.length * c
  | [], _ => by simp
  | a :: l, h => by
    rw [List.map_cons, List.sum_cons, h a List.mem_cons_self, sum_const (l := l) fun x hx => h x (List.mem_cons_of_mem _ hx), List.length_cons, Nat.succ_mul, Nat.add_comm]
theorem sum_mulC (c : Nat) (f : Nat → Nat) : ∀ l : List Nat, (l.map fun x => c * f x).sum = c * (l.map f).sum
  | [] => rfl
  | a :: l => by rw [List.map_cons, List.sum_cons, sum_mulC c f l, List.map_cons, List.sum_cons, Nat.mul_add]
theorem sum_flat {ab : List (Option Nat)} {m : Nat} : ∀ (l : List (List Nat × Nat × Nat)), (∀ r ∈ l, ((rdy ab r.1).map (szA ab)).sum = m) →
    ((l.flatMap fun r => (rdy ab r.1).map fun x => (r.1 ++ [x], r.2.1 * szA ab x, r.2.2 * ((rdy ab r.1).map (szA ab)).sum)).map fun r => r.2.1).sum = (l.map fun r => r.2.1).sum * m
  | [], _ => by simp
  | r :: l, h => by
    have e : ((rdy ab r.1).map ((fun r => r.2.1) ∘ fun x => (r.1 ++ [x], r.2.1 * szA ab x, r.2.2 * ((rdy ab r.1).map (szA ab)).sum))).sum = r.2.1 * m := by
      have e2 := sum_mulC r.2.1 (szA ab) (rdy ab r.1)
      rw [h r List.mem_cons_self] at e2
      exact e2
    rw [List.flatMap_cons, List.map_append, List.sum_append, List.map_map, sum_flat l fun r hr => h r (List.mem_cons_of_mem _ hr), List.map_cons, List.sum_cons, Nat.add_mul]
    congr 1
theorem ord_sum {ab : List (Option Nat)} (hl : ab.length ≤ 7) (ok : okAb ab) : ∀ k, k ≤ ab.length → ((ordF ab k).map fun r => r.2.1).sum = dsc ab.length k
  | 0, _ => rfl
  | k + 1, hk => by
    rw [ordF, sum_flat (m := ab.length - k) _ fun r hr => ?_, ord_sum hl ok k (by omega), dsc]
    have := ord_rows hl ok k (by omega) r hr
    have h1 := this.dn.sm
    have h2 := this.ln
    omega
theorem ord_last {ab : List (Option Nat)} (hl : ab.length ≤ 7) (ok : okAb ab) {r : List Nat × Nat × Nat} (hr : r ∈ ordF ab ab.length) : r.2.1 = spr ab ab.length ∧ r.2.2 = facN ab.length := by
  have h := ord_rows hl ok _ (Nat.le_refl _) r hr
  have h1 : und ab.length r.1 = [] := List.length_eq_zero_iff.mp (by have := h.ul; omega)
  have h2 := h.up
  rw [h1, prd, Nat.mul_one] at h2
  refine ⟨h2, ?_⟩
  have := dsc_fac ab.length _ (Nat.le_refl _)
  rw [Nat.sub_self] at this
  rw [h.lo, ← this, facN, Nat.mul_one]
theorem spr_pos {ab : List (Option Nat)} (hl : ab.length ≤ 7) (ok : okAb ab) : ∀ k, k ≤ ab.length → 0 < spr ab k
  | 0, _ => Nat.one_pos
  | k + 1, h => Nat.mul_pos (spr_pos hl ok k (by omega)) (sz_pos hl ok (by omega))
theorem ord_count {ab : List (Option Nat)} (hl : ab.length ≤ 7) (ok : okAb ab) : (ordF ab ab.length).length * spr ab ab.length = facN ab.length := by
  have h := ord_sum hl ok _ (Nat.le_refl _)
  rw [sum_const fun r hr => (ord_last hl ok hr).1] at h
  have := dsc_fac ab.length _ (Nat.le_refl _)
  rw [Nat.sub_self, facN, Nat.mul_one] at this
  rw [h, this]
theorem ord_cnt {ab : List (Option Nat)} (hl : ab.length ≤ 7) (ok : okAb ab) : facN ab.length / spr ab ab.length = (ordF ab ab.length).length := by
  rw [← ord_count hl ok]
  exact Nat.mul_div_cancel _ (spr_pos hl ok _ (Nat.le_refl _))
theorem ord_even {ab : List (Option Nat)} (hl : ab.length ≤ 7) (ok : okAb ab) {r : List Nat × Nat × Nat} (hr : r ∈ ordF ab ab.length) : r.2.1 * (ordF ab ab.length).length = r.2.2 := by
  rw [(ord_last hl ok hr).1, (ord_last hl ok hr).2, Nat.mul_comm]
  exact ord_count hl ok
structure PB (X : Cx) (es : List Expr) (t : TA) : Prop where
  go : PA X es t
def top (i : Nat) : Stmt := PySem.Challenge.pw_bitdraws_k28_whole_orders_under.main.body.getD i (.Pass ⟨0, 0, 0, 0⟩)
abbrev s_drawn_whole : Stmt := top 6
abbrev p_drawn_whole : List Str := ["bits", "draw", "shape"]
theorem sc_drawn_whole : FnScope ["bits", "draw", "shape", "used_before"] ["bits", "draw", "shape"] (defScope s_drawn_whole) := ⟨rfl, rfl, rfl, by decide +kernel, rfl, by decide +kernel, by decide +kernel⟩
abbrev s_pick : Stmt := top 8
abbrev p_pick : List Str := ["bits", "weights"]
theorem sc_pick : FnScope ["bits", "weights", "total"] ["bits", "weights"] (defScope s_pick) := ⟨rfl, rfl, rfl, by decide +kernel, rfl, by decide +kernel, by decide +kernel⟩
abbrev s_take_pick : Stmt := top 9
abbrev p_take_pick : List Str := ["bits", "weights"]
theorem sc_take_pick : FnScope ["bits", "weights", "total", "rests", "place", "ends"] ["bits", "weights"] (defScope s_take_pick) := ⟨rfl, rfl, rfl, by decide +kernel, rfl, by decide +kernel, by decide +kernel⟩
abbrev s_sizes_under : Stmt := top 11
abbrev p_sizes_under : List Str := ["above"]
theorem sc_sizes_under : FnScope ["above", "sizes", "number", "upper"] ["above"] (defScope s_sizes_under) := ⟨rfl, rfl, rfl, by decide +kernel, rfl, by decide +kernel, by decide +kernel⟩
abbrev s_count_orders : Stmt := top 12
abbrev p_count_orders : List Str := ["above"]
theorem sc_count_orders : FnScope ["above", "all_orders", "for_each", "number", "size"] ["above"] (defScope s_count_orders) := ⟨rfl, rfl, rfl, by decide +kernel, rfl, by decide +kernel, by decide +kernel⟩
abbrev s_order_under : Stmt := top 13
abbrev p_order_under : List Str := ["bits", "above"]
theorem sc_order_under : FnScope ["bits", "above"] ["bits", "above"] (defScope s_order_under) := ⟨rfl, rfl, rfl, by decide +kernel, rfl, by decide +kernel, by decide +kernel⟩
abbrev s_take_order_under : Stmt := top 14
abbrev p_take_order_under : List Str := ["bits", "above"]
theorem sc_take_order_under : FnScope ["bits", "above", "sizes", "coming", "row", "picked", "freed"] ["bits", "above"] (defScope s_take_order_under) := ⟨rfl, rfl, rfl, by decide +kernel, rfl, by decide +kernel, by decide +kernel⟩
abbrev s__law_same : Stmt := top 16
abbrev p__law_same : List Str := ["_law_got", "_law_due_here"]
theorem sc__law_same : FnScope ["_law_got", "_law_due_here"] ["_law_got", "_law_due_here"] (defScope s__law_same) := ⟨rfl, rfl, rfl, by decide +kernel, rfl, by decide +kernel, by decide +kernel⟩
abbrev s__law_draw : Stmt := top 17
abbrev p__law_draw : List Str := ["_law_script", "_law_town", "_law_many"]
theorem sc__law_draw : FnScope ["_law_script", "_law_town", "_law_many", "_law_k", "_law_cell", "_law_number", "_law_more"] ["_law_script", "_law_town", "_law_many"] (defScope s__law_draw) := ⟨rfl, rfl, rfl, by decide +kernel, rfl, by decide +kernel, by decide +kernel⟩
abbrev s__law_one : Stmt := top 18
abbrev p__law_one : List Str := ["_law_script", "_law_town", "_law_some"]
theorem sc__law_one : FnScope ["_law_script", "_law_town", "_law_some"] ["_law_script", "_law_town", "_law_some"] (defScope s__law_one) := ⟨rfl, rfl, rfl, by decide +kernel, rfl, by decide +kernel, by decide +kernel⟩
abbrev s__law_bits : Stmt := top 19
abbrev p__law_bits : List Str := ["_law_script", "_law_town", "_law_most"]
theorem sc__law_bits : FnScope ["_law_script", "_law_town", "_law_most"] ["_law_script", "_law_town", "_law_most"] (defScope s__law_bits) := ⟨rfl, rfl, rfl, by decide +kernel, rfl, by decide +kernel, by decide +kernel⟩
abbrev s__law_pick : Stmt := top 22
abbrev p__law_pick : List Str := ["_law_row", "_law_at", "_law_weights"]
theorem sc__law_pick : FnScope ["_law_row", "_law_at", "_law_weights", "_law_total", "_law_place", "_law_size", "_law_ends"] ["_law_row", "_law_at", "_law_weights"] (defScope s__law_pick) := ⟨rfl, rfl, rfl, by decide +kernel, rfl, by decide +kernel, by decide +kernel⟩
abbrev s__law_above : Stmt := top 23
abbrev p__law_above : List Str := ["_law_script", "_law_town"]
theorem sc__law_above : FnScope ["_law_script", "_law_town", "_law_got", "_law_one_here", "_law_some"] ["_law_script", "_law_town"] (defScope s__law_above) := ⟨rfl, rfl, rfl, by decide +kernel, rfl, by decide +kernel, by decide +kernel⟩
abbrev s__law_under : Stmt := top 24
abbrev p__law_under : List Str := ["_law_above_here", "_law_one_here"]
theorem sc__law_under : FnScope ["_law_above_here", "_law_one_here"] ["_law_above_here", "_law_one_here"] (defScope s__law_under) := ⟨rfl, rfl, rfl, by decide +kernel, rfl, by decide +kernel, by decide +kernel⟩
abbrev s__law_ready : Stmt := top 25
abbrev p__law_ready : List Str := ["_law_above_here", "_law_done"]
theorem sc__law_ready : FnScope ["_law_above_here", "_law_done", "_law_free"] ["_law_above_here", "_law_done"] (defScope s__law_ready) := ⟨rfl, rfl, rfl, by decide +kernel, rfl, by decide +kernel, by decide +kernel⟩
abbrev s__law_orders : Stmt := top 26
abbrev p__law_orders : List Str := ["_law_above_here"]
theorem sc__law_orders : FnScope ["_law_above_here", "_law_rows", "_law_turn", "_law_longer", "_law_row", "_law_upper", "_law_lower", "_law_ready_here", "_law_total", "_law_one_here"] ["_law_above_here"] (defScope s__law_orders) := ⟨rfl, rfl, rfl, by decide +kernel, rfl, by decide +kernel, by decide +kernel⟩
abbrev s__law_due : Stmt := top 27
abbrev p__law_due : List Str := ["_law_row", "_law_at", "_law_above_here"]
theorem sc__law_due : FnScope ["_law_row", "_law_at", "_law_above_here", "_law_done", "_law_ready_here", "_law_number"] ["_law_row", "_law_at", "_law_above_here"] (defScope s__law_due) := ⟨rfl, rfl, rfl, by decide +kernel, rfl, by decide +kernel, by decide +kernel⟩
abbrev s__law_told : Stmt := top 28
abbrev p__law_told : List Str := ["_law_bits_here", "_law_above_here"]
theorem sc__law_told : FnScope ["_law_bits_here", "_law_above_here", "_law_got"] ["_law_bits_here", "_law_above_here"] (defScope s__law_told) := ⟨rfl, rfl, rfl, by decide +kernel, rfl, by decide +kernel, by decide +kernel⟩
abbrev s_law : Stmt := top 29
abbrev p_law : List Str := ["_law_script"]
theorem sc_law : FnScope ["_law_script", "_law_town", "_law_k", "_law_row", "_law_bits_here", "_law_at", "_law_turn", "_law_above_here", "_law_due_here", "_law_after", "_law_few", "_law_rows"] ["_law_script"] (defScope s_law) := ⟨rfl, rfl, rfl, by decide +kernel, rfl, by decide +kernel, by decide +kernel⟩
abbrev s_Bits___init__ : Stmt := inClass (top 5) 0
abbrev p_Bits___init__ : List Str := ["self", "row"]
theorem sc_Bits___init__ : FnScope ["self", "row"] ["self", "row"] (defScope s_Bits___init__) := ⟨rfl, rfl, rfl, by decide +kernel, rfl, by decide +kernel, by decide +kernel⟩
abbrev s_Bits_take : Stmt := inClass (top 5) 1
abbrev p_Bits_take : List Str := ["self"]
theorem sc_Bits_take : FnScope ["self", "bit"] ["self"] (defScope s_Bits_take) := ⟨rfl, rfl, rfl, by decide +kernel, rfl, by decide +kernel, by decide +kernel⟩
abbrev s_Bits_used : Stmt := inClass (top 5) 2
abbrev p_Bits_used : List Str := ["self"]
theorem sc_Bits_used : FnScope ["self"] ["self"] (defScope s_Bits_used) := ⟨rfl, rfl, rfl, by decide +kernel, rfl, by decide +kernel, by decide +kernel⟩
abbrev s_Bits_left : Stmt := inClass (top 5) 3
abbrev p_Bits_left : List Str := ["self"]
theorem sc_Bits_left : FnScope ["self"] ["self"] (defScope s_Bits_left) := ⟨rfl, rfl, rfl, by decide +kernel, rfl, by decide +kernel, by decide +kernel⟩
abbrev s_Bits_go_back : Stmt := inClass (top 5) 4
abbrev p_Bits_go_back : List Str := ["self", "many"]
theorem sc_Bits_go_back : FnScope ["self", "many"] ["self", "many"] (defScope s_Bits_go_back) := ⟨rfl, rfl, rfl, by decide +kernel, rfl, by decide +kernel, by decide +kernel⟩
theorem nd_1 : (["_law_got", "_law_due_here", "_law_one_here", "_law_other"] : List Str).Nodup := by decide +kernel
theorem nd_2 : (["_law_script", "_law_town", "_law_most", "_law_k"] : List Str).Nodup := by decide +kernel
theorem nd_3 : (["bits", "weights", "total", "rests", "place", "ends", "number", "rest"] : List Str).Nodup := by decide +kernel
theorem nd_4 : (["bits", "weights", "total", "rests", "place", "ends", "rest"] : List Str).Nodup := by decide +kernel
theorem nd_5 : (["above", "sizes", "number", "upper"] : List Str).Nodup := by decide +kernel
theorem nd_6 : (["_law_above_here", "_law_one_here", "_law_other"] : List Str).Nodup := by decide +kernel
theorem nd_7 : (["_law_above_here", "_law_done", "_law_free", "_law_one_here"] : List Str).Nodup := by decide +kernel
theorem nd_8 : (["_law_above_here", "_law_done", "_law_free", "_law_one_here"] : List Str).Nodup := by decide +kernel
theorem nd_9 : (["_law_row", "_law_at", "_law_weights", "_law_total", "_law_place", "_law_size", "_law_ends", "_law_number", "_law_weight"] : List Str).Nodup := by decide +kernel
theorem nd_10 : (["bits", "above", "sizes", "coming", "row", "picked", "freed", "number", "upper"] : List Str).Nodup := by decide +kernel
theorem nd_11 : (["bits", "above", "sizes", "coming", "row", "picked", "freed", "number"] : List Str).Nodup := by decide +kernel
theorem nd_12 : (["bits", "above", "sizes", "coming", "row", "picked", "freed", "number", "upper"] : List Str).Nodup := by decide +kernel
theorem nd_13 : (["bits", "above", "sizes", "coming", "row", "picked", "freed", "number"] : List Str).Nodup := by decide +kernel
theorem nd_14 : (["_law_row", "_law_at", "_law_above_here", "_law_done", "_law_ready_here", "_law_number", "_law_one_here"] : List Str).Nodup := by decide +kernel
theorem nd_15 : (["_law_above_here", "_law_rows", "_law_turn", "_law_longer", "_law_row", "_law_upper", "_law_lower", "_law_ready_here", "_law_total", "_law_one_here"] : List Str).Nodup := by decide +kernel
theorem nd_16 : (["_law_script", "_law_town", "_law_k", "_law_row", "_law_bits_here", "_law_at", "_law_turn", "_law_above_here", "_law_due_here", "_law_after", "_law_few", "_law_rows", "_law_one_here", "_law_upper", "_law_lower"] : List Str).Nodup := by decide +kernel
structure Bl (mg : Str → Option Value) : Prop where
  all_ : mg "all" = none
  bool_ : mg "bool" = none
  enumerate_ : mg "enumerate" = none
  int_ : mg "int" = none
  isinstance_ : mg "isinstance" = none
  len_ : mg "len" = none
  list_ : mg "list" = none
  max_ : mg "max" = none
  range_ : mg "range" = none
  sorted_ : mg "sorted" = none
  str_ : mg "str" = none
  sum_ : mg "sum" = none
  tuple_ : mg "tuple" = none
  zip_ : mg "zip" = none
structure Cn (mg : Str → Option Value) : Prop where
  tt : True
theorem cell_at {ns : List Int} (h : ns ≠ []) (k : Nat) : atI (ns.map V.int) ((k : Int) % ((ns.map V.int).length : Int)) = some (.int (lcell ns k)) := by
  have hp : 0 < ns.length := List.length_pos_iff.mpr h
  have e : ((k : Int) % ((ns.map V.int).length : Int)) = (((k % ns.length : Nat)) : Int) := by rw [List.length_map]; omega
  have hk : k % ns.length < ns.length := Nat.mod_lt _ hp
  rw [e]
  refine atI_nat ?_
  rw [List.getElem?_map, List.getElem?_eq_getElem hk]
  unfold lcell
  rw [if_neg h, List.getD_eq_getElem?_getD, List.getElem?_eq_getElem hk]
  rfl
theorem emod_bd (i : Int) {m : Int} (h : 0 < m) (h2 : m < 18446744073709551616) : -(2 ^ 64) < i % m ∧ i % m < 2 ^ 64 := by
  have a := Int.emod_nonneg i (show m ≠ 0 by omega)
  have b := Int.emod_lt_of_pos i h
  exact ⟨by omega, by omega⟩
section
variable {P : Program} {w : World} {K : PySem.W.Frag} {mg : Str → Option Value} {base : Heap} {f : Addr} {fd : FuncData}
theorem ok__law_draw (F__law_draw : Fun K "_law_draw" "_law_draw" s__law_draw f fd) (B : Bl mg) : FnOk P w K mg base CX0 1 f fd p__law_draw (spDraw K) := by
  refine F__law_draw.ok sc__law_draw (fun vs H Q E h => ?_) (fun cdv A outer s H vs Q E hr h => ?_)
  · obtain ⟨a, t, ns, k, m, rfl, _⟩ := h
    rfl
  obtain ⟨a, t, ns, k, m, rfl, hS, h63, hT, hk, hm, q⟩ := h
  refine ⟨_, (pss_cons (ps_expr (pe_bm PySem.F.plainAttrs_list PySem.F.slot_list_append PySem.F.type_list_append mt_append (pv 1) (pa_cons pe_int pa_nil)))
      (pss_cons (ps_set (i := 3) sc__law_draw.nd rfl (Or.inl rfl) (pe_callB call_len_seq rfl B.len_ L3.bt_len (pa_cons (pv 1) pa_nil)))
      (pss_cons (ps_set (i := 4) sc__law_draw.nd rfl (Or.inl rfl) pe_int)
      (pss_cons (ps_join (ps_if (pt_truth (pv 0) (fun _ => rfl)) (pss_one (ps_set (i := 4) sc__law_draw.nd rfl (Or.inl rfl) (pe_ix ix_list (pv 0) (pe_op op_mod (pv 3) (pe_callB call_len_seq rfl B.len_ L3.bt_len (pa_cons (pv 0) pa_nil))) (fun _ _ => rfl)))) pss_nil))
      (pss_cons (ps_set (i := 5) sc__law_draw.nd rfl (Or.inl rfl) (pe_op op_mod (pe_op op_add (pv 4) (pe_op op_mul pe_int (pv 3))) pe_int))
      (pss_cons (ps_set (i := 5) sc__law_draw.nd rfl (Or.inl rfl) (pe_op op_mod (pe_op op_mul (pe_op op_mod (pe_op op_mul (pv 5) (pv 5)) pe_int) pe_int) pe_int))
      (pss_cons (ps_set (i := 6) sc__law_draw.nd rfl (Or.inl rfl) (pe_op op_mod (pe_op op_mul (pe_op op_mod (pe_op op_mul (pv 5) (pv 5)) pe_int) pe_int) pe_int))
      (pss_one (ps_ret (pe_op op_mod (pe_op op_add (pe_op op_mul (pe_op op_fdiv (pv 5) pe_int) pe_int) (pe_op op_fdiv (pv 6) pe_int)) (pv 2))))))))))), ?_⟩
  have hT' : H t = some (.lst (zeros k)) := hT
  have g1 : Grow t H (upd H t (.lst (zeros k ++ [V.int 0]))) := Grow.upd _
  have t1 : Twn (upd H t (.lst (zeros k ++ [V.int 0]))) t (k + 1) := by
    unfold Twn
    rw [upd_same]
    show some (HO.lst (List.replicate k (V.int 0) ++ [V.int 0])) = some (HO.lst (List.replicate (k + 1) (V.int 0)))
    rw [List.replicate_succ']
  have s1 := g1.scr hT hS
  have hl : (((zeros k ++ [V.int 0]).length : Nat) : Int) = ((k + 1 : Nat) : Int) := by simp
  refine ⟨_, rfl, .inl ⟨rfl, _, SqL.of hT'⟩, t, _, _, rfl, rfl, hT', (by rw [List.length_replicate]; exact smallL (by omega)), ?_⟩
  refine ⟨_, rfl, t, _, rfl, .inl (SqL.of upd_same), ?_⟩
  rw [hl]
  refine ⟨fun σ' H' => σ' = [some (.ref a), some (.ref t), some (.int m), some (.int ((k + 1 : Nat) : Int)), some (.int (lcell ns (k + 1))), none, none] ∧ H' = upd H t (.lst (zeros k ++ [V.int 0])), ?_, ?_⟩
  · rintro σ' H' ⟨rfl, rfl⟩
    refine ⟨_, rfl, _, rfl, _, _, rfl, rfl, .inl ⟨by decide, by decide⟩, _, _, rfl, rfl, _, _, rfl, rfl, (by show (0 : Int) < 4294967291; decide), ?_⟩
    refine ⟨_, rfl, _, rfl, _, _, rfl, rfl, .inl (emod_bd _ (by decide) (by decide)), _, _, rfl, rfl, (by show (0 : Int) < 4294967279; decide), _, _, rfl, rfl, .inr ⟨by decide, by decide⟩, _, _, rfl, rfl, (by show (0 : Int) < 4294967291; decide), ?_⟩
    refine ⟨_, rfl, _, rfl, _, _, rfl, rfl, .inl (emod_bd _ (by decide) (by decide)), _, _, rfl, rfl, (by show (0 : Int) < 4294967279; decide), _, _, rfl, rfl, .inr ⟨by decide, by decide⟩, _, _, rfl, rfl, (by show (0 : Int) < 4294967291; decide), ?_⟩
    refine ⟨_, rfl, _, _, rfl, rfl, ⟨by decide, by decide⟩, _, _, rfl, rfl, .inr ⟨by decide, by decide⟩, _, rfl, _, _, rfl, rfl, ⟨by decide, by decide⟩, _, _, rfl, rfl, _, rfl, _, _, rfl, rfl, hm, ?_⟩
    exact q _ g1 t1
  · by_cases hn : ns = []
    · refine ⟨_, rfl, false, .inl ⟨_, s1.seq, by rw [hn]; rfl⟩, iteF ⟨?_, rfl⟩⟩
      unfold lcell
      rw [if_pos hn]
      rfl
    · refine ⟨_, rfl, true, .inl ⟨_, s1.seq, by cases ns with | nil => exact absurd rfl hn | cons _ _ => rfl⟩, iteT ?_⟩
      refine ⟨_, rfl, _, rfl, _, rfl, a, _, rfl, .inl s1.seq, _, _, rfl, rfl, ?_, a, _, _, _, rfl, rfl, s1.seq, cell_at hn (k + 1), rfl, rfl⟩
      show (0 : Int) < (((ns.map V.int).length : Nat) : Int)
      rw [List.length_map]
      have := List.length_pos_iff.mpr hn
      omega
end
def spOne (K : PySem.W.Frag) : Sp := fun vs H Q _ => ∃ (a t l : Addr) (ns : List Int) (k : Nat) (xs : List V), vs = [.ref a, .ref t, .ref l] ∧ Scr K H a ns ∧ ns.length ≤ 63 ∧ Twn H t k ∧ k ≤ 800000 ∧ H l = some (.lst xs) ∧ l ≠ t ∧ 0 < xs.length ∧ xs.length ≤ 1000 ∧
  ∀ (i : Nat) (v : V) H', i = (drw ns (k + 1) (xs.length : Int)).toNat → xs[i]? = some v → Grow t H H' → Twn H' t (k + 1) → Q v H'
section
variable {P : Program} {w : World} {K : PySem.W.Frag} {mg : Str → Option Value} {base : Heap} {f : Addr} {fd : FuncData}
theorem ok__law_one (F__law_one : Fun K "_law_one" "_law_one" s__law_one f fd) (B : Bl mg) (g__law_draw : Fn P w K mg base "_law_draw" p__law_draw 1 (spDraw K)) : FnOk P w K mg base CX0 2 f fd p__law_one (spOne K) := by
  refine F__law_one.ok sc__law_one (fun vs H Q E h => ?_) (fun cdv A outer s H vs Q E hr h => ?_)
  · obtain ⟨a, t, l, ns, k, xs, rfl, _⟩ := h
    rfl
  obtain ⟨a, t, l, ns, k, xs, rfl, hS, h63, hT, hk, hL, hlt, hx, hx2, q⟩ := h
  refine ⟨_, (pss_one (ps_ret (pe_ix ix_list (pv 2) (pe_fn g__law_draw hr (pa_cons (pv 0) (pa_cons (pv 1) (pa_cons (pe_callB call_len_seq rfl B.len_ L3.bt_len (pa_cons (pv 2) pa_nil)) pa_nil)))) (fun _ _ => rfl)))), ?_⟩
  refine ⟨_, rfl, _, rfl, _, rfl, _, rfl, l, _, rfl, .inl (SqL.of hL), a, t, ns, k, _, rfl, hS, h63, hT, by omega, by omega, fun H1 g1 t1 => ?_⟩
  have n0 := drw_nn ns (k + 1) (show (0 : Int) < (xs.length : Int) by omega)
  have n1 := drw_lt ns (k + 1) (show (0 : Int) < (xs.length : Int) by omega)
  have hi : (drw ns (k + 1) (xs.length : Int)).toNat < xs.length := by omega
  have key : ∀ (d : Int) (i : Nat) (hi : i < xs.length), d = (i : Int) → atI xs d = some xs[i] := fun d i hi e => by
    subst e
    exact atI_nat (List.getElem?_eq_getElem hi)
  have at' := key (drw ns (k + 1) (xs.length : Int)) _ hi (by omega)
  exact ⟨l, _, _, _, rfl, rfl, SqL.of (g1 _ _ hlt hL), at', q _ _ _ rfl (List.getElem?_eq_getElem hi) g1 t1⟩
end
section
variable {P : Program} {w : World} {K : PySem.W.Frag} {mg : Str → Option Value} {base : Heap} {f : Addr} {fd : FuncData}
theorem ko_bb (K : PySem.W.Frag) : PySem.W.kitOne K (.type "bool") (.type "bool") = some true := by kernel_rfl
theorem ko_ib (K : PySem.W.Frag) : PySem.W.kitOne K (.type "int") (.type "bool") = some false := by kernel_rfl
theorem ko_it (K : PySem.W.Frag) : PySem.W.kitOne K (.type "int") (.type "tuple") = some false := by kernel_rfl
theorem ko_is (K : PySem.W.Frag) : PySem.W.kitOne K (.type "int") (.type "str") = some false := by kernel_rfl
theorem ko_ii (K : PySem.W.Frag) : PySem.W.kitOne K (.type "int") (.type "int") = some true := by kernel_rfl
theorem ko_sb (K : PySem.W.Frag) : PySem.W.kitOne K (.type "str") (.type "bool") = some false := by kernel_rfl
theorem ko_st (K : PySem.W.Frag) : PySem.W.kitOne K (.type "str") (.type "tuple") = some false := by kernel_rfl
theorem ko_ss (K : PySem.W.Frag) : PySem.W.kitOne K (.type "str") (.type "str") = some true := by kernel_rfl
theorem ko_tb (K : PySem.W.Frag) : PySem.W.kitOne K (.type "tuple") (.type "bool") = some false := by kernel_rfl
theorem ko_tt (K : PySem.W.Frag) : PySem.W.kitOne K (.type "tuple") (.type "tuple") = some true := by kernel_rfl
theorem paired_at {α β : Type} {F : α → β → Prop} : ∀ {l : List α} {m : List β} {i : Nat} {x : α} {y : β}, Paired F l m → l[i]? = some x → m[i]? = some y → F x y
  | _, _, _, _, _, .nil, h, _ => by simp at h
  | _, _, 0, _, _, .cons r _, h, h' => by
    simp at h h'; subst h; subst h'; exact r
  | _, _, i + 1, _, _, .cons _ t, h, h' => paired_at (i := i) t (by simpa using h) (by simpa using h')
theorem ok__law_same1 {n : Nat} (F__law_same : Fun K "_law_same" "_law_same" s__law_same f fd) (B : Bl mg) (g__law_same : Fn P w K mg base "_law_same" p__law_same n (spSame n)) : FnOk P w K mg base CX0 (n + 1) f fd p__law_same (spSame (n + 1)) := by
  refine F__law_same.ok sc__law_same (fun vs H Q E h => ?_) (fun cdv A outer s H vs Q E hr h => ?_)
  · obtain ⟨x, y, rfl, _⟩ := h
    rfl
  obtain ⟨x, y, rfl, hE, q⟩ := h
  refine ⟨_, (pss_cons (ps_if (pt_cmpR op_isN (pv 1) pe_non (nomark _)) (pss_one (ps_ret (pe_cmpR op_isN (pv 0) pe_non (nomark _)))) pss_nil)
      (pss_cons (ps_if (pt_truth (pe_callB call_isi rfl B.isinstance_ L3.bt_isinstance (pa_cons (pv 1) (pa_cons (pe_bltn (v := .ty "bool") rfl B.bool_ L3.bt_bool rfl) pa_nil))) (fun _ => rfl)) (pss_one (ps_ret (pe_and (pe_callB call_isi rfl B.isinstance_ L3.bt_isinstance (pa_cons (pv 0) (pa_cons (pe_bltn (v := .ty "bool") rfl B.bool_ L3.bt_bool rfl) pa_nil))) (pe_one (pe_cmpR op_eq (pv 0) (pv 1) (nomark _)))))) pss_nil)
      (pss_cons (ps_if (pt_truth (pe_callB call_isi rfl B.isinstance_ L3.bt_isinstance (pa_cons (pv 1) (pa_cons (pe_bltn (v := .ty "tuple") rfl B.tuple_ L3.bt_tuple rfl) pa_nil))) (fun _ => rfl)) (pss_cons (ps_if (PW.pt (pw_or (pt_not (pt_truth (pe_callB call_isi rfl B.isinstance_ L3.bt_isinstance (pa_cons (pv 0) (pa_cons (pe_bltn (v := .ty "tuple") rfl B.tuple_ L3.bt_tuple rfl) pa_nil))) (fun _ => rfl))) (pw_or1 (pt_cmpR op_ne (pe_callB call_len_seq rfl B.len_ L3.bt_len (pa_cons (pv 0) pa_nil)) (pe_callB call_len_seq rfl B.len_ L3.bt_len (pa_cons (pv 1) pa_nil)) (nomark _))))) (pss_one (ps_ret pe_bl)) pss_nil)
      (pss_one (ps_ret (pe_callB (call_allL rfl) rfl B.all_ L3.bt_all (pa_cons (pe_comp [] ["_law_got", "_law_due_here", "_law_one_here", "_law_other"] 2 rfl (pi_zipT rfl B.zip_ (pa_cons (pv 0) (pa_cons (pv 1) pa_nil))) (fun _ _ _ _ _ => (pg_tupK K 2 rfl (pgs_cons (pg_name (i := 2) nd_1 rfl (Or.inl rfl) (Or.inr rfl)) (pgs_cons (pg_name (i := 3) nd_1 rfl (Or.inl rfl) (Or.inr rfl)) pgs_nil)) rfl rfl rfl)) (fun _ _ _ _ _ => pif_nil) (fun _ _ _ _ _ => (pe_fn g__law_same hr (pa_cons (pv 2) (pa_cons (pv 3) pa_nil))))) pa_nil))))) pss_nil)
      (pss_cons (ps_if (pt_truth (pe_callB call_isi rfl B.isinstance_ L3.bt_isinstance (pa_cons (pv 1) (pa_cons (pe_bltn (v := .ty "str") rfl B.str_ L3.bt_str rfl) pa_nil))) (fun _ => rfl)) (pss_one (ps_ret (pe_and (pe_callB call_isi rfl B.isinstance_ L3.bt_isinstance (pa_cons (pv 0) (pa_cons (pe_bltn (v := .ty "str") rfl B.str_ L3.bt_str rfl) pa_nil))) (pe_one (pe_cmpR op_eq (pv 0) (pv 1) (nomark _)))))) pss_nil)
      (pss_one (ps_ret (pe_and (pe_callB call_isi rfl B.isinstance_ L3.bt_isinstance (pa_cons (pv 0) (pa_cons (pe_bltn (v := .ty "int") rfl B.int_ L3.bt_int rfl) pa_nil))) (pe_and (pe_not (pe_callB call_isi rfl B.isinstance_ L3.bt_isinstance (pa_cons (pv 0) (pa_cons (pe_bltn (v := .ty "bool") rfl B.bool_ L3.bt_bool rfl) pa_nil)))) (pe_one (pe_cmpR op_eq (pv 0) (pv 1) (nomark _))))))))))), ?_⟩
  rcases hE with ⟨rfl, hs⟩ | ⟨a, b, xs, ys, rfl, rfl, h1, h2, hz, hp⟩
  · cases x with
    | non =>
      refine ⟨_, rfl, rfl, _, rfl, iteT ?_⟩
      refine ⟨_, rfl, rfl, ?_⟩
      exact q H (Same.refl _)
    | bl c =>
      refine ⟨_, rfl, rfl, _, rfl, iteF ?_⟩
      refine ⟨_, rfl, _, _, _, _, rfl, .bl c, ko_bb _, _, rfl, iteT ?_⟩
      refine ⟨_, rfl, _, _, _, _, rfl, .bl c, ko_bb _, _, rfl, iteT ?_⟩
      refine ⟨_, rfl, _, rfl, rfl, ?_⟩
      rw [decide_eq_true rfl]
      exact q H (Same.refl _)
    | int i =>
      refine ⟨_, rfl, rfl, _, rfl, iteF ?_⟩
      refine ⟨_, rfl, _, _, _, _, rfl, .int i, ko_ib _, _, rfl, iteF ?_⟩
      refine ⟨_, rfl, _, _, _, _, rfl, .int i, ko_it _, _, rfl, iteF ?_⟩
      refine ⟨_, rfl, _, _, _, _, rfl, .int i, ko_is _, _, rfl, iteF ?_⟩
      refine ⟨_, rfl, _, _, _, _, rfl, .int i, ko_ii _, _, rfl, iteT ?_⟩
      refine ⟨_, rfl, _, _, _, _, rfl, .int i, ko_ib _, _, rfl, _, rfl, iteT ?_⟩
      refine ⟨_, rfl, _, rfl, rfl, ?_⟩
      rw [decide_eq_true rfl]
      exact q H (Same.refl _)
    | str z =>
      refine ⟨_, rfl, rfl, _, rfl, iteF ?_⟩
      refine ⟨_, rfl, _, _, _, _, rfl, .str z, ko_sb _, _, rfl, iteF ?_⟩
      refine ⟨_, rfl, _, _, _, _, rfl, .str z, ko_st _, _, rfl, iteF ?_⟩
      refine ⟨_, rfl, _, _, _, _, rfl, .str z, ko_ss _, _, rfl, iteT ?_⟩
      refine ⟨_, rfl, _, _, _, _, rfl, .str z, ko_ss _, _, rfl, iteT ?_⟩
      refine ⟨_, rfl, _, rfl, rfl, ?_⟩
      rw [decide_eq_true rfl]
      exact q H (Same.refl _)
    | byt _ => cases hs
    | flt _ => cases hs
    | ref _ => cases hs
    | ty _ => cases hs
  · have hl : xs.length = ys.length := hp.length
    refine ⟨_, rfl, rfl, _, rfl, iteF ?_⟩
    refine ⟨_, rfl, _, _, _, _, rfl, .tup h2, ko_tb _, _, rfl, iteF ?_⟩
    refine ⟨_, rfl, _, _, _, _, rfl, .tup h2, ko_tt _, _, rfl, iteT ?_⟩
    refine ⟨_, rfl, _, _, _, _, rfl, .tup h1, ko_tt _, _, rfl, iteF ?_⟩
    refine ⟨_, rfl, a, _, rfl, .inr (SqT.of h1), _, rfl, b, _, rfl, .inr (SqT.of h2), rfl, _, rfl, iteNS (by rw [hl]) ?_⟩
    refine ⟨_, rfl, _, rfl, a, b, rfl, ⟨_, SqT.of h1⟩, ⟨_, SqT.of h2⟩, ?_⟩
    refine ⟨fun i m acc σ' H' => m = xs.length - i ∧ i ≤ xs.length ∧ acc = List.replicate i (V.bl true) ∧ Same H H' ∧ σ'.length = 4, ⟨xs.length, rfl, Nat.zero_le _, rfl, Same.refl _, rfl⟩, ?_⟩
    rintro i m acc σ' H' ⟨rfl, hi, rfl, hs, hσ⟩
    by_cases hlt : i < xs.length
    · refine .inr ⟨⟨xs, ys, xs[i], ys[i], SqT.of (hs _ _ h1), SqT.of (hs _ _ h2), List.getElem?_eq_getElem hlt, List.getElem?_eq_getElem (by omega)⟩, ?_, fun acc' σ2 H2 => acc' = List.replicate (i + 1) (V.bl true) ∧ Same H H2 ∧ σ2.length = 4, ?_, ?_⟩
      · rw [List.length_replicate]; exact smallL (by omega)
      · rintro acc' σ2 H2 ⟨rfl, s2, l2⟩
        exact ⟨xs.length - (i + 1), by omega, rfl, hlt, rfl, s2, l2⟩
      · rintro v H2 ⟨p, u, v', fp, rfl, rfl, e1, e2⟩
        have u1 := e1 xs (SqT.of (hs _ _ h1))
        have u2 := e2 ys (SqT.of (hs _ _ h2))
        have s2 : Same H (upd H' p (.tup [u, v'])) := hs.trans (same_new fp _)
        obtain ⟨o1, o2, o3, o4, rfl⟩ : ∃ o1 o2 o3 o4, σ' = [o1, o2, o3, o4] := by
          match σ', hσ with
          | [o1, o2, o3, o4], _ => exact ⟨o1, o2, o3, o4, rfl⟩
        refine ⟨p, _, rfl, SqT.of upd_same, rfl, _, _, rfl, _, _, rfl, rfl, ?_⟩
        refine ⟨_, rfl, _, rfl, u, v', rfl, (paired_at hp u1 u2).same s2, fun H3 s3 => ⟨?_, s2.trans s3, rfl⟩⟩
        rw [List.replicate_succ']
    · have e : i = xs.length := by omega
      refine .inl ⟨⟨xs, ys, SqT.of (hs _ _ h1), SqT.of (hs _ _ h2), .inl (by omega)⟩, ?_, fun D fD => ?_⟩
      · rw [List.length_replicate]; exact small (by omega)
      · refine ⟨D, List.replicate i true, rfl, SqL.of (by rw [upd_same, List.map_replicate]), ?_⟩
        have e2 : (List.replicate i true).all id = true := by simp
        rw [e2]
        exact q _ (hs.trans (same_new fD _))
end
theorem ok__law_same0 {P : Program} {w : World} {K : PySem.W.Frag} {mg : Str → Option Value} {base : Heap} {f : Addr} {fd : FuncData} {ps : List Str} {sp : Sp} (no : ∀ vs H Q E, ¬ sp vs H Q E) : FnOk P w K mg base CX0 0 f fd ps sp :=
  ⟨fun vs H Q E h => absurd h (no vs H Q E), fun A outer s H args us vs Q E _ _ _ _ h => absurd h (no vs H Q E)⟩
section
variable {P : Program} {w : World} {K : PySem.W.Frag} {mg : Str → Option Value} {base : Heap} {f : Addr} {fd : FuncData}
theorem ok__law_bits (F__law_bits : Fun K "_law_bits" "_law_bits" s__law_bits f fd) (B : Bl mg) (g__law_draw : Fn P w K mg base "_law_draw" p__law_draw 1 (spDraw K)) : FnOk P w K mg base CX0 2 f fd p__law_bits (spBits K) := by
  refine F__law_bits.ok sc__law_bits (fun vs H Q E h => ?_) (fun cdv A outer s H vs Q E hr h => ?_)
  · obtain ⟨a, t, ns, k, m, rfl, _⟩ := h
    rfl
  obtain ⟨a, t, ns, k, m, rfl, hS, h63, hT, hk, hm, hm2, q⟩ := h
  refine ⟨_, (pss_one (ps_ret (pe_callTy call_tuple_of rfl B.tuple_ L3.bt_tuple (pa_cons (pe_comp [] ["_law_script", "_law_town", "_law_most", "_law_k"] 1 rfl (pi_range1 rfl B.range_ (pa_cons (pe_fn g__law_draw hr (pa_cons (pv 0) (pa_cons (pv 1) (pa_cons (pe_op op_add (pv 2) pe_int) pa_nil)))) pa_nil)) (fun _ _ _ _ _ => (pg_name (i := 3) nd_2 rfl (Or.inl rfl) (Or.inr rfl))) (fun _ _ _ _ _ => pif_nil) (fun _ _ _ _ _ => (pe_fn g__law_draw hr (pa_cons (pv 0) (pa_cons (pv 1) (pa_cons pe_int pa_nil)))))) pa_nil)))), ?_⟩
  refine ⟨_, rfl, _, rfl, _, rfl, _, _, rfl, rfl, a, t, ns, k, m + 1, rfl, hS, h63, hT, by omega, by omega, fun H1 g1 t1 => ?_⟩
  have n0 := drw_nn ns (k + 1) (show 0 < m + 1 by omega)
  have n1 := drw_lt ns (k + 1) (show 0 < m + 1 by omega)
  refine ⟨_, rfl, by omega, by omega, ?_⟩
  generalize hn : (drw ns (k + 1) (m + 1)).toNat = n at q ⊢
  have hn2 : n ≤ 1000 := by omega
  refine ⟨fun i mm acc σ' H' => mm = n - i ∧ i ≤ n ∧ acc = (dbits ns (k + 1) i).map V.int ∧ Grow t H H' ∧ Twn H' t (k + 1 + i) ∧ ∃ o, σ' = [some (.ref a), some (.ref t), some (.int m), o], ⟨n, rfl, Nat.zero_le _, rfl, g1, t1, _, rfl⟩, ?_⟩
  rintro i mm acc σ' H' ⟨rfl, hi, rfl, gH, tH, o, rfl⟩
  by_cases hlt : i < n
  · refine .inr ⟨hlt, ?_, fun acc' σ2 H2 => acc' = (dbits ns (k + 1) (i + 1)).map V.int ∧ Grow t H H2 ∧ Twn H2 t (k + 1 + (i + 1)) ∧ ∃ o, σ2 = [some (.ref a), some (.ref t), some (.int m), o], ?_, ?_⟩
    · rw [List.length_map, dbits_length]; exact smallL (by omega)
    · rintro acc' σ2 H2 ⟨rfl, g2, t2, o2⟩
      exact ⟨n - (i + 1), by omega, rfl, hlt, rfl, g2, t2, o2⟩
    · rintro v H2 ⟨rfl, rfl⟩
      refine ⟨_, rfl, _, rfl, a, t, ns, k + 1 + i, 2, rfl, gH.scr hT hS, h63, tH, by omega, by decide, fun H3 g3 t3 => ⟨?_, gH.trans g3, t3, _, rfl⟩⟩
      rw [dbits_succ, List.map_append]
      rfl
  · have e : i = n := by omega
    subst e
    refine .inl ⟨Nat.le_refl _, ?_, fun D fD => ?_⟩
    · rw [List.length_map, dbits_length]; exact small (by omega)
    · refine ⟨D, _, rfl, .inl ⟨SqL.of upd_same, fun l fl => ?_⟩⟩
      have s1 : Same H' (upd (upd H' D (.lst ((dbits ns (k + 1) i).map V.int))) l (.tup ((dbits ns (k + 1) i).map V.int))) := (same_new fD _).trans (same_new fl _)
      exact q l _ (gH.trans (.same s1)) (s1.twn tH) upd_same
end
theorem rp : ¬ (("row" : Str) = "place") := by decide +kernel
def flds (r : Addr) (z : Int) : List (Str × V) := putF "place" (.int z) (putF "row" (.ref r) [])
theorem flds_eq (r : Addr) (z : Int) : flds r z = ([("row", V.ref r), ("place", V.int z)] : List (Str × V)) := by
  show (if ("row" : Str) = "place" then [(("row" : Str), V.int z)] else (("row" : Str), V.ref r) :: putF "place" (V.int z) []) = ([("row", V.ref r), ("place", V.int z)] : List (Str × V))
  rw [if_neg rp]
  all_goals rfl
theorem flds_row (r : Addr) (z : Int) : (flds r z).lookup ("row" : Str) = some (.ref r) := by
  unfold flds
  rw [lookup_putF, if_neg rp, lookup_putF, if_pos rfl]
theorem flds_place (r : Addr) (z : Int) : (flds r z).lookup ("place" : Str) = some (.int z) := by
  unfold flds
  rw [lookup_putF, if_pos rfl]
theorem flds_no (r : Addr) (z : Int) {m : Str} (h1 : ¬ m = "place") (h2 : ¬ m = "row") : (flds r z).lookup m = none := by
  unfold flds
  rw [lookup_putF, if_neg h1, lookup_putF, if_neg h2]
  all_goals rfl
theorem flds_put (r : Addr) (z y : Int) : putF "place" (.int y) (flds r z) = flds r y := by
  rw [flds_eq, flds_eq]
  show (if ("row" : Str) = "place" then _ else (("row" : Str), V.ref r) :: (if ("place" : Str) = "place" then [(("place" : Str), V.int y)] else _)) = ([("row", V.ref r), ("place", V.int y)] : List (Str × V))
  rw [if_neg rp, if_pos rfl]
theorem flds_lt (r : Addr) (z : Int) : (flds r z).length < 1000 := by
  rw [flds_eq]
  show 2 < 1000
  decide
structure Txt (K : PySem.W.Frag) (mg : Str → Option Value) (C fI fT fU fL fG : Addr) (dI dT dU dL dG : FuncData) : Prop where
  cl : Cls K C
  nR : NoAttr K C "row"
  nP : NoAttr K C "place"
  mgC : mg "Bits" = some (.ref C)
  made : Mk K C fI
  m_take : Meth K C "take" fT
  m_used : Meth K C "used" fU
  m_left : Meth K C "left" fL
  m_go_back : Meth K C "go_back" fG
  b_init : Binds K dI p_Bits___init__ []
  b_take : Binds K dT p_Bits_take []
  b_used : Binds K dU p_Bits_used []
  b_left : Binds K dL p_Bits_left []
  b_go_back : Binds K dG p_Bits_go_back []
def spInit (C : Addr) : Sp := fun vs H Q _ => ∃ (p dx r : Addr) (xs : List V), vs = [.ref p, .ref r] ∧ H p = some (.ins C dx []) ∧ H r = some (.tup xs) ∧
  ∀ H', H' p = some (.ins C dx (flds r 0)) → (∀ b o, H b = some o → b ≠ p → H' b = some o) → Q .non H'
def spUsed (C : Addr) : Sp := fun vs H Q _ => ∃ (p dx r : Addr) (z : Nat), vs = [.ref p] ∧ H p = some (.ins C dx (flds r z)) ∧ Q (.int z) H
def spLeft (C : Addr) : Sp := fun vs H Q _ => ∃ (p dx r : Addr) (xs : List V) (z : Nat), vs = [.ref p] ∧ H p = some (.ins C dx (flds r z)) ∧ H r = some (.tup xs) ∧ Q (.int ((xs.length : Int) - (z : Int))) H
def spTake (C CN : Addr) : Sp := fun vs H Q E => ∃ (p dx r : Addr) (xs : List V) (z : Nat), vs = [.ref p] ∧ H p = some (.ins C dx (flds r z)) ∧ H r = some (.tup xs) ∧ z ≤ xs.length ∧
  (∀ v, xs[z]? = some v → Q v (upd H p (.ins C dx (flds r ((z + 1 : Nat) : Int))))) ∧ (z = xs.length → E (.ref CN) none H)
def spBackH (C : Addr) : Sp := fun vs H Q _ => ∃ (p dx r : Addr) (z m : Nat), vs = [.ref p, .int m] ∧ H p = some (.ins C dx (flds r z)) ∧ m ≤ z ∧ Q .non (upd H p (.ins C dx (flds r m)))
section
variable {P : Program} {w : World} {K : PySem.W.Frag} {mg : Str → Option Value} {base : Heap} {f C fI fT fU fL fG CN CP : Addr} {fd dI dT dU dL dG : FuncData} {mN mP : List Value}
theorem ok_init (F_Bits___init__ : Fun K "__init__" "Bits.__init__" s_Bits___init__ f fd) (B : Bl mg) (T : Txt K mg C fI fT fU fL fG dI dT dU dL dG) : FnOk P w K mg base CX0 1 f fd p_Bits___init__ (spInit C) := by
  refine F_Bits___init__.ok sc_Bits___init__ (fun vs H Q E h => ?_) (fun cdv A outer s H vs Q E hr h => ?_)
  · obtain ⟨p, dx, r, xs, rfl, _⟩ := h
    rfl
  obtain ⟨p, dx, r, xs, rfl, hp, hR, q⟩ := h
  refine ⟨_, (pss_cons (ps_fld (pv 0) (pe_callTy call_tuple_of rfl B.tuple_ L3.bt_tuple (pa_cons (pv 1) pa_nil)) rfl)
      (pss_one (ps_fld (pv 0) pe_int rfl))), ?_⟩
  refine ⟨_, rfl, r, xs, rfl, .inr ⟨SqT.of hR, _, rfl, p, C, dx, [], rfl, hp, T.cl, T.nR, (by show 0 < 1000; decide), ?_⟩⟩
  refine ⟨_, rfl, p, C, dx, _, rfl, upd_same, T.cl, T.nP, (by show 1 < 1000; decide), ?_⟩
  refine q _ upd_same fun b o e hb => ?_
  rw [upd_ne hb, upd_ne hb]
  exact e
theorem ok_used (F_Bits_used : Fun K "used" "Bits.used" s_Bits_used f fd) (T : Txt K mg C fI fT fU fL fG dI dT dU dL dG) : FnOk P w K mg base CX0 1 f fd p_Bits_used (spUsed C) := by
  refine F_Bits_used.ok sc_Bits_used (fun vs H Q E h => ?_) (fun cdv A outer s H vs Q E hr h => ?_)
  · obtain ⟨p, dx, r, z, rfl, _⟩ := h
    rfl
  obtain ⟨p, dx, r, z, rfl, hp, q⟩ := h
  refine ⟨_, (pss_one (ps_ret (pe_fld (pv 0) rfl))), ?_⟩
  exact ⟨_, rfl, p, C, dx, _, _, rfl, hp, T.cl, T.nP, flds_place _ _, q⟩
theorem ok_left (F_Bits_left : Fun K "left" "Bits.left" s_Bits_left f fd) (B : Bl mg) (T : Txt K mg C fI fT fU fL fG dI dT dU dL dG) : FnOk P w K mg base CX0 1 f fd p_Bits_left (spLeft C) := by
  refine F_Bits_left.ok sc_Bits_left (fun vs H Q E h => ?_) (fun cdv A outer s H vs Q E hr h => ?_)
  · obtain ⟨p, dx, r, xs, z, rfl, _⟩ := h
    rfl
  obtain ⟨p, dx, r, xs, z, rfl, hp, hR, q⟩ := h
  refine ⟨_, (pss_one (ps_ret (pe_op op_sub (pe_callB call_len_seq rfl B.len_ L3.bt_len (pa_cons (pe_fld (pv 0) rfl) pa_nil)) (pe_fld (pv 0) rfl)))), ?_⟩
  exact ⟨_, rfl, p, C, dx, _, _, rfl, hp, T.cl, T.nR, flds_row _ _, r, xs, rfl, .inr (SqT.of hR), _, rfl, p, C, dx, _, _, rfl, hp, T.cl, T.nP, flds_place _ _, _, _, rfl, rfl, q⟩
theorem ok_take (F_Bits_take : Fun K "take" "Bits.take" s_Bits_take f fd) (T : Txt K mg C fI fT fU fL fG dI dT dU dL dG) (X_NoBits : Exc K mg "NoBits" CN mN) (g_left : FnOk P w K mg base CX0 1 fL dL p_Bits_left (spLeft C)) : FnOk P w K mg base (CXR P w) 2 f fd p_Bits_take (spTake C CN) := by
  refine F_Bits_take.okX sc_Bits_take (fun vs H Q E h => ?_) (fun cdv A outer s H vs Q E hr h => ?_)
  · obtain ⟨p, dx, r, xs, z, rfl, _⟩ := h
    rfl
  obtain ⟨p, dx, r, xs, z, rfl, hp, hR, hz, q, e⟩ := h
  refine ⟨_, (pss_cons (ps_if (pt_cmpR op_eq (pe_meth0 (pv 0) T.cl T.m_left g_left (hr.mono (by first | decide | omega)) T.b_left .nil pass0) pe_int (nomark _)) (pss_one (ps_raise X_NoBits (pa_cons pe_str pa_nil))) pss_nil)
      (pss_cons (ps_set (i := 1) sc_Bits_take.nd rfl (Or.inl rfl) (pe_ix ix_tup (pe_fld (pv 0) rfl) (pe_fld (pv 0) rfl) (fun _ _ => rfl)))
      (pss_cons (ps_fld (pv 0) (pe_op op_add (pe_fld (pv 0) rfl) pe_int) rfl)
      (pss_one (ps_ret (pv 1)))))), ?_⟩
  refine ⟨_, rfl, p, dx, _, rfl, hp, flds_no _ _ (by decide +kernel) (by decide +kernel), p, dx, r, xs, z, rfl, hp, hR, rfl, _, rfl, ?_⟩
  refine ite2 (fun c => ?_) (fun c => ?_)
  · have c' : V.int ((xs.length : Int) - (z : Int)) = V.int 0 := of_decide_eq_true c
    injection c' with c'
    exact ⟨(by show 1 ≤ sizeLine; decide), e (by omega)⟩
  · have c' : ¬ V.int ((xs.length : Int) - (z : Int)) = V.int 0 := of_decide_eq_false (Bool.eq_false_iff.mpr c)
    have hlt : z < xs.length := by
      rcases Nat.lt_or_ge z xs.length with y | y
      · exact y
      · exact absurd (by rw [show (xs.length : Int) - (z : Int) = 0 by omega]) c'
    have hv := List.getElem?_eq_getElem hlt
    refine ⟨_, rfl, p, C, dx, _, _, rfl, hp, T.cl, T.nR, flds_row _ _, _, rfl, p, C, dx, _, _, rfl, hp, T.cl, T.nP, flds_place _ _, r, xs, _, _, rfl, rfl, SqT.of hR, atI_nat hv, ?_⟩
    refine ⟨_, rfl, p, C, dx, _, _, rfl, hp, T.cl, T.nP, flds_place _ _, _, _, rfl, rfl, _, rfl, p, C, dx, _, rfl, hp, T.cl, T.nP, flds_lt _ _, ?_⟩
    refine ⟨_, rfl, ?_⟩
    rw [flds_put]
    exact q _ hv
theorem okH_go_back (F_Bits_go_back : Fun K "go_back" "Bits.go_back" s_Bits_go_back f fd) (T : Txt K mg C fI fT fU fL fG dI dT dU dL dG) : FnOkH P w K mg base 1 f fd p_Bits_go_back (spBackH C) := by
  refine F_Bits_go_back.okH sc_Bits_go_back (fun vs H Q E h => ?_) (fun cdv A outer s H vs Q E h => ?_)
  · obtain ⟨p, dx, r, z, m, rfl, _⟩ := h
    rfl
  obtain ⟨p, dx, r, z, m, rfl, hp, hm, q⟩ := h
  refine ⟨_, (pss_cons (ps_if (PW.pt (pw_or (pt_cmpR op_lt (pv 1) pe_int (nomark _)) (pw_or1 (pt_cmpR op_gt (pv 1) (pe_fld (pv 0) rfl) (nomark _))))) (pss_one ps_never) pss_nil)
      (pss_one (ps_fld (pv 0) (pv 1) rfl))), ?_⟩
  refine ⟨_, rfl, _, _, rfl, rfl, _, rfl, ?_⟩
  refine ite2 (fun c => ?_) (fun c => ?_)
  · have c' : (m : Int) < 0 := of_decide_eq_true c
    omega
  · refine ⟨_, rfl, _, rfl, p, C, dx, _, _, rfl, hp, T.cl, T.nP, flds_place _ _, _, _, rfl, rfl, _, rfl, ?_⟩
    refine ite2 (fun c2 => ?_) (fun c2 => ?_)
    · have c3 : (m : Int) > (z : Int) := of_decide_eq_true c2
      omega
    · refine ⟨_, rfl, _, rfl, p, C, dx, _, rfl, hp, T.cl, T.nP, flds_lt _ _, ?_⟩
      rw [flds_put]
      exact q
end
theorem lo62 (n : Nat) : (-(2 ^ 62) : Int) ≤ (n : Int) := Int.le_trans (by decide) (Int.natCast_nonneg n)
theorem hi62 {n : Nat} (h : n ≤ 1000000) : (n : Int) < 2 ^ 62 := Int.lt_of_le_of_lt (Int.ofNat_le.mpr h) (by decide)
theorem nat_of {z : Int} (h : 0 ≤ z) : ∃ n : Nat, z = (n : Int) := ⟨z.toNat, by omega⟩
abbrev vbits (bl : List Nat) : List V := bl.map fun (b : Nat) => V.int (b : Int)
structure At (C : Addr) (H : Hp) (b dx r : Addr) (bl : List Nat) (z : Nat) : Prop where
  obj : H b = some (.ins C dx (flds r z))
  row : H r = some (.tup (vbits bl))
  le : z ≤ bl.length
theorem At.same {C : Addr} {H H' : Hp} {b dx r : Addr} {bl : List Nat} {z : Nat} (h : At C H b dx r bl z) (s : Same H H') : At C H' b dx r bl z := ⟨s _ _ h.obj, s _ _ h.row, h.le⟩
theorem At.ne {C : Addr} {H : Hp} {b dx r : Addr} {bl : List Nat} {z : Nat} (h : At C H b dx r bl z) : r ≠ b := fun e => by
  have a := h.row
  rw [e, h.obj] at a
  cases a
theorem At.grow {C t : Addr} {H H' : Hp} {b dx r : Addr} {bl : List Nat} {z : Nat} (h : At C H b dx r bl z) (s : Grow t H H') (hb : b ≠ t) (hr : r ≠ t) : At C H' b dx r bl z := ⟨s _ _ hb h.obj, s _ _ hr h.row, h.le⟩
theorem At.to {C : Addr} {H : Hp} {b dx r : Addr} {bl : List Nat} {z : Nat} (h : At C H b dx r bl z) {y : Nat} (hy : y ≤ bl.length) : At C (upd H b (.ins C dx (flds r y))) b dx r bl y := ⟨upd_same, by rw [upd_ne h.ne]; exact h.row, hy⟩
theorem vbits_at {bl : List Nat} {z : Nat} {v : V} (h : (vbits bl)[z]? = some v) : ∃ x, bl[z]? = some x ∧ v = .int (x : Int) := by
  rw [List.getElem?_map] at h
  cases e : bl[z]? with
  | none => rw [e] at h; cases h
  | some x => rw [e] at h; exact ⟨x, rfl, (Option.some.inj h).symm⟩
theorem vbits_len (bl : List Nat) : (vbits bl).length = bl.length := List.length_map _
def spTakeB (C CN : Addr) : Sp := fun vs H Q E => ∃ (b dx r : Addr) (bl : List Nat) (z : Nat), vs = [.ref b] ∧ At C H b dx r bl z ∧
  (∀ x H', bl[z]? = some x → Grow b H H' → At C H' b dx r bl (z + 1) → Q (.int (x : Int)) H') ∧ (z = bl.length → E (.ref CN) none H)
theorem take_imp {C CN : Addr} : ∀ vs H Q E, spTakeB C CN vs H Q E → spTake C CN vs H Q E := by
  rintro vs H Q E ⟨b, dx, r, bl, z, rfl, hA, q, e⟩
  refine ⟨b, dx, r, vbits bl, z, rfl, hA.obj, hA.row, by rw [vbits_len]; exact hA.le, fun v hv => ?_, fun hz => e (by rw [vbits_len] at hz; exact hz)⟩
  obtain ⟨x, hx, rfl⟩ := vbits_at hv
  have hlt : z < bl.length := by
    rcases Nat.lt_or_ge z bl.length with y | y
    · exact y
    · rw [List.getElem?_eq_none y] at hx; cases hx
  exact q x _ hx (Grow.upd _) (hA.to hlt)
def spRaw {α : Type} (C CN : Addr) (Sh : Hp → V → α → Prop) (F : α → List Nat → Option (V × Nat)) : Sp := fun vs H Q E => ∃ (b dx r : Addr) (bl : List Nat) (z : Nat) (x : V) (a : α), vs = [.ref b, x] ∧ At C H b dx r bl z ∧ Sh H x a ∧
  (∀ v u H', F a (bl.drop z) = some (v, u) → Grow b H H' → At C H' b dx r bl (z + u) → Q v H') ∧
  (∀ z' H', F a (bl.drop z) = none → z ≤ z' → Grow b H H' → At C H' b dx r bl z' → E (.ref CN) none H')
def spDone {α : Type} (C CN : Addr) (Sh : Hp → V → α → Prop) (F : α → List Nat → Option (V × Nat)) : Sp := fun vs H Q E => ∃ (b dx r : Addr) (bl : List Nat) (z : Nat) (x : V) (a : α), vs = [.ref b, x] ∧ At C H b dx r bl z ∧ Sh H x a ∧
  (∀ v u H', F a (bl.drop z) = some (v, u) → Grow b H H' → At C H' b dx r bl (z + u) → Q v H') ∧
  (∀ H', F a (bl.drop z) = none → Grow b H H' → At C H' b dx r bl z → E (.ref CN) none H')
def spDW (P : Program) (w : World) (K : PySem.W.Frag) (mg : Str → Option Value) (base : Heap) (k0 : Nat) (C CN : Addr) : Sp := fun vs H Q E => ∃ (b dx r f : Addr) (bl : List Nat) (z : Nat) (x : V) (fd : FuncData) (ps : List Str) (k : Nat) (sp : Sp),
  vs = [.ref b, .ref f, x] ∧ FnOk P w K mg base (CXR P w) k f fd ps sp ∧ k ≤ k0 ∧ PySem.W.keepIn K (.ref f) = true ∧ Binds K fd ps [] ∧ At C H b dx r bl z ∧
  ∀ Ex : XK, (∀ z' H1, z ≤ z' → At C H1 b dx r bl z' → (∀ H2, Grow b H1 H2 → At C H2 b dx r bl z → E (.ref CN) none H2) → Ex (.ref CN) none H1) → sp [.ref b, x] H Q Ex
theorem dw_of {α : Type} {P : Program} {w : World} {K : PySem.W.Frag} {mg : Str → Option Value} {base : Heap} {k k0 : Nat} {C CN f : Addr} {fd : FuncData} {ps : List Str} {x : Str} {Sh : Hp → V → α → Prop} {F : α → List Nat → Option (V × Nat)} (G : FnX P w K mg base x f fd ps k (spRaw C CN Sh F)) (hk : k ≤ k0)
    {b dx r : Addr} {bl : List Nat} {z : Nat} {y : V} {a : α} {H : Hp} {Q : VK} {E : XK} (hA : At C H b dx r bl z) (hS : Sh H y a) (q : ∀ v u H', F a (bl.drop z) = some (v, u) → Grow b H H' → At C H' b dx r bl (z + u) → Q v H')
    (e : ∀ H', F a (bl.drop z) = none → Grow b H H' → At C H' b dx r bl z → E (.ref CN) none H') : spDW P w K mg base k0 C CN [.ref b, .ref f, y] H Q E :=
  ⟨b, dx, r, f, bl, z, y, fd, ps, k, _, rfl, G.ok, hk, G.kp, G.bd, hA, fun Ex hE => ⟨b, dx, r, bl, z, y, a, rfl, hA, hS, q, fun z' H1 n1 l1 g1 a1 => hE z' H1 l1 a1 fun H2 g2 a2 => e H2 n1 (g1.trans g2) a2⟩⟩
section
variable {P : Program} {w : World} {K : PySem.W.Frag} {mg : Str → Option Value} {base : Heap} {f C fI fT fU fL fG CN : Addr} {fd dI dT dU dL dG : FuncData} {mN : List Value}
theorem ok_drawn_whole {k0 : Nat} (F_drawn_whole : Fun K "drawn_whole" "drawn_whole" s_drawn_whole f fd) (T : Txt K mg C fI fT fU fL fG dI dT dU dL dG) (X_NoBits : Exc K mg "NoBits" CN mN) (hNN : mN.contains (.ref CN) = true) (g_used : FnOk P w K mg base CX0 1 fU dU p_Bits_used (spUsed C)) (gH_go_back : FnOkH P w K mg base 1 fG dG p_Bits_go_back (spBackH C)) :
    FnOk P w K mg base (CXR P w) (k0 + 1 + 1) f fd p_drawn_whole (spDW P w K mg base (k0 + 1) C CN) := by
  refine F_drawn_whole.okX sc_drawn_whole (fun vs H Q E h => ?_) (fun cdv A outer s H vs Q E hr h => ?_)
  · obtain ⟨b, dx, r, f, bl, z, x, fd, ps, k, sp, rfl, _⟩ := h
    rfl
  obtain ⟨b, dx, r, f', bl, z, x, fd', ps', k, sp, rfl, F, hk, kp, hb, hA, q⟩ := h
  refine ⟨_, (pss_cons (ps_set (i := 3) sc_drawn_whole.nd rfl (Or.inl rfl) (pe_meth0 (pv 0) T.cl T.m_used g_used (hr.mono (by first | decide | omega)) T.b_used .nil pass0))
      (pss_one (ps_try (psx_ret (px_callV 1 (pv 1) hr (pa_cons (pv 0) (pa_cons (pv 2) pa_nil)))) (Hs.cons X_NoBits rfl (by decide) (fun y ps ok hd => (pss_cons (ps_expr (pe_methH (pv 0) T.cl T.m_go_back gH_go_back ((hr.mono (by first | decide | omega)).h _) T.b_go_back (pa_cons (pv 3) pa_nil)))
      (pss_one (ps_raiseH ok hd X_NoBits (pa_cons pe_str pa_nil))))) .nil) rfl rfl (fun _ => PassesOwnAt.leaving)))), ?_⟩
  refine ⟨_, rfl, b, dx, _, rfl, hA.obj, flds_no _ _ (by decide +kernel) (by decide +kernel), b, dx, r, z, rfl, hA.obj, ?_⟩
  refine ⟨f', fd', k, ps', sp, rfl, F, hk, kp, hb, _, rfl, _, rfl, q _ fun z' H1 hz hA1 e => ?_⟩
  refine ⟨"NoBits", CN, mN, _, rfl, X_NoBits, if_pos hNN, ?_⟩
  refine ⟨_, rfl, b, dx, _, rfl, hA1.obj, flds_no _ _ (by decide +kernel) (by decide +kernel), _, rfl, b, dx, r, z', z, rfl, hA1.obj, hz, ?_⟩
  exact ⟨(by show 1 ≤ sizeLine; decide), e _ (Grow.upd _) (hA1.to hA.le)⟩
end
theorem drop_at {bl : List Nat} {z x : Nat} (h : bl[z]? = some x) : bl.drop z = x :: bl.drop (z + 1) := by
  have hlt : z < bl.length := by
    rcases Nat.lt_or_ge z bl.length with y | y
    · exact y
    · rw [List.getElem?_eq_none y] at h; cases h
  rw [List.drop_eq_getElem_cons hlt]
  rw [List.getElem?_eq_getElem hlt] at h
  rw [Option.some.inj h]
def vnats (l : List Nat) : List V := l.map fun (n : Nat) => V.int (n : Int)
theorem vnats_ints (l : List Nat) : vnats l = (l.map fun (n : Nat) => (n : Int)).map V.int := by rw [List.map_map]; rfl
theorem vnats_at {l : List Nat} {j : Nat} (h : j < l.length) : (vnats l)[j]? = some (V.int (l.getD j 0 : Int)) := by
  rw [vnats, List.getElem?_map, List.getElem?_eq_getElem h, List.getD_eq_getElem?_getD, List.getElem?_eq_getElem h]
  rfl
theorem vnats_len (l : List Nat) : (vnats l).length = l.length := List.length_map _
theorem sum_nats : ∀ l : List Nat, (l.map fun (n : Nat) => (n : Int)).sum = ((l.sum : Nat) : Int)
  | [] => rfl
  | a :: l => by rw [List.map_cons, List.sum_cons, List.sum_cons, sum_nats l, Int.natCast_add]
theorem vnats_in (T : Nat) (l : List Nat) : inV (V.int (T : Int)) (vnats l) = decide (T ∈ l) := by
  unfold inV vnats
  rw [Bool.eq_iff_iff, List.any_eq_true, decide_eq_true_iff]
  constructor
  · rintro ⟨x, hx, e⟩
    obtain ⟨n, hn, rfl⟩ := List.mem_map.mp hx
    have e' : ((n : Int) == (T : Int)) = true := e
    have : n = T := by have := eq_of_beq e'; omega
    exact this ▸ hn
  · intro h
    exact ⟨_, List.mem_map.mpr ⟨T, h, rfl⟩, by show ((T : Int) == (T : Int)) = true; simp⟩
theorem vnats_flat (l : List Nat) : (vnats l).all flatV = true := by
  rw [List.all_eq_true]
  intro x hx
  obtain ⟨n, _, rfl⟩ := List.mem_map.mp hx
  rfl
theorem idx_at {T : Nat} {l : List Nat} (h : T ∈ l) : (l.map fun (n : Nat) => (n : Int))[l.idxOf T]? = some (T : Int) ∧ ∀ i, i < l.idxOf T → (l.map fun (n : Nat) => (n : Int))[i]? ≠ some (T : Int) := by
  have hl : l.idxOf T < l.length := List.idxOf_lt_length_of_mem h
  refine ⟨?_, fun i hi e => ?_⟩
  · rw [List.getElem?_map, List.getElem?_eq_getElem hl, List.getElem_idxOf hl]
    rfl
  · have hil : i < l.length := Nat.lt_trans hi hl
    rw [List.getElem?_map, List.getElem?_eq_getElem hil] at e
    have e' : ((l[i] : Nat) : Int) = (T : Int) := Option.some.inj e
    exact absurd (show l[i] = T by omega) (by simpa using List.not_of_lt_findIdx (p := fun x => x == T) hi)
def digs (T : Nat) (rs : List Nat) : List Nat := (List.range rs.length).filter fun i => decide (T ≤ 2 * rs.getD i 0)
def stepR (T : Nat) (rs : List Nat) : List Nat := rs.map fun r => 2 * r % T
def pkR (T : Nat) : List Nat → Nat → Nat → List Nat → Option (Nat × Nat)
  | _, _, _, [] => none
  | rs, p, u, b :: bs => if 2 * p + b < (digs T rs).length then some ((digs T rs).getD (2 * p + b) 0, u + 1) else pkR T (stepR T rs) (2 * p + b - (digs T rs).length) (u + 1) bs
theorem mem_digs {T : Nat} {rs : List Nat} {j : Nat} : j ∈ digs T rs ↔ j < rs.length ∧ T ≤ 2 * rs.getD j 0 := by
  unfold digs
  rw [List.mem_filter, List.mem_range, decide_eq_true_iff]
theorem fig_hand {w T d : Nat} (hT : 0 < T) : (w * 2 ^ (d + 1) / T % 2 = 1) ↔ T ≤ 2 * (w * 2 ^ d % T) := by
  have e : w * 2 ^ (d + 1) = 2 * (w * 2 ^ d % T) + 2 * (w * 2 ^ d / T) * T := by
    have := Nat.div_add_mod (w * 2 ^ d) T
    rw [Nat.pow_succ, ← Nat.mul_assoc]
    have h2 : 2 * (w * 2 ^ d / T) * T = 2 * (T * (w * 2 ^ d / T)) := by rw [Nat.mul_assoc, Nat.mul_comm (w * 2 ^ d / T)]
    omega
  have hr := Nat.mod_lt (w * 2 ^ d) hT
  rw [e, Nat.add_mul_div_right _ _ hT]
  generalize w * 2 ^ d % T = r at hr
  generalize w * 2 ^ d / T = q
  by_cases c : T ≤ 2 * r
  · have : 2 * r / T = 1 := by
      rw [Nat.div_eq_sub_div hT c, Nat.div_eq_of_lt (by omega)]
    omega
  · have : 2 * r / T = 0 := Nat.div_eq_of_lt (by omega)
    omega
theorem rest_hand {w T d : Nat} : 2 * (w * 2 ^ d % T) % T = w * 2 ^ (d + 1) % T := by
  rw [Nat.pow_succ, ← Nat.mul_assoc, Nat.mul_comm (w * 2 ^ d) 2, Nat.mul_mod_mod]
def figs (T : Nat) (rs : List Nat) (i : Nat) : List Nat := (List.range i).filter fun k => decide (T ≤ 2 * rs.getD k 0)
theorem figs_all (T : Nat) (rs : List Nat) : figs T rs rs.length = digs T rs := rfl
theorem figs_len (T : Nat) (rs : List Nat) (i : Nat) : (figs T rs i).length ≤ i := Nat.le_trans (List.length_filter_le _ _) (by rw [List.length_range]; exact Nat.le_refl _)
theorem figs_yes {T : Nat} {rs : List Nat} {i : Nat} (h : T ≤ 2 * rs.getD i 0) : vnats (figs T rs (i + 1)) = vnats (figs T rs i) ++ [V.int (i : Int)] := by
  unfold figs
  rw [List.range_succ, List.filter_append, vnats, vnats, List.map_append, List.filter_cons_of_pos (by simpa using h)]
  rfl
theorem figs_no {T : Nat} {rs : List Nat} {i : Nat} (h : ¬ T ≤ 2 * rs.getD i 0) : vnats (figs T rs (i + 1)) = vnats (figs T rs i) := by
  unfold figs
  rw [List.range_succ, List.filter_append, vnats, vnats, List.map_append, List.filter_cons_of_neg (by simpa using h)]
  exact List.append_nil _
theorem step_more {T : Nat} {rs : List Nat} {i : Nat} (h : i < rs.length) : vnats (stepR T (rs.take (i + 1))) = vnats (stepR T (rs.take i)) ++ [V.int ((2 * rs.getD i 0 % T : Nat) : Int)] := by
  rw [List.take_add_one, List.getElem?_eq_getElem h, List.getD_eq_getElem?_getD, List.getElem?_eq_getElem h]
  unfold stepR vnats
  rw [List.map_append, List.map_append]
  rfl
theorem step_len (T : Nat) (rs : List Nat) : (stepR T rs).length = rs.length := List.length_map _
def pkF (ws bs : List Nat) : Option (Nat × Nat) := if ws.sum ∈ ws then some (ws.idxOf ws.sum, 0) else pkR ws.sum ws 0 0 bs
def pkV (ws bs : List Nat) : Option (V × Nat) := (pkF ws bs).map fun p => (V.int (p.1 : Int), p.2)
def ShW (H : Hp) (x : V) (ws : List Nat) : Prop := ∃ r, x = .ref r ∧ H r = some (.tup (vnats ws)) ∧ 0 < ws.sum ∧ ws.sum < 1073741824 ∧ ws.length ≤ 1000
def ShX (H : Hp) (x : V) (ws : List Nat) : Prop := ShW H x ws ∧ ws.sum ∉ ws
section
variable {P : Program} {w : World} {K : PySem.W.Frag} {mg : Str → Option Value} {base : Heap} {f C fI fT fU fL fG CN : Addr} {fd dI dT dU dL dG : FuncData} {mN : List Value}
theorem ok_take_pick (F_take_pick : Fun K "take_pick" "take_pick" s_take_pick f fd) (B : Bl mg) (T : Txt K mg C fI fT fU fL fG dI dT dU dL dG) (g_take : FnOk P w K mg base (CXR P w) 2 fT dT p_Bits_take (spTakeB C CN)) :
    FnOk P w K mg base (CXR P w) 3 f fd p_take_pick (spRaw C CN ShX pkV) := by
  refine F_take_pick.okX sc_take_pick (fun vs H Q E h => ?_) (fun cdv A outer s H vs Q E hr h => ?_)
  · obtain ⟨b, dx, r, bl, z, x, a, rfl, _⟩ := h
    rfl
  obtain ⟨b, dx, r0, bl, z, x, ws, rfl, hA, ⟨⟨wr, rfl, hW, hT, hT2, hwl⟩, hno⟩, q, e⟩ := h
  refine ⟨_, (pss_cons (ps_set (i := 2) sc_take_pick.nd rfl (Or.inr rfl) (pe_callB (call_sumT rfl) rfl B.sum_ L3.bt_sum (pa_cons (pv 1) pa_nil)))
      (pss_cons (ps_set (i := 3) sc_take_pick.nd rfl (Or.inl rfl) (pv 1))
      (pss_cons (ps_set (i := 4) sc_take_pick.nd rfl (Or.inl rfl) pe_int)
      (pss_one (ps_while (PassesOwn.leaving (M := model P w)) (pt_truth pe_bl (fun _ => rfl)) (pss_cons (ps_set (i := 4) sc_take_pick.nd rfl (Or.inl rfl) (pe_op op_add (pe_op op_mul pe_int (pv 4)) (pe_meth0 (pv 0) T.cl T.m_take g_take (hr.mono (by first | decide | omega)) T.b_take .nil cx_pass)))
      (pss_cons (ps_join (ps_comp 5 [] ["bits", "weights", "total", "rests", "place", "ends", "number", "rest"] 2 rfl sc_take_pick.nd rfl rfl (PI.or (pi_enumT rfl B.enumerate_ (pa_cons (pv 3) pa_nil)) (pi_enumL rfl B.enumerate_ (pa_cons (pv 3) pa_nil))) (fun _ _ _ _ _ => (pg_tupK K 2 rfl (pgs_cons (pg_name (i := 6) nd_3 rfl (Or.inl rfl) (Or.inr rfl)) (pgs_cons (pg_name (i := 7) nd_3 rfl (Or.inl rfl) (Or.inr rfl)) pgs_nil)) rfl rfl rfl)) (fun _ _ _ _ _ => (pif_one (pt_cmpR op_ge (pe_op op_mul pe_int (pv 7)) (pv 2) (nomark _)))) (fun _ _ _ _ _ => (pv 6))))
      (pss_cons (ps_if (pt_cmpR op_lt (pv 4) (pe_callB call_len_seq rfl B.len_ L3.bt_len (pa_cons (pv 5) pa_nil)) (nomark _)) (pss_one (ps_ret (pe_ix ix_list (pv 5) (pv 4) (fun _ _ => rfl)))) pss_nil)
      (pss_cons (ps_set (i := 4) sc_take_pick.nd rfl (Or.inl rfl) (pe_op op_sub (pv 4) (pe_callB call_len_seq rfl B.len_ L3.bt_len (pa_cons (pv 5) pa_nil))))
      (pss_one (ps_joinN (ps_comp 3 [] ["bits", "weights", "total", "rests", "place", "ends", "rest"] 1 rfl sc_take_pick.nd rfl rfl (PI.or (pi_tup (pv 3)) (pi_list (pv 3))) (fun _ _ _ _ _ => (pg_name (i := 6) nd_4 rfl (Or.inl rfl) (Or.inr rfl))) (fun _ _ _ _ _ => pif_nil) (fun _ _ _ _ _ => (pe_op op_mod (pe_op op_mul pe_int (pv 6)) (pv 2))))))))))))))), ?_⟩
  refine ⟨_, rfl, wr, ws.map (fun (n : Nat) => (n : Int)), rfl, SqT.of (by rw [← vnats_ints]; exact hW), ?_⟩
  rw [sum_nats]
  refine ⟨_, rfl, ?_⟩
  have hpk : pkF ws (bl.drop z) = pkR ws.sum ws 0 0 (bl.drop z) := if_neg hno
  generalize hS : ws.sum = S at hT hT2 hpk
  refine ⟨fun mu σ' H' => ∃ (rs : List Nat) (pl u : Nat) (r : Addr) (o5 : Option V), mu = bl.length - (z + u) ∧ σ' = [some (.ref b), some (.ref wr), some (.int (S : Int)), some (.ref r), some (.int (pl : Int)), o5] ∧ Grow b H H' ∧ At C H' b dx r0 bl (z + u) ∧ (H' r = some (.tup (vnats rs)) ∨ H' r = some (.lst (vnats rs))) ∧ rs.length ≤ 1000 ∧ pkF ws (bl.drop z) = pkR S rs pl u (bl.drop (z + u)),
    ⟨_, ws, 0, 0, wr, none, rfl, rfl, Grow.refl _ _, hA, .inl hW, hwl, hpk⟩, ?_⟩
  rintro mu σ1 H1 ⟨rs, pl, u, r, o5, rfl, rfl, g1, a1, hrs, hrl, hev⟩
  refine ⟨_, rfl, iteT ?_⟩
  refine ⟨_, fun _ _ z => z, ?_⟩
  -- place
  refine ⟨_, rfl, _, _, rfl, rfl, .inl ⟨by decide, by decide⟩, _, rfl, b, dx, _, rfl, a1.obj, flds_no _ _ (by decide +kernel) (by decide +kernel), b, dx, r0, bl, z + u, rfl, a1, fun x H2 hx g2 a2 => ?_, fun hz => ?_⟩
  rotate_left
  · refine e (z + u) H1 ?_ (by omega) g1 a1
    unfold pkV
    rw [hev, List.drop_eq_nil_of_le (by omega)]
    rfl
  have hl2 := a2.le
  have hrb : r ≠ b := fun y => by
    rcases hrs with hh | hh <;> (rw [y, a1.obj] at hh; cases hh)
  replace hrs : H2 r = some (.tup (vnats rs)) ∨ H2 r = some (.lst (vnats rs)) := hrs.imp (fun y => g2 _ _ hrb y) (fun y => g2 _ _ hrb y)
  refine ⟨_, _, rfl, rfl, ?_⟩
  have ep : (2 : Int) * (pl : Int) + (x : Int) = ((2 * pl + x : Nat) : Int) := by omega
  -- ends
  refine ⟨fun σ' H' => ∃ D : Addr, σ' = [some (.ref b), some (.ref wr), some (.int (S : Int)), some (.ref r), some (.int ((2 * pl + x : Nat) : Int)), some (.ref D)] ∧ Same H2 H' ∧ H' D = some (.lst (vnats (digs S rs))), ?_, ?_⟩
  rotate_left
  · rcases hrs with hrs | hrs
    · refine .inl ⟨_, rfl, r, rfl, ⟨_, SqT.of hrs⟩, ?_⟩
      refine ⟨fun i mm acc σ' H' => mm = rs.length - i ∧ i ≤ rs.length ∧ acc = vnats (figs S rs i) ∧ Same H2 H' ∧ ∃ o6 o7 : Option V, σ' = [some (.ref b), some (.ref wr), some (.int (S : Int)), some (.ref r), some (.int ((2 : Int) * (pl : Int) + (x : Int))), o5, o6, o7], ⟨rs.length, rfl, Nat.zero_le _, rfl, Same.refl _, _, _, rfl⟩, ?_⟩
      rintro i mm acc σ' H3 ⟨rfl, hi, rfl, s3, o6, o7, rfl⟩
      have hfl := figs_len S rs i
      by_cases hlt : i < rs.length
      · refine .inr ⟨⟨_, _, SqT.of (s3 _ _ hrs), vnats_at hlt⟩, smallL (by rw [vnats_len]; omega), fun acc' σ2 H4 => acc' = vnats (figs S rs (i + 1)) ∧ Same H2 H4 ∧ ∃ o6 o7 : Option V, σ2 = [some (.ref b), some (.ref wr), some (.int (S : Int)), some (.ref r), some (.int ((2 : Int) * (pl : Int) + (x : Int))), o5, o6, o7], ?_, ?_⟩
        · rintro acc' σ2 H4 ⟨rfl, s4, o6', o7', rfl⟩
          exact ⟨rs.length - (i + 1), by omega, rfl, hlt, rfl, s4, _, _, rfl⟩
        · rintro v H4 ⟨p, y, fp, rfl, rfl, ex⟩
          have ex' := ex _ (SqT.of (s3 _ _ hrs))
          rw [vnats_at hlt] at ex'
          obtain rfl := Option.some.inj ex'
          have s4 := s3.trans (same_new fp (.tup [V.int (i : Int), V.int ((rs.getD i 0 : Nat) : Int)]))
          refine ⟨p, _, rfl, SqT.of upd_same, rfl, _, _, rfl, _, _, rfl, rfl, ?_⟩
          refine ⟨_, rfl, _, _, rfl, rfl, .inl ⟨by decide, by decide⟩, _, rfl, _, _, rfl, rfl, _, rfl, ite2 (fun c => ?_) (fun c => ?_)⟩
          · have c' : (S : Int) ≤ 2 * ((rs.getD i 0 : Nat) : Int) := of_decide_eq_true c
            refine ⟨_, rfl, ?_, s4, _, _, rfl⟩
            rw [figs_yes (by omega)]
          · have c' : ¬ (S : Int) ≤ 2 * ((rs.getD i 0 : Nat) : Int) := of_decide_eq_false (Bool.eq_false_iff.mpr c)
            refine ⟨?_, s4, _, _, rfl⟩
            rw [figs_no (by omega)]
      · have ei : i = rs.length := by omega
        subst ei
        refine .inl ⟨⟨_, SqT.of (s3 _ _ hrs), by rw [vnats_len]; exact Nat.le_refl _⟩, small (by rw [vnats_len]; omega), fun D fD => ⟨D, ?_, s3.trans (same_new fD _), upd_same⟩⟩
        rw [← ep]
        rfl
    · refine .inr ⟨_, rfl, r, rfl, ⟨_, SqL.of hrs⟩, ?_⟩
      refine ⟨fun i mm acc σ' H' => mm = rs.length - i ∧ i ≤ rs.length ∧ acc = vnats (figs S rs i) ∧ Same H2 H' ∧ ∃ o6 o7 : Option V, σ' = [some (.ref b), some (.ref wr), some (.int (S : Int)), some (.ref r), some (.int ((2 : Int) * (pl : Int) + (x : Int))), o5, o6, o7], ⟨rs.length, rfl, Nat.zero_le _, rfl, Same.refl _, _, _, rfl⟩, ?_⟩
      rintro i mm acc σ' H3 ⟨rfl, hi, rfl, s3, o6, o7, rfl⟩
      have hfl := figs_len S rs i
      by_cases hlt : i < rs.length
      · refine .inr ⟨⟨_, _, SqL.of (s3 _ _ hrs), vnats_at hlt⟩, smallL (by rw [vnats_len]; omega), fun acc' σ2 H4 => acc' = vnats (figs S rs (i + 1)) ∧ Same H2 H4 ∧ ∃ o6 o7 : Option V, σ2 = [some (.ref b), some (.ref wr), some (.int (S : Int)), some (.ref r), some (.int ((2 : Int) * (pl : Int) + (x : Int))), o5, o6, o7], ?_, ?_⟩
        · rintro acc' σ2 H4 ⟨rfl, s4, o6', o7', rfl⟩
          exact ⟨rs.length - (i + 1), by omega, rfl, hlt, rfl, s4, _, _, rfl⟩
        · rintro v H4 ⟨p, y, fp, rfl, rfl, ex⟩
          have ex' := ex _ (SqL.of (s3 _ _ hrs))
          rw [vnats_at hlt] at ex'
          obtain rfl := Option.some.inj ex'
          have s4 := s3.trans (same_new fp (.tup [V.int (i : Int), V.int ((rs.getD i 0 : Nat) : Int)]))
          refine ⟨p, _, rfl, SqT.of upd_same, rfl, _, _, rfl, _, _, rfl, rfl, ?_⟩
          refine ⟨_, rfl, _, _, rfl, rfl, .inl ⟨by decide, by decide⟩, _, rfl, _, _, rfl, rfl, _, rfl, ite2 (fun c => ?_) (fun c => ?_)⟩
          · have c' : (S : Int) ≤ 2 * ((rs.getD i 0 : Nat) : Int) := of_decide_eq_true c
            refine ⟨_, rfl, ?_, s4, _, _, rfl⟩
            rw [figs_yes (by omega)]
          · have c' : ¬ (S : Int) ≤ 2 * ((rs.getD i 0 : Nat) : Int) := of_decide_eq_false (Bool.eq_false_iff.mpr c)
            refine ⟨?_, s4, _, _, rfl⟩
            rw [figs_no (by omega)]
      · have ei : i = rs.length := by omega
        subst ei
        refine .inl ⟨⟨_, SqL.of (s3 _ _ hrs), by rw [vnats_len]; exact Nat.le_refl _⟩, small (by rw [vnats_len]; omega), fun D fD => ⟨D, ?_, s3.trans (same_new fD _), upd_same⟩⟩
        rw [← ep]
        rfl
  rintro σ3 H3 ⟨D, rfl, s3, hD⟩
  have a3 := a2.same s3
  have hrs3 : H3 r = some (.tup (vnats rs)) ∨ H3 r = some (.lst (vnats rs)) := hrs.imp (fun y => s3 _ _ y) (fun y => s3 _ _ y)
  have g3 : Grow b H H3 := (g1.trans g2).trans (.same s3)
  have hev2 : pkF ws (bl.drop z) = if 2 * pl + x < (digs S rs).length then some ((digs S rs).getD (2 * pl + x) 0, u + 1) else pkR S (stepR S rs) (2 * pl + x - (digs S rs).length) (u + 1) (bl.drop (z + (u + 1))) := by
    rw [hev, drop_at hx]
    rfl
  refine ⟨_, rfl, _, rfl, D, _, rfl, .inl (SqL.of hD), _, _, rfl, rfl, _, rfl, ?_⟩
  rw [vnats_len]
  refine ite2 (fun c => ?_) (fun c => ?_)
  · have c' : ((2 * pl + x : Nat) : Int) < (((digs S rs).length : Nat) : Int) := of_decide_eq_true c
    have hlt : 2 * pl + x < (digs S rs).length := by omega
    rw [if_pos hlt] at hev2
    refine ⟨_, rfl, _, rfl, D, _, _, _, rfl, rfl, SqL.of hD, atI_nat (vnats_at hlt), q _ (u + 1) H3 ?_ g3 a3⟩
    unfold pkV
    rw [hev2]
    rfl
  have c' : ¬ ((2 * pl + x : Nat) : Int) < (((digs S rs).length : Nat) : Int) := of_decide_eq_false (Bool.eq_false_iff.mpr c)
  have hge : ¬ 2 * pl + x < (digs S rs).length := by omega
  rw [if_neg hge] at hev2
  refine ⟨_, rfl, _, rfl, D, _, rfl, .inl (SqL.of hD), _, _, rfl, rfl, ?_⟩
  rw [vnats_len]
  have es : ((2 * pl + x : Nat) : Int) - (((digs S rs).length : Nat) : Int) = ((2 * pl + x - (digs S rs).length : Nat) : Int) := by rw [Int.ofNat_sub (by omega)]
  -- rests
  refine ⟨fun σ' H' => ∃ D2 : Addr, σ' = [some (.ref b), some (.ref wr), some (.int (S : Int)), some (.ref D2), some (.int ((2 * pl + x - (digs S rs).length : Nat) : Int)), some (.ref D)] ∧ Same H3 H' ∧ H' D2 = some (.lst (vnats (stepR S rs))), ?_, ?_⟩
  rotate_left
  · rcases hrs3 with hrs | hrs
    · refine .inl ⟨_, rfl, r, rfl, ⟨_, SqT.of hrs⟩, ?_⟩
      refine ⟨fun i mm acc σ' H' => mm = rs.length - i ∧ i ≤ rs.length ∧ acc = vnats (stepR S (rs.take i)) ∧ H' = H3 ∧ ∃ o6 : Option V, σ' = [some (.ref b), some (.ref wr), some (.int (S : Int)), some (.ref r), some (.int (((2 * pl + x : Nat) : Int) - (((digs S rs).length : Nat) : Int))), some (.ref D), o6], ⟨rs.length, rfl, Nat.zero_le _, rfl, rfl, _, rfl⟩, ?_⟩
      rintro i mm acc σ' H4 ⟨rfl, hi, rfl, rfl, o6, rfl⟩
      have hsl : (stepR S (rs.take i)).length ≤ 1000 := by rw [step_len, List.length_take]; omega
      by_cases hlt : i < rs.length
      · refine .inr ⟨⟨_, _, SqT.of hrs, vnats_at hlt⟩, smallL (by rw [vnats_len]; omega), fun acc' σ2 H5 => acc' = vnats (stepR S (rs.take (i + 1))) ∧ H5 = H4 ∧ ∃ o6 : Option V, σ2 = [some (.ref b), some (.ref wr), some (.int (S : Int)), some (.ref r), some (.int (((2 * pl + x : Nat) : Int) - (((digs S rs).length : Nat) : Int))), some (.ref D), o6], ?_, ?_⟩
        · rintro acc' σ2 H5 ⟨rfl, rfl, o6', rfl⟩
          exact ⟨rs.length - (i + 1), by omega, rfl, hlt, rfl, rfl, _, rfl⟩
        · rintro v H5 ⟨rfl, ex⟩
          have ex' := ex _ (SqT.of hrs)
          rw [vnats_at hlt] at ex'
          obtain rfl := Option.some.inj ex'
          refine ⟨_, rfl, _, _, rfl, rfl, .inl ⟨by decide, by decide⟩, _, rfl, _, _, rfl, rfl, (by show (0 : Int) < (S : Int); omega), ?_, rfl, _, rfl⟩
          rw [step_more hlt]
          rfl
      · have ei : i = rs.length := by omega
        subst ei
        refine .inl ⟨⟨_, SqT.of hrs, by rw [vnats_len]; exact Nat.le_refl _⟩, small (by rw [vnats_len]; omega), fun D2 fD => ⟨D2, ?_, same_new fD _, ?_⟩⟩
        · rw [← es]
          rfl
        · rw [upd_same, List.take_length]
    · refine .inr ⟨_, rfl, r, rfl, ⟨_, SqL.of hrs⟩, ?_⟩
      refine ⟨fun i mm acc σ' H' => mm = rs.length - i ∧ i ≤ rs.length ∧ acc = vnats (stepR S (rs.take i)) ∧ H' = H3 ∧ ∃ o6 : Option V, σ' = [some (.ref b), some (.ref wr), some (.int (S : Int)), some (.ref r), some (.int (((2 * pl + x : Nat) : Int) - (((digs S rs).length : Nat) : Int))), some (.ref D), o6], ⟨rs.length, rfl, Nat.zero_le _, rfl, rfl, _, rfl⟩, ?_⟩
      rintro i mm acc σ' H4 ⟨rfl, hi, rfl, rfl, o6, rfl⟩
      have hsl : (stepR S (rs.take i)).length ≤ 1000 := by rw [step_len, List.length_take]; omega
      by_cases hlt : i < rs.length
      · refine .inr ⟨⟨_, _, SqL.of hrs, vnats_at hlt⟩, smallL (by rw [vnats_len]; omega), fun acc' σ2 H5 => acc' = vnats (stepR S (rs.take (i + 1))) ∧ H5 = H4 ∧ ∃ o6 : Option V, σ2 = [some (.ref b), some (.ref wr), some (.int (S : Int)), some (.ref r), some (.int (((2 * pl + x : Nat) : Int) - (((digs S rs).length : Nat) : Int))), some (.ref D), o6], ?_, ?_⟩
        · rintro acc' σ2 H5 ⟨rfl, rfl, o6', rfl⟩
          exact ⟨rs.length - (i + 1), by omega, rfl, hlt, rfl, rfl, _, rfl⟩
        · rintro v H5 ⟨rfl, ex⟩
          have ex' := ex _ (SqL.of hrs)
          rw [vnats_at hlt] at ex'
          obtain rfl := Option.some.inj ex'
          refine ⟨_, rfl, _, _, rfl, rfl, .inl ⟨by decide, by decide⟩, _, rfl, _, _, rfl, rfl, (by show (0 : Int) < (S : Int); omega), ?_, rfl, _, rfl⟩
          rw [step_more hlt]
          rfl
      · have ei : i = rs.length := by omega
        subst ei
        refine .inl ⟨⟨_, SqL.of hrs, by rw [vnats_len]; exact Nat.le_refl _⟩, small (by rw [vnats_len]; omega), fun D2 fD => ⟨D2, ?_, same_new fD _, ?_⟩⟩
        · rw [← es]
          rfl
        · rw [upd_same, List.take_length]
  rintro σ4 H4 ⟨D2, rfl, s4, hD2⟩
  exact ⟨bl.length - (z + (u + 1)), by omega, stepR S rs, 2 * pl + x - (digs S rs).length, u + 1, D2, some (.ref D), rfl, rfl, g3.trans (.same s4), a3.same s4, .inr hD2, by rw [step_len]; exact hrl, hev2⟩
theorem ok_pick (F_pick : Fun K "pick" "pick" s_pick f fd) (B : Bl mg) {fD fR : Addr} {dD dR : FuncData} (g_drawn_whole : FnX P w K mg base "drawn_whole" fD dD p_drawn_whole 5 (spDW P w K mg base 4 C CN)) (g_take_pick : FnX P w K mg base "take_pick" fR dR p_take_pick 3 (spRaw C CN ShX pkV)) :
    FnOk P w K mg base (CXR P w) 6 f fd p_pick (spDone C CN ShW pkV) := by
  refine F_pick.okX sc_pick (fun vs H Q E h => ?_) (fun cdv A outer s H vs Q E hr h => ?_)
  · obtain ⟨b, dx, r, bl, z, x, a, rfl, _⟩ := h
    rfl
  obtain ⟨b, dx, r, bl, z, x, ws, rfl, hA, hSh, q, e⟩ := h
  obtain ⟨wr, rfl, hW, hT, hT2, hwl⟩ := id hSh
  have hsq : ∀ {H'}, H' wr = some (.tup (vnats ws)) → SqT K H' wr ((ws.map (fun (n : Nat) => (n : Int))).map V.int) := fun {H'} y => SqT.of (by rw [← vnats_ints]; exact y)
  refine ⟨_, (pss_cons (ps_set (i := 2) sc_pick.nd rfl (Or.inl rfl) (pe_callB (call_sumT rfl) rfl B.sum_ L3.bt_sum (pa_cons (pv 1) pa_nil)))
      (pss_cons (ps_if (pt_cmpR op_in_seq (pv 2) (pv 1) rfl) (pss_one (ps_ret (pe_bmT PySem.F.plainAttrs_tuple PySem.F.slot_tuple_index PySem.F.type_tuple_index mt_tindex (pv 1) (pa_cons (pv 2) pa_nil)))) pss_nil)
      (pss_one (ps_ret (pe_fnX g_drawn_whole hr (pa_cons (pv 0) (pa_cons (pe_glob (v := .ref _) rfl g_take_pick.mg rfl) (pa_cons (pv 1) pa_nil)))))))), ?_⟩
  refine ⟨_, rfl, wr, ws.map (fun (n : Nat) => (n : Int)), rfl, hsq hW, ?_⟩
  rw [sum_nats]
  refine ⟨_, rfl, _, rfl, wr, vnats ws, rfl, .inr (SqT.of hW), rfl, vnats_flat ws, _, rfl, ?_⟩
  rw [vnats_in]
  refine ite2 (fun c => ?_) (fun c => ?_)
  · have c' : ws.sum ∈ ws := of_decide_eq_true c
    obtain ⟨i1, i2⟩ := idx_at c'
    refine ⟨_, rfl, ⟨wr, _, rfl, hW⟩, _, rfl, wr, _, _, ws.idxOf ws.sum, rfl, rfl, hsq hW, i1, i2, q _ 0 H ?_ (Grow.refl _ _) hA⟩
    unfold pkV pkF
    rw [if_pos c']
    rfl
  · have c' : ¬ ws.sum ∈ ws := of_decide_eq_false (Bool.eq_false_iff.mpr c)
    exact ⟨_, rfl, _, rfl, dw_of g_take_pick (by decide) hA ⟨hSh, c'⟩ q e⟩
end
theorem vget {bl : List Nat} {z x : Nat} (h : bl[z]? = some x) : (vbits bl)[z]? = some (V.int (x : Int)) := by rw [List.getElem?_map, h]; rfl
def res (z : Nat) : Option (V × Nat) → List V
  | some (v, u) => [v, .int ((z + u : Nat) : Int)]
  | none => [.str "NoBits", .non]
def spHand {α : Type} (Sh : Hp → V → α → Prop) (F : α → List Nat → Option (V × Nat)) : Sp := fun vs H Q _ => ∃ (r : Addr) (bl : List Nat) (z : Nat) (x : V) (a : α), vs = [.ref r, .int (z : Int), x] ∧ H r = some (.tup (vbits bl)) ∧ z ≤ bl.length ∧ bl.length ≤ 100000 ∧ Sh H x a ∧
  ∀ p H', Same H H' → H' p = some (.tup (res z (F a (bl.drop z)))) → Q (.ref p) H'
theorem vnats_app (a b : List Nat) : vnats (a ++ b) = vnats a ++ vnats b := List.map_append
theorem twn_tup {H : Hp} {t b : Addr} {k : Nat} {xs : List V} (h : Twn H t k) (hb : H b = some (.tup xs)) : b ≠ t := fun e => by
  unfold Twn at h
  rw [e, h] at hb
  cases hb
theorem twn_ins {H : Hp} {t b : Addr} {k : Nat} {C dx : Addr} {fs : List (Str × V)} (h : Twn H t k) (hb : H b = some (.ins C dx fs)) : b ≠ t := fun e => by
  unfold Twn at h
  rw [e, h] at hb
  cases hb
theorem At.town {C t : Addr} {H H' : Hp} {b dx r : Addr} {bl : List Nat} {z k : Nat} (h : At C H b dx r bl z) (tw : Twn H t k) (g : Grow t H H') : At C H' b dx r bl z := h.grow g (twn_ins tw h.obj) (twn_tup tw h.row)
theorem grow_twnB {C t : Addr} {H H' : Hp} {b dx r : Addr} {bl : List Nat} {z k : Nat} (g : Grow b H H') (h : At C H b dx r bl z) (tw : Twn H t k) : Twn H' t k := g _ _ (fun e => twn_ins tw h.obj e.symm) tw
theorem grow_scrB {K : PySem.W.Frag} {C a : Addr} {H H' : Hp} {b dx r : Addr} {bl : List Nat} {z : Nat} {ns : List Int} (g : Grow b H H') (h : At C H b dx r bl z) (s : Scr K H a ns) : Scr K H' a ns := by
  rcases s with ⟨o, y⟩ | y
  · exact .inl ⟨o, g _ _ (fun e => by rw [e, h.obj] at y; cases y) y⟩
  · exact .inr y
theorem dbits_nat (ns : List Int) (k n : Nat) : ∃ bl : List Nat, (dbits ns k n).map V.int = vbits bl ∧ bl.length = n ∧ ∀ x ∈ bl, x < 2 := by
  refine ⟨(dbits ns k n).map Int.toNat, ?_, by rw [List.length_map, dbits_length], fun x hx => ?_⟩
  · rw [vbits, List.map_map]
    refine List.map_congr_left fun i hi => ?_
    obtain ⟨j, _, rfl⟩ := List.mem_map.mp hi
    have := drw_nn ns (k + j + 1) (show (0 : Int) < 2 by decide)
    show V.int _ = V.int ((Int.toNat _ : Nat) : Int)
    rw [Int.toNat_of_nonneg this]
  · obtain ⟨i, hi, rfl⟩ := List.mem_map.mp hx
    obtain ⟨j, _, rfl⟩ := List.mem_map.mp hi
    have a := drw_nn ns (k + j + 1) (show (0 : Int) < 2 by decide)
    have b := drw_lt ns (k + j + 1) (show (0 : Int) < 2 by decide)
    omega
theorem twn_new {H : Hp} {t p : Addr} {k : Nat} (h : Twn H t k) (hp : H p = none) : p ≠ t := fun y => by
  unfold Twn at h
  rw [← y, hp] at h
  cases h
theorem vab_len (ab : List (Option Nat)) : (vab ab).length = ab.length := List.length_map _
theorem vab_at {ab : List (Option Nat)} {i : Nat} (h : i < ab.length) : (vab ab)[i]? = some (vop (ab.getD i none)) := by
  rw [vab, List.getElem?_map, List.getElem?_eq_getElem h, List.getD_eq_getElem?_getD, List.getElem?_eq_getElem h]
  rfl
theorem ab_get {ab : List (Option Nat)} {i : Nat} (h : i < ab.length) : ab[i]? = some (ab.getD i none) := by
  rw [List.getD_eq_getElem?_getD, List.getElem?_eq_getElem h]
  rfl
theorem flt_succ2 (f : Nat → Bool) (i : Nat) : (List.range (i + 1)).filter f = (List.range i).filter f ++ (if f i = true then [i] else []) := by
  rw [List.range_succ, List.filter_append]
  cases h : f i <;> simp [h]
theorem flt_yes2 {f : Nat → Bool} {i : Nat} (h : f i = true) : vnats ((List.range i).filter f) ++ [V.int (i : Int)] = vnats ((List.range (i + 1)).filter f) := by
  rw [flt_succ2, if_pos h, vnats_app]
  rfl
theorem flt_no2 {f : Nat → Bool} {i : Nat} (h : f i = false) : vnats ((List.range i).filter f) = vnats ((List.range (i + 1)).filter f) := by
  rw [flt_succ2, if_neg (by rw [h]; decide), List.append_nil]
theorem ixN_nat2 {n j : Nat} (h : j < n) : ixN n (j : Int) = some j := by
  unfold ixN
  rw [if_pos (by omega), if_pos (by omega)]
  simp
theorem vnats_set2 (l : List Nat) (j x : Nat) : (vnats l).set j (V.int (x : Int)) = vnats (l.set j x) := by rw [vnats, vnats, List.map_set]
theorem eq_some_int {o : Option Nat} {i : Nat} : (vop o = V.int (i : Int)) ↔ o = some i := by
  cases o with
  | none => exact ⟨fun h => (by cases h), fun h => (by cases h)⟩
  | some j => exact ⟨fun h => (by injection h with h; rw [Int.ofNat.inj h]), fun h => (by cases h; rfl)⟩
theorem same_upd2 {L : Addr} {H0 H : Hp} {ys : List V} (s : Same H0 H) (hn : H0 L = none) : Same H0 (L2.upd H L (.lst ys)) := fun c o e => by
  rw [upd_ne (fun z => by rw [z, hn] at e; cases e)]
  exact s _ _ e
theorem cat35 {K : PySem.W.Frag} {H : Hp} {a b : Addr} {xs ys : List V} {Q : VK} (ha : H a = some (.tup xs)) (hb : H b = some (.tup ys)) (hz : xs.length + ys.length ≤ 300000) (q : ∀ p H', Same H H' → H' p = some (.tup (xs ++ ys)) → Q (.ref p) H') : rCat0 K (.ref a) (.ref b) H Q := by
  refine ⟨a, b, xs, ys, rfl, rfl, SqT.of ha, SqT.of hb, small (by omega), fun e => ?_, fun _ e => ?_, fun _ _ p fp => q p _ (same_new fp _) upd_same⟩
  · subst e
    exact q b H (Same.refl _) hb
  · subst e
    refine q a H (Same.refl _) ?_
    rw [List.append_nil]
    exact ha
def spSzs : Sp := fun vs H Q _ => ∃ (p : Addr) (ab : List (Option Nat)), vs = [.ref p] ∧ H p = some (.tup (vab ab)) ∧ okAb ab ∧ ab.length ≤ 7 ∧ ∀ l H', H l = none → Same H H' → H' l = some (.lst (vnats (szP ab))) → Q (.ref l) H'
def spCnt : Sp := fun vs H Q _ => ∃ (p : Addr) (ab : List (Option Nat)), vs = [.ref p] ∧ H p = some (.tup (vab ab)) ∧ okAb ab ∧ ab.length ≤ 7 ∧ ∀ H', Same H H' → Q (.int (((ordF ab ab.length).length : Nat) : Int)) H'
def spUnd (n : Nat) : Sp := fun vs H Q _ => ∃ (p : Addr) (ab : List (Option Nat)) (i : Nat), vs = [.ref p, .int (i : Int)] ∧ H p = some (.tup (vab ab)) ∧ okAb ab ∧ ab.length ≤ 7 ∧ i < ab.length ∧ ab.length ≤ i + n + 1 ∧ ∀ H', Same H H' → Q (.int (szA ab i : Int)) H'
def spRdy : Sp := fun vs H Q _ => ∃ (p d : Addr) (ab : List (Option Nat)) (done : List Nat), vs = [.ref p, .ref d] ∧ H p = some (.tup (vab ab)) ∧ H d = some (.tup (vnats done)) ∧ ab.length ≤ 7 ∧ done.length ≤ 1000 ∧ ∀ l H', H l = none → Same H H' → H' l = some (.lst (vnats (rdy ab done))) → Q (.ref l) H'
theorem op_inK {X : Cx} (K : PySem.W.Frag) (hK : X.K = K) : OpR X (compareOp .In) (rIn K false) := by
  subst hK
  exact op_in_seq
theorem op_notInK {X : Cx} (K : PySem.W.Frag) (hK : X.K = K) : OpR X (compareOp .NotIn) (rIn K true) := by
  subst hK
  exact op_notIn_seq
def spAbove (K : PySem.W.Frag) : Sp := fun vs H Q _ => ∃ (a t : Addr) (ns : List Int) (k : Nat), vs = [.ref a, .ref t] ∧ Scr K H a ns ∧ ns.length ≤ 63 ∧ Twn H t k ∧ k ≤ 700000 ∧
  ∀ p ab k' H', Grow t H H' → Twn H' t k' → k' ≤ k + 9 → H' p = some (.tup (vab ab)) → okAb ab → ab.length ≤ 7 → Q (.ref p) H'
section
variable {P : Program} {w : World} {K : PySem.W.Frag} {mg : Str → Option Value} {base : Heap} {f : Addr} {fd : FuncData}
theorem ok_sizes_under (F_sizes_under : Fun K "sizes_under" "sizes_under" s_sizes_under f fd) (B : Bl mg) : FnOk P w K mg base CX0 1 f fd p_sizes_under spSzs := by
  refine F_sizes_under.ok sc_sizes_under (fun vs H Q E h => ?_) (fun cdv A outer s H vs Q E hr h => ?_)
  · obtain ⟨p, ab, rfl, _⟩ := h
    rfl
  obtain ⟨p, ab, rfl, hP, ok, hl, q⟩ := h
  refine ⟨_, (pss_cons (ps_comp 1 [2] ["above", "sizes", "number", "upper"] 0 rfl sc_sizes_under.nd rfl rfl (pi_tup (pv 0)) (fun _ _ _ _ _ => (pg_name (i := 2) nd_5 rfl (Or.inl rfl) (Or.inr rfl))) (fun _ _ _ _ _ => pif_nil) (fun _ _ _ _ _ => pe_int))
      (pss_cons (ps_for PassesOwn.never rfl (pi_rangeDown rfl B.range_ (pa_cons (pe_op op_sub (pe_callB call_len_seq rfl B.len_ L3.bt_len (pa_cons (pv 0) pa_nil)) pe_int) (pa_cons (pe_un un_neg pe_int) (pa_cons (pe_un un_neg pe_int) pa_nil)))) (pg_name (i := 2) sc_sizes_under.nd rfl (Or.inl rfl)) (pss_cons (ps_set (i := 3) sc_sizes_under.nd rfl (Or.inl rfl) (pe_ix ix_tup (pv 0) (pv 2) (fun _ _ => rfl)))
      (pss_one (ps_joinN (ps_if (pt_cmpR op_notN (pv 3) pe_non (nomark _)) (pss_one (ps_asg (pe_op op_add (pe_ix ix_list (pv 1) (pv 3) (fun _ _ => rfl)) (pe_ix ix_list (pv 1) (pv 2) (fun _ _ => rfl))) (pg_sub (pv 1) (pv 3) set_list))) pss_nil)))))
      (pss_one (ps_ret (pv 1))))), ?_⟩
  refine ⟨_, rfl, p, rfl, ⟨_, SqT.of hP⟩, comp_tup (xs := vab ab) (fun j acc σ' H' => acc = vnats (List.replicate j 1) ∧ H' = H ∧ ∃ o : Option V, σ' = [some (.ref p), none, o, none]) ⟨rfl, rfl, _, rfl⟩ (fun j acc σ' H' hj ⟨e, _⟩ => by rw [e, vnats_len, List.length_replicate]; rw [vab_len] at hj; omega) (fun j acc σ' H' _ ⟨_, e, _⟩ => by rw [e]; exact SqT.of hP) ?_ ?_⟩
  · rintro j x acc σ' H' hx ⟨rfl, rfl, o, rfl⟩
    refine ⟨?_, rfl, _, rfl⟩
    rw [List.replicate_succ', vnats_app]
    rfl
  rintro acc σ' H' L ⟨rfl, rfl, o, rfl⟩ fL
  rw [vab_len]
  have yL := same_new fL (.lst (vnats (List.replicate ab.length 1)))
  have wL : (upd H' L (.lst (vnats (List.replicate ab.length 1)))) L = some (.lst (vnats (szL ab 0))) := upd_same
  generalize upd H' L (.lst (vnats (List.replicate ab.length 1))) = H1 at yL wL ⊢
  have nL : H' L = none := fL
  refine ⟨_, rfl, p, _, rfl, .inr (SqT.of (yL _ _ hP)), _, _, rfl, rfl, 1, rfl, 1, rfl, ?_⟩
  have el : ((vab ab).length : Int) = (ab.length : Int) := by rw [vab_len]
  refine ⟨((vab ab).length : Int) - 1, -1, rfl, ⟨by omega, by omega, by omega, by omega⟩, ?_⟩
  have en : (((vab ab).length : Int) - 1 - (-1)).toNat = ab.length := by omega
  rw [en]
  refine for_rangeS (lo := ((vab ab).length : Int) - 1) (st := -1) (n := ab.length) (fun j2 σ' H2 => ∃ o2 o3 : Option V, σ' = [some (.ref p), some (.ref L), o2, o3] ∧ Same H' H2 ∧ H2 L = some (.lst (vnats (szL ab j2))))
    ⟨_, _, rfl, yL, wL⟩ ?_ ?_
  · rintro j2 σ2 H2 hj2 ⟨o2, o3, rfl, s2, h2⟩
    have ei : ((vab ab).length : Int) - 1 + (j2 : Int) * (-1) = ((ab.length - 1 - j2 : Nat) : Int) := by omega
    have hlt : ab.length - 1 - j2 < ab.length := by omega
    have hat : atI (vab ab) (((vab ab).length : Int) - 1 + (j2 : Int) * (-1)) = some (vop (ab.getD (ab.length - 1 - j2) none)) := by
      rw [ei]
      exact atI_nat (vab_at hlt)
    refine ⟨_, rfl, _, rfl, p, _, _, _, rfl, rfl, SqT.of (s2 _ _ hP), hat, ?_⟩
    refine ⟨fun σ' H3 => ∃ o2 o3 : Option V, σ' = [some (.ref p), some (.ref L), o2, o3] ∧ Same H' H3 ∧ H3 L = some (.lst (vnats (szL ab (j2 + 1)))), fun _ _ h => h, ?_⟩
    cases eu : ab.getD (ab.length - 1 - j2) none with
    | none =>
      refine ⟨_, rfl, rfl, _, rfl, iteF ⟨_, _, rfl, s2, ?_⟩⟩
      rw [szL, eu]
      exact h2
    | some u =>
      have hu : u < ab.length - 1 - j2 := ok _ u (by rw [ab_get hlt, eu])
      have hsl := szL_len ab j2
      have h2u := atI_nat (vnats_at (l := szL ab j2) (j := u) (by omega))
      have h2n := atI_nat (vnats_at (l := szL ab j2) (j := ab.length - 1 - j2) (by omega))
      refine ⟨_, rfl, rfl, _, rfl, ite2 (fun _ => ?_) (fun c => absurd rfl c)⟩
      refine ⟨_, rfl, _, rfl, L, _, _, _, rfl, rfl, SqL.of h2, h2u, ?_⟩
      refine ⟨_, rfl, _, rfl, L, _, _, _, rfl, rfl, SqL.of h2, by rw [ei]; exact h2n, _, _, rfl, rfl, ?_⟩
      refine ⟨_, rfl, _, rfl, L, _, _, u, rfl, rfl, h2, by rw [vnats_len]; exact ixN_nat2 (by omega), ?_⟩
      refine ⟨_, _, rfl, same_upd2 s2 nL, ?_⟩
      rw [upd_same, szL, eu]
      dsimp only
      rw [← Int.natCast_add, vnats_set2]
  rintro σ2 H2 ⟨o2, o3, rfl, s2, h2⟩
  exact ⟨_, rfl, q L H2 nL s2 h2⟩
theorem for_enumL {K : PySem.W.Frag} {a : Addr} {xs : List V} {g : TG} {tb : TS} {D : Ends} {σ : St} {H : Hp} (Pv : Nat → St → Hp → Prop) (h0 : Pv 0 σ H) (ha : ∀ i σ H, i ≤ xs.length → Pv i σ H → SqL K H a xs)
    (hs : ∀ i x σ H p, xs[i]? = some x → Pv i σ H → H p = none → g (.ref p) σ (upd H p (.tup [.int i, x])) fun σ2 H3 => tb { D with nx := Pv (i + 1), ct := Pv (i + 1), bk := D.nx } σ2 H3) (hd : ∀ σ H, Pv xs.length σ H → D.nx σ H) :
    ∃ W : Nat → Nat → St → Hp → Prop, (∃ m, W 0 m σ H) ∧ ∀ i m σ H, W i m σ H →
      ((IteL K a).stop i H ∧ D.nx σ H) ∨ ((IteL K a).go i H ∧ ∃ N : St → Hp → Prop, (∀ σ' H', N σ' H' → ∃ m', m' < m ∧ W (i + 1) m' σ' H') ∧ ∀ x H', (IteL K a).yld i H x H' → g x σ H' fun σ2 H2 => tb { D with nx := N, ct := N, bk := D.nx } σ2 H2) :=
  for_of Pv h0 (fun i σ H h p => ⟨xs, xs[i], ha i σ H (Nat.le_of_lt h) p, List.getElem?_eq_getElem h⟩) (fun σ H p => ⟨xs, ha _ σ H (Nat.le_refl _) p, Nat.le_refl _⟩) (fun i σ H h p x H2 y => by
    obtain ⟨q, z, fq, rfl, rfl, y⟩ := y
    exact hs i z σ _ q (y xs (ha i σ _ (Nat.le_of_lt h) p)) p fq) hd
theorem facN_pos : ∀ k, 0 < facN k
  | 0 => Nat.one_pos
  | k + 1 => Nat.mul_pos (facN_pos k) (Nat.succ_pos k)
theorem spr_mono {ab : List (Option Nat)} (hl : ab.length ≤ 7) (ok : okAb ab) {k : Nat} : ∀ d, k + d ≤ ab.length → spr ab k ≤ spr ab (k + d)
  | 0, _ => Nat.le_refl _
  | d + 1, h => Nat.le_trans (spr_mono hl ok d (by omega)) (Nat.le_mul_of_pos_right _ (sz_pos hl ok (show k + d < ab.length by omega)))
theorem facN_mono {k : Nat} : ∀ d, facN k ≤ facN (k + d)
  | 0 => Nat.le_refl _
  | d + 1 => Nat.le_trans (facN_mono d) (Nat.le_mul_of_pos_right _ (Nat.succ_pos _))
theorem facN_le {k : Nat} (h : k ≤ 7) : facN k ≤ 5040 := by
  have := facN_mono (k := k) (7 - k)
  rw [show k + (7 - k) = 7 by omega] at this
  exact this
theorem spr_le {ab : List (Option Nat)} (hl : ab.length ≤ 7) (ok : okAb ab) {k : Nat} (hk : k ≤ ab.length) : spr ab k ≤ 5040 := by
  have h1 := spr_mono hl ok (k := k) (ab.length - k) (by omega)
  rw [show k + (ab.length - k) = ab.length by omega] at h1
  have h2 := ord_count hl ok
  have h3 := facN_le hl
  have h4 := facN_pos ab.length
  rcases Nat.eq_zero_or_pos (ordF ab ab.length).length with y | y
  · rw [y, Nat.zero_mul] at h2
    omega
  · have := Nat.le_mul_of_pos_left (spr ab ab.length) y
    omega
theorem szA_le {ab : List (Option Nat)} (hl : ab.length ≤ 7) (ok : okAb ab) {i : Nat} (hi : i < ab.length) : szA ab i ≤ 5040 := by
  have h1 := spr_le hl ok (k := i + 1) hi
  have := Nat.le_mul_of_pos_left (szA ab i) (spr_pos hl ok i (by omega))
  rw [spr] at h1
  omega
theorem ok_count_orders (F_count_orders : Fun K "count_orders" "count_orders" s_count_orders f fd) (B : Bl mg) (g_sizes_under : Fn P w K mg base "sizes_under" p_sizes_under 1 spSzs) : FnOk P w K mg base CX0 2 f fd p_count_orders spCnt := by
  refine F_count_orders.ok sc_count_orders (fun vs H Q E h => ?_) (fun cdv A outer s H vs Q E hr h => ?_)
  · obtain ⟨p, ab, rfl, _⟩ := h
    rfl
  obtain ⟨p, ab, rfl, hP, ok, hl, q⟩ := h
  refine ⟨_, (pss_cons (ps_set (i := 1) sc_count_orders.nd rfl (Or.inl rfl) pe_int)
      (pss_cons (ps_set (i := 2) sc_count_orders.nd rfl (Or.inl rfl) pe_int)
      (pss_cons (ps_for PassesOwn.never rfl (pi_enumL rfl B.enumerate_ (pa_cons (pe_fn g_sizes_under hr (pa_cons (pv 0) pa_nil)) pa_nil)) (pg_tup rfl (pgs_cons (pg_name (i := 3) sc_count_orders.nd rfl (Or.inl rfl)) (pgs_cons (pg_name (i := 4) sc_count_orders.nd rfl (Or.inl rfl)) pgs_nil))) (pss_cons (ps_set (i := 1) sc_count_orders.nd rfl (Or.inl rfl) (pe_op op_mul (pv 1) (pe_op op_add (pv 3) pe_int)))
      (pss_one (ps_set (i := 2) sc_count_orders.nd rfl (Or.inl rfl) (pe_op op_mul (pv 2) (pv 4))))))
      (pss_one (ps_ret (pe_op op_fdiv (pv 1) (pv 2))))))), ?_⟩
  refine ⟨_, rfl, p, ab, rfl, hP, ok, hl, fun L H1 nL s1 hL => ?_⟩
  refine ⟨L, rfl, ⟨_, SqL.of hL⟩, for_enumL (xs := vnats (szP ab)) (fun i σ' H' => ∃ o3 o4 : Option V, σ' = [some (.ref p), some (.int (facN i : Int)), some (.int (spr ab i : Int)), o3, o4] ∧ Same H H' ∧ H' L = some (.lst (vnats (szP ab))))
    ⟨_, _, rfl, s1, hL⟩ (fun i σ' H' _ ⟨_, _, _, _, y⟩ => SqL.of y) ?_ ?_⟩
  · rintro i x σ' H2 e hx ⟨o3, o4, rfl, s2, h2⟩ fe
    have hi : i < (szP ab).length := by
      have := (List.getElem?_eq_some_iff.mp hx).1
      rwa [vnats_len] at this
    rw [vnats_at hi] at hx
    obtain rfl := Option.some.inj hx
    have y3 := same_new fe (.tup [V.int (i : Int), V.int (((szP ab).getD i 0 : Nat) : Int)])
    refine ⟨e, _, rfl, SqT.of upd_same, rfl, _, _, rfl, _, _, rfl, rfl, ?_⟩
    have hi7 : i < ab.length := by rw [← szL_len ab ab.length]; exact hi
    have b1 := facN_le (k := i) (by omega)
    have b2 := spr_le hl ok (k := i) (by omega)
    have b3 := szA_le hl ok hi7
    unfold szA at b3
    refine ⟨_, rfl, _, rfl, _, _, rfl, rfl, _, _, rfl, rfl, .inl ⟨by omega, by omega⟩, ?_⟩
    refine ⟨_, rfl, _, rfl, _, _, rfl, rfl, .inl ⟨by omega, by omega⟩, ?_⟩
    exact ⟨_, _, rfl, s2.trans y3, y3 _ _ h2⟩
  rintro σ' H2 ⟨o3, o4, rfl, s2, h2⟩
  have hsl : (vnats (szP ab)).length = ab.length := by rw [vnats_len]; exact szL_len _ _
  rw [hsl]
  have hp := spr_pos hl ok _ (Nat.le_refl _)
  have hf := facN_pos ab.length
  have hb := spr_le hl ok (k := ab.length) (Nat.le_refl _)
  refine ⟨_, rfl, _, rfl, _, _, rfl, rfl, ⟨by omega, by omega⟩, ?_⟩
  show Q (V.int ((facN ab.length : Int) / (spr ab ab.length : Int))) H2
  rw [← Int.natCast_ediv, ord_cnt hl ok]
  exact q H2 s2
theorem ok__law_under {lv n : Nat} {spr' : Sp} (F__law_under : Fun K "_law_under" "_law_under" s__law_under f fd) (B : Bl mg) (g__law_under : Fn P w K mg base "_law_under" p__law_under lv spr') (hsp : ∀ m vs H Q E, n = m + 1 → spUnd m vs H Q E → spr' vs H Q E) : FnOk P w K mg base CX0 (lv + 1) f fd p__law_under (spUnd n) := by
  refine F__law_under.ok sc__law_under (fun vs H Q E h => ?_) (fun cdv A outer s H vs Q E hr h => ?_)
  · obtain ⟨p, ab, i, rfl, _⟩ := h
    rfl
  obtain ⟨p, ab, i, rfl, hP, ok, hl, hi, hn, q⟩ := h
  refine ⟨_, (pss_one (ps_ret (pe_op op_add pe_int (pe_callB (call_sumL rfl) rfl B.sum_ L3.bt_sum (pa_cons (pe_comp [] ["_law_above_here", "_law_one_here", "_law_other"] 1 rfl (pi_range1 rfl B.range_ (pa_cons (pe_callB call_len_seq rfl B.len_ L3.bt_len (pa_cons (pv 0) pa_nil)) pa_nil)) (fun _ _ _ _ _ => (pg_name (i := 2) nd_6 rfl (Or.inl rfl) (Or.inr rfl))) (fun _ _ _ _ _ => (pif_one (pt_cmpR op_eq (pe_ix (ix_tupK K rfl) (pv 0) (pv 2) (fun _ _ => rfl)) (pv 1) (nomark _)))) (fun _ _ _ _ _ => (pe_fn g__law_under hr (pa_cons (pv 0) (pa_cons (pv 2) pa_nil))))) pa_nil))))), ?_⟩
  refine ⟨_, rfl, p, _, rfl, .inr (SqT.of hP), _, rfl, lo62 _, hi62 (by rw [vab_len]; omega), ?_⟩
  rw [Int.toNat_natCast, vab_len]
  refine comp_range (fun j acc σ' H' => acc = vnats (((List.range j).filter (isUp ab i)).map (szA ab)) ∧ Same H H' ∧ ∃ o : Option V, σ' = [some (.ref p), some (.int (i : Int)), o]) ⟨rfl, Same.refl _, _, rfl⟩ (fun j acc σ' H' hj ⟨e, _⟩ => by
      rw [e, vnats_len, List.length_map]
      have := List.length_filter_le (isUp ab i) (List.range j)
      rw [List.length_range] at this
      omega) ?_ ?_
  · rintro j acc σ' H' hj ⟨rfl, s1, o, rfl⟩
    have hat : atI (vab ab) (0 + (j : Int)) = some (vop (ab.getD j none)) := by rw [Int.zero_add]; exact atI_nat (vab_at hj)
    refine ⟨_, rfl, _, rfl, p, _, _, _, rfl, rfl, SqT.of (s1 _ _ hP), hat, _, rfl, ?_⟩
    have eu : isUp ab i j = decide (vop (ab.getD j none) = V.int (i : Int)) := by
      unfold isUp
      rw [ab_get hj, Bool.eq_iff_iff, beq_iff_eq, decide_eq_true_iff, eq_some_int]
      exact ⟨fun h => Option.some.inj h, fun h => by rw [h]⟩
    refine ⟨by cases ab.getD j none <;> rfl, _, rfl, ?_⟩
    rw [← eu]
    cases hu : isUp ab i j with
    | true =>
      have e : ab[j]? = some (some i) := eq_of_beq hu
      have hij := ok j i e
      obtain ⟨m, rfl⟩ : ∃ m, n = m + 1 := ⟨n - 1, by omega⟩
      refine iteT ⟨_, rfl, _, rfl, hsp m _ _ _ _ rfl ⟨p, ab, j, by rw [Int.zero_add]; rfl, s1 _ _ hP, ok, hl, hj, by omega, fun H2 s2 => ⟨?_, s1.trans s2, _, rfl⟩⟩⟩
      rw [flt_succ2, if_pos hu, List.map_append, vnats_app]
      rfl
    | false =>
      refine iteF ⟨?_, s1, _, rfl⟩
      rw [flt_succ2, if_neg (by rw [hu]; decide), List.append_nil]
  rintro acc σ' H1 D ⟨rfl, s1, o, rfl⟩ fD
  refine ⟨D, _, rfl, SqL.of (by rw [upd_same, vnats_ints]), _, _, rfl, rfl, ?_⟩
  rw [sum_nats]
  have hq := q _ (s1.trans (same_new fD (.lst (vnats (List.map (szA ab) (List.filter (isUp ab i) (List.range ab.length)))))))
  rw [sz_kids hl ok hi, Int.natCast_add] at hq
  exact hq
theorem ok__law_ready (F__law_ready : Fun K "_law_ready" "_law_ready" s__law_ready f fd) (B : Bl mg) : FnOk P w K mg base CX0 1 f fd p__law_ready spRdy := by
  refine F__law_ready.ok sc__law_ready (fun vs H Q E h => ?_) (fun cdv A outer s H vs Q E hr h => ?_)
  · obtain ⟨p, d, ab, done, rfl, _⟩ := h
    rfl
  obtain ⟨p, d, ab, done, rfl, hP, hD, hl, hdl, q⟩ := h
  refine ⟨_, (pss_cons (ps_comp 2 [] ["_law_above_here", "_law_done", "_law_free", "_law_one_here"] 1 rfl sc__law_ready.nd rfl rfl (pi_range1 rfl B.range_ (pa_cons (pe_callB call_len_seq rfl B.len_ L3.bt_len (pa_cons (pv 0) pa_nil)) pa_nil)) (fun _ _ _ _ _ => (pg_name (i := 3) nd_7 rfl (Or.inl rfl) (Or.inr rfl))) (fun _ _ _ _ _ => (pif_one (PW.pt (pw_or (pt_cmpR op_isN (pe_ix (ix_tupK K rfl) (pv 0) (pv 3) (fun _ _ => rfl)) pe_non (nomark _)) (pw_or1 (pt_cmpR (op_inK K rfl) (pe_ix (ix_tupK K rfl) (pv 0) (pv 3) (fun _ _ => rfl)) (pv 1) rfl)))))) (fun _ _ _ _ _ => (pv 3)))
      (pss_one (ps_ret (pe_comp [] ["_law_above_here", "_law_done", "_law_free", "_law_one_here"] 1 rfl (pi_list (pv 2)) (fun _ _ _ _ _ => (pg_name (i := 3) nd_8 rfl (Or.inl rfl) (Or.inr rfl))) (fun _ _ _ _ _ => (pif_one (pt_cmpR (op_notInK K rfl) (pv 3) (pv 1) rfl))) (fun _ _ _ _ _ => (pv 3)))))), ?_⟩
  refine ⟨_, rfl, p, _, rfl, .inr (SqT.of hP), _, rfl, lo62 _, hi62 (by rw [vab_len]; omega), ?_⟩
  rw [Int.toNat_natCast, vab_len]
  refine comp_range (fun j acc σ' H' => acc = vnats ((List.range j).filter (frB ab done)) ∧ H' = H ∧ ∃ o : Option V, σ' = [some (.ref p), some (.ref d), none, o]) ⟨rfl, rfl, _, rfl⟩ (fun j acc σ' H' hj ⟨e, _⟩ => by
      rw [e, vnats_len]
      have := List.length_filter_le (frB ab done) (List.range j)
      rw [List.length_range] at this
      omega) ?_ ?_
  · rintro j acc σ' H' hj ⟨rfl, rfl, o, rfl⟩
    have hat : atI (vab ab) (0 + (j : Int)) = some (vop (ab.getD j none)) := by rw [Int.zero_add]; exact atI_nat (vab_at hj)
    refine ⟨_, rfl, _, rfl, p, _, _, _, rfl, rfl, SqT.of hP, hat, rfl, _, rfl, ?_⟩
    cases eo : ab.getD j none with
    | none =>
      have hf : frB ab done j = true := by
        unfold frB
        rw [ab_get hj, eo]
      refine ite2 (fun _ => iteT ⟨_, rfl, ?_, rfl, _, rfl⟩) (fun c => absurd rfl c)
      rw [← flt_yes2 hf, Int.zero_add]
    | some u =>
      have hf : frB ab done j = decide (u ∈ done) := by
        unfold frB
        rw [ab_get hj, eo]
        exact List.contains_eq_mem u done
      refine ite2 (fun c => absurd (of_decide_eq_true c) (fun y => by cases y)) (fun _ => ?_)
      rw [eo] at hat
      refine ⟨_, rfl, _, rfl, p, _, _, _, rfl, rfl, SqT.of hP, hat, _, rfl, d, vnats done, rfl, .inr (SqT.of hD), rfl, vnats_flat done, _, rfl, ?_⟩
      show if inV (V.int (u : Int)) (vnats done) = true then _ else _
      rw [vnats_in, ← hf]
      cases hf' : frB ab done j with
      | true =>
        refine iteT ⟨_, rfl, ?_, rfl, _, rfl⟩
        rw [← flt_yes2 hf', Int.zero_add]
      | false => exact iteF ⟨flt_no2 hf', rfl, _, rfl⟩
  rintro acc σ' H1 D ⟨rfl, rfl, o, rfl⟩ fD
  obtain ⟨fr, efr⟩ : ∃ fr, fr = (List.range ab.length).filter (frB ab done) := ⟨_, rfl⟩
  have hfl : fr.length ≤ 7 := by
    rw [efr]
    have := List.length_filter_le (frB ab done) (List.range ab.length)
    rw [List.length_range] at this
    omega
  rw [← efr]
  have y1 := same_new fD (.lst (vnats fr))
  have w1 : (upd H1 D (.lst (vnats fr))) D = some (.lst (vnats fr)) := upd_same
  generalize upd H1 D (.lst (vnats fr)) = H2 at y1 w1 ⊢
  refine ⟨_, rfl, D, rfl, ⟨_, SqL.of w1⟩, comp_list (xs := vnats fr) (fun j acc σ' H' => acc = vnats ((fr.take j).filter fun i => !done.contains i) ∧ H' = H2 ∧ ∃ o : Option V, σ' = [some (.ref p), some (.ref d), some (.ref D), o]) ⟨rfl, rfl, _, rfl⟩ (fun j acc σ' H' hj ⟨e, _⟩ => by
      rw [e, vnats_len]
      have := List.length_filter_le (fun i => !done.contains i) (fr.take j)
      rw [List.length_take] at this
      omega) (fun j acc σ' H' _ ⟨_, e, _⟩ => by rw [e]; exact SqL.of w1) ?_ ?_⟩
  · rintro j x acc σ' H' hx ⟨rfl, rfl, o', rfl⟩
    have hj : j < fr.length := by
      have := (List.getElem?_eq_some_iff.mp hx).1
      rwa [vnats_len] at this
    rw [vnats_at hj] at hx
    obtain rfl := Option.some.inj hx
    refine ⟨_, rfl, _, rfl, d, vnats done, rfl, .inr (SqT.of (y1 _ _ hD)), rfl, vnats_flat done, _, rfl, ?_⟩
    show if (!inV (V.int ((fr.getD j 0 : Nat) : Int)) (vnats done)) = true then _ else _
    rw [vnats_in, ← List.contains_eq_mem]
    have et : fr.take (j + 1) = fr.take j ++ [fr.getD j 0] := by
      rw [List.take_add_one, List.getElem?_eq_getElem hj, List.getD_eq_getElem?_getD, List.getElem?_eq_getElem hj]
      rfl
    rw [et, List.filter_append]
    cases hc : done.contains (fr.getD j 0) with
    | true =>
      refine iteF ⟨?_, rfl, _, rfl⟩
      rw [List.filter_cons_of_neg (by rw [hc]; decide), List.filter_nil, List.append_nil]
    | false =>
      refine iteT ⟨_, rfl, ?_, rfl, _, rfl⟩
      rw [List.filter_cons_of_pos (by rw [hc]; decide), List.filter_nil, vnats_app]
      rfl
  rintro acc σ' H3 D2 ⟨rfl, rfl, o', rfl⟩ fD2
  rw [vnats_len, List.take_length]
  have nD : H1 D2 = none := by
    cases zz : H1 D2 with
    | none => rfl
    | some o => have := y1 _ _ zz; rw [fD2] at this; cases this
  refine q D2 _ nD (y1.trans (same_new fD2 _)) ?_
  rw [upd_same, efr]
  rfl
theorem ok__law_above (F__law_above : Fun K "_law_above" "_law_above" s__law_above f fd) (B : Bl mg) (g__law_draw : Fn P w K mg base "_law_draw" p__law_draw 1 (spDraw K)) (g__law_one : Fn P w K mg base "_law_one" p__law_one 2 (spOne K)) : FnOk P w K mg base CX0 3 f fd p__law_above (spAbove K) := by
  refine F__law_above.ok sc__law_above (fun vs H Q E h => ?_) (fun cdv A outer s H vs Q E hr h => ?_)
  · obtain ⟨a, t, ns, k, rfl, _⟩ := h
    rfl
  obtain ⟨a, t, ns, k, rfl, hS, h63, hT, hk, q⟩ := h
  refine ⟨_, (pss_cons (ps_set (i := 2) sc__law_above.nd rfl (Or.inl rfl) (pe_tup pa_nil))
      (pss_cons (ps_for PassesOwn.never rfl (pi_range1 rfl B.range_ (pa_cons (pe_fn g__law_draw hr (pa_cons (pv 0) (pa_cons (pv 1) (pa_cons pe_int pa_nil)))) pa_nil)) (pg_name (i := 3) sc__law_above.nd rfl (Or.inl rfl)) (pss_cons (ps_set (i := 4) sc__law_above.nd rfl (Or.inl rfl) (pe_op op_cat (pe_op op_cat (pe_lst (pa_cons pe_non pa_nil)) (pe_listRange rfl rfl B.list_ rfl B.range_ (pa_cons (pv 3) pa_nil))) (pe_listRange2 rfl rfl B.list_ rfl B.range_ (pa_cons (pe_callB (call_max2 rfl) rfl B.max_ L3.bt_max (pa_cons pe_int (pa_cons (pe_op op_sub (pv 3) pe_int) pa_nil))) (pa_cons (pv 3) pa_nil)))))
      (pss_one (ps_set (i := 2) sc__law_above.nd rfl (Or.inl rfl) (pe_op op_cat0 (pv 2) (pe_tup (pa_cons (pe_fn g__law_one hr (pa_cons (pv 0) (pa_cons (pv 1) (pa_cons (pv 4) pa_nil)))) pa_nil)))))))
      (pss_one (ps_ret (pv 2))))), ?_⟩
  refine ⟨(by show 0 ≤ sizeLine; decide), fun g0 fg => ?_⟩
  have y0 := same_new fg (.tup ([] : List V))
  have w0 : (upd H g0 (.tup ([] : List V))) g0 = some (.tup (vab [])) := upd_same
  generalize upd H g0 (.tup ([] : List V)) = H0 at y0 w0 ⊢
  refine ⟨_, rfl, _, rfl, a, t, ns, k, 8, rfl, y0.scr hS, h63, y0.twn hT, by omega, by decide, fun H1 g1 t1 => ?_⟩
  have d0 := drw_nn ns (k + 1) (show (0 : Int) < 8 by decide)
  have d1 := drw_lt ns (k + 1) (show (0 : Int) < 8 by decide)
  generalize drw ns (k + 1) 8 = dd at d0 d1
  obtain ⟨n, rfl⟩ := nat_of d0
  have w1 := g1 _ _ (twn_tup (y0.twn hT) w0) w0
  have hS1 := g1.scr (y0.twn hT) (y0.scr hS)
  have G1 : Grow t H H1 := (Grow.same y0).trans g1
  clear y0 w0 g1 fg
  refine ⟨_, rfl, lo62 _, hi62 (by omega), ?_⟩
  rw [Int.toNat_natCast]
  refine for_range (lo := 0) (n := n) (fun i σ' H' => ∃ (g : Addr) (ab : List (Option Nat)) (o3 o4 : Option V), σ' = [some (.ref a), some (.ref t), some (.ref g), o3, o4] ∧ ab.length = i ∧ okAb ab ∧ H' g = some (.tup (vab ab)) ∧ Grow t H H' ∧ Scr K H' a ns ∧ Twn H' t (k + 1 + i))
    ⟨g0, [], _, _, rfl, rfl, fun i j e => (by cases e), w1, G1, hS1, t1⟩ ?_ ?_
  · rintro i σ H2 hi ⟨g, ab, o3, o4, rfl, rfl, ok, hg, G2, hS2, t2⟩
    refine ⟨(by show 1 ≤ sizeLine; decide), fun l1 f1 => ?_⟩
    have y1 := same_new f1 (.lst [V.non])
    have w1 : (upd H2 l1 (.lst [V.non])) l1 = some (.lst [V.non]) := upd_same
    generalize upd H2 l1 (.lst [V.non]) = J1 at y1 w1 ⊢
    refine ⟨_, rfl, ab.length, by rw [Int.zero_add], by omega, fun l2 f2 => ?_⟩
    have y2 := same_new f2 (.lst ((List.range ab.length).map fun (j : Nat) => V.int (j : Int)))
    have w2 : (upd J1 l2 (.lst ((List.range ab.length).map fun (j : Nat) => V.int (j : Int)))) l2 = some (.lst ((List.range ab.length).map fun (j : Nat) => V.int (j : Int))) := upd_same
    generalize upd J1 l2 (.lst ((List.range ab.length).map fun (j : Nat) => V.int (j : Int))) = J2 at y2 w2 ⊢
    refine ⟨l1, l2, _, _, rfl, rfl, y2 _ _ w1, w2, small (by rw [List.length_map, List.length_range]; show 1 + _ ≤ _; omega), fun l3 f3 => ?_⟩
    generalize hX1 : [V.non] ++ (List.range ab.length).map (fun (j : Nat) => V.int (j : Int)) = X1
    have y3 := same_new f3 (.lst X1)
    have w3 : (upd J2 l3 (.lst X1)) l3 = some (.lst X1) := upd_same
    generalize upd J2 l3 (.lst X1) = J3 at y3 w3 ⊢
    have em : (if ((0 : Int) + (ab.length : Int) - 2 > 0) then ((0 : Int) + (ab.length : Int) - 2) else 0) = ((ab.length - 2 : Nat) : Int) := by split <;> omega
    refine ⟨_, rfl, _, _, rfl, rfl, 0, _, rfl, _, rfl, ab.length - 2, ab.length, by rw [Int.zero_add] at em ⊢; exact congrArg (fun x => [V.int x, V.int (ab.length : Int)]) em, by omega, by omega, fun l4 f4 => ?_⟩
    generalize hX2 : (List.range (ab.length - (ab.length - 2))).map (fun (j : Nat) => V.int ((ab.length - 2 + j : Nat) : Int)) = X2
    have y4 := same_new f4 (.lst X2)
    have w4 : (upd J3 l4 (.lst X2)) l4 = some (.lst X2) := upd_same
    generalize upd J3 l4 (.lst X2) = J4 at y4 w4 ⊢
    have hXl : X1.length + X2.length ≤ 100 := by
      rw [← hX1, ← hX2, List.length_append, List.length_map, List.length_map, List.length_range, List.length_range]
      show 1 + _ + _ ≤ _
      omega
    have hX0 : 0 < X1.length := by
      rw [← hX1, List.length_append]
      show 0 < 1 + _
      omega
    refine ⟨l3, l4, _, _, rfl, rfl, y4 _ _ w3, w4, small (by omega), fun l5 f5 => ?_⟩
    have y5 := same_new f5 (.lst (X1 ++ X2))
    have w5 : (upd J4 l5 (.lst (X1 ++ X2))) l5 = some (.lst (X1 ++ X2)) := upd_same
    have s24 := y1.trans (y2.trans (y3.trans y4))
    have n5 : l5 ≠ t := twn_new (s24.twn t2) f5
    generalize upd J4 l5 (.lst (X1 ++ X2)) = J5 at y5 w5 ⊢
    have s25 := s24.trans y5
    refine ⟨_, rfl, _, rfl, _, rfl, _, rfl, a, t, l5, ns, k + 1 + ab.length, _, rfl, s25.scr hS2, h63, s25.twn t2, by omega, w5, n5, by rw [List.length_append]; omega, by rw [List.length_append]; omega, fun jj v J6 _ hv g6 t6 => ?_⟩
    obtain ⟨o, rfl, ho⟩ : ∃ o : Option Nat, v = vop o ∧ ∀ j, o = some j → j < ab.length := by
      have := List.mem_of_getElem? hv
      rw [← hX1, ← hX2] at this
      rcases List.mem_append.mp this with h | h
      · rcases List.mem_append.mp h with h | h
        · exact ⟨none, (by have h' : v = V.non := (by simpa using h); exact h'), fun j e => by cases e⟩
        · obtain ⟨j, hj, rfl⟩ := List.mem_map.mp h
          exact ⟨some j, rfl, fun j' e => by cases e; exact List.mem_range.mp hj⟩
      · obtain ⟨j, hj, rfl⟩ := List.mem_map.mp h
        have := List.mem_range.mp hj
        exact ⟨some (ab.length - 2 + j), rfl, fun j' e => by cases e; omega⟩
    have G6 := (Grow.same s25).trans g6
    refine ⟨(by show 1 ≤ sizeLine; decide), fun o1 fo1 => ?_⟩
    have y7 := same_new fo1 (.tup [vop o])
    have w7 : (upd J6 o1 (.tup [vop o])) o1 = some (.tup [vop o]) := upd_same
    generalize upd J6 o1 (.tup [vop o]) = J7 at y7 w7 ⊢
    have hg7 := y7 _ _ (G6 _ _ (twn_tup t2 hg) hg)
    refine cat35 hg7 w7 (by rw [vab_len]; show _ + 1 ≤ _; omega) fun g' J8 s8 hg8 => ?_
    have s68 := y7.trans s8
    refine ⟨g', ab ++ [o], _, _, rfl, by rw [List.length_append]; rfl, fun i j e => ?_, by rw [hg8, vab, vab, List.map_append]; rfl, (G2.trans G6).trans (.same s68), s68.scr (G6.scr t2 hS2), s68.twn t6⟩
    rcases Nat.lt_or_ge i ab.length with y | y
    · rw [List.getElem?_append_left y] at e
      exact ok i j e
    · rw [List.getElem?_append_right y] at e
      have : i - ab.length = 0 := by
        have := (List.getElem?_eq_some_iff.mp e).1
        simpa using this
      rw [this] at e
      have := ho j (by simpa using e)
      omega
  rintro σ H2 ⟨g, ab, o3, o4, rfl, hn, ok, hg, G2, hS2, t2⟩
  exact ⟨_, rfl, q g ab _ H2 G2 t2 (by omega) hg ok (by omega)⟩
end
theorem mem_le_sum : ∀ {l : List Nat} {x : Nat}, x ∈ l → x ≤ l.sum
  | a :: l, x, h => by
    rw [List.sum_cons]
    rcases List.mem_cons.mp h with rfl | h
    · omega
    · have := mem_le_sum h; omega
def rsAt (ws : List Nat) (S u : Nat) : List Nat := ws.map fun w => w * 2 ^ u % S
theorem rsAt_len (ws : List Nat) (S u : Nat) : (rsAt ws S u).length = ws.length := List.length_map _
theorem rsAt_get {ws : List Nat} {S u i : Nat} (h : i < ws.length) : (rsAt ws S u).getD i 0 = ws.getD i 0 * 2 ^ u % S := by
  unfold rsAt
  rw [List.getD_eq_getElem?_getD, List.getD_eq_getElem?_getD, List.getElem?_map, List.getElem?_eq_getElem h]
  rfl
theorem rsAt_zero {ws : List Nat} {S : Nat} (h : ∀ w ∈ ws, w < S) : rsAt ws S 0 = ws := by
  unfold rsAt
  conv => rhs; rw [← List.map_id ws]
  refine List.map_congr_left fun w hw => ?_
  rw [Nat.pow_zero, Nat.mul_one, Nat.mod_eq_of_lt (h w hw)]
  rfl
theorem rsAt_step (ws : List Nat) (S u : Nat) : stepR S (rsAt ws S u) = rsAt ws S (u + 1) := by
  unfold stepR rsAt
  rw [List.map_map]
  refine List.map_congr_left fun w _ => ?_
  exact rest_hand
def ShL (H : Hp) (x : V) (ws : List Nat) : Prop := ∃ r, x = .ref r ∧ H r = some (.lst (vnats ws)) ∧ 0 < ws.sum ∧ ws.sum < 1073741824 ∧ ws.length ≤ 1000
section
variable {P : Program} {w : World} {K : PySem.W.Frag} {mg : Str → Option Value} {base : Heap} {f : Addr} {fd : FuncData}
theorem ok__law_pick (F__law_pick : Fun K "_law_pick" "_law_pick" s__law_pick f fd) (B : Bl mg) : FnOk P w K mg base CX0 1 f fd p__law_pick (spHand ShL pkV) := by
  refine F__law_pick.ok sc__law_pick (fun vs H Q E h => ?_) (fun cdv A outer s H vs Q E hr h => ?_)
  · obtain ⟨r, bl, z, x, a, rfl, _⟩ := h
    rfl
  obtain ⟨r, bl, z, x, ws, rfl, hR, hz, hbl, ⟨wr, rfl, hW, hT, hT2, hwl⟩, q⟩ := h
  have hsq : ∀ {H'}, H' wr = some (.lst (vnats ws)) → SqL K H' wr ((ws.map (fun (n : Nat) => (n : Int))).map V.int) := fun {H'} y => SqL.of (by rw [← vnats_ints]; exact y)
  refine ⟨_, (pss_cons (ps_set (i := 3) sc__law_pick.nd rfl (Or.inr rfl) (pe_callB (call_sumL rfl) rfl B.sum_ L3.bt_sum (pa_cons (pv 2) pa_nil)))
      (pss_cons (ps_if (pt_cmpR op_in_seq (pv 3) (pv 2) rfl) (pss_one (ps_ret (pe_tup (pa_cons (pe_bm PySem.F.plainAttrs_list PySem.F.slot_list_index PySem.F.type_list_index mt_lindex (pv 2) (pa_cons (pv 3) pa_nil)) (pa_cons (pv 1) pa_nil))))) pss_nil)
      (pss_cons (ps_asg (pe_tup (pa_cons pe_int (pa_cons pe_int pa_nil))) (pg_tup rfl (pgs_cons (pg_name (i := 4) sc__law_pick.nd rfl (Or.inl rfl)) (pgs_cons (pg_name (i := 5) sc__law_pick.nd rfl (Or.inr rfl)) pgs_nil))))
      (pss_one (ps_while PassesOwn.never (pt_truth pe_bl (fun _ => rfl)) (pss_cons (ps_if (pt_cmpR op_eq (pv 1) (pe_callB call_len_seq rfl B.len_ L3.bt_len (pa_cons (pv 0) pa_nil)) (nomark _)) (pss_one (ps_ret (pe_tup (pa_cons pe_str (pa_cons pe_non pa_nil))))) pss_nil)
      (pss_cons (ps_asg (pe_tup (pa_cons (pe_op op_add (pe_op op_mul (pv 4) pe_int) (pe_ix ix_tup (pv 0) (pv 1) (fun _ _ => rfl))) (pa_cons (pe_op op_mul (pv 5) pe_int) (pa_cons (pe_op op_add (pv 1) pe_int) pa_nil)))) (pg_tup rfl (pgs_cons (pg_name (i := 4) sc__law_pick.nd rfl (Or.inl rfl)) (pgs_cons (pg_name (i := 5) sc__law_pick.nd rfl (Or.inr rfl)) (pgs_cons (pg_name (i := 1) sc__law_pick.nd rfl (Or.inl rfl)) pgs_nil)))))
      (pss_cons (ps_join (ps_comp 6 [] ["_law_row", "_law_at", "_law_weights", "_law_total", "_law_place", "_law_size", "_law_ends", "_law_number", "_law_weight"] 2 rfl sc__law_pick.nd rfl rfl (pi_enumL rfl B.enumerate_ (pa_cons (pv 2) pa_nil)) (fun _ _ _ _ _ => (pg_tupK K 2 rfl (pgs_cons (pg_name (i := 7) nd_9 rfl (Or.inl rfl) (Or.inr rfl)) (pgs_cons (pg_name (i := 8) nd_9 rfl (Or.inl rfl) (Or.inr rfl)) pgs_nil)) rfl rfl rfl)) (fun _ _ _ _ _ => (pif_one (pt_cmpR op_eq (pe_op op_mod (pe_op op_fdiv (pe_op op_mul (pv 8) (pv 5)) (pv 3)) pe_int) pe_int (nomark _)))) (fun _ _ _ _ _ => (pv 7))))
      (pss_cons (ps_if (pt_cmpR op_lt (pv 4) (pe_callB call_len_seq rfl B.len_ L3.bt_len (pa_cons (pv 6) pa_nil)) (nomark _)) (pss_one (ps_ret (pe_tup (pa_cons (pe_ix ix_list (pv 6) (pv 4) (fun _ _ => rfl)) (pa_cons (pv 1) pa_nil))))) pss_nil)
      (pss_one (ps_set (i := 4) sc__law_pick.nd rfl (Or.inl rfl) (pe_op op_sub (pv 4) (pe_callB call_len_seq rfl B.len_ L3.bt_len (pa_cons (pv 6) pa_nil)))))))))))))), ?_⟩
  refine ⟨_, rfl, wr, ws.map (fun (n : Nat) => (n : Int)), rfl, hsq hW, ?_⟩
  rw [sum_nats]
  refine ⟨_, rfl, _, rfl, wr, vnats ws, rfl, .inl (SqL.of hW), rfl, vnats_flat ws, _, rfl, ?_⟩
  rw [vnats_in]
  refine ite2 (fun c => ?_) (fun c => ?_)
  · have c' : ws.sum ∈ ws := of_decide_eq_true c
    obtain ⟨i1, i2⟩ := idx_at c'
    have i1' : (vnats ws)[ws.idxOf ws.sum]? = some (V.int (ws.sum : Int)) := by rw [vnats_ints, List.getElem?_map, i1]; rfl
    refine ⟨_, rfl, .inl ⟨rfl, _, SqL.of hW⟩, _, rfl, wr, _, _, ws.idxOf ws.sum, _, rfl, rfl, hW, rfl, vnats_flat ws, i1', (by show ((ws.sum : Int) == (ws.sum : Int)) = true; simp), fun i z' hi hz' => ?_, _, rfl, (by show 2 ≤ sizeLine; decide), fun p fp => q p _ (same_new fp _) ?_⟩
    · rw [vnats_ints, List.getElem?_map] at hz'
      cases e : (ws.map fun (n : Nat) => (n : Int))[i]? with
      | none => rw [e] at hz'; cases hz'
      | some c =>
        rw [e] at hz'
        cases hz'
        have hne : c ≠ (ws.sum : Int) := fun y => i2 i hi (by rw [e, y])
        show (c == (ws.sum : Int)) = false
        simpa using hne
    rw [upd_same]
    unfold pkV pkF
    rw [if_pos c']
    rfl
  have hno : ws.sum ∉ ws := of_decide_eq_false (Bool.eq_false_iff.mpr c)
  have hlt : ∀ w ∈ ws, w < ws.sum := fun w hw => by
    have := mem_le_sum hw
    rcases Nat.lt_or_ge w ws.sum with y | y
    · exact y
    · have : w = ws.sum := by omega
      exact absurd (this ▸ hw) hno
  have hpk : pkF ws (bl.drop z) = pkR ws.sum ws 0 0 (bl.drop z) := if_neg hno
  generalize hS : ws.sum = S at hT hT2 hpk hlt
  refine ⟨(by show 2 ≤ sizeLine; decide), fun p0 f0 => ?_⟩
  refine ⟨p0, _, rfl, SqT.of upd_same, rfl, _, _, rfl, _, _, rfl, rfl, ?_⟩
  have s0 := same_new f0 (.tup [V.int 0, V.int 1])
  generalize upd H p0 (.tup [V.int 0, V.int 1]) = H0 at s0
  refine ⟨fun mu σ' H' => ∃ (pl u : Nat) (o6 : Option V), mu = bl.length - (z + u) ∧ z + u ≤ bl.length ∧ σ' = [some (.ref r), some (.int ((z + u : Nat) : Int)), some (.ref wr), some (.int (S : Int)), some (.int (pl : Int)), some (.int ((2 ^ u : Nat) : Int)), o6] ∧ Same H H' ∧ pkF ws (bl.drop z) = pkR S (rsAt ws S u) pl u (bl.drop (z + u)),
    ⟨_, 0, 0, none, rfl, hz, rfl, s0, by rw [rsAt_zero hlt]; exact hpk⟩, ?_⟩
  rintro mu σ1 H1 ⟨pl, u, o6, rfl, hu, rfl, s1, hev⟩
  have hR1 := s1 _ _ hR
  refine ⟨_, rfl, iteT ?_⟩
  refine ⟨_, fun _ _ z => z, ?_⟩
  refine ⟨_, rfl, _, rfl, r, _, rfl, .inr (SqT.of hR1), rfl, _, rfl, ?_⟩
  rw [vbits_len]
  refine ite2 (fun d => ?_) (fun d => ?_)
  · have d' : V.int ((z + u : Nat) : Int) = V.int (bl.length : Int) := of_decide_eq_true d
    injection d' with d'
    refine ⟨(by show 2 ≤ sizeLine; decide), fun p fp => q p _ (s1.trans (same_new fp _)) ?_⟩
    rw [upd_same]
    unfold pkV
    rw [hev, List.drop_eq_nil_of_le (by omega)]
    rfl
  have d' : ¬ V.int ((z + u : Nat) : Int) = V.int (bl.length : Int) := of_decide_eq_false (Bool.eq_false_iff.mpr d)
  have hlt2 : z + u < bl.length := by
    rcases Nat.lt_or_ge (z + u) bl.length with y | y
    · exact y
    · exact absurd (by rw [show z + u = bl.length by omega]) d'
  have hx := List.getElem?_eq_getElem hlt2
  generalize bl[z + u] = x at hx
  refine ⟨_, rfl, _, _, rfl, rfl, .inr ⟨by decide, by decide⟩, _, rfl, _, rfl, r, _, _, _, rfl, rfl, SqT.of hR1, atI_nat (vget hx), _, _, rfl, rfl, _, rfl, _, _, rfl, rfl, .inr ⟨by decide, by decide⟩, _, rfl, _, _, rfl, rfl, (by show 3 ≤ sizeLine; decide), fun p2 f2 => ?_⟩
  refine ⟨p2, _, rfl, SqT.of upd_same, rfl, _, _, rfl, _, _, rfl, _, _, rfl, rfl, ?_⟩
  have s2 := s1.trans (same_new f2 (.tup [V.int ((pl : Int) * 2 + (x : Int)), V.int (((2 ^ u : Nat) : Int) * 2), V.int (((z + u : Nat) : Int) + 1)]))
  generalize upd H1 p2 (.tup [V.int ((pl : Int) * 2 + (x : Int)), V.int (((2 ^ u : Nat) : Int) * 2), V.int (((z + u : Nat) : Int) + 1)]) = H2 at s2
  have hW2 := s2 _ _ hW
  -- ends
  refine ⟨fun σ' H' => ∃ D : Addr, σ' = [some (.ref r), some (.int ((z + (u + 1) : Nat) : Int)), some (.ref wr), some (.int (S : Int)), some (.int ((2 * pl + x : Nat) : Int)), some (.int ((2 ^ (u + 1) : Nat) : Int)), some (.ref D)] ∧ Same H2 H' ∧ H' D = some (.lst (vnats (digs S (rsAt ws S u)))), ?_, ?_⟩
  rotate_left
  · have ep : (pl : Int) * 2 + (x : Int) = ((2 * pl + x : Nat) : Int) := by omega
    have e2 : ((2 ^ u : Nat) : Int) * 2 = ((2 ^ (u + 1) : Nat) : Int) := by rw [Nat.pow_succ]; rfl
    refine ⟨_, rfl, wr, rfl, ⟨_, SqL.of hW2⟩, ?_⟩
    refine ⟨fun i mm acc σ' H' => mm = ws.length - i ∧ i ≤ ws.length ∧ acc = vnats (figs S (rsAt ws S u) i) ∧ Same H2 H' ∧ ∃ o7 o8 : Option V, σ' = [some (.ref r), some (.int (((z + u : Nat) : Int) + 1)), some (.ref wr), some (.int (S : Int)), some (.int ((pl : Int) * 2 + (x : Int))), some (.int (((2 ^ u : Nat) : Int) * 2)), o6, o7, o8], ⟨ws.length, rfl, Nat.zero_le _, rfl, Same.refl _, _, _, rfl⟩, ?_⟩
    rintro i mm acc σ' H3 ⟨rfl, hi, rfl, s3, o7, o8, rfl⟩
    have hfl := figs_len S (rsAt ws S u) i
    by_cases hli : i < ws.length
    · refine .inr ⟨⟨_, _, SqL.of (s3 _ _ hW2), vnats_at hli⟩, smallL (by rw [vnats_len]; omega), fun acc' σ2 H4 => acc' = vnats (figs S (rsAt ws S u) (i + 1)) ∧ Same H2 H4 ∧ ∃ o7 o8 : Option V, σ2 = [some (.ref r), some (.int (((z + u : Nat) : Int) + 1)), some (.ref wr), some (.int (S : Int)), some (.int ((pl : Int) * 2 + (x : Int))), some (.int (((2 ^ u : Nat) : Int) * 2)), o6, o7, o8], ?_, ?_⟩
      · rintro acc' σ2 H4 ⟨rfl, s4, o7', o8', rfl⟩
        exact ⟨ws.length - (i + 1), by omega, rfl, hli, rfl, s4, _, _, rfl⟩
      · rintro v H4 ⟨p, y, fp, rfl, rfl, ex⟩
        have ex' := ex _ (SqL.of (s3 _ _ hW2))
        rw [vnats_at hli] at ex'
        obtain rfl := Option.some.inj ex'
        have s4 := s3.trans (same_new fp (.tup [V.int (i : Int), V.int ((ws.getD i 0 : Nat) : Int)]))
        have hwb : ws.getD i 0 < S := by
          rw [List.getD_eq_getElem?_getD, List.getElem?_eq_getElem hli]
          exact hlt _ (List.getElem_mem hli)
        have hfig := fig_hand (w := ws.getD i 0) (T := S) (d := u) hT
        refine ⟨p, _, rfl, SqT.of upd_same, rfl, _, _, rfl, _, _, rfl, rfl, ?_⟩
        have evv : ((ws.getD i 0 : Nat) : Int) * (((2 ^ u : Nat) : Int) * 2) / (S : Int) % 2 = ((ws.getD i 0 * 2 ^ (u + 1) / S % 2 : Nat) : Int) := by rw [e2]; rfl
        refine ⟨_, rfl, _, rfl, _, _, rfl, rfl, .inl ⟨by omega, by omega⟩, _, rfl, _, _, rfl, rfl, ⟨by omega, by omega⟩, _, _, rfl, rfl, (by show (0 : Int) < 2; decide), rfl, _, rfl, ite2 (fun c => ?_) (fun c => ?_)⟩
        · have c' : V.int (((ws.getD i 0 : Nat) : Int) * (((2 ^ u : Nat) : Int) * 2) / (S : Int) % 2) = V.int 1 := of_decide_eq_true c
          rw [evv] at c'
          injection c' with c'
          refine ⟨_, rfl, ?_, s4, _, _, rfl⟩
          rw [figs_yes (by rw [rsAt_get hli]; exact hfig.mp (by omega))]
        · have c' : ¬ V.int (((ws.getD i 0 : Nat) : Int) * (((2 ^ u : Nat) : Int) * 2) / (S : Int) % 2) = V.int 1 := of_decide_eq_false (Bool.eq_false_iff.mpr c)
          rw [evv] at c'
          refine ⟨?_, s4, _, _, rfl⟩
          rw [figs_no (by rw [rsAt_get hli]; exact fun y => c' (by rw [hfig.mpr y]; rfl))]
    · have ei : i = ws.length := by omega
      subst ei
      refine .inl ⟨⟨_, SqL.of (s3 _ _ hW2), by rw [vnats_len]; exact Nat.le_refl _⟩, small (by rw [vnats_len]; omega), fun D fD => ⟨D, ?_, s3.trans (same_new fD _), ?_⟩⟩
      · rw [← ep, ← e2]
        rfl
      · rw [upd_same, ← figs_all, rsAt_len]
  rintro σ3 H3 ⟨D, rfl, s3, hD⟩
  have sA := s2.trans s3
  have hev2 : pkF ws (bl.drop z) = if 2 * pl + x < (digs S (rsAt ws S u)).length then some ((digs S (rsAt ws S u)).getD (2 * pl + x) 0, u + 1) else pkR S (stepR S (rsAt ws S u)) (2 * pl + x - (digs S (rsAt ws S u)).length) (u + 1) (bl.drop (z + (u + 1))) := by
    rw [hev, drop_at hx]
    rfl
  refine ⟨_, rfl, _, rfl, D, _, rfl, .inl (SqL.of hD), _, _, rfl, rfl, _, rfl, ?_⟩
  rw [vnats_len]
  refine ite2 (fun c => ?_) (fun c => ?_)
  · have c' : ((2 * pl + x : Nat) : Int) < (((digs S (rsAt ws S u)).length : Nat) : Int) := of_decide_eq_true c
    have hl3 : 2 * pl + x < (digs S (rsAt ws S u)).length := by omega
    rw [if_pos hl3] at hev2
    refine ⟨_, rfl, _, rfl, D, _, _, _, rfl, rfl, SqL.of hD, atI_nat (vnats_at hl3), _, rfl, (by show 2 ≤ sizeLine; decide), fun p fp => q p _ (sA.trans (same_new fp _)) ?_⟩
    rw [upd_same]
    unfold pkV
    rw [hev2]
    rfl
  have c' : ¬ ((2 * pl + x : Nat) : Int) < (((digs S (rsAt ws S u)).length : Nat) : Int) := of_decide_eq_false (Bool.eq_false_iff.mpr c)
  have hge : ¬ 2 * pl + x < (digs S (rsAt ws S u)).length := by omega
  rw [if_neg hge, rsAt_step] at hev2
  refine ⟨_, rfl, _, rfl, D, _, rfl, .inl (SqL.of hD), _, _, rfl, rfl, ?_⟩
  refine ⟨bl.length - (z + (u + 1)), by omega, 2 * pl + x - (digs S (rsAt ws S u)).length, u + 1, some (.ref D), rfl, hlt2, ?_, sA, hev2⟩
  rw [vnats_len, Int.ofNat_sub (show (digs S (rsAt ws S u)).length ≤ 2 * pl + x by omega)]
  rfl
end
theorem rdy_nil (ab : List (Option Nat)) : rdy ab [] = (List.range ab.length).filter fun i => ab.getD i none == none := by
  unfold rdy
  rw [List.filter_filter]
  refine List.filter_congr fun i hi => ?_
  rw [List.mem_range] at hi
  unfold frB
  rw [List.getElem?_eq_getElem hi, List.getD_eq_getElem?_getD, List.getElem?_eq_getElem hi]
  cases ab[i] <;> rfl
theorem pkR_lt (T : Nat) : ∀ (bs rs : List Nat) (p u j v : Nat), pkR T rs p u bs = some (j, v) → j < rs.length
  | [], _, _, _, _, _, h => by cases h
  | b :: bs, rs, p, u, j, v, h => by
    unfold pkR at h
    split at h
    · rename_i hlt
      injection h with h
      injection h with h1 h2
      rw [← h1, List.getD_eq_getElem?_getD, List.getElem?_eq_getElem hlt]
      exact (mem_digs.mp (List.getElem_mem hlt)).1
    · have := pkR_lt T bs _ _ _ _ _ h
      rwa [step_len] at this
theorem pkF_lt {ws bs : List Nat} {j u : Nat} (h : pkF ws bs = some (j, u)) : j < ws.length := by
  unfold pkF at h
  split at h
  · rename_i hm
    injection h with h
    injection h with h1 h2
    rw [← h1]
    exact List.idxOf_lt_length_of_mem hm
  · exact pkR_lt _ _ _ _ _ _ _ h
def dueR (ab : List (Option Nat)) : Nat → List Nat → List Nat → Option (List Nat × Nat)
  | 0, done, _ => some (done, 0)
  | k + 1, done, bs => match pkF ((rdy ab done).map (szA ab)) bs with
    | none => none
    | some (j, u) => (dueR ab k (done ++ [(rdy ab done).getD j 0]) (bs.drop u)).map fun p => (p.1, u + p.2)
theorem due_none {ab : List (Option Nat)} {k : Nat} {done bs : List Nat} (h : pkF ((rdy ab done).map (szA ab)) bs = none) : dueR ab (k + 1) done bs = none := by
  rw [dueR, h]
theorem due_some {ab : List (Option Nat)} {k : Nat} {done bs : List Nat} {j u : Nat} (h : pkF ((rdy ab done).map (szA ab)) bs = some (j, u)) : dueR ab (k + 1) done bs = (dueR ab k (done ++ [(rdy ab done).getD j 0]) (bs.drop u)).map fun p => (p.1, u + p.2) := by
  rw [dueR, h]
def spRawO (C CN : Addr) : Sp := fun vs H Q E => ∃ (b dx r : Addr) (bl : List Nat) (z : Nat) (p : Addr) (ab : List (Option Nat)), vs = [.ref b, .ref p] ∧ At C H b dx r bl z ∧ H p = some (.tup (vab ab)) ∧ okAb ab ∧ ab.length ≤ 7 ∧
  (∀ o d u H', dueR ab ab.length [] (bl.drop z) = some (d, u) → Grow b H H' → At C H' b dx r bl (z + u) → H' o = some (.tup (vnats d)) → Q (.ref o) H') ∧
  (∀ z' H', dueR ab ab.length [] (bl.drop z) = none → z ≤ z' → Grow b H H' → At C H' b dx r bl z' → E (.ref CN) none H')
def spDoneO (C CN : Addr) : Sp := fun vs H Q E => ∃ (b dx r : Addr) (bl : List Nat) (z : Nat) (p : Addr) (ab : List (Option Nat)), vs = [.ref b, .ref p] ∧ At C H b dx r bl z ∧ H p = some (.tup (vab ab)) ∧ okAb ab ∧ ab.length ≤ 7 ∧
  (∀ o d u H', dueR ab ab.length [] (bl.drop z) = some (d, u) → Grow b H H' → At C H' b dx r bl (z + u) → H' o = some (.tup (vnats d)) → Q (.ref o) H') ∧
  (∀ H', dueR ab ab.length [] (bl.drop z) = none → Grow b H H' → At C H' b dx r bl z → E (.ref CN) none H')
theorem At.upd2 {C : Addr} {H : Hp} {b dx r R : Addr} {bl : List Nat} {z : Nat} {o : HO} (h : At C H b dx r bl z) (h1 : R ≠ b) (h2 : R ≠ r) : At C (upd H R o) b dx r bl z := ⟨by rw [upd_ne (fun e => h1 e.symm)]; exact h.obj, by rw [upd_ne (fun e => h2 e.symm)]; exact h.row, h.le⟩
theorem none_same {R : Addr} {H H' : Hp} (g : Same H H') (h : H' R = none) : H R = none := by
  cases e : H R with
  | none => rfl
  | some o => have := g _ _ e; rw [h] at this; cases this
theorem take_more {l : List Nat} {j : Nat} (hj : j < l.length) : l.take (j + 1) = l.take j ++ [l.getD j 0] := by
  rw [List.take_add_one, List.getElem?_eq_getElem hj, List.getD_eq_getElem?_getD, List.getElem?_eq_getElem hj]
  rfl
theorem map_drop_add {bl : List Nat} {z u : Nat} : (bl.drop z).drop u = bl.drop (z + u) := List.drop_drop
section
variable {P : Program} {w : World} {K : PySem.W.Frag} {mg : Str → Option Value} {base : Heap} {f C fI fT fU fL fG CN : Addr} {fd dI dT dU dL dG : FuncData} {mN : List Value}
theorem ok_take_order_under (F_take_order_under : Fun K "take_order_under" "take_order_under" s_take_order_under f fd) (B : Bl mg) (g_sizes_under : Fn P w K mg base "sizes_under" p_sizes_under 1 spSzs) {fP : Addr} {dP : FuncData} (g_pick : FnX P w K mg base "pick" fP dP p_pick 6 (spDone C CN ShW pkV)) :
    FnOk P w K mg base (CXR P w) 7 f fd p_take_order_under (spRawO C CN) := by
  refine F_take_order_under.okX sc_take_order_under (fun vs H Q E h => ?_) (fun cdv A outer s H vs Q E hr h => ?_)
  · obtain ⟨b, dx, r, bl, z, p, ab, rfl, _⟩ := h
    rfl
  obtain ⟨b, dx, r, bl, z, p, ab, rfl, hA, hP, ok, hl, q, e⟩ := h
  refine ⟨_, (pss_cons (ps_set (i := 2) sc_take_order_under.nd rfl (Or.inr rfl) (pe_fn g_sizes_under hr (pa_cons (pv 1) pa_nil)))
      (pss_cons (ps_comp 3 [] ["bits", "above", "sizes", "coming", "row", "picked", "freed", "number", "upper"] 2 rfl sc_take_order_under.nd rfl rfl (pi_enumT rfl B.enumerate_ (pa_cons (pv 1) pa_nil)) (fun _ _ _ _ _ => (pg_tupK K 2 rfl (pgs_cons (pg_name (i := 7) nd_10 rfl (Or.inl rfl) (Or.inr rfl)) (pgs_cons (pg_name (i := 8) nd_10 rfl (Or.inl rfl) (Or.inr rfl)) pgs_nil)) rfl rfl rfl)) (fun _ _ _ _ _ => (pif_one (pt_cmpR op_isN (pv 8) pe_non (nomark _)))) (fun _ _ _ _ _ => (pv 7)))
      (pss_cons (ps_set (i := 4) sc_take_order_under.nd rfl (Or.inl rfl) (pe_lst pa_nil))
      (pss_cons (ps_while (PassesOwn.leaving (M := model P w)) (pt_cmpR op_gt (pe_callB call_len_seq rfl B.len_ L3.bt_len (pa_cons (pv 3) pa_nil)) pe_int (nomark _)) (pss_cons (ps_set (i := 5) sc_take_order_under.nd rfl (Or.inr rfl) (pe_ix ix_list (pv 3) (pe_fnX g_pick hr (pa_cons (pv 0) (pa_cons (pe_callTy call_tuple_of rfl B.tuple_ L3.bt_tuple (pa_cons (pe_comp [] ["bits", "above", "sizes", "coming", "row", "picked", "freed", "number"] 1 rfl (pi_list (pv 3)) (fun _ _ _ _ _ => (pg_name (i := 7) nd_11 rfl (Or.inl rfl) (Or.inr rfl))) (fun _ _ _ _ _ => pif_nil) (fun _ _ _ _ _ => (pe_ix (ix_listK K rfl) (pv 2) (pv 7) (fun _ _ => rfl)))) pa_nil)) pa_nil))) (fun _ _ => rfl)))
      (pss_cons (ps_expr (pe_bm PySem.F.plainAttrs_list PySem.F.slot_list_append PySem.F.type_list_append mt_append (pv 4) (pa_cons (pv 5) pa_nil)))
      (pss_cons (ps_comp 6 [] ["bits", "above", "sizes", "coming", "row", "picked", "freed", "number", "upper"] 2 rfl sc_take_order_under.nd rfl rfl (pi_enumT rfl B.enumerate_ (pa_cons (pv 1) pa_nil)) (fun _ _ _ _ _ => (pg_tupK K 2 rfl (pgs_cons (pg_name (i := 7) nd_12 rfl (Or.inl rfl) (Or.inr rfl)) (pgs_cons (pg_name (i := 8) nd_12 rfl (Or.inl rfl) (Or.inr rfl)) pgs_nil)) rfl rfl rfl)) (fun _ _ _ _ _ => (pif_one (pt_cmpR op_eq (pv 8) (pv 5) (nomark _)))) (fun _ _ _ _ _ => (pv 7)))
      (pss_one (ps_set (i := 3) sc_take_order_under.nd rfl (Or.inl rfl) (pe_callB call_sorted rfl B.sorted_ L3.bt_sorted (pa_cons (pe_op op_cat (pe_comp [] ["bits", "above", "sizes", "coming", "row", "picked", "freed", "number"] 1 rfl (pi_list (pv 3)) (fun _ _ _ _ _ => (pg_name (i := 7) nd_13 rfl (Or.inl rfl) (Or.inr rfl))) (fun _ _ _ _ _ => (pif_one (pt_cmpR op_ne (pv 7) (pv 5) (nomark _)))) (fun _ _ _ _ _ => (pv 7))) (pv 6)) pa_nil))))))))
      (pss_one (ps_ret (pe_callTy call_tuple_of rfl B.tuple_ L3.bt_tuple (pa_cons (pv 4) pa_nil)))))))), ?_⟩
  refine ⟨_, rfl, p, ab, rfl, hP, ok, hl, fun S H1 nS s1 hSz => ?_⟩
  -- coming
  refine ⟨_, rfl, p, rfl, ⟨_, SqT.of (s1 _ _ hP)⟩, comp_enum (xs := vab ab) (fun j acc σ' H' => acc = vnats ((List.range j).filter fun i => ab.getD i none == none) ∧ Same H1 H' ∧ ∃ o7 o8 : Option V, σ' = [some (.ref b), some (.ref p), some (.ref S), none, none, none, none, o7, o8]) ⟨rfl, Same.refl _, _, _, rfl⟩ (fun j acc σ' H' hj ⟨e, _⟩ => by
      rw [e, vnats_len]
      have := List.length_filter_le (fun i => ab.getD i none == none) (List.range j)
      rw [List.length_range] at this
      rw [vab_len] at hj
      omega) (fun j acc σ' H' _ ⟨_, y, _⟩ => SqT.of (y _ _ (s1 _ _ hP))) ?_ ?_⟩
  · rintro j x acc σ' H' pp hx ⟨rfl, s2, o7, o8, rfl⟩ fp
    have hj : j < ab.length := by
      have := (List.getElem?_eq_some_iff.mp hx).1
      rwa [vab_len] at this
    rw [vab_at hj] at hx
    obtain rfl := Option.some.inj hx
    have s3 := s2.trans (same_new fp (.tup [V.int (j : Int), vop (ab.getD j none)]))
    refine ⟨pp, _, rfl, SqT.of upd_same, rfl, _, _, rfl, _, _, rfl, rfl, ?_⟩
    refine ⟨_, rfl, rfl, _, rfl, ?_⟩
    cases eo : ab.getD j none with
    | none =>
      rw [eo] at s3
      exact ite2 (fun _ => ⟨_, rfl, flt_yes2 (by rw [eo]; rfl), s3, _, _, rfl⟩) (fun c => absurd rfl c)
    | some u =>
      rw [eo] at s3
      exact ite2 (fun c => absurd (of_decide_eq_true c) (fun y => by cases y)) (fun _ => ⟨flt_no2 (by rw [eo]; rfl), s3, _, _, rfl⟩)
  rintro acc σ' H2 c0 ⟨rfl, s2, o7, o8, rfl⟩ fc
  rw [vab_len, ← rdy_nil]
  have y3 := same_new fc (.lst (vnats (rdy ab [])))
  have w3 : (upd H2 c0 (.lst (vnats (rdy ab [])))) c0 = some (.lst (vnats (rdy ab []))) := upd_same
  generalize upd H2 c0 (.lst (vnats (rdy ab []))) = H3 at y3 w3 ⊢
  refine ⟨(by show 0 ≤ sizeLine; decide), fun R fR => ?_⟩
  have y4 := same_new fR (.lst ([] : List V))
  have w4 : (upd H3 R (.lst ([] : List V))) R = some (.lst (vnats [])) := upd_same
  generalize upd H3 R (.lst ([] : List V)) = H4 at y4 w4 ⊢
  have s13 := s2.trans y3
  have s14 := s13.trans y4
  have s04 := s1.trans s14
  have nR : H R = none := none_same (s1.trans s13) fR
  have neS : S ≠ R := fun z => by
    have := s13 _ _ hSz
    rw [z, fR] at this
    cases this
  have nec : c0 ≠ R := fun z => by rw [z, fR] at w3; cases w3
  have nRb : R ≠ b := fun z => by rw [z, hA.obj] at nR; cases nR
  have nRr : R ≠ r := fun z => by rw [z, hA.row] at nR; cases nR
  have nSb : S ≠ b := fun z => by rw [z, hA.obj] at nS; cases nS
  have hA4 := hA.same s04
  refine ⟨fun mu σ' H' => ∃ (done : List Nat) (z' : Nat) (cm : Addr) (o5 o6 : Option V), mu = ab.length - done.length ∧ Dn ab done ∧ σ' = [some (.ref b), some (.ref p), some (.ref S), some (.ref cm), some (.ref R), o5, o6] ∧ H' cm = some (.lst (vnats (rdy ab done))) ∧ cm ≠ R ∧ cm ≠ b ∧ H' R = some (.lst (vnats done)) ∧ H' S = some (.lst (vnats (szP ab))) ∧ Grow b H H' ∧ At C H' b dx r bl z' ∧ z ≤ z' ∧
      dueR ab ab.length [] (bl.drop z) = (dueR ab (ab.length - done.length) done (bl.drop z')).map fun p => (p.1, (z' - z) + p.2),
    ⟨_, [], z, c0, _, _, rfl, Dn.nil hl ok, rfl, y4 _ _ w3, nec, ?_, w4, s14 _ _ hSz, .same s04, hA4, Nat.le_refl _, ?_⟩, ?_⟩
  · intro z'
    rw [z', (hA.same (s1.trans s13)).obj] at w3
    cases w3
  · rw [Nat.sub_self]
    show _ = (dueR ab (ab.length - 0) [] (bl.drop z)).map _
    rw [Nat.sub_zero]
    cases dueR ab ab.length [] (bl.drop z) with
    | none => rfl
    | some p => show _ = some (p.1, 0 + p.2); rw [Nat.zero_add]
  clear y3 w3 y4 w4 s13 s14 s04 hA4 fc fR s2 hSz s1 nec
  rintro mu σ1 H5 ⟨done, z', cm, o5, o6, rfl, dn, rfl, hcm, ncR, ncb, hR, hSz, g5, hA5, hz, hdu⟩
  refine ⟨_, rfl, cm, _, rfl, .inl (SqL.of hcm), _, _, rfl, rfl, _, rfl, ?_⟩
  rw [vnats_len]
  refine ite2 (fun c => ?_) (fun c => ?_)
  rotate_left
  · have hr0 : (rdy ab done).length = 0 := by
      have c' : ¬ ((rdy ab done).length : Int) > 0 := of_decide_eq_false (Bool.eq_false_iff.mpr c)
      omega
    have hd := dn.end (List.length_eq_zero_iff.mp hr0)
    rw [hd, Nat.sub_self, dueR] at hdu
    refine ⟨_, rfl, R, _, rfl, .inl ⟨SqL.of hR, fun o fo => ?_⟩⟩
    have y6 := same_new fo (.tup (vnats done))
    refine q o done (z' - z) _ hdu (g5.trans (.same y6)) ?_ upd_same
    rw [show z + (z' - z) = z' by omega]
    exact hA5.same y6
  have hr0 : rdy ab done ≠ [] := fun y => by
    have c' : ((rdy ab done).length : Int) > 0 := of_decide_eq_true c
    rw [y] at c'
    exact absurd c' (by decide)
  have hlt := dn.more hl ok hr0
  refine ⟨_, fun _ _ z => z, ?_⟩
  have hrl : (rdy ab done).length ≤ 7 := by
    rw [rdy_eq]
    have := List.length_filter_le (fun i => decide (i ∈ rdy ab done)) (List.range ab.length)
    rw [List.length_range] at this
    omega
  -- the shares
  refine ⟨_, rfl, _, rfl, _, rfl, cm, rfl, ⟨_, SqL.of hcm⟩, comp_list (xs := vnats (rdy ab done)) (fun j acc σ' H' => acc = vnats (((rdy ab done).take j).map (szA ab)) ∧ H' = H5 ∧ ∃ o : Option V, σ' = [some (.ref b), some (.ref p), some (.ref S), some (.ref cm), some (.ref R), o5, o6, o]) ⟨rfl, rfl, _, rfl⟩ (fun j acc σ' H' hj ⟨e, _⟩ => by
      rw [e, vnats_len, List.length_map, List.length_take]
      omega) (fun j acc σ' H' _ ⟨_, y, _⟩ => by rw [y]; exact SqL.of hcm) ?_ ?_⟩
  · rintro j x acc σ' H' hx ⟨rfl, rfl, o, rfl⟩
    have hj : j < (rdy ab done).length := by
      have := (List.getElem?_eq_some_iff.mp hx).1
      rwa [vnats_len] at this
    have hjl : (rdy ab done).getD j 0 < ab.length := (mem_rdy.mp (by rw [List.getD_eq_getElem?_getD, List.getElem?_eq_getElem hj]; exact List.getElem_mem hj : (rdy ab done).getD j 0 ∈ rdy ab done)).1
    rw [vnats_at hj] at hx
    obtain rfl := Option.some.inj hx
    refine ⟨_, rfl, _, rfl, S, _, _, _, rfl, rfl, SqL.of hSz, atI_nat (vnats_at (by rw [szP, szL_len]; exact hjl)), ?_, rfl, _, rfl⟩
    rw [take_more hj, List.map_append, vnats_app]
    rfl
  rintro acc σ' H6 D ⟨rfl, rfl, o, rfl⟩ fD
  rw [vnats_len, List.take_length]
  have y7 := same_new fD (.lst (vnats ((rdy ab done).map (szA ab))))
  have w7 : (upd H6 D (.lst (vnats ((rdy ab done).map (szA ab))))) D = some (.lst (vnats ((rdy ab done).map (szA ab)))) := upd_same
  generalize upd H6 D (.lst (vnats ((rdy ab done).map (szA ab)))) = H7 at y7 w7 ⊢
  refine ⟨D, _, rfl, .inl ⟨SqL.of w7, fun wt fwt => ?_⟩⟩
  have y8 := same_new fwt (.tup (vnats ((rdy ab done).map (szA ab))))
  have w8 : (upd H7 wt (.tup (vnats ((rdy ab done).map (szA ab))))) wt = some (.tup (vnats ((rdy ab done).map (szA ab)))) := upd_same
  generalize upd H7 wt (.tup (vnats ((rdy ab done).map (szA ab)))) = H8 at y8 w8 ⊢
  have s68 := y7.trans y8
  have hsum := dn.sm
  refine ⟨b, dx, r, bl, z', .ref wt, (rdy ab done).map (szA ab), rfl, hA5.same s68, ⟨wt, rfl, w8, by omega, by omega, by rw [List.length_map]; omega⟩, fun v u H9 hv g9 a9 => ?_, fun H9 hv g9 a9 => ?_⟩
  rotate_left
  · have hv' : pkF ((rdy ab done).map (szA ab)) (bl.drop z') = none := by
      unfold pkV at hv
      cases y : pkF ((rdy ab done).map (szA ab)) (bl.drop z') with
      | none => rfl
      | some x => rw [y] at hv; cases hv
    refine e z' H9 ?_ hz (g5.trans ((Grow.same s68).trans g9)) a9
    rw [hdu, show ab.length - done.length = (ab.length - done.length - 1) + 1 by omega, due_none hv']
    rfl
  obtain ⟨j, hv', rfl⟩ : ∃ j, pkF ((rdy ab done).map (szA ab)) (bl.drop z') = some (j, u) ∧ v = .int (j : Int) := by
    unfold pkV at hv
    cases y : pkF ((rdy ab done).map (szA ab)) (bl.drop z') with
    | none => rw [y] at hv; cases hv
    | some x => rw [y] at hv; cases hv; exact ⟨x.1, rfl, rfl⟩
  have hj := pkF_lt hv'
  rw [List.length_map] at hj
  have G59 : Grow b H6 H9 := (Grow.same s68).trans g9
  have hcm9 := G59 _ _ ncb hcm
  have hR9 := G59 _ _ nRb hR
  have hSz9 := G59 _ _ nSb hSz
  have g59 := g5.trans G59
  refine ⟨cm, _, _, _, rfl, rfl, SqL.of hcm9, atI_nat (vnats_at hj), ?_⟩
  have hx : (rdy ab done).getD j 0 ∈ rdy ab done := by rw [List.getD_eq_getElem?_getD, List.getElem?_eq_getElem hj]; exact List.getElem_mem hj
  have hdu2 := due_some (k := ab.length - done.length - 1) hv'
  rw [show ab.length - done.length - 1 + 1 = ab.length - done.length by omega, map_drop_add] at hdu2
  generalize (rdy ab done).getD j 0 = x at hx hdu2
  clear y7 w7 y8 w8 s68 hsum hv hv' g9 hA5 hcm hR hSz g5 fD fwt
  -- row
  refine ⟨_, rfl, .inl ⟨rfl, _, SqL.of hR9⟩, _, rfl, R, _, _, rfl, rfl, hR9, smallL (by rw [vnats_len]; omega), ?_⟩
  have a10 := a9.upd2 (o := .lst (vnats done ++ [V.int (x : Int)])) nRb nRr
  have g10 : Grow b H (upd H9 R (.lst (vnats done ++ [V.int (x : Int)]))) := fun c o nb y => by
    rw [upd_ne (fun z => by rw [z, nR] at y; cases y)]
    exact g59 c o nb y
  have hcm10 : (upd H9 R (.lst (vnats done ++ [V.int (x : Int)]))) cm = some (.lst (vnats (rdy ab done))) := by rw [upd_ne ncR]; exact hcm9
  have hSz10 : (upd H9 R (.lst (vnats done ++ [V.int (x : Int)]))) S = some (.lst (vnats (szP ab))) := by rw [upd_ne neS]; exact hSz9
  have hR10 : (upd H9 R (.lst (vnats done ++ [V.int (x : Int)]))) R = some (.lst (vnats (done ++ [x]))) := by rw [upd_same, vnats_app]; rfl
  generalize upd H9 R (.lst (vnats done ++ [V.int (x : Int)])) = H10 at a10 g10 hcm10 hSz10 hR10 ⊢
  clear hcm9 hR9 hSz9 g59 a9 G59
  have npb : p ≠ b := fun y => by rw [y, hA.obj] at hP; cases hP
  have hP10 := g10 _ _ npb hP
  -- freed
  refine ⟨_, rfl, p, rfl, ⟨_, SqT.of hP10⟩, comp_enum (xs := vab ab) (fun j acc σ' H' => acc = vnats ((List.range j).filter (isUp ab x)) ∧ Same H10 H' ∧ ∃ o7 o8 : Option V, σ' = [some (.ref b), some (.ref p), some (.ref S), some (.ref cm), some (.ref R), some (.int (x : Int)), o6, o7, o8]) ⟨rfl, Same.refl _, _, _, rfl⟩ (fun j acc σ' H' hj ⟨e, _⟩ => by
      rw [e, vnats_len]
      have := List.length_filter_le (isUp ab x) (List.range j)
      rw [List.length_range] at this
      rw [vab_len] at hj
      omega) (fun j acc σ' H' _ ⟨_, y, _⟩ => SqT.of (y _ _ hP10)) ?_ ?_⟩
  · rintro j y acc σ' H' pp hx' ⟨rfl, s2, o7, o8, rfl⟩ fp
    have hj : j < ab.length := by
      have := (List.getElem?_eq_some_iff.mp hx').1
      rwa [vab_len] at this
    rw [vab_at hj] at hx'
    obtain rfl := Option.some.inj hx'
    have s3 := s2.trans (same_new fp (.tup [V.int (j : Int), vop (ab.getD j none)]))
    refine ⟨pp, _, rfl, SqT.of upd_same, rfl, _, _, rfl, _, _, rfl, rfl, ?_⟩
    have eu : isUp ab x j = decide (vop (ab.getD j none) = V.int (x : Int)) := by
      unfold isUp
      rw [ab_get hj, Bool.eq_iff_iff, beq_iff_eq, decide_eq_true_iff, eq_some_int]
      exact ⟨fun h => Option.some.inj h, fun h => by rw [h]⟩
    refine ⟨_, rfl, _, rfl, by cases ab.getD j none <;> rfl, _, rfl, ?_⟩
    rw [← eu]
    cases hu : isUp ab x j with
    | true => exact iteT ⟨_, rfl, flt_yes2 hu, s3, _, _, rfl⟩
    | false => exact iteF ⟨flt_no2 hu, s3, _, _, rfl⟩
  rintro acc σ' H11 fr ⟨rfl, s11, o7, o8, rfl⟩ ffr
  rw [vab_len]
  have y12 := same_new ffr (.lst (vnats ((List.range ab.length).filter (isUp ab x))))
  have w12 : (upd H11 fr (.lst (vnats ((List.range ab.length).filter (isUp ab x))))) fr = some (.lst (vnats (kids ab x))) := upd_same
  generalize upd H11 fr (.lst (vnats ((List.range ab.length).filter (isUp ab x)))) = H12 at y12 w12 ⊢
  have s1012 := s11.trans y12
  have hcm12 := s1012 _ _ hcm10
  -- the others
  refine ⟨_, rfl, cm, rfl, ⟨_, SqL.of hcm12⟩, comp_list (xs := vnats (rdy ab done)) (fun j acc σ' H' => acc = vnats (((rdy ab done).take j).filter fun y => decide (y ≠ x)) ∧ H' = H12 ∧ ∃ o : Option V, σ' = [some (.ref b), some (.ref p), some (.ref S), some (.ref cm), some (.ref R), some (.int (x : Int)), some (.ref fr), o]) ⟨rfl, rfl, _, rfl⟩ (fun j acc σ' H' hj ⟨e, _⟩ => by
      rw [e, vnats_len]
      have := List.length_filter_le (fun y => decide (y ≠ x)) ((rdy ab done).take j)
      rw [List.length_take] at this
      omega) (fun j acc σ' H' _ ⟨_, y, _⟩ => by rw [y]; exact SqL.of hcm12) ?_ ?_⟩
  · rintro j y acc σ' H' hx' ⟨rfl, rfl, o, rfl⟩
    have hj : j < (rdy ab done).length := by
      have := (List.getElem?_eq_some_iff.mp hx').1
      rwa [vnats_len] at this
    rw [vnats_at hj] at hx'
    obtain rfl := Option.some.inj hx'
    rw [take_more hj, List.filter_append]
    generalize (rdy ab done).getD j 0 = y
    refine ⟨_, rfl, _, rfl, rfl, _, rfl, ?_⟩
    by_cases hy : y = x
    · subst hy
      refine ite2 (fun c => absurd c (by simp)) (fun _ => ⟨?_, rfl, _, rfl⟩)
      rw [List.filter_cons_of_neg (by simp), List.filter_nil, List.append_nil]
    · refine ite2 (fun _ => ⟨_, rfl, ?_, rfl, _, rfl⟩) (fun c => absurd ?_ c)
      · rw [List.filter_cons_of_pos (by simpa using hy), List.filter_nil, vnats_app]
        rfl
      · have : ¬ V.int (y : Int) = V.int (x : Int) := fun e => hy (by injection e with e; omega)
        rw [decide_eq_false this]
        rfl
  rintro acc σ' H13 D1 ⟨rfl, rfl, o, rfl⟩ fD1
  rw [vnats_len, List.take_length]
  have y14 := same_new fD1 (.lst (vnats ((rdy ab done).filter fun y => decide (y ≠ x))))
  have w14 : (upd H13 D1 (.lst (vnats ((rdy ab done).filter fun y => decide (y ≠ x))))) D1 = some (.lst (vnats ((rdy ab done).filter fun y => decide (y ≠ x)))) := upd_same
  generalize upd H13 D1 (.lst (vnats ((rdy ab done).filter fun y => decide (y ≠ x)))) = H14 at y14 w14 ⊢
  have hl1 := List.length_filter_le (fun y => decide (y ≠ x)) (rdy ab done)
  have hl2 : (kids ab x).length ≤ 7 := by
    have := List.length_filter_le (isUp ab x) (List.range ab.length)
    rw [List.length_range] at this
    exact Nat.le_trans this hl
  refine ⟨_, rfl, D1, fr, _, _, rfl, rfl, w14, y14 _ _ w12, small (by rw [vnats_len, vnats_len]; omega), fun D2 fD2 => ?_⟩
  rw [← vnats_app]
  have y15 := same_new fD2 (.lst (vnats ((rdy ab done).filter (fun y => decide (y ≠ x)) ++ kids ab x)))
  have w15 : (upd H14 D2 (.lst (vnats ((rdy ab done).filter (fun y => decide (y ≠ x)) ++ kids ab x)))) D2 = some (.lst (vnats ((rdy ab done).filter (fun y => decide (y ≠ x)) ++ kids ab x))) := upd_same
  generalize upd H14 D2 (.lst (vnats ((rdy ab done).filter (fun y => decide (y ≠ x)) ++ kids ab x))) = H15 at y15 w15 ⊢
  rw [vnats_ints] at w15
  refine ⟨D2, _, rfl, w15, by rw [List.length_map, List.length_append]; omega, fun cm' ns' ncm hp hs => ?_⟩
  have en := sorted_is ok dn.cl hx hp hs
  subst en
  rw [← vnats_ints]
  have s1015 := s1012.trans (y14.trans y15)
  have s1016 := s1015.trans (same_new ncm (.lst (vnats (rdy ab (done ++ [x])))))
  have hl3 : (done ++ [x]).length = done.length + 1 := List.length_append
  refine ⟨ab.length - (done ++ [x]).length, by omega, done ++ [x], z' + u, cm', _, _, rfl, dn.step hl ok hx, rfl, upd_same, fun y => ?_, fun y => ?_, s1016 _ _ hR10, s1016 _ _ hSz10, g10.trans (.same s1016), a10.same s1016, by omega, ?_⟩
  · have := s1015 _ _ hR10
    rw [← y, ncm] at this
    cases this
  · have := (a10.same s1015).obj
    rw [← y, ncm] at this
    cases this
  · rw [hdu, hdu2, hl3, Option.map_map]
    rw [show ab.length - (done.length + 1) = ab.length - done.length - 1 by omega]
    congr 1
    funext p
    show (p.1, z' - z + (u + p.2)) = (p.1, z' + u - z + p.2)
    congr 1
    omega
end
def spDueO : Sp := fun vs H Q _ => ∃ (r : Addr) (bl : List Nat) (z : Nat) (p : Addr) (ab : List (Option Nat)), vs = [.ref r, .int (z : Int), .ref p] ∧ H r = some (.tup (vbits bl)) ∧ z ≤ bl.length ∧ bl.length ≤ 100000 ∧ H p = some (.tup (vab ab)) ∧ okAb ab ∧ ab.length ≤ 7 ∧
  (∀ o d u t' H', dueR ab ab.length [] (bl.drop z) = some (d, u) → z + u ≤ bl.length → Same H H' → H' o = some (.tup (vnats d)) → H' t' = some (.tup [.ref o, .int ((z + u : Nat) : Int)]) → Q (.ref t') H') ∧
  (∀ t' H', dueR ab ab.length [] (bl.drop z) = none → Same H H' → H' t' = some (.tup [.str "NoBits", .non]) → Q (.ref t') H')
def spToldO (C : Addr) : Sp := fun vs H Q _ => ∃ (b dx r : Addr) (bl : List Nat) (z : Nat) (p : Addr) (ab : List (Option Nat)), vs = [.ref b, .ref p] ∧ At C H b dx r bl z ∧ H p = some (.tup (vab ab)) ∧ okAb ab ∧ ab.length ≤ 7 ∧
  (∀ o d u H', dueR ab ab.length [] (bl.drop z) = some (d, u) → Grow b H H' → At C H' b dx r bl (z + u) → H' o = some (.tup (vnats d)) → Q (.ref o) H') ∧
  (∀ H', dueR ab ab.length [] (bl.drop z) = none → Grow b H H' → At C H' b dx r bl z → Q (.str "NoBits") H')
theorem pkR_le (T : Nat) : ∀ (bs rs : List Nat) (p u j v : Nat), pkR T rs p u bs = some (j, v) → v ≤ u + bs.length
  | [], _, _, _, _, _, h => by cases h
  | b :: bs, rs, p, u, j, v, h => by
    unfold pkR at h
    split at h
    · injection h with h
      injection h with h1 h2
      rw [← h2, List.length_cons]
      omega
    · have := pkR_le T bs _ _ _ _ _ h
      rw [List.length_cons]
      omega
theorem pkF_le {ws bs : List Nat} {j u : Nat} (h : pkF ws bs = some (j, u)) : u ≤ bs.length := by
  unfold pkF at h
  split at h
  · injection h with h
    injection h with h1 h2
    omega
  · have := pkR_le _ _ _ _ _ _ _ h
    omega
section
variable {P : Program} {w : World} {K : PySem.W.Frag} {mg : Str → Option Value} {base : Heap} {f C fI fT fU fL fG CN : Addr} {fd dI dT dU dL dG : FuncData} {mN : List Value}
theorem ok_order_under (F_order_under : Fun K "order_under" "order_under" s_order_under f fd) (B : Bl mg) {fD fR : Addr} {dD dR : FuncData} (g_drawn_whole : FnX P w K mg base "drawn_whole" fD dD p_drawn_whole 8 (spDW P w K mg base 7 C CN)) (g_take_order_under : FnX P w K mg base "take_order_under" fR dR p_take_order_under 7 (spRawO C CN)) :
    FnOk P w K mg base (CXR P w) 9 f fd p_order_under (spDoneO C CN) := by
  refine F_order_under.okX sc_order_under (fun vs H Q E h => ?_) (fun cdv A outer s H vs Q E hr h => ?_)
  · obtain ⟨b, dx, r, bl, z, p, ab, rfl, _⟩ := h
    rfl
  obtain ⟨b, dx, r, bl, z, p, ab, rfl, hA, hP, ok, hl, q, e⟩ := h
  refine ⟨_, (pss_one (ps_ret (pe_fnX g_drawn_whole hr (pa_cons (pv 0) (pa_cons (pe_glob (v := .ref _) rfl g_take_order_under.mg rfl) (pa_cons (pv 1) pa_nil)))))), ?_⟩
  exact ⟨_, rfl, _, rfl, b, dx, r, fR, bl, z, .ref p, dR, _, 7, _, rfl, g_take_order_under.ok, by decide, g_take_order_under.kp, g_take_order_under.bd, hA, fun Ex hE => ⟨b, dx, r, bl, z, p, ab, rfl, hA, hP, ok, hl, q, fun z' H1 n1 l1 g1 a1 => hE z' H1 l1 a1 fun H2 g2 a2 => e H2 n1 (g1.trans g2) a2⟩⟩
theorem ok__law_due (F__law_due : Fun K "_law_due" "_law_due" s__law_due f fd) (B : Bl mg) (g__law_ready : Fn P w K mg base "_law_ready" p__law_ready 1 spRdy) (g__law_pick : Fn P w K mg base "_law_pick" p__law_pick 1 (spHand ShL pkV)) (g__law_under : Fn P w K mg base "_law_under" p__law_under 7 (spUnd 6)) : FnOk P w K mg base CX0 8 f fd p__law_due spDueO := by
  refine F__law_due.ok sc__law_due (fun vs H Q E h => ?_) (fun cdv A outer s H vs Q E hr h => ?_)
  · obtain ⟨r, bl, z, p, ab, rfl, _⟩ := h
    rfl
  obtain ⟨r, bl, z, p, ab, rfl, hRw, hz, hbl, hP, ok, hl, q, e⟩ := h
  refine ⟨_, (pss_cons (ps_set (i := 3) sc__law_due.nd rfl (Or.inl rfl) (pe_tup pa_nil))
      (pss_cons (ps_while PassesOwn.never (pt_cmpR op_lt (pe_callB call_len_seq rfl B.len_ L3.bt_len (pa_cons (pv 3) pa_nil)) (pe_callB call_len_seq rfl B.len_ L3.bt_len (pa_cons (pv 2) pa_nil)) (nomark _)) (pss_cons (ps_set (i := 4) sc__law_due.nd rfl (Or.inl rfl) (pe_fn g__law_ready hr (pa_cons (pv 2) (pa_cons (pv 3) pa_nil))))
      (pss_cons (ps_asg (pe_fn g__law_pick hr (pa_cons (pv 0) (pa_cons (pv 1) (pa_cons (pe_comp [] ["_law_row", "_law_at", "_law_above_here", "_law_done", "_law_ready_here", "_law_number", "_law_one_here"] 1 rfl (pi_list (pv 4)) (fun _ _ _ _ _ => (pg_name (i := 6) nd_14 rfl (Or.inl rfl) (Or.inr rfl))) (fun _ _ _ _ _ => pif_nil) (fun _ _ _ _ _ => (pe_fn g__law_under hr (pa_cons (pv 2) (pa_cons (pv 6) pa_nil))))) pa_nil)))) (pg_tup rfl (pgs_cons (pg_name (i := 5) sc__law_due.nd rfl (Or.inl rfl)) (pgs_cons (pg_name (i := 1) sc__law_due.nd rfl (Or.inl rfl)) pgs_nil))))
      (pss_cons (ps_if (pt_cmpR op_isN (pv 1) pe_non (nomark _)) (pss_one (ps_ret (pe_tup (pa_cons pe_str (pa_cons pe_non pa_nil))))) pss_nil)
      (pss_one (ps_set (i := 3) sc__law_due.nd rfl (Or.inl rfl) (pe_op op_cat0 (pv 3) (pe_tup (pa_cons (pe_ix ix_list (pv 4) (pv 5) (fun _ _ => rfl)) pa_nil)))))))))
      (pss_one (ps_ret (pe_tup (pa_cons (pv 3) (pa_cons (pv 1) pa_nil))))))), ?_⟩
  refine ⟨(by show 0 ≤ sizeLine; decide), fun d0 fd0 => ?_⟩
  have y0 := same_new fd0 (.tup ([] : List V))
  have w0 : (upd H d0 (.tup ([] : List V))) d0 = some (.tup (vnats [])) := upd_same
  generalize upd H d0 (.tup ([] : List V)) = H0 at y0 w0 ⊢
  refine ⟨fun mu σ' H' => ∃ (done : List Nat) (z' : Nat) (d : Addr) (o4 o5 : Option V), mu = ab.length - done.length ∧ Dn ab done ∧ σ' = [some (.ref r), some (.int (z' : Int)), some (.ref p), some (.ref d), o4, o5] ∧ H' d = some (.tup (vnats done)) ∧ Same H H' ∧ z ≤ z' ∧ z' ≤ bl.length ∧
      dueR ab ab.length [] (bl.drop z) = (dueR ab (ab.length - done.length) done (bl.drop z')).map fun p => (p.1, (z' - z) + p.2),
    ⟨_, [], z, d0, _, _, rfl, Dn.nil hl ok, rfl, w0, y0, Nat.le_refl _, hz, ?_⟩, ?_⟩
  · rw [Nat.sub_self]
    show _ = (dueR ab (ab.length - 0) [] (bl.drop z)).map _
    rw [Nat.sub_zero]
    cases dueR ab ab.length [] (bl.drop z) with
    | none => rfl
    | some p => show _ = some (p.1, 0 + p.2); rw [Nat.zero_add]
  clear y0 w0 fd0
  rintro mu σ1 H1 ⟨done, z', d, o4, o5, rfl, dn, rfl, hD, s1, hz1, hz2, hdu⟩
  refine ⟨_, rfl, d, _, rfl, .inr (SqT.of hD), _, rfl, p, _, rfl, .inr (SqT.of (s1 _ _ hP)), _, _, rfl, rfl, _, rfl, ?_⟩
  rw [vnats_len, vab_len]
  refine ite2 (fun c => ?_) (fun c => ?_)
  rotate_left
  · have c' : ¬ ((done.length : Int) < (ab.length : Int)) := of_decide_eq_false (Bool.eq_false_iff.mpr c)
    have hsm := dn.sm
    rw [show ab.length - done.length = 0 by omega, dueR] at hdu
    refine ⟨_, rfl, _, rfl, (by show 2 ≤ sizeLine; decide), fun o fo => ?_⟩
    have y6 := same_new fo (.tup [V.ref d, V.int (z' : Int)])
    refine q d done (z' - z) o _ hdu (by omega) (s1.trans y6) (y6 _ _ hD) ?_
    rw [upd_same, show z + (z' - z) = z' by omega]
  have c' : (done.length : Int) < (ab.length : Int) := of_decide_eq_true c
  refine ⟨_, fun _ _ z => z, ?_⟩
  refine ⟨_, rfl, _, rfl, p, d, ab, done, rfl, s1 _ _ hP, hD, hl, by omega, fun L H2 nL s2 hL => ?_⟩
  have s02 := s1.trans s2
  have hrl : (rdy ab done).length ≤ 7 := by
    rw [rdy_eq]
    have := List.length_filter_le (fun i => decide (i ∈ rdy ab done)) (List.range ab.length)
    rw [List.length_range] at this
    omega
  refine ⟨_, rfl, _, rfl, _, rfl, L, rfl, ⟨_, SqL.of hL⟩, comp_list (xs := vnats (rdy ab done)) (fun j acc σ' H' => acc = vnats (((rdy ab done).take j).map (szA ab)) ∧ Same H2 H' ∧ ∃ o : Option V, σ' = [some (.ref r), some (.int (z' : Int)), some (.ref p), some (.ref d), some (.ref L), o5, o]) ⟨rfl, Same.refl _, _, rfl⟩ (fun j acc σ' H' hj ⟨e, _⟩ => by
      rw [e, vnats_len, List.length_map, List.length_take]
      omega) (fun j acc σ' H' _ ⟨_, y, _⟩ => SqL.of (y _ _ hL)) ?_ ?_⟩
  · rintro j x acc σ' H' hx ⟨rfl, s3, o, rfl⟩
    have hj : j < (rdy ab done).length := by
      have := (List.getElem?_eq_some_iff.mp hx).1
      rwa [vnats_len] at this
    have hjl : (rdy ab done).getD j 0 < ab.length := (mem_rdy.mp (by rw [List.getD_eq_getElem?_getD, List.getElem?_eq_getElem hj]; exact List.getElem_mem hj : (rdy ab done).getD j 0 ∈ rdy ab done)).1
    rw [vnats_at hj] at hx
    obtain rfl := Option.some.inj hx
    refine ⟨_, rfl, _, rfl, p, ab, _, rfl, s3 _ _ (s02 _ _ hP), ok, hl, hjl, by omega, fun H3 y3 => ⟨?_, s3.trans y3, _, rfl⟩⟩
    rw [take_more hj, List.map_append, vnats_app]
    rfl
  rintro acc σ' H3 D ⟨rfl, s3, o, rfl⟩ fD
  rw [vnats_len, List.take_length]
  have y4 := same_new fD (.lst (vnats ((rdy ab done).map (szA ab))))
  have w4 : (upd H3 D (.lst (vnats ((rdy ab done).map (szA ab))))) D = some (.lst (vnats ((rdy ab done).map (szA ab)))) := upd_same
  generalize upd H3 D (.lst (vnats ((rdy ab done).map (szA ab)))) = H4 at y4 w4 ⊢
  have s04 := s02.trans (s3.trans y4)
  have hsum := dn.sm
  refine ⟨r, bl, z', .ref D, (rdy ab done).map (szA ab), rfl, s04 _ _ hRw, hz2, hbl, ⟨D, rfl, w4, by omega, by omega, by rw [List.length_map]; omega⟩, fun p' H5 y5 hp' => ?_⟩
  have s05 := s04.trans y5
  cases hv : pkF ((rdy ab done).map (szA ab)) (bl.drop z') with
  | none =>
    have ev : pkV ((rdy ab done).map (szA ab)) (bl.drop z') = none := by unfold pkV; rw [hv]; rfl
    rw [ev] at hp'
    refine ⟨p', _, rfl, SqT.of hp', rfl, _, _, rfl, _, _, rfl, rfl, ?_⟩
    refine ⟨_, rfl, rfl, _, rfl, ite2 (fun _ => ?_) (fun c => absurd rfl c)⟩
    refine ⟨(by show 2 ≤ sizeLine; decide), fun o fo => ?_⟩
    refine e o _ ?_ (s05.trans (same_new fo _)) upd_same
    rw [hdu, show ab.length - done.length = (ab.length - done.length - 1) + 1 by omega, due_none hv]
    rfl
  | some ju =>
    obtain ⟨j, u⟩ := ju
    have ev : pkV ((rdy ab done).map (szA ab)) (bl.drop z') = some (.int (j : Int), u) := by unfold pkV; rw [hv]; rfl
    rw [ev] at hp'
    have hj := pkF_lt hv
    rw [List.length_map] at hj
    have hu := pkF_le hv
    rw [List.length_drop] at hu
    have hx : (rdy ab done).getD j 0 ∈ rdy ab done := by rw [List.getD_eq_getElem?_getD, List.getElem?_eq_getElem hj]; exact List.getElem_mem hj
    have hdu2 := due_some (k := ab.length - done.length - 1) hv
    rw [show ab.length - done.length - 1 + 1 = ab.length - done.length by omega, map_drop_add] at hdu2
    have hL5 := y5 _ _ (y4 _ _ (s3 _ _ hL))
    have hD5 := y5 _ _ (y4 _ _ (s3 _ _ (s2 _ _ hD)))
    refine ⟨p', _, rfl, SqT.of hp', rfl, _, _, rfl, _, _, rfl, rfl, ?_⟩
    refine ⟨_, rfl, rfl, _, rfl, ite2 (fun c => absurd (of_decide_eq_true c) (fun y => by cases y)) (fun _ => ?_)⟩
    refine ⟨_, rfl, _, rfl, _, rfl, L, _, _, _, rfl, rfl, SqL.of hL5, atI_nat (vnats_at hj), (by show 1 ≤ sizeLine; decide), fun o1 fo1 => ?_⟩
    generalize (rdy ab done).getD j 0 = x at hx hdu2 ⊢
    have y6 := same_new fo1 (.tup [V.int (x : Int)])
    have w6 : (upd H5 o1 (.tup [V.int (x : Int)])) o1 = some (.tup (vnats [x])) := upd_same
    generalize upd H5 o1 (.tup [V.int (x : Int)]) = H6 at y6 w6 ⊢
    refine cat35 (y6 _ _ hD5) w6 (by rw [vnats_len]; show _ + 1 ≤ _; omega) fun d' H7 s7 hd' => ?_
    rw [← vnats_app] at hd'
    have hl3 : (done ++ [x]).length = done.length + 1 := List.length_append
    refine ⟨ab.length - (done ++ [x]).length, by omega, done ++ [x], z' + u, d', _, _, rfl, dn.step hl ok hx, rfl, hd', s05.trans (y6.trans s7), by omega, by omega, ?_⟩
    rw [hdu, hdu2, hl3, Option.map_map]
    rw [show ab.length - (done.length + 1) = ab.length - done.length - 1 by omega]
    congr 1
    funext p
    show (p.1, z' - z + (u + p.2)) = (p.1, z' + u - z + p.2)
    congr 1
    omega
theorem ok__law_told (F__law_told : Fun K "_law_told" "_law_told" s__law_told f fd) (X_NoBits : Exc K mg "NoBits" CN mN) (hNN : mN.contains (.ref CN) = true) {fP : Addr} {dP : FuncData} (g_order_under : FnX P w K mg base "order_under" fP dP p_order_under 9 (spDoneO C CN)) :
    FnOk P w K mg base CX0 10 f fd p__law_told (spToldO C) := by
  refine F__law_told.ok sc__law_told (fun vs H Q E h => ?_) (fun cdv A outer s H vs Q E hr h => ?_)
  · obtain ⟨b, dx, r, bl, z, p, ab, rfl, _⟩ := h
    rfl
  obtain ⟨b, dx, r, bl, z, p, ab, rfl, hA, hP, ok, hl, q, e⟩ := h
  refine ⟨_, (pss_cons (ps_set (i := 2) sc__law_told.nd rfl (Or.inl rfl) pe_non)
      (pss_cons (ps_try (psx_set (i := 2) sc__law_told.nd rfl rfl (px_fn g_order_under hr (pa_cons (pv 0) (pa_cons (pv 1) pa_nil)))) (Hs.cons X_NoBits rfl (by decide) (fun y ps ok hd => (pss_one (ps_set (i := 2) sc__law_told.nd rfl (Or.inl rfl) pe_str))) .nil) rfl rfl (fun _ => PassesOwnAt.never))
      (pss_one (ps_ret (pv 2))))), ?_⟩
  refine ⟨_, rfl, _, rfl, b, dx, r, bl, z, p, ab, rfl, hA, hP, ok, hl, fun o d u H' h1 g1 a1 ho => ?_, fun H' h1 g1 a1 => ?_⟩
  · exact ⟨_, rfl, q o d u H' h1 g1 a1 ho⟩
  · refine ⟨"NoBits", CN, mN, _, rfl, X_NoBits, if_pos hNN, ?_⟩
    exact ⟨_, rfl, e H' h1 g1 a1⟩
end
def TripAt (H : Hp) (q : Addr) (r : List Nat × Nat × Nat) : Prop := ∃ o, H q = some (.tup [.ref o, .int (r.2.1 : Int), .int (r.2.2 : Int)]) ∧ H o = some (.tup (vnats r.1))
def RowsAt (H : Hp) (l : Addr) (rs : List (List Nat × Nat × Nat)) : Prop := ∃ qs : List Addr, H l = some (.lst (qs.map V.ref)) ∧ qs.length = rs.length ∧ ∀ (j : Nat) q r, qs[j]? = some q → rs[j]? = some r → TripAt H q r
theorem TripAt.same {H H' : Hp} {q : Addr} {r : List Nat × Nat × Nat} (h : TripAt H q r) (s : Same H H') : TripAt H' q r := by
  obtain ⟨o, h1, h2⟩ := h
  exact ⟨o, s _ _ h1, s _ _ h2⟩
theorem RowsAt.same {H H' : Hp} {l : Addr} {rs : List (List Nat × Nat × Nat)} (h : RowsAt H l rs) (s : Same H H') : RowsAt H' l rs := by
  obtain ⟨qs, h1, h2, h3⟩ := h
  exact ⟨qs, s _ _ h1, h2, fun j q r a b => (h3 j q r a b).same s⟩
theorem tup_upd3 {L p : Addr} {H : Hp} {zs ys xs : List V} (h : H p = some (.tup xs)) (hL : H L = some (.lst zs)) : (L2.upd H L (.lst ys)) p = some (.tup xs) := by
  rw [upd_ne (fun e => by rw [e, hL] at h; cases h)]
  exact h
theorem TripAt.upd {H : Hp} {L q : Addr} {r : List Nat × Nat × Nat} {zs ys : List V} (h : TripAt H q r) (hL : H L = some (.lst zs)) : TripAt (L2.upd H L (.lst ys)) q r := by
  obtain ⟨o, h1, h2⟩ := h
  exact ⟨o, tup_upd3 h1 hL, tup_upd3 h2 hL⟩
theorem RowsAt.push {H H' : Hp} {L q : Addr} {rs : List (List Nat × Nat × Nat)} {r : List Nat × Nat × Nat} (h : RowsAt H L rs) (s : Same H H') (hq : TripAt H' q r) : ∃ xs, H' L = some (.lst xs) ∧ xs.length = rs.length ∧ RowsAt (L2.upd H' L (.lst (xs ++ [.ref q]))) L (rs ++ [r]) := by
  obtain ⟨qs, h1, h2, h3⟩ := h.same s
  refine ⟨_, h1, by rw [List.length_map, h2], qs ++ [q], by rw [upd_same, List.map_append]; rfl, by rw [List.length_append, List.length_append, h2]; rfl, fun j q' r' a b => ?_⟩
  rcases Nat.lt_or_ge j qs.length with y | y
  · rw [List.getElem?_append_left y] at a
    rw [List.getElem?_append_left (by omega)] at b
    exact (h3 j q' r' a b).upd h1
  · rw [List.getElem?_append_right y] at a
    rw [List.getElem?_append_right (by omega)] at b
    have hj : j - qs.length = 0 := by
      have := (List.getElem?_eq_some_iff.mp a).1
      simpa using this
    rw [hj] at a
    rw [show j - rs.length = 0 by omega] at b
    cases a
    cases b
    exact hq.upd h1
def stepO (ab : List (Option Nat)) (r : List Nat × Nat × Nat) : List (List Nat × Nat × Nat) := (rdy ab r.1).map fun x => (r.1 ++ [x], r.2.1 * szA ab x, r.2.2 * ((rdy ab r.1).map (szA ab)).sum)
theorem ordF_step (ab : List (Option Nat)) (k : Nat) : ordF ab (k + 1) = (ordF ab k).flatMap (stepO ab) := rfl
theorem len_sum : ∀ {l : List (List Nat × Nat × Nat)}, (∀ r ∈ l, 0 < r.2.1) → l.length ≤ (l.map fun r => r.2.1).sum
  | [], _ => Nat.le_refl _
  | r :: l, h => by
    have h1 := h r List.mem_cons_self
    have h2 := len_sum (l := l) fun r hr => h r (List.mem_cons_of_mem _ hr)
    rw [List.length_cons, List.map_cons, List.sum_cons]
    omega
theorem dsc_le {n k : Nat} (hn : n ≤ 7) (hk : k ≤ n) : dsc n k ≤ 5040 := by
  have h1 := dsc_fac n k hk
  have h2 := facN_le hn
  have := Nat.le_mul_of_pos_right (dsc n k) (facN_pos (n - k))
  omega
theorem Rw.pos {ab : List (Option Nat)} {k : Nat} {r : List Nat × Nat × Nat} (hl : ab.length ≤ 7) (ok : okAb ab) (h : Rw ab k r) : 0 < r.2.1 := by
  rcases Nat.eq_zero_or_pos r.2.1 with y | y
  · have := h.up
    rw [y, Nat.zero_mul] at this
    have := spr_pos hl ok ab.length (Nat.le_refl _)
    omega
  · exact y
theorem ord_len {ab : List (Option Nat)} (hl : ab.length ≤ 7) (ok : okAb ab) {k : Nat} (hk : k ≤ ab.length) : (ordF ab k).length ≤ 5040 := by
  have h1 := len_sum (l := ordF ab k) fun r hr => (ord_rows hl ok k hk r hr).pos hl ok
  rw [ord_sum hl ok k hk] at h1
  exact Nat.le_trans h1 (dsc_le hl hk)
theorem up_le {ab : List (Option Nat)} (hl : ab.length ≤ 7) (ok : okAb ab) {k : Nat} (hk : k ≤ ab.length) {r : List Nat × Nat × Nat} (hr : r ∈ ordF ab k) : r.2.1 ≤ 5040 ∧ r.2.2 ≤ 5040 := by
  have h := ord_rows hl ok k hk r hr
  refine ⟨?_, by rw [h.lo]; exact dsc_le hl hk⟩
  have h1 := h.up
  have h2 := spr_le hl ok (k := ab.length) (Nat.le_refl _)
  rcases Nat.eq_zero_or_pos (prd (szA ab) (und ab.length r.1)) with y | y
  · rw [y, Nat.mul_zero] at h1
    have := spr_pos hl ok ab.length (Nat.le_refl _)
    omega
  · have := Nat.le_mul_of_pos_right r.2.1 y
    omega
def spOrd : Sp := fun vs H Q _ => ∃ (p : Addr) (ab : List (Option Nat)), vs = [.ref p] ∧ H p = some (.tup (vab ab)) ∧ okAb ab ∧ ab.length ≤ 7 ∧ ∀ l H', Same H H' → RowsAt H' l (ordF ab ab.length) → Q (.ref l) H'
section
variable {P : Program} {w : World} {K : PySem.W.Frag} {mg : Str → Option Value} {base : Heap} {f : Addr} {fd : FuncData}
theorem ok__law_orders (F__law_orders : Fun K "_law_orders" "_law_orders" s__law_orders f fd) (B : Bl mg) (g__law_ready : Fn P w K mg base "_law_ready" p__law_ready 1 spRdy) (g__law_under : Fn P w K mg base "_law_under" p__law_under 7 (spUnd 6)) : FnOk P w K mg base CX0 8 f fd p__law_orders spOrd := by
  refine F__law_orders.ok sc__law_orders (fun vs H Q E h => ?_) (fun cdv A outer s H vs Q E hr h => ?_)
  · obtain ⟨p, ab, rfl, _⟩ := h
    rfl
  obtain ⟨p, ab, rfl, hP, ok, hl, q⟩ := h
  refine ⟨_, (pss_cons (ps_set (i := 1) sc__law_orders.nd rfl (Or.inl rfl) (pe_lst (pa_cons (pe_tup (pa_cons (pe_tup pa_nil) (pa_cons pe_int (pa_cons pe_int pa_nil)))) pa_nil)))
      (pss_cons (ps_for PassesOwn.never rfl (pi_range1 rfl B.range_ (pa_cons (pe_callB call_len_seq rfl B.len_ L3.bt_len (pa_cons (pv 0) pa_nil)) pa_nil)) (pg_name (i := 2) sc__law_orders.nd rfl (Or.inl rfl)) (pss_cons (ps_set (i := 3) sc__law_orders.nd rfl (Or.inl rfl) (pe_lst pa_nil))
      (pss_cons (ps_for PassesOwn.never rfl (pi_list (pv 1)) (pg_tup rfl (pgs_cons (pg_name (i := 4) sc__law_orders.nd rfl (Or.inl rfl)) (pgs_cons (pg_name (i := 5) sc__law_orders.nd rfl (Or.inl rfl)) (pgs_cons (pg_name (i := 6) sc__law_orders.nd rfl (Or.inl rfl)) pgs_nil)))) (pss_cons (ps_set (i := 7) sc__law_orders.nd rfl (Or.inl rfl) (pe_fn g__law_ready hr (pa_cons (pv 0) (pa_cons (pv 4) pa_nil))))
      (pss_cons (ps_set (i := 8) sc__law_orders.nd rfl (Or.inl rfl) (pe_callB (call_sumL rfl) rfl B.sum_ L3.bt_sum (pa_cons (pe_comp [9] ["_law_above_here", "_law_rows", "_law_turn", "_law_longer", "_law_row", "_law_upper", "_law_lower", "_law_ready_here", "_law_total", "_law_one_here"] 0 rfl (pi_list (pv 7)) (fun _ _ _ _ _ => (pg_name (i := 9) nd_15 rfl (Or.inl rfl) (Or.inr rfl))) (fun _ _ _ _ _ => pif_nil) (fun _ _ _ _ _ => (pe_fn g__law_under hr (pa_cons (pv 0) (pa_cons (pv 9) pa_nil))))) pa_nil)))
      (pss_one (ps_for PassesOwn.never rfl (pi_list (pv 7)) (pg_name (i := 9) sc__law_orders.nd rfl (Or.inl rfl)) (pss_one (ps_expr (pe_bm PySem.F.plainAttrs_list PySem.F.slot_list_append PySem.F.type_list_append mt_append (pv 3) (pa_cons (pe_tup (pa_cons (pe_op op_cat0 (pv 4) (pe_tup (pa_cons (pv 9) pa_nil))) (pa_cons (pe_op op_mul (pv 5) (pe_fn g__law_under hr (pa_cons (pv 0) (pa_cons (pv 9) pa_nil)))) (pa_cons (pe_op op_mul (pv 6) (pv 8)) pa_nil)))) pa_nil)))))))))
      (pss_one (ps_set (i := 1) sc__law_orders.nd rfl (Or.inl rfl) (pv 3))))))
      (pss_one (ps_ret (pv 1))))), ?_⟩
  refine ⟨(by show 0 ≤ sizeLine; decide), fun e0 f0 => ?_⟩
  have y0 := same_new f0 (.tup ([] : List V))
  have w0 : (upd H e0 (.tup ([] : List V))) e0 = some (.tup (vnats [])) := upd_same
  generalize upd H e0 (.tup ([] : List V)) = H0 at y0 w0 ⊢
  refine ⟨(by show 3 ≤ sizeLine; decide), fun t0 ft0 => ?_⟩
  have y1 := same_new ft0 (.tup [V.ref e0, V.int 1, V.int 1])
  have w1 : (upd H0 t0 (.tup [V.ref e0, V.int 1, V.int 1])) t0 = some (.tup [V.ref e0, V.int 1, V.int 1]) := upd_same
  generalize upd H0 t0 (.tup [V.ref e0, V.int 1, V.int 1]) = H1 at y1 w1 ⊢
  refine ⟨(by show 1 ≤ sizeLine; decide), fun l0 fl0 => ?_⟩
  have y2 := same_new fl0 (.lst [V.ref t0])
  have w2 : (upd H1 l0 (.lst [V.ref t0])) l0 = some (.lst ([t0].map V.ref)) := upd_same
  generalize upd H1 l0 (.lst [V.ref t0]) = H2 at y2 w2 ⊢
  have r0 : RowsAt H2 l0 (ordF ab 0) := ⟨[t0], w2, rfl, fun j q r a b => by
    have hj : j = 0 := by
      have := (List.getElem?_eq_some_iff.mp a).1
      simpa using this
    subst hj
    cases a
    cases b
    exact ⟨e0, y2 _ _ w1, y2 _ _ (y1 _ _ w0)⟩⟩
  have s02 := y0.trans (y1.trans y2)
  clear y0 w0 f0 y1 w1 ft0 y2 w2 fl0
  refine ⟨_, rfl, p, _, rfl, .inr (SqT.of (s02 _ _ hP)), _, rfl, lo62 _, hi62 (by rw [vab_len]; omega), ?_⟩
  rw [Int.toNat_natCast, vab_len]
  refine for_range (lo := 0) (n := ab.length) (fun k σ' H' => ∃ (l : Addr) (o2 o3 o4 o5 o6 o7 o8 o9 : Option V), σ' = [some (.ref p), some (.ref l), o2, o3, o4, o5, o6, o7, o8, o9] ∧ Same H H' ∧ RowsAt H' l (ordF ab k))
    ⟨l0, _, _, _, _, _, _, _, _, rfl, s02, r0⟩ ?_ ?_
  rotate_left
  · rintro σ H3 ⟨l, o2, o3, o4, o5, o6, o7, o8, o9, rfl, s3, r3⟩
    exact ⟨_, rfl, q l H3 s3 r3⟩
  clear s02 r0
  rintro k σ H3 hk ⟨l, o2, o3, o4, o5, o6, o7, o8, o9, rfl, s3, r3⟩
  refine ⟨(by show 0 ≤ sizeLine; decide), fun L fL => ?_⟩
  have y4 := same_new fL (.lst ([] : List V))
  have w4 : (upd H3 L (.lst ([] : List V))) L = some (.lst (([] : List Addr).map V.ref)) := upd_same
  generalize upd H3 L (.lst ([] : List V)) = H4 at y4 w4 ⊢
  obtain ⟨qs, hq1, hq2, hq3⟩ := id r3
  have r4 : RowsAt H4 L (((ordF ab k).take 0).flatMap (stepO ab)) := ⟨[], w4, rfl, fun j q r a b => by cases a⟩
  refine ⟨_, rfl, l, rfl, ⟨_, SqL.of (y4 _ _ hq1)⟩, for_list (xs := qs.map V.ref) (fun j σ' H' => ∃ (o4 o5 o6 o7 o8 o9 : Option V), σ' = [some (.ref p), some (.ref l), some (.int (0 + (k : Int))), some (.ref L), o4, o5, o6, o7, o8, o9] ∧ Same H3 H' ∧ RowsAt H' L (((ordF ab k).take j).flatMap (stepO ab)))
    ⟨_, _, _, _, _, _, rfl, y4, r4⟩ (fun j σ' H' _ ⟨_, _, _, _, _, _, _, s, _⟩ => SqL.of (s _ _ hq1)) ?_ ?_⟩
  rotate_left
  · rintro σ H5 ⟨o4, o5, o6, o7, o8, o9, rfl, s5, r5⟩
    rw [List.length_map, hq2, List.take_length] at r5
    exact ⟨_, rfl, L, _, _, _, _, _, _, _, _, rfl, s3.trans s5, by rw [ordF_step]; exact r5⟩
  clear y4 w4 r4
  rintro j x σ H5 hx ⟨o4, o5, o6, o7, o8, o9, rfl, s5, r5⟩
  have hj : j < (ordF ab k).length := by
    have := (List.getElem?_eq_some_iff.mp hx).1
    rw [List.length_map] at this
    omega
  have hrj := List.getElem?_eq_getElem hj
  have hrm := List.getElem_mem hj
  have etk : (ordF ab k).take (j + 1) = (ordF ab k).take j ++ [(ordF ab k)[j]] := by
    rw [List.take_add_one, hrj]
    rfl
  rw [etk, List.flatMap_append, List.flatMap_cons, List.flatMap_nil, List.append_nil]
  have hlen5 : (((ordF ab k).take j).flatMap (stepO ab) ++ stepO ab (ordF ab k)[j]).length ≤ 5040 := by
    have h1 := ord_len hl ok (k := k + 1) hk
    rw [ordF_step, ← List.take_append_drop (j + 1) (ordF ab k), List.flatMap_append, List.length_append, etk, List.flatMap_append, List.flatMap_cons, List.flatMap_nil, List.append_nil] at h1
    omega
  generalize (ordF ab k)[j] = rr at hrj hrm etk hlen5 ⊢
  obtain ⟨row, up, lo⟩ := rr
  obtain ⟨qj, hqj, rfl⟩ : ∃ qj, qs[j]? = some qj ∧ x = .ref qj := by
    rw [List.getElem?_map] at hx
    cases y : qs[j]? with
    | none => rw [y] at hx; cases hx
    | some c => rw [y] at hx; cases hx; exact ⟨c, rfl, rfl⟩
  obtain ⟨ro, t1, t2⟩ := (hq3 j qj _ hqj hrj).same s5
  have hRw := ord_rows hl ok k (by omega) _ hrm
  have hb := up_le hl ok (by omega) hrm
  have hdl : row.length = k := hRw.ln
  refine ⟨qj, _, rfl, SqT.of t1, rfl, _, _, rfl, _, _, rfl, _, _, rfl, rfl, ?_⟩
  refine ⟨_, rfl, _, rfl, p, ro, ab, row, rfl, s5 _ _ (s3 _ _ hP), t2, hl, by omega, fun rd H6 nrd s6 hrd => ?_⟩
  have hP6 := s6 _ _ (s5 _ _ (s3 _ _ hP))
  have nrdL : rd ≠ L := fun e => by
    obtain ⟨_, hL5, _⟩ := r5
    rw [e, hL5] at nrd
    cases nrd
  have hrl : (rdy ab row).length ≤ 7 := by
    rw [rdy_eq]
    have := List.length_filter_le (fun i => decide (i ∈ rdy ab row)) (List.range ab.length)
    rw [List.length_range] at this
    omega
  have hmem : ∀ {i : Nat}, i < (rdy ab row).length → (rdy ab row).getD i 0 < ab.length := fun {i} hi => (mem_rdy.mp (by rw [List.getD_eq_getElem?_getD, List.getElem?_eq_getElem hi]; exact List.getElem_mem hi : (rdy ab row).getD i 0 ∈ rdy ab row)).1
  -- total
  refine ⟨_, rfl, rd, rfl, ⟨_, SqL.of hrd⟩, comp_list (xs := vnats (rdy ab row)) (fun i acc σ' H' => acc = vnats (((rdy ab row).take i).map (szA ab)) ∧ Same H6 H' ∧ ∃ o : Option V, σ' = [some (.ref p), some (.ref l), some (.int (0 + (k : Int))), some (.ref L), some (.ref ro), some (.int (up : Int)), some (.int (lo : Int)), some (.ref rd), o8, o]) ⟨rfl, Same.refl _, _, rfl⟩ (fun i acc σ' H' hi ⟨e, _⟩ => by
      rw [e, vnats_len, List.length_map, List.length_take]
      omega) (fun i acc σ' H' _ ⟨_, y, _⟩ => SqL.of (y _ _ hrd)) ?_ ?_⟩
  · rintro i x acc σ' H' hx' ⟨rfl, s7, o, rfl⟩
    have hi : i < (rdy ab row).length := by
      have := (List.getElem?_eq_some_iff.mp hx').1
      rwa [vnats_len] at this
    rw [vnats_at hi] at hx'
    obtain rfl := Option.some.inj hx'
    refine ⟨_, rfl, _, rfl, p, ab, _, rfl, s7 _ _ hP6, ok, hl, hmem hi, by omega, fun H8 y8 => ⟨?_, s7.trans y8, _, rfl⟩⟩
    rw [take_more hi, List.map_append, vnats_app]
    rfl
  rintro acc σ' H7 D ⟨rfl, s7, o, rfl⟩ fD
  rw [vnats_len, List.take_length]
  have y8 := same_new fD (.lst (vnats ((rdy ab row).map (szA ab))))
  have w8 : (upd H7 D (.lst (vnats ((rdy ab row).map (szA ab))))) D = some (.lst (vnats ((rdy ab row).map (szA ab)))) := upd_same
  generalize upd H7 D (.lst (vnats ((rdy ab row).map (szA ab)))) = H8 at y8 w8 ⊢
  rw [vnats_ints] at w8
  refine ⟨D, _, rfl, SqL.of w8, ?_⟩
  rw [sum_nats]
  have s58 := s6.trans (s7.trans y8)
  have hsm := hRw.dn.sm
  have s38 := s5.trans s58
  -- each
  refine ⟨_, rfl, rd, rfl, ⟨_, SqL.of (y8 _ _ (s7 _ _ hrd))⟩, for_list (xs := vnats (rdy ab row)) (fun i σ' H' => ∃ (o9 : Option V), σ' = [some (.ref p), some (.ref l), some (.int (0 + (k : Int))), some (.ref L), some (.ref ro), some (.int (up : Int)), some (.int (lo : Int)), some (.ref rd), some (.int ((((rdy ab row).map (szA ab)).sum : Nat) : Int)), o9] ∧ Same H3 H' ∧ H' rd = some (.lst (vnats (rdy ab row))) ∧ H' ro = some (.tup (vnats row)) ∧ RowsAt H' L (((ordF ab k).take j).flatMap (stepO ab) ++ (stepO ab (row, up, lo)).take i))
    ⟨_, rfl, s38, y8 _ _ (s7 _ _ hrd), s58 _ _ t2, by rw [List.take_zero, List.append_nil]; exact r5.same s58⟩ (fun i σ' H' _ ⟨_, _, _, y, _⟩ => SqL.of y) ?_ ?_⟩
  rotate_left
  · rintro σ H9 ⟨p9, rfl, s9, h9, hro9, r9⟩
    have et : (stepO ab (row, up, lo)).take (rdy ab row).length = stepO ab (row, up, lo) := List.take_of_length_le (by unfold stepO; rw [List.length_map]; exact Nat.le_refl _)
    rw [vnats_len, et] at r9
    exact ⟨_, _, _, _, _, _, rfl, s9, r9⟩
  rintro i x σ H9 hx' ⟨p9, rfl, s9, h9, hro9, r9⟩
  have hi : i < (rdy ab row).length := by
    have := (List.getElem?_eq_some_iff.mp hx').1
    rwa [vnats_len] at this
  have hml := hmem hi
  have est : (stepO ab (row, up, lo)).take (i + 1) = (stepO ab (row, up, lo)).take i ++ [(row ++ [(rdy ab row).getD i 0], up * szA ab ((rdy ab row).getD i 0), lo * ((rdy ab row).map (szA ab)).sum)] := by
    unfold stepO
    rw [← List.map_take, ← List.map_take, take_more hi, List.map_append]
    rfl
  rw [vnats_at hi] at hx'
  obtain rfl := Option.some.inj hx'
  rw [est, ← List.append_assoc]
  have hll : (((ordF ab k).take j).flatMap (stepO ab) ++ (stepO ab (row, up, lo)).take i).length ≤ 5040 := by
    rw [List.length_append, List.length_take]
    rw [List.length_append] at hlen5
    omega
  generalize (rdy ab row).getD i 0 = x at hml ⊢
  obtain ⟨qs9, hL9, hl9, _⟩ := id r9
  have hsz := szA_le hl ok hml
  have hb1 : up ≤ 5040 := hb.1
  have hb2 : lo ≤ 5040 := hb.2
  have hsm' : ((rdy ab row).map (szA ab)).sum + row.length = ab.length := hsm
  refine ⟨_, rfl, .inl ⟨rfl, _, SqL.of hL9⟩, _, rfl, _, rfl, (by show 1 ≤ sizeLine; decide), fun o1 fo1 => ?_⟩
  have y10 := same_new fo1 (.tup [V.int (x : Int)])
  have w10 : (upd H9 o1 (.tup [V.int (x : Int)])) o1 = some (.tup (vnats [x])) := upd_same
  generalize upd H9 o1 (.tup [V.int (x : Int)]) = H10 at y10 w10 ⊢
  refine cat35 (y10 _ _ hro9) w10 (by rw [vnats_len]; show _ + 1 ≤ _; omega) fun o2' H11 s11 h11 => ?_
  rw [← vnats_app] at h11
  have s911 := y10.trans s11
  refine ⟨_, rfl, _, rfl, _, rfl, p, ab, x, rfl, s911 _ _ (s9 _ _ (s3 _ _ hP)), ok, hl, hml, by omega, fun H12 s12 => ?_⟩
  refine ⟨_, _, rfl, rfl, .inl ⟨by omega, by omega⟩, _, rfl, _, rfl, _, _, rfl, rfl, .inl ⟨by omega, by omega⟩, (by show 3 ≤ sizeLine; decide), fun tr ftr => ?_⟩
  have s912 := s911.trans s12
  have y13 := same_new ftr (.tup [V.ref o2', V.int ((up : Int) * (szA ab x : Int)), V.int ((lo : Int) * ((((rdy ab row).map (szA ab)).sum : Nat) : Int))])
  have hT : TripAt (upd H12 tr (.tup [V.ref o2', V.int ((up : Int) * (szA ab x : Int)), V.int ((lo : Int) * ((((rdy ab row).map (szA ab)).sum : Nat) : Int))])) tr (row ++ [x], up * szA ab x, lo * ((rdy ab row).map (szA ab)).sum) := ⟨o2', upd_same, y13 _ _ (s12 _ _ h11)⟩
  obtain ⟨xs, x1, x2, x3⟩ := r9.push (s912.trans y13) hT
  refine ⟨L, _, _, rfl, rfl, x1, smallL (by omega), ?_⟩
  refine ⟨_, rfl, same_upd2 (s9.trans (s912.trans y13)) fL, ?_, ?_, x3⟩
  · rw [upd_ne (fun e => by rw [e] at h9; have := (s912.trans y13) _ _ h9; rw [x1] at this; exact nrdL e)]
    exact (s912.trans y13) _ _ h9
  · exact tup_upd3 ((s912.trans y13) _ _ hro9) x1
end
def SclL (zs : List V) : Prop := ∀ z ∈ zs, scl z = true
theorem eqv_self {H : Hp} {n : Nat} : ∀ {zs : List V}, SclL zs → Paired (Eqv H (n + 1)) zs zs
  | [], _ => .nil
  | z :: zs, h => .cons (.inl ⟨rfl, h z List.mem_cons_self⟩) (eqv_self fun y hy => h y (List.mem_cons_of_mem _ hy))
theorem eqv_tup {H : Hp} {n : Nat} {a b : Addr} {zs : List V} (h : SclL zs) (h1 : H a = some (.tup zs)) (h2 : H b = some (.tup zs)) (hz : zs.length ≤ 1000000) : Eqv H (n + 2) (.ref a) (.ref b) := .inr ⟨a, b, _, _, rfl, rfl, h1, h2, hz, eqv_self h⟩
theorem scl_nats (l : List Nat) : SclL (vnats l) := fun z hz => by
  obtain ⟨i, _, rfl⟩ := List.mem_map.mp hz
  rfl
theorem fm_all {g : Nat → Option V} : ∀ {m : Nat}, (∀ k, k < m → (g k).isSome = true) → ((List.range m).filterMap g).length = m ∧ ∀ j, j < m → ((List.range m).filterMap g)[j]? = g j
  | 0, _ => ⟨rfl, fun j h => absurd h (Nat.not_lt_zero j)⟩
  | m + 1, h => by
    obtain ⟨h1, h2⟩ := fm_all (m := m) fun k hk => h k (by omega)
    obtain ⟨x, hx⟩ := Option.isSome_iff_exists.mp (h m (by omega))
    have e : (List.range (m + 1)).filterMap g = (List.range m).filterMap g ++ [x] := by
      rw [List.range_succ, List.filterMap_append, List.filterMap_cons, hx]
      rfl
    rw [e]
    refine ⟨by rw [List.length_append, h1]; rfl, fun j hj => ?_⟩
    by_cases c : j < m
    · rw [List.getElem?_append_left (by omega)]
      exact h2 j c
    · have : j = m := by omega
      subst this
      rw [List.getElem?_append_right (by omega), h1, Nat.sub_self, hx]
      rfl
theorem cut_take (n m : Nat) : L3.cutAt n none (some (m : Int)) none = (0, 1, min m n) := by
  have a : Builtin.Slice.sliceAdjust none (some (m : Int)) 1 (n : Int) = (0, ((min m n : Nat) : Int)) := by
    unfold Builtin.Slice.sliceAdjust
    simp
    omega
  have b : Builtin.Slice.slicePlaces 0 ((min m n : Nat) : Int) 1 = min m n := by
    unfold Builtin.Slice.slicePlaces
    rw [if_pos (by decide)]
    by_cases h : (0 : Int) < ((min m n : Nat) : Int)
    · rw [if_pos h]; omega
    · rw [if_neg h]; omega
  unfold L3.cutAt
  show ((Builtin.Slice.sliceAdjust none (some (m : Int)) 1 (n : Int)).1, (1 : Int), Builtin.Slice.slicePlaces (Builtin.Slice.sliceAdjust none (some (m : Int)) 1 (n : Int)).1 (Builtin.Slice.sliceAdjust none (some (m : Int)) 1 (n : Int)).2 1) = _
  rw [a]
  dsimp only
  rw [b]
theorem pick_take (xs : List V) (m : Nat) : L3.pickAt xs (0, 1, min m xs.length) = xs.take m := by
  unfold L3.pickAt
  dsimp only
  have e : (fun (k : Nat) => xs[(0 + (k : Int) * 1).toNat]?) = fun k => xs[k]? := by
    funext k
    have : (0 + (k : Int) * 1).toNat = k := by omega
    rw [this]
  rw [e]
  obtain ⟨h1, h2⟩ := fm_all (g := fun k => xs[k]?) (m := min m xs.length) fun k hk => by
    rw [List.getElem?_eq_getElem (by omega)]
    rfl
  refine List.ext_getElem? fun j => ?_
  by_cases c : j < min m xs.length
  · rw [h2 j c, List.getElem?_take_of_lt (by omega)]
  · rw [List.getElem?_eq_none (by omega), List.getElem?_eq_none (by rw [List.length_take]; omega)]
theorem sl_take {K : PySem.W.Frag} {H : Hp} {a : Addr} {xs : List V} {m : Nat} {Q : VK} (h : H a = some (.tup xs)) (hz : xs.length ≤ 100000) (q : ∀ p H', Same H H' → H' p = some (.tup (xs.take m)) → Q (.ref p) H') : rSl3 K (.ref a) none (some (m : Int)) none H Q := by
  refine ⟨a, xs, rfl, SqT.of h, by decide, by rw [cut_take]; exact small (by show min m xs.length ≤ _; omega), fun z => ?_, fun _ p fp => ?_⟩
  · rw [cut_take] at z
    have z' : min m xs.length = xs.length := by simpa [L3.wholeAt] using z
    exact q a H (Same.refl _) (by rw [List.take_of_length_le (by omega)]; exact h)
  · refine q p _ (same_new fp _) ?_
    rw [upd_same, cut_take, pick_take]
theorem sl_takeP {K : PySem.W.Frag} {H : Hp} {a : Addr} {xs : List V} {m : Nat} {Q : VK} {σ : St} {n : Int} (hn : n = (m : Int)) (h : H a = some (.tup xs)) (hz : xs.length ≤ 100000) (q : ∀ p H', Same H H' → H' p = some (.tup (xs.take m)) → Q (.ref p) H') :
    tNoPart σ H (fun st H4 => rSl3 K (.ref a) none (some n) st H4 Q) := by
  subst hn
  exact sl_take h hz q
theorem due_len {ab : List (Option Nat)} : ∀ (k : Nat) (done bs d : List Nat) (u : Nat), dueR ab k done bs = some (d, u) → d.length = done.length + k
  | 0, done, bs, d, u, h => by
    injection h with h
    injection h with h1 h2
    rw [h1]
    rfl
  | k + 1, done, bs, d, u, h => by
    rw [dueR] at h
    split at h
    · cases h
    · rename_i j v _
      cases y : dueR ab k (done ++ [(rdy ab done).getD j 0]) (bs.drop v) with
      | none => rw [y] at h; cases h
      | some p =>
        rw [y] at h
        injection h with h
        injection h with h1 h2
        have := due_len k _ _ p.1 p.2 y
        rw [List.length_append, List.length_singleton] at this
        rw [← h1]
        show p.1.length = _
        omega
def DueO (H : Hp) (ab : List (Option Nat)) (bs : List Nat) (z : Nat) (due after : V) : Prop := (∃ o d u, dueR ab ab.length [] bs = some (d, u) ∧ due = .ref o ∧ after = .int ((z + u : Nat) : Int) ∧ H o = some (.tup (vnats d))) ∨ (dueR ab ab.length [] bs = none ∧ due = .str "NoBits" ∧ after = .non)
def spDueU : Sp := fun vs H Q _ => ∃ (r : Addr) (bl : List Nat) (z : Nat) (p : Addr) (ab : List (Option Nat)), vs = [.ref r, .int (z : Int), .ref p] ∧ H r = some (.tup (vbits bl)) ∧ z ≤ bl.length ∧ bl.length ≤ 100000 ∧ H p = some (.tup (vab ab)) ∧ okAb ab ∧ ab.length ≤ 7 ∧
  ∀ t' due after H', Same H H' → H' t' = some (.tup [due, after]) → DueO H' ab (bl.drop z) z due after → Q (.ref t') H'
theorem due_imp : ∀ vs H Q E, spDueU vs H Q E → spDueO vs H Q E := by
  rintro vs H Q E ⟨r, bl, z, p, ab, e, h1, h2, h3, h4, h5, h6, q⟩
  exact ⟨r, bl, z, p, ab, e, h1, h2, h3, h4, h5, h6, fun o d u t' H' hd hz s ho ht => q t' _ _ H' s ht (.inl ⟨o, d, u, hd, rfl, rfl, ho⟩), fun t' H' hd s ht => q t' _ _ H' s ht (.inr ⟨hd, rfl, rfl⟩)⟩
def ToldO (H : Hp) (ab : List (Option Nat)) (bs : List Nat) (z : Nat) (v : V) (z2 : Nat) : Prop := (∃ o d u, dueR ab ab.length [] bs = some (d, u) ∧ v = .ref o ∧ H o = some (.tup (vnats d)) ∧ z2 = z + u) ∨ (dueR ab ab.length [] bs = none ∧ v = .str "NoBits" ∧ z2 = z)
def spToldU (C : Addr) : Sp := fun vs H Q _ => ∃ (b dx r : Addr) (bl : List Nat) (z : Nat) (p : Addr) (ab : List (Option Nat)), vs = [.ref b, .ref p] ∧ At C H b dx r bl z ∧ H p = some (.tup (vab ab)) ∧ okAb ab ∧ ab.length ≤ 7 ∧
  ∀ v z2 H', Grow b H H' → At C H' b dx r bl z2 → ToldO H' ab (bl.drop z) z v z2 → Q v H'
theorem told_imp {C : Addr} : ∀ vs H Q E, spToldU C vs H Q E → spToldO C vs H Q E := by
  rintro vs H Q E ⟨b, dx, r, bl, z, p, ab, e, h1, h2, h3, h4, q⟩
  exact ⟨b, dx, r, bl, z, p, ab, e, h1, h2, h3, h4, fun o d u H' hd g a ho => q _ _ H' g a (.inl ⟨o, d, u, hd, rfl, ho, rfl⟩), fun H' hd g a => q _ _ H' g a (.inr ⟨hd, rfl, rfl⟩)⟩
theorem ite_merge {c : Bool} {A B R : V → Prop} {v : V} (hA : c = true → A v) (hB : c = false → B v) (h : R v) : if c = true then (∃ w, A w ∧ R w) else ∃ w, B w ∧ R w := by
  cases c with
  | true => exact ⟨v, hA rfl, h⟩
  | false => exact ⟨v, hB rfl, h⟩
theorem und_all {P : Program} {w : World} {K : PySem.W.Frag} {mg : Str → Option Value} {base : Heap} {f : Addr} {fd : FuncData} (F : Fun K "_law_under" "_law_under" s__law_under f fd) (B : Bl mg) (mo : ∀ {k : Nat} {sp : Sp}, FnOk P w K mg base CX0 k f fd p__law_under sp → Fn P w K mg base "_law_under" p__law_under k sp) : ∀ n : Nat, FnOk P w K mg base CX0 (n + 1) f fd p__law_under (spUnd n)
  | 0 => ok__law_under (lv := 0) (n := 0) F B (mo (ok__law_same0 (sp := fun _ _ _ _ => False) (fun _ _ _ _ h => h))) (fun m vs H Q E e => by cases e)
  | n + 1 => ok__law_under (lv := n + 1) (n := n + 1) F B (mo (und_all F B mo n)) (fun m vs H Q E e h => by cases e; exact h)
section
variable {P : Program} {w : World} {K : PySem.W.Frag} {mg : Str → Option Value} {base : Heap} {f C fI fT fU fL fG CN : Addr} {fd dI dT dU dL dG : FuncData} {mN : List Value}
theorem ok_law (F_law : Fun K "law" "law" s_law f fd) (B : Bl mg) (T : Txt K mg C fI fT fU fL fG dI dT dU dL dG) (g__law_bits : Fn P w K mg base "_law_bits" p__law_bits 2 (spBits K)) (g__law_above : Fn P w K mg base "_law_above" p__law_above 3 (spAbove K))
    (g_init : FnOk P w K mg base CX0 1 fI dI p_Bits___init__ (spInit C)) (g_used : FnOk P w K mg base CX0 1 fU dU p_Bits_used (spUsed C)) (g__law_due : Fn P w K mg base "_law_due" p__law_due 8 spDueU) (g__law_told : Fn P w K mg base "_law_told" p__law_told 10 (spToldU C))
    (g__law_orders : Fn P w K mg base "_law_orders" p__law_orders 8 spOrd) (g_count_orders : Fn P w K mg base "count_orders" p_count_orders 2 spCnt) (g__law_same : Fn P w K mg base "_law_same" p__law_same 2 (spSame 2)) : FnOk P w K mg base CX0 14 f fd p_law (spLaw K) := by
  refine F_law.ok sc_law (fun vs H Q E h => ?_) (fun cdv A outer s H vs Q E hr h => ?_)
  · obtain ⟨a, ns, rfl, _⟩ := h
    rfl
  obtain ⟨a, ns, rfl, hS, h63, q⟩ := h
  refine ⟨_, (pss_cons (ps_set (i := 1) sc_law.nd rfl (Or.inl rfl) (pe_lst pa_nil))
      (pss_cons (ps_for PassesOwn.never rfl (pi_range1 rfl B.range_ (pa_cons pe_int pa_nil)) (pg_name (i := 2) sc_law.nd rfl (Or.inl rfl)) (pss_cons (ps_set (i := 3) sc_law.nd rfl (Or.inl rfl) (pe_fn g__law_bits hr (pa_cons (pv 0) (pa_cons (pv 1) (pa_cons pe_int pa_nil)))))
      (pss_cons (ps_par (i := 4) (j := 5) rfl sc_law.nd rfl rfl (by decide) rfl rfl (pa_cons (pe_make T.made g_init (hr.mono (by first | decide | omega)) rfl T.mgC T.b_init .nil pass0 (pa_cons (pv 3) pa_nil)) (pa_cons pe_int pa_nil)) rfl)
      (pss_one (ps_for PassesOwn.never rfl (pi_range1 rfl B.range_ (pa_cons pe_int pa_nil)) (pg_name (i := 6) sc_law.nd rfl (Or.inl rfl)) (pss_cons (ps_set (i := 7) sc_law.nd rfl (Or.inl rfl) (pe_fn g__law_above hr (pa_cons (pv 0) (pa_cons (pv 1) pa_nil))))
      (pss_cons (ps_asg (pe_fn g__law_due hr (pa_cons (pv 3) (pa_cons (pv 5) (pa_cons (pv 7) pa_nil)))) (pg_tup rfl (pgs_cons (pg_name (i := 8) sc_law.nd rfl (Or.inl rfl)) (pgs_cons (pg_name (i := 9) sc_law.nd rfl (Or.inl rfl)) pgs_nil))))
      (pss_cons (ps_if (pt_not (pt_truth (pe_fn g__law_same hr (pa_cons (pe_fn g__law_told hr (pa_cons (pv 4) (pa_cons (pv 7) pa_nil))) (pa_cons (pv 8) pa_nil))) (fun _ => rfl))) (pss_one (ps_ret pe_bl)) pss_nil)
      (pss_cons (ps_set (i := 5) sc_law.nd rfl (Or.inl rfl) (pe_ifExp (pt_cmpR op_isN (pv 9) pe_non (nomark _)) (pv 5) (pv 9)))
      (pss_cons (ps_if (pt_cmpR op_ne (pe_meth0 (pv 4) T.cl T.m_used g_used (hr.mono (by first | decide | omega)) T.b_used .nil pass0) (pv 5) (nomark _)) (pss_one (ps_ret pe_bl)) pss_nil)
      (pss_one (ps_joinN (ps_if (pt_cmpR op_eq (pv 6) pe_int (nomark _)) (pss_cons (ps_set (i := 10) sc_law.nd rfl (Or.inl rfl) (pe_slice3 (pv 7) po_none (po_some pe_int) po_none))
      (pss_cons (ps_set (i := 11) sc_law.nd rfl (Or.inr rfl) (pe_fn g__law_orders hr (pa_cons (pv 10) pa_nil)))
      (pss_cons (ps_if (pt_not (pt_truth (pe_fn g__law_same hr (pa_cons (pe_fn g_count_orders hr (pa_cons (pv 10) pa_nil)) (pa_cons (pe_callB (call_len_seqK K rfl) rfl B.len_ L3.bt_len (pa_cons (pv 11) pa_nil)) pa_nil))) (fun _ => rfl))) (pss_one (ps_ret pe_bl)) pss_nil)
      (pss_one (ps_if (pt_truth (pe_comp [] ["_law_script", "_law_town", "_law_k", "_law_row", "_law_bits_here", "_law_at", "_law_turn", "_law_above_here", "_law_due_here", "_law_after", "_law_few", "_law_rows", "_law_one_here", "_law_upper", "_law_lower"] 3 rfl (pi_list (pv 11)) (fun _ _ _ _ _ => (pg_tupK K 3 rfl (pgs_cons (pg_name (i := 12) nd_16 rfl (Or.inl rfl) (Or.inr rfl)) (pgs_cons (pg_name (i := 13) nd_16 rfl (Or.inl rfl) (Or.inr rfl)) (pgs_cons (pg_name (i := 14) nd_16 rfl (Or.inl rfl) (Or.inr rfl)) pgs_nil))) rfl rfl rfl)) (fun _ _ _ _ _ => (pif_one (pt_cmpR op_ne (pe_op op_mul (pv 13) (pe_callB (call_len_seqK K rfl) rfl B.len_ L3.bt_len (pa_cons (pv 11) pa_nil))) (pv 14) (nomark _)))) (fun _ _ _ _ _ => pe_int)) (fun _ => rfl)) (pss_one (ps_ret pe_bl)) pss_nil))))) pss_nil)))))))))))))
      (pss_one (ps_ret pe_bl)))), ?_⟩
  refine ⟨(by show 0 ≤ sizeLine; decide), fun t ft => ?_⟩
  have sT := same_new ft (.lst ([] : List V))
  have hT : Twn (upd H t (.lst [])) t 0 := upd_same
  replace hS := sT.scr hS
  generalize upd H t (.lst []) = H0 at hS hT
  refine ⟨3, rfl, by decide, by decide, for_range (lo := 0) (n := 3) (fun i σ' H' => ∃ (k : Nat) (o2 o3 o4 o5 o6 o7 o8 o9 o10 o11 : Option V), σ' = [some (.ref a), some (.ref t), o2, o3, o4, o5, o6, o7, o8, o9, o10, o11] ∧ Scr K H' a ns ∧ Twn H' t k ∧ k ≤ 400 * i)
    ⟨0, _, _, _, _, _, _, _, _, _, _, rfl, hS, hT, by omega⟩ ?_ ?_⟩
  rotate_left
  · rintro σ H1 ⟨k, o2, o3, o4, o5, o6, o7, o8, o9, o10, o11, rfl, hS1, hT1, hk1⟩
    exact q H1
  rintro i σ H1 hi ⟨k, o2, o3, o4, o5, o6, o7, o8, o9, o10, o11, rfl, hS1, hT1, hk1⟩
  -- row
  refine ⟨_, rfl, _, rfl, a, t, ns, k, 60, rfl, hS1, h63, hT1, by omega, by decide, by decide, fun r H2 g2 t2 e2 => ?_⟩
  have n0 := drw_nn ns (k + 1) (show (0 : Int) < 60 + 1 by decide)
  have n1 := drw_lt ns (k + 1) (show (0 : Int) < 60 + 1 by decide)
  obtain ⟨bl, hbl, hlen, hbit⟩ := dbits_nat ns (k + 1) (drw ns (k + 1) (60 + 1)).toNat
  rw [hbl] at e2
  have hS2 := g2.scr hT1 hS1
  have l60 : bl.length ≤ 60 := by omega
  rw [← hlen] at t2
  clear hbl hlen n0 n1 g2 hS1 hT1
  -- bits
  refine ⟨_, rfl, fun b dx nb ndx nex => ?_⟩
  have s3 : Same H2 (upd (upd H2 dx (.own b)) b (.ins C dx [])) := fun c o y => by
    rw [upd_ne (ne_of_none y nb), upd_ne (ne_of_none y ndx)]
    exact y
  refine ⟨b, dx, r, vbits bl, rfl, upd_same, s3 _ _ e2, fun H3 e3 kp => ⟨rfl, _, _, rfl, ?_⟩⟩
  have s4 : Same H2 H3 := fun c o y => kp c o (s3 c o y) (ne_of_none y nb)
  have a3 : At C H3 b dx r bl 0 := ⟨e3, s4 _ _ e2, Nat.zero_le _⟩
  have hS3 := s4.scr hS2
  have hT3 := s4.twn t2
  clear s3 s4 e3 kp nb ndx nex e2 hS2 t2
  -- the turns
  refine ⟨5, rfl, by decide, by decide, for_range (lo := 0) (n := 5) (fun j σ' H' => ∃ (z k' : Nat) (o6 o7 o8 o9 o10 o11 : Option V), σ' = [some (.ref a), some (.ref t), some (.int (0 + (i : Int))), some (.ref r), some (.ref b), some (.int (z : Int)), o6, o7, o8, o9, o10, o11] ∧ Scr K H' a ns ∧ Twn H' t k' ∧ At C H' b dx r bl z ∧ k' ≤ k + 61 + 9 * j)
    ⟨0, _, _, _, _, _, _, _, rfl, hS3, hT3, a3, by omega⟩ ?_ ?_⟩
  rotate_left
  · rintro σ H4 ⟨z, k', p6, p7, p8, p9, p10, p11, rfl, hS4, hT4, a4, hk4⟩
    exact ⟨k', _, _, _, _, _, _, _, _, _, _, rfl, hS4, hT4, by omega⟩
  clear hS3 hT3 a3
  rintro j σ H4 hj ⟨z, k', p6, p7, p8, p9, p10, p11, rfl, hS4, hT4, a4, hk4⟩
  -- what stands above what
  refine ⟨_, rfl, _, rfl, a, t, ns, k', rfl, hS4, h63, hT4, by omega, fun p ab k5 H5 g5 t5 hk5 hP ok hl => ?_⟩
  have hS5 := g5.scr hT4 hS4
  have a5 := a4.town hT4 g5
  clear hS4 hT4 a4 g5
  refine ⟨_, rfl, _, rfl, _, rfl, r, bl, z, p, ab, rfl, a5.row, a5.le, by omega, hP, ok, hl, fun td due after H6 s6 h6 hdo => ?_⟩
  refine ⟨td, _, rfl, SqT.of h6, rfl, _, _, rfl, _, _, rfl, rfl, ?_⟩
  have hS6 := s6.scr hS5
  have t6 := s6.twn t5
  have a6 := a5.same s6
  have hP6 := s6 _ _ hP
  clear hS5 t5 a5 s6 h6 hP
  refine ⟨_, rfl, _, rfl, b, dx, r, bl, z, p, ab, rfl, a6, hP6, ok, hl, fun v z2 H7 g7 a7 hto => ?_⟩
  have hev : Eqv H7 2 v due ∧ (after = .non → z2 = z) ∧ (after ≠ .non → after = .int (z2 : Int)) := by
    rcases hdo with ⟨o, d, u, h1, rfl, rfl, ho⟩ | ⟨h1, rfl, rfl⟩
    · rcases hto with ⟨o2, d2, u2, h2, rfl, ho2, rfl⟩ | ⟨h2, _⟩
      · rw [h1] at h2
        injection h2 with h2
        injection h2 with h2 h3
        subst h2 h3
        have hd := due_len _ _ _ _ _ h1
        have nob : o ≠ b := fun y => by rw [y, a6.obj] at ho; cases ho
        exact ⟨eqv_tup (n := 0) (scl_nats d) ho2 (g7 _ _ nob ho) (by rw [vnats_len, hd]; show 0 + _ ≤ _; omega), fun y => (by cases y), fun _ => rfl⟩
      · rw [h1] at h2
        cases h2
    · rcases hto with ⟨o2, d2, u2, h2, _⟩ | ⟨h2, rfl, rfl⟩
      · rw [h1] at h2
        cases h2
      · exact ⟨.inl ⟨rfl, rfl⟩, fun _ => rfl, fun y => absurd rfl y⟩
  obtain ⟨hev, haf1, haf2⟩ := hev
  refine ⟨_, rfl, _, _, rfl, hev, fun H8 s8 => ⟨true, rfl, iteF ?_⟩⟩
  have a8 := a7.same s8
  have hS8 := s8.scr (grow_scrB g7 a6 hS6)
  have t8 := s8.twn (grow_twnB g7 a6 t6)
  have npb : p ≠ b := fun y => by rw [y, a6.obj] at hP6; cases hP6
  have hP8 := s8 _ _ (g7 _ _ npb hP6)
  clear hdo hto hev g7 a7 s8 hS6 t6 a6 hP6
  refine ⟨_, rfl, rfl, _, rfl, ?_⟩
  refine ite_merge (v := .int (z2 : Int)) (fun c => ?_) (fun c => ?_) ?_
  · rw [haf1 (of_decide_eq_true c)]
    rfl
  · rw [haf2 (of_decide_eq_false c)]
    rfl
  refine ⟨_, rfl, b, dx, _, rfl, a8.obj, flds_no _ _ (by decide +kernel) (by decide +kernel), b, dx, r, z2, rfl, a8.obj, _, rfl, rfl, _, rfl, iteNS rfl ?_⟩
  -- the count
  refine ⟨fun σ' H' => ∃ (z k' : Nat) (o6 o7 o8 o9 o10 o11 : Option V), σ' = [some (.ref a), some (.ref t), some (.int (0 + (i : Int))), some (.ref r), some (.ref b), some (.int (z : Int)), o6, o7, o8, o9, o10, o11] ∧ Scr K H' a ns ∧ Twn H' t k' ∧ At C H' b dx r bl z ∧ k' ≤ k + 61 + 9 * (j + 1), fun _ _ h => h, ?_⟩
  refine ⟨_, rfl, rfl, _, rfl, ite2 (fun _ => ?_) (fun _ => ?_)⟩
  rotate_left
  · exact ⟨z2, k5, _, _, _, _, _, _, rfl, hS8, t8, a8, by omega⟩
  refine ⟨_, rfl, ⟨6, rfl, sl_takeP (K := K) (m := 6) rfl hP8 (by rw [vab_len]; omega) fun fw H9 s9 hF => ?_⟩⟩
  have hF' : H9 fw = some (.tup (vab (ab.take 6))) := by rw [hF, vab, vab, List.map_take]
  have okf : okAb (ab.take 6) := fun i j e => ok i j (by
    rw [List.getElem?_take] at e
    split at e
    · exact e
    · cases e)
  have hlf : (ab.take 6).length ≤ 7 := by rw [List.length_take]; omega
  generalize ab.take 6 = af at hF' okf hlf
  refine ⟨_, rfl, fw, af, rfl, hF', okf, hlf, fun lr H10 s10 hR => ?_⟩
  have s810 := s9.trans s10
  refine ⟨_, rfl, fw, af, rfl, s10 _ _ hF', okf, hlf, fun H11 s11 => ?_⟩
  obtain ⟨qs, q1, q2, q3⟩ := hR.same s11
  have s811 := s810.trans s11
  refine ⟨_, rfl, lr, _, rfl, .inl (SqL.of q1), ?_⟩
  rw [List.length_map, q2]
  refine ⟨_, _, rfl, .inl ⟨rfl, rfl⟩, fun H12 s12 => ⟨true, rfl, iteF ?_⟩⟩
  have s812 := s811.trans s12
  have q12 := s12 _ _ q1
  refine ⟨_, rfl, lr, rfl, ⟨_, SqL.of q12⟩, comp_list (xs := qs.map V.ref) (fun j2 acc σ' H' => acc = [] ∧ H' = H12 ∧ ∃ o12 o13 o14 : Option V, σ' = [some (.ref a), some (.ref t), some (.int (0 + (i : Int))), some (.ref r), some (.ref b), some (.int (z2 : Int)), some (.int (0 + (j : Int))), some (.ref p), some due, some after, some (.ref fw), some (.ref lr), o12, o13, o14]) ⟨rfl, rfl, _, _, _, rfl⟩ (fun j2 acc σ' H' hj ⟨e, _⟩ => by rw [e]; exact Nat.zero_le _) (fun j2 acc σ' H' _ ⟨_, y, _⟩ => by rw [y]; exact SqL.of q12) ?_ ?_⟩
  · rintro j2 x acc σ' H' hx ⟨rfl, rfl, o12, o13, o14, rfl⟩
    have hj2 : j2 < (ordF af af.length).length := by
      have := (List.getElem?_eq_some_iff.mp hx).1
      rw [List.length_map] at this
      omega
    have hrj := List.getElem?_eq_getElem hj2
    have hrm := List.getElem_mem hj2
    generalize (ordF af af.length)[j2] = rr at hrj hrm
    obtain ⟨qj, hqj, rfl⟩ : ∃ qj, qs[j2]? = some qj ∧ x = .ref qj := by
      rw [List.getElem?_map] at hx
      cases y : qs[j2]? with
      | none => rw [y] at hx; cases hx
      | some c => rw [y] at hx; cases hx; exact ⟨c, rfl, rfl⟩
    obtain ⟨ro, u1, u2⟩ := (q3 j2 qj _ hqj hrj).same s12
    have hev := ord_even hlf okf hrm
    have hb := up_le hlf okf (Nat.le_refl _) hrm
    have hll := ord_len hlf okf (Nat.le_refl af.length)
    refine ⟨qj, _, rfl, SqT.of u1, rfl, _, _, rfl, _, _, rfl, _, _, rfl, rfl, ?_⟩
    refine ⟨_, rfl, _, rfl, lr, _, rfl, .inl (SqL.of q12), ?_⟩
    rw [List.length_map, q2]
    refine ⟨_, _, rfl, rfl, .inl ⟨by omega, by omega⟩, _, rfl, rfl, _, rfl, ?_⟩
    refine iteNS (congrArg V.int ?_) ⟨rfl, rfl, _, _, _, rfl⟩
    rw [← Int.natCast_mul, hev]
  rintro acc σ' H13 D ⟨rfl, rfl, o12, o13, o14, rfl⟩ fD
  have y13 := same_new fD (.lst ([] : List V))
  have s813 := s812.trans y13
  refine ⟨false, .inl ⟨_, SqL.of upd_same, rfl⟩, iteF ?_⟩
  exact ⟨z2, k5, _, _, _, _, _, _, rfl, s813.scr hS8, s813.twn t8, a8.same s813, by omega⟩
end
theorem all_mk {l : PySem.W.OpenLaw} {w : World} {K : PySem.W.Frag} {h : Heap} {mg : Str → Option Value} {fa f1 f2 f3 f4 f5 f6 f7 f8 f9 f10 f11 f12 f13 f14 f15 f16 f17 f18 f19 c_Bits f20 f21 f22 f23 f24 e_NoBits : Addr} (X : K.In h) (G : h.Ns mainGlobals mg) (hfa : mg "law" = some (.ref fa))
    {od1 an1 od2 an2 od3 an3 od4 an4 od5 an5 od6 an6 od7 an7 od8 an8 od9 an9 od10 an10 od11 an11 od12 an12 od13 an13 od14 an14 od15 an15 od16 an16 od17 an17 od18 an18 od19 an19 od20 an20 od21 an21 od22 an22 od23 an23 od24 an24 xo_NoBits : Option Addr} {sl1 sl2 sl3 sl4 sl5 sl6 sl7 sl8 sl9 sl10 sl11 sl12 sl13 sl14 sl15 sl16 sl17 sl18 sl19 sl20 sl21 sl22 sl23 sl24 xs_NoBits : Array (Option Value)} {oc1 kV1 dc1 pm1 cd1 ct1 oc2 kV2 dc2 pm2 cd2 ct2 oc3 kV3 dc3 pm3 cd3 ct3 oc4 kV4 dc4 pm4 cd4 ct4 oc5 kV5 dc5 pm5 cd5 ct5 oc6 kV6 dc6 pm6 cd6 ct6 oc7 kV7 dc7 pm7 cd7 ct7 oc8 kV8 dc8 pm8 cd8 ct8 oc9 kV9 dc9 pm9 cd9 ct9 oc10 kV10 dc10 pm10 cd10 ct10 oc11 kV11 dc11 pm11 cd11 ct11 oc12 kV12 dc12 pm12 cd12 ct12 oc13 kV13 dc13 pm13 cd13 ct13 oc14 kV14 dc14 pm14 cd14 ct14 oc15 kV15 dc15 pm15 cd15 ct15 oc16 kV16 dc16 pm16 cd16 ct16 oc17 kV17 dc17 pm17 cd17 ct17 oc18 kV18 dc18 pm18 cd18 ct18 oc19 kV19 dc19 pm19 cd19 ct19 oc20 kV20 dc20 pm20 cd20 ct20 oc21 kV21 dc21 pm21 cd21 ct21 oc22 kV22 dc22 pm22 cd22 ct22 oc23 kV23 dc23 pm23 cd23 ct23 oc24 kV24 dc24 pm24 cd24 ct24 xc_NoBits : Value} {ed_NoBits : ClassData}
    (a1 : PySem.W.nsIn K mainGlobals "drawn_whole" = some (some (.ref f1))) (l1 : K.lookup f1 = some ⟨oc1, od1, .func (PySem.W.fnOf "drawn_whole" "drawn_whole" (defArgs s_drawn_whole) (defBody s_drawn_whole) (defScope s_drawn_whole) .none kV1 dc1 pm1 an1 cd1 ct1), sl1⟩) (c1 : PySem.W.codeIn K cd1 "drawn_whole" = true) (k1 : PySem.W.keepIn K (.ref f1) = true)
    (a2 : PySem.W.nsIn K mainGlobals "pick" = some (some (.ref f2))) (l2 : K.lookup f2 = some ⟨oc2, od2, .func (PySem.W.fnOf "pick" "pick" (defArgs s_pick) (defBody s_pick) (defScope s_pick) .none kV2 dc2 pm2 an2 cd2 ct2), sl2⟩) (c2 : PySem.W.codeIn K cd2 "pick" = true) (k2 : PySem.W.keepIn K (.ref f2) = true)
    (a3 : PySem.W.nsIn K mainGlobals "take_pick" = some (some (.ref f3))) (l3 : K.lookup f3 = some ⟨oc3, od3, .func (PySem.W.fnOf "take_pick" "take_pick" (defArgs s_take_pick) (defBody s_take_pick) (defScope s_take_pick) .none kV3 dc3 pm3 an3 cd3 ct3), sl3⟩) (c3 : PySem.W.codeIn K cd3 "take_pick" = true) (k3 : PySem.W.keepIn K (.ref f3) = true)
    (a4 : PySem.W.nsIn K mainGlobals "sizes_under" = some (some (.ref f4))) (l4 : K.lookup f4 = some ⟨oc4, od4, .func (PySem.W.fnOf "sizes_under" "sizes_under" (defArgs s_sizes_under) (defBody s_sizes_under) (defScope s_sizes_under) .none kV4 dc4 pm4 an4 cd4 ct4), sl4⟩) (c4 : PySem.W.codeIn K cd4 "sizes_under" = true) (k4 : PySem.W.keepIn K (.ref f4) = true)
    (a5 : PySem.W.nsIn K mainGlobals "count_orders" = some (some (.ref f5))) (l5 : K.lookup f5 = some ⟨oc5, od5, .func (PySem.W.fnOf "count_orders" "count_orders" (defArgs s_count_orders) (defBody s_count_orders) (defScope s_count_orders) .none kV5 dc5 pm5 an5 cd5 ct5), sl5⟩) (c5 : PySem.W.codeIn K cd5 "count_orders" = true) (k5 : PySem.W.keepIn K (.ref f5) = true)
    (a6 : PySem.W.nsIn K mainGlobals "order_under" = some (some (.ref f6))) (l6 : K.lookup f6 = some ⟨oc6, od6, .func (PySem.W.fnOf "order_under" "order_under" (defArgs s_order_under) (defBody s_order_under) (defScope s_order_under) .none kV6 dc6 pm6 an6 cd6 ct6), sl6⟩) (c6 : PySem.W.codeIn K cd6 "order_under" = true) (k6 : PySem.W.keepIn K (.ref f6) = true)
    (a7 : PySem.W.nsIn K mainGlobals "take_order_under" = some (some (.ref f7))) (l7 : K.lookup f7 = some ⟨oc7, od7, .func (PySem.W.fnOf "take_order_under" "take_order_under" (defArgs s_take_order_under) (defBody s_take_order_under) (defScope s_take_order_under) .none kV7 dc7 pm7 an7 cd7 ct7), sl7⟩) (c7 : PySem.W.codeIn K cd7 "take_order_under" = true) (k7 : PySem.W.keepIn K (.ref f7) = true)
    (a8 : PySem.W.nsIn K mainGlobals "_law_same" = some (some (.ref f8))) (l8 : K.lookup f8 = some ⟨oc8, od8, .func (PySem.W.fnOf "_law_same" "_law_same" (defArgs s__law_same) (defBody s__law_same) (defScope s__law_same) .none kV8 dc8 pm8 an8 cd8 ct8), sl8⟩) (c8 : PySem.W.codeIn K cd8 "_law_same" = true) (k8 : PySem.W.keepIn K (.ref f8) = true)
    (a9 : PySem.W.nsIn K mainGlobals "_law_draw" = some (some (.ref f9))) (l9 : K.lookup f9 = some ⟨oc9, od9, .func (PySem.W.fnOf "_law_draw" "_law_draw" (defArgs s__law_draw) (defBody s__law_draw) (defScope s__law_draw) .none kV9 dc9 pm9 an9 cd9 ct9), sl9⟩) (c9 : PySem.W.codeIn K cd9 "_law_draw" = true) (k9 : PySem.W.keepIn K (.ref f9) = true)
    (a10 : PySem.W.nsIn K mainGlobals "_law_one" = some (some (.ref f10))) (l10 : K.lookup f10 = some ⟨oc10, od10, .func (PySem.W.fnOf "_law_one" "_law_one" (defArgs s__law_one) (defBody s__law_one) (defScope s__law_one) .none kV10 dc10 pm10 an10 cd10 ct10), sl10⟩) (c10 : PySem.W.codeIn K cd10 "_law_one" = true) (k10 : PySem.W.keepIn K (.ref f10) = true)
    (a11 : PySem.W.nsIn K mainGlobals "_law_bits" = some (some (.ref f11))) (l11 : K.lookup f11 = some ⟨oc11, od11, .func (PySem.W.fnOf "_law_bits" "_law_bits" (defArgs s__law_bits) (defBody s__law_bits) (defScope s__law_bits) .none kV11 dc11 pm11 an11 cd11 ct11), sl11⟩) (c11 : PySem.W.codeIn K cd11 "_law_bits" = true) (k11 : PySem.W.keepIn K (.ref f11) = true)
    (a12 : PySem.W.nsIn K mainGlobals "_law_pick" = some (some (.ref f12))) (l12 : K.lookup f12 = some ⟨oc12, od12, .func (PySem.W.fnOf "_law_pick" "_law_pick" (defArgs s__law_pick) (defBody s__law_pick) (defScope s__law_pick) .none kV12 dc12 pm12 an12 cd12 ct12), sl12⟩) (c12 : PySem.W.codeIn K cd12 "_law_pick" = true) (k12 : PySem.W.keepIn K (.ref f12) = true)
    (a13 : PySem.W.nsIn K mainGlobals "_law_above" = some (some (.ref f13))) (l13 : K.lookup f13 = some ⟨oc13, od13, .func (PySem.W.fnOf "_law_above" "_law_above" (defArgs s__law_above) (defBody s__law_above) (defScope s__law_above) .none kV13 dc13 pm13 an13 cd13 ct13), sl13⟩) (c13 : PySem.W.codeIn K cd13 "_law_above" = true) (k13 : PySem.W.keepIn K (.ref f13) = true)
    (a14 : PySem.W.nsIn K mainGlobals "_law_under" = some (some (.ref f14))) (l14 : K.lookup f14 = some ⟨oc14, od14, .func (PySem.W.fnOf "_law_under" "_law_under" (defArgs s__law_under) (defBody s__law_under) (defScope s__law_under) .none kV14 dc14 pm14 an14 cd14 ct14), sl14⟩) (c14 : PySem.W.codeIn K cd14 "_law_under" = true) (k14 : PySem.W.keepIn K (.ref f14) = true)
    (a15 : PySem.W.nsIn K mainGlobals "_law_ready" = some (some (.ref f15))) (l15 : K.lookup f15 = some ⟨oc15, od15, .func (PySem.W.fnOf "_law_ready" "_law_ready" (defArgs s__law_ready) (defBody s__law_ready) (defScope s__law_ready) .none kV15 dc15 pm15 an15 cd15 ct15), sl15⟩) (c15 : PySem.W.codeIn K cd15 "_law_ready" = true) (k15 : PySem.W.keepIn K (.ref f15) = true)
    (a16 : PySem.W.nsIn K mainGlobals "_law_orders" = some (some (.ref f16))) (l16 : K.lookup f16 = some ⟨oc16, od16, .func (PySem.W.fnOf "_law_orders" "_law_orders" (defArgs s__law_orders) (defBody s__law_orders) (defScope s__law_orders) .none kV16 dc16 pm16 an16 cd16 ct16), sl16⟩) (c16 : PySem.W.codeIn K cd16 "_law_orders" = true) (k16 : PySem.W.keepIn K (.ref f16) = true)
    (a17 : PySem.W.nsIn K mainGlobals "_law_due" = some (some (.ref f17))) (l17 : K.lookup f17 = some ⟨oc17, od17, .func (PySem.W.fnOf "_law_due" "_law_due" (defArgs s__law_due) (defBody s__law_due) (defScope s__law_due) .none kV17 dc17 pm17 an17 cd17 ct17), sl17⟩) (c17 : PySem.W.codeIn K cd17 "_law_due" = true) (k17 : PySem.W.keepIn K (.ref f17) = true)
    (a18 : PySem.W.nsIn K mainGlobals "_law_told" = some (some (.ref f18))) (l18 : K.lookup f18 = some ⟨oc18, od18, .func (PySem.W.fnOf "_law_told" "_law_told" (defArgs s__law_told) (defBody s__law_told) (defScope s__law_told) .none kV18 dc18 pm18 an18 cd18 ct18), sl18⟩) (c18 : PySem.W.codeIn K cd18 "_law_told" = true) (k18 : PySem.W.keepIn K (.ref f18) = true)
    (a19 : PySem.W.nsIn K mainGlobals "law" = some (some (.ref f19))) (l19 : K.lookup f19 = some ⟨oc19, od19, .func (PySem.W.fnOf "law" "law" (defArgs s_law) (defBody s_law) (defScope s_law) .none kV19 dc19 pm19 an19 cd19 ct19), sl19⟩) (c19 : PySem.W.codeIn K cd19 "law" = true) (k19 : PySem.W.keepIn K (.ref f19) = true)
    (z1 : PySem.W.nsIn K mainGlobals "all" = some none)
    (z2 : PySem.W.nsIn K mainGlobals "bool" = some none)
    (z3 : PySem.W.nsIn K mainGlobals "enumerate" = some none)
    (z4 : PySem.W.nsIn K mainGlobals "int" = some none)
    (z5 : PySem.W.nsIn K mainGlobals "isinstance" = some none)
    (z6 : PySem.W.nsIn K mainGlobals "len" = some none)
    (z7 : PySem.W.nsIn K mainGlobals "list" = some none)
    (z8 : PySem.W.nsIn K mainGlobals "max" = some none)
    (z9 : PySem.W.nsIn K mainGlobals "range" = some none)
    (z10 : PySem.W.nsIn K mainGlobals "sorted" = some none)
    (z11 : PySem.W.nsIn K mainGlobals "str" = some none)
    (z12 : PySem.W.nsIn K mainGlobals "sum" = some none)
    (z13 : PySem.W.nsIn K mainGlobals "tuple" = some none)
    (z14 : PySem.W.nsIn K mainGlobals "zip" = some none)
    (ca_Bits : PySem.W.nsIn K mainGlobals "Bits" = some (some (.ref c_Bits)))
    (pg_Bits : PySem.W.plainGet K c_Bits Str.empty = true) (hd_Bits : PySem.W.hasDictIn K c_Bits = true) (po_Bits : PySem.W.plainOver K c_Bits = true) (sa_Bits : PySem.W.findIn K (.ref c_Bits) "__setattr__" = some (some (.builtin "object.__setattr__"))) (mk_Bits : PySem.W.makesIn K c_Bits = true) (kc_Bits : PySem.W.keepIn K (.ref c_Bits) = true)
    (n_Bits_row : PySem.W.findIn K (.ref c_Bits) "row" = some none)
    (n_Bits_place : PySem.W.findIn K (.ref c_Bits) "place" = some none)
    (a20 : PySem.W.findIn K (.ref c_Bits) "__init__" = some (some (.ref f20))) (i20 : PySem.W.isFn K (.ref f20) = true) (l20 : K.lookup f20 = some ⟨oc20, od20, .func (PySem.W.fnOf "__init__" "Bits.__init__" (defArgs s_Bits___init__) (defBody s_Bits___init__) (defScope s_Bits___init__) .none kV20 dc20 pm20 an20 cd20 ct20), sl20⟩) (c20 : PySem.W.codeIn K cd20 "Bits.__init__" = true) (k20 : PySem.W.keepIn K (.ref f20) = true)
    (a21 : PySem.W.findIn K (.ref c_Bits) "take" = some (some (.ref f21))) (i21 : PySem.W.isFn K (.ref f21) = true) (l21 : K.lookup f21 = some ⟨oc21, od21, .func (PySem.W.fnOf "take" "Bits.take" (defArgs s_Bits_take) (defBody s_Bits_take) (defScope s_Bits_take) .none kV21 dc21 pm21 an21 cd21 ct21), sl21⟩) (c21 : PySem.W.codeIn K cd21 "Bits.take" = true) (k21 : PySem.W.keepIn K (.ref f21) = true)
    (a22 : PySem.W.findIn K (.ref c_Bits) "used" = some (some (.ref f22))) (i22 : PySem.W.isFn K (.ref f22) = true) (l22 : K.lookup f22 = some ⟨oc22, od22, .func (PySem.W.fnOf "used" "Bits.used" (defArgs s_Bits_used) (defBody s_Bits_used) (defScope s_Bits_used) .none kV22 dc22 pm22 an22 cd22 ct22), sl22⟩) (c22 : PySem.W.codeIn K cd22 "Bits.used" = true) (k22 : PySem.W.keepIn K (.ref f22) = true)
    (a23 : PySem.W.findIn K (.ref c_Bits) "left" = some (some (.ref f23))) (i23 : PySem.W.isFn K (.ref f23) = true) (l23 : K.lookup f23 = some ⟨oc23, od23, .func (PySem.W.fnOf "left" "Bits.left" (defArgs s_Bits_left) (defBody s_Bits_left) (defScope s_Bits_left) .none kV23 dc23 pm23 an23 cd23 ct23), sl23⟩) (c23 : PySem.W.codeIn K cd23 "Bits.left" = true) (k23 : PySem.W.keepIn K (.ref f23) = true)
    (a24 : PySem.W.findIn K (.ref c_Bits) "go_back" = some (some (.ref f24))) (i24 : PySem.W.isFn K (.ref f24) = true) (l24 : K.lookup f24 = some ⟨oc24, od24, .func (PySem.W.fnOf "go_back" "Bits.go_back" (defArgs s_Bits_go_back) (defBody s_Bits_go_back) (defScope s_Bits_go_back) .none kV24 dc24 pm24 an24 cd24 ct24), sl24⟩) (c24 : PySem.W.codeIn K cd24 "Bits.go_back" = true) (k24 : PySem.W.keepIn K (.ref f24) = true)
    (xa_NoBits : PySem.W.nsIn K mainGlobals "NoBits" = some (some (.ref e_NoBits))) (xl_NoBits : K.lookup e_NoBits = some ⟨xc_NoBits, xo_NoBits, .cls ed_NoBits, xs_NoBits⟩) (xi_NoBits : PySem.W.excIn K e_NoBits [.type "ValueError", .type "Exception", .type "BaseException", .type "object"] "ValueError.__new__" = true)
    (xm_NoBits_NoBits : ed_NoBits.mro.contains (.ref e_NoBits) = true) :
    ∃ fd : FuncData, (∀ (s : Shared) (v : Value), BindsTo s fd ⟨[v], []⟩ [("_law_script", v)]) ∧ ∀ base : Heap, K.In base → base.Ns mainGlobals mg → FnOk l.prog w K mg base CX0 14 fa fd ["_law_script"] (spLaw K) := by
  have e := hfa.symm.trans (PySem.W.mg_of X G a19)
  cases e
  have B : Bl mg := ⟨PySem.W.mg_none_of X G z1, PySem.W.mg_none_of X G z2, PySem.W.mg_none_of X G z3, PySem.W.mg_none_of X G z4, PySem.W.mg_none_of X G z5, PySem.W.mg_none_of X G z6, PySem.W.mg_none_of X G z7, PySem.W.mg_none_of X G z8, PySem.W.mg_none_of X G z9, PySem.W.mg_none_of X G z10, PySem.W.mg_none_of X G z11, PySem.W.mg_none_of X G z12, PySem.W.mg_none_of X G z13, PySem.W.mg_none_of X G z14⟩
  have C : Cn mg := ⟨trivial⟩
  have F_drawn_whole := fun_mk (st := s_drawn_whole) l1 c1 k1
  have F_pick := fun_mk (st := s_pick) l2 c2 k2
  have F_take_pick := fun_mk (st := s_take_pick) l3 c3 k3
  have F_sizes_under := fun_mk (st := s_sizes_under) l4 c4 k4
  have F_count_orders := fun_mk (st := s_count_orders) l5 c5 k5
  have F_order_under := fun_mk (st := s_order_under) l6 c6 k6
  have F_take_order_under := fun_mk (st := s_take_order_under) l7 c7 k7
  have F__law_same := fun_mk (st := s__law_same) l8 c8 k8
  have F__law_draw := fun_mk (st := s__law_draw) l9 c9 k9
  have F__law_one := fun_mk (st := s__law_one) l10 c10 k10
  have F__law_bits := fun_mk (st := s__law_bits) l11 c11 k11
  have F__law_pick := fun_mk (st := s__law_pick) l12 c12 k12
  have F__law_above := fun_mk (st := s__law_above) l13 c13 k13
  have F__law_under := fun_mk (st := s__law_under) l14 c14 k14
  have F__law_ready := fun_mk (st := s__law_ready) l15 c15 k15
  have F__law_orders := fun_mk (st := s__law_orders) l16 c16 k16
  have F__law_due := fun_mk (st := s__law_due) l17 c17 k17
  have F__law_told := fun_mk (st := s__law_told) l18 c18 k18
  have F_law := fun_mk (st := s_law) l19 c19 k19
  have F_Bits___init__ := fun_mk (st := s_Bits___init__) l20 c20 k20
  have b_Bits___init__ := F_Bits___init__.binds (ps := p_Bits___init__) fun _ _ _ _ _ _ us hl => match us, hl with | [_, _], _ => rfl
  have m_Bits___init__ : Meth K c_Bits "__init__" f20 := ⟨a20, i20, k20⟩
  have F_Bits_take := fun_mk (st := s_Bits_take) l21 c21 k21
  have b_Bits_take := F_Bits_take.binds (ps := p_Bits_take) fun _ _ _ _ _ _ us hl => match us, hl with | [_], _ => rfl
  have m_Bits_take : Meth K c_Bits "take" f21 := ⟨a21, i21, k21⟩
  have F_Bits_used := fun_mk (st := s_Bits_used) l22 c22 k22
  have b_Bits_used := F_Bits_used.binds (ps := p_Bits_used) fun _ _ _ _ _ _ us hl => match us, hl with | [_], _ => rfl
  have m_Bits_used : Meth K c_Bits "used" f22 := ⟨a22, i22, k22⟩
  have F_Bits_left := fun_mk (st := s_Bits_left) l23 c23 k23
  have b_Bits_left := F_Bits_left.binds (ps := p_Bits_left) fun _ _ _ _ _ _ us hl => match us, hl with | [_], _ => rfl
  have m_Bits_left : Meth K c_Bits "left" f23 := ⟨a23, i23, k23⟩
  have F_Bits_go_back := fun_mk (st := s_Bits_go_back) l24 c24 k24
  have b_Bits_go_back := F_Bits_go_back.binds (ps := p_Bits_go_back) fun _ _ _ _ _ _ us hl => match us, hl with | [_, _], _ => rfl
  have m_Bits_go_back : Meth K c_Bits "go_back" f24 := ⟨a24, i24, k24⟩
  have cls_Bits : Cls K c_Bits := ⟨pg_Bits, hd_Bits, po_Bits, sa_Bits⟩
  have mk_Bits : Mk K c_Bits f20 := ⟨mk_Bits, a20, i20, kc_Bits⟩
  have mgC_Bits := PySem.W.mg_of X G ca_Bits
  have X_NoBits : Exc K mg "NoBits" e_NoBits ed_NoBits.mro := ⟨PySem.W.mg_of X G xa_NoBits, xi_NoBits, _, _, _, _, xl_NoBits, rfl⟩
  have b_drawn_whole := F_drawn_whole.binds (ps := p_drawn_whole) fun _ _ _ _ _ _ us hl => match us, hl with | [_, _, _], _ => rfl
  have b_pick := F_pick.binds (ps := p_pick) fun _ _ _ _ _ _ us hl => match us, hl with | [_, _], _ => rfl
  have b_take_pick := F_take_pick.binds (ps := p_take_pick) fun _ _ _ _ _ _ us hl => match us, hl with | [_, _], _ => rfl
  have b_sizes_under := F_sizes_under.binds (ps := p_sizes_under) fun _ _ _ _ _ _ us hl => match us, hl with | [_], _ => rfl
  have b_count_orders := F_count_orders.binds (ps := p_count_orders) fun _ _ _ _ _ _ us hl => match us, hl with | [_], _ => rfl
  have b_order_under := F_order_under.binds (ps := p_order_under) fun _ _ _ _ _ _ us hl => match us, hl with | [_, _], _ => rfl
  have b_take_order_under := F_take_order_under.binds (ps := p_take_order_under) fun _ _ _ _ _ _ us hl => match us, hl with | [_, _], _ => rfl
  have b__law_same := F__law_same.binds (ps := p__law_same) fun _ _ _ _ _ _ us hl => match us, hl with | [_, _], _ => rfl
  have b__law_draw := F__law_draw.binds (ps := p__law_draw) fun _ _ _ _ _ _ us hl => match us, hl with | [_, _, _], _ => rfl
  have b__law_one := F__law_one.binds (ps := p__law_one) fun _ _ _ _ _ _ us hl => match us, hl with | [_, _, _], _ => rfl
  have b__law_bits := F__law_bits.binds (ps := p__law_bits) fun _ _ _ _ _ _ us hl => match us, hl with | [_, _, _], _ => rfl
  have b__law_pick := F__law_pick.binds (ps := p__law_pick) fun _ _ _ _ _ _ us hl => match us, hl with | [_, _, _], _ => rfl
  have b__law_above := F__law_above.binds (ps := p__law_above) fun _ _ _ _ _ _ us hl => match us, hl with | [_, _], _ => rfl
  have b__law_under := F__law_under.binds (ps := p__law_under) fun _ _ _ _ _ _ us hl => match us, hl with | [_, _], _ => rfl
  have b__law_ready := F__law_ready.binds (ps := p__law_ready) fun _ _ _ _ _ _ us hl => match us, hl with | [_, _], _ => rfl
  have b__law_orders := F__law_orders.binds (ps := p__law_orders) fun _ _ _ _ _ _ us hl => match us, hl with | [_], _ => rfl
  have b__law_due := F__law_due.binds (ps := p__law_due) fun _ _ _ _ _ _ us hl => match us, hl with | [_, _, _], _ => rfl
  have b__law_told := F__law_told.binds (ps := p__law_told) fun _ _ _ _ _ _ us hl => match us, hl with | [_, _], _ => rfl
  have b_law := F_law.binds (ps := p_law) fun _ _ _ _ _ _ us hl => match us, hl with | [_], _ => rfl
  refine ⟨PySem.W.fnOf "law" "law" (defArgs s_law) (defBody s_law) (defScope s_law) .none kV19 dc19 pm19 an19 cd19 ct19, fun s v => .of_eq rfl, fun base _ _ => ?_⟩
  have m_drawn_whole := fun {sp : Sp} {j : Nat} (O : FnOk l.prog w K mg base (CXR l.prog w) j f1 _ p_drawn_whole sp) => FnX.mk (x := "drawn_whole") O (PySem.W.mg_of X G a1) k1 b_drawn_whole
  have m_pick := fun {sp : Sp} {j : Nat} (O : FnOk l.prog w K mg base (CXR l.prog w) j f2 _ p_pick sp) => FnX.mk (x := "pick") O (PySem.W.mg_of X G a2) k2 b_pick
  have m_take_pick := fun {sp : Sp} {j : Nat} (O : FnOk l.prog w K mg base (CXR l.prog w) j f3 _ p_take_pick sp) => FnX.mk (x := "take_pick") O (PySem.W.mg_of X G a3) k3 b_take_pick
  have m_sizes_under := fun {sp : Sp} {j : Nat} (O : FnOk l.prog w K mg base CX0 j f4 _ p_sizes_under sp) => Fn.of (x := "sizes_under") O (PySem.W.mg_of X G a4) k4 b_sizes_under
  have m_count_orders := fun {sp : Sp} {j : Nat} (O : FnOk l.prog w K mg base CX0 j f5 _ p_count_orders sp) => Fn.of (x := "count_orders") O (PySem.W.mg_of X G a5) k5 b_count_orders
  have m_order_under := fun {sp : Sp} {j : Nat} (O : FnOk l.prog w K mg base (CXR l.prog w) j f6 _ p_order_under sp) => FnX.mk (x := "order_under") O (PySem.W.mg_of X G a6) k6 b_order_under
  have m_take_order_under := fun {sp : Sp} {j : Nat} (O : FnOk l.prog w K mg base (CXR l.prog w) j f7 _ p_take_order_under sp) => FnX.mk (x := "take_order_under") O (PySem.W.mg_of X G a7) k7 b_take_order_under
  have m__law_same := fun {sp : Sp} {j : Nat} (O : FnOk l.prog w K mg base CX0 j f8 _ p__law_same sp) => Fn.of (x := "_law_same") O (PySem.W.mg_of X G a8) k8 b__law_same
  have m__law_draw := fun {sp : Sp} {j : Nat} (O : FnOk l.prog w K mg base CX0 j f9 _ p__law_draw sp) => Fn.of (x := "_law_draw") O (PySem.W.mg_of X G a9) k9 b__law_draw
  have m__law_one := fun {sp : Sp} {j : Nat} (O : FnOk l.prog w K mg base CX0 j f10 _ p__law_one sp) => Fn.of (x := "_law_one") O (PySem.W.mg_of X G a10) k10 b__law_one
  have m__law_bits := fun {sp : Sp} {j : Nat} (O : FnOk l.prog w K mg base CX0 j f11 _ p__law_bits sp) => Fn.of (x := "_law_bits") O (PySem.W.mg_of X G a11) k11 b__law_bits
  have m__law_pick := fun {sp : Sp} {j : Nat} (O : FnOk l.prog w K mg base CX0 j f12 _ p__law_pick sp) => Fn.of (x := "_law_pick") O (PySem.W.mg_of X G a12) k12 b__law_pick
  have m__law_above := fun {sp : Sp} {j : Nat} (O : FnOk l.prog w K mg base CX0 j f13 _ p__law_above sp) => Fn.of (x := "_law_above") O (PySem.W.mg_of X G a13) k13 b__law_above
  have m__law_under := fun {sp : Sp} {j : Nat} (O : FnOk l.prog w K mg base CX0 j f14 _ p__law_under sp) => Fn.of (x := "_law_under") O (PySem.W.mg_of X G a14) k14 b__law_under
  have m__law_ready := fun {sp : Sp} {j : Nat} (O : FnOk l.prog w K mg base CX0 j f15 _ p__law_ready sp) => Fn.of (x := "_law_ready") O (PySem.W.mg_of X G a15) k15 b__law_ready
  have m__law_orders := fun {sp : Sp} {j : Nat} (O : FnOk l.prog w K mg base CX0 j f16 _ p__law_orders sp) => Fn.of (x := "_law_orders") O (PySem.W.mg_of X G a16) k16 b__law_orders
  have m__law_due := fun {sp : Sp} {j : Nat} (O : FnOk l.prog w K mg base CX0 j f17 _ p__law_due sp) => Fn.of (x := "_law_due") O (PySem.W.mg_of X G a17) k17 b__law_due
  have m__law_told := fun {sp : Sp} {j : Nat} (O : FnOk l.prog w K mg base CX0 j f18 _ p__law_told sp) => Fn.of (x := "_law_told") O (PySem.W.mg_of X G a18) k18 b__law_told
  have q_draw := m__law_draw (ok__law_draw F__law_draw B)
  have q_one := m__law_one (ok__law_one F__law_one B q_draw)
  have q_bits := m__law_bits (ok__law_bits F__law_bits B q_draw)
  have q_s0 := m__law_same (ok__law_same0 (sp := spSame 0) (fun _ _ _ _ ⟨_, _, _, h, _⟩ => h))
  have q_s1 := m__law_same (ok__law_same1 F__law_same B q_s0)
  have q_s2 := m__law_same (ok__law_same1 F__law_same B q_s1)
  have T : Txt K mg c_Bits _ _ _ _ _ _ _ _ _ _ := ⟨cls_Bits, n_Bits_row, n_Bits_place, mgC_Bits, mk_Bits, m_Bits_take, m_Bits_used, m_Bits_left, m_Bits_go_back, b_Bits___init__, b_Bits_take, b_Bits_used, b_Bits_left, b_Bits_go_back⟩
  have q_init := ok_init (P := l.prog) (w := w) (base := base) F_Bits___init__ B T
  have q_used := ok_used (P := l.prog) (w := w) (base := base) F_Bits_used T
  have q_left := ok_left (P := l.prog) (w := w) (base := base) F_Bits_left B T
  have q_take := (ok_take (P := l.prog) (w := w) (base := base) F_Bits_take T X_NoBits q_left).imp take_imp
  have q_goH := okH_go_back (P := l.prog) (w := w) (base := base) F_Bits_go_back T
  have q_dw := m_drawn_whole (ok_drawn_whole (k0 := 3) F_drawn_whole T X_NoBits xm_NoBits_NoBits q_used q_goH)
  have q_dw2 := m_drawn_whole (ok_drawn_whole (k0 := 6) F_drawn_whole T X_NoBits xm_NoBits_NoBits q_used q_goH)
  have q_tp := m_take_pick (ok_take_pick F_take_pick B T q_take)
  have q_pk := m_pick (ok_pick F_pick B q_dw q_tp)
  have q_lp := m__law_pick (ok__law_pick F__law_pick B)
  have q_sz := m_sizes_under (ok_sizes_under F_sizes_under B)
  have q_co := m_count_orders (ok_count_orders F_count_orders B q_sz)
  have q_to := m_take_order_under (ok_take_order_under F_take_order_under B q_sz q_pk)
  have q_ou := m_order_under (ok_order_under F_order_under B q_dw2 q_to)
  have q_ab := m__law_above (ok__law_above F__law_above B q_draw q_one)
  have q_un := m__law_under (und_all F__law_under B m__law_under 6)
  have q_rd := m__law_ready (ok__law_ready F__law_ready B)
  have q_or := m__law_orders (ok__law_orders F__law_orders B q_rd q_un)
  have q_du := m__law_due ((ok__law_due F__law_due B q_rd q_lp q_un).imp due_imp)
  have q_tl := m__law_told ((ok__law_told F__law_told X_NoBits xm_NoBits_NoBits q_ou).imp told_imp)
  exact ok_law F_law B T q_bits q_ab q_init q_used q_du q_tl q_or q_co q_s2
theorem walk {l : PySem.W.OpenLaw} {q : Program} {loose : List Str} {XP : (Str → Option Value) → Heap → Prop} {YP : World → Heap → Prop} {d : DefRec} {K : Params → PySem.W.Frag} (hn : l.most = some 63) (hdf : d.params.defaults = [])
    (hY : ∀ (w : World) (h : Heap), YP w h → (K w.params).In h)
    (F : ∀ (w : World) (mg : Str → Option Value) (fa : Addr) (h : Heap), (K w.params).In h → h.Ns mainGlobals mg → mg d.name = some (.ref fa) →
      ∃ fd : FuncData, (∀ (s : Shared) (u : Value), BindsTo s fd ⟨[u], []⟩ [("_law_script", u)]) ∧ ∀ base : Heap, (K w.params).In base → base.Ns mainGlobals mg → FnOk l.prog w (K w.params) mg base CX0 14 fa fd ["_law_script"] (spLaw (K w.params))) :
    PySem.W.WalkO q loose XP YP l.row.toRowW d [] (fun f vs => PySem.call f vs) :=
  L2.walk_of (n := 63) (k := 14) (x := "_law_script") (CX := fun _ => CX0) (sp := fun w => spLaw (K w.params)) hn (by decide) hdf ⟨rfl, by decide, by decide⟩ hY F (fun _ _ a ns hl hO hS => ⟨a, ns, rfl, Scr.of hS hO, hl, fun _ => rfl⟩) fun _ _ _ _ _ z => z
end Lw
open PySem PySem.W PyProof.Rows
set_option maxRecDepth 100000 in
set_option maxHeartbeats 0 in
theorem PySem.Challenge.cw_bitdraws_k28_whole_orders_under_holds : PySem.Challenge.rw_bitdraws_k28_whole_orders_under.Holds := by
  w_on; o_law; k_head; (case hw => w_witness2)
  k_fill
  refine Lw.walk (l := PySem.Challenge.rw_bitdraws_k28_whole_orders_under) rfl rfl (fun w h Y => PySem.W.kIn_of Y) ?F
  case F =>
    intro w mg fa h KX G hmg
    refine' Lw.all_mk KX G hmg ?a1 ?l1 ?c1 ?k1 ?a2 ?l2 ?c2 ?k2 ?a3 ?l3 ?c3 ?k3 ?a4 ?l4 ?c4 ?k4 ?a5 ?l5 ?c5 ?k5 ?a6 ?l6 ?c6 ?k6 ?a7 ?l7 ?c7 ?k7 ?a8 ?l8 ?c8 ?k8 ?a9 ?l9 ?c9 ?k9 ?a10 ?l10 ?c10 ?k10 ?a11 ?l11 ?c11 ?k11 ?a12 ?l12 ?c12 ?k12 ?a13 ?l13 ?c13 ?k13 ?a14 ?l14 ?c14 ?k14 ?a15 ?l15 ?c15 ?k15 ?a16 ?l16 ?c16 ?k16 ?a17 ?l17 ?c17 ?k17 ?a18 ?l18 ?c18 ?k18 ?a19 ?l19 ?c19 ?k19 ?z1 ?z2 ?z3 ?z4 ?z5 ?z6 ?z7 ?z8 ?z9 ?z10 ?z11 ?z12 ?z13 ?z14 ?ca_Bits ?pg_Bits ?hd_Bits ?po_Bits ?sa_Bits ?mk_Bits ?kc_Bits ?n_Bits_row ?n_Bits_place ?a20 ?i20 ?l20 ?c20 ?k20 ?a21 ?i21 ?l21 ?c21 ?k21 ?a22 ?i22 ?l22 ?c22 ?k22 ?a23 ?i23 ?l23 ?c23 ?k23 ?a24 ?i24 ?l24 ?c24 ?k24 ?xa_NoBits ?xl_NoBits ?xi_NoBits ?xm_NoBits_NoBits
    (case a1 => k_is)
    (case l1 => k_is)
    (case c1 => k_is)
    (case k1 => k_is)
    (case a2 => k_is)
    (case l2 => k_is)
    (case c2 => k_is)
    (case k2 => k_is)
    (case a3 => k_is)
    (case l3 => k_is)
    (case c3 => k_is)
    (case k3 => k_is)
    (case a4 => k_is)
    (case l4 => k_is)
    (case c4 => k_is)
    (case k4 => k_is)
    (case a5 => k_is)
    (case l5 => k_is)
    (case c5 => k_is)
    (case k5 => k_is)
    (case a6 => k_is)
    (case l6 => k_is)
    (case c6 => k_is)
    (case k6 => k_is)
    (case a7 => k_is)
    (case l7 => k_is)
    (case c7 => k_is)
    (case k7 => k_is)
    (case a8 => k_is)
    (case l8 => k_is)
    (case c8 => k_is)
    (case k8 => k_is)
    (case a9 => k_is)
    (case l9 => k_is)
    (case c9 => k_is)
    (case k9 => k_is)
    (case a10 => k_is)
    (case l10 => k_is)
    (case c10 => k_is)
    (case k10 => k_is)
    (case a11 => k_is)
    (case l11 => k_is)
    (case c11 => k_is)
    (case k11 => k_is)
    (case a12 => k_is)
    (case l12 => k_is)
    (case c12 => k_is)
    (case k12 => k_is)
    (case a13 => k_is)
    (case l13 => k_is)
    (case c13 => k_is)
    (case k13 => k_is)
    (case a14 => k_is)
    (case l14 => k_is)
    (case c14 => k_is)
    (case k14 => k_is)
    (case a15 => k_is)
    (case l15 => k_is)
    (case c15 => k_is)
    (case k15 => k_is)
    (case a16 => k_is)
    (case l16 => k_is)
    (case c16 => k_is)
    (case k16 => k_is)
    (case a17 => k_is)
    (case l17 => k_is)
    (case c17 => k_is)
    (case k17 => k_is)
    (case a18 => k_is)
    (case l18 => k_is)
    (case c18 => k_is)
    (case k18 => k_is)
    (case a19 => k_is)
    (case l19 => k_is)
    (case c19 => k_is)
    (case k19 => k_is)
    (case z1 => k_is)
    (case z2 => k_is)
    (case z3 => k_is)
    (case z4 => k_is)
    (case z5 => k_is)
    (case z6 => k_is)
    (case z7 => k_is)
    (case z8 => k_is)
    (case z9 => k_is)
    (case z10 => k_is)
    (case z11 => k_is)
    (case z12 => k_is)
    (case z13 => k_is)
    (case z14 => k_is)
    (case ca_Bits => k_is)
    (case pg_Bits => k_is)
    (case hd_Bits => k_is)
    (case po_Bits => k_is)
    (case sa_Bits => k_is)
    (case mk_Bits => k_is)
    (case kc_Bits => k_is)
    (case n_Bits_row => k_is)
    (case n_Bits_place => k_is)
    (case a20 => k_is)
    (case i20 => k_is)
    (case l20 => k_is)
    (case c20 => k_is)
    (case k20 => k_is)
    (case a21 => k_is)
    (case i21 => k_is)
    (case l21 => k_is)
    (case c21 => k_is)
    (case k21 => k_is)
    (case a22 => k_is)
    (case i22 => k_is)
    (case l22 => k_is)
    (case c22 => k_is)
    (case k22 => k_is)
    (case a23 => k_is)
    (case i23 => k_is)
    (case l23 => k_is)
    (case c23 => k_is)
    (case k23 => k_is)
    (case a24 => k_is)
    (case i24 => k_is)
    (case l24 => k_is)
    (case c24 => k_is)
    (case k24 => k_is)
    (case xa_NoBits => k_is)
    (case xl_NoBits => k_is)
    (case xi_NoBits => first | kernel_rfl | rfl | decide +kernel | k_is)
    (case xm_NoBits_NoBits => first | kernel_rfl | rfl | decide +kernel | k_is)
