import PyProof.Rows.All
import Wide.All
import OpenK.AllK
import Wide.FinOn
import Lean
import PyProof.EqAt
import PyProof.EqKinds
import PyProof.TupleCall
import PyProof.EnumMake
import PyProof.ZipIter
import PyProof.NeKinds
import PyProof.Rows.SortWalk
import PyProof.AttrMiss
import PyProof.IsiH_list
import KE.KDictOf
import PyProof.Draws
import PyProof.StrCalls
import PyProof.StrCalls2
import PyProof.FString5
import PySem.Challenge.RW_bitdraws_k42_whole_one_number_for_all
set_option Elab.async false
set_option linter.all false
set_option maxRecDepth 100000
namespace L2
open PySem PySem.Spec PyProof.Rows
noncomputable abbrev Key := Sum Int Str
noncomputable def keyIs : Key → Value → Bool
  | .inl k, v => Value.isInt k v
  | .inr x, v => Value.isStrOf x v
noncomputable def keyH (w : World) : Key → Int
  | .inl k => hashInt k
  | .inr x => hashStr w x
theorem keyIs_shape : ∀ {k : Key} {v : Value}, keyIs k v = true → (∃ i t, k = Sum.inl i ∧ v = Value.int i t) ∨ (∃ x t, k = Sum.inr x ∧ v = Value.str x t)
  | .inl i, v, h => by
    obtain ⟨t, e⟩ := Value.isInt_shape (k := i) (v := v) h
    exact .inl ⟨i, t, rfl, e⟩
  | .inr x, v, h => by
    obtain ⟨t, e⟩ := Value.isStrOf_shape (x := x) (v := v) h
    exact .inr ⟨x, t, rfl, e⟩
theorem keyIs_int (i : Int) (t : Tok) : keyIs (.inl i) (.int i t) = true := by simp [keyIs, Value.isInt]
theorem keyIs_str (x : Str) (t : Tok) : keyIs (.inr x) (.str x t) = true := by simp [keyIs, Value.isStrOf]
theorem key_ll (a b : Int) : decide ((Sum.inl a : Key) = Sum.inl b) = (a == b) := by
  by_cases e : a = b
  · subst e; simp
  · have h : ¬ (Sum.inl a : Key) = Sum.inl b := fun q => e (Sum.inl.inj q)
    rw [decide_eq_false h]
    exact (beq_eq_false_iff_ne.mpr e).symm
theorem key_rr (a b : Str) : decide ((Sum.inr a : Key) = Sum.inr b) = decide (a = b) := by
  by_cases e : a = b
  · subst e; simp
  · have h : ¬ (Sum.inr a : Key) = Sum.inr b := fun q => e (Sum.inr.inj q)
    rw [decide_eq_false h, decide_eq_false e]
theorem key_lr (a : Int) (b : Str) : decide ((Sum.inl a : Key) = Sum.inr b) = false := decide_eq_false (fun q => nomatch q)
theorem key_rl (a : Str) (b : Int) : decide ((Sum.inr a : Key) = Sum.inl b) = false := decide_eq_false (fun q => nomatch q)
noncomputable def mixKind (prog : Program) (w : World) : PySem.KeyKind prog w Key where
  is := keyIs
  hash := keyH w
  inj := fun v a b ha hb => by
    rcases keyIs_shape ha with ⟨i, t, rfl, rfl⟩ | ⟨x, t, rfl, rfl⟩
    · rcases keyIs_shape hb with ⟨j, u, rfl, e⟩ | ⟨y, u, rfl, e⟩
      · injection e with e1 _; rw [e1]
      · exact nomatch e
    · rcases keyIs_shape hb with ⟨j, u, rfl, e⟩ | ⟨y, u, rfl, e⟩
      · exact nomatch e
      · injection e with e1 _; rw [e1]
  byValue := fun k v h => by
    rcases keyIs_shape h with ⟨i, t, rfl, rfl⟩ | ⟨x, t, rfl, rfl⟩ <;> rfl
  pyHash := fun hv h => by
    rcases keyIs_shape hv with ⟨i, t, rfl, rfl⟩ | ⟨x, t, rfl, rfl⟩
    · exact wpAny_pyHash_int h
    · exact wpAny_pyHash_str h
  eqBool := fun hu hv h => by
    rcases keyIs_shape hu with ⟨i, t, rfl, rfl⟩ | ⟨x, t, rfl, rfl⟩
    · rcases keyIs_shape hv with ⟨j, u, rfl, rfl⟩ | ⟨y, u, rfl, rfl⟩
      · rw [key_ll] at h; exact wpAny_eqBool_int h
      · rw [key_lr] at h; exact SeqAt.EqAt.int_str i t y u _ _ _ _ h
    · rcases keyIs_shape hv with ⟨j, u, rfl, rfl⟩ | ⟨y, u, rfl, rfl⟩
      · rw [key_rl] at h; exact SeqAt.EqAt.str_int x t j u _ _ _ _ h
      · rw [key_rr] at h; exact wpAny_eqBool_str h
  «strs» := fun k x t v h => by
    rcases keyIs_shape h with ⟨i, u, rfl, e⟩ | ⟨y, u, rfl, e⟩
    · exact nomatch e
    · injection e with e1 _
      subst e1
      cases v <;> rfl
theorem mixKind_int (prog : Program) (w : World) (i : Int) (t : Tok) : (mixKind prog w).is (.inl i) (.int i t) = true := keyIs_int i t
theorem mixKind_str (prog : Program) (w : World) (x : Str) (t : Tok) : (mixKind prog w).is (.inr x) (.str x t) = true := keyIs_str x t
end L2
namespace L2
open PySem PySem.Spec PyProof.Rows
inductive V where
  | non | bl (b : Bool) | int (i : Int) | str (x : Str) | byt (b : Array UInt8) | flt (b : UInt64) | ref (a : Addr) | ty (n : String)
  deriving DecidableEq
noncomputable def RelV : V → Value → Prop
  | .non, u => u = Value.none
  | .bl b, u => u = Value.bool b
  | .int i, u => ∃ t, u = Value.int i t
  | .str x, u => ∃ t, u = Value.str x t
  | .byt b, u => ∃ t, u = Value.bytes b t
  | .flt b, u => ∃ t, u = Value.float b t
  | .ref a, u => u = Value.ref a
  | .ty n, u => u = Value.type n
noncomputable abbrev Vals : List V → List Value → Prop := Paired RelV
theorem Vals.length {xs : List V} {us : List Value} (r : Vals xs us) : xs.length = us.length := Paired.length r
theorem Vals.get : ∀ {xs : List V} {us : List Value} {i : Nat} {x : V}, Vals xs us → xs[i]? = some x → ∃ u, us[i]? = some u ∧ RelV x u
  | _, _, _, _, .nil, e => by simp at e
  | _, _, 0, _, .cons r _, e => by simp at e; subst e; exact ⟨_, rfl, r⟩
  | _, _, i + 1, x, .cons _ t, e => by
    obtain ⟨u, h1, h2⟩ := Vals.get (i := i) (x := x) t (by simpa using e)
    exact ⟨u, by simpa using h1, h2⟩
theorem Vals.set {x : V} {u : Value} (r : RelV x u) : ∀ {xs : List V} {us : List Value} (i : Nat), Vals xs us → Vals (xs.set i x) (us.set i u)
  | _, _, _, .nil => .nil
  | _, _, 0, .cons _ t => .cons r t
  | _, _, i + 1, .cons q t => .cons q (Vals.set r i t)
theorem Vals.append : ∀ {xs ys : List V} {us ws : List Value}, Vals xs us → Vals ys ws → Vals (xs ++ ys) (us ++ ws)
  | _, _, _, _, .nil, s => s
  | _, _, _, _, .cons r t, s => .cons r (Vals.append t s)
theorem Vals.take : ∀ {xs : List V} {us : List Value} (n : Nat), Vals xs us → Vals (xs.take n) (us.take n)
  | _, _, 0, _ => .nil
  | _, _, _ + 1, .nil => .nil
  | _, _, n + 1, .cons r t => .cons r (Vals.take n t)
theorem Vals.drop : ∀ {xs : List V} {us : List Value} (n : Nat), Vals xs us → Vals (xs.drop n) (us.drop n)
  | _, _, 0, r => r
  | _, _, _ + 1, .nil => .nil
  | _, _, n + 1, .cons _ t => Vals.drop n t
theorem Vals.none_of : ∀ {xs : List V} {us : List Value} {i : Nat}, Vals xs us → xs[i]? = none → us[i]? = none := fun {xs us i} r e => by
  have h1 := r.length
  have h2 : xs.length ≤ i := List.getElem?_eq_none_iff.mp e
  exact List.getElem?_eq_none_iff.mpr (by omega)
noncomputable def RelO : Option V → Option Value → Prop
  | some v, some u => RelV v u
  | none, none => True
  | _, _ => False
noncomputable def KV {κ : Type} : List (κ × V) → List (κ × Value) → Prop := Paired fun (p : κ × V) (q : κ × Value) => p.1 = q.1 ∧ RelV p.2 q.2
noncomputable def kV : Key → V
  | .inl i => .int i
  | .inr x => .str x
inductive HO where
  /-- a list -/
  | lst (xs : List V)
  /-- a tuple (never changes) -/
  | tup (xs : List V)
  /-- a dict whose keys are ints and texts; one whose keys are tuples of ints and texts (the empty one is both) -/
  | dK (kvs : List (Key × V)) | dT (kvs : List (List Key × V))
  /-- a set of ints: its members, its size -/
  | set (S : Int → Bool) (n : Nat)
  /-- an instance of the class at C, its dict at dx, its attributes -/
  | ins (C dx : Addr) (fs : List (Str × V))
  /-- the dict of the instance at x -/
  | own (x : Addr)
  /-- the dict of an exception -/
  | xd (fs : List (Str × V))
  /-- a bound method, f of x -/
  | met (f x : Addr)
  /-- a range object lo, lo + 1, .. below hi -/
  | rng (lo hi : Int)
  /-- a thing that is known to the object (the script; a dict while a loop walks it): read, never written while it is so -/
  | frz (o : Obj) (u : HO)
  /-- a code object's table -/
  | tbl (ps : Array Value)
  /-- any other thing, by what is true of its one object (a def of one's own: SetO a S n := HO.ext fun h => ..) -/
  | ext (φ : Heap → Prop)
noncomputable abbrev Hp := Addr → Option HO
noncomputable def upd (H : Hp) (a : Addr) (o : HO) : Hp := fun b => if b = a then some o else H b
theorem upd_same {H : Hp} {a : Addr} {o : HO} : upd H a o a = some o := by unfold upd; rw [if_pos rfl]
theorem upd_ne {H : Hp} {a b : Addr} {o : HO} (h : b ≠ a) : upd H a o b = H b := by unfold upd; rw [if_neg h]
theorem upd_upd {H : Hp} {a : Addr} {o u : HO} : upd (upd H a o) a u = upd H a u := by
  funext b; unfold upd; split <;> rfl
theorem ne_of {H : Hp} {a b : Addr} {o u : HO} (h : H a = some o) (h' : H b = some u) (d : o ≠ u) : a ≠ b := by
  intro e; subst e; rw [h] at h'; exact d (Option.some.inj h')
theorem ne_of_none {H : Hp} {a b : Addr} {o : HO} (h : H a = some o) (h' : H b = none) : a ≠ b := by
  intro e; subst e; rw [h] at h'; cases h'
section
variable (P : Program) (w : World)
noncomputable def ObjOk (H : Hp) (h : Heap) (a : Addr) : HO → Prop
  | .lst xs => xs.length ≤ sizeLine ∧ ∃ (its : List Value) (n : Nat), Vals xs its ∧ h.get? a = some { cls := .type "list", data := .seq its.toArray n }
  | .tup xs => xs.length ≤ sizeLine ∧ ∃ its : List Value, Vals xs its ∧ IsTup h a its.toArray ∧ ∃ ob, h.get? a = some ob ∧ ob.dict = none
  | .dK kvs => kvs.length ≤ sizeLine ∧ (a == sysModules) = false ∧ ∃ vs, KV kvs vs ∧ h.DictOf (mixKind P w) a vs
  | .dT kvs => kvs.length ≤ sizeLine ∧ (a == sysModules) = false ∧ ∃ xs : List (List Key × Addr × Value),
      Paired (fun (p : List Key × V) (q : List Key × Addr × Value) => p.1 = q.1 ∧ H q.2.1 = some (.tup (p.1.map kV)) ∧ RelV p.2 q.2.2) kvs xs ∧
      ∃ o es ep, h.get? a = some o ∧ o.ExactDict ∧ o.data = .dict es ep ∧ es.toList = xs.map (entryOfKey (tupleKind (mixKind P w))) ∧ (xs.map (·.1)).Nodup
  | .set S n => h.SetOf (intKind P w) a S n
  | .ins C dx fs => H dx = some (.own a) ∧ fs.length ≤ 1000 ∧ dx ≠ a ∧ h.get? a = some (PySem.W.instObj C dx) ∧
      ∃ mA, h.Ns1 dx mA ∧ (∀ f, RelO (fs.lookup f) (mA f)) ∧ PySem.Within mA (fs.map (·.1))
  | .own _ => ∃ o, h.get? a = some o
  | .xd fs => ∃ mA, h.Ns1 a mA ∧ ∀ f, RelO (fs.lookup f) (mA f)
  | .rng lo hi => ∃ t u v, h.get? a = some { cls := .type "range", data := .fields #[.int lo t, .int hi u, .int 1 v] }
  | .frz o u => h.get? a = some o ∧ ObjOk H h a u
  | .tbl ps => h.get? a = some { cls := .none, data := .fields ps }
  | .met f x => h.get? a = some (PySem.W.methodObj (.ref f) (.ref x))
  | .ext φ => φ h ∧ (∃ o, h.get? a = some o) ∧ ∀ h1 h2 : Heap, φ h1 → (∀ o, h1.get? a = some o → h2.get? a = some o) → φ h2
noncomputable def HOk (H : Hp) (h : Heap) : Prop := ∀ a o, H a = some o → ObjOk P w H h a o
end
section
variable {P : Program} {w : World} {H H' : Hp} {h h' : Heap} {a : Addr} {o : HO}
theorem ObjOk.lt (x : ObjOk P w H h a o) : a < h.objs.size := by
  cases o with
  | lst xs => obtain ⟨_, _, _, _, e⟩ := x; exact Heap.lt_size e
  | tup xs => obtain ⟨_, _, _, p, _⟩ := x; exact p.lt
  | dK kvs => obtain ⟨_, _, _, _, o, _, _, e, _⟩ := x; exact Heap.lt_size e
  | dT kvs => obtain ⟨_, _, _, _, o, _, _, e, _⟩ := x; exact Heap.lt_size e
  | set S n => obtain ⟨o, _, _, _, e, _⟩ := x; exact Heap.lt_size e
  | ins C dx fs => obtain ⟨_, _, _, e, _⟩ := x; exact Heap.lt_size e
  | own y => obtain ⟨_, e⟩ := x; exact Heap.lt_size e
  | xd fs => obtain ⟨_, ⟨_, _, _, e, _⟩, _⟩ := x; exact Heap.lt_size e
  | rng lo hi => obtain ⟨_, _, _, e⟩ := x; exact Heap.lt_size e
  | frz ob u => obtain ⟨e, _⟩ := x; exact Heap.lt_size e
  | tbl ps => exact Heap.lt_size (show h.get? a = some _ from x)
  | met f y => exact Heap.lt_size (show h.get? a = some _ from x)
  | ext φ => obtain ⟨_, ⟨_, e⟩, _⟩ := x; exact Heap.lt_size e
theorem Paired.mapP {α β : Type} {F G : α → β → Prop} : ∀ {l₁ : List α} {l₂ : List β}, Paired F l₁ l₂ → (∀ a b, F a b → G a b) → Paired G l₁ l₂
  | _, _, .nil, _ => .nil
  | _, _, .cons r t, f => .cons (f _ _ r) (Paired.mapP t f)
theorem ObjOk.stay (x : ObjOk P w H h a o) (k : ∀ b u, (b = a ∨ H b = some (.own a)) → h.get? b = some u → h'.get? b = some u)
    (ho : ∀ b, H b = some (.own a) → H' b = some (.own a)) (ht : ∀ b xs, H b = some (.tup xs) → H' b = some (.tup xs)) : ObjOk P w H' h' a o := by
  induction o with
  | lst xs => obtain ⟨z, its, n, r, e⟩ := x; exact ⟨z, its, n, r, k _ _ (.inl rfl) e⟩
  | tup xs => obtain ⟨z, its, r, ⟨ob, e, c⟩, od, ed, dd⟩ := x; exact ⟨z, its, r, ⟨ob, k _ _ (.inl rfl) e, c⟩, od, k _ _ (.inl rfl) ed, dd⟩
  | dK kvs => obtain ⟨z, y, vs, r, ob, es, ep, e, c⟩ := x; exact ⟨z, y, vs, r, ob, es, ep, k _ _ (.inl rfl) e, c⟩
  | dT kvs =>
    obtain ⟨z, y, xs, r, ob, es, ep, e, c⟩ := x
    exact ⟨z, y, xs, Paired.mapP r fun p q z => ⟨z.1, ht _ _ z.2.1, z.2.2⟩, ob, es, ep, k _ _ (.inl rfl) e, c⟩
  | set S n => obtain ⟨ob, es, ep, t, e, c⟩ := x; exact ⟨ob, es, ep, t, k _ _ (.inl rfl) e, c⟩
  | ins C dx fs =>
    obtain ⟨d, z, ne, e, mA, ⟨od, es, ep, e2, c⟩, r⟩ := x
    exact ⟨ho _ d, z, ne, k _ _ (.inl rfl) e, mA, ⟨od, es, ep, k _ _ (.inr d) e2, c⟩, r⟩
  | own y => obtain ⟨ob, e⟩ := x; exact ⟨ob, k _ _ (.inl rfl) e⟩
  | xd fs => obtain ⟨mA, ⟨od, es, ep, e, c⟩, r⟩ := x; exact ⟨mA, ⟨od, es, ep, k _ _ (.inl rfl) e, c⟩, r⟩
  | rng lo hi => obtain ⟨t, u, v, e⟩ := x; exact ⟨t, u, v, k _ _ (.inl rfl) e⟩
  | frz ob u ih => obtain ⟨e, q⟩ := x; exact ⟨k _ _ (.inl rfl) e, ih q⟩
  | tbl ps =>
    have e : h.get? a = some { cls := .none, data := .fields ps } := x
    show h'.get? a = some { cls := .none, data := .fields ps }
    exact k a _ (.inl rfl) e
  | met f y =>
    have e : h.get? a = some (PySem.W.methodObj (.ref f) (.ref y)) := x
    show h'.get? a = some (PySem.W.methodObj (.ref f) (.ref y))
    exact k a _ (.inl rfl) e
  | ext φ => obtain ⟨p, ⟨o, e⟩, st⟩ := x; exact ⟨st _ _ p fun o q => k _ _ (.inl rfl) q, ⟨o, k _ _ (.inl rfl) e⟩, st⟩
theorem HOk.lt (x : HOk P w H h) (e : H a = some o) : a < h.objs.size := (x a o e).lt
theorem HOk.fresh (x : HOk P w H h) (e : h.objs.size ≤ a) : H a = none := by
  cases q : H a with
  | none => rfl
  | some u => exact absurd (Nat.lt_of_lt_of_le (x.lt q) e) (Nat.lt_irrefl _)
theorem HOk.kept (x : HOk P w H h) (k : ∀ b u, h.get? b = some u → h'.get? b = some u) : HOk P w H h' := fun a o e =>
  (x a o e).stay (fun b u _ q => k b u q) (fun _ q => q) fun _ _ q => q
theorem HOk.laid (x : HOk P w H h) (k : ∀ b u, h.get? b = some u → h'.get? b = some u) (hp : h.objs.size ≤ a) (new : ObjOk P w (upd H a o) h' a o) : HOk P w (upd H a o) h' := fun b u e => by
  have hn := x.fresh hp
  by_cases hb : b = a
  · subst hb; rw [upd_same] at e; cases e; exact new
  · rw [upd_ne hb] at e
    exact (x b u e).stay (fun c v _ q => k c v q) (fun c q => by rw [upd_ne (ne_of_none q hn)]; exact q) fun c xs q => by rw [upd_ne (ne_of_none q hn)]; exact q
end
noncomputable def Rd (H : Hp) (a : Addr) (u : HO) : Prop := H a = some u ∨ ∃ o, H a = some (.frz o u)
theorem Rd.of {H : Hp} {a : Addr} {u : HO} (h : H a = some u) : Rd H a u := .inl h
theorem Rd.ok {P : Program} {w : World} {H : Hp} {h : Heap} {a : Addr} {u : HO} (r : Rd H a u) (x : HOk P w H h) : ObjOk P w H h a u := by
  rcases r with r | ⟨o, r⟩
  · exact x a u r
  · obtain ⟨_, q⟩ := x a _ r
    exact q
noncomputable def Mut : Option HO → Prop
  | some (.lst _) => True
  | some (.dK _) => True
  | some (.dT _) => True
  | some (.set _ _) => True
  | some (.ins _ _ _) => True
  | some (.ext _) => True
  | _ => False
section
variable {P : Program} {w : World} {H : Hp} {h h' : Heap} {x e : Addr} {o' : HO}
theorem HOk.write (ok : HOk P w H h) (mu : Mut (H x)) (he : e = x ∨ H e = some (.own x)) (k : ∀ b u, b ≠ e → h.get? b = some u → h'.get? b = some u) (heo : ∃ u, h'.get? e = some u)
    (new : ObjOk P w (upd H x o') h' x o') : HOk P w (upd H x o') h' := fun b u q => by
  have nown : ∀ c y, H c = some (.own y) → c ≠ x := fun c y r z => by subst z; rw [r] at mu; exact mu
  have ntup : ∀ c xs, H c = some (.tup xs) → c ≠ x := fun c xs r z => by subst z; rw [r] at mu; exact mu
  by_cases hb : b = x
  · subst hb; rw [upd_same] at q; cases q; exact new
  · rw [upd_ne hb] at q
    by_cases hbe : b = e
    · have q' : H b = some (.own x) := by
        rcases he with z | z
        · exact absurd (hbe.trans z) hb
        · rw [hbe]; exact z
      rw [q] at q'; cases q'
      obtain ⟨v, hv⟩ := heo
      exact ⟨v, by rw [hbe]; exact hv⟩
    · refine (ok b u q).stay (fun c v hc r => k c v ?_ r) (fun c r => by rw [upd_ne (nown c b r)]; exact r) fun c xs r => by rw [upd_ne (ntup c xs r)]; exact r
      rcases hc with rfl | hc
      · exact hbe
      · rintro rfl
        rcases he with z | z
        · exact nown c b hc z
        · rw [hc] at z; cases z; exact hb rfl
end
structure Un (fs ex : List Addr) (H H' : Hp) (h h' : Heap) : Prop where
  keep : ∀ b o, h.get? b = some o → H b = none → b ∉ fs → b ∉ ex → h'.get? b = some o
  slot : ∀ b o, h.get? b = some o → H b = none → b ∈ fs → b ∉ ex → ∃ sl, h'.get? b = some { o with slots := sl }
  free : ∀ b o, h.get? b = some o → H b = none → b ∉ ex → H' b = none
  there : ∀ b o, h.get? b = some o → b ∉ ex → ∃ o', h'.get? b = some o'
  tups : ∀ b xs, H b = some (.tup xs) → H' b = some (.tup xs)
  frzs : ∀ b o u, H b = some (.frz o u) → H' b = some (.frz o u)
  tbls : ∀ b ps, H b = some (.tbl ps) → ∃ more, H' b = some (.tbl (ps ++ more))
section
variable {fs fs' ex ex' : List Addr} {H H1 H2 : Hp} {h h1 h2 h' : Heap} {a x e : Addr} {o : HO}
theorem Un.any (u : Un fs ex H H1 h h1) {b : Addr} {ob : Obj} (q : h.get? b = some ob) (n : H b = none) (hx : b ∉ ex) : ∃ sl, h1.get? b = some { ob with slots := sl } := by
  by_cases hb : b ∈ fs
  · exact u.slot b ob q n hb hx
  · exact ⟨ob.slots, u.keep b ob q n hb hx⟩
theorem Un.trans (a : Un fs ex H H1 h h1) (b : Un fs ex H1 H2 h1 h2) : Un fs ex H H2 h h2 where
  keep := fun c ob q n hc hx => b.keep c ob (a.keep c ob q n hc hx) (a.free c ob q n hx) hc hx
  slot := fun c ob q n hc hx => by
    obtain ⟨sl, e1⟩ := a.slot c ob q n hc hx
    obtain ⟨sl', e2⟩ := b.slot c _ e1 (a.free c ob q n hx) hc hx
    exact ⟨sl', e2⟩
  free := fun c ob q n hx => by
    obtain ⟨o', e1⟩ := a.there c ob q hx
    exact b.free c o' e1 (a.free c ob q n hx) hx
  there := fun c ob q hx => by
    obtain ⟨o', e1⟩ := a.there c ob q hx
    exact b.there c o' e1 hx
  tups := fun c xs q => b.tups c xs (a.tups c xs q)
  frzs := fun c ob xs q => b.frzs c ob xs (a.frzs c ob xs q)
  tbls := fun c ps q => by
    obtain ⟨m1, e1⟩ := a.tbls c ps q
    obtain ⟨m2, e2⟩ := b.tbls c _ e1
    exact ⟨m1 ++ m2, by rw [e2, Array.append_assoc]⟩
theorem Un.kept (k : ∀ b u, h.get? b = some u → h'.get? b = some u) : Un fs ex H H h h' :=
  ⟨fun b ob q _ _ _ => k b ob q, fun b ob q _ _ _ => ⟨ob.slots, k b ob q⟩, fun _ _ _ n _ => n, fun b ob q _ => ⟨ob, k b ob q⟩, fun _ _ q => q, fun _ _ _ q => q, fun _ ps q => ⟨#[], by rw [q]; simp⟩⟩
theorem Un.refl : Un fs ex H H h h := Un.kept fun _ _ q => q
theorem Un.laid (k : ∀ b u, h.get? b = some u → h'.get? b = some u) (hp : h.objs.size ≤ a) (hn : H a = none) : Un fs ex H (upd H a o) h h' where
  keep := fun b u q _ _ _ => k b u q
  slot := fun b u q _ _ _ => ⟨u.slots, k b u q⟩
  free := fun b u q n _ => by rw [upd_ne (Nat.ne_of_lt (Nat.lt_of_lt_of_le (Heap.lt_size q) hp))]; exact n
  there := fun b u q _ => ⟨u, k b u q⟩
  tups := fun b xs q => by rw [upd_ne (ne_of_none q hn)]; exact q
  frzs := fun b u xs q => by rw [upd_ne (ne_of_none q hn)]; exact q
  tbls := fun b ps q => ⟨#[], by rw [upd_ne (ne_of_none q hn), q]; simp⟩
theorem Un.write (mu : Mut (H x)) (he : e = x ∨ H e = some (.own x)) (k : ∀ b u, b ≠ e → h.get? b = some u → h'.get? b = some u) (heo : ∃ u, h'.get? e = some u) : Un fs ex H (upd H x o) h h' := by
  have hx : ∀ b, H b = none → b ≠ x := fun b n z => by subst z; rw [n] at mu; exact mu
  have hb : ∀ b, H b = none → b ≠ e := fun b n z => by
    subst z
    rcases he with r | r
    · exact hx b n r
    · rw [n] at r; cases r
  have hm : ∀ b u, H b = some u → ¬ Mut (some u) → b ≠ x := fun b u q nm z => by subst z; rw [q] at mu; exact nm mu
  refine ⟨fun b u q n _ _ => k b u (hb b n) q, fun b u q n _ _ => ⟨u.slots, k b u (hb b n) q⟩, fun b u q n _ => by rw [upd_ne (hx b n)]; exact n, fun b u q _ => ?_,
    fun b xs q => by rw [upd_ne (hm b _ q fun z => z)]; exact q, fun b u xs q => by rw [upd_ne (hm b _ q fun z => z)]; exact q, fun b ps q => ⟨#[], by rw [upd_ne (hm b _ q fun z => z), q]; simp⟩⟩
  by_cases hbe : b = e
  · subst hbe; exact heo
  · exact ⟨u, k b u hbe q⟩
theorem Un.mono (u : Un fs ex H H1 h h1) (hs : ∀ b ∈ fs, b ∈ fs') (hx : ∀ b ∈ ex, b ∈ ex') : Un fs' ex' H H1 h h1 :=
  ⟨fun b ob q n hb he => u.keep b ob q n (fun z => hb (hs b z)) fun z => he (hx b z), fun _ _ q n _ he => u.any q n fun z => he (hx _ z), fun b ob q n he => u.free b ob q n fun z => he (hx b z), fun b ob q he => u.there b ob q fun z => he (hx b z), u.tups, u.frzs, u.tbls⟩
end
noncomputable def trk (h : Heap) (H : Hp) : List Addr := (List.range h.objs.size).filter fun a => (H a).isSome
noncomputable def hidT (h : Heap) (H : Hp) : Heap := PySem.W.hideAll h (trk h H)
theorem hidT_size (h : Heap) (H : Hp) : (hidT h H).objs.size = h.objs.size := PySem.W.hideAll_size _ _
theorem hidT_get {h : Heap} {H : Hp} {b : Addr} {o : Obj} (e : h.get? b = some o) (n : H b = none) : (hidT h H).get? b = some o :=
  PySem.W.hideAll_get _ e fun hm => by
    have q : (H b).isSome = true := (List.mem_filter.mp hm).2
    rw [n] at q; simp at q
theorem of_hidT {h : Heap} {H : Hp} {b : Addr} {o : Obj} (e : (hidT h H).get? b = some o) : h.get? b = some o ∧ H b = none := by
  have e' : h.get? b = some o := PySem.W.of_hideAll (trk h H) e
  refine ⟨e', ?_⟩
  cases q : H b with
  | none => rfl
  | some x =>
    have hm : b ∈ trk h H := List.mem_filter.mpr ⟨List.mem_range.mpr (Heap.lt_size e'), by simp [q]⟩
    have z : (hidT h H).get? b = none := PySem.W.hideAll_none (trk h H) hm
    rw [z] at e; cases e
noncomputable def allNews (g h : Heap) (L : Addr) : List (Addr × Obj) := (List.range h.objs.size).filterMap fun a => if a = L ∨ (g.get? a).isSome = true then none else (h.get? a).map fun o => (a, o)
noncomputable def rest (g h : Heap) (L d : Addr) : List (Addr × Obj) := (allNews g h L).filter fun p => decide (p.1 ≠ d)
end L2
namespace L2
open PySem PySem.Spec PyProof.Rows
structure Mod (K : PySem.W.Frag) (mg : Str → Option Value) (base : Heap) : Prop where
  kin : K.In base
  glob : base.Ns mainGlobals mg
  blt : ∃ mb, base.Ns builtinsNs mb ∧ ∀ x : Str, x ≠ "__name__" → mb x = bootBuiltins x
  nolimit : base.NoLimit
structure Cx where
  prog : Program
  w : World
  K : PySem.W.Frag
  mg : Str → Option Value
  base : Heap
  A : Around
  N : List Str
  s₀ : Shared
  H₀ : Hp
  env : Env
  outer : List Env
  stack : List Env
  ex : List Addr
  fn : Str → Bool
  calm : Bool
  pn : List (Addr × Obj)
  xe : Value → Shared → Prop
noncomputable def frs (l : List Env) : List Addr := l.filterMap (·.frame)
noncomputable abbrev Cx.fs (X : Cx) : List Addr := frs X.outer
noncomputable def Vis (sc : Scope) (x : Str) : Prop := sc.names.lookup x = some .local ∨ sc.names.lookup x = some .cell ∨ sc.names.lookup x = some .free
noncomputable def Loc (sc : Scope) (x : Str) : Prop := sc.names.lookup x = some .local ∨ sc.names.lookup x = some .cell
noncomputable def Look (env : Env) (h : Heap) (m : Str → Option Value) (x : Str) (u : Value) : Prop :=
  (env.kindOf x = some .local ∧ m x = some u) ∨ ((env.kindOf x = some .cell ∨ env.kindOf x = some .free) ∧ ∃ c, env.cells.lookup x = some c ∧ h.IsCell c (some u))
structure Cx.Ok (X : Cx) : Prop where
  mod : Mod X.K X.mg X.base
  kind : X.env.scope.kind = .function
  glob : X.env.globals = mainGlobals
  blt : X.env.builtins = builtinsNs
  above : X.s₀.heap.objs.size ≤ X.env.locals
  inj : ∀ x y c, X.env.cells.lookup x = some c → X.env.cells.lookup y = some c → x = y
  has : ∀ x, (X.env.kindOf x = some .cell ∨ X.env.kindOf x = some .free) → ∃ c, X.env.cells.lookup x = some c
  cab : ∀ x c, X.fn x = true → X.env.cells.lookup x = some c → X.s₀.heap.objs.size ≤ c
  hd : X.calm = true → X.A.handled = none
  frames : X.A.frames = some X.stack
  stk : X.stack = X.outer ∨ (X.stack = X.env :: X.outer ∧ X.env.frame = some X.env.locals)
  exf : ∀ b ∈ X.ex, b ≠ X.env.locals ∧ ∀ x c, X.env.cells.lookup x = some c → c ≠ b
  bs : ∀ b o, X.base.get? b = some o → X.s₀.heap.get? b = some o ∧ X.H₀ b = none
  bsz : X.base.objs.size ≤ X.s₀.heap.objs.size
  noex : ∀ b o, X.base.get? b = some o → b ∉ X.ex
  exfs : ∀ b ∈ X.ex, b ∉ X.fs
  funs : X.s₀.heap.FunFrames X.base X.outer
  frf : ∀ b ∈ X.fs, X.H₀ b = none
structure Inv (X : Cx) (pins : List (Addr × Obj)) (σ : List (Option V)) (H : Hp) (s : Shared) : Prop where
  ok : X.Ok
  os : s.os = X.s₀.os
  bare : AllBare s.gens
  base : Un X.fs X.ex X.H₀ H X.s₀.heap s.heap
  loc : ∃ m, s.heap.Ns X.env.locals m ∧ ∀ (i : Nat) (x : Str) (v : V), X.N[i]? = some x → σ[i]? = some (some v) → Vis X.env.scope x → ∃ u, RelV v u ∧ Look X.env s.heap m x u
  cell : ∀ x c, X.env.cells.lookup x = some c → ∃ v, s.heap.IsCell c v
  free : H X.env.locals = none
  freeC : ∀ x c, X.env.cells.lookup x = some c → H c = none
  pin : ∀ p ∈ X.pn ++ pins, s.heap.get? p.1 = some p.2 ∧ H p.1 = none ∧ p.1 ≠ X.env.locals ∧ p.1 ∉ X.fs ∧ ∀ v, p.2.data ≠ .cell v
  hok : HOk X.prog X.w H s.heap
  len : σ.length = X.N.length
section
variable {X : Cx} {pins : List (Addr × Obj)} {σ : List (Option V)} {H H' : Hp} {s : Shared} {h' : Heap}
theorem Cx.Ok.nofr (ok : X.Ok) {b : Addr} {o : Obj} (e : X.base.get? b = some o) : b ∉ X.fs := fun hb => by
  have := (ok.funs.mem hb).1
  rw [e] at this; cases this
theorem Inv.bs (I : Inv X pins σ H s) : ∀ b o, X.base.get? b = some o → s.heap.get? b = some o ∧ H b = none := fun b o e =>
  ⟨I.base.keep b o (I.ok.bs b o e).1 (I.ok.bs b o e).2 (I.ok.nofr e) (I.ok.noex b o e), I.base.free b o (I.ok.bs b o e).1 (I.ok.bs b o e).2 (I.ok.noex b o e)⟩
theorem Inv.bk (I : Inv X pins σ H s) : ∀ b o, X.base.get? b = some o → s.heap.get? b = some o := fun b o e => (I.bs b o e).1
theorem Inv.mod (I : Inv X pins σ H s) : Mod X.K X.mg X.base := I.ok.mod
theorem Inv.kIn (I : Inv X pins σ H s) : X.K.In s.heap := I.ok.mod.kin.keeps I.bk
theorem Inv.nolimit (I : Inv X pins σ H s) : s.heap.NoLimit := I.ok.mod.nolimit.keeps I.bk
theorem Inv.fr (I : Inv X pins σ H s) : ∃ m, Fr X.base X.env.locals s.heap m :=
  let ⟨m, hn, _⟩ := I.loc
  ⟨m, hn, I.bk, Nat.le_trans I.ok.bsz I.ok.above⟩
theorem Inv.lt (I : Inv X pins σ H s) : X.env.locals < s.heap.objs.size := let ⟨_, hn, _⟩ := I.loc; hn.lt
theorem Inv.sz (I : Inv X pins σ H s) : X.s₀.heap.objs.size ≤ s.heap.objs.size := Nat.le_trans I.ok.above (Nat.le_of_lt I.lt)
theorem Inv.nofs (I : Inv X pins σ H s) {a : Addr} (h : s.heap.objs.size ≤ a) : a ∉ X.fs := fun hb => by
  obtain ⟨_, o, ho, _⟩ := I.ok.funs.mem hb
  exact absurd (Nat.lt_of_lt_of_le (Heap.lt_size ho) (Nat.le_trans I.sz h)) (Nat.lt_irrefl _)
theorem Inv.cne (I : Inv X pins σ H s) : ∀ x c, X.env.cells.lookup x = some c → c ≠ X.env.locals := fun x c e z => by
  obtain ⟨v, o, ho, hd⟩ := I.cell x c e
  obtain ⟨m, ⟨o', es, ep, ho', hd', _⟩, _⟩ := I.loc
  rw [z, ho'] at ho; cases ho; rw [hd'] at hd; cases hd
theorem Inv.funs (I : Inv X pins σ H s) : s.heap.FunFrames X.base X.outer := by
  have all : ∀ (l : List Env), (∀ b ∈ frs l, b ∈ X.fs) → X.s₀.heap.FunFrames X.base l → s.heap.FunFrames X.base l := by
    intro l
    induction l with
    | nil => intro _ _; trivial
    | cons env r ih =>
      intro hs hl
      obtain ⟨hk, ⟨L, o, hf, hn, ho, hd⟩, hr⟩ := hl
      have hL : L ∈ X.fs := hs L (by unfold frs; rw [List.filterMap_cons, hf]; exact List.mem_cons_self)
      obtain ⟨sl, e⟩ := I.base.slot L o ho (I.ok.frf L hL) hL fun z => I.ok.exfs L z hL
      exact ⟨hk, ⟨L, _, hf, hn, e, hd⟩, ih (fun b hb => hs b (by unfold frs; rw [List.filterMap_cons, hf]; exact List.mem_cons_of_mem _ hb)) hr⟩
  exact all X.outer (fun _ hb => hb) I.ok.funs
theorem Inv.stack (I : Inv X pins σ H s) : s.heap.FunFrames X.base X.stack := by
  rcases I.ok.stk with e | ⟨e, hf⟩
  · rw [e]; exact I.funs
  · rw [e]
    obtain ⟨m, hn, _⟩ := I.loc
    refine .cons (by rw [I.ok.kind]; decide) hf hn ?_ I.funs
    exact Heap.get?_none_of_le (Nat.le_trans I.ok.bsz I.ok.above)
theorem Inv.stkSub (I : Inv X pins σ H s) : ∀ b ∈ frs X.stack, b ∈ X.env.locals :: X.fs := fun b hb => by
  rcases I.ok.stk with e | ⟨e, hf⟩
  · rw [e] at hb; exact List.mem_cons_of_mem _ hb
  · rw [e] at hb
    unfold frs at hb
    rw [List.filterMap_cons, hf] at hb
    exact hb
theorem Inv.stkFree (I : Inv X pins σ H s) : ∀ b ∈ frs X.stack, H b = none := fun b hb => by
  rcases List.mem_cons.mp (I.stkSub b hb) with e | hb
  · rw [e]; exact I.free
  · obtain ⟨_, o, ho, _⟩ := I.ok.funs.mem hb
    exact I.base.free b o ho (I.ok.frf b hb) fun z => I.ok.exfs b z hb
theorem Inv.step {g' : Array GenState} {t' : Nat} {d' : Drawn} {ch : List Addr} (I : Inv X pins σ H s)
    (hch : ∀ b ∈ ch, (b ∈ X.ex ∨ X.s₀.heap.objs.size ≤ b) ∧ b ≠ X.env.locals ∧ (∀ x c, X.env.cells.lookup x = some c → c ≠ b) ∧ ∀ p ∈ X.pn ++ pins, p.1 ≠ b)
    (keep : ∀ b o, b ≠ X.env.locals → b ∉ X.fs → b ∉ ch → s.heap.get? b = some o → H b = none → h'.get? b = some o)
    (slot : ∀ b o, b ≠ X.env.locals → b ∈ X.fs → b ∉ ch → s.heap.get? b = some o → H b = none → ∃ sl, h'.get? b = some { o with slots := sl }) (free : ∀ b o, b ∉ ch → s.heap.get? b = some o → H b = none → H' b = none)
    (there : ∀ b o, b ∉ ch → s.heap.get? b = some o → ∃ o', h'.get? b = some o')
    (tups : ∀ b xs, H b = some (.tup xs) → H' b = some (.tup xs)) (frzs : ∀ b o u, H b = some (.frz o u) → H' b = some (.frz o u)) (tbls : ∀ b ps, H b = some (.tbl ps) → ∃ more, H' b = some (.tbl (ps ++ more)))
    (ns : ∀ m, s.heap.Ns X.env.locals m → h'.Ns X.env.locals m) (hok : HOk X.prog X.w H' h') (hg : AllBare g') :
    Inv X pins σ H' { s with heap := h', gens := g', drawn := d', toks := t' } := by
  have neL : ∀ b o, X.s₀.heap.get? b = some o → b ≠ X.env.locals := fun b o e => Nat.ne_of_lt (Nat.lt_of_lt_of_le (Heap.lt_size e) I.ok.above)
  have neC : ∀ b o, X.s₀.heap.get? b = some o → b ∉ X.ex → b ∉ ch := fun b o e hx hb => by
    rcases (hch b hb).1 with z | z
    · exact hx z
    · exact absurd (Nat.lt_of_lt_of_le (Heap.lt_size e) z) (Nat.lt_irrefl _)
  have cellK : ∀ x c, X.env.cells.lookup x = some c → ∀ v, s.heap.IsCell c v → h'.IsCell c v := fun x c e v ⟨o, ho, hd⟩ => by
    have nch : c ∉ ch := fun z => (hch c z).2.2.1 x c e rfl
    by_cases hc : c ∈ X.fs
    · obtain ⟨sl, q⟩ := slot c o (I.cne x c e) hc nch ho (I.freeC x c e)
      exact ⟨_, q, hd⟩
    · exact ⟨o, keep c o (I.cne x c e) hc nch ho (I.freeC x c e), hd⟩
  refine ⟨I.ok, I.os, hg, ⟨fun b o e n hb hx => ?_, fun b o e n hb hx => ?_, fun b o e n hx => ?_, fun b o e hx => ?_, fun b xs e => tups b xs (I.base.tups b xs e), fun b o xs e => frzs b o xs (I.base.frzs b o xs e), fun b ps e => ?_⟩, ?_, fun x c e => ?_, ?_, fun x c e => ?_, fun p hp => ?_, hok, I.len⟩
  · exact keep b o (neL b o e) hb (neC b o e hx) (I.base.keep b o e n hb hx) (I.base.free b o e n hx)
  · obtain ⟨sl, e1⟩ := I.base.slot b o e n hb hx
    obtain ⟨sl', e2⟩ := slot b _ (neL b o e) hb (neC b o e hx) e1 (I.base.free b o e n hx)
    exact ⟨sl', e2⟩
  · obtain ⟨o', e1⟩ := I.base.there b o e hx
    exact free b o' (neC b o e hx) e1 (I.base.free b o e n hx)
  · obtain ⟨o', e1⟩ := I.base.there b o e hx
    exact there b o' (neC b o e hx) e1
  · obtain ⟨m1, e1⟩ := I.base.tbls b ps e
    obtain ⟨m2, e2⟩ := tbls b _ e1
    exact ⟨m1 ++ m2, by rw [e2, Array.append_assoc]⟩
  · obtain ⟨m, hn, hl⟩ := I.loc
    refine ⟨m, ns m hn, fun i x v e1 e2 e3 => ?_⟩
    obtain ⟨u, r, l⟩ := hl i x v e1 e2 e3
    refine ⟨u, r, ?_⟩
    rcases l with l | ⟨k, c, e, z⟩
    · exact .inl l
    · exact .inr ⟨k, c, e, cellK x c e _ z⟩
  · obtain ⟨v, z⟩ := I.cell x c e
    exact ⟨v, cellK x c e v z⟩
  · obtain ⟨m, ⟨o, _, _, ho, _⟩, _⟩ := I.loc
    exact free _ o (fun z => (hch _ z).2.1 rfl) ho I.free
  · obtain ⟨v, o, ho, hd⟩ := I.cell x c e
    exact free c o (fun z => (hch c z).2.2.1 x c e rfl) ho (I.freeC x c e)
  · obtain ⟨e, n, ne, nf, d⟩ := I.pin p hp
    have nch : p.1 ∉ ch := fun z => (hch p.1 z).2.2.2 p hp rfl
    exact ⟨keep p.1 p.2 ne nf nch e n, free p.1 p.2 nch e n, ne, nf, d⟩
theorem Inv.un {t' : Nat} (I : Inv X pins σ H s) (u : Un X.fs [] H H' s.heap h') (hok : HOk X.prog X.w H' h') : Inv X pins σ H' { s with heap := h', toks := t' } := by
  obtain ⟨m, ⟨o, es, ep, ho, r⟩, _⟩ := id I.loc
  obtain ⟨sl, hL⟩ := u.any ho I.free (by simp)
  exact I.step (g' := s.gens) (d' := s.drawn) (ch := []) (fun _ z => nomatch z) (fun b o _ hb _ e n => u.keep b o e n hb (by simp)) (fun b o _ hb _ e n => u.slot b o e n hb (by simp)) (fun b o _ e n => u.free b o e n (by simp)) (fun b o _ e => u.there b o e (by simp)) u.tups u.frzs u.tbls (fun m' hm => by
    obtain ⟨o', es', ep', ho', r'⟩ := hm
    rw [ho] at ho'; cases ho'
    exact ⟨_, es', ep', hL, r'⟩) hok I.bare
theorem Inv.call {g' : Array GenState} {t' : Nat} {d' : Drawn} {ch : List Addr} (I : Inv X pins σ H s) (u : Un (frs X.stack) ch H H' s.heap h') (hok : HOk X.prog X.w H' h') (hg : AllBare g')
    (hch : ∀ b ∈ ch, (b ∈ X.ex ∨ X.s₀.heap.objs.size ≤ b) ∧ b ≠ X.env.locals ∧ (∀ x c, X.env.cells.lookup x = some c → c ≠ b) ∧ ∀ p ∈ X.pn ++ pins, p.1 ≠ b) :
    Inv X pins σ H' { s with heap := h', gens := g', drawn := d', toks := t' } := by
  obtain ⟨m, ⟨o, es, ep, ho, r⟩, _⟩ := id I.loc
  obtain ⟨sl, hL⟩ := u.any ho I.free fun z => (hch _ z).2.1 rfl
  exact I.step (ch := ch) hch (fun b o hL hb hc e n => u.keep b o e n (fun z => (List.mem_cons.mp (I.stkSub b z)).elim hL hb) hc) (fun b o _ _ hc e n => u.any e n hc) (fun b o hc e n => u.free b o e n hc) (fun b o hc e => u.there b o e hc) u.tups u.frzs u.tbls (fun m' hm => by
    obtain ⟨o', es', ep', ho', r'⟩ := hm
    rw [ho] at ho'; cases ho'
    exact ⟨_, es', ep', hL, r'⟩) hok hg
theorem Inv.turned {t' : Nat} {it : Addr} (I : Inv X pins σ H s) (k : ∀ b o, b ≠ it → s.heap.get? b = some o → h'.get? b = some o) (hn : H it = none) (hL : it ≠ X.env.locals)
    (h1 : it ∈ X.ex ∨ X.s₀.heap.objs.size ≤ it) (h2 : ∀ x c, X.env.cells.lookup x = some c → c ≠ it) (h3 : ∀ p ∈ X.pn ++ pins, p.1 ≠ it) : Inv X pins σ H { s with heap := h', toks := t' } := by
  have nit : ∀ b u, H b = some u → b ≠ it := fun b u e z => by rw [z, hn] at e; cases e
  refine I.step (g' := s.gens) (d' := s.drawn) (ch := [it]) (fun b hb => ?_) (fun b o _ _ hc e _ => k b o (fun z => hc (by simp [z])) e) (fun b o _ _ hc e _ => ⟨o.slots, k b o (fun z => hc (by simp [z])) e⟩) (fun _ _ _ _ n => n)
    (fun b o hc e => ⟨o, k b o (fun z => hc (by simp [z])) e⟩) (fun _ _ e => e) (fun _ _ _ e => e) (fun b ps e => ⟨#[], by rw [e]; simp⟩) (fun m hm => ?_) (fun b u e => ?_) I.bare
  · have e : b = it := by simpa using hb
    subst e
    exact ⟨h1, hL, h2, h3⟩
  · obtain ⟨o, es, ep, ho, r⟩ := hm
    exact ⟨o, es, ep, k _ o (Ne.symm hL) ho, r⟩
  · refine (I.hok b u e).stay (fun c v hc q => k c v ?_ q) (fun _ q => q) fun _ _ q => q
    rcases hc with z | z
    · rw [z]; exact nit b u e
    · exact nit c _ z
theorem Inv.tok (I : Inv X pins σ H s) (t : Nat) : Inv X pins σ H { s with toks := t } := I.un (h' := s.heap) (t' := t) Un.refl I.hok
theorem Inv.kept {t' : Nat} (I : Inv X pins σ H s) (k : ∀ b u, s.heap.get? b = some u → h'.get? b = some u) : Inv X pins σ H { s with heap := h', toks := t' } := I.un (Un.kept k) (I.hok.kept k)
theorem Inv.laid {a : Addr} {o : HO} {t' : Nat} (I : Inv X pins σ H s) (k : ∀ b u, s.heap.get? b = some u → h'.get? b = some u) (hp : s.heap.objs.size ≤ a) (new : ObjOk X.prog X.w (upd H a o) h' a o) :
    Inv X pins σ (upd H a o) { s with heap := h', toks := t' } := I.un (Un.laid k hp (I.hok.fresh hp)) (I.hok.laid k hp new)
theorem Inv.write {x e : Addr} {o : HO} {t' : Nat} (I : Inv X pins σ H s) (mu : Mut (H x)) (he : e = x ∨ H e = some (.own x)) (k : ∀ b u, b ≠ e → s.heap.get? b = some u → h'.get? b = some u) (heo : ∃ u, h'.get? e = some u)
    (new : ObjOk X.prog X.w (upd H x o) h' x o) : Inv X pins σ (upd H x o) { s with heap := h', toks := t' } := I.un (Un.write mu he k heo) (I.hok.write mu he k heo new)
theorem Inv.pins_of {pins' : List (Addr × Obj)} (I : Inv X pins σ H s) (h : ∀ p ∈ pins', s.heap.get? p.1 = some p.2 ∧ H p.1 = none ∧ p.1 ≠ X.env.locals ∧ p.1 ∉ X.fs ∧ ∀ v, p.2.data ≠ .cell v) : Inv X pins' σ H s :=
  ⟨I.ok, I.os, I.bare, I.base, I.loc, I.cell, I.free, I.freeC, fun p hp => (List.mem_append.mp hp).elim (fun z => I.pin p (List.mem_append_left _ z)) (h p), I.hok, I.len⟩
theorem nodup_ix {N : List Str} (hN : N.Nodup) {i j : Nat} {x : Str} (a : N[i]? = some x) (b : N[j]? = some x) : i = j := by
  obtain ⟨h1, e1⟩ := List.getElem?_eq_some_iff.mp a
  obtain ⟨h2, e2⟩ := List.getElem?_eq_some_iff.mp b
  exact (List.getElem_inj hN).mp (e1.trans e2.symm)
theorem store_ok2 {M : Model} {A : Around} {E : Value → Shared → Prop} {i : Nat} {x : Str} {v : V} {u : Value} {Q : Unit → Shared → Prop} (I : Inv X pins σ H s) (hN : X.N.Nodup) (hi : X.N[i]? = some x) (hx : Loc X.env.scope x) (r : RelV v u)
    (h : ∀ s', Inv X pins (σ.set i (some v)) H s' → (∃ a, Heap.SameBut a s.heap s'.heap ∧ (a = X.env.locals ∨ X.env.cells.lookup x = some a)) → Q () s') (hf : X.fn x = true ∨ X.env.scope.names.lookup x = some .local := by first | exact .inl rfl | exact .inr rfl | assumption) : wpAny M A (storeName X.env x u) Q E s := by
  obtain ⟨m, hn, hl⟩ := id I.loc
  have hcls : (X.env.scope.kind == .class || (X.env.scope.kind == .module && X.env.locals != X.env.globals)) = false := by rw [I.ok.kind]; rfl
  have hiσ : i < σ.length := by rw [I.len]; exact (List.getElem?_eq_some_iff.mp hi).1
  have cne := I.cne
  have tracked : ∀ {a : Addr} {h' : Heap}, (∃ o, s.heap.get? a = some o ∧ H a = none) → Heap.SameBut a s.heap h' → HOk X.prog X.w H h' := fun {a h'} ha hs b ob e => by
    obtain ⟨_, _, hfree⟩ := ha
    refine (I.hok b ob e).stay (fun c w' hc q => (hs.2 c ?_).trans q) (fun _ q => q) fun _ _ q => q
    rintro rfl
    rcases hc with rfl | hc
    · rw [hfree] at e; cases e
    · rw [hfree] at hc; cases hc
  rcases hx with hk | hk
  · refine wpAny_storeName_local hk hn (fun h' hn' hs => ?_) hcls
    obtain ⟨oL, _, _, hoL, _⟩ := id hn
    refine h _ ⟨I.ok, I.os, I.bare, ⟨fun b o e n hb hx => ?_, fun b o e n hb hx => ?_, I.base.free, fun b o e hx => ?_, I.base.tups, I.base.frzs, I.base.tbls⟩, ⟨_, hn', fun j y v' e1 e2 e3 => ?_⟩, fun y c e => ?_, I.free, I.freeC, fun p hp => ?_, tracked ⟨oL, hoL, I.free⟩ hs, by simpa using I.len⟩ ⟨_, hs, .inl rfl⟩
    · exact (hs.2 b (Nat.ne_of_lt (Nat.lt_of_lt_of_le (Heap.lt_size e) I.ok.above))).trans (I.base.keep b o e n hb hx)
    · obtain ⟨sl, e1⟩ := I.base.slot b o e n hb hx
      exact ⟨sl, (hs.2 b (Nat.ne_of_lt (Nat.lt_of_lt_of_le (Heap.lt_size e) I.ok.above))).trans e1⟩
    · obtain ⟨o', e1⟩ := I.base.there b o e hx
      exact ⟨o', (hs.2 b (Nat.ne_of_lt (Nat.lt_of_lt_of_le (Heap.lt_size e) I.ok.above))).trans e1⟩
    · by_cases hj : j = i
      · subst hj
        rw [hi] at e1; cases e1
        rw [List.getElem?_set_self hiσ] at e2
        cases e2
        exact ⟨u, r, .inl ⟨hk, by simp⟩⟩
      · rw [List.getElem?_set_ne (Ne.symm hj)] at e2
        obtain ⟨u', r', q⟩ := hl j y v' e1 e2 e3
        refine ⟨u', r', ?_⟩
        rcases q with ⟨k, e⟩ | ⟨k, c, e, z⟩
        · refine .inl ⟨k, ?_⟩
          have : y ≠ x := fun e => hj (nodup_ix hN e1 (e ▸ hi))
          simp [this, e]
        · exact .inr ⟨k, c, e, z.sameBut hs (cne y c e)⟩
    · obtain ⟨w', z⟩ := I.cell y c e
      exact ⟨w', z.sameBut hs (cne y c e)⟩
    · obtain ⟨e, n, ne, nf, d⟩ := I.pin p hp
      exact ⟨(hs.2 p.1 ne).trans e, n, ne, nf, d⟩
  · have hfn : X.fn x = true := by
      rcases hf with z | z
      · exact z
      · rw [z] at hk; cases hk
    obtain ⟨c, hc⟩ := I.ok.has x (.inl hk)
    obtain ⟨w', z⟩ := I.cell x c hc
    refine wpAny_storeName_cell I.ok.kind hk hc z (fun h' hc' hs => ?_)
    obtain ⟨oc, hoc, hocd⟩ := id z
    refine h { s with heap := h' } ⟨I.ok, I.os, I.bare, ⟨fun b o e n hb hx => ?_, fun b o e n hb hx => ?_, I.base.free, fun b o e hx => ?_, I.base.tups, I.base.frzs, I.base.tbls⟩, ⟨m, hn.sameBut hs (Ne.symm (cne x c hc)), fun j y v' e1 e2 e3 => ?_⟩, fun y c' e => ?_, I.free, I.freeC, fun p hp => ?_, tracked ⟨oc, hoc, I.freeC x c hc⟩ hs, by simpa using I.len⟩ ⟨c, hs, .inr hc⟩
    · exact (hs.2 b (Nat.ne_of_lt (Nat.lt_of_lt_of_le (Heap.lt_size e) (I.ok.cab x c hfn hc)))).trans (I.base.keep b o e n hb hx)
    · obtain ⟨sl, e1⟩ := I.base.slot b o e n hb hx
      exact ⟨sl, (hs.2 b (Nat.ne_of_lt (Nat.lt_of_lt_of_le (Heap.lt_size e) (I.ok.cab x c hfn hc)))).trans e1⟩
    · obtain ⟨o', e1⟩ := I.base.there b o e hx
      exact ⟨o', (hs.2 b (Nat.ne_of_lt (Nat.lt_of_lt_of_le (Heap.lt_size e) (I.ok.cab x c hfn hc)))).trans e1⟩
    · by_cases hj : j = i
      · subst hj
        rw [hi] at e1; cases e1
        rw [List.getElem?_set_self hiσ] at e2
        cases e2
        exact ⟨u, r, .inr ⟨.inl hk, c, hc, hc'⟩⟩
      · rw [List.getElem?_set_ne (Ne.symm hj)] at e2
        obtain ⟨u', r', q⟩ := hl j y v' e1 e2 e3
        refine ⟨u', r', ?_⟩
        rcases q with q | ⟨k, c', e, z'⟩
        · exact .inl q
        · refine .inr ⟨k, c', e, z'.sameBut hs ?_⟩
          rintro rfl
          exact hj (nodup_ix hN e1 (I.ok.inj _ _ _ e hc ▸ hi))
    · by_cases hcc : c' = c
      · subst hcc; exact ⟨_, hc'⟩
      · obtain ⟨w2, z2⟩ := I.cell y c' e
        exact ⟨w2, z2.sameBut hs hcc⟩
    · obtain ⟨e, n, ne, nf, d⟩ := I.pin p hp
      refine ⟨(hs.2 p.1 ?_).trans e, n, ne, nf, d⟩
      intro q
      rw [q, hoc] at e
      have q' : oc = p.2 := Option.some.inj e
      exact d w' (by rw [← q']; exact hocd)
theorem store_ok {M : Model} {A : Around} {E : Value → Shared → Prop} {i : Nat} {x : Str} {v : V} {u : Value} {Q : Unit → Shared → Prop} (I : Inv X pins σ H s) (hN : X.N.Nodup) (hi : X.N[i]? = some x) (hx : Loc X.env.scope x) (r : RelV v u)
    (h : ∀ s', Inv X pins (σ.set i (some v)) H s' → Q () s') (hf : X.fn x = true ∨ X.env.scope.names.lookup x = some .local := by first | exact .inl rfl | exact .inr rfl | assumption) : wpAny M A (storeName X.env x u) Q E s :=
  store_ok2 I hN hi hx r (fun s' I' _ => h s' I') hf
theorem Inv.call' {s' : Shared} {ch : List Addr} (I : Inv X pins σ H s) (ho : s'.os = s.os) (u : Un (frs X.stack) ch H H' s.heap s'.heap) (hok : HOk X.prog X.w H' s'.heap) (hg : AllBare s'.gens)
    (hch : ∀ b ∈ ch, (b ∈ X.ex ∨ X.s₀.heap.objs.size ≤ b) ∧ b ≠ X.env.locals ∧ (∀ x c, X.env.cells.lookup x = some c → c ≠ b) ∧ ∀ p ∈ X.pn ++ pins, p.1 ≠ b) : Inv X pins σ H' s' := by
  obtain ⟨h', g', d', t', o'⟩ := s'
  have e : o' = s.os := ho
  subst e
  exact I.call (g' := g') (t' := t') (d' := d') u hok hg hch
end
noncomputable abbrev XK := Value → Option Addr → Hp → Prop
noncomputable abbrev St := List (Option V)
noncomputable abbrev VK := V → Hp → Prop
noncomputable abbrev TE := St → Hp → VK → Prop
noncomputable abbrev TT := St → Hp → (Bool → Hp → Prop) → Prop
noncomputable abbrev TA := St → Hp → (List V → Hp → Prop) → Prop
structure Ends where
  nx : St → Hp → Prop
  rt : VK
  bk : St → Hp → Prop := fun _ _ => False
  ct : St → Hp → Prop := fun _ _ => False
noncomputable abbrev TS := Ends → St → Hp → Prop
noncomputable def EP (X : Cx) (pins : List (Addr × Obj)) (σ : St) (Q : VK) (u : Value) (s' : Shared) : Prop := ∃ v H', Inv X pins σ H' s' ∧ RelV v u ∧ Q v H'
noncomputable def TP (X : Cx) (pins : List (Addr × Obj)) (σ : St) (Q : Bool → Hp → Prop) (b : Bool) (s' : Shared) : Prop := ∃ H', Inv X pins σ H' s' ∧ Q b H'
noncomputable def AP (X : Cx) (pins : List (Addr × Obj)) (σ : St) (Q : List V → Hp → Prop) (us : List Value) (s' : Shared) : Prop := ∃ vs H', Inv X pins σ H' s' ∧ Vals vs us ∧ Q vs H'
noncomputable def SP (X : Cx) (pins : List (Addr × Obj)) (D : Ends) (f : Flow) (s' : Shared) : Prop :=
  match f with
  | .next => ∃ σ' H', Inv X pins σ' H' s' ∧ D.nx σ' H'
  | .brk => ∃ σ' H', Inv X pins σ' H' s' ∧ D.bk σ' H'
  | .cont => ∃ σ' H', Inv X pins σ' H' s' ∧ D.ct σ' H'
  | .ret u => ∃ v σ' H', Inv X pins σ' H' s' ∧ RelV v u ∧ D.rt v H'
noncomputable def PE (X : Cx) (e : Expr) (t : TE) : Prop :=
  ∀ (pins : List (Addr × Obj)) (s : Shared) (σ : St) (H : Hp) (Q : VK), Inv X pins σ H s → t σ H Q → wpAny (model X.prog X.w) X.A (eval e X.env) (EP X pins σ Q) X.xe s
noncomputable def PT (X : Cx) (e : Expr) (t : TT) : Prop :=
  ∀ (pins : List (Addr × Obj)) (s : Shared) (σ : St) (H : Hp) (Q : Bool → Hp → Prop), Inv X pins σ H s → t σ H Q → wpAny (model X.prog X.w) X.A (isTrue e X.env (eval e X.env)) (TP X pins σ Q) X.xe s
noncomputable def PW (X : Cx) (e : Expr) (t : TT) : Prop :=
  ∀ (whole : Sem Value) (pins : List (Addr × Obj)) (s : Shared) (σ : St) (H : Hp) (Q : Bool → Hp → Prop), Inv X pins σ H s → t σ H Q → wpAny (model X.prog X.w) X.A (isTrue e X.env whole) (TP X pins σ Q) X.xe s
theorem PW.pt {X : Cx} {e : Expr} {t : TT} (h : PW X e t) : PT X e t := h _
noncomputable def PA (X : Cx) (es : List Expr) (t : TA) : Prop :=
  ∀ (pos : Pos) (pins : List (Addr × Obj)) (s : Shared) (σ : St) (H : Hp) (Q : List V → Hp → Prop), Inv X pins σ H s → t σ H Q → wpAny (model X.prog X.w) X.A (spliced (backTo pos (starEach es X.env))) (AP X pins σ Q) X.xe s
noncomputable def PS (X : Cx) (st : Stmt) (t : TS) : Prop :=
  ∀ (pins : List (Addr × Obj)) (s : Shared) (σ : St) (H : Hp) (D : Ends), Inv X pins σ H s → t D σ H → wpAny (model X.prog X.w) X.A (exec st X.env) (SP X pins D) X.xe s
noncomputable def PSs (X : Cx) (st : List Stmt) (t : TS) : Prop :=
  ∀ (pins : List (Addr × Obj)) (s : Shared) (σ : St) (H : Hp) (D : Ends), Inv X pins σ H s → t D σ H → wpAny (model X.prog X.w) X.A (execs st X.env) (SP X pins D) X.xe s
theorem thn {α : Type} {t : Sem α} {Q Q' : α → Shared → Prop} {M : Model} {A : Around} {E : Value → Shared → Prop} {s : Shared} (h : wpAny M A t Q E s) (hQ : ∀ a s, Q a s → Q' a s) : wpAny M A t Q' E s := wpAny_mono h hQ fun _ _ x => x
end L2
namespace L2
open PySem PySem.Spec PyProof.Rows
section
variable {X : Cx}
noncomputable def tVar (i : Nat) : TE := fun σ H Q => ∃ v, σ[i]? = some (some v) ∧ Q v H
noncomputable def tC (v : V) : TE := fun _ H Q => Q v H
theorem pe_var {i : Nat} {x : Str} {pos : Pos} (hN : X.N[i]? = some x) (hv : Vis X.env.scope x) (hd : (x == ("__debug__" : Str)) = false := by decide) (hcd : (x == ("__classdict__" : Str)) = false := by decide) : PE X (.Name x pos) (tVar i) := by
  intro pins s σ H Q I h
  obtain ⟨v, e, h⟩ := h
  obtain ⟨m, hn, hl⟩ := I.loc
  obtain ⟨u, r, l⟩ := hl i x v hN e hv
  have fin : EP X pins σ Q u s := ⟨v, H, I, r, h⟩
  rcases l with ⟨hk, hm⟩ | ⟨hk, c, hc, hcell⟩
  · exact wpAny_Name (wpAny_loadName_local I.ok.kind hk hn hm fin) hd
  · rcases hk with hk | hk
    · exact wpAny_Name (wpAny_loadName_cell I.ok.kind hk hc hcell fin) hd
    · exact wpAny_Name (wpAny_loadName_free I.ok.kind hk hc hcell fin hcd) hd
theorem pe_int {i j pos} : PE X (.Constant (.int i) j pos) (tC (.int i)) := fun _ _ _ H _ I h => wpAny_Constant_int ⟨.int i, H, I.tok _, ⟨_, rfl⟩, h⟩
theorem pe_bl {b j pos} : PE X (.Constant (.bool b) j pos) (tC (.bl b)) := fun _ _ _ H _ I h => Constant_bool ⟨.bl b, H, I, rfl, h⟩
theorem pe_non {j pos} : PE X (.Constant .none j pos) (tC .non) := fun _ _ _ H _ I h => Constant_none ⟨.non, H, I, rfl, h⟩
theorem pe_str {x j pos} : PE X (.Constant (.str x) j pos) (tC (.str x)) := fun _ _ _ H _ I h => Calls.Constant_str ⟨.str x, H, I.tok _, ⟨_, rfl⟩, h⟩
noncomputable def Gl (X : Cx) (x : Str) : Prop := X.env.kindOf x = some .globalImplicit
theorem ld_glob {E : Value → Shared → Prop} {pins : List (Addr × Obj)} {s : Shared} {σ : St} {H : Hp} {x : Str} {u : Value} {pos : Pos} {Q : Value → Shared → Prop} (I : Inv X pins σ H s) (hg : Gl X x) (hm : X.mg x = some u) (h : Q u s)
    (hd : (x == ("__debug__" : Str)) = false := by decide) : wpAny (model X.prog X.w) X.A (eval (.Name x pos) X.env) Q E s :=
  Calls.Name_function_global I.ok.kind hg (Calls.loadGlobal_global (by rw [I.ok.glob]; exact I.mod.glob.keeps I.bk) hm h) hd
theorem ld_blt {E : Value → Shared → Prop} {pins : List (Addr × Obj)} {s : Shared} {σ : St} {H : Hp} {x : Str} {u : Value} {pos : Pos} {Q : Value → Shared → Prop} (I : Inv X pins σ H s) (hg : Gl X x) (hm : X.mg x = none) (hv : bootBuiltins x = some u) (h : Q u s)
    (hn : x ≠ "__name__" := by decide) (hd : (x == ("__debug__" : Str)) = false := by decide) : wpAny (model X.prog X.w) X.A (eval (.Name x pos) X.env) Q E s := by
  obtain ⟨mb, h1, h2⟩ := I.mod.blt
  exact Calls.Name_function_global I.ok.kind hg (Calls.loadGlobal_builtin (by rw [I.ok.glob]; exact I.mod.glob.keeps I.bk) hm (by rw [I.ok.blt]; exact h1.keeps I.bk) ((h2 x hn).trans hv) h) hd
theorem pe_glob {x : Str} {v : V} {u : Value} {pos : Pos} (hg : Gl X x) (hm : X.mg x = some u) (r : RelV v u) (hd : (x == ("__debug__" : Str)) = false := by decide) : PE X (.Name x pos) (tC v) :=
  fun _ _ _ H _ I h => ld_glob I hg hm ⟨v, H, I, r, h⟩ hd
variable {a b : Expr} {ta tb : TE} {pos : Pos}
noncomputable def tB (t : TE) : TT := fun σ H Q => t σ H fun x H1 => ∃ c, x = .bl c ∧ Q c H1
variable {tA tB' : TT} {rest : List Expr}
noncomputable def tAnd (t u : TT) : TT := fun σ H Q => t σ H fun c H1 => if c = true then u σ H1 Q else Q false H1
noncomputable def tOr (t u : TT) : TT := fun σ H Q => t σ H fun c H1 => if c = true then Q true H1 else u σ H1 Q
theorem pw_and1 (ha : PT X a tA) : PW X (.BoolOp .And [a] pos) tA := by
  intro wh pins s σ H Q I h
  refine isTrue_and (thn (ha pins s σ H Q I h) fun c s1 e => ?_)
  cases c with
  | true => exact isTrue_and_nil e
  | false => exact e
theorem pw_or1 (ha : PT X a tA) : PW X (.BoolOp .Or [a] pos) tA := by
  intro wh pins s σ H Q I h
  refine isTrue_or (thn (ha pins s σ H Q I h) fun c s1 e => ?_)
  cases c with
  | false => exact isTrue_or_nil e
  | true => exact e
theorem pw_and (ha : PT X a tA) (hb : PW X (.BoolOp .And (b :: rest) pos) tB') : PW X (.BoolOp .And (a :: b :: rest) pos) (tAnd tA tB') := by
  intro wh pins s σ H Q I h
  refine isTrue_and (thn (ha pins s σ H _ I h) fun c s1 ⟨H1, I1, q1⟩ => ?_)
  cases c with
  | true => exact hb wh pins s1 σ H1 Q I1 q1
  | false => exact ⟨H1, I1, q1⟩
theorem pw_or (ha : PT X a tA) (hb : PW X (.BoolOp .Or (b :: rest) pos) tB') : PW X (.BoolOp .Or (a :: b :: rest) pos) (tOr tA tB') := by
  intro wh pins s σ H Q I h
  refine isTrue_or (thn (ha pins s σ H _ I h) fun c s1 ⟨H1, I1, q1⟩ => ?_)
  cases c with
  | true => exact ⟨H1, I1, q1⟩
  | false => exact hb wh pins s1 σ H1 Q I1 q1
noncomputable def tIf (t : TT) (ta tb : TE) : TE := fun σ H Q => t σ H fun c H1 => if c = true then ta σ H1 Q else tb σ H1 Q
theorem pe_ifExp {c : Expr} (hc : PT X c tA) (ha : PE X a ta) (hb : PE X b tb) : PE X (.IfExp c a b pos) (tIf tA ta tb) := by
  intro pins s σ H Q I h
  refine wpAny_IfExp (thn (hc pins s σ H _ I h) fun d s1 ⟨H1, I1, q1⟩ => ?_)
  cases d with
  | true => exact ha pins s1 σ H1 Q I1 q1
  | false => exact hb pins s1 σ H1 Q I1 q1
end
end L2
namespace L2
open PySem PySem.Spec PyProof.Rows
noncomputable def SqL (K : PySem.W.Frag) (H : Hp) (a : Addr) (xs : List V) : Prop :=
  Rd H a (.lst xs) ∨
    ∃ (o : Obj) (its : Array Value) (n : Nat), K.lookup a = some o ∧ o.cls = .type "list" ∧ o.dict = none ∧ o.data = .seq its n ∧ its.size ≤ sizeLine ∧ Vals xs its.toList
noncomputable def SqT (K : PySem.W.Frag) (H : Hp) (a : Addr) (xs : List V) : Prop :=
  Rd H a (.tup xs) ∨
    ∃ (o : Obj) (its : Array Value) (n : Nat), K.lookup a = some o ∧ o.cls = .type "tuple" ∧ o.data = .seq its n ∧ its.size ≤ sizeLine ∧ Vals xs its.toList
noncomputable def absV : Value → Option V
  | .none => some .non
  | .bool b => some (.bl b)
  | .int i _ => some (.int i)
  | .str x _ => some (.str x)
  | .bytes b _ => some (.byt b)
  | .float b _ => some (.flt b)
  | .ref a => some (.ref a)
  | .type n => some (.ty n)
  | _ => none
theorem RelV.abs {x : V} {u : Value} (r : RelV x u) : absV u = some x := by
  cases x with
  | non => cases r; rfl
  | bl _ => cases r; rfl
  | int _ => obtain ⟨t, rfl⟩ := r; rfl
  | str _ => obtain ⟨t, rfl⟩ := r; rfl
  | byt _ => obtain ⟨t, rfl⟩ := r; rfl
  | flt _ => obtain ⟨t, rfl⟩ := r; rfl
  | ref _ => cases r; rfl
  | ty _ => cases r; rfl
theorem RelV.inj {x y : V} {u : Value} (r : RelV x u) (q : RelV y u) : x = y := Option.some.inj (r.abs.symm.trans q.abs)
theorem Vals.inj : ∀ {xs ys : List V} {us : List Value}, Vals xs us → Vals ys us → xs = ys
  | _, _, _, .nil, .nil => rfl
  | _, _, _, .cons r t, .cons r' t' => by rw [r.inj r', Vals.inj t t']
section
variable {X : Cx} {pins : List (Addr × Obj)} {σ : St} {H : Hp} {s : Shared} {a : Addr} {xs ys : List V}
theorem SqL.of {K : PySem.W.Frag} (h : H a = some (.lst xs)) : SqL K H a xs := .inl (.inl h)
theorem SqT.of {K : PySem.W.Frag} (h : H a = some (.tup xs)) : SqT K H a xs := .inl (.inl h)
theorem Inv.list (I : Inv X pins σ H s) (h : SqL X.K H a xs) : ∃ its : List Value, Vals xs its ∧ PlainL s.heap a its.toArray ∧ xs.length ≤ sizeLine := by
  rcases h with h | ⟨o, its, n, hk, hc, hd, hs, hz, r⟩
  · obtain ⟨z, its, n, r, e⟩ := h.ok I.hok
    exact ⟨its, r, ⟨_, n, e, rfl, rfl, rfl⟩, z⟩
  · refine ⟨its.toList, r, ⟨o, n, I.kIn a o hk, hc, hd, by simpa using hs⟩, ?_⟩
    have e := r.length
    simp only [Array.length_toList] at e
    omega
theorem Inv.tuple (I : Inv X pins σ H s) (h : SqT X.K H a xs) : ∃ its : List Value, Vals xs its ∧ IsTup s.heap a its.toArray ∧ xs.length ≤ sizeLine := by
  rcases h with h | ⟨o, its, n, hk, hc, hs, hz, r⟩
  · obtain ⟨z, its, r, p, _⟩ := h.ok I.hok
    exact ⟨its, r, p, z⟩
  · refine ⟨its.toList, r, ⟨o, I.kIn a o hk, hc, n, by simpa using hs⟩, ?_⟩
    have e := r.length
    simp only [Array.length_toList] at e
    omega
theorem Inv.list_inj (I : Inv X pins σ H s) (h : SqL X.K H a xs) (h' : SqL X.K H a ys) : xs = ys := by
  obtain ⟨its, r, ⟨o, n, e, _, _, d⟩, _⟩ := I.list h
  obtain ⟨its', r', ⟨o', n', e', _, _, d'⟩, _⟩ := I.list h'
  rw [e] at e'; cases e'
  rw [d] at d'
  injection d' with d1 _
  have : its = its' := by simpa using congrArg Array.toList d1
  subst this
  exact r.inj r'
theorem Inv.tuple_inj (I : Inv X pins σ H s) (h : SqT X.K H a xs) (h' : SqT X.K H a ys) : xs = ys := by
  obtain ⟨its, r, ⟨o, e, _, n, d⟩, _⟩ := I.tuple h
  obtain ⟨its', r', ⟨o', e', _, n', d'⟩, _⟩ := I.tuple h'
  rw [e] at e'; cases e'
  rw [d] at d'
  injection d' with d1 _
  have : its = its' := by simpa using congrArg Array.toList d1
  subst this
  exact r.inj r'
end
noncomputable abbrev Cx.wish (X : Cx) (E : Value → Shared → Prop) : Cx := { X with xe := E }
noncomputable abbrev Cx.nox (X : Cx) : Cx := X.wish fun _ _ => False
theorem Cx.Ok.wish {X : Cx} (ok : X.Ok) (E : Value → Shared → Prop) : (X.wish E).Ok :=
  ⟨ok.mod, ok.kind, ok.glob, ok.blt, ok.above, ok.inj, ok.has, ok.cab, ok.hd, ok.frames, ok.stk, ok.exf, ok.bs, ok.bsz, ok.noex, ok.exfs, ok.funs, ok.frf⟩
theorem Cx.Ok.unwish {X : Cx} {E : Value → Shared → Prop} (ok : (X.wish E).Ok) : X.Ok :=
  ⟨ok.mod, ok.kind, ok.glob, ok.blt, ok.above, ok.inj, ok.has, ok.cab, ok.hd, ok.frames, ok.stk, ok.exf, ok.bs, ok.bsz, ok.noex, ok.exfs, ok.funs, ok.frf⟩
section
variable {X : Cx} {pins : List (Addr × Obj)} {σ : St} {H : Hp} {s : Shared} {E : Value → Shared → Prop}
theorem Inv.wish (I : Inv X pins σ H s) (E : Value → Shared → Prop) : Inv (X.wish E) pins σ H s := ⟨I.ok.wish E, I.os, I.bare, I.base, I.loc, I.cell, I.free, I.freeC, I.pin, I.hok, I.len⟩
theorem Inv.unwish (I : Inv (X.wish E) pins σ H s) : Inv X pins σ H s := ⟨I.ok.unwish, I.os, I.bare, I.base, I.loc, I.cell, I.free, I.freeC, I.pin, I.hok, I.len⟩
theorem SP.unwish {D : Ends} {f : Flow} {s' : Shared} (h : SP (X.wish E) pins D f s') : SP X pins D f s' := by
  cases f with
  | next => obtain ⟨σ', H', I, q⟩ := h; exact ⟨σ', H', I.unwish, q⟩
  | brk => obtain ⟨σ', H', I, q⟩ := h; exact ⟨σ', H', I.unwish, q⟩
  | cont => obtain ⟨σ', H', I, q⟩ := h; exact ⟨σ', H', I.unwish, q⟩
  | ret u => obtain ⟨v, σ', H', I, r, q⟩ := h; exact ⟨v, σ', H', I.unwish, r, q⟩
theorem PE.nox {e : Expr} {t : TE} (h : PE X.nox e t) : PE X e t := fun pins s σ H Q I hw =>
  wpAny_mono (h pins s σ H Q (I.wish _) hw) (fun _ _ ⟨v, H', I', r, q⟩ => ⟨v, H', I'.unwish, r, q⟩) fun _ _ z => False.elim z
theorem PT.nox {e : Expr} {t : TT} (h : PT X.nox e t) : PT X e t := fun pins s σ H Q I hw =>
  wpAny_mono (h pins s σ H Q (I.wish _) hw) (fun _ _ ⟨H', I', q⟩ => ⟨H', I'.unwish, q⟩) fun _ _ z => False.elim z
theorem PSs.nox {st : List Stmt} {t : TS} (h : PSs X.nox st t) : PSs X st t := fun pins s σ H D I hw =>
  wpAny_mono (h pins s σ H D (I.wish _) hw) (fun _ _ q => q.unwish) fun _ _ z => False.elim z
end
section
variable {X : Cx} {st : Stmt} {rest : List Stmt} {t u : TS} {e : Expr} {te : TE} {pos : Pos}
noncomputable def tNext : TS := fun D σ H => D.nx σ H
noncomputable def tSeq (t u : TS) : TS := fun D σ H => t { D with nx := u D } σ H
theorem pss_nil : PSs X [] tNext := fun _ _ σ H _ I h => wpAny_execs_nil ⟨σ, H, I, h⟩
theorem pss_cons (h1 : PS X st t) (h2 : PSs X rest u) : PSs X (st :: rest) (tSeq t u) := by
  intro pins s σ H D I h
  refine wpAny_execs_cons (thn (h1 pins s σ H { D with nx := u D } I h) fun f s1 q => ?_)
  cases f with
  | next =>
    obtain ⟨σ', H', I', q⟩ := q
    exact h2 pins s1 σ' H' D I' q
  | ret v => exact q
  | brk => exact q
  | cont => exact q
theorem pss_one (h1 : PS X st t) : PSs X [st] t := by
  intro pins s σ H D I h
  refine wpAny_execs_cons (thn (h1 pins s σ H D I h) fun f s1 q => ?_)
  cases f with
  | next => exact wpAny_execs_nil q
  | ret v => exact q
  | brk => exact q
  | cont => exact q
theorem Inv.quiet {pins : List (Addr × Obj)} {σ : St} {H : Hp} {s : Shared} (I : Inv X pins σ H s) : interactive X.env = false := by simp [interactive, I.ok.kind]
noncomputable def tDrop (te : TE) : TS := fun D σ H => te σ H fun _ H1 => D.nx σ H1
theorem ps_expr (he : PE X e te) (hs : swapsWith e none pos.line X.env = pure false := by rfl) : PS X (.Expr e pos) (tDrop te) := by
  intro pins s σ H D I h
  exact wpAny_Expr_any (thn (he pins s σ H _ I h) fun v s1 ⟨x, H1, I1, r1, q1⟩ => ⟨σ, H1, I1, q1⟩) I.quiet hs
noncomputable def tRet (te : TE) : TS := fun D σ H => te σ H D.rt
theorem ps_ret (he : PE X e te) : PS X (.Return (some e) pos) (tRet te) := by
  intro pins s σ H D I h
  exact wpAny_Return_some (thn (he pins s σ H _ I h) fun v s1 ⟨x, H1, I1, r1, q1⟩ => ⟨x, σ, H1, I1, r1, q1⟩)
noncomputable def tIfS (c : TT) (t u : TS) : TS := fun D σ H => c σ H fun b H1 => if b = true then t D σ H1 else u D σ H1
theorem ps_if {c : Expr} {a b : List Stmt} {tc : TT} (hc : PT X c tc) (ha : PSs X a t) (hb : PSs X b u) : PS X (.If c a b pos) (tIfS tc t u) := by
  intro pins s σ H D I h
  refine wpAny_If (thn (hc pins s σ H _ I h) fun d s1 ⟨H1, I1, q1⟩ => ?_)
  cases d with
  | true => exact ha pins s1 σ H1 D I1 q1
  | false => exact hb pins s1 σ H1 D I1 q1
noncomputable def tNever : TS := fun _ _ _ => False
theorem ps_never : PS X st tNever := fun _ _ _ _ _ _ h => h.elim
end
noncomputable abbrev TG := V → St → Hp → (St → Hp → Prop) → Prop
noncomputable abbrev TGs := List V → St → Hp → (St → Hp → Prop) → Prop
noncomputable def PG (X : Cx) (target : Expr) (t : TG) : Prop :=
  ∀ (pins : List (Addr × Obj)) (s : Shared) (σ : St) (H : Hp) (v : V) (u : Value) (Q : St → Hp → Prop), Inv X pins σ H s → RelV v u → t v σ H Q →
    wpAny (model X.prog X.w) X.A (assign target X.env u) (fun _ s' => ∃ σ' H', Inv X pins σ' H' s' ∧ Q σ' H') X.xe s
noncomputable def PGs (X : Cx) (ts : List Expr) (t : TGs) : Prop :=
  ∀ (pins : List (Addr × Obj)) (s : Shared) (σ : St) (H : Hp) (vs : List V) (us : List Value) (Q : St → Hp → Prop), Inv X pins σ H s → Vals vs us → t vs σ H Q →
    wpAny (model X.prog X.w) X.A (assignInOrder ((assignEach ts X.env).map (·.2)) us) (fun _ s' => ∃ σ' H', Inv X pins σ' H' s' ∧ Q σ' H') X.xe s
noncomputable abbrev TSet := V → V → V → Hp → (Hp → Prop) → Prop
noncomputable def PSet (X : Cx) (t : TSet) : Prop :=
  ∀ (pins : List (Addr × Obj)) (s : Shared) (σ : St) (H : Hp) (o i v : V) (ov iv u : Value) (Q : Hp → Prop), Inv X pins σ H s → RelV o ov → RelV i iv → RelV v u → t o i v H Q →
    wpAny (model X.prog X.w) X.A (setItem ov iv u) (fun _ s' => ∃ H', Inv X pins σ H' s' ∧ Q H') X.xe s
section
variable {X : Cx} {pos : Pos}
noncomputable def gName (i : Nat) : TG := fun v σ H Q => Q (σ.set i (some v)) H
theorem pg_name {i : Nat} {x : Str} (hN : X.N.Nodup) (hi : X.N[i]? = some x) (hx : Loc X.env.scope x) (hf : X.fn x = true ∨ X.env.scope.names.lookup x = some .local := by first | exact .inl rfl | exact .inr rfl | assumption) : PG X (.Name x pos) (gName i) := by
  intro pins s σ H v u Q I r h
  exact wpAny_assign_Name (store_ok I hN hi hx r (fun s' I' => ⟨_, H, I', h⟩) hf)
noncomputable def gNil : TGs := fun vs σ H Q => vs = [] ∧ Q σ H
noncomputable def gCons (t : TG) (u : TGs) : TGs := fun vs σ H Q => ∃ v r, vs = v :: r ∧ t v σ H fun σ' H' => u r σ' H' Q
theorem pgs_nil : PGs X [] gNil := by
  intro pins s σ H vs us Q I r h
  obtain ⟨e, h⟩ := h
  subst e
  cases r
  exact assignInOrder_nil ⟨σ, H, I, h⟩
theorem pgs_cons {e : Expr} {es : List Expr} {t : TG} {u : TGs} (h1 : PG X e t) (h2 : PGs X es u)
    (hs : (assignEach (e :: es) X.env).map (·.2) = assign e X.env :: (assignEach es X.env).map (·.2) := by rfl) : PGs X (e :: es) (gCons t u) := by
  intro pins s σ H vs us Q I r h
  obtain ⟨v, vr, e1, h⟩ := h
  subst e1
  cases r with
  | cons r rr =>
    rw [hs]
    refine assignInOrder_cons (thn (h1 pins s σ H _ _ _ I r h) fun _ s1 ⟨σ1, H1, I1, q1⟩ => ?_)
    exact h2 pins s1 σ1 H1 _ _ Q I1 rr q1
noncomputable def gTup (K : PySem.W.Frag) (n : Nat) (t : TGs) : TG := fun v σ H Q => ∃ a xs, v = .ref a ∧ SqT K H a xs ∧ xs.length = n ∧ t xs σ H Q
theorem pg_tup {es : List Expr} {k : Nat} {t : TGs} {n : Nat} (hc : X.calm = true) (h : PGs X es t)
    (hn : (assignEach es X.env).length = n := by rfl) (hst : (assignEach es X.env).findIdx? (·.1) = none := by rfl) : PG X (.Tuple es k pos) (gTup X.K n t) := by
  intro pins s σ H v u Q I r hw
  obtain ⟨a, xs, e1, hq, hl, hw⟩ := hw
  subst e1
  cases r
  obtain ⟨its, rv, ht, hz⟩ := I.tuple hq
  refine assign_Tuple_tuple (I.ok.hd hc) ht (by simp [hn, ← hl, rv.length]) hst fun h' hx => ?_
  have I1 : Inv X pins σ H { s with heap := h' } := I.kept (t' := s.toks) fun b o e => hx b o (Nat.ne_of_lt (Heap.lt_size e)) e
  exact h pins _ σ H xs _ Q I1 (by simpa using rv) hw
noncomputable def gSub (to ti : TE) (t : TSet) : TG := fun v σ H Q => to σ H fun o H1 => ti σ H1 fun i H2 => t o i v H2 fun H3 => Q σ H3
theorem pg_sub {o i : Expr} {to ti : TE} {t : TSet} (ho : PE X o to) (hi : PE X i ti) (hs : PSet X t)
    (ha : ∀ v, assign (.Subscript o i pos) X.env v = (do
      let ov ← holding [v] (eval o X.env)
      let iv ← holding [v, ov] (eval i X.env)
      standAt pos
      holding [v, ov, iv] (setItem ov iv v)
      release [v, ov, iv] []) := by intro _; rfl) : PG X (.Subscript o i pos) (gSub to ti t) := by
  intro pins s σ H v u Q I r h
  rw [ha]
  refine wpAny_bind (wpAny_holding (thn (ho pins s σ H _ I h) fun ov s1 ⟨x, H1, I1, r1, q1⟩ => ?_))
  refine wpAny_bind (wpAny_holding (thn (hi pins s1 σ H1 _ I1 q1) fun iv s2 ⟨y, H2, I2, r2, q2⟩ => ?_))
  refine wpAny_bind (wpAny_standAt (wpAny_bind (wpAny_holding (thn (hs pins s2 σ H2 x y v ov iv u _ I2 r1 r2 r q2) fun _ s3 ⟨H3, I3, q3⟩ => ?_))))
  exact wpAny_release ⟨σ, H3, I3, q3⟩
noncomputable def tAsg (te : TE) (g : TG) : TS := fun D σ H => te σ H fun x H1 => g x σ H1 D.nx
theorem ps_asg {tg e : Expr} {te : TE} {g : TG} (he : PE X e te) (hg : PG X tg g) (hs : swapsWithSole [tg] e pos.line X.env = pure false := by rfl) (hw : swappedStores [tg] e X.env = pure none := by rfl)
    (h1 : (assignEach [tg] X.env).map (·.2) = [assign tg X.env] := by rfl) : PS X (.Assign [tg] e pos) (tAsg te g) := by
  intro pins s σ H D I h
  refine wpAny_Assign_stores (thn (he pins s σ H _ I h) fun v s1 ⟨x, H1, I1, r1, q1⟩ => ?_) hs hw
  rw [h1]
  exact thn (hg pins s1 σ H1 x v _ I1 r1 q1) fun _ s2 q => q
theorem ps_set {i : Nat} {x : Str} {e : Expr} {te : TE} {pos' : Pos} (hN : X.N.Nodup) (hi : X.N[i]? = some x) (hx : Loc X.env.scope x) (he : PE X e te) (hs : swapsWith e (some (.Name x pos')) pos.line X.env = pure false := by rfl) (hf : X.fn x = true ∨ X.env.scope.names.lookup x = some .local := by first | exact .inl rfl | exact .inr rfl | assumption) :
    PS X (.Assign [.Name x pos'] e pos) (tAsg te (gName i)) := by
  intro pins s σ H D I h
  refine wpAny_Assign_Name (thn (he pins s σ H _ I h) fun v s1 ⟨y, H1, I1, r1, q1⟩ => ?_) hs
  exact store_ok I1 hN hi hx r1 (fun s2 I2 => ⟨_, H1, I2, q1⟩) hf
noncomputable def tPar (i j : Nat) (ta : TA) : TS := fun D σ H => ta σ H fun vs H1 => ∃ v w, vs = [v, w] ∧ D.nx ((σ.set i (some v)).set j (some w)) H1
theorem ps_par {i j : Nat} {x y : Str} {a b : Expr} {ta : TA} {px py pt : Pos} {kt k2 pt2} (hc : X.calm = true) (hN : X.N.Nodup) (hi : X.N[i]? = some x) (hj : X.N[j]? = some y) (hij : i ≠ j)
    (hx : X.env.scope.names.lookup x = some .local) (hy : X.env.scope.names.lookup y = some .local) (ha : PA X [a, b] ta)
    (hw : swappedStores [.Tuple [.Name x px, .Name y py] kt pt] (.Tuple [a, b] k2 pt2) X.env = pure (some [x, y]))
    (hs : swapsWithSole [.Tuple [.Name x px, .Name y py] kt pt] (.Tuple [a, b] k2 pt2) pos.line X.env = pure false := by rfl) :
    PS X (.Assign [.Tuple [.Name x px, .Name y py] kt pt] (.Tuple [a, b] k2 pt2) pos) (tPar i j ta) := by
  intro pins s σ H D I h
  rw [exec_Assign_arm]
  refine wpAny_bind (wpAny_standAt ?_)
  rw [hs]
  refine wpAny_bind (wpAny_pure ?_)
  rw [if_neg (by decide)]
  refine wpAny_bind (Tuple_ (thn (ha _ pins s σ H _ I h) fun us s1 ⟨vs, H1, I1, r1, q1⟩ => ?_))
  obtain ⟨v, w, e1, q1⟩ := q1
  subst e1
  obtain ⟨u1, u2, rfl, rv, rw'⟩ : ∃ u1 u2, us = [u1, u2] ∧ RelV v u1 ∧ RelV w u2 := by
    cases r1 with
    | cons p q =>
      cases q with
      | cons p' q' =>
        cases q'
        exact ⟨_, _, rfl, p, p'⟩
  refine wpAny_newObj_type ?_ (by show 2 ≤ sizeLine; decide)
  have I2 : Inv X pins σ H1 { s1 with heap := s1.heap.push { cls := .type "tuple", data := .seq [u1, u2].toArray } } := I1.kept (t' := s1.toks) fun b o e => Heap.get?_push_of_some _ e
  rw [hw]
  refine wpAny_bind (wpAny_pure ?_)
  show wpAny (model X.prog X.w) X.A (do rule "assign.swapped-stores"; let items ← unpackItems (.ref s1.heap.objs.size) 2 none; assignInOrder [fun v => bindName X.env y v, fun v => bindName X.env x v] items.reverse; pure Flow.next) _ _ _
  refine wpAny_bind (wpAny_rule (wpAny_bind (unpackItems_tuple (items := #[u1, u2]) (I.ok.hd hc) (IsTup.new s1.heap _) fun h' hx' => ?_)))
  have I3 := I2.kept (h' := h') (t' := s1.toks) fun b o e => hx' b o (Nat.ne_of_lt (Heap.lt_size e)) e
  show wpAny _ _ (assignInOrder [fun v => bindName X.env y v, fun v => bindName X.env x v] [u2, u1] >>= fun _ => pure Flow.next) _ _ _
  refine wpAny_bind (assignInOrder_cons (wpAny_bindName (store_ok I3 hN hj (.inl hy) rw' (fun s2 I4 => ?_) (.inr hy))))
  refine assignInOrder_cons (wpAny_bindName (store_ok I4 hN hi (.inl hx) rv (fun s3 I5 => assignInOrder_nil (wpAny_pure ?_)) (.inr hx)))
  rw [List.set_comm _ _ (Ne.symm hij)] at I5
  exact ⟨_, H1, I5, q1⟩
end
section
variable {X : Cx} {pos : Pos}
noncomputable def tWhile (c : TT) (tb : TS) : TS := fun D σ H => ∃ W : Nat → St → Hp → Prop, (∃ m, W m σ H) ∧ ∀ m σ H, W m σ H →
  c σ H fun b H1 => if b = true then ∃ N : St → Hp → Prop, (∀ σ' H', N σ' H' → ∃ m', m' < m ∧ W m' σ' H') ∧ tb { D with nx := N, ct := N, bk := D.nx } σ H1 else D.nx σ H1
theorem ps_while {c : Expr} {body : List Stmt} {tc : TT} {tb : TS} (hp : PassesOwn (model X.prog X.w) X.A X.env X.xe) (hc : PT X c tc) (hb : PSs X body tb) : PS X (.While c body [] pos) (tWhile tc tb) := by
  intro pins s σ H D I h
  obtain ⟨W, ⟨m0, w0⟩, turn⟩ := h
  refine wpAny_While (codeAny_whileLoop (fun n s' => ∃ σ' H', Inv X pins σ' H' s' ∧ W n σ' H') ?_ m0 ⟨σ, H, I, w0⟩)
  rintro n s1 ⟨σ1, H1, I1, w1⟩
  refine wpAny_passesOwn hp (thn (hc pins s1 σ1 H1 _ I1 (turn n σ1 H1 w1)) fun b s2 ⟨H2, I2, q2⟩ => ?_)
  cases b with
  | true =>
    obtain ⟨N, hN, q2⟩ := q2
    rw [if_pos rfl]
    refine wpAny_passesOwn hp (thn (hb pins s2 σ1 H2 _ I2 q2) fun f s3 q3 => ?_)
    cases f with
    | next =>
      obtain ⟨σ3, H3, I3, n3⟩ := q3
      obtain ⟨m', hm, w3⟩ := hN σ3 H3 n3
      exact ⟨m', hm, σ3, H3, I3, w3⟩
    | cont =>
      obtain ⟨σ3, H3, I3, n3⟩ := q3
      obtain ⟨m', hm, w3⟩ := hN σ3 H3 n3
      exact ⟨m', hm, σ3, H3, I3, w3⟩
    | brk => exact q3
    | ret v => exact q3
  | false =>
    rw [if_neg Bool.false_ne_true]
    exact wpAny_execs_nil ⟨σ1, H2, I2, q2⟩
end
structure It where
  go : Nat → Hp → Prop
  yld : Nat → Hp → V → Hp → Prop
  stop : Nat → Hp → Prop
noncomputable def FpOk (X : Cx) (pins : List (Addr × Obj)) (H : Hp) (b : Addr) : Prop :=
  H b = none ∧ b ≠ X.env.locals ∧ b ∉ X.fs ∧ (b ∈ X.ex ∨ X.s₀.heap.objs.size ≤ b) ∧ (∀ x c, X.env.cells.lookup x = some c → c ≠ b) ∧ ∀ p ∈ X.pn ++ pins, p.1 ≠ b
theorem Inv.fpOk {X : Cx} {pins : List (Addr × Obj)} {σ : St} {H H' : Hp} {s : Shared} {b : Addr} (I : Inv X pins σ H s) (hb : s.heap.objs.size ≤ b) (hn : H' b = none) : FpOk X pins H' b := by
  refine ⟨hn, Nat.ne_of_gt (Nat.lt_of_lt_of_le I.lt hb), I.nofs hb, .inr (Nat.le_trans I.sz hb), fun x c e z => ?_, fun p hp z => ?_⟩
  · obtain ⟨v, q⟩ := I.cell x c e
    exact absurd (Nat.lt_of_lt_of_le q.lt (by rw [z]; exact hb)) (Nat.lt_irrefl _)
  · exact absurd (Nat.lt_of_lt_of_le (Heap.lt_size (I.pin p hp).1) (by rw [z]; exact hb)) (Nat.lt_irrefl _)
structure Turn (P : Program) (w : World) (K : PySem.W.Frag) (tg : Expr) (J : It) (fp : List Addr) (it : Addr) (tn : Nat → Heap → Prop) : Prop where
  mem : it ∈ fp
  obj : ∀ i h, tn i h → ∀ b ∈ fp, ∃ o, h.get? b = some o ∧ ∀ v, o.data ≠ .cell v
  keep : ∀ i h h', tn i h → (∀ b ∈ fp, ∀ o, h.get? b = some o → h'.get? b = some o) → tn i h'
  item : ∀ (X : Cx), X.prog = P → X.w = w → X.K = K → X.calm = true → ∀ (i : Nat) (pins : List (Addr × Obj)) (s : Shared) (σ : St) (H : Hp) (E : Value → Shared → Prop), Inv X pins σ H s → (∀ b ∈ fp, FpOk X pins H b) → tn i s.heap → J.go i H →
    wpAny (model P w) X.A (pyNext (.ref it)) (fun r s1 => ∃ u, r = some u ∧
      wpAny (model P w) X.A (letOwnedTupleGo tg (.ref it) u) (fun _ s2 => ∃ x H', Inv X pins σ H' s2 ∧ RelV x u ∧ J.yld i H x H' ∧ tn (i + 1) s2.heap ∧ ∀ b ∈ fp, H' b = none) E s1) E s
  done : ∀ (X : Cx), X.prog = P → X.w = w → X.K = K → X.calm = true → ∀ (i : Nat) (pins : List (Addr × Obj)) (s : Shared) (σ : St) (H : Hp) (E : Value → Shared → Prop), Inv X pins σ H s → (∀ b ∈ fp, FpOk X pins H b) → tn i s.heap → J.stop i H →
    wpAny (model P w) X.A (pyNext (.ref it)) (fun r s1 => r = none ∧ Inv X pins σ H s1) E s
  self : ∀ (A : Around) (i : Nat) (s : Shared) (Q : Value → Shared → Prop) (E : Value → Shared → Prop), tn i s.heap → Q (.ref it) s → wpAny (model P w) A (pyIter (.ref it)) Q E s
noncomputable abbrev TI := St → Hp → (It → Hp → Prop) → Prop
noncomputable def PIE (X : Cx) (pins : List (Addr × Obj)) (σ : St) (tg : Expr) (R : It → Hp → Prop) (itv : Value) (s2 : Shared) : Prop :=
  ∃ (it : Addr) (fp : List Addr) (tn : Nat → Heap → Prop) (J : It) (H' : Hp), itv = .ref it ∧ Inv X pins σ H' s2 ∧ Turn X.prog X.w X.K tg J fp it tn ∧ tn 0 s2.heap ∧ (∀ b ∈ fp, FpOk X pins H' b) ∧ R J H'
noncomputable def PI (X : Cx) (tg iter : Expr) (wi : TI) : Prop :=
  ∀ (pins : List (Addr × Obj)) (s : Shared) (σ : St) (H : Hp) (R : It → Hp → Prop), Inv X pins σ H s → wi σ H R →
    wpAny (model X.prog X.w) X.A (eval iter X.env) (fun v s1 => wpAny (model X.prog X.w) X.A (pyIter v) (PIE X pins σ tg R) X.xe s1) X.xe s
theorem go_of {M : Model} {A : Around} {E : Value → Shared → Prop} {s : Shared} {tg : Expr} {it : Addr} {u : Value} {o : Obj} {n : String} {vs : Array Value} {Q : Unit → Shared → Prop} (ho : s.heap.get? it = some o) (hc : o.cls = .type n) (hd : o.data = .fields vs)
    (hn : ["enumerate", "zip", "dict_itemiterator", "dict_reverseitemiterator", "odict_iterator", "itertools.zip_longest", "itertools.pairwise"].contains n = false) (hQ : Q () s) : wpAny M A (letOwnedTupleGo tg (.ref it) u) Q E s := by
  unfold letOwnedTupleGo
  cases tg <;> first
    | exact wpAny_pure hQ
    | (cases u <;> first
        | exact wpAny_pure hQ
        | (refine wpAny_bind (wpAny_load ho ?_)
           rw [hc, hd]
           show wpAny M A (if (["enumerate", "zip", "dict_itemiterator", "dict_reverseitemiterator", "odict_iterator", "itertools.zip_longest", "itertools.pairwise"].contains n && vs[0]? == some (rawInt _)) = true then _ else _) Q E s
           rw [if_neg (by intro h; rw [hn, Bool.false_and] at h; cases h)]
           exact wpAny_pure hQ))
noncomputable def Itl (K : PySem.W.Frag) (a : Addr) : It :=
  ⟨fun i H => ∃ xs x, SqL K H a xs ∧ xs[i]? = some x, fun i H x H' => H' = H ∧ ∀ xs, SqL K H a xs → xs[i]? = some x, fun i H => ∃ xs, SqL K H a xs ∧ xs.length ≤ i⟩
noncomputable def Itt (K : PySem.W.Frag) (a : Addr) : It :=
  ⟨fun i H => ∃ xs x, SqT K H a xs ∧ xs[i]? = some x, fun i H x H' => H' = H ∧ ∀ xs, SqT K H a xs → xs[i]? = some x, fun i H => ∃ xs, SqT K H a xs ∧ xs.length ≤ i⟩
noncomputable def Itr (lo : Int) (n : Nat) : It := ⟨fun i _ => i < n, fun i H x H' => H' = H ∧ x = .int (lo + i), fun i _ => n ≤ i⟩
theorem turn_list {P : Program} {w : World} {K : PySem.W.Frag} {tg : Expr} (a it : Addr) : Turn P w K tg (Itl K a) [it] it (fun i h => h.IsListIter it a i) where
  mem := by simp
  obj := fun i h st b hb => by
    have e : b = it := by simpa using hb
    subst e
    obtain ⟨o, e, c, d⟩ := st
    exact ⟨o, e, fun v z => by rw [d] at z; cases z⟩
  keep := fun i h h' st k => st.at fun o e => k it (by simp) o e
  item := by
    intro X hP hw hK hc i pins s σ H E I hf st hg
    subst hP hw hK
    obtain ⟨xs, x, hq, hx⟩ := hg
    obtain ⟨its, rv, p, hz⟩ := I.list hq
    obtain ⟨u, hu, ru⟩ := rv.get hx
    obtain ⟨f0, f1, f2, f3, f4, f5⟩ := hf it (by simp)
    refine wpAny_pyNext_list_item st p.isList (x := u) (by simpa using hu) fun h' st' sb => ?_
    have I1 : Inv X pins σ H { s with heap := h' } := I.turned (t' := s.toks) (fun b o hb e => (sb.2 b hb).trans e) f0 f1 f3 f4 f5
    obtain ⟨o, e, c, d⟩ := id st'
    exact ⟨u, rfl, go_of (s := { s with heap := h' }) e c d (by decide) ⟨x, H, I1, ru, ⟨rfl, fun ys hy => by rw [I.list_inj hy hq]; exact hx⟩, st', fun b hb => (hf b hb).1⟩⟩
  done := by
    intro X hP hw hK hc i pins s σ H E I hf st hg
    subst hP hw hK
    obtain ⟨xs, hq, hx⟩ := hg
    obtain ⟨its, rv, p, hz⟩ := I.list hq
    obtain ⟨f0, f1, f2, f3, f4, f5⟩ := hf it (by simp)
    have hl := rv.length
    exact wpAny_pyNext_list_end (I.ok.hd hc) st p.isList (by simp; omega) fun h' eb => ⟨rfl, I.turned (t' := s.toks) (fun b o hb e => eb b o hb e) f0 f1 f3 f4 f5⟩
  self := fun _ _ _ _ _ st h => wpAny_pyIter_listiter st h
theorem turn_tuple {P : Program} {w : World} {K : PySem.W.Frag} {tg : Expr} (a it : Addr) : Turn P w K tg (Itt K a) [it] it (fun i h => h.IsTupleIter it a i) where
  mem := by simp
  obj := fun i h st b hb => by
    have e : b = it := by simpa using hb
    subst e
    obtain ⟨o, e, c, d⟩ := st
    exact ⟨o, e, fun v z => by rw [d] at z; cases z⟩
  keep := fun i h h' st k => st.at fun o e => k it (by simp) o e
  item := by
    intro X hP hw hK hc i pins s σ H E I hf st hg
    subst hP hw hK
    obtain ⟨xs, x, hq, hx⟩ := hg
    obtain ⟨its, rv, p, hz⟩ := I.tuple hq
    obtain ⟨u, hu, ru⟩ := rv.get hx
    obtain ⟨f0, f1, f2, f3, f4, f5⟩ := hf it (by simp)
    refine wpAny_pyNext_tuple_item st (show s.heap.IsTuple a its.toArray from p) (x := u) (by simpa using hu) fun h' st' sb => ?_
    have I1 : Inv X pins σ H { s with heap := h' } := I.turned (t' := s.toks) (fun b o hb e => (sb.2 b hb).trans e) f0 f1 f3 f4 f5
    obtain ⟨o, e, c, d⟩ := id st'
    exact ⟨u, rfl, go_of (s := { s with heap := h' }) e c d (by decide) ⟨x, H, I1, ru, ⟨rfl, fun ys hy => by rw [I.tuple_inj hy hq]; exact hx⟩, st', fun b hb => (hf b hb).1⟩⟩
  done := by
    intro X hP hw hK hc i pins s σ H E I hf st hg
    subst hP hw hK
    obtain ⟨xs, hq, hx⟩ := hg
    obtain ⟨its, rv, p, hz⟩ := I.tuple hq
    obtain ⟨f0, f1, f2, f3, f4, f5⟩ := hf it (by simp)
    have hl := rv.length
    exact wpAny_pyNext_tuple_end (I.ok.hd hc) st (show s.heap.IsTuple a its.toArray from p) (by simp; omega) fun h' eb => ⟨rfl, I.turned (t' := s.toks) (fun b o hb e => eb b o hb e) f0 f1 f3 f4 f5⟩
  self := fun _ _ _ _ _ st h => wpAny_pyIter_tupleiter st h
theorem turn_range {P : Program} {w : World} {K : PySem.W.Frag} {tg : Expr} (it : Addr) (lo : Int) (n : Nat) : Turn P w K tg (Itr lo n) [it] it (fun i h => IsRangeIter h it (lo + (i : Nat) * 1) ((n : Int) - (i : Nat)) 1) where
  mem := by simp
  obj := fun i h st b hb => by
    have e : b = it := by simpa using hb
    subst e
    exact ⟨_, st, fun v z => by
      have z' : Data.fields _ = Data.cell v := z
      cases z'⟩
  keep := fun i h h' st k => k it (by simp) _ st
  item := by
    intro X hP hw hK hc i pins s σ H E I hf st hg
    subst hP hw hK
    obtain ⟨f0, f1, f2, f3, f4, f5⟩ := hf it (by simp)
    have W := Walks.range (prog := X.prog) (w := X.w) (I.ok.hd hc) it lo 1 n
    refine W.item i s _ _ hg st fun v h' tk hv st' kk => ?_
    obtain ⟨t, rfl⟩ := hv
    have I1 : Inv X pins σ H { s with heap := h', toks := tk } := I.turned (fun b o hb e => kk b o (by simpa using hb) e) f0 f1 f3 f4 f5
    refine ⟨_, rfl, go_of (s := { s with heap := h', toks := tk }) (n := "range_iterator") st' rfl rfl (by decide) ⟨.int (lo + i), H, I1, ⟨t, ?_⟩, ⟨rfl, rfl⟩, st', fun b hb => (hf b hb).1⟩⟩
    rw [Int.mul_one]
  done := by
    intro X hP hw hK hc i pins s σ H E I hf st hg
    subst hP hw hK
    obtain ⟨f0, f1, f2, f3, f4, f5⟩ := hf it (by simp)
    exact wpAny_pyNext_range_end (I.ok.hd hc) st (by have : n ≤ i := hg; omega) fun h' eb => ⟨rfl, I.turned (t' := s.toks) (fun b o hb e => eb b o hb e) f0 f1 f3 f4 f5⟩
  self := fun _ _ _ _ _ st h => wpAny_pyIter_rangeiter st h
end L2
namespace L2
open PySem PySem.Spec PyProof.Rows
section
variable {X : Cx} {tg : Expr}
noncomputable def iList (K : PySem.W.Frag) (tl : TE) : TI := fun σ H R => tl σ H fun x H1 => ∃ a, x = .ref a ∧ (∃ xs, SqL K H1 a xs) ∧ R (Itl K a) H1
noncomputable def iTup (K : PySem.W.Frag) (tl : TE) : TI := fun σ H R => tl σ H fun x H1 => ∃ a, x = .ref a ∧ (∃ xs, SqT K H1 a xs) ∧ R (Itt K a) H1
theorem pi_list {l : Expr} {tl : TE} (hl : PE X l tl) : PI X tg l (iList X.K tl) := by
  intro pins s σ H R I h
  refine thn (hl pins s σ H _ I h) fun v s1 ⟨x, H1, I1, r1, q1⟩ => ?_
  obtain ⟨a, e, ⟨xs, hq⟩, q⟩ := q1
  subst e
  cases r1
  obtain ⟨its, rv, p, hz⟩ := I1.list hq
  refine wpAny_pyIter_list p.isList ?_
  refine ⟨s1.heap.objs.size, [s1.heap.objs.size], _, _, H1, rfl, I1.kept (t' := s1.toks) fun b o e => Heap.get?_push_of_some _ e, turn_list a _, ⟨_, Heap.get?_push_size _ rfl, rfl, rfl⟩, fun b hb => ?_, q⟩
  have e : b = s1.heap.objs.size := by simpa using hb
  subst e
  exact I1.fpOk (Nat.le_refl _) (I1.hok.fresh (Nat.le_refl _))
theorem pi_tup {l : Expr} {tl : TE} (hl : PE X l tl) : PI X tg l (iTup X.K tl) := by
  intro pins s σ H R I h
  refine thn (hl pins s σ H _ I h) fun v s1 ⟨x, H1, I1, r1, q1⟩ => ?_
  obtain ⟨a, e, ⟨xs, hq⟩, q⟩ := q1
  subst e
  cases r1
  obtain ⟨its, rv, p, hz⟩ := I1.tuple hq
  refine wpAny_pyIter_tuple (show s1.heap.IsTuple a its.toArray from p) ?_
  refine ⟨s1.heap.objs.size, [s1.heap.objs.size], _, _, H1, rfl, I1.kept (t' := s1.toks) fun b o e => Heap.get?_push_of_some _ e, turn_tuple a _, ⟨_, Heap.get?_push_size _ rfl, rfl, rfl⟩, fun b hb => ?_, q⟩
  have e : b = s1.heap.objs.size := by simpa using hb
  subst e
  exact I1.fpOk (Nat.le_refl _) (I1.hok.fresh (Nat.le_refl _))
theorem range_it {pins : List (Addr × Obj)} {σ : St} {H : Hp} {s : Shared} {R : It → Hp → Prop} {E : Value → Shared → Prop} {lo hi : Int} {t u v : Tok} {tk : Nat} (I : Inv X pins σ H s) (h1 : -(2 ^ 62) ≤ lo) (h2 : lo < 2 ^ 62) (h3 : -(2 ^ 62) ≤ hi) (h4 : hi < 2 ^ 62)
    (q : R (Itr lo (hi - lo).toNat) H) : wpAny (model X.prog X.w) X.A (pyIter (.ref s.heap.objs.size)) (PIE X pins σ tg R) E { s with heap := s.heap.push { cls := .type "range", data := .fields #[.int lo t, .int hi u, .int 1 v] }, toks := tk } := by
  refine wpAny_pyIter_range (IsRange.new ..) (small_one h1 h2 h3 h4) ?_
  have I1 : Inv X pins σ H { s with heap := s.heap.push { cls := .type "range", data := .fields #[.int lo t, .int hi u, .int 1 v] }, toks := tk } := I.kept fun b o e => Heap.get?_push_of_some _ e
  refine ⟨(s.heap.push { cls := .type "range", data := .fields #[.int lo t, .int hi u, .int 1 v] }).objs.size, [(s.heap.push { cls := .type "range", data := .fields #[.int lo t, .int hi u, .int 1 v] }).objs.size], _, _, H, rfl,
    I1.kept (t' := tk) fun b o e => Heap.get?_push_of_some _ e, turn_range _ lo (hi - lo).toNat, ?_, fun b hb => ?_, q⟩
  · have e1 : lo + ((0 : Nat) : Int) * 1 = lo := by simp
    have e2 : (((hi - lo).toNat : Nat) : Int) - ((0 : Nat) : Int) = Builtin.Range.rangeSize lo hi 1 := by rw [rangeSize_one]; split <;> omega
    show IsRangeIter _ _ (lo + ((0 : Nat) : Int) * 1) ((((hi - lo).toNat : Nat) : Int) - ((0 : Nat) : Int)) 1
    rw [e1, e2]
    exact Heap.get?_push_size _ rfl
  · have e : b = (s.heap.push { cls := .type "range", data := .fields #[.int lo t, .int hi u, .int 1 v] }).objs.size := by simpa using hb
    subst e
    exact I1.fpOk (Nat.le_refl _) (I1.hok.fresh (Nat.le_refl _))
noncomputable def iRng1 (ta : TA) : TI := fun σ H R => ta σ H fun vs H1 => ∃ j : Int, vs = [.int j] ∧ -(2 ^ 62) ≤ j ∧ j < 2 ^ 62 ∧ R (Itr 0 j.toNat) H1
theorem pi_range1 {a : Expr} {ta : TA} {p pos : Pos} (hg : Gl X "range") (hm : X.mg "range" = none) (ha : PA X [a] ta) (hs : starEach [a] X.env = [(false, eval a X.env)] := by rfl) : PI X tg (.Call (.Name "range" p) [a] [] pos) (iRng1 ta) := by
  intro pins s σ H R I h
  refine Call_ (ld_blt I hg hm boot_range (PyProof.Rows.callWith_type1 (thn (ha pos pins s σ H _ I h) fun us s1 ⟨vs, H1, I1, r1, q1⟩ => ?_) hs rfl))
  obtain ⟨j, e, q1, q2, q⟩ := q1
  subst e
  cases r1 with
  | cons r rr =>
    cases rr
    obtain ⟨t, rfl⟩ := r
    exact call_range_1 (range_it I1 (by omega) (by omega) q1 q2 (by simpa using q))
noncomputable def tFor (wi : TI) (g : TG) (tb : TS) : TS := fun D σ H => wi σ H fun J H1 => ∃ W : Nat → Nat → St → Hp → Prop, (∃ m, W 0 m σ H1) ∧ ∀ i m σ H, W i m σ H →
  (J.stop i H ∧ D.nx σ H) ∨ (J.go i H ∧ ∃ N : St → Hp → Prop, (∀ σ' H', N σ' H' → ∃ m', m' < m ∧ W (i + 1) m' σ' H') ∧ ∀ x H', J.yld i H x H' → g x σ H' fun σ2 H2 => tb { D with nx := N, ct := N, bk := D.nx } σ2 H2)
noncomputable def pinsAt (fp : List Addr) (h : Heap) : List (Addr × Obj) := fp.filterMap fun b => (h.get? b).map fun o => (b, o)
theorem mem_pinsAt {fp : List Addr} {h : Heap} {b : Addr} {o : Obj} (hb : b ∈ fp) (e : h.get? b = some o) : (b, o) ∈ pinsAt fp h := List.mem_filterMap.mpr ⟨b, hb, by rw [e]; rfl⟩
theorem of_pinsAt {fp : List Addr} {h : Heap} {p : Addr × Obj} (hp : p ∈ pinsAt fp h) : p.1 ∈ fp ∧ h.get? p.1 = some p.2 := by
  obtain ⟨b, hb, e⟩ := List.mem_filterMap.mp hp
  cases q : h.get? b with
  | none => rw [q] at e; cases e
  | some o =>
    rw [q] at e
    have e' : (b, o) = p := Option.some.inj e
    subst e'
    exact ⟨hb, q⟩
theorem Inv.pinned {pins : List (Addr × Obj)} {σ : St} {H : Hp} {s : Shared} {fp : List Addr} (I : Inv X pins σ H s) (hf : ∀ b ∈ fp, FpOk X pins H b) (ho : ∀ b ∈ fp, ∃ o, s.heap.get? b = some o ∧ ∀ v, o.data ≠ .cell v) : Inv X (pins ++ pinsAt fp s.heap) σ H s :=
  I.pins_of fun p hp => (List.mem_append.mp hp).elim (fun z => I.pin p (List.mem_append_right _ z)) fun z => by
    obtain ⟨hb, e⟩ := of_pinsAt z
    obtain ⟨f0, f1, f2, _⟩ := hf p.1 hb
    obtain ⟨o, e', d⟩ := ho p.1 hb
    rw [e] at e'; cases e'
    exact ⟨e, f0, f1, f2, d⟩
theorem Inv.unpinned {pins pl : List (Addr × Obj)} {σ : St} {H : Hp} {s : Shared} (I : Inv X (pins ++ pl) σ H s) : Inv X pins σ H s := I.pins_of fun p hp => I.pin p (List.mem_append_right _ (List.mem_append_left _ hp))
theorem ps_for {iter : Expr} {body : List Stmt} {wi : TI} {g : TG} {tb : TS} {pos : Pos} (hp : PassesOwn (model X.prog X.w) X.A X.env X.xe) (hc : X.calm = true) (hi : PI X tg iter wi) (hg : PG X tg g) (hb : PSs X body tb)
    (hs : ∀ x, foldedSetIterable iter X.env x = pure x := by intro _; rfl) : PS X (.For tg iter body [] pos) (tFor wi g tb) := by
  intro pins s σ H D I h
  refine wpAny_For (thn (hi pins s σ H _ I h) fun v s1 h1 => thn h1 fun itv s2 h2 => ?_) hs
  obtain ⟨it, fp, tn, J, H2, e, I2, T, st2, f2, W, ⟨m0, w0⟩, turn⟩ := h2
  subst e
  -- what stays true of the iterator's objects through the loop
  have stat : ∀ {H' : Hp}, (∀ b ∈ fp, H' b = none) → ∀ b ∈ fp, FpOk X pins H' b := fun hn b hb => ⟨hn b hb, (f2 b hb).2⟩
  refine codeAny_forLoop_any (fun n s' => ∃ i σ' H', Inv X pins σ' H' s' ∧ tn i s'.heap ∧ (∀ b ∈ fp, H' b = none) ∧ W i n σ' H') ?_ m0 ⟨0, σ, H2, I2, st2, fun b hb => (f2 b hb).1, w0⟩
  rintro n s3 ⟨i, σ3, H3, I3, st3, fr3, w3⟩
  rcases turn i n σ3 H3 w3 with ⟨stop, qn⟩ | ⟨go, N, hN, step⟩
  · refine wpAny_passesOwn hp (thn (T.done X rfl rfl rfl hc i pins s3 σ3 H3 X.xe I3 (stat fr3) st3 stop) fun r s4 ⟨hr, I4⟩ => ?_)
    subst hr
    exact wpAny_execs_nil ⟨σ3, H3, I4, qn⟩
  · refine wpAny_passesOwn hp (thn (T.item X rfl rfl rfl hc i pins s3 σ3 H3 X.xe I3 (stat fr3) st3 go) fun r s4 ⟨u, hr, h4⟩ => ?_)
    subst hr
    refine wpAny_passesOwn hp (thn h4 fun _ s5 ⟨x, H5, I5, r5, y5, st5, fr5⟩ => ?_)
    have I5' := I5.pinned (stat fr5) (T.obj _ _ st5)
    refine wpAny_passesOwn hp (thn (hg _ s5 σ3 H5 x u _ I5' r5 (step x H5 y5)) fun _ s6 ⟨σ6, H6, I6, q6⟩ => ?_)
    refine wpAny_passesOwn hp (thn (hb _ s6 σ6 H6 _ I6 q6) fun f s7 q7 => ?_)
    have again : ∀ {σ7 : St} {H7 : Hp}, Inv X (pins ++ pinsAt fp s5.heap) σ7 H7 s7 → N σ7 H7 → ∃ m, m < n ∧ ∃ i σ' H', Inv X pins σ' H' s7 ∧ tn i s7.heap ∧ (∀ b ∈ fp, H' b = none) ∧ W i m σ' H' := fun {σ7 H7} I7 n7 => by
      obtain ⟨m', hm, w7⟩ := hN σ7 H7 n7
      refine ⟨m', hm, i + 1, σ7, H7, I7.unpinned, T.keep _ _ _ st5 fun b hb o e => (I7.pin (b, o) (List.mem_append_right _ (List.mem_append_right _ (mem_pinsAt hb e)))).1, fun b hb => ?_, w7⟩
      obtain ⟨o, e, d⟩ := T.obj _ _ st5 b hb
      exact (I7.pin (b, o) (List.mem_append_right _ (List.mem_append_right _ (mem_pinsAt hb e)))).2.1
    cases f with
    | next => obtain ⟨σ7, H7, I7, n7⟩ := q7; exact again I7 n7
    | cont => obtain ⟨σ7, H7, I7, n7⟩ := q7; exact again I7 n7
    | brk => obtain ⟨σ7, H7, I7, q7⟩ := q7; exact ⟨σ7, H7, I7.unpinned, q7⟩
    | ret v => obtain ⟨x7, σ7, H7, I7, r7, q7⟩ := q7; exact ⟨x7, σ7, H7, I7.unpinned, r7, q7⟩
end
theorem for_list {K : PySem.W.Frag} {a : Addr} {xs : List V} {g : TG} {tb : TS} {D : Ends} {σ : St} {H : Hp} (Pv : Nat → St → Hp → Prop) (h0 : Pv 0 σ H) (hl : ∀ i σ H, i ≤ xs.length → Pv i σ H → SqL K H a xs)
    (hs : ∀ i x σ H, xs[i]? = some x → Pv i σ H → g x σ H fun σ2 H2 => tb { D with nx := Pv (i + 1), ct := Pv (i + 1), bk := D.nx } σ2 H2) (hd : ∀ σ H, Pv xs.length σ H → D.nx σ H) :
    ∃ W : Nat → Nat → St → Hp → Prop, (∃ m, W 0 m σ H) ∧ ∀ i m σ H, W i m σ H →
      ((Itl K a).stop i H ∧ D.nx σ H) ∨ ((Itl K a).go i H ∧ ∃ N : St → Hp → Prop, (∀ σ' H', N σ' H' → ∃ m', m' < m ∧ W (i + 1) m' σ' H') ∧ ∀ x H', (Itl K a).yld i H x H' → g x σ H' fun σ2 H2 => tb { D with nx := N, ct := N, bk := D.nx } σ2 H2) := by
  refine ⟨fun i m σ H => m = xs.length - i ∧ i ≤ xs.length ∧ Pv i σ H, ⟨xs.length, by simp, Nat.zero_le _, h0⟩, ?_⟩
  rintro i m σ H ⟨rfl, hi, p⟩
  have q := hl i σ H hi p
  by_cases hlt : i < xs.length
  · refine .inr ⟨⟨xs, xs[i], q, by simp [hlt]⟩, Pv (i + 1), fun σ' H' p' => ⟨xs.length - (i + 1), by omega, rfl, hlt, p'⟩, fun x H' y => ?_⟩
    obtain ⟨e, y⟩ := y
    subst e
    exact hs i x σ _ (y xs q) p
  · have e : i = xs.length := by omega
    subst e
    exact .inl ⟨⟨xs, q, Nat.le_refl _⟩, hd σ H p⟩
theorem for_tup {K : PySem.W.Frag} {a : Addr} {xs : List V} {g : TG} {tb : TS} {D : Ends} {σ : St} {H : Hp} (Pv : Nat → St → Hp → Prop) (h0 : Pv 0 σ H) (hl : ∀ i σ H, i ≤ xs.length → Pv i σ H → SqT K H a xs)
    (hs : ∀ i x σ H, xs[i]? = some x → Pv i σ H → g x σ H fun σ2 H2 => tb { D with nx := Pv (i + 1), ct := Pv (i + 1), bk := D.nx } σ2 H2) (hd : ∀ σ H, Pv xs.length σ H → D.nx σ H) :
    ∃ W : Nat → Nat → St → Hp → Prop, (∃ m, W 0 m σ H) ∧ ∀ i m σ H, W i m σ H →
      ((Itt K a).stop i H ∧ D.nx σ H) ∨ ((Itt K a).go i H ∧ ∃ N : St → Hp → Prop, (∀ σ' H', N σ' H' → ∃ m', m' < m ∧ W (i + 1) m' σ' H') ∧ ∀ x H', (Itt K a).yld i H x H' → g x σ H' fun σ2 H2 => tb { D with nx := N, ct := N, bk := D.nx } σ2 H2) := by
  refine ⟨fun i m σ H => m = xs.length - i ∧ i ≤ xs.length ∧ Pv i σ H, ⟨xs.length, by simp, Nat.zero_le _, h0⟩, ?_⟩
  rintro i m σ H ⟨rfl, hi, p⟩
  have q := hl i σ H hi p
  by_cases hlt : i < xs.length
  · refine .inr ⟨⟨xs, xs[i], q, by simp [hlt]⟩, Pv (i + 1), fun σ' H' p' => ⟨xs.length - (i + 1), by omega, rfl, hlt, p'⟩, fun x H' y => ?_⟩
    obtain ⟨e, y⟩ := y
    subst e
    exact hs i x σ _ (y xs q) p
  · have e : i = xs.length := by omega
    subst e
    exact .inl ⟨⟨xs, q, Nat.le_refl _⟩, hd σ H p⟩
theorem for_range {lo : Int} {n : Nat} {g : TG} {tb : TS} {D : Ends} {σ : St} {H : Hp} (Pv : Nat → St → Hp → Prop) (h0 : Pv 0 σ H)
    (hs : ∀ i σ H, i < n → Pv i σ H → g (.int (lo + i)) σ H fun σ2 H2 => tb { D with nx := Pv (i + 1), ct := Pv (i + 1), bk := D.nx } σ2 H2) (hd : ∀ σ H, Pv n σ H → D.nx σ H) :
    ∃ W : Nat → Nat → St → Hp → Prop, (∃ m, W 0 m σ H) ∧ ∀ i m σ H, W i m σ H →
      ((Itr lo n).stop i H ∧ D.nx σ H) ∨ ((Itr lo n).go i H ∧ ∃ N : St → Hp → Prop, (∀ σ' H', N σ' H' → ∃ m', m' < m ∧ W (i + 1) m' σ' H') ∧ ∀ x H', (Itr lo n).yld i H x H' → g x σ H' fun σ2 H2 => tb { D with nx := N, ct := N, bk := D.nx } σ2 H2) := by
  refine ⟨fun i m σ H => m = n - i ∧ i ≤ n ∧ Pv i σ H, ⟨n, by simp, Nat.zero_le _, h0⟩, ?_⟩
  rintro i m σ H ⟨rfl, hi, p⟩
  by_cases hlt : i < n
  · refine .inr ⟨hlt, Pv (i + 1), fun σ' H' p' => ⟨n - (i + 1), by omega, rfl, hlt, p'⟩, fun x H' y => ?_⟩
    obtain ⟨e, y⟩ := y
    subst e y
    exact hs i σ _ hlt p
  · have e : i = n := by omega
    subst e
    exact .inl ⟨Nat.le_refl _, hd σ H p⟩
end L2
namespace L2
open PySem PySem.Spec PyProof.Rows
noncomputable abbrev R2 := V → V → Hp → VK → Prop
noncomputable def OpR (X : Cx) (f : Value → Value → Sem Value) (r : R2) : Prop :=
  ∀ (pins : List (Addr × Obj)) (s : Shared) (σ : St) (H : Hp) (x y : V) (v u : Value) (Q : VK), Inv X pins σ H s → RelV x v → RelV y u → r x y H Q →
    wpAny (model X.prog X.w) X.A (f v u) (EP X pins σ Q) X.xe s
noncomputable def UnR (X : Cx) (f : Value → Sem Value) (r : V → Hp → VK → Prop) : Prop :=
  ∀ (pins : List (Addr × Obj)) (s : Shared) (σ : St) (H : Hp) (x : V) (v : Value) (Q : VK), Inv X pins σ H s → RelV x v → r x H Q →
    wpAny (model X.prog X.w) X.A (f v) (EP X pins σ Q) X.xe s
noncomputable def CallR (X : Cx) (f : Value) (r : List V → Hp → VK → Prop) : Prop :=
  ∀ (pins : List (Addr × Obj)) (s : Shared) (σ : St) (H : Hp) (xs : List V) (us : List Value) (Q : VK), Inv X pins σ H s → Vals xs us → r xs H Q →
    wpAny (model X.prog X.w) X.A (call f us) (EP X pins σ Q) X.xe s
noncomputable def TruR (X : Cx) (r : V → Hp → (Bool → Hp → Prop) → Prop) : Prop :=
  ∀ (pins : List (Addr × Obj)) (s : Shared) (σ : St) (H : Hp) (x : V) (v : Value) (Q : Bool → Hp → Prop), Inv X pins σ H s → RelV x v → r x H Q →
    wpAny (model X.prog X.w) X.A (truthy v) (TP X pins σ Q) X.xe s
noncomputable def tOp (r : R2) (ta tb : TE) : TE := fun σ H Q => ta σ H fun x H1 => tb σ H1 fun y H2 => r x y H2 Q
noncomputable def tUn (r : V → Hp → VK → Prop) (ta : TE) : TE := fun σ H Q => ta σ H fun x H1 => r x H1 Q
noncomputable def rI (C : Int → Int → Prop) (g : Int → Int → V) : R2 := fun x y H Q => ∃ i j, x = .int i ∧ y = .int j ∧ C i j ∧ Q (g i j) H
noncomputable def rI0 (g : Int → Int → V) : R2 := fun x y H Q => ∃ i j, x = .int i ∧ y = .int j ∧ Q (g i j) H
noncomputable def rU (g : Int → V) : V → Hp → VK → Prop := fun x H Q => ∃ i, x = .int i ∧ Q (g i) H
section
variable {X : Cx} {a b c : Expr} {ta tb tc : TE} {pos : Pos}
theorem binT (ha : PE X a ta) (hb : PE X b tb) {pins : List (Addr × Obj)} {s : Shared} {σ : St} {H : Hp} {R : V → V → Hp → Prop} (I : Inv X pins σ H s)
    (h : ta σ H fun x H1 => tb σ H1 fun y H2 => R x y H2) {Q : Value → Shared → Prop} {f : Value → Value → Sem Value}
    (hf : ∀ v u s2 x y H2, Inv X pins σ H2 s2 → RelV x v → RelV y u → R x y H2 → wpAny (model X.prog X.w) X.A (f v u) Q X.xe s2) :
    wpAny (model X.prog X.w) X.A (eval a X.env) (fun v s₁ => wpAny (model X.prog X.w) X.A (eval b X.env) (fun u s₂ => wpAny (model X.prog X.w) X.A (f v u) Q X.xe s₂) X.xe s₁) X.xe s := by
  refine thn (ha pins s σ H _ I h) fun v s1 ⟨x, H1, I1, r1, q1⟩ => ?_
  refine thn (hb pins s1 σ H1 _ I1 q1) fun u s2 ⟨y, H2, I2, r2, q2⟩ => ?_
  exact hf v u s2 x y H2 I2 r1 r2 q2
theorem pe_op {op : Operator} {r : R2} (ho : OpR X (binaryOp op) r) (ha : PE X a ta) (hb : PE X b tb) : PE X (.BinOp a op b pos) (tOp r ta tb) := by
  intro pins s σ H Q I h
  exact wpAny_BinOp (binT ha hb I h fun v u s2 x y H2 I2 rx ry q => ho pins s2 σ H2 x y v u Q I2 rx ry q)
theorem pe_un {op : UnaryOp} {r : V → Hp → VK → Prop} (ho : UnR X (unaryOp op) r) (ha : PE X a ta) : PE X (.UnaryOp op a pos) (tUn r ta) := by
  intro pins s σ H Q I h
  exact UnaryOp_ (thn (ha pins s σ H _ I h) fun v s1 ⟨x, H1, I1, r1, q1⟩ => ho pins s1 σ H1 x v Q I1 r1 q1)
theorem opI {f : Value → Value → Sem Value} {C : Int → Int → Prop} {g : Int → Int → Int}
    (rule : ∀ (i j : Int) (t u : Tok) (s : Shared) (Q : Value → Shared → Prop) (E : Value → Shared → Prop), C i j → Q (.int (g i j) s.toks) { s with toks := s.toks + 1 } → wpAny (model X.prog X.w) X.A (f (.int i t) (.int j u)) Q E s) :
    OpR X f (rI C fun i j => .int (g i j)) := by
  intro pins s σ H x y v u Q I rx ry h
  obtain ⟨i, j, rfl, rfl, hc, q⟩ := h
  obtain ⟨t, rfl⟩ := rx
  obtain ⟨t', rfl⟩ := ry
  exact rule i j t t' s _ _ hc ⟨.int (g i j), H, I.tok _, ⟨_, rfl⟩, q⟩
theorem opI0 {f : Value → Value → Sem Value} {g : Int → Int → Int}
    (rule : ∀ (i j : Int) (t u : Tok) (s : Shared) (Q : Value → Shared → Prop) (E : Value → Shared → Prop), Q (.int (g i j) s.toks) { s with toks := s.toks + 1 } → wpAny (model X.prog X.w) X.A (f (.int i t) (.int j u)) Q E s) :
    OpR X f (rI0 fun i j => .int (g i j)) := by
  intro pins s σ H x y v u Q I rx ry h
  obtain ⟨i, j, rfl, rfl, q⟩ := h
  obtain ⟨t, rfl⟩ := rx
  obtain ⟨t', rfl⟩ := ry
  exact rule i j t t' s _ _ ⟨.int (g i j), H, I.tok _, ⟨_, rfl⟩, q⟩
theorem opB0 {f : Value → Value → Sem Value} {g : Int → Int → Bool}
    (rule : ∀ (i j : Int) (t u : Tok) (s : Shared) (Q : Value → Shared → Prop) (E : Value → Shared → Prop), Q (.bool (g i j)) s → wpAny (model X.prog X.w) X.A (f (.int i t) (.int j u)) Q E s) :
    OpR X f (rI0 fun i j => .bl (g i j)) := by
  intro pins s σ H x y v u Q I rx ry h
  obtain ⟨i, j, rfl, rfl, q⟩ := h
  obtain ⟨t, rfl⟩ := rx
  obtain ⟨t', rfl⟩ := ry
  exact rule i j t t' s _ _ ⟨.bl (g i j), H, I, rfl, q⟩
noncomputable def CDiv (i j : Int) : Prop := 0 < j ∧ j < 1073741824
noncomputable def CPow (i j : Int) : Prop := 0 ≤ j ∧ j ≤ 1000000 ∧ i.natAbs < 2 ^ 64
noncomputable def CMul (i j : Int) : Prop := (-(2 ^ 64) < i ∧ i < 2 ^ 64) ∨ (-(2 ^ 64) < j ∧ j < 2 ^ 64)
theorem CMul.ok {i j : Int} (h : CMul i j) : IntMulOk i j := by
  rcases h with ⟨h1, h2⟩ | ⟨h1, h2⟩
  · exact .of_left (intBits_le_64 h1 h2)
  · exact .of_right (intBits_le_64 h1 h2)
theorem op_add : OpR X (binaryOp .Add) (rI0 fun i j => .int (i + j)) := opI0 fun _ _ _ _ _ _ _ q => add_int q
theorem op_sub : OpR X (binaryOp .Sub) (rI0 fun i j => .int (i - j)) := opI0 fun _ _ _ _ _ _ _ q => sub_int q
theorem op_mul : OpR X (binaryOp .Mult) (rI CMul fun i j => .int (i * j)) := opI fun _ _ _ _ _ _ _ hc q => mul_int q hc.ok
theorem op_fdiv : OpR X (binaryOp .FloorDiv) (rI CDiv fun i j => .int (i / j)) := opI fun i j _ _ _ _ _ hc q => by
  have h1 : (0 : Int) < j := hc.1
  have h2 : j < 1073741824 := hc.2
  exact floordiv_int (by omega) (by rw [Int.fdiv_eq_ediv_of_nonneg i (by omega)]; exact q) (.inl (PyProof.noPylong_small (by omega)))
theorem op_mod : OpR X (binaryOp .Mod) (rI (fun _ j => 0 < j) fun i j => .int (i % j)) := opI fun i j _ _ _ _ _ hc q => by
  have h1 : (0 : Int) < j := hc
  exact mod_int' (by omega) (by rw [Int.fmod_eq_emod_of_nonneg i (by omega)]; exact q)
theorem op_shl : OpR X (binaryOp .LShift) (rI CPow fun i j => .int (i * 2 ^ j.toNat)) := opI fun _ _ _ _ _ _ _ hc q => lshift_int_small hc.1 hc.2.1 hc.2.2 q
theorem unI {f : Value → Sem Value} {g : Int → Int}
    (rule : ∀ (i : Int) (t : Tok) (s : Shared) (Q : Value → Shared → Prop) (E : Value → Shared → Prop), Q (.int (g i) s.toks) { s with toks := s.toks + 1 } → wpAny (model X.prog X.w) X.A (f (.int i t)) Q E s) :
    UnR X f (rU fun i => .int (g i)) := by
  intro pins s σ H x v Q I rx h
  obtain ⟨i, rfl, q⟩ := h
  obtain ⟨t, rfl⟩ := rx
  exact rule i t s _ _ ⟨.int (g i), H, I.tok _, ⟨_, rfl⟩, q⟩
theorem un_neg : UnR X (unaryOp .USub) (rU fun i => .int (-i)) := unI fun _ _ _ _ _ q => neg_int q
end
noncomputable def scal : V → V → Bool
  | .non, .non => true | .non, .int _ => true | .int _, .non => true | .non, .bl _ => true | .bl _, .non => true | .non, .str _ => true | .str _, .non => true
  | .int _, .int _ => true | .bl _, .bl _ => true | .str _, .str _ => true | .byt _, .byt _ => true
  | .int _, .str _ => true | .str _, .int _ => true | .bl _, .str _ => true | .str _, .bl _ => true
  | _, _ => false
noncomputable def rEq : R2 := fun x y H Q => scal x y = true ∧ Q (.bl (decide (x = y))) H
noncomputable def rNe : R2 := fun x y H Q => scal x y = true ∧ Q (.bl (!decide (x = y))) H
theorem dec_int {i j : Int} : decide (V.int i = V.int j) = (i == j) := by
  rw [Bool.eq_iff_iff]
  simp
theorem dec_bl {i j : Bool} : decide (V.bl i = V.bl j) = (i == j) := by
  rw [Bool.eq_iff_iff]
  simp
theorem dec_str {i j : Str} : decide (V.str i = V.str j) = (i == j) := by
  rw [Bool.eq_iff_iff]
  simp
theorem dec_byt {i j : Array UInt8} : decide (V.byt i = V.byt j) = (i.toList == j.toList) := by
  rw [Bool.eq_iff_iff]
  cases i
  cases j
  simp
section
variable {X : Cx} {a b c : Expr} {ta tb tc : TE} {pos : Pos}
theorem fin_bl {pins : List (Addr × Obj)} {σ : St} {H : Hp} {s : Shared} {Q : VK} {k k' : Bool} (I : Inv X pins σ H s) (q : Q (.bl k) H) (e : k = k') : EP X pins σ Q (.bool k') s := by
  subst e
  exact ⟨.bl k, H, I, rfl, q⟩
theorem op_eq : OpR X (compareOp .Eq) rEq := by
  intro pins s σ H x y v u Q I rx ry h
  obtain ⟨hs, q⟩ := h
  cases x with
  | non =>
    cases rx
    cases y with
    | non => cases ry; exact PySem.EqNone.eq_none_none (fin_bl I q (by simp))
    | bl j => cases ry; exact PySem.EqNone.eq_none_bool (fin_bl I q (by simp))
    | int j => obtain ⟨t', rfl⟩ := ry; exact PySem.EqNone.eq_none_int (fin_bl I q (by simp))
    | str j => obtain ⟨t', rfl⟩ := ry; exact PySem.EqNone.eq_none_str (fin_bl I q (by simp))
    | _ => exact absurd (show false = true from hs) Bool.false_ne_true
  | bl i =>
    cases rx
    cases y with
    | non => cases ry; exact PySem.EqNone.eq_bool_none (fin_bl I q (by simp))
    | bl j => cases ry; exact eq_bool (fin_bl I q dec_bl)
    | str j => obtain ⟨t', rfl⟩ := ry; exact PySem.EqMixed.eq_bool_str (fin_bl I q (by simp))
    | _ => exact absurd (show false = true from hs) Bool.false_ne_true
  | int i =>
    obtain ⟨t, rfl⟩ := rx
    cases y with
    | non => cases ry; exact PySem.EqNone.eq_int_none (fin_bl I q (by simp))
    | int j => obtain ⟨t', rfl⟩ := ry; exact eq_int (fin_bl I q dec_int)
    | str j => obtain ⟨t', rfl⟩ := ry; exact PySem.EqMixed.eq_int_str (fin_bl I q (by simp))
    | _ => exact absurd (show false = true from hs) Bool.false_ne_true
  | str i =>
    obtain ⟨t, rfl⟩ := rx
    cases y with
    | non => cases ry; exact PySem.EqNone.eq_str_none (fin_bl I q (by simp))
    | bl j => cases ry; exact PySem.EqMixed.eq_str_bool (fin_bl I q (by simp))
    | int j => obtain ⟨t', rfl⟩ := ry; exact PySem.EqMixed.eq_str_int (fin_bl I q (by simp))
    | str j => obtain ⟨t', rfl⟩ := ry; exact eq_str (fin_bl I q dec_str)
    | _ => exact absurd (show false = true from hs) Bool.false_ne_true
  | byt i =>
    obtain ⟨t, rfl⟩ := rx
    cases y with
    | byt j => obtain ⟨t', rfl⟩ := ry; exact PySem.W.eq_bytes (fin_bl I q dec_byt)
    | _ => exact absurd (show false = true from hs) Bool.false_ne_true
  | _ => cases y <;> exact absurd (show false = true from hs) Bool.false_ne_true
theorem op_ne : OpR X (compareOp .NotEq) rNe := by
  intro pins s σ H x y v u Q I rx ry h
  obtain ⟨hs, q⟩ := h
  cases x with
  | non =>
    cases rx
    cases y with
    | non => cases ry; exact PySem.EqNone.ne_none_none (fin_bl I q (by simp))
    | bl j => cases ry; exact PySem.EqNone.ne_none_bool (fin_bl I q (by simp))
    | int j => obtain ⟨t', rfl⟩ := ry; exact PySem.EqNone.ne_none_int (fin_bl I q (by simp))
    | str j => obtain ⟨t', rfl⟩ := ry; exact PySem.EqNone.ne_none_str (fin_bl I q (by simp))
    | _ => exact absurd (show false = true from hs) Bool.false_ne_true
  | bl i =>
    cases rx
    cases y with
    | non => cases ry; exact PySem.EqNone.ne_bool_none (fin_bl I q (by simp))
    | bl j => cases ry; exact ne_bool (fin_bl I q (congrArg not dec_bl))
    | str j => obtain ⟨t', rfl⟩ := ry; exact PySem.EqMixed.ne_bool_str (fin_bl I q (by simp))
    | _ => exact absurd (show false = true from hs) Bool.false_ne_true
  | int i =>
    obtain ⟨t, rfl⟩ := rx
    cases y with
    | non => cases ry; exact PySem.EqNone.ne_int_none (fin_bl I q (by simp))
    | int j => obtain ⟨t', rfl⟩ := ry; exact ne_int (fin_bl I q (congrArg not dec_int))
    | str j => obtain ⟨t', rfl⟩ := ry; exact PySem.EqMixed.ne_int_str (fin_bl I q (by simp))
    | _ => exact absurd (show false = true from hs) Bool.false_ne_true
  | str i =>
    obtain ⟨t, rfl⟩ := rx
    cases y with
    | non => cases ry; exact PySem.EqNone.ne_str_none (fin_bl I q (by simp))
    | bl j => cases ry; exact PySem.EqMixed.ne_str_bool (fin_bl I q (by simp))
    | int j => obtain ⟨t', rfl⟩ := ry; exact PySem.EqMixed.ne_str_int (fin_bl I q (by simp))
    | str j => obtain ⟨t', rfl⟩ := ry; exact ne_str (fin_bl I q (congrArg not dec_str))
    | _ => exact absurd (show false = true from hs) Bool.false_ne_true
  | byt i =>
    obtain ⟨t, rfl⟩ := rx
    cases y with
    | byt j => obtain ⟨t', rfl⟩ := ry; exact PySem.W.ne_bytes (fin_bl I q (congrArg not dec_byt))
    | _ => exact absurd (show false = true from hs) Bool.false_ne_true
  | _ => cases y <;> exact absurd (show false = true from hs) Bool.false_ne_true
theorem op_lt : OpR X (compareOp .Lt) (rI0 fun i j => .bl (decide (i < j))) := opB0 fun _ _ _ _ _ _ _ q => lt_int q
theorem op_gt : OpR X (compareOp .Gt) (rI0 fun i j => .bl (decide (j < i))) := opB0 fun _ _ _ _ _ _ _ q => gt_int q
theorem op_ge : OpR X (compareOp .GtE) (rI0 fun i j => .bl (decide (j ≤ i))) := opB0 fun _ _ _ _ _ _ _ q => ge_int q
theorem op_notN : OpR X (compareOp .IsNot) (fun x y H Q => y = .non ∧ Q (.bl (!decide (x = .non))) H) := by
  intro pins s σ H x y v u Q I rx ry h
  obtain ⟨rfl, q⟩ := h
  cases ry
  refine isnot_none_gen (fin_bl I q ?_)
  cases x <;> first
    | (cases rx; rfl)
    | (obtain ⟨t, rfl⟩ := rx; rfl)
theorem nomark (b : Expr) {op : CmpOp} (h : op ≠ .In := by decide) (h2 : op ≠ .NotIn := by decide) : behindInMarks op b = false := by
  have e1 : (op == CmpOp.In) = false := by cases op <;> first | rfl | exact absurd rfl h
  have e2 : (op == CmpOp.NotIn) = false := by cases op <;> first | rfl | exact absurd rfl h2
  cases b <;> simp [behindInMarks, e1, e2]
noncomputable def tTest (t : TE) : TT := fun σ H Q => t σ H fun x H' => ∃ k, x = .bl k ∧ Q k H'
theorem pt_cmpR {op : CmpOp} {r : R2} (ho : OpR X (compareOp op) r) (ha : PE X a ta) (hb : PE X b tb) (hm : behindInMarks op b = false) : PT X (.Compare a [op] [b] pos) (tTest (tOp r ta tb)) := by
  intro pins s σ H Q I h
  refine wpAny_isTrue_Compare1 (thn (ha pins s σ H _ I h) fun v s1 ⟨x, H1, I1, r1, q1⟩ => thn (hb pins s1 σ H1 _ I1 q1) fun u s2 ⟨y, H2, I2, r2, q2⟩ =>
    thn (ho pins s2 σ H2 x y v u _ I2 r1 r2 q2) fun c s3 ⟨z, H3, I3, r3, k, e, q3⟩ => ?_) hm
  subst e
  cases r3
  exact wpAny_truthy_bool ⟨H3, I3, q3⟩
noncomputable def TruV (K : PySem.W.Frag) (x : V) (H : Hp) (k : Bool) : Prop :=
  match x with
  | .non => k = false
  | .bl b => k = b
  | .int i => k = (i != 0)
  | .str y => y.length ≤ sizeLine ∧ k = ((y.length : Int) != 0)
  | .byt y => y.size ≤ sizeLine ∧ k = ((y.size : Int) != 0)
  | .ref p => (∃ xs, SqL K H p xs ∧ k = !xs.isEmpty) ∨ (∃ xs, SqT K H p xs ∧ k = !xs.isEmpty) ∨ ∃ kvs, H p = some (.dK kvs) ∧ k = !kvs.isEmpty
  | _ => False
theorem isEmpty_kv {κ : Type} {kvs : List (κ × V)} {vs : List (κ × Value)} (r : KV kvs vs) : (!vs.isEmpty) = !kvs.isEmpty := by
  cases r <;> rfl
theorem isEmpty_of {xs : List V} {its : List Value} (r : Vals xs its) : (!its.toArray.isEmpty) = !xs.isEmpty := by
  cases r <;> simp
theorem line63 : (sizeLine : Nat) < 2 ^ 63 := by rw [sizeLine_eq]; decide
theorem tru_ok : TruR X (fun x H Q => ∃ k, TruV X.K x H k ∧ Q k H) := by
  intro pins s σ H x v Q I rx h
  obtain ⟨k, e, q⟩ := h
  have hl := line63
  have hs : sizeLine = 16777216 := sizeLine_eq
  cases x with
  | non =>
    cases rx
    have e' : k = false := e
    subst e'
    exact truthy_none ⟨H, I, q⟩
  | bl b =>
    cases rx
    have e' : k = b := e
    subst e'
    exact wpAny_truthy_bool ⟨H, I, q⟩
  | int i =>
    obtain ⟨t, rfl⟩ := rx
    have e' : k = (i != 0) := e
    subst e'
    exact PySem.P.truthy_int ⟨H, I, q⟩
  | str y =>
    obtain ⟨t, rfl⟩ := rx
    obtain ⟨hy, e'⟩ : y.length ≤ sizeLine ∧ k = ((y.length : Int) != 0) := e
    subst e'
    exact PySem.P.truthy_str (by omega) ⟨H, I.tok _, q⟩
  | byt y =>
    obtain ⟨t, rfl⟩ := rx
    obtain ⟨hy, e'⟩ : y.size ≤ sizeLine ∧ k = ((y.size : Int) != 0) := e
    subst e'
    exact PySem.W.truthy_bytes (by omega) ⟨H, I.tok _, q⟩
  | ref p =>
    cases rx
    have e' : (∃ xs, SqL X.K H p xs ∧ k = !xs.isEmpty) ∨ (∃ xs, SqT X.K H p xs ∧ k = !xs.isEmpty) ∨ ∃ kvs, H p = some (.dK kvs) ∧ k = !kvs.isEmpty := e
    rcases e' with ⟨xs, hx, e'⟩ | ⟨xs, hx, e'⟩ | ⟨kvs, hx, e'⟩
    · subst e'
      obtain ⟨its, r, pl, hz⟩ := I.list hx
      have hlen := r.length
      exact wpAny_truthy_list pl.isList (by simp only [List.size_toArray]; omega) ⟨H, I.tok _, by rw [isEmpty_of r]; exact q⟩
    · subst e'
      obtain ⟨its, r, pl, hz⟩ := I.tuple hx
      have hlen := r.length
      exact truthy_tuple pl (by simp only [List.size_toArray]; omega) ⟨H, I.tok _, by rw [isEmpty_of r]; exact q⟩
    · subst e'
      obtain ⟨hz, hS, vs, r, m⟩ : kvs.length ≤ sizeLine ∧ (p == sysModules) = false ∧ ∃ vs, KV kvs vs ∧ s.heap.DictOf (mixKind X.prog X.w) p vs := I.hok p _ hx
      have hlen : kvs.length = vs.length := Paired.length r
      exact wpAny_truthy_dict hS m (by omega) ⟨H, I.tok _, by rw [isEmpty_kv r]; exact q⟩
  | _ => exact (show False from e).elim
theorem pt_truth (ha : PE X a ta) (he : ∀ whole, isTrue a X.env whole = (do let v ← whole; standAt a.pos; holding [v] (truthy v))) :
    PT X a (fun σ H Q => ta σ H fun x H' => ∃ k, TruV X.K x H' k ∧ Q k H') := by
  intro pins s σ H Q I h
  exact isTrue_plain (thn (ha pins s σ H _ I h) fun v s1 ⟨x, H1, I1, r1, q1⟩ => tru_ok pins s1 σ H1 x v Q I1 r1 q1) (he _)
theorem vals1 {x : V} {us : List Value} (r : Vals [x] us) : ∃ u, us = [u] ∧ RelV x u := by
  cases r with
  | cons r1 r2 => cases r2; exact ⟨_, rfl, r1⟩
theorem vals2 {x y : V} {us : List Value} (r : Vals [x, y] us) : ∃ u w', us = [u, w'] ∧ RelV x u ∧ RelV y w' := by
  cases r with
  | cons r1 r2 =>
    cases r2 with
    | cons r3 r4 => cases r4; exact ⟨_, _, rfl, r1, r3⟩
theorem call_abs : CallR X (.builtin "abs") (fun xs H Q => ∃ i, xs = [.int i] ∧ Q (.int (if i < 0 then -i else i)) H) := by
  intro pins s σ H xs us Q I r h
  obtain ⟨i, rfl, q⟩ := h
  obtain ⟨u, rfl, t, rfl⟩ := vals1 r
  exact call_abs_int fun u tk => ⟨.int (if i < 0 then -i else i), H, I.tok _, ⟨_, rfl⟩, q⟩
theorem call_max2 (hc : X.calm = true) : CallR X (.builtin "max") (fun xs H Q => ∃ i j, xs = [.int i, .int j] ∧ Q (.int (if j > i then j else i)) H) := by
  intro pins s σ H xs us Q I r h
  obtain ⟨i, j, rfl, q⟩ := h
  obtain ⟨u, w', rfl, ⟨t, rfl⟩, ⟨t', rfl⟩⟩ := vals2 r
  refine max_two_ints (I.ok.hd hc) fun h' tk k => ⟨_, H, I.kept k, ?_, q⟩
  by_cases hj : j > i
  · rw [if_pos hj, if_pos hj]; exact ⟨_, rfl⟩
  · rw [if_neg hj, if_neg hj]; exact ⟨_, rfl⟩
end
end L2
namespace L2
open PySem PySem.Spec PyProof.Rows
structure ObjM (h : Heap) (x dx C : Addr) (mA : Str → Option Value) : Prop where
  obj : h.get? x = some (PySem.W.instObj C dx)
  ns : h.Ns1 dx mA
  ne : dx ≠ x
theorem lookIn_ns {h : Heap} {dx : Addr} {mA : Str → Option Value} (n : h.Ns1 dx mA) : ∃ od, h.get? dx = some od ∧ ∀ name, PySem.W.lookIn name od = some (mA name) := by
  obtain ⟨o, es, ep, ho, hd, hk, _, hm⟩ := n
  refine ⟨o, ho, fun name => ?_⟩
  have e := hm name
  unfold nsFind findBy at e
  rw [← Array.find?_toList] at e
  unfold PySem.W.lookIn
  rw [hd]
  dsimp only
  split
  · rename_i y q
    rw [q] at e
    exact congrArg some e
  · rename_i q
    rw [q] at e
    have a : es.toList.any (·.refKey) = false := by
      rw [List.any_eq_false]
      intro y hy
      obtain ⟨z, t, hkey⟩ := hk y (Array.mem_toList_iff.mp hy)
      simp [DictEntry.refKey, hkey]
    have a' : ¬ es.toList.any (·.refKey) = true := by rw [a]; exact Bool.false_ne_true
    rw [if_neg a']
    exact congrArg some e
theorem ObjM.look {h : Heap} {x dx C : Addr} {mA : Str → Option Value} (I : ObjM h x dx C mA) : ∃ od, PySem.W.InstAt h x (PySem.W.instObj C dx) C (some od) ∧ ∀ name, PySem.W.lookIn name od = some (mA name) :=
  let ⟨od, ho, hl⟩ := lookIn_ns I.ns
  ⟨od, ⟨I.obj, rfl, rfl, ho⟩, hl⟩
section
variable {prog : Program} {w : World} {A : Around} {E : Value → Shared → Prop} {s : Shared} {K : PySem.W.Frag} {x dx C f : Addr} {mA : Str → Option Value} {name : Str} {v : Value}
theorem get_map {expr : Bool} {Q : Value → Shared → Prop} (X : K.In s.heap) (I : ObjM s.heap x dx C mA) (hg : PySem.W.plainGet K C name = true) (hh : PySem.W.hasDictIn K C = true)
    (ha : PySem.W.findIn K (.ref C) name = some none) (hv : mA name = some v) (hv' : PySem.W.handedIn v = true) (h : Q v { s with toks := s.toks + 1 }) :
    wpAny (model prog w) A (getAttr (.ref x) name expr) Q E s := by
  obtain ⟨od, J, hl⟩ := I.look
  exact PySem.W.get_value X J (PySem.W.plainGet_of hg).1 (PySem.W.findObj_own hh ha rfl (by rw [hl, hv])) hv' h
theorem get_meth {pl : Sem Bool} {Q : Value × List Value → Shared → Prop} (X : K.In s.heap) (I : ObjM s.heap x dx C mA) (hg : PySem.W.plainGet K C name = true)
    (hf : PySem.W.findIn K (.ref C) name = some (some (.ref f))) (ht : PySem.W.isFn K (.ref f) = true) (hv : mA name = none) (h : Q (.ref f, [.ref x]) s) :
    wpAny (model prog w) A (getMethod (.ref x) name pl) Q E s := by
  obtain ⟨od, J, hl⟩ := I.look
  exact PySem.W.method_fn X J (PySem.W.plainGet_of hg).1 (PySem.W.plainGet_of hg).2 hf (beq_iff_eq.mp ht) (by show (PySem.W.lookIn name od).map (·.isSome) = some false; rw [hl, hv]; rfl) h
theorem set_map {ns : List Str} {Q : Unit → Shared → Prop} (X : K.In s.heap) (I : ObjM s.heap x dx C mA)
    (hs : PySem.W.findIn K (.ref C) "__setattr__" = some (some (.builtin "object.__setattr__"))) (hp : PySem.W.plainOver K C = true) (ht : PySem.W.takerIn K C name = some none) (hh : PySem.W.hasDictIn K C = true)
    (hw : PySem.Within mA ns) (hsz : ns.length ≤ sizeLine)
    (h : ∀ h', ObjM h' x dx C (fun y => if y = name then some v else mA y) → Heap.SameBut dx s.heap h' → Q () { s with heap := h', toks := s.toks + 2 }) :
    wpAny (model prog w) A (setAttr (.ref x) name v) Q E s := by
  obtain ⟨od, J, hl⟩ := I.look
  refine PySem.W.set_plain X J hs (PySem.W.osa_open (s := { s with toks := s.toks + 1 }) (r := none) X J hp ht fun b => ?_)
  obtain ⟨cd, hc, hd'⟩ := PySem.W.any_some hh
  have hx : s.heap.get? x = some ⟨.ref C, some dx, .plain, #[]⟩ := I.obj
  refine wpAny_bind (wpAny_pure (wpAny_bind (wpAny_bind (wpAny_loadPart hx (wpAny_bind (PySem.W.Looks.here (s := { s with toks := s.toks + 1 }) (PySem.W.looks_clsIn X hc) ?_))))))
  rw [hd']
  refine wpAny_pure (a := some dx) (wpAny_bind (wpAny_pure (wpAny_bind ?_)))
  refine wpAny_nsSet1 (s := { s with toks := s.toks + 1 }) I.ns fun h' hn2 hs2 => ?_
  obtain ⟨oD, esD, epD, hoD, hdD, hcD⟩ := hn2.count (PySem.Within.cons name v hw)
  refine wpAny_bind (wpAny_lookBehind hoD (by rw [hdD]; exact pastItsLine_dict (Nat.le_trans hcD (by rw [List.length_cons]; omega))) ?_)
  exact wpAny_pure (h _ ⟨(hs2.2 _ (Ne.symm I.ne)).trans I.obj, hn2, I.ne⟩ hs2)
theorem make_map {R : Result → Shared → Prop} {vs : List Value} {kw : List (Str × Value)} (X : K.In s.heap) (hm : PySem.W.makesIn K C = true)
    (hi : PySem.W.findIn K (.ref C) "__init__" = some (some (.ref f))) (hf : PySem.W.typeIn K (.ref f) = some (.type "function"))
    (h : codeAny (model prog w) (A.under (.builtin "type.__call__" ⟨.ref C :: vs, kw⟩)) (.call (.ref f) ⟨.ref (s.heap.objs.size + 1) :: vs, kw⟩) (PySem.W.InitBack (s.heap.objs.size + 1) R)
      { s with heap := (s.heap.push PySem.W.emptyDict).push (PySem.W.instObj C s.heap.objs.size) }) :
    codeAny (model prog w) A (.call (.ref C) ⟨vs, kw⟩) R s := by
  obtain ⟨hh, g, d, t, os⟩ := s
  exact PySem.W.make_core (PySem.W.makes_of X hm) (PySem.W.looks_findIn X hi) (fun self => PySem.W.bind_fn X self hf) (.inl rfl) h
end
noncomputable def putF (f : Str) (v : V) : List (Str × V) → List (Str × V)
  | [] => [(f, v)]
  | (g, x) :: r => if g = f then (g, v) :: r else (g, x) :: putF f v r
theorem lookup_putF (f g : Str) (v : V) : ∀ fs : List (Str × V), (putF f v fs).lookup g = if g = f then some v else fs.lookup g
  | [] => by
    show List.lookup g [(f, v)] = _
    by_cases h : g = f
    · have hb : (g == f) = true := beq_iff_eq.mpr h
      simp only [List.lookup, hb, if_pos h]
    · have hb : (g == f) = false := beq_eq_false_iff_ne.mpr h
      simp only [List.lookup, hb, if_neg h]
  | (k, x) :: r => by
    have ih := lookup_putF f g v r
    rw [show putF f v ((k, x) :: r) = (if k = f then (k, v) :: r else (k, x) :: putF f v r) from rfl]
    by_cases hk : k = f
    · rw [if_pos hk]
      by_cases h : g = k
      · have hb : (g == k) = true := beq_iff_eq.mpr h
        simp only [List.lookup, hb, if_pos (h.trans hk)]
      · have hb : (g == k) = false := beq_eq_false_iff_ne.mpr h
        simp only [List.lookup, hb, if_neg (fun e : g = f => h (e.trans hk.symm))]
    · rw [if_neg hk]
      by_cases h : g = k
      · have hb : (g == k) = true := beq_iff_eq.mpr h
        simp only [List.lookup, hb, if_neg (fun e : g = f => hk (h.symm.trans e))]
      · have hb : (g == k) = false := beq_eq_false_iff_ne.mpr h
        simp only [List.lookup, hb]
        exact ih
theorem keys_putF (f : Str) (v : V) : ∀ fs : List (Str × V), f ∈ (putF f v fs).map (·.1) ∧ ∀ g, g ∈ fs.map (·.1) → g ∈ (putF f v fs).map (·.1)
  | [] => ⟨by simp [putF], fun g h => by simp at h⟩
  | (k, x) :: r => by
    obtain ⟨i1, i2⟩ := keys_putF f v r
    rw [show putF f v ((k, x) :: r) = (if k = f then (k, v) :: r else (k, x) :: putF f v r) from rfl]
    by_cases hk : k = f
    · rw [if_pos hk]
      subst hk
      exact ⟨by simp, fun g h => by simpa using h⟩
    · rw [if_neg hk]
      refine ⟨?_, fun g h => ?_⟩
      · rw [List.map_cons]
        exact List.mem_cons_of_mem _ i1
      · rw [List.map_cons] at h ⊢
        rcases List.mem_cons.mp h with e | e
        · exact List.mem_cons.mpr (.inl e)
        · exact List.mem_cons_of_mem _ (i2 g e)
theorem length_putF (f : Str) (v : V) : ∀ fs : List (Str × V), (putF f v fs).length ≤ fs.length + 1
  | [] => by simp [putF]
  | (k, x) :: r => by
    have ih := length_putF f v r
    rw [show putF f v ((k, x) :: r) = (if k = f then (k, v) :: r else (k, x) :: putF f v r) from rfl]
    by_cases hk : k = f
    · rw [if_pos hk, List.length_cons, List.length_cons]; omega
    · rw [if_neg hk, List.length_cons, List.length_cons]; omega
theorem RelO.some_of {v : V} {o : Option Value} (r : RelO (some v) o) : ∃ u, o = some u ∧ RelV v u := by
  cases o with
  | none => exact (show False from r).elim
  | some u => exact ⟨u, rfl, r⟩
theorem RelO.none_of {o : Option Value} (r : RelO none o) : o = none := by
  cases o with
  | none => rfl
  | some u => exact (show False from r).elim
theorem handed_of {v : V} {u : Value} (r : RelV v u) : PySem.W.handedIn u = true := by
  cases v with
  | non => cases (show u = Value.none from r); rfl
  | bl b => cases (show u = Value.bool b from r); rfl
  | int i => obtain ⟨t, e⟩ := (show ∃ t, u = Value.int i t from r); cases e; rfl
  | str x => obtain ⟨t, e⟩ := (show ∃ t, u = Value.str x t from r); cases e; rfl
  | byt b => obtain ⟨t, e⟩ := (show ∃ t, u = Value.bytes b t from r); cases e; rfl
  | flt b => obtain ⟨t, e⟩ := (show ∃ t, u = Value.float b t from r); cases e; rfl
  | ref a => cases (show u = Value.ref a from r); rfl
  | ty n => cases (show u = Value.type n from r); rfl
section
variable {P : Program} {w : World} {H H' : Hp} {h h' : Heap} {a C dx : Addr} {fs fs' : List (Str × V)}
theorem ins_get (hok : HOk P w H h) (e : H a = some (.ins C dx fs)) : ∃ mA, ObjM h a dx C mA ∧ (∀ f, RelO (fs.lookup f) (mA f)) ∧ PySem.Within mA (fs.map (·.1)) ∧ fs.length ≤ 1000 ∧ H dx = some (.own a) := by
  obtain ⟨d, z, ne, ob, mA, n, r, q⟩ := (show ObjOk P w H h a (.ins C dx fs) from hok a _ e)
  exact ⟨mA, ⟨ob, n, ne⟩, r, q, z, d⟩
end
structure Cls (K : PySem.W.Frag) (C : Addr) : Prop where
  pg : PySem.W.plainGet K C Str.empty = true
  hd : PySem.W.hasDictIn K C = true
  po : PySem.W.plainOver K C = true
  sa : PySem.W.findIn K (.ref C) "__setattr__" = some (some (.builtin "object.__setattr__"))
theorem Cls.get {K : PySem.W.Frag} {C : Addr} (c : Cls K C) (f : Str) : PySem.W.plainGet K C f = true := c.pg
noncomputable def NoAttr (K : PySem.W.Frag) (C : Addr) (f : Str) : Prop := PySem.W.findIn K (.ref C) f = some none
theorem NoAttr.taker {K : PySem.W.Frag} {C : Addr} {f : Str} (n : NoAttr K C f) : PySem.W.takerIn K C f = some none := by
  unfold PySem.W.takerIn
  rw [show PySem.W.findIn K (.ref C) f = some none from n]
  rfl
structure Con (K : PySem.W.Frag) (C : Addr) (f : Str) (v : V) (u : Value) : Prop where
  at_ : PySem.W.findIn K (.ref C) f = some (some u)
  rel : RelV v u
  get : PySem.W.specialIn K u "__get__" = some none
  cp : PySem.W.copiedNames.contains f = false
structure Meth (K : PySem.W.Frag) (C : Addr) (m : Str) (f : Addr) : Prop where
  at_ : PySem.W.findIn K (.ref C) m = some (some (.ref f))
  fn : PySem.W.isFn K (.ref f) = true
  kp : PySem.W.keepIn K (.ref f) = true
section
variable {X : Cx} {pins : List (Addr × Obj)} {σ : St} {H : Hp} {s : Shared} {a C dx : Addr} {fs : List (Str × V)} {f : Str} {v : V} {A : Around} {E : Value → Shared → Prop}
theorem getattr_ok {b : Bool} {Q : Value → Shared → Prop} (I : Inv X pins σ H s) (e : H a = some (.ins C dx fs)) (c : Cls X.K C) (n : NoAttr X.K C f) (l : fs.lookup f = some v)
    (h : ∀ u s', Inv X pins σ H s' → RelV v u → Q u s') : wpAny (model X.prog X.w) A (getAttr (.ref a) f b) Q E s := by
  obtain ⟨mA, O, r, _, _, _⟩ := ins_get I.hok e
  obtain ⟨u, hu, ru⟩ := RelO.some_of (v := v) (o := mA f) (by rw [← l]; exact r f)
  exact get_map I.kIn O (c.get f) c.hd n hu (handed_of ru) (h u _ (I.tok _) ru)
theorem getmeth_ok {m : Str} {g : Addr} {pl : Sem Bool} {Q : Value × List Value → Shared → Prop} (I : Inv X pins σ H s) (e : H a = some (.ins C dx fs)) (c : Cls X.K C) (k : Meth X.K C m g) (l : fs.lookup m = none)
    (h : Q (.ref g, [.ref a]) s) : wpAny (model X.prog X.w) A (getMethod (.ref a) m pl) Q E s := by
  obtain ⟨mA, O, r, _, _, _⟩ := ins_get I.hok e
  have hn : mA m = none := RelO.none_of (by rw [← l]; exact r m)
  exact get_meth I.kIn O (c.get m) k.at_ k.fn hn h
theorem setattr_ok {y : V} {u : Value} {Q : Unit → Shared → Prop} (I : Inv X pins σ H s) (e : H a = some (.ins C dx fs)) (c : Cls X.K C) (n : NoAttr X.K C f) (hl : fs.length < 1000) (ry : RelV y u)
    (h : ∀ s', Inv X pins σ (upd H a (.ins C dx (putF f y fs))) s' → Q () s') : wpAny (model X.prog X.w) A (setAttr (.ref a) f u) Q E s := by
  obtain ⟨mA, O, r, wi, _, ho⟩ := ins_get I.hok e
  have hz : (fs.map (·.1)).length ≤ sizeLine := by rw [List.length_map, sizeLine_eq]; omega
  refine set_map I.kIn O c.sa c.po n.taker c.hd wi hz fun h' O' sb => h _ ?_
  have hd : ∃ o, h'.get? dx = some o := let ⟨o, _, _, e', _⟩ := O'.ns; ⟨o, e'⟩
  refine I.write (x := a) (e := dx) (by rw [e]; exact True.intro) (.inr ho) (fun b q hb z => (sb.2 b hb).trans z) hd ?_
  refine ⟨by rw [upd_ne O.ne]; exact ho, ?_, O.ne, O'.obj, _, O'.ns, fun g => ?_, fun g hg => ?_⟩
  · have := length_putF f y fs; omega
  · show RelO ((putF f y fs).lookup g) (if g = f then some u else mA g)
    rw [lookup_putF]
    by_cases q : g = f
    · rw [if_pos q, if_pos q]; exact ry
    · rw [if_neg q, if_neg q]; exact r g
  · by_cases q : g = f
    · rw [q]; exact (keys_putF f y fs).1
    · refine (keys_putF f y fs).2 g (wi g fun z => hg ?_)
      show (if g = f then some u else mA g) = none
      rw [if_neg q]; exact z
theorem Inv.made (I : Inv X pins σ H s) : Inv X pins σ (upd (upd H s.heap.objs.size (.own (s.heap.objs.size + 1))) (s.heap.objs.size + 1) (.ins C s.heap.objs.size []))
    { s with heap := (s.heap.push PySem.W.emptyDict).push (PySem.W.instObj C s.heap.objs.size) } := by
  have e1 : (s.heap.push PySem.W.emptyDict).get? s.heap.objs.size = some PySem.W.emptyDict := Heap.get?_push_size s.heap rfl
  have e2 : ((s.heap.push PySem.W.emptyDict).push (PySem.W.instObj C s.heap.objs.size)).get? (s.heap.objs.size + 1) = some (PySem.W.instObj C s.heap.objs.size) := by
    have := Heap.get?_push_size (s.heap.push PySem.W.emptyDict) (o := PySem.W.instObj C s.heap.objs.size) rfl
    rwa [Heap.size_push] at this
  have e3 : (s.heap.push PySem.W.emptyDict).Ns s.heap.objs.size (fun _ => none) := ⟨PySem.W.emptyDict, #[], _, e1, rfl, (fun e he => absurd he (by simp)), fun _ => rfl⟩
  have I1 := I.laid (a := s.heap.objs.size) (o := .own (s.heap.objs.size + 1)) (h' := s.heap.push PySem.W.emptyDict) (t' := s.toks) (fun b u q => Heap.get?_push_of_some _ q) (Nat.le_refl _) ⟨_, e1⟩
  refine I1.laid (a := s.heap.objs.size + 1) (o := .ins C s.heap.objs.size []) (t' := s.toks) (fun b u q => Heap.get?_push_of_some _ q) (Nat.le_of_eq (Heap.size_push _ _)) ?_
  have ne : s.heap.objs.size ≠ s.heap.objs.size + 1 := Nat.ne_of_lt (Nat.lt_succ_self _)
  refine ⟨by rw [upd_ne ne, upd_same], Nat.zero_le _, ne, e2, fun _ => none, (Heap.Ns1.of_empty e3).at fun o q => Heap.get?_push_of_some _ q, fun _ => True.intro, fun y hy => absurd rfl hy⟩
theorem attr_of {prog : Program} {w : World} {env : Env} {e : Expr} {f : Str} {pos : Pos} {s : Shared} {Q : Value → Shared → Prop} (hb : attributeBase e f env (eval e env) = eval e env)
    (h : wpAny (model prog w) A (eval e env) (fun o s₁ => wpAny (model prog w) A (getAttr o f true) Q E s₁) E s) : wpAny (model prog w) A (eval (.Attribute e f pos) env) Q E s :=
  Attribute_any_ h (by rw [arm_eval_Attribute, hb])
end
noncomputable def tFld (K : PySem.W.Frag) (ta : TE) (f : Str) : TE := fun σ H Q => ta σ H fun x H1 => ∃ a C dx fs v, x = .ref a ∧ H1 a = some (.ins C dx fs) ∧ Cls K C ∧ NoAttr K C f ∧ fs.lookup f = some v ∧ Q v H1
noncomputable def sFld (K : PySem.W.Frag) (ta tv : TE) (f : Str) : TS := fun D σ H => tv σ H fun y H1 => ta σ H1 fun x H2 => ∃ a C dx fs, x = .ref a ∧ H2 a = some (.ins C dx fs) ∧ Cls K C ∧ NoAttr K C f ∧ fs.length < 1000 ∧
  D.nx σ (upd H2 a (.ins C dx (putF f y fs)))
section
variable {X : Cx} {o e value : Expr} {f : Str} {pos pos' tpos : Pos} {ta tv : TE}
theorem pe_fld (he : PE X e ta) (hb : attributeBase e f X.env (eval e X.env) = eval e X.env) : PE X (.Attribute e f pos) (tFld X.K ta f) := by
  intro pins s σ H Q I h
  refine attr_of hb (thn (he pins s σ H _ I h) fun u s1 ⟨x, H1, I1, rx, a, C, dx, fs, v, ex, ea, c, n, l, q⟩ => ?_)
  subst ex
  obtain rfl : u = Value.ref a := rx
  exact getattr_ok I1 ea c n l fun u' s2 I2 ru => ⟨v, H1, I2, ru, q⟩
theorem ps_fld (ha : PE X o ta) (hv : PE X value tv) (hs : swapsWith value (some (.Attribute o f pos')) pos.line X.env = pure false) : PS X (.Assign [.Attribute o f pos'] value pos) (sFld X.K ta tv f) := by
  intro pins s σ H D I h
  refine plainObj_wpAny_Assign_Attribute (thn (hv pins s σ H _ I h) fun u s1 ⟨y, H1, I1, ry, q⟩ => thn (ha pins s1 σ H1 _ I1 q) fun ov s2 ⟨x, H2, I2, rx, a, C, dx, fs, ex, ea, c, n, l, q2⟩ => ?_) hs
  subst ex
  obtain rfl : ov = Value.ref a := rx
  exact setattr_ok I2 ea c n l ry fun s3 I3 => ⟨σ, _, I3, q2⟩
end
section
variable {X : Cx} {pins : List (Addr × Obj)} {σ : St} {H : Hp} {s : Shared} {A : Around} {E : Value → Shared → Prop} {Q : Value → Shared → Prop} {c : Value} {b : Bool}
inductive TyOf (K : PySem.W.Frag) (H : Hp) : V → Value → Prop where
  | non : TyOf K H .non (.type "NoneType")
  | bl (x : Bool) : TyOf K H (.bl x) (.type "bool")
  | int (i : Int) : TyOf K H (.int i) (.type "int")
  | str (x : Str) : TyOf K H (.str x) (.type "str")
  | flt (x : UInt64) : TyOf K H (.flt x) (.type "float")
  | lst {a : Addr} {xs : List V} (e : H a = some (.lst xs)) : TyOf K H (.ref a) (.type "list")
  | frz {a : Addr} {o : Obj} {xs : List V} (e : H a = some (.frz o (.lst xs))) : TyOf K H (.ref a) (.type "list")
  | tup {a : Addr} {xs : List V} (e : H a = some (.tup xs)) : TyOf K H (.ref a) (.type "tuple")
  | dK {a : Addr} {kvs : List (Key × V)} (e : H a = some (.dK kvs)) : TyOf K H (.ref a) (.type "dict")
  | dT {a : Addr} {kvs : List (List Key × V)} (e : H a = some (.dT kvs)) : TyOf K H (.ref a) (.type "dict")
  | ins {a C dx : Addr} {fs : List (Str × V)} (e : H a = some (.ins C dx fs)) (cl : Cls K C) (ha : PySem.W.findIn K (.ref C) "__class__" = some (some (.builtin "object.__class__")))
      (hn : PySem.W.specialIn K (.builtin "object.__class__") "__get__" = some (some (.builtin "getset_descriptor.__get__"))) (htk : PySem.W.takesIn K (.builtin "object.__class__") = some true)
      (hm : PySem.W.mroIn K C (.type "object") = some true) : TyOf K H (.ref a) (.ref C)
end
end L2
namespace L2
open PySem PySem.Spec PyProof.Rows
structure Room (k : Nat) (A : Around) : Prop where
  hd : A.handled = none
  dp : A.depth + 3 * k + 5 < recursionLimit
  un : A.units + 16 * k + 200 < cLine
theorem Room.mono {j k : Nat} {A : Around} (r : Room k A) (h : j ≤ k) : Room j A := ⟨r.hd, by have := r.dp; omega, by have := r.un; omega⟩
theorem Room.deeper {k : Nat} {A : Around} (r : Room (k + 1) A) (env : Env) : Room k (A.deeper env) :=
  ⟨r.hd, by have := r.dp; show A.depth + 1 + 3 * k + 5 < _; omega, by have := r.un; show A.units + 3 + 16 * k + 200 < _; omega⟩
theorem Room.in1 {k : Nat} {A : Around} (r : Room (k + 1) A) : Room k A.in1 :=
  ⟨r.hd, by have := r.dp; show A.depth + 3 * k + 5 < _; omega, by have := r.un; show A.units + 1 + 16 * k + 200 < _; omega⟩
theorem make_depth {A : Around} {C : Addr} {us : List Value} {kw : List (Str × Value)} : (A.under (.builtin "type.__call__" ⟨.ref C :: us, kw⟩)).depth = A.depth + 1 := by
  first | rfl | simp [Around.under, Code.weight, Code.isCreation, Code.isGuard, Code.isCaller, Code.frames, Code.isFrame, guardIds]
theorem make_units {A : Around} {C : Addr} {us : List Value} {kw : List (Str × Value)} : (A.under (.builtin "type.__call__" ⟨.ref C :: us, kw⟩)).units = A.units + 1 := by
  first | rfl | simp [Around.under, Code.cUnits, Code.frames, Code.isFrame]
theorem Room.make {k : Nat} {A : Around} (r : Room (k + 1) A) (C : Addr) (us : List Value) (kw : List (Str × Value)) : Room k (A.under (.builtin "type.__call__" ⟨.ref C :: us, kw⟩)) :=
  ⟨r.hd, by have := r.dp; rw [make_depth]; omega, by have := r.un; rw [make_units]; omega⟩
theorem Room.depth {k : Nat} {A : Around} (r : Room k A) : A.depth < recursionLimit := by have := r.dp; omega
theorem Room.units {k : Nat} {A : Around} (r : Room k A) : A.units + 64 < cLine := by have := r.un; omega
noncomputable def tNil : TA := fun _ H Q => Q [] H
noncomputable def tCons (ta : TE) (tr : TA) : TA := fun σ H Q => ta σ H fun x H1 => tr σ H1 fun xs H2 => Q (x :: xs) H2
section
variable {X : Cx} {e : Expr} {es : List Expr} {te : TE} {t : TA} {pos : Pos}
theorem pa_nil : PA X [] tNil := fun _ _ _ _ H Q I h => Calls.spliced_nil ⟨[], H, I, .nil, h⟩
theorem pa_cons (ha : PE X e te) (hr : PA X es t) (hs : starEach (e :: es) X.env = (false, eval e X.env) :: starEach es X.env := by rfl) : PA X (e :: es) (tCons te t) := by
  intro pos pins s σ H Q I h
  rw [hs]
  show wpAny _ _ (spliced ((false, eval e X.env) :: backTo pos (starEach es X.env))) _ _ s
  refine Calls.spliced_cons (thn (ha pins s σ H _ I h) fun u s1 ⟨x, H1, I1, r1, q1⟩ => ?_)
  exact thn (hr pos pins s1 σ H1 _ I1 q1) fun us s2 ⟨xs, H2, I2, r2, q2⟩ => ⟨x :: xs, H2, I2, .cons r1 r2, q2⟩
noncomputable def tTup (t : TA) : TE := fun σ H Q => t σ H fun xs H1 => xs.length ≤ sizeLine ∧ ∀ p, H1 p = none → Q (.ref p) (upd H1 p (.tup xs))
noncomputable def tLst (t : TA) : TE := fun σ H Q => t σ H fun xs H1 => xs.length ≤ sizeLine ∧ ∀ p, H1 p = none → Q (.ref p) (upd H1 p (.lst xs))
theorem pe_tup {x1} (h : PA X es t) : PE X (.Tuple es x1 pos) (tTup t) := by
  intro pins s σ H Q I hq
  refine wpAny_Tuple_spliced (thn (h pos pins s σ H _ I hq) fun us s1 ⟨xs, H1, I1, r, z, q⟩ => ⟨by rw [← r.length]; exact z, ?_⟩)
  have hf : H1 s1.heap.objs.size = none := I1.hok.fresh (Nat.le_refl _)
  refine ⟨.ref s1.heap.objs.size, upd H1 s1.heap.objs.size (.tup xs), I1.laid (t' := s1.toks) (fun b u e => Heap.get?_push_of_some _ e) (Nat.le_refl _) ?_, rfl, q _ hf⟩
  exact ⟨z, us, r, ⟨_, Heap.get?_push_size _ rfl, rfl, _, rfl⟩, _, Heap.get?_push_size _ rfl, rfl⟩
theorem pe_lst (h : PA X es t) : PE X (.List es pos) (tLst t) := by
  intro pins s σ H Q I hq
  refine wpAny_List_spliced (thn (h pos pins s σ H _ I hq) fun us s1 ⟨xs, H1, I1, r, z, q⟩ => ⟨by rw [← r.length]; exact z, ?_⟩)
  have hf : H1 s1.heap.objs.size = none := I1.hok.fresh (Nat.le_refl _)
  refine ⟨.ref s1.heap.objs.size, upd H1 s1.heap.objs.size (.lst xs), I1.laid (t' := s1.toks) (fun b u e => Heap.get?_push_of_some _ e) (Nat.le_refl _) ?_, rfl, q _ hf⟩
  exact ⟨z, us, 0, r, Heap.get?_push_size _ rfl⟩
end
noncomputable abbrev Sp := List V → Hp → VK → XK → Prop
noncomputable abbrev CXT := List Env → Hp → Shared → XK → Value → Shared → Prop
structure Env0 (P : Program) (w : World) (K : PySem.W.Frag) (mg : Str → Option Value) (base : Heap) (A : Around) (outer : List Env) (s : Shared) (H : Hp) : Prop where
  frames : A.frames = some outer
  mod : Mod K mg base
  bs : ∀ b o, base.get? b = some o → s.heap.get? b = some o ∧ H b = none
  bsz : base.objs.size ≤ s.heap.objs.size
  funs : s.heap.FunFrames base outer
  frf : ∀ b ∈ frs outer, H b = none
  hok : HOk P w H s.heap
  bare : AllBare s.gens
noncomputable def CE (outer : List Env) (P : Program) (w : World) (H : Hp) (s : Shared) (Q : VK) (u : Value) (s' : Shared) : Prop :=
  ∃ v H', s'.os = s.os ∧ AllBare s'.gens ∧ Un (frs outer) [] H H' s.heap s'.heap ∧ HOk P w H' s'.heap ∧ RelV v u ∧ Q v H'
noncomputable def CR (CX : CXT) (outer : List Env) (P : Program) (w : World) (H : Hp) (s : Shared) (Q : VK) (E : XK) (r : Result) (s' : Shared) : Prop :=
  match r with
  | .ok (.ret u) => CE outer P w H s Q u s'
  | .ok _ => False
  | .error e => CX outer H s E e s'
structure FnOk (P : Program) (w : World) (K : PySem.W.Frag) (mg : Str → Option Value) (base : Heap) (CX : CXT) (k : Nat) (f : Addr) (fd : FuncData) (ps : List Str) (sp : Sp) : Prop where
  len : ∀ vs H Q E, sp vs H Q E → vs.length = ps.length
  run : ∀ (A : Around) (outer : List Env) (s : Shared) (H : Hp) (args : Args) (us : List Value) (vs : List V) (Q : VK) (E : XK), Room k A → Env0 P w K mg base A outer s H → BindsTo s fd args (ps.zip us) → Vals vs us → sp vs H Q E →
    codeAny (model P w) A (.call (.ref f) args) (CR CX outer P w H s Q E) s
theorem FnOk.mono {P : Program} {w : World} {K : PySem.W.Frag} {mg : Str → Option Value} {base : Heap} {CX : CXT} {j k : Nat} {f : Addr} {fd : FuncData} {ps : List Str} {sp : Sp} (F : FnOk P w K mg base CX j f fd ps sp) (h : j ≤ k) :
    FnOk P w K mg base CX k f fd ps sp := ⟨F.len, fun A outer s H args us vs Q E hr => F.run A outer s H args us vs Q E (hr.mono h)⟩
theorem FnOk.imp {P : Program} {w : World} {K : PySem.W.Frag} {mg : Str → Option Value} {base : Heap} {CX : CXT} {k : Nat} {f : Addr} {fd : FuncData} {ps : List Str} {sp sp' : Sp} (F : FnOk P w K mg base CX k f fd ps sp)
    (h : ∀ vs H Q E, sp' vs H Q E → sp vs H Q E) : FnOk P w K mg base CX k f fd ps sp' :=
  ⟨fun vs H Q E q => F.len vs H Q E (h _ _ _ _ q), fun A outer s H args us vs Q E hr he hb hv hs => F.run A outer s H args us vs Q E hr he hb hv (h _ _ _ _ hs)⟩
theorem Env0.make {P : Program} {w : World} {K : PySem.W.Frag} {mg : Str → Option Value} {base : Heap} {A : Around} {outer : List Env} {s : Shared} {H : Hp} (e : Env0 P w K mg base A outer s H) (C : Addr) (us : List Value) (kw : List (Str × Value)) :
    Env0 P w K mg base (A.under (.builtin "type.__call__" ⟨.ref C :: us, kw⟩)) outer s H := ⟨by first | exact e.frames | (simpa [Around.under, Code.envs, Code.isFrame, pushEnvs] using e.frames), e.mod, e.bs, e.bsz, e.funs, e.frf, e.hok, e.bare⟩
theorem Env0.in1 {P : Program} {w : World} {K : PySem.W.Frag} {mg : Str → Option Value} {base : Heap} {A : Around} {outer : List Env} {s : Shared} {H : Hp} (e : Env0 P w K mg base A outer s H) :
    Env0 P w K mg base A.in1 outer s H := ⟨e.frames, e.mod, e.bs, e.bsz, e.funs, e.frf, e.hok, e.bare⟩
section
variable {X : Cx} {pins : List (Addr × Obj)} {σ : St} {H : Hp} {s s' : Shared}
theorem Inv.env0 (I : Inv X pins σ H s) : Env0 X.prog X.w X.K X.mg X.base X.A X.stack s H :=
  ⟨I.ok.frames, I.ok.mod, I.bs, Nat.le_trans I.ok.bsz I.sz, I.stack, I.stkFree, I.hok, I.bare⟩
theorem Inv.after {Q : VK} {u : Value} (I : Inv X pins σ H s) (h : CE X.stack X.prog X.w H s Q u s') : EP X pins σ Q u s' := by
  obtain ⟨v, H', os, bare, un, hok, r, q⟩ := h
  obtain ⟨hh, g, d, t, os'⟩ := s'
  obtain rfl : os' = s.os := os
  exact ⟨v, H', I.call (h' := hh) (g' := g) (d' := d) (t' := t) (ch := []) un hok bare (fun b z => absurd z (by simp)), r, q⟩
end
noncomputable def tCall (sp : Sp) (dvs : List V) (E : XK) (t : TA) : TE := fun σ H Q => t σ H fun vs H1 => sp (vs ++ dvs) H1 Q E
noncomputable def tMeth (C : Addr) (m : Str) (sp : Sp) (dvs : List V) (E : XK) (ta : TE) (t : TA) : TE := fun σ H Q => ta σ H fun x H1 => ∃ a dx fs, x = .ref a ∧ H1 a = some (.ins C dx fs) ∧ fs.lookup m = none ∧
  t σ H1 fun vs H2 => sp (x :: (vs ++ dvs)) H2 Q E
noncomputable def tMake (C : Addr) (sp : Sp) (dvs : List V) (E : XK) (t : TA) : TE := fun σ H Q => t σ H fun vs H1 => ∀ x dx, H1 x = none → H1 dx = none → dx ≠ x →
  sp (.ref x :: (vs ++ dvs)) (upd (upd H1 dx (.own x)) x (.ins C dx [])) (fun v H2 => v = .non ∧ Q (.ref x) H2) E
noncomputable def Binds (K : PySem.W.Frag) (fd : FuncData) (ps : List Str) (ds : List Value) : Prop :=
  ∀ (s : Shared) (us : List Value), K.In s.heap → (us ++ ds).length = ps.length → BindsTo s fd ⟨us, []⟩ (ps.zip (us ++ ds))
theorem Binds.all {K : PySem.W.Frag} {fd : FuncData} {ps : List Str} (h : ∀ us : List Value, us.length = ps.length → bindArgs fd ⟨us, []⟩ = pure (ps.zip us)) : Binds K fd ps [] := fun s us _ hl => by
  rw [List.append_nil] at hl ⊢
  exact .of_eq (h us hl)
noncomputable def Passes (CX : CXT) (X : Cx) (E : XK) : Prop := ∀ (pins : List (Addr × Obj)) (σ : St) (H : Hp) (s : Shared) (e : Value) (s' : Shared), Inv X pins σ H s → CX X.stack H s E e s' → X.xe e s'
section
variable {X : Cx} {CX : CXT} {k : Nat} {f C : Addr} {fd : FuncData} {ps : List Str} {sp : Sp} {dvs : List V} {ds : List Value} {E : XK} {x m : Str} {p pos apos : Pos} {e o : Expr} {es : List Expr} {ta : TE} {t : TA}
theorem run_fn {pins : List (Addr × Obj)} {σ : St} {H : Hp} {s : Shared} {Q : VK} {us : List Value} {vs : List V} (F : FnOk X.prog X.w X.K X.mg X.base CX k f fd ps sp) (hr : Room k X.A) (hb : Binds X.K fd ps ds) (hd : Vals dvs ds) (hx : Passes CX X E)
    (I : Inv X pins σ H s) (r : Vals vs us) (h : sp (vs ++ dvs) H Q E) : wpAny (model X.prog X.w) X.A (call (.ref f) us) (EP X pins σ Q) X.xe s := by
  have r2 : Vals (vs ++ dvs) (us ++ ds) := r.append hd
  have hl : (us ++ ds).length = ps.length := by rw [← r2.length]; exact F.len _ _ _ _ h
  refine wpAny_call (codeAny_mono (F.run X.A X.stack s H ⟨us, []⟩ (us ++ ds) (vs ++ dvs) Q E hr I.env0 (hb s us I.kIn hl) r2 h) fun r s' hq => ?_)
  cases r with
  | error e => exact hx pins σ H s e s' I hq
  | ok fl =>
    cases fl with
    | ret u => exact I.after hq
    | next => exact False.elim hq
    | brk => exact False.elim hq
    | cont => exact False.elim hq
theorem pe_call (F : FnOk X.prog X.w X.K X.mg X.base CX k f fd ps sp) (hr : Room k X.A) (hg : Gl X x) (hm : X.mg x = some (.ref f)) (hk : PySem.W.keepIn X.K (.ref f) = true) (hb : Binds X.K fd ps ds) (hd : Vals dvs ds) (hx : Passes CX X E)
    (ha : PA X (e :: es) t) (hdb : (x == ("__debug__" : Str)) = false := by decide) (he : starEach (e :: es) X.env = (false, eval e X.env) :: starEach es X.env := by rfl) (hpl : (backTo pos (starEach es X.env)).any (·.1) = false := by rfl) :
    PE X (.Call (.Name x p) (e :: es) [] pos) (tCall sp dvs E t) := by
  intro pins s σ H Q I h
  refine wpAny_Call_Name_kw (ld_glob I hg hm ?_ hdb)
  refine PySem.W.callWith_K (h₀ := X.base) I.ok.mod.kin hk (thn (ha pos pins s σ H _ I h) fun us s1 ⟨vs, H1, I1, r, q⟩ => ⟨I1.kIn, ?_⟩) he hpl
  exact run_fn F hr hb hd hx I1 r q
theorem pe_meth0 {pl : Sem Bool} (he : PE X o ta) (c : Cls X.K C) (hm : Meth X.K C m f) (F : FnOk X.prog X.w X.K X.mg X.base CX k f fd ps sp) (hr : Room k X.A) (hb : Binds X.K fd ps ds) (hd : Vals dvs ds) (hx : Passes CX X E)
    (ht : eval (.Call (.Attribute o m apos) [] [] pos) X.env = (do
      let ov ← eval o X.env
      standAt apos.atName
      let (f, first) ← holding [ov] (getMethod ov m pl)
      callWith pos f first (backTo pos (starEach [] X.env)) (backToKw pos (keywordEach [] X.env))) := by rfl) :
    PE X (.Call (.Attribute o m apos) [] [] pos) (tMeth C m sp dvs E ta tNil) := by
  intro pins s σ H Q I h
  refine PySem.W.methodCall_KW (pl := pl) (thn (he pins s σ H _ I h) fun u s1 ⟨x, H1, I1, rx, a, dx, fs, ex, ea, l, q⟩ => ?_) ht
  subst ex
  obtain rfl : u = Value.ref a := rx
  refine getmeth_ok I1 ea c hm l ?_
  exact PySem.W.callWith_K0 (first := [.ref a]) I1.kIn hm.kp (run_fn (us := [.ref a]) (vs := [.ref a]) F hr hb hd hx I1 (.cons rfl .nil) q)
structure Mk (K : PySem.W.Frag) (C f : Addr) : Prop where
  makes : PySem.W.makesIn K C = true
  init : PySem.W.findIn K (.ref C) "__init__" = some (some (.ref f))
  fn : PySem.W.isFn K (.ref f) = true
  kp : PySem.W.keepIn K (.ref C) = true
theorem run_make {pins : List (Addr × Obj)} {σ : St} {H : Hp} {s : Shared} {Q : VK} {us : List Value} {vs : List V} (M : Mk X.K C f) (F : FnOk X.prog X.w X.K X.mg X.base CX k f fd ps sp) (hr : Room (k + 1) X.A) (hb : Binds X.K fd ps ds) (hd : Vals dvs ds)
    (hx : Passes CX X E) (I : Inv X pins σ H s) (r : Vals vs us)
    (h : ∀ x dx, H x = none → H dx = none → dx ≠ x → sp (.ref x :: (vs ++ dvs)) (upd (upd H dx (.own x)) x (.ins C dx [])) (fun v H2 => v = .non ∧ Q (.ref x) H2) E) :
    wpAny (model X.prog X.w) X.A (call (.ref C) us) (EP X pins σ Q) X.xe s := by
  have hq := h (s.heap.objs.size + 1) s.heap.objs.size (I.hok.fresh (Nat.le_succ _)) (I.hok.fresh (Nat.le_refl _)) (Nat.ne_of_lt (Nat.lt_succ_self _))
  have I2 := Inv.made (C := C) I
  have r2 : Vals (V.ref (s.heap.objs.size + 1) :: (vs ++ dvs)) (Value.ref (s.heap.objs.size + 1) :: (us ++ ds)) := .cons rfl (r.append hd)
  have hl : (Value.ref (s.heap.objs.size + 1) :: us ++ ds).length = ps.length := by
    have e := r2.length
    rw [F.len _ _ _ _ hq] at e
    exact e.symm
  refine wpAny_call (make_map (f := f) I.kIn M.makes M.init (beq_iff_eq.mp M.fn) (codeAny_mono (F.run _ X.stack _ _ ⟨Value.ref (s.heap.objs.size + 1) :: us, []⟩ (Value.ref (s.heap.objs.size + 1) :: (us ++ ds)) _ _ E (hr.make C us [])
    (I2.env0.make C us []) (hb _ (Value.ref (s.heap.objs.size + 1) :: us) I2.kIn hl) r2 hq) fun r s' hq' => ?_))
  cases r with
  | error e => exact hx pins σ _ _ e s' I2 hq'
  | ok fl =>
    cases fl with
    | ret u =>
      obtain ⟨v, H', I3, rv, ev, q3⟩ := I2.after hq'
      subst ev
      exact ⟨rv, ⟨V.ref (s.heap.objs.size + 1), H', I3, rfl, q3⟩⟩
    | next => exact False.elim hq'
    | brk => exact False.elim hq'
    | cont => exact False.elim hq'
theorem pe_make (M : Mk X.K C f) (F : FnOk X.prog X.w X.K X.mg X.base CX k f fd ps sp) (hr : Room (k + 1) X.A) (hg : Gl X x) (hm : X.mg x = some (.ref C)) (hb : Binds X.K fd ps ds) (hd : Vals dvs ds) (hx : Passes CX X E)
    (ha : PA X (e :: es) t) (hdb : (x == ("__debug__" : Str)) = false := by decide) (he : starEach (e :: es) X.env = (false, eval e X.env) :: starEach es X.env := by rfl) (hpl : (backTo pos (starEach es X.env)).any (·.1) = false := by rfl) :
    PE X (.Call (.Name x p) (e :: es) [] pos) (tMake C sp dvs E t) := by
  intro pins s σ H Q I h
  refine wpAny_Call_Name_kw (ld_glob I hg hm ?_ hdb)
  refine PySem.W.callWith_K (h₀ := X.base) I.ok.mod.kin M.kp (thn (ha pos pins s σ H _ I h) fun us s1 ⟨vs, H1, I1, r, q⟩ => ⟨I1.kIn, ?_⟩) he hpl
  exact run_make M F hr hb hd hx I1 r q
end
section
variable {X : Cx} {CX : CXT} {k : Nat} {f C : Addr} {fd : FuncData} {ps ks : List Str} {sp : Sp} {E : XK} {x m : Str} {p pos apos kpos : Pos} {e o : Expr} {es : List Expr} {kws : List Keyword} {te ta : TE} {t tk : TA} {nm : Option Str}
structure KBinds (K : PySem.W.Frag) (fd : FuncData) (ps ks : List Str) (g : List Value → List Value → List Value) (gV : List V → List V → List V) : Prop where
  to : ∀ (s : Shared) (us ws : List Value), K.In s.heap → (g us ws).length = ps.length → BindsTo s fd ⟨us, ks.zip ws⟩ (ps.zip (g us ws))
  rel : ∀ {vs : List V} {us : List Value} {zs : List V} {ws : List Value}, Vals vs us → Vals zs ws → Vals (gV vs zs) (g us ws)
variable {g : List Value → List Value → List Value} {gV : List V → List V → List V}
end
structure FnScope (N P : List Str) (sc : Scope) : Prop where
  kind : sc.kind = .function
  co : sc.isCoroutine = false
  gen : sc.isGenerator = false
  nd : N.Nodup
  pre : N.take P.length = P
  par : ∀ x ∈ P, sc.names.lookup x = some .local ∨ sc.names.lookup x = some .cell
  nofree : ∀ y ∈ sc.names, y.2 ≠ .free
theorem bindL_out {kindOf : Str → Option NameKind} {x : Str} : ∀ {binds : List (Str × Value)} {m : Str → Option Value}, (∀ v, (x, v) ∉ binds) → bindL kindOf binds m x = m x
  | [], _, _ => rfl
  | (n, v) :: r, m, h => by
    unfold bindL
    rw [bindL_out fun w hw => h w (List.mem_cons_of_mem _ hw)]
    split
    · have : x ≠ n := by rintro rfl; exact h v List.mem_cons_self
      simp [this]
    · rfl
theorem bindC_out {kindOf : Str → Option NameKind} {x : Str} : ∀ {binds : List (Str × Value)} {m : Str → Option Value}, (∀ v, (x, v) ∉ binds) → bindC kindOf binds m x = m x
  | [], _, _ => rfl
  | (n, v) :: r, m, h => by
    unfold bindC
    rw [bindC_out fun w hw => h w (List.mem_cons_of_mem _ hw)]
    split
    · rfl
    · have : x ≠ n := by rintro rfl; exact h v List.mem_cons_self
      simp [this]
theorem bindL_get {kindOf : Str → Option NameKind} {x : Str} {v : Value} : ∀ {P : List Str} {vs : List Value} {i : Nat} {m : Str → Option Value}, P.Nodup → P[i]? = some x → vs[i]? = some v → kindOf x = some .local →
    bindL kindOf (P.zip vs) m x = some v
  | [], _, _, _, _, h, _, _ => by simp at h
  | _ :: _, [], _, _, _, _, h, _ => by simp at h
  | p :: P, w :: vs, 0, m, nd, h1, h2, hk => by
    simp at h1 h2; subst h1; subst h2
    show bindL kindOf ((p, w) :: P.zip vs) m p = _
    unfold bindL
    rw [bindL_out fun v hv => (List.nodup_cons.mp nd).1 (List.of_mem_zip hv).1, if_pos hk]
    simp
  | p :: P, w :: vs, i + 1, m, nd, h1, h2, hk => by
    show bindL kindOf ((p, w) :: P.zip vs) m x = _
    unfold bindL
    exact bindL_get (i := i) (List.nodup_cons.mp nd).2 (by simpa using h1) (by simpa using h2) hk
theorem bindC_get {kindOf : Str → Option NameKind} {x : Str} {v : Value} : ∀ {P : List Str} {vs : List Value} {i : Nat} {m : Str → Option Value}, P.Nodup → P[i]? = some x → vs[i]? = some v → kindOf x ≠ some .local →
    bindC kindOf (P.zip vs) m x = some v
  | [], _, _, _, _, h, _, _ => by simp at h
  | _ :: _, [], _, _, _, _, h, _ => by simp at h
  | p :: P, w :: vs, 0, m, nd, h1, h2, hk => by
    simp at h1 h2; subst h1; subst h2
    show bindC kindOf ((p, w) :: P.zip vs) m p = _
    unfold bindC
    rw [bindC_out fun v hv => (List.nodup_cons.mp nd).1 (List.of_mem_zip hv).1, if_neg hk]
    simp
  | p :: P, w :: vs, i + 1, m, nd, h1, h2, hk => by
    show bindC kindOf ((p, w) :: P.zip vs) m x = _
    unfold bindC
    exact bindC_get (i := i) (List.nodup_cons.mp nd).2 (by simpa using h1) (by simpa using h2) hk
noncomputable def start (N : List Str) (vs : List V) : St := vs.map some ++ List.replicate (N.length - vs.length) none
noncomputable def cxOf (CX : CXT) (P : Program) (w : World) (K : PySem.W.Frag) (mg : Str → Option Value) (base : Heap) (N : List Str) (qual : Str) (scope : Scope) (f : Addr) (cd : Value) (A : Around) (outer : List Env) (s : Shared) (H : Hp) (E : XK) : Cx where
  prog := P
  w := w
  K := K
  mg := mg
  base := base
  A := A.deeper (envOfC qual scope s.heap.objs.size f cd)
  N := N
  s₀ := s
  H₀ := H
  env := envOfC qual scope s.heap.objs.size f cd
  outer := outer
  stack := envOfC qual scope s.heap.objs.size f cd :: outer
  ex := []
  calm := true
  fn := fun _ => true
  pn := []
  xe := fun e s' => wpAny (model P w) (A.deeper (envOfC qual scope s.heap.objs.size f cd)) (leaving (envOfC qual scope s.heap.objs.size f cd) e) (fun _ s'' => CX outer H s E e s'') (fun e' s'' => CX outer H s E e' s'') s'
theorem cell_has {sc : Scope} {n : Nat} {x : Str} (h : sc.names.lookup x = some .cell) : ∃ c, (cellsFrom n sc.names []).lookup x = some c := by
  have q := PySem.W.cellsFrom_some sc.names n [] (.inl h)
  exact Option.isSome_iff_exists.mp q
theorem inv_start {CX : CXT} {P : Program} {w : World} {K : PySem.W.Frag} {mg : Str → Option Value} {base : Heap} {N ps : List Str} {qual : Str} {scope : Scope} {f : Addr} {cd : Value} {A : Around} {outer : List Env} {s s1 : Shared} {H : Hp} {E : XK} {us : List Value} {vs : List V}
    (S : FnScope N ps scope) (hd : A.handled = none) (e0 : Env0 P w K mg base A outer s H) (hl : vs.length = ps.length) (r : Vals vs us)
    (x : InCallC s s.heap.objs.size (bindL (envOfC qual scope s.heap.objs.size f cd).kindOf (ps.zip us) fun _ => none) (cellsFrom (s.heap.objs.size + 1) scope.names []) (bindC (envOfC qual scope s.heap.objs.size f cd).kindOf (ps.zip us) fun _ => none) s1) :
    Inv (cxOf CX P w K mg base N qual scope f cd A outer s H E) [] (start N vs) H s1 := by
  have hpl : ps.length ≤ N.length := by have := congrArg List.length S.pre; rw [List.length_take] at this; omega
  obtain ⟨h1, tk, rfl, hk⟩ := x.done
  have noA : ∀ b : Addr, b ∉ (cxOf CX P w K mg base N qual scope f cd A outer s H E).ex := fun b z => absurd (show b ∈ ([] : List Addr) from z) (by simp)
  refine ⟨⟨e0.mod, S.kind, rfl, rfl, Nat.le_refl _, fun y z c h1 h2 => ?_, fun y hy => ?_, fun y c _ h => ?_, fun _ => hd, Around.frames_deeper e0.frames, .inr ⟨rfl, rfl⟩, fun b z => absurd z (noA b), e0.bs, e0.bsz, fun b _ _ => noA b, fun b z => absurd z (noA b), e0.funs, e0.frf⟩,
    rfl, e0.bare, Un.kept hk, ⟨_, x.toInCall.ns, fun i y v h1 h2 h3 => ?_⟩, fun y c h => ⟨_, x.cell y c h⟩, e0.hok.fresh (Nat.le_refl _), fun y c h => ?_, fun p hp => absurd (show p ∈ ([] : List (Addr × Obj)) from hp) (by simp), e0.hok.kept hk, ?_⟩
  · exact name_of_addr x.apart (PySem.mem_of_lookup h1) (PySem.mem_of_lookup h2)
  · have hy : scope.names.lookup y = some .cell ∨ scope.names.lookup y = some .free := hy
    rcases hy with hy | hy
    · exact cell_has hy
    · exact absurd rfl (S.nofree _ (PySem.mem_of_lookup hy))
  · exact Nat.le_of_lt (x.above y c (PySem.mem_of_lookup h))
  · have hi : i < vs.length := by
      unfold start at h2
      by_cases hi : i < vs.length
      · exact hi
      · rw [List.getElem?_append_right (by simpa using hi)] at h2
        rw [List.getElem?_replicate] at h2
        split at h2 <;> cases h2
    have ha : vs[i]? = some v := by
      unfold start at h2
      rw [List.getElem?_append_left (by simpa using hi), List.getElem?_map] at h2
      cases e : vs[i]? with
      | none => rw [e] at h2; cases h2
      | some a => rw [e] at h2; cases h2; rfl
    obtain ⟨u, hu, rv⟩ := r.get ha
    have hp : ps[i]? = some y := by
      rw [← S.pre, List.getElem?_take_of_lt (by omega)]; exact h1
    have ndP : ps.Nodup := by rw [← S.pre]; exact S.nd.sublist (List.take_sublist _ _)
    refine ⟨u, rv, ?_⟩
    rcases S.par y (List.mem_of_getElem? hp) with k | k
    · exact .inl ⟨k, bindL_get ndP hp hu k⟩
    · obtain ⟨c, e⟩ := cell_has (n := s.heap.objs.size + 1) k
      refine .inr ⟨.inl k, c, e, ?_⟩
      have q := x.cell y c e
      rw [bindC_get ndP hp hu (by show scope.names.lookup y ≠ _; rw [k]; decide)] at q
      exact q
  · exact e0.hok.fresh (Nat.le_of_lt (x.above y c (PySem.mem_of_lookup h)))
  · unfold start
    show _ = N.length
    rw [List.length_append, List.length_map, List.length_replicate]
    omega
theorem fn_of {CX : CXT} {P : Program} {w : World} {K : PySem.W.Frag} {mg : Str → Option Value} {base : Heap} {k : Nat} {f : Addr} {name qual : Str} {params : Arguments} {body : List Stmt} {scope : Scope} {dV kV doc pm cdv ct oc : Value} {an od : Option Addr}
    {osl : Array (Option Value)} {N ps : List Str} {sp : Sp} (lk : K.lookup f = some ⟨oc, od, .func (PySem.W.fnOf name qual params body scope dV kV doc pm an cdv ct), osl⟩) (hcd : PySem.W.codeIn K cdv qual = true) (S : FnScope N ps scope)
    (len : ∀ vs H Q E, sp vs H Q E → vs.length = ps.length)
    (hbody : ∀ (A : Around) (outer : List Env) (s : Shared) (H : Hp) (vs : List V) (Q : VK) (E : XK), Room k (A.deeper (envOfC qual scope s.heap.objs.size f cdv)) → sp vs H Q E →
      ∃ t, PSs (cxOf CX P w K mg base N qual scope f cdv A outer s H E) body t ∧ t { nx := fun _ H' => Q .non H', rt := Q } (start N vs) H) :
    FnOk P w K mg base CX (k + 1) f (PySem.W.fnOf name qual params body scope dV kV doc pm an cdv ct) ps sp := by
  refine ⟨len, fun A outer s H args us vs Q E hr e0 hb r hsp => ?_⟩
  have hl := len _ _ _ _ hsp
  have KX : K.In s.heap := e0.mod.kin.keeps fun b o e => (e0.bs b o e).1
  have lim : s.heap.NoLimit := e0.mod.nolimit.keeps fun b o e => (e0.bs b o e).1
  have hkind : ∀ y ∈ ps.zip us, scope.names.lookup y.1 = some .local ∨ (scope.names.lookup y.1 = some .cell ∧ ((cellsFrom (s.heap.objs.size + 1) scope.names []).lookup y.1).isSome = true) := fun ⟨n, v⟩ hy => by
    rcases S.par n (List.of_mem_zip hy).1 with q | q
    · exact .inl q
    · exact .inr ⟨q, PySem.W.cellsFrom_some _ _ _ (.inl q)⟩
  refine codeAny_call_function hr.depth (KX _ _ lk) rfl S.co S.gen rfl (PySem.W.codeRec_of KX hcd) (hb _ _ _ _ ?_)
  refine wpAny_newFunctionEnv_cells S.kind hkind fun env he s1 x => ?_
  subst he
  refine ⟨lim.keeps x.toInCall.keep, codeAny_func ?_⟩
  obtain ⟨t, ht, hq⟩ := hbody A outer s H vs Q E (hr.deeper _) hsp
  have I : Inv (cxOf CX P w K mg base N qual scope f cdv A outer s H E) [] (start N vs) H s1 := inv_start S hr.hd e0 hl r x
  refine wpAny_mono (ht [] s1 (start N vs) H _ I hq) (fun fl s' hs => ?_) fun e s' hs => hs
  have fin : ∀ {σ' : St} {H' : Hp} {v : V} {u : Value}, Inv (cxOf CX P w K mg base N qual scope f cdv A outer s H E) [] σ' H' s' → RelV v u → Q v H' → CE outer P w H s Q u s' :=
    fun {σ' H' v u} J rv q => ⟨v, H', J.os, J.bare, J.base, J.hok, rv, q⟩
  cases fl with
  | ret u =>
    obtain ⟨v, σ', H', J, rv, q⟩ := hs
    exact fin J rv q
  | next =>
    obtain ⟨σ', H', J, q⟩ := hs
    exact fin (v := V.non) (u := Value.none) J rfl q
  | brk =>
    obtain ⟨_, _, _, q⟩ := hs
    exact False.elim q
  | cont =>
    obtain ⟨_, _, _, q⟩ := hs
    exact False.elim q
end L2
namespace L2
open PySem PySem.Spec PyProof.Rows
section
variable {X : Cx} {x : Str} {p pos : Pos} {e : Expr} {es : List Expr} {t : TA} {id T : String} {r : List V → Hp → VK → Prop}
noncomputable def tCB (r : List V → Hp → VK → Prop) (t : TA) : TE := fun σ H Q => t σ H fun vs H1 => r vs H1 Q
theorem pe_callB (hc : CallR X (.builtin id) r) (hg : Gl X x) (hm : X.mg x = none) (hv : bootBuiltins x = some (.builtin id)) (ha : PA X (e :: es) t) (hn : x ≠ "__name__" := by decide) (hdb : (x == ("__debug__" : Str)) = false := by decide)
    (he : starEach (e :: es) X.env = (false, eval e X.env) :: starEach es X.env := by rfl) (hpl : (backTo pos (starEach es X.env)).any (·.1) = false := by rfl) : PE X (.Call (.Name x p) (e :: es) [] pos) (tCB r t) := by
  intro pins s σ H Q I h
  refine wpAny_Call_Name_kw (ld_blt I hg hm hv ?_ hn hdb)
  exact PyProof.Rows.callWith_builtin1 (thn (ha pos pins s σ H _ I h) fun us s1 ⟨vs, H1, I1, r1, q1⟩ => hc pins s1 σ H1 vs us Q I1 r1 q1) he hpl
theorem pe_callTy (hc : CallR X (.type T) r) (hg : Gl X x) (hm : X.mg x = none) (hv : bootBuiltins x = some (.type T)) (ha : PA X (e :: es) t) (hn : x ≠ "__name__" := by decide) (hdb : (x == ("__debug__" : Str)) = false := by decide)
    (he : starEach (e :: es) X.env = (false, eval e X.env) :: starEach es X.env := by rfl) (hpl : (backTo pos (starEach es X.env)).any (·.1) = false := by rfl) : PE X (.Call (.Name x p) (e :: es) [] pos) (tCB r t) := by
  intro pins s σ H Q I h
  refine wpAny_Call_Name_kw (ld_blt I hg hm hv ?_ hn hdb)
  exact PyProof.Rows.callWith_type1 (thn (ha pos pins s σ H _ I h) fun us s1 ⟨vs, H1, I1, r1, q1⟩ => hc pins s1 σ H1 vs us Q I1 r1 q1) he hpl
end
end L2
namespace HT
open PySem PyProof.Rows
section
open PySem.SeqAt
open PySem.AutoSeq1 (wpAny_loadPart')
open PySem.MeetsSeq PySem.MeetsSeq2 PySem.MeetsSeq3
end
section
variable {prog : Program} {w : World} {A : Around} {E : Value → Shared → Prop} {s : Shared}
theorem cat_tup {t b : Addr} {vs ws : List Value} {Q : Value → Shared → Prop} (ht : IsTup s.heap t vs.toArray) (hb : IsTup s.heap b ws.toArray) (hv : vs ≠ [])
    (h1 : ws = [] → Q (.ref t) s) (h2 : ws ≠ [] → Q (.ref s.heap.objs.size) { s with heap := s.heap.push { cls := .type "tuple", data := .seq (vs ++ ws).toArray } })
    (hsz : vs.length + ws.length ≤ sizeLine) : wpAny (model prog w) A (binaryOp .Add (.ref t) (.ref b)) Q E s := by
  obtain ⟨⟨cls, dd, data, sl⟩, ho, hc, n, hd⟩ := id ht
  obtain ⟨⟨cls2, dd2, data2, sl2⟩, ho2, hc2, n2, hd2⟩ := id hb
  simp only at hc hd hc2 hd2
  subst hc hd hc2 hd2
  have e : vs.toArray ++ ws.toArray = (vs ++ ws).toArray := by simp
  by_cases hw : ws = []
  · exact concat_meets ⟨_, ho, rfl⟩ ⟨_, ho2, rfl⟩ noFill_tuple_add seq_tuple_add PySem.F.slot_tuple_add PySem.F.entry_tuple_add (PySem.F.args_tuple_add_2 _ _)
      (tuple_addW1 t b vs.toArray ws.toArray n n2 dd dd2 sl sl2 (by simpa using hv) (by simp [hw])) ⟨ho, ho2, h1 hw⟩
  · refine concat_meets ⟨_, ho, rfl⟩ ⟨_, ho2, rfl⟩ noFill_tuple_add seq_tuple_add PySem.F.slot_tuple_add PySem.F.entry_tuple_add (PySem.F.args_tuple_add_2 _ _)
      (tuple_addW2 t b vs.toArray ws.toArray n n2 dd dd2 sl sl2 (by simpa using hv) (by simpa using hw) (by rw [List.size_toArray, List.size_toArray]; exact hsz)) ⟨ho, ho2, ?_⟩
    rw [e]
    exact h2 hw
end
end HT
namespace L2
open PySem PySem.Spec PyProof.Rows
noncomputable abbrev TO := St → Hp → (Option Int → Hp → Prop) → Prop
noncomputable def PO (X : Cx) (e : Option Expr) (t : TO) : Prop :=
  ∀ (pins : List (Addr × Obj)) (s : Shared) (σ : St) (H : Hp) (Q : Option Int → Hp → Prop), Inv X pins σ H s → t σ H Q →
    wpAny (model X.prog X.w) X.A (evalPart e X.env) (fun u s' => ∃ o H', Inv X pins σ H' s' ∧ IsPart u o ∧ Q o H') X.xe s
noncomputable def tNoPart : TO := fun _ H Q => Q none H
noncomputable def tPart (t : TE) : TO := fun σ H Q => t σ H fun x H1 => ∃ i, x = .int i ∧ Q (some i) H1
theorem intsAre_of {ns : List Int} : ∀ {us : List Value}, Vals (ns.map V.int) us → IntsAre us ns := by
  induction ns with
  | nil => intro us r; rw [List.map_nil] at r; cases r; exact .nil
  | cons n ns ih =>
    intro us r
    rw [List.map_cons] at r
    cases r with
    | cons r1 r2 =>
      obtain ⟨t, e⟩ := r1
      subst e
      exact .cons n t (ih r2)
section
variable {X : Cx} {e : Expr} {te : TE} {lo hi : Option Expr} {tl th : TO} {pos p2 : Pos}
theorem po_none : PO X none tNoPart := by
  intro pins s σ H Q I h
  rw [evalPart_none]
  exact wpAny_pure ⟨none, H, I, .none, h⟩
theorem po_some (h : PE X e te) : PO X (some e) (tPart te) := by
  intro pins s σ H Q I hw
  rw [evalPart_some]
  refine thn (h pins s σ H _ I hw) fun u s1 ⟨x, H1, I1, r1, q1⟩ => ?_
  obtain ⟨i, rfl, q⟩ := q1
  obtain ⟨t, rfl⟩ := r1
  exact ⟨some i, H1, I1, .int i t, q⟩
noncomputable def rCatT (K : PySem.W.Frag) : R2 := fun x y H Q => ∃ a b xs ys, x = .ref a ∧ y = .ref b ∧ SqT K H a xs ∧ SqT K H b ys ∧ xs ≠ [] ∧ xs.length + ys.length ≤ sizeLine ∧
  (ys = [] → Q (.ref a) H) ∧ (ys ≠ [] → ∀ p, H p = none → Q (.ref p) (upd H p (.tup (xs ++ ys))))
theorem Vals.nil_iff {xs : List V} {us : List Value} (r : Vals xs us) : us = [] ↔ xs = [] := by
  cases r with
  | nil => simp
  | cons _ _ => simp
theorem op_catT : OpR X (binaryOp .Add) (rCatT X.K) := by
  intro pins s σ H x y v u Q I rx ry h
  obtain ⟨a, b, xs, ys, rfl, rfl, ha, hb, hx, hz, q1, q2⟩ := h
  cases rx
  cases ry
  obtain ⟨its, r1, p1, _⟩ := I.tuple ha
  obtain ⟨its2, r2, p2, _⟩ := I.tuple hb
  refine HT.cat_tup p1 p2 (fun z => hx (r1.nil_iff.mp z)) (fun z => ⟨.ref a, H, I, rfl, q1 (r2.nil_iff.mp z)⟩) (fun z => ?_) (by rw [← r1.length, ← r2.length]; exact hz)
  refine ⟨.ref s.heap.objs.size, _, I.laid (t' := s.toks) (o := .tup (xs ++ ys)) (fun b ob q => Heap.get?_push_of_some _ q) (Nat.le_refl _) ?_, rfl, q2 (fun w => z (r2.nil_iff.mpr w)) _ (I.hok.fresh (Nat.le_refl _))⟩
  exact ⟨by rw [List.length_append]; exact hz, _, r1.append r2, IsTup.new _ _, _, Heap.get?_push_size _ rfl, rfl⟩
end
end L2
namespace L2
open PySem PySem.Spec PyProof.Rows
noncomputable def ixN (n : Nat) (i : Int) : Option Nat := if 0 ≤ i then (if i < n then some i.toNat else none) else if -(n : Int) ≤ i then some (i + n).toNat else none
noncomputable def atI {α : Type} (xs : List α) (i : Int) : Option α := (ixN xs.length i).bind fun j => xs[j]?
theorem ixN_seq {n : Nat} {i : Int} {j : Nat} (h : ixN n i = some j) : seqIndex? i n = some j ∧ j < n ∧ -(n : Int) ≤ i ∧ i < n := by
  unfold ixN at h
  by_cases h0 : 0 ≤ i
  · rw [if_pos h0] at h
    by_cases h1 : i < n
    · rw [if_pos h1] at h
      have e : i.toNat = j := Option.some.inj h
      exact ⟨by rw [seqIndex_of h0 h1, e], by omega, by omega, h1⟩
    · rw [if_neg h1] at h; cases h
  · rw [if_neg h0] at h
    by_cases h1 : -(n : Int) ≤ i
    · rw [if_pos h1] at h
      have e : (i + n).toNat = j := Option.some.inj h
      exact ⟨by rw [seqIndex_neg (by omega) h1, e], by omega, h1, by omega⟩
    · rw [if_neg h1] at h; cases h
theorem atI_get {α : Type} {xs : List α} {i : Int} {v : α} (h : atI xs i = some v) : ∃ j, seqIndex? i xs.length = some j ∧ xs[j]? = some v ∧ j < xs.length ∧ -(xs.length : Int) ≤ i ∧ i < xs.length := by
  unfold atI at h
  cases e : ixN xs.length i with
  | none => rw [e] at h; cases h
  | some j =>
    rw [e] at h
    obtain ⟨h1, h2, h3, h4⟩ := ixN_seq e
    exact ⟨j, h1, h, h2, h3, h4⟩
theorem atI_nat {α : Type} {xs : List α} {j : Nat} {v : α} (h : xs[j]? = some v) : atI xs (j : Int) = some v := by
  have hj : j < xs.length := (List.getElem?_eq_some_iff.mp h).1
  have e : ixN xs.length (j : Int) = some j := by
    unfold ixN
    rw [if_pos (by omega), if_pos (by omega)]; simp
  unfold atI; rw [e]; exact h
noncomputable def PlainIx (b : Expr) : Prop := ∀ o i, subscripted b false o i = operate [o, i] (getItem o i)
noncomputable def IxR (X : Cx) (r : R2) : Prop :=
  ∀ (value slice : Expr) (pins : List (Addr × Obj)) (s : Shared) (σ : St) (H : Hp) (x y : V) (v u : Value) (Q : VK), Inv X pins σ H s → RelV x v → RelV y u → r x y H Q →
    subscripted slice false v u = operate [v, u] (getItem v u) → wpAny (model X.prog X.w) X.A (subscriptTail value slice v u) (EP X pins σ Q) X.xe s
noncomputable def MtR (X : Cx) (id : String) (r : V → List V → Hp → VK → Prop) : Prop :=
  ∀ (pins : List (Addr × Obj)) (s : Shared) (σ : St) (H : Hp) (x : V) (xs : List V) (v : Value) (us : List Value) (Q : VK), Inv X pins σ H s → RelV x v → Vals xs us → r x xs H Q →
    wpAny (model X.prog X.w) X.A (call (.builtin id) (v :: us)) (EP X pins σ Q) X.xe s
section
variable {X : Cx} {a b : Expr} {ta tb : TE} {pos : Pos}
theorem pe_ix {r : R2} (hr : IxR X r) (ha : PE X a ta) (hb : PE X b tb) (hs : PlainIx b) : PE X (.Subscript a b pos) (tOp r ta tb) := by
  intro pins s σ H Q I h
  exact Subscript_ (binT ha hb I h fun v u s2 x y H2 I2 rx ry q => hr a b pins s2 σ H2 x y v u Q I2 rx ry q (hs _ _))
noncomputable def rIxL (K : PySem.W.Frag) : R2 := fun x y H Q => ∃ p xs i v, x = .ref p ∧ y = .int i ∧ SqL K H p xs ∧ atI xs i = some v ∧ Q v H
noncomputable def rIxT (K : PySem.W.Frag) : R2 := fun x y H Q => ∃ p xs i v, x = .ref p ∧ y = .int i ∧ SqT K H p xs ∧ atI xs i = some v ∧ Q v H
theorem ix_list : IxR X (rIxL X.K) := by
  intro value slice pins s σ H x y v u Q I rx ry h hs
  obtain ⟨p, xs, i, z, rfl, rfl, hq, he, q⟩ := h
  cases rx
  obtain ⟨t, rfl⟩ := ry
  obtain ⟨its, r, pl, hz⟩ := I.list hq
  obtain ⟨j, h1, h2, h3, h4, h5⟩ := atI_get he
  obtain ⟨w, ew, rw'⟩ := r.get h2
  have hl := r.length
  have hn := line63
  have fin : EP X pins σ Q w s := ⟨z, H, I, rw', q⟩
  by_cases h0 : 0 ≤ i
  · have hj : i.toNat = j := by
      rw [seqIndex_of h0 h5] at h1
      exact Option.some.inj h1
    exact item_listR pl.isList h0 (by omega) (by rw [hj]; simpa using ew) fin hs
  · have hj : (i + (its.toArray.size : Int)).toNat = j := by
      rw [seqIndex_neg (by omega) h4] at h1
      rw [List.size_toArray, ← hl]
      exact Option.some.inj h1
    exact subscriptTail_builtinR (x := w) pl.isList.typeIs slot_list_getitem.lookup
      (wpAny_getItem_list_neg (Q := fun r s' => r = w ∧ EP X pins σ Q r s') pl.isList (by omega) (by rw [List.size_toArray] <;> omega) (by omega) (by rw [hj]; simpa using ew) ⟨rfl, fin⟩) hs
theorem ix_tup : IxR X (rIxT X.K) := by
  intro value slice pins s σ H x y v u Q I rx ry h hs
  obtain ⟨p, xs, i, z, rfl, rfl, hq, he, q⟩ := h
  cases rx
  obtain ⟨t, rfl⟩ := ry
  obtain ⟨its, r, pl, hz⟩ := I.tuple hq
  obtain ⟨j, h1, h2, h3, h4, h5⟩ := atI_get he
  obtain ⟨w, ew, rw'⟩ := r.get h2
  have hl := r.length
  have hn := line63
  have fin : EP X pins σ Q w s := ⟨z, H, I, rw', q⟩
  exact subscriptTail_builtinR (x := w) pl.typeIs slot_tuple_getitem.lookup
    (getItem_tuple (j := j) (Q := fun r s' => r = w ∧ EP X pins σ Q r s') pl (by omega) (by omega) (by rw [List.size_toArray, ← hl]; exact h1) (by simpa using ew) ⟨rfl, fin⟩) hs
theorem mapSeq_set (its : List Value) (n j : Nat) (u : Value) : Obj.mapSeq (·.setIfInBounds j u) { cls := .type "list", data := .seq its.toArray n } = { cls := .type "list", data := .seq (its.set j u).toArray n } := by
  simp [Obj.mapSeq]
theorem Inv.lst {pins : List (Addr × Obj)} {σ : St} {H : Hp} {s : Shared} {p : Addr} {xs : List V} (I : Inv X pins σ H s) (h : H p = some (.lst xs)) :
    ∃ (its : List Value) (n : Nat), Vals xs its ∧ s.heap.get? p = some { cls := .type "list", data := .seq its.toArray n } ∧ xs.length ≤ sizeLine := by
  obtain ⟨z, its, n, r, e⟩ := I.hok p _ h
  exact ⟨its, n, r, e, z⟩
theorem Inv.lstUpd {pins : List (Addr × Obj)} {σ : St} {H : Hp} {s : Shared} {p : Addr} {xs ys : List V} {its its' : List Value} {n n' : Nat} {f : Obj → Obj} (I : Inv X pins σ H s) (h : H p = some (.lst xs))
    (ho : s.heap.get? p = some { cls := .type "list", data := .seq its.toArray n }) (hf : f { cls := .type "list", data := .seq its.toArray n } = { cls := .type "list", data := .seq its'.toArray n' }) (r : Vals ys its') (hz : ys.length ≤ sizeLine) (t : Nat) :
    Inv X pins σ (upd H p (.lst ys)) { s with heap := s.heap.update p f, toks := t } := by
  have e : (s.heap.update p f).get? p = some { cls := .type "list", data := .seq its'.toArray n' } := by
    rw [Heap.get?_update_self f ho (by rw [hf] <;> rfl), hf]
  refine I.write (x := p) (e := p) (by rw [h]; trivial) (.inl rfl) (fun b u hb q => (Heap.get?_update_other _ _ (Ne.symm hb)).trans q) ⟨_, e⟩ ?_
  exact ⟨hz, its', n', r, e⟩
noncomputable def rSetL : V → V → V → Hp → (Hp → Prop) → Prop := fun o i v H Q => ∃ p xs k j, o = .ref p ∧ i = .int k ∧ H p = some (.lst xs) ∧ ixN xs.length k = some j ∧ Q (upd H p (.lst (xs.set j v)))
theorem set_list : PSet X rSetL := by
  intro pins s σ H o i v ov iv u Q I ro ri rv h
  obtain ⟨p, xs, k, j, rfl, rfl, hp, hj, q⟩ := h
  cases ro
  obtain ⟨t, rfl⟩ := ri
  obtain ⟨its, n, r, ho, hz⟩ := I.lst hp
  obtain ⟨h1, h2, h3, h4⟩ := ixN_seq hj
  have hl := r.length
  have hn := line63
  have I' : Inv X pins σ (upd H p (.lst (xs.set j v))) { s with heap := s.heap.update p (Obj.mapSeq (·.setIfInBounds j u)) } :=
    I.lstUpd hp ho (mapSeq_set its n j u) (r.set rv j) (by rw [List.length_set]; exact hz) s.toks
  by_cases h0 : 0 ≤ k
  · have hk : k.toNat = j := by
      rw [seqIndex_of h0 h4] at h1
      exact Option.some.inj h1
    exact PySem.W.ki_setAt ho h0 (by omega) (by rw [List.size_toArray, ← hl]; exact h4) (by rw [hk]; exact ⟨_, I', q⟩)
  · have hk : (k + (its.toArray.size : Int)).toNat = j := by
      rw [seqIndex_neg (by omega) h3] at h1
      rw [List.size_toArray, ← hl]
      exact Option.some.inj h1
    exact PySem.W.ki_setBack ho (by omega) (by rw [List.size_toArray, ← hl]; exact h3) (by omega) (by rw [hk]; exact ⟨_, I', q⟩)
noncomputable def flatV : V → Bool
  | .non => true
  | .bl _ => true
  | .int _ => true
  | .str _ => true
  | _ => false
noncomputable def eqV : V → V → Bool
  | .non, .non => true
  | .bl a, .bl b => a == b
  | .bl a, .int b => (if a then 1 else 0) == b
  | .int a, .bl b => a == (if b then 1 else 0)
  | .int a, .int b => a == b
  | .str a, .str b => a == b
  | _, _ => false
theorem eqAt_V {A : Around} {s : Shared} {y x : V} {u v : Value} (ry : RelV y u) (rx : RelV x v) (fy : flatV y = true) (fx : flatV x = true) : SeqAt.EqAt A s u v (eqV y x) := by
  cases y with
  | non =>
    cases ry
    cases x with
    | non => cases rx; exact SeqAt.EqAt.same _
    | bl b => cases rx; exact SeqAt.EqAt.none_bool b
    | int b => obtain ⟨t, rfl⟩ := rx; exact SeqAt.EqAt.none_int b t
    | str b => obtain ⟨t, rfl⟩ := rx; exact SeqAt.EqAt.none_str b t
    | _ => exact absurd (show false = true from fx) Bool.false_ne_true
  | bl a =>
    cases ry
    cases x with
    | non => cases rx; exact SeqAt.EqAt.bool_none a
    | bl b => cases rx; exact SeqAt.EqAt.bool_bool a b
    | int b => obtain ⟨t, rfl⟩ := rx; exact SeqAt.EqAt.bool_int a b t
    | str b => obtain ⟨t, rfl⟩ := rx; exact SeqAt.EqAt.bool_str a b t
    | _ => exact absurd (show false = true from fx) Bool.false_ne_true
  | int a =>
    obtain ⟨t', rfl⟩ := ry
    cases x with
    | non => cases rx; exact SeqAt.EqAt.int_none a t'
    | bl b => cases rx; exact SeqAt.EqAt.int_bool a t' b
    | int b => obtain ⟨t, rfl⟩ := rx; exact SeqAt.EqAt.int_int a t' b t
    | str b => obtain ⟨t, rfl⟩ := rx; exact SeqAt.EqAt.int_str a t' b t
    | _ => exact absurd (show false = true from fx) Bool.false_ne_true
  | str a =>
    obtain ⟨t', rfl⟩ := ry
    cases x with
    | non => cases rx; exact SeqAt.EqAt.str_none a t'
    | bl b => cases rx; exact SeqAt.EqAt.str_bool a t' b
    | int b => obtain ⟨t, rfl⟩ := rx; exact SeqAt.EqAt.str_int a t' b t
    | str b => obtain ⟨t, rfl⟩ := rx; exact SeqAt.EqAt.str_str a t' b t
    | _ => exact absurd (show false = true from fx) Bool.false_ne_true
  | _ => exact absurd (show false = true from fy) Bool.false_ne_true
noncomputable def eqU (x : V) (u : Value) : Bool := match u with
  | .none => eqV .non x
  | .bool b => eqV (.bl b) x
  | .int i _ => eqV (.int i) x
  | .str z _ => eqV (.str z) x
  | _ => false
theorem eqU_of {x y : V} {u : Value} (r : RelV y u) (f : flatV y = true) : eqU x u = eqV y x := by
  cases y with
  | non => cases r; rfl
  | bl b => cases r; rfl
  | int i => obtain ⟨t, rfl⟩ := r; rfl
  | str z => obtain ⟨t, rfl⟩ := r; rfl
  | _ => exact absurd (show false = true from f) Bool.false_ne_true
theorem mem_eqAt {A : Around} {s : Shared} {x : V} {v : Value} (rx : RelV x v) (fx : flatV x = true) : ∀ {xs : List V} {us : List Value}, Vals xs us → xs.all flatV = true → ∀ u ∈ us, SeqAt.EqAt A s u v (eqU x u)
  | _, _, .nil, _ => fun u hu => by cases hu
  | y :: xs, u :: us, .cons r t, f => fun u' hu => by
    rw [List.all_cons, Bool.and_eq_true] at f
    rcases List.mem_cons.mp hu with rfl | hu
    · rw [eqU_of r f.1]; exact eqAt_V r rx f.1 fx
    · exact mem_eqAt rx fx t f.2 u' hu
theorem call_len_seq : CallR X (.builtin "len") (fun xs H Q => ∃ p ys, xs = [.ref p] ∧ (SqL X.K H p ys ∨ SqT X.K H p ys) ∧ Q (.int ys.length) H) := by
  intro pins s σ H xs us Q I r h
  obtain ⟨p, ys, rfl, hq, q⟩ := h
  obtain ⟨u, rfl, rx⟩ := vals1 r
  cases rx
  have hn := line63
  rcases hq with hq | hq
  · obtain ⟨its, r', pl, hz⟩ := I.list hq
    have hlen := r'.length
    exact Calls.call_len_list pl.isList (by simp only [List.size_toArray] <;> omega) ⟨.int ys.length, H, I.tok _, ⟨s.toks + 1, by rw [List.size_toArray, hlen]⟩, q⟩
  · obtain ⟨its, r', pl, hz⟩ := I.tuple hq
    have hlen := r'.length
    exact len_tuple pl (by simp only [List.size_toArray] <;> omega) ⟨.int ys.length, H, I.tok _, ⟨s.toks + 1, by rw [List.size_toArray, hlen]⟩, q⟩
theorem call_tuple_of : CallR X (.type "tuple") (fun xs H Q => ∃ p ys, xs = [.ref p] ∧ ((SqL X.K H p ys ∧ ∀ l, H l = none → Q (.ref l) (upd H l (.tup ys))) ∨ (SqT X.K H p ys ∧ Q (.ref p) H))) := by
  intro pins s σ H xs us Q I r h
  obtain ⟨p, ys, rfl, h⟩ := h
  obtain ⟨u, rfl, rx⟩ := vals1 r
  cases rx
  rcases h with ⟨hq, q⟩ | ⟨hq, q⟩
  · obtain ⟨its, r', pl, hz⟩ := I.list hq
    have hlen := r'.length
    refine call_tuple_list pl.isList (fun h' kp => ?_) (by simp only [List.size_toArray] <;> omega)
    have I1 : Inv X pins σ H { s with heap := h' } := I.kept (t' := s.toks) kp
    have I2 : Inv X pins σ (upd H h'.objs.size (.tup ys)) { s with heap := h'.push { cls := .type "tuple", data := .seq its.toArray } } :=
      I1.laid (t' := s.toks) (fun b o e => Heap.get?_push_of_some _ e) (Nat.le_refl _) (show ObjOk X.prog X.w _ _ _ (.tup ys) from ⟨hz, its, r', IsTup.new _ _, _, Heap.get?_push_size _ rfl, rfl⟩)
    exact ⟨.ref h'.objs.size, _, I2, rfl, q _ (I1.hok.fresh (Nat.le_refl _))⟩
  · obtain ⟨its, r', pl, hz⟩ := I.tuple hq
    exact call_tuple_same pl ⟨.ref p, H, I, rfl, q⟩
noncomputable def tyV (K : PySem.W.Frag) (T : String) (x : V) (H : Hp) : Prop := match x with
  | .str _ => T = "str"
  | .int _ => T = "int"
  | .ref p => (T = "list" ∧ ∃ xs, SqL K H p xs) ∨ (T = "tuple" ∧ ∃ o, K.lookup p = some o ∧ o.cls = .type "tuple" ∧ o.dict = none) ∨
      (T = "dict" ∧ ((∃ kvs, H p = some (.dK kvs)) ∨ ∃ kvs, H p = some (.dT kvs))) ∨ (T = "set" ∧ ∃ S n, H p = some (.set S n))
  | _ => False
theorem tyV_is {pins : List (Addr × Obj)} {σ : St} {H : Hp} {s : Shared} {T : String} {x : V} {v : Value} (I : Inv X pins σ H s) (r : RelV x v) (ty : tyV X.K T x H) :
    s.TypeIs v T ∧ ∀ a, v = .ref a → ∃ ob, s.heap.get? a = some ob ∧ ob.dict = none := by
  cases x with
  | str z =>
    obtain ⟨t, rfl⟩ := r
    cases (show T = "str" from ty)
    exact ⟨typeIs_str s z t, fun _ e => nomatch e⟩
  | int i =>
    obtain ⟨t, rfl⟩ := r
    cases (show T = "int" from ty)
    exact ⟨typeIs_int s i t, fun _ e => nomatch e⟩
  | ref p =>
    cases r
    rcases ty with ⟨rfl, xs, hq⟩ | ⟨rfl, o, hk, hc, hd⟩ | ⟨rfl, hk⟩ | ⟨rfl, S, n, hk⟩
    · obtain ⟨its, _, pl, _⟩ := I.list hq
      refine ⟨pl.isList.typeIs, fun a e => ?_⟩
      cases e
      obtain ⟨o, n, e, c, hd, _⟩ := pl
      exact ⟨o, e, hd⟩
    · refine ⟨⟨o, I.kIn p o hk, hc⟩, fun a e => ?_⟩
      cases e
      exact ⟨o, I.kIn _ o hk, hd⟩
    · have z : ∃ o, s.heap.get? p = some o ∧ o.ExactDict := by
        rcases hk with ⟨kvs, hk⟩ | ⟨kvs, hk⟩
        · obtain ⟨_, _, _, _, o, _, _, e, ex, _⟩ := I.hok p _ hk
          exact ⟨o, e, ex⟩
        · obtain ⟨_, _, _, _, o, _, _, e, ex, _⟩ := I.hok p _ hk
          exact ⟨o, e, ex⟩
      obtain ⟨o, e, ex⟩ := z
      refine ⟨⟨o, e, ex.1⟩, fun a e2 => ?_⟩
      cases e2
      exact ⟨o, e, ex.2.1⟩
    · obtain ⟨o, _, _, _, e, ex, _⟩ := I.hok p _ hk
      refine ⟨⟨o, e, ex.1⟩, fun a e2 => ?_⟩
      cases e2
      exact ⟨o, e, ex.2.1⟩
  | _ => exact False.elim ty
noncomputable def tBM (K : PySem.W.Frag) (T : String) (r : V → List V → Hp → VK → Prop) (to : TE) (t : TA) : TE := fun σ H Q => to σ H fun x H1 => tyV K T x H1 ∧ t σ H1 fun xs H2 => r x xs H2 Q
variable {o e : Expr} {es : List Expr} {to : TE} {t : TA} {name : Str} {apos cpos : Pos} {T id : String} {r : V → List V → Hp → VK → Prop}
theorem pe_bm (pa : PlainAttrs T) (slot : Slot T name id) (hty : typeOf (.builtin id) = pure (.type "method_descriptor")) (hm : MtR X id r) (ho : PE X o to) (ha : PA X (e :: es) t)
    (hbase : attributeBase o name X.env (eval o X.env) = eval o X.env := by rfl)
    (hfew : ((backTo cpos (starEach (e :: es) X.env)).all (fun x => !x.1) && (backToKw cpos (keywordEach [] X.env)).all (fun x => x.1.isSome)
      && decide ((e :: es).length + ([] : List Keyword).length + (if ([] : List Keyword).isEmpty then 0 else 1) < 30)) = true := by rfl)
    (hline : (apos.endLine == cpos.line) = true := by rfl) (hs : starEach (e :: es) X.env = (false, eval e X.env) :: starEach es X.env := by rfl) (hplain : (backTo cpos (starEach es X.env)).any (·.1) = false := by rfl) :
    PE X (.Call (.Attribute o name apos) (e :: es) [] cpos) (tBM X.K T r to t) := by
  intro pins s σ H Q I h
  refine wpAny_Call_method_late hbase hfew hline rfl (thn (ho pins s σ H _ I h) fun v s1 ⟨x, H1, I1, r1, ty, q1⟩ => ?_)
  obtain ⟨h1, h2⟩ := tyV_is I1 r1 ty
  refine ⟨T, id, pa, slot, hty, h1, h2, ?_⟩
  have hA := ha cpos pins s1 σ H1 _ I1 q1
  rw [hs] at hA ⊢
  refine Calls.callWith_builtin (by show (false || (backTo cpos (starEach es X.env)).any (·.1)) = false; rw [hplain] <;> rfl) (Calls.evalArgs_plain ?_)
  exact thn hA fun us s2 ⟨vs, H2, I2, r2, q2⟩ => hm pins s2 σ H2 x vs v us Q I2 r1 r2 q2
end
end L2
namespace L2
open PySem PySem.Spec PyProof.Rows
noncomputable def MtM (X : Cx) (id : String) (r : V → List V → Hp → VK → Prop) : Prop :=
  ∀ (pins : List (Addr × Obj)) (s : Shared) (σ : St) (H : Hp) (x : V) (xs : List V) (v : Value) (us : List Value) (Q : VK), Inv X pins σ H s → RelV x v → Vals xs us → r x xs H Q →
    wpAny (model X.prog X.w) X.A (call (.builtin id) (v :: us)) (EP X pins σ Q) X.xe s
theorem Vals.one : ∀ {x : V} {us : List Value}, Vals [x] us → ∃ u, us = [u] ∧ RelV x u
  | _, _, .cons r .nil => ⟨_, rfl, r⟩
theorem Vals.two : ∀ {x y : V} {us : List Value}, Vals [x, y] us → ∃ u v, us = [u, v] ∧ RelV x u ∧ RelV y v
  | _, _, _, .cons r (.cons q .nil) => ⟨_, _, rfl, r, q⟩
theorem Vals.zero : ∀ {us : List Value}, Vals [] us → us = []
  | _, .nil => rfl
theorem Vals.eraseIdx : ∀ {xs : List V} {us : List Value} (i : Nat), Vals xs us → Vals (xs.eraseIdx i) (us.eraseIdx i)
  | _, _, _, .nil => .nil
  | _, _, 0, .cons _ t => t
  | _, _, i + 1, .cons r t => .cons r (Vals.eraseIdx i t)
theorem Vals.reverse {xs : List V} {us : List Value} (h : Vals xs us) : Vals xs.reverse us.reverse := by
  induction h with
  | nil => exact .nil
  | cons r t ih => rw [List.reverse_cons, List.reverse_cons]; exact Vals.append ih (.cons r .nil)
theorem Vals.rep {xs : List V} {us : List Value} (h : Vals xs us) : ∀ k : Nat, Vals (List.replicate k xs).flatten (List.replicate k us).flatten
  | 0 => .nil
  | k + 1 => by
    rw [List.replicate_succ, List.replicate_succ, List.flatten_cons, List.flatten_cons]
    exact Vals.append h (Vals.rep h k)
theorem len_erase {α : Type} : ∀ (l : List α) (i : Nat), (l.eraseIdx i).length ≤ l.length
  | [], _ => Nat.le_refl _
  | _ :: _, 0 => Nat.le_succ _
  | _ :: r, i + 1 => Nat.succ_le_succ (len_erase r i)
theorem foldl_rep (its : List Value) : ∀ (k : Nat) (acc : List Value),
    List.foldl (fun x1 x2 => x1 ++ x2) acc.toArray (List.replicate k its.toArray) = (acc ++ (List.replicate k its).flatten).toArray
  | 0, acc => by simp
  | k + 1, acc => by
    have e : acc.toArray ++ its.toArray = (acc ++ its).toArray := by simp
    have e2 : (acc ++ its) ++ (List.replicate k its).flatten = acc ++ (List.replicate (k + 1) its).flatten := by
      rw [List.replicate_succ, List.flatten_cons, List.append_assoc]
    rw [← e2, ← foldl_rep its k (acc ++ its), ← e, List.replicate_succ, List.foldl_cons]
section
variable {X : Cx} {pins : List (Addr × Obj)} {σ : St} {H : Hp} {s : Shared} {l b : Addr} {xs ys zs : List V}
theorem Inv.lset {its its' : List Value} {n : Nat} {f : Array Value → Array Value} {t' : Nat} (I : Inv X pins σ H s) (hH : H l = some (.lst xs))
    (e : s.heap.get? l = some { cls := .type "list", data := .seq its.toArray n }) (hf : f its.toArray = its'.toArray) (hv : Vals ys its') (hz : ys.length ≤ sizeLine) :
    Inv X pins σ (upd H l (.lst ys)) { s with heap := s.heap.update l (Obj.mapSeq f), toks := t' } := by
  have q := PySem.IsL.update e f
  rw [hf] at q
  refine I.write (x := l) (e := l) (by rw [hH]; exact trivial) (.inl rfl) (fun b' u hb hu => (Heap.get?_update_other s.heap (Obj.mapSeq f) (Ne.symm hb)).trans hu) ⟨_, q⟩ ?_
  exact ⟨hz, its', _, hv, q⟩
theorem Inv.lnew {its : List Value} {t' : Nat} (I : Inv X pins σ H s) (hv : Vals ys its) (hz : ys.length ≤ sizeLine) :
    Inv X pins σ (upd H s.heap.objs.size (.lst ys)) { s with heap := s.heap.push { cls := .type "list", data := .seq its.toArray }, toks := t' } :=
  I.laid (fun _ _ q => Heap.get?_push_of_some _ q) (Nat.le_refl _) ⟨hz, its, 0, hv, Heap.get?_push_size _ rfl⟩
theorem Inv.fresh (I : Inv X pins σ H s) : H s.heap.objs.size = none := I.hok.fresh (Nat.le_refl _)
theorem Inv.lstM (I : Inv X pins σ H s) (hH : H l = some (.lst xs)) : xs.length ≤ sizeLine ∧ ∃ (its : List Value) (n : Nat), Vals xs its ∧ xs.length = its.length ∧ s.heap.get? l = some { cls := .type "list", data := .seq its.toArray n } := by
  obtain ⟨z, its, n, r, e⟩ := I.hok l _ hH
  exact ⟨z, its, n, r, r.length, e⟩
theorem notLongL {n : Nat} (h : n ≤ sizeLine) : Builtin.List.listTooLong n = false := by
  unfold Builtin.List.listTooLong
  exact decide_eq_false (by omega)
end
section
variable {X : Cx}
noncomputable def rAppend : V → List V → Hp → VK → Prop := fun x vs H Q => ∃ l xs y, x = .ref l ∧ vs = [y] ∧ H l = some (.lst xs) ∧ xs.length < sizeLine ∧ Q .non (upd H l (.lst (xs ++ [y])))
theorem mt_append : MtM X "list.append" rAppend := by
  intro pins s σ H x vs v us Q I rx rv h
  obtain ⟨l, xs, y, rfl, rfl, hH, hz, q⟩ := h
  cases rx
  obtain ⟨u, rfl, ru⟩ := rv.one
  obtain ⟨z, its, n, r, hl, e⟩ := I.lstM hH
  refine call_meets F.slot_list_append ⟨_, e, rfl⟩ F.entry_list_append (F.args_list_append_2 _ _) (PySem.list_append l its.toArray n u (by rw [List.size_toArray]; omega)) ⟨e, ?_⟩
  refine ⟨.non, _, I.lset (its' := its ++ [u]) hH e (by simp) (r.append (.cons ru .nil)) ?_, rfl, q⟩
  rw [List.length_append, List.length_singleton]
  omega
noncomputable def rPopAt : V → List V → Hp → VK → Prop := fun x vs H Q => ∃ l xs i k y, x = .ref l ∧ vs = [.int i] ∧ H l = some (.lst xs) ∧ -(2 ^ 63) ≤ i ∧ i < 2 ^ 63 ∧ seqIndex? i xs.length = some k ∧ xs[k]? = some y ∧ Q y (upd H l (.lst (xs.eraseIdx k)))
theorem mt_popAt : MtM X "list.pop" rPopAt := by
  intro pins s σ H x vs v us Q I rx rv h
  obtain ⟨l, xs, i, k, y, rfl, rfl, hH, h1, h2, hk, hy, q⟩ := h
  cases rx
  obtain ⟨u, rfl, ru⟩ := rv.one
  obtain ⟨t, rfl⟩ := ru
  obtain ⟨z, its, n, r, hl, e⟩ := I.lstM hH
  obtain ⟨w, hw, rw'⟩ := r.get hy
  refine call_meets F.slot_list_pop ⟨_, e, rfl⟩ F.entry_list_pop (F.args_list_pop_2 _ _)
    (MeetsSeq.list_pop_at l its.toArray n i t k w (fitsIndex_both h1 h2) (by rw [List.size_toArray, ← hl]; exact hk) (by rw [← Array.getElem?_toList]; exact hw) (by rw [List.size_toArray]; omega)) ⟨e, ?_⟩
  refine ⟨y, _, I.lset (its' := its.eraseIdx k) hH e ?_ (r.eraseIdx k) ?_, rw', q⟩
  · show its.toArray.eraseIdxIfInBounds k = (its.eraseIdx k).toArray
    rw [List.eraseIdxIfInBounds_toArray]
  · have := len_erase xs k
    omega
noncomputable def rRep : R2 := fun x y H Q => ∃ l k xs, x = .ref l ∧ y = .int k ∧ H l = some (.lst xs) ∧ -(2 ^ 63) ≤ k ∧ k < 2 ^ 63 ∧ xs.length * k.toNat ≤ sizeLine ∧
  ∀ p, H p = none → Q (.ref p) (upd H p (.lst (List.replicate k.toNat xs).flatten))
theorem len_rep {α : Type} (xs : List α) (k : Nat) : (List.replicate k xs).flatten.length = k * xs.length := by
  induction k with
  | zero => simp
  | succ k ih => rw [List.replicate_succ, List.flatten_cons, List.length_append, ih, Nat.succ_mul, Nat.add_comm]
theorem op_rep : OpR X (binaryOp .Mult) rRep := by
  intro pins s σ H x y v u Q I rx ry h
  obtain ⟨l, k, xs, rfl, rfl, hH, h1, h2, hz, q⟩ := h
  cases rx
  obtain ⟨t, rfl⟩ := ry
  obtain ⟨z, its, n, r, hl, e⟩ := I.lstM hH
  have hlen : its.toArray.size * k.toNat ≤ sizeLine := by rw [List.size_toArray, ← hl]; exact hz
  have hcap : ¬ its.toArray.size * k.toNat > (2 ^ 63 - 1) / 8 := by
    have : (sizeLine : Nat) ≤ (2 ^ 63 - 1) / 8 := by decide
    omega
  have hfit : ¬ (!Builtin.List.listFitsIndex k) = true := by
    rw [fitsIndex_both h1 h2]
    exact Bool.false_ne_true
  have hlong : ¬ Builtin.List.listTooLong (its.toArray.size * k.toNat) = true := by
    rw [notLongL hlen]
    exact Bool.false_ne_true
  have hnew : List.foldl (fun x1 x2 => x1 ++ x2) #[] (List.replicate (if its.toArray.isEmpty = true then 0 else k.toNat) its.toArray) = (List.replicate k.toNat its).flatten.toArray := by
    have f0 : ∀ m : Nat, List.foldl (fun x1 x2 => x1 ++ x2) #[] (List.replicate m its.toArray) = (List.replicate m its).flatten.toArray := fun m => by
      have := foldl_rep its m []
      rw [List.nil_append] at this
      exact this
    rw [f0]
    cases its with
    | nil => simp
    | cons a r' => rw [if_neg (by simp)]
  refine wpAny_binaryOp_repeat_ref (T := "list") (U := "int") (by decide) ⟨_, e, rfl⟩ (fun s' => typeIs_int s' k t) noFill_list_mul F.fills_int_mul F.slot_int_rmul repeat_list F.slot_int_index.lookup
    (call_meets F.slot_int_rmul (typeIs_int s k t) F.entry_int_rmul (F.args_int_rmul_2 _ _) (int___rmul___int_list k t l its.toArray n)
      ⟨e, rfl, ⟨_, e, rfl⟩, call_meets F.slot_list_mul ⟨_, e, rfl⟩ F.entry_list_mul (F.args_list_mul_2 _ _) (AutoListH.list___mul___list_int_3 l its.toArray n k t hfit hcap hlong) ⟨e, ?_⟩⟩)
  rw [hnew]
  exact ⟨.ref _, _, I.lnew (t' := s.toks) (r.rep k.toNat) (by rw [len_rep, Nat.mul_comm]; exact hz), rfl, q _ I.fresh⟩
end
section
variable {prog : Program} {w : World} {A : Around} {E : Value → Shared → Prop} {s : Shared}
end
section
variable {X : Cx}
end
end L2
namespace Att
open PySem PySem.W PySem.Calls PyProof.Rows
theorem ints_of_wellAll {P : Params} {h : Heap} : ∀ (ns : List Int) (vs : List Value), WellAll P h vs (ns.map WData.int) → IntsAre vs ns := by
  intro ns
  induction ns with
  | nil =>
    intro vs w
    rw [List.map_nil] at w
    cases w
    exact .nil
  | cons n ns ih =>
    intro vs w
    rw [List.map_cons] at w
    cases w with
    | cons a b =>
      cases a
      exact .cons _ _ (ih _ b)
theorem script_of {l : OpenLaw} {n : Nat} (hn : l.most = some n) {P : Params} {h : Heap} {args : List WData} {vals : List Value}
    (hpre : l.row.toRowW.claim.pre args = true) (hwl : WellAll P h vals args) :
    ∃ a vs ns, vals = [Value.ref a] ∧ args = [WData.list (ns.map WData.int)] ∧ h.get? a = some { cls := .type "list", data := .seq vs.toArray } ∧ IntsAre vs ns ∧ ns.length ≤ n := by
  have hsh : WShape.hasAll [] args [.list .int] = true := (pre_splitW hpre).1
  have hc : l.pre.holds [] { args := args } = true := (pre_splitW hpre).2
  obtain ⟨d, r, rfl, h1, h2⟩ := hasAllW_cons hsh
  obtain rfl := hasAllW_nil h2
  obtain ⟨xs, rfl, h3⟩ := hasW_list h1
  obtain ⟨ns, rfl⟩ := items_int h3
  have hlen : ns.length ≤ n := by
    unfold OpenLaw.pre at hc
    have h4 : (WTm.not (.lt (.lit (.int (n : Int))) (.len (.arg 0)))).holds [] { args := [.list (ns.map .int)] } = true := by
      have h4 := (holds_andW hc).1
      rw [hn] at h4
      exact h4
    have h5 := condW_of h4 (w_not (w_lt w_lit (w_len_list (w_arg rfl))))
    rw [List.length_map] at h5
    refine Nat.le_of_not_lt fun q => ?_
    have q' : (n : Int) < ((ns.length : Nat) : Int) := by omega
    first
      | (rw [decide_eq_true q'] at h5; exact absurd h5 (by decide))
      | (simp at h5; omega)
  cases hwl with
  | cons w1 w2 =>
    cases w2
    cases w1 with
    | list ho hall => exact ⟨_, _, ns, rfl, rfl, ho, ints_of_wellAll ns _ hall, hlen⟩
theorem post_true (l : OpenLaw) (args : List WData) : l.row.toRowW.claim.post args (.bool true) args = true :=
  postW_of (r := l.row.toRowW) (X := (true == true))
    (show WShape.has [] (.bool true) .bool = true by first | rfl | decide | simp [WShape.has, WShape.arms, WShape.armsAll])
    (show (WTm.eq .res (.lit (.bool true))).value [] { args := args, res := some (.bool true), after := args } = some (.bool (true == true)) from w_eq_bool (w_res rfl) w_lit) rfl
theorem attach_call {l : OpenLaw} {n : Nat} {q : Program} {loose : List Str} {XP : (Str → Option Value) → Heap → Prop} {YP : World → Heap → Prop} {d : DefRec}
    (hn : l.most = some n) (hdf : d.params.defaults = [])
    (call : ∀ (w : World) (s₀ s₁ : Shared) (mg mb : Str → Option Value) (fa : Addr) (o : Obj) (pm cd doc : Value) (a : Addr) (vs : List Value) (ns : List Int),
      Ground q loose [] XP w s₀ mg mb s₁.heap → YP w s₁.heap →
      s₁.heap.get? fa = some o → o.data = .func (docDef d.name d.params d.body d.scope pm cd doc) → s₁.heap.CodeRec cd d.name → mg d.name = some (.ref fa) →
      s₁.heap.get? a = some { cls := .type "list", data := .seq vs.toArray } → IntsAre vs ns → ns.length ≤ n → s₁.gens = #[] →
      codeAny (model l.prog w) callerA (.call (.ref fa) ⟨[.ref a], []⟩) (fun r s' => r = .ok (.ret (.bool true)) ∧ OldK s₁.heap s'.heap ∧ s'.os = s₁.os ∧ AllBare s'.gens) s₁) :
    WalkO q loose XP YP l.row.toRowW d [] (fun f vs => PySem.call f vs) := by
  intro w s₀ s₁ mg mb G Y fa o pm cd doc dV kV ho hd hcd hD hmg hg args vals as hpre hlay hrd hwl hlo
  obtain rfl : dV = .none := Dflts.none hD hdf
  obtain rfl : kV = .none := Dflts.noKw hD
  obtain ⟨a, vs, ns, rfl, rfl, hobj, hints, hlen⟩ := script_of hn hpre hwl
  refine enter_call (codeAny_mono (call w s₀ s₁ mg mb fa o pm cd doc a vs ns G Y ho (fd_plain hd) hcd hmg hobj hints hlen hg) fun r s' hq => ?_)
  obtain ⟨rfl, h2, h3, h4⟩ := hq
  exact ⟨.inl ⟨.bool true, .bool true, [], rfl, fun _ => rfl, .bool true, post_true l _, fun _ => ⟨List.Pairwise.nil, fun _ hm => (nomatch hm)⟩⟩, h2, h3, h4⟩
section
variable {prog : Program} {w : World} {A : Around} {E : Value → Shared → Prop} {s : Shared} {K : Frag}
end
end Att
namespace L2
open PySem PySem.Spec PyProof.Rows
theorem vals_ints : ∀ {vs : List Value} {ns : List Int}, IntsAre vs ns → Vals (ns.map V.int) vs
  | _, _, .nil => .nil
  | _, _, .cons n t h => .cons ⟨t, rfl⟩ (vals_ints h)
noncomputable def Only (H : Hp) : Prop := ∀ b, H b = none ∨ ∃ o xs, H b = some (.frz o (.lst xs))
theorem law_call {P : Program} {w : World} {K : PySem.W.Frag} {mg mb : Str → Option Value} {CX : CXT} {k : Nat} {fa a : Addr} {fd : FuncData} {x : Str} {sp : Sp} {s₁ : Shared} {vs : List Value} {ns : List Int}
    (KX : K.In s₁.heap) (hns : s₁.heap.Ns mainGlobals mg) (hb : s₁.heap.Ns builtinsNs mb) (hbb : ∀ x : Str, x ≠ "__name__" → mb x = bootBuiltins x) (hlim : s₁.heap.NoLimit) (hg : s₁.gens = #[])
    (ha : s₁.heap.get? a = some { cls := .type "list", data := .seq vs.toArray }) (hi : IntsAre vs ns) (hl : ns.length ≤ sizeLine) (hr : Room k callerA)
    (F : ∀ base : Heap, K.In base → base.Ns mainGlobals mg → FnOk P w K mg base CX k fa fd [x] sp) (hbind : ∀ (s : Shared) (u : Value), BindsTo s fd ⟨[u], []⟩ [(x, u)])
    (hsp : ∀ H : Hp, Only H → SqL K H a (ns.map V.int) → sp [.ref a] H (fun v _ => v = .bl true) fun _ _ _ => False)
    (hCX : ∀ H e s', CX [] H s₁ (fun _ _ _ => False) e s' → False) :
    codeAny (model P w) callerA (.call (.ref fa) ⟨[.ref a], []⟩) (fun r s' => r = .ok (.ret (.bool true)) ∧ OldK s₁.heap s'.heap ∧ s'.os = s₁.os ∧ AllBare s'.gens) s₁ := by
  have rv := vals_ints hi
  have lenV := hi.length
  -- from an abstract heap in which nothing but the script may be tracked
  have core : ∀ H : Hp, Only H → SqL K H a (ns.map V.int) → HOk P w H s₁.heap → (∀ b, H b ≠ none → b = a) → (H a ≠ none → K.lookup a = none) →
      codeAny (model P w) callerA (.call (.ref fa) ⟨[.ref a], []⟩) (fun r s' => r = .ok (.ret (.bool true)) ∧ OldK s₁.heap s'.heap ∧ s'.os = s₁.os ∧ AllBare s'.gens) s₁ := by
    intro H hO hS hok hA hK
    have base_of : ∀ {b : Addr} {o : Obj}, s₁.heap.get? b = some o → H b = none → (hidT s₁.heap H).get? b = some o := fun e n => hidT_get e n
    have noA : ∀ {b : Addr} {o : Obj} {es : Array DictEntry} {ep : Nat}, s₁.heap.get? b = some o → o.data = .dict es ep → H b = none := fun {b o es ep} e d => by
      cases q : H b with
      | none => rfl
      | some u =>
        have e' : b = a := hA b (by rw [q]; simp)
        subst e'
        rw [ha] at e; cases e
        have d' : Data.seq vs.toArray _ = Data.dict es ep := d
        cases d'
    have nsK : ∀ {b : Addr} {m : Str → Option Value}, s₁.heap.Ns b m → (hidT s₁.heap H).Ns b m := fun {b m} ⟨o, es, ep, e, d, r⟩ => ⟨o, es, ep, base_of e (noA e d), d, r⟩
    have hKb : K.In (hidT s₁.heap H) := fun b o e => base_of (KX b o e) (by
      cases q : H b with
      | none => rfl
      | some u =>
        have e' : b = a := hA b (by rw [q]; simp)
        subst e'
        rw [hK (by rw [q]; simp)] at e; cases e)
    have hM : Mod K mg (hidT s₁.heap H) := ⟨hKb, nsK hns, ⟨mb, nsK hb, hbb⟩, let ⟨mc, h1, h2⟩ := hlim; ⟨mc, nsK h1, h2⟩⟩
    have e0 : Env0 P w K mg (hidT s₁.heap H) callerA [] s₁ H := ⟨rfl, hM, fun b o e => of_hidT e, Nat.le_of_eq (hidT_size _ _), trivial, fun b hb => absurd (show b ∈ ([] : List Addr) from hb) (by simp), hok, .of_eq hg⟩
    refine codeAny_mono ((F _ hKb (nsK hns)).run callerA [] s₁ H ⟨[.ref a], []⟩ [.ref a] [.ref a] _ _ hr e0 (hbind s₁ (.ref a)) (.cons rfl .nil) (hsp H hO hS)) fun r s' h => ?_
    cases r with
    | error e => exact (hCX H e s' h).elim
    | ok fl =>
      cases fl with
      | next => exact False.elim h
      | brk => exact False.elim h
      | cont => exact False.elim h
      | ret u =>
        obtain ⟨v, H', os, bare, un, hok', r', q⟩ := h
        have q' : v = .bl true := q
        subst q'
        obtain rfl : u = Value.bool true := r'
        refine ⟨rfl, OldK.of_keep fun b o e => ?_, os, bare⟩
        cases q : H b with
        | none => exact un.keep b o e q (by intro z; exact absurd (show b ∈ ([] : List Addr) from z) (by simp)) (by simp)
        | some u =>
          rcases hO b with z | ⟨ob, xs, z⟩
          · rw [q] at z; cases z
          · have z2 := un.frzs b ob _ z
            obtain ⟨e1, _⟩ := hok b _ z
            obtain ⟨e2, _⟩ := hok' b _ z2
            rw [e] at e1; cases e1
            exact e2
  cases hk : K.lookup a with
  | some o =>
    -- the script is one of the module's own objects
    have e := KX a o hk
    rw [ha] at e
    cases e
    refine core (fun _ => none) (fun _ => .inl rfl) (.inr ⟨_, vs.toArray, _, hk, rfl, rfl, rfl, by rw [List.size_toArray, lenV]; exact hl, by simpa using rv⟩) (fun b u z => by have z' : (none : Option HO) = some u := z; cases z') (fun b z => absurd rfl z) fun z => absurd rfl z
  | none =>
    refine core (fun b => if b = a then some (.frz { cls := .type "list", data := .seq vs.toArray } (.lst (ns.map V.int))) else none) (fun b => ?_) (.inl (.inr ⟨{ cls := .type "list", data := .seq vs.toArray }, if_pos rfl⟩)) (fun b u z => ?_) (fun b z => ?_) fun _ => hk
    · by_cases hb : b = a
      · exact .inr ⟨_, _, if_pos hb⟩
      · exact .inl (if_neg hb)
    · by_cases hb : b = a
      · have z' := (if_pos hb).symm.trans z
        cases z'
        subst hb
        exact ⟨ha, by rw [List.length_map]; exact hl, vs, _, rv, ha⟩
      · have z' := (if_neg hb).symm.trans z
        cases z'
    · by_cases hb : b = a
      · exact hb
      · exact absurd (if_neg hb) z
end L2
namespace L2
open PySem PySem.Spec PyProof.Rows
theorem walk_of {l : PySem.W.OpenLaw} {n k : Nat} {q : Program} {loose : List Str} {XP : (Str → Option Value) → Heap → Prop} {YP : World → Heap → Prop} {d : DefRec} {K : Params → PySem.W.Frag} {CX : World → CXT} {sp : World → Sp} {x : Str}
    (hn : l.most = some n) (hn2 : n ≤ sizeLine) (hdf : d.params.defaults = []) (hr : Room k callerA)
    (hY : ∀ (w : World) (h : Heap), YP w h → (K w.params).In h)
    (F : ∀ (w : World) (mg : Str → Option Value) (fa : Addr) (h : Heap), (K w.params).In h → h.Ns mainGlobals mg → mg d.name = some (.ref fa) →
      ∃ fd : FuncData, (∀ (s : Shared) (u : Value), BindsTo s fd ⟨[u], []⟩ [(x, u)]) ∧
        ∀ base : Heap, (K w.params).In base → base.Ns mainGlobals mg → FnOk l.prog w (K w.params) mg base (CX w) k fa fd [x] (sp w))
    (hsp : ∀ (w : World) (H : Hp) (a : Addr) (ns : List Int), ns.length ≤ n → Only H → SqL (K w.params) H a (ns.map V.int) → sp w [.ref a] H (fun v _ => v = .bl true) fun _ _ _ => False)
    (hCX : ∀ (w : World) (H : Hp) (s : Shared) (e : Value) (s' : Shared), CX w [] H s (fun _ _ _ => False) e s' → False) :
    PySem.W.WalkO q loose XP YP l.row.toRowW d [] (fun f vs => PySem.call f vs) := by
  refine Att.attach_call hn hdf fun w s₀ s₁ mg mb fa o pm cd doc a vs ns G Y ho hd hcd hmg hobj hints hlen hg => ?_
  have KX := hY w _ Y
  obtain ⟨fd, hb, hF⟩ := F w mg fa _ KX G.T.g hmg
  exact law_call KX G.T.g G.T.b G.T.builtins G.T.nolimit hg hobj hints (Nat.le_trans hlen hn2) hr hF hb (fun H hO hS => hsp w H a ns hlen hO hS) fun H e s' => hCX w H s₁ e s'
end L2
namespace L2
open PySem PySem.Spec PyProof.Rows
noncomputable def inClass (s : Stmt) (j : Nat) : Stmt := match s with
  | .ClassDef _ _ _ body _ _ _ _ _ _ _ => body.getD j (.Pass ⟨0, 0, 0, 0⟩)
  | _ => .Pass ⟨0, 0, 0, 0⟩
noncomputable def defArgs (s : Stmt) : Arguments := match s with
  | .FunctionDef _ a _ _ _ _ _ _ _ _ => a
  | _ => { posonlyargs := [], args := [], vararg := none, kwonlyargs := [], kw_defaults := [], kwarg := none, defaults := [] }
noncomputable def defBody (s : Stmt) : List Stmt := match s with
  | .FunctionDef _ _ b _ _ _ _ _ _ _ => b
  | _ => []
noncomputable def defScope (s : Stmt) : Scope := match s with
  | .FunctionDef _ _ _ _ _ _ sc _ _ _ => sc
  | _ => { kind := .function, names := [], isGenerator := false, isCoroutine := false }
noncomputable abbrev CX0 : CXT := fun _ _ _ _ _ _ => False
noncomputable abbrev E0 : XK := fun _ _ _ => False
theorem pass0 {X : Cx} : Passes CX0 X E0 := fun _ _ _ _ _ _ _ h => h.elim
structure Fun (K : PySem.W.Frag) (x qual : Str) (st : Stmt) (f : Addr) (fd : FuncData) : Prop where
  ex : ∃ (oc : Value) (od : Option Addr) (kV doc pm : Value) (an : Option Addr) (cdv ct : Value) (osl : Array (Option Value)),
    fd = PySem.W.fnOf x qual (defArgs st) (defBody st) (defScope st) .none kV doc pm an cdv ct ∧ K.lookup f = some ⟨oc, od, .func fd, osl⟩ ∧ PySem.W.codeIn K cdv qual = true
  kp : PySem.W.keepIn K (.ref f) = true
section
variable {P : Program} {w : World} {K : PySem.W.Frag} {mg : Str → Option Value} {base : Heap}
theorem Fun.ok {x qual : Str} {st : Stmt} {f : Addr} {fd : FuncData} {N ps : List Str} {k : Nat} {sp : Sp} (F : Fun K x qual st f fd) (S : FnScope N ps (defScope st)) (len : ∀ vs H Q E, sp vs H Q E → vs.length = ps.length)
    (hbody : ∀ (cdv : Value) (A : Around) (outer : List Env) (s : Shared) (H : Hp) (vs : List V) (Q : VK) (E : XK), Room k (A.deeper (envOfC qual (defScope st) s.heap.objs.size f cdv)) → sp vs H Q E →
      ∃ t, PSs (cxOf CX0 P w K mg base N qual (defScope st) f cdv A outer s H E).nox (defBody st) t ∧ t { nx := fun _ H' => Q .non H', rt := Q } (start N vs) H) : FnOk P w K mg base CX0 (k + 1) f fd ps sp := by
  obtain ⟨oc, od, kV, doc, pm, an, cdv, ct, osl, rfl, lk, hcd⟩ := F.ex
  refine fn_of lk hcd S len fun A outer s H vs Q E hr hsp => ?_
  obtain ⟨t, h, q⟩ := hbody cdv A outer s H vs Q E hr hsp
  exact ⟨t, h.nox, q⟩
theorem Fun.binds {x qual : Str} {st : Stmt} {f : Addr} {fd : FuncData} {ps : List Str} (F : Fun K x qual st f fd)
    (h : ∀ (kV doc pm : Value) (an : Option Addr) (cdv ct : Value) (us : List Value), us.length = ps.length → bindArgs (PySem.W.fnOf x qual (defArgs st) (defBody st) (defScope st) .none kV doc pm an cdv ct) ⟨us, []⟩ = pure (ps.zip us)) : Binds K fd ps [] := by
  obtain ⟨oc, od, kV, doc, pm, an, cdv, ct, osl, rfl, lk, hcd⟩ := F.ex
  exact .all (h kV doc pm an cdv ct)
theorem fun_mk {x qual : Str} {st : Stmt} {f : Addr} {oc : Value} {od an : Option Addr} {osl : Array (Option Value)} {kV doc pm cdv ct : Value} (l : K.lookup f = some ⟨oc, od, .func (PySem.W.fnOf x qual (defArgs st) (defBody st) (defScope st) .none kV doc pm an cdv ct), osl⟩)
    (c : PySem.W.codeIn K cdv qual = true) (k : PySem.W.keepIn K (.ref f) = true) : Fun K x qual st f (PySem.W.fnOf x qual (defArgs st) (defBody st) (defScope st) .none kV doc pm an cdv ct) := ⟨⟨oc, od, kV, doc, pm, an, cdv, ct, osl, rfl, l, c⟩, k⟩
end
section
variable {X : Cx}
theorem pv (i : Nat) {x : Str} {pos : Pos} (hN : X.N[i]? = some x := by rfl) (hv : Vis X.env.scope x := by first | exact Or.inl rfl | exact Or.inr (Or.inl rfl) | exact Or.inr (Or.inr rfl)) (hd : (x == ("__debug__" : Str)) = false := by decide)
    (hcd : (x == ("__classdict__" : Str)) = false := by decide) : PE X (.Name x pos) (tVar i) := pe_var hN hv hd hcd
end
theorem iteF {A B : Prop} (h : B) : if false = true then A else B := by
  rw [if_neg Bool.false_ne_true]
  exact h
theorem iteT {A B : Prop} (h : A) : if true = true then A else B := by
  rw [if_pos rfl]
  exact h
theorem ite2 {c A B : Prop} [Decidable c] (h1 : c → A) (h2 : ¬ c → B) : if c then A else B := by
  by_cases h : c
  · rw [if_pos h]
    exact h1 h
  · rw [if_neg h]
    exact h2 h
theorem iteNS {c A B : Prop} [Decidable c] (hc : c) (h : B) : if (!decide c) = true then A else B := by
  rw [decide_eq_true hc]
  exact iteF h
noncomputable def Same (H H' : Hp) : Prop := ∀ b o, H b = some o → H' b = some o
theorem Same.refl (H : Hp) : Same H H := fun _ _ h => h
theorem Same.trans {H H1 H2 : Hp} (a : Same H H1) (b : Same H1 H2) : Same H H2 := fun c o h => b c o (a c o h)
theorem Same.free {H H' : Hp} (e : Same H H') {l : Addr} (h : H' l = Option.none) : H l = Option.none := by
  cases q : H l with
  | none => rfl
  | some o =>
    rw [e l o q] at h
    cases h
theorem Same.seq {K : PySem.W.Frag} {H H' : Hp} {a : Addr} {xs : List V} (e : Same H H') (h : SqL K H a xs) : SqL K H' a xs := by
  rcases h with (h | ⟨o, h⟩) | h
  · exact .inl (.inl (e _ _ h))
  · exact .inl (.inr ⟨o, e _ _ h⟩)
  · exact .inr h
end L2
set_option maxRecDepth 100000
namespace L3
open PySem
noncomputable def closL (cells : List (Str × Addr)) : List (Str × NameKind) → List (Str × Addr) → List (Str × Addr)
  | [], cs => cs
  | (n, k) :: r, cs => closL cells r (if k == .free then (match cells.lookup n with | some c => (n, c) :: cs | none => cs) else cs)
theorem closureFor_eq {scope : Scope} {env : Env} (h : ∀ x ∈ scope.names, x.2 = .free → (env.cells.lookup x.1).isSome = true) : closureFor scope env = pure (closL env.cells scope.names []) := by
  unfold closureFor
  dsimp only
  generalize scope.names = names at h ⊢
  generalize ([] : List (Str × Addr)) = cs
  induction names generalizing cs with
  | nil => rfl
  | cons x r ih =>
    obtain ⟨n, k⟩ := x
    have ih' := fun cs => ih (fun y hy => h y (List.mem_cons_of_mem _ hy)) cs
    rw [List.forIn_cons]
    by_cases hk : (k == NameKind.free) = true
    · have hs := h (n, k) List.mem_cons_self (by simpa using hk)
      obtain ⟨c, hc⟩ := Option.isSome_iff_exists.mp hs
      have hc' : env.cells.lookup n = some c := hc
      have e1 : cellOf env n = pure c := by unfold cellOf; rw [hc']
      simp only [hk, if_true, e1, closL, hc']
      exact ih' _
    · have hk' : (k == NameKind.free) = false := by simpa using hk
      simp only [hk', Bool.false_eq_true, if_false, closL]
      exact ih' _
theorem closL_lookup {cells : List (Str × Addr)} {x : Str} {c : Addr} : ∀ {names : List (Str × NameKind)} {cs : List (Str × Addr)}, (∀ c, cs.lookup x = some c → cells.lookup x = some c) → (closL cells names cs).lookup x = some c → cells.lookup x = some c
  | [], _, h, e => h c e
  | (n, k) :: r, cs, h, e => by
    unfold closL at e
    refine closL_lookup (names := r) (fun c' e' => ?_) e
    by_cases hk : (k == NameKind.free) = true
    · rw [if_pos hk] at e'
      cases hc : cells.lookup n with
      | none => rw [hc] at e'; exact h c' e'
      | some d =>
        rw [hc] at e'
        by_cases hx : (x == n) = true
        · have : x = n := by simpa using hx
          subst this
          simp only [List.lookup_cons, beq_self_eq_true] at e'
          cases e'
          exact hc
        · have hx' : (x == n) = false := by simpa using hx
          simp only [List.lookup_cons, hx'] at e'
          exact h c' e'
    · rw [if_neg hk] at e'
      exact h c' e'
theorem closL_keep {cells : List (Str × Addr)} {x : Str} : ∀ {names : List (Str × NameKind)} {cs : List (Str × Addr)}, (∃ c, cs.lookup x = some c) → ∃ c, (closL cells names cs).lookup x = some c
  | [], _, h => h
  | (n, k) :: r, cs, h => by
    unfold closL
    refine closL_keep (names := r) ?_
    by_cases hk : (k == NameKind.free) = true
    · rw [if_pos hk]
      cases hc : cells.lookup n with
      | none => exact h
      | some d =>
        by_cases hx : (x == n) = true
        · exact ⟨d, by simp only [List.lookup_cons, hx]⟩
        · have hx' : (x == n) = false := by simpa using hx
          simp only [List.lookup_cons, hx']
          exact h
    · rw [if_neg hk]; exact h
theorem closL_has {cells : List (Str × Addr)} {x : Str} {d : Addr} (hd : cells.lookup x = some d) : ∀ {names : List (Str × NameKind)} {cs : List (Str × Addr)}, (x, NameKind.free) ∈ names → ∃ c, (closL cells names cs).lookup x = some c
  | [], _, h => nomatch h
  | (n, k) :: r, cs, h => by
    unfold closL
    rcases List.mem_cons.mp h with e | e
    · cases e
      refine closL_keep (names := r) ⟨d, ?_⟩
      rw [if_pos (by rfl), hd]
      simp only [List.lookup_cons, beq_self_eq_true]
    · exact closL_has hd e
end L3
namespace L3
open PySem
open Sem (wp)
section
variable {prog : Program} {w : World} {A : Around} {R : Result → Shared → Prop} {s : Shared}
noncomputable abbrev testsOf (ifs : List Expr) (env : Env) : Sem Bool := forIn ifs true fun c r => if r = true then do let ok ← isTrue c env (eval c env); pure (ForInStep.yield ok) else pure (ForInStep.yield r)
theorem comp_loop {elt tg iter : Expr} {ifs : List Expr} {scope : Scope} {pos : Pos} {it acc : Value} {env : Env} (I : Nat → Shared → Prop)
    (turn : ∀ n s, I n s → wpAny (model prog w) A (pyNext it) (fun r s1 => match r with
      | none => R (.ok .next) s1
      | some v => wpAny (model prog w) A (letOwnedTupleGo tg it v) (fun _ s2 => wpAny (model prog w) A (assign tg env v) (fun _ s3 => wpAny (model prog w) A (testsOf ifs env) (fun ok s4 =>
          if ok = true then wpAny (model prog w) A (eval elt env) (fun x s5 => wpAny (model prog w) A (call (.builtin "list.append") [acc, x]) (fun _ s6 => ∃ m, m < n ∧ I m s6) (fun _ _ => False) s5) (fun _ _ => False) s4
          else ∃ m, m < n ∧ I m s4) (fun _ _ => False) s3) (fun _ _ => False) s2) (fun _ _ => False) s1) (fun _ _ => False) s)
    (n : Nat) (h : I n s) : codeAny (model prog w) A (.compLoop (.ListComp elt [⟨tg, iter, ifs, 0⟩] scope pos) 0 it acc env) R s := by
  refine codeAny_loop rfl I (fun n s hI => ?_) n h
  show wpAny _ A ((compTurn (.ListComp elt [⟨tg, iter, ifs, 0⟩] scope pos) 0 it acc env).onRaise (fun x => do noteFrame x env; theTreesLotGoes x)) _ _ s
  refine wpAny_noted ?_
  rw [compTurn_list]
  refine wpAny_bind (wpAny_standAt (wpAny_bind (wpAny_mono (turn n s hI) (fun r s1 h1 => ?_) fun _ _ z => z.elim)))
  cases r with
  | none => exact wpAny_pure h1
  | some v =>
    refine wpAny_bind (wpAny_mono h1 (fun _ s2 h2 => ?_) fun _ _ z => z.elim)
    refine wpAny_bind (wpAny_mono h2 (fun _ s3 h3 => wpAny_bind (wpAny_mono h3 (fun ok s4 h4 => ?_) fun _ _ z => z.elim)) fun _ _ z => z.elim)
    cases ok with
    | false => exact wpAny_pure ⟨rfl, h4⟩
    | true =>
      refine wpAny_bind (wpAny_bind (wpAny_mono h4 (fun x s5 h5 => wpAny_bind (wpAny_mono h5 (fun _ s6 h6 => wpAny_pure (wpAny_pure ⟨rfl, h6⟩)) fun _ _ z => z.elim)) fun _ _ z => z.elim))
end
end L3
namespace L3
open PySem
noncomputable def compOk (sc0 scope : Scope) (N N' : List Str) (sh : List Nat) : Bool :=
  (scope.kind == .function) && (scope.names.all fun y => y.2 != .cell && ((y.2 != .local || scope.names.lookup y.1 == some .local) && (y.2 != .free || sc0.names.lookup y.1 == some .cell))) &&
    ((N'.take N.length == N) && N.zipIdx.all fun p => scope.names.lookup p.1 != some .local || sh.contains p.2)
structure CompParts (sc0 scope : Scope) (N N' : List Str) (sh : List Nat) : Prop where
  kind : scope.kind = .function
  cell : ∀ y ∈ scope.names, y.2 ≠ .cell
  loc : ∀ y ∈ scope.names, y.2 = .local → scope.names.lookup y.1 = some .local
  free : ∀ y ∈ scope.names, y.2 = .free → sc0.names.lookup y.1 = some .cell
  pre : N'.take N.length = N
  shad : ∀ (i : Nat) (x : Str), N[i]? = some x → scope.names.lookup x = some .local → i ∈ sh
theorem compOk_parts {sc0 scope : Scope} {N N' : List Str} {sh : List Nat} (h : compOk sc0 scope N N' sh = true) : CompParts sc0 scope N N' sh := by
  unfold compOk at h
  rw [Bool.and_eq_true, Bool.and_eq_true, Bool.and_eq_true] at h
  obtain ⟨⟨h1, h2⟩, h3, h4⟩ := h
  rw [List.all_eq_true] at h2 h4
  have q : ∀ y ∈ scope.names, y.2 ≠ .cell ∧ (y.2 = .local → scope.names.lookup y.1 = some .local) ∧ (y.2 = .free → sc0.names.lookup y.1 = some .cell) := fun y hy => by
    have := h2 y hy
    rw [Bool.and_eq_true, Bool.and_eq_true] at this
    obtain ⟨a, b, c⟩ := this
    refine ⟨by simpa using a, fun e => ?_, fun e => ?_⟩
    · rw [e] at b; simpa using b
    · rw [e] at c; simpa using c
  refine ⟨by simpa using h1, fun y hy => (q y hy).1, fun y hy => (q y hy).2.1, fun y hy => (q y hy).2.2, by simpa using h3, fun i x e l => ?_⟩
  have := h4 (x, i) (by rw [List.mem_zipIdx_iff_getElem?]; simpa using e)
  simp only [l] at this
  simpa using this
theorem relab_inv {env : Env} {x : Str} {k : NameKind} : ∀ {names : List (Str × NameKind)}, (names.map fun (n, k) => if (k == NameKind.free && env.scope.kind == .function && env.kindOf n == some .cell) then (n, NameKind.cell) else (n, k)).lookup x = some k →
    ∃ k0, names.lookup x = some k0 ∧ (k = k0 ∨ (k0 = .free ∧ k = .cell))
  | [], h => by simp at h
  | (n, k1) :: r, h => by
    have ih := @relab_inv env x k r
    rw [List.map_cons] at h
    dsimp only at h
    by_cases hx : (x == n) = true
    · refine ⟨k1, by simp only [List.lookup_cons, hx], ?_⟩
      by_cases hc : (k1 == NameKind.free && env.scope.kind == .function && env.kindOf n == some .cell) = true
      · rw [if_pos hc] at h
        simp only [List.lookup_cons, hx] at h
        have : k1 = .free := by
          rw [Bool.and_eq_true, Bool.and_eq_true] at hc
          simpa using hc.1.1
        exact .inr ⟨this, (Option.some.inj h).symm⟩
      · rw [if_neg hc] at h
        simp only [List.lookup_cons, hx] at h
        exact .inl (Option.some.inj h).symm
    · have hx' : (x == n) = false := by simpa using hx
      by_cases hc : (k1 == NameKind.free && env.scope.kind == .function && env.kindOf n == some .cell) = true
      · rw [if_pos hc] at h
        simp only [List.lookup_cons, hx'] at h ⊢
        exact ih h
      · rw [if_neg hc] at h
        simp only [List.lookup_cons, hx'] at h ⊢
        exact ih h
theorem mem_of_look {x : Str} {k : NameKind} : ∀ {names : List (Str × NameKind)}, names.lookup x = some k → (x, k) ∈ names
  | [], h => by simp at h
  | (n, k1) :: r, h => by
    by_cases hx : (x == n) = true
    · have e : x = n := by simpa using hx
      subst e
      simp only [List.lookup_cons, beq_self_eq_true] at h
      cases h
      exact List.mem_cons_self
    · have hx' : (x == n) = false := by simpa using hx
      simp only [List.lookup_cons, hx'] at h
      exact List.mem_cons_of_mem _ (mem_of_look h)
noncomputable def blank {α : Type} (sh : List Nat) (σ : List (Option α)) : List (Option α) := sh.foldl (fun σ i => σ.set i none) σ
theorem blank_length {α : Type} : ∀ (sh : List Nat) (σ : List (Option α)), (blank sh σ).length = σ.length
  | [], _ => rfl
  | j :: sh, σ => by
    show (blank sh (σ.set j none)).length = _
    rw [blank_length sh, List.length_set]
theorem blank_get {α : Type} {i : Nat} {v : α} : ∀ {sh : List Nat} {σ : List (Option α)}, (blank sh σ)[i]? = some (some v) → i ∉ sh ∧ σ[i]? = some (some v)
  | [], σ, h => ⟨by simp, h⟩
  | j :: sh, σ, h => by
    have h' : (blank sh (σ.set j none))[i]? = some (some v) := h
    obtain ⟨h1, h2⟩ := blank_get h'
    by_cases e : j = i
    · subst e
      rw [List.getElem?_set] at h2
      simp at h2
    · rw [List.getElem?_set_ne e] at h2
      exact ⟨fun z => (List.mem_cons.mp z).elim (fun q => e q.symm) h1, h2⟩
end L3
namespace L3
open PySem
open Sem (wp)
section
variable {prog : Program} {w : World} {A : Around} {E : Value → Shared → Prop} {s : Shared}
structure AtT (it t : Addr) (xs : Array Value) (i : Nat) (h : Heap) : Prop where
  iter : h.IsTupleIter it t i
  tup : h.IsTuple t xs
theorem AtT.move {it t b : Addr} {xs : Array Value} {i : Nat} {h h' : Heap} (a : AtT it t xs i h) (k : Heap.ExtBut b h h') (h1 : it ≠ b) (h2 : t ≠ b) : AtT it t xs i h' := ⟨a.iter.extBut k h1, a.tup.extBut k h2⟩
theorem AtT.keeps {it t : Addr} {xs : Array Value} {i : Nat} {h h' : Heap} (a : AtT it t xs i h) (k1 : ∀ o, h.get? it = some o → h'.get? it = some o) (k2 : ∀ o, h.get? t = some o → h'.get? t = some o) : AtT it t xs i h' :=
  ⟨a.iter.at k1, let ⟨o, ho, r⟩ := a.tup; ⟨o, k2 o ho, r⟩⟩
theorem tnext_item {it t : Addr} {i : Nat} {xs : Array Value} {x : Value} {Q : Value → Shared → Prop} (a : AtT it t xs i s.heap) (hne : t ≠ it) (hx : xs[i]? = some x)
    (hQ : ∀ h', AtT it t xs (i + 1) h' → Heap.SameBut it s.heap h' → Q x { s with heap := h' }) : wpAny (model prog w) A (Builtin.SmallTypes.nextOf (.ref it)) Q E s := by
  obtain ⟨hit, ht⟩ := a
  have ht0 := ht
  obtain ⟨o, ho, hc, hd⟩ := id hit
  obtain ⟨ol, hol, _, nl, hdl⟩ := ht
  unfold Builtin.SmallTypes.nextOf
  refine wpAny_bind (wpAny_callSpecial?_slot (name := Str.ofString "__next__") hit.typeIs F.slot_tuple_iterator_next (wpAny_call_entry F.slot_tuple_iterator_next hit.typeIs F.entry_tuple_iterator_next ?_ (F.args_tuple_iterator_next_1 _)))
  show wpAny _ _ (field (.ref it) 0 >>= _) _ _ s
  refine wpAny_bind (wpAny_field ho hd (x := .ref t) rfl ?_)
  show wpAny _ _ (if (Value.ref t == Value.none) = true then _ else _) _ _ s
  rw [if_neg (show ¬ ((Value.ref t == Value.none) = true) from Bool.false_ne_true)]
  show wpAny _ _ (field (.ref it) 1 >>= _) _ _ s
  refine wpAny_bind (wpAny_field ho hd (x := .int i 0) rfl ?_)
  show wpAny _ _ (seqItems? (.ref t) >>= _) _ _ s
  refine wpAny_bind (wpAny_seqItems hol hdl ?_)
  simp only [Int.toNat_natCast, hx]
  refine wpAny_bind (wpAny_setField ho hd (by simp) (wpAny_pure ⟨x, rfl, wpAny_pure (hQ _ ⟨?_, ht0.extBut (Heap.SameBut.update ..).extBut hne⟩ (Heap.SameBut.update ..))⟩))
  refine ⟨_, Heap.get?_update_self _ ho (Obj.isFreed_of_fields (Obj.data_mapFields hd _)), (Obj.cls_mapFields ..).trans hc, ?_⟩
  rw [Obj.data_mapFields hd]; simp [rawInt]
theorem tnext_end {it t : Addr} {i : Nat} {xs : Array Value} {Q : Value → Shared → Prop} (hh : A.handled = none) (a : AtT it t xs i s.heap) (hx : xs[i]? = none)
    (hE : ∀ h' e, Heap.ExtBut it s.heap h' → (∃ o, h'.get? e = some o ∧ o.cls = .type "StopIteration") → E (.ref e) { s with heap := h' }) : wpAny (model prog w) A (Builtin.SmallTypes.nextOf (.ref it)) Q E s := by
  obtain ⟨hit, ht⟩ := a
  obtain ⟨o, ho, hc, hd⟩ := id hit
  obtain ⟨ol, hol, _, nl, hdl⟩ := ht
  unfold Builtin.SmallTypes.nextOf
  refine wpAny_bind (wpAny_callSpecial?_slot (name := Str.ofString "__next__") hit.typeIs F.slot_tuple_iterator_next (wpAny_call_entry F.slot_tuple_iterator_next hit.typeIs F.entry_tuple_iterator_next ?_ (F.args_tuple_iterator_next_1 _)))
  show wpAny _ _ (field (.ref it) 0 >>= _) _ _ s
  refine wpAny_bind (wpAny_field ho hd (x := .ref t) rfl ?_)
  show wpAny _ _ (if (Value.ref t == Value.none) = true then _ else _) _ _ s
  rw [if_neg (show ¬ ((Value.ref t == Value.none) = true) from Bool.false_ne_true)]
  show wpAny _ _ (field (.ref it) 1 >>= _) _ _ s
  refine wpAny_bind (wpAny_field ho hd (x := .int i 0) rfl ?_)
  show wpAny _ _ (seqItems? (.ref t) >>= _) _ _ s
  refine wpAny_bind (wpAny_seqItems hol hdl ?_)
  simp only [Int.toNat_natCast, hx]
  refine wpAny_bind (wpAny_rule (wpAny_bind (wpAny_setField ho hd (by simp) ?_)))
  show wpAny _ _ (newExc (.type "StopIteration") [] >>= _) _ _ _
  refine wpAny_bind ?_
  simp only [newExc, newTuple]
  refine wpAny_bind (wpAny_newObj_type ?_ (by size_fits))
  refine wpAny_bind (m := firstArgMember _ _) (wpAny_of_eq (a := Value.none) (by first | rfl | (simp only [firstArgMember]; rfl)) ?_)
  refine wpAny_newObj_type ?_ (by size_fits)
  simp only [raiseNew]
  refine wpAny_bind (wpAny_handled ?_)
  first | rw [show A.in1.handled = none from hh] | rw [hh]
  refine wpAny_bind (wpAny_pure (wpAny_throw ?_))
  exact hE _ _ (((Heap.SameBut.update ..).extBut.push _).push _) ⟨_, Heap.get?_push_size _ rfl, rfl⟩
end
end L3
namespace L3
open PySem
open Sem (wp)
open AutoSeq1 (wpAny_loadPart')
set_option maxRecDepth 100000
section
variable {prog : Program} {w : World} {A : Around} {E : Value → Shared → Prop} {s : Shared}
structure ZipAt (z TI TO i1 i2 t1 t2 : Addr) (xs ys : Array Value) (i : Nat) (f0 : Value) (h : Heap) : Prop where
  z : IsZip h z TI TO f0
  TI : IsPair h TI (.ref i1) (.ref i2)
  TO : ∃ a b, IsPair h TO a b
  one : AtT i1 t1 xs i h
  two : AtT i2 t2 ys i h
theorem ZipAt.keeps {z TI TO i1 i2 t1 t2 : Addr} {xs ys : Array Value} {i : Nat} {f0 : Value} {h h' : Heap} (Z : ZipAt z TI TO i1 i2 t1 t2 xs ys i f0 h) (k : ∀ b ∈ [z, TI, TO, i1, i2], ∀ o, h.get? b = some o → h'.get? b = some o)
    (k1 : ∀ o, h.get? t1 = some o → h'.get? t1 = some o) (k2 : ∀ o, h.get? t2 = some o → h'.get? t2 = some o) : ZipAt z TI TO i1 i2 t1 t2 xs ys i f0 h' :=
  ⟨k z (by simp) _ Z.z, k TI (by simp) _ Z.TI, let ⟨a, b, q⟩ := Z.TO; ⟨a, b, k TO (by simp) _ q⟩, Z.one.keeps (k i1 (by simp)) k1, Z.two.keeps (k i2 (by simp)) k2⟩
end
end L3
namespace L3
open PySem PyProof.Rows
section
variable {prog : Program} {w : World} {A : Around} {E : Value → Shared → Prop} {s : Shared}
noncomputable def cutAt (n : Nat) (lo hi st : Option Int) : Int × Int × Nat :=
  ((Builtin.Slice.sliceAdjust lo hi (st.getD 1) (n : Int)).1, st.getD 1, Builtin.Slice.slicePlaces (Builtin.Slice.sliceAdjust lo hi (st.getD 1) (n : Int)).1 (Builtin.Slice.sliceAdjust lo hi (st.getD 1) (n : Int)).2 (st.getD 1))
noncomputable def pickAt {α : Type} (xs : List α) (c : Int × Int × Nat) : List α := (List.range c.2.2).filterMap fun (k : Nat) => xs[(c.1 + (k : Int) * c.2.1).toNat]?
noncomputable def wholeAt (n : Nat) (c : Int × Int × Nat) : Bool := c.1 == 0 && c.2.1 == 1 && c.2.2 == n
theorem slicePartAny {v : Value} {o : Option Int} {Q : Option Int → Shared → Prop} (p : IsPart v o) (h : Q o s) : wpAny (model prog w) A (Builtin.Slice.slicePartIndex v) Q E s := by
  cases p with
  | none => exact slicePart_none h
  | int i t => exact slicePart_int h
theorem sliceAny {sl : Addr} {vl vu vs : Value} {lo hi st : Option Int} {n : Nat} {Q : Int × Int × Nat → Shared → Prop} (hs : s.heap.IsSliceOf sl vl vu vs) (pl : IsPart vl lo) (pu : IsPart vu hi) (ps : IsPart vs st) (h0 : st.getD 1 ≠ 0)
    (h : Q (cutAt n lo hi st) s) : wpAny (model prog w) A (Builtin.Slice.sliceApplied (.ref sl) (pure (n : Int))) Q E s := by
  obtain ⟨os, hos, hcs, hds⟩ := id hs
  unfold Builtin.Slice.sliceApplied Builtin.Slice.sliceFields
  refine wpAny_bind (wpAny_bind (wpAny_field hos hds (x := vl) rfl (wpAny_bind (wpAny_field hos hds (x := vu) rfl (wpAny_bind (wpAny_field hos hds (x := vs) rfl (wpAny_pure ?_)))))))
  refine wpAny_bind (slicePartAny ps ?_)
  show wpAny _ _ (if (st.getD 1 == 0) = true then _ else _) _ _ s
  rw [if_neg (by simpa using h0)]
  exact wpAny_bind (slicePartAny pl (wpAny_bind (slicePartAny pu (wpAny_bind (wpAny_pure (wpAny_pure h))))))
theorem tupleCut {t sl : Addr} {items : Array Value} {vl vu vs : Value} {lo hi st : Option Int} {Q : Value → Shared → Prop} (ht : IsTup s.heap t items) (hs : s.heap.IsSliceOf sl vl vu vs) (pl : IsPart vl lo) (pu : IsPart vu hi) (ps : IsPart vs st) (h0 : st.getD 1 ≠ 0)
    (h1 : wholeAt items.size (cutAt items.size lo hi st) = true → Q (.ref t) s)
    (h2 : wholeAt items.size (cutAt items.size lo hi st) = false → Q (.ref s.heap.objs.size) { s with heap := s.heap.push { cls := .type "tuple", data := .seq (pickAt items.toList (cutAt items.size lo hi st)).toArray } })
    (hsz : (cutAt items.size lo hi st).2.2 ≤ sizeLine) : wpAny (model prog w) A (getItem (.ref t) (.ref sl)) Q E s := by
  have htake : sizeOk (.seq (pickAt items.toList (cutAt items.size lo hi st)).toArray) := by
    show (pickAt items.toList (cutAt items.size lo hi st)).toArray.size ≤ sizeLine
    rw [List.size_toArray]
    refine Nat.le_trans (List.length_filterMap_le _ _) ?_
    rw [List.length_range]
    exact hsz
  obtain ⟨os, hos, hcs, hds⟩ := id hs
  have hTs : s.TypeIs (.ref sl) "slice" := ⟨os, hos, hcs⟩
  unfold getItem
  try with_reducible refine wpAny_holding ?_
  first | refine wpAny_bind (wpAny_pure ?_) | skip
  refine wpAny_bind (wpAny_sequenceKey ht.typeIs (by decide) ?_)
  refine wpAny_bind (wpAny_callSpecial?_slot (name := Str.ofString "__getitem__") ht.typeIs PyProof.Rows.slot_tuple_getitem (wpAny_call_entry PyProof.Rows.slot_tuple_getitem ht.typeIs entry_tuple_getitem ?_ (args_tuple_getitem _ _)))
  show wpAny _ _ (Builtin.Tuple.tupleItemsOf (.ref t) >>= _) _ _ s
  refine wpAny_bind (tupleItemsOf_ ht ?_)
  refine wpAny_bind (wpAny_typeOf hTs ?_)
  rw [if_pos (by decide)]
  refine wpAny_bind (sliceAny hs pl pu ps h0 ?_)
  generalize cutAt items.size lo hi st = c at h1 h2 htake
  obtain ⟨a, b, n⟩ := c
  have e : (List.filterMap (fun (k : Nat) => items[(a + (k : Int) * b).toNat]?) (List.range n)) = pickAt items.toList (a, b, n) := by
    unfold pickAt
    congr 1
    funext k
    rw [Array.getElem?_toList]
  show wpAny _ _ (if (a == 0 && b == 1 && n == items.size) = true then _ else _) _ _ s
  cases hw : wholeAt items.size (a, b, n) with
  | true =>
    have hw' : (a == 0 && b == 1 && n == items.size) = true := hw
    rw [if_pos hw']
    obtain ⟨o, ho, hc, nn, hd⟩ := id ht
    have q := h1 hw
    first
      | (refine wpAny_bind (m := Builtin.Tuple.tupleIsExact _) ?_; unfold Builtin.Tuple.tupleIsExact; refine wpAny_bind (wpAny_typeOf ht.typeIs (wpAny_pure ?_)); rw [if_pos (by decide)]; exact wpAny_bind (wpAny_rule (wpAny_pure ⟨_, rfl, wpAny_pure q⟩)))
      | trace_state
  | false =>
    have hw' : ¬ ((a == 0 && b == 1 && n == items.size) = true) := by
      intro z
      have : wholeAt items.size (a, b, n) = true := z
      rw [hw] at this; cases this
    rw [if_neg hw', e]
    have q := h2 hw
    first
      | exact wpAny_bind (m := Builtin.Tuple.tupleExact _) (wpAny_newObj_type (wpAny_pure ⟨_, rfl, wpAny_pure q⟩) htake)
      | exact wpAny_bind (m := Builtin.Tuple.tupleExact _) (wpAny_newObj_type (wpAny_bind (wpAny_pure (wpAny_pure ⟨_, rfl, wpAny_pure q⟩))) htake)
      | exact wpAny_bind (wpAny_bind (m := Builtin.Tuple.tupleExact _) (wpAny_newObj_type (wpAny_pure (wpAny_pure ⟨_, rfl, wpAny_pure q⟩)) htake))
      | exact wpAny_bind (wpAny_bind (m := Builtin.Tuple.tupleExact _) (wpAny_newObj_type (wpAny_pure ⟨_, rfl, wpAny_pure q⟩) htake))
end
end L3
namespace L3
open PySem
theorem bt_len : bootBuiltins "len" = some (.builtin "len") := by decide +kernel
theorem bt_tuple : bootBuiltins "tuple" = some (.type "tuple") := by decide +kernel
theorem bt_max : bootBuiltins "max" = some (.builtin "max") := by decide +kernel
theorem bt_list : bootBuiltins "list" = some (.type "list") := by decide +kernel
theorem bt_abs : bootBuiltins "abs" = some (.builtin "abs") := by decide +kernel
theorem bt_sum : bootBuiltins "sum" = some (.builtin "sum") := by decide +kernel
theorem bt_sorted : bootBuiltins "sorted" = some (.builtin "sorted") := by decide +kernel
theorem bt_dict : bootBuiltins "dict" = some (.type "dict") := by decide +kernel
theorem bt_reversed : bootBuiltins "reversed" = some (.type "reversed") := by decide +kernel
end L3
set_option maxRecDepth 100000
namespace L2
open PySem PySem.Spec PyProof.Rows
section
variable {X : Cx} {pins : List (Addr × Obj)} {σ : St} {H : Hp} {s : Shared} {h' : Heap}
theorem Inv.turnLay {a : Addr} {o : HO} {t' : Nat} {ch : List Addr} (I : Inv X pins σ H s) (hf : ∀ b ∈ ch, FpOk X pins H b) (k : ∀ b u, b ∉ ch → s.heap.get? b = some u → h'.get? b = some u) (hp : s.heap.objs.size ≤ a)
    (new : ObjOk X.prog X.w (upd H a o) h' a o) : Inv X pins σ (upd H a o) { s with heap := h', toks := t' } := by
  have fa : H a = none := I.hok.fresh hp
  have nch : ∀ b u, H b = some u → b ∉ ch := fun b u e z => by rw [(hf b z).1] at e; cases e
  refine I.step (g' := s.gens) (d' := s.drawn) (ch := ch) (fun b hb => ?_) (fun b u _ _ hc e _ => k b u hc e) (fun b u _ _ hc e _ => ⟨u.slots, k b u hc e⟩) (fun b u hc e n => ?_) (fun b u hc e => ⟨u, k b u hc e⟩)
    (fun b xs e => ?_) (fun b ob u e => ?_) (fun b ps e => ?_) (fun m hm => ?_) (fun b u e => ?_) I.bare
  · obtain ⟨_, f1, _, f3, f4, f5⟩ := hf b hb
    exact ⟨f3, f1, f4, f5⟩
  · rw [upd_ne (Nat.ne_of_lt (Nat.lt_of_lt_of_le (Heap.lt_size e) hp))]; exact n
  · rw [upd_ne (ne_of_none e fa)]; exact e
  · rw [upd_ne (ne_of_none e fa)]; exact e
  · exact ⟨#[], by rw [upd_ne (ne_of_none e fa), e]; simp⟩
  · obtain ⟨ob, es, ep, ho, r⟩ := hm
    exact ⟨ob, es, ep, k _ ob (fun z => (hf _ z).2.1 rfl) ho, r⟩
  · by_cases hb : b = a
    · subst hb; rw [upd_same] at e; cases e; exact new
    · rw [upd_ne hb] at e
      refine (I.hok b u e).stay (fun c v hc q => k c v ?_ q) (fun c q => by rw [upd_ne (ne_of_none q fa)]; exact q) fun c xs q => by rw [upd_ne (ne_of_none q fa)]; exact q
      rcases hc with z | z
      · rw [z]; exact nch b u e
      · exact nch c _ z
theorem Inv.turnMany {t' : Nat} {ch : List Addr} (I : Inv X pins σ H s) (hf : ∀ b ∈ ch, FpOk X pins H b) (k : ∀ b u, b ∉ ch → s.heap.get? b = some u → h'.get? b = some u) : Inv X pins σ H { s with heap := h', toks := t' } := by
  have nch : ∀ b u, H b = some u → b ∉ ch := fun b u e z => by rw [(hf b z).1] at e; cases e
  refine I.step (g' := s.gens) (d' := s.drawn) (ch := ch) (fun b hb => ?_) (fun b u _ _ hc e _ => k b u hc e) (fun b u _ _ hc e _ => ⟨u.slots, k b u hc e⟩) (fun b u hc e n => n) (fun b u hc e => ⟨u, k b u hc e⟩)
    (fun b xs e => e) (fun b ob u e => e) (fun b ps e => ⟨#[], by rw [e]; simp⟩) (fun m hm => ?_) (fun b u e => ?_) I.bare
  · obtain ⟨_, f1, _, f3, f4, f5⟩ := hf b hb
    exact ⟨f3, f1, f4, f5⟩
  · obtain ⟨ob, es, ep, ho, r⟩ := hm
    exact ⟨ob, es, ep, k _ ob (fun z => (hf _ z).2.1 rfl) ho, r⟩
  · refine (I.hok b u e).stay (fun c v hc q => k c v ?_ q) (fun _ q => q) fun _ _ q => q
    rcases hc with z | z
    · rw [z]; exact nch b u e
    · exact nch c _ z
end
section
variable {X : Cx}
end
section
variable {X : Cx}
noncomputable def Cx.comp (X : Cx) (scope : Scope) (N' : List Str) (C : Addr) (fp : List Addr) (pins : List (Addr × Obj)) (s₂ : Shared) (H₂ : Hp) : Cx :=
  { X with N := N', s₀ := s₂, H₀ := H₂, env := compEnvC scope (L3.closL X.env.cells scope.names []) C X.env, outer := X.stack, ex := fp, fn := fun _ => false, pn := X.pn ++ pins, xe := fun _ _ => False }
theorem comp_look {scope : Scope} {x : Str} {c : Addr} (h : (L3.closL X.env.cells scope.names []).lookup x = some c) : X.env.cells.lookup x = some c :=
  L3.closL_lookup (cs := []) (fun _ e => by simp at e) h
variable {scope : Scope} {N' : List Str} {sh : List Nat} {pins : List (Addr × Obj)} {σ : St} {H : Hp} {s : Shared} {C : Addr} {fp : List Addr}
theorem comp_free (cp : L3.CompParts X.env.scope scope X.N N' sh) {x : Str} (h : (relabel scope X.env).names.lookup x = some .cell ∨ (relabel scope X.env).names.lookup x = some .free) : (x, NameKind.free) ∈ scope.names ∧ X.env.kindOf x = some .cell := by
  have q : (x, NameKind.free) ∈ scope.names := by
    rcases h with h | h
    · obtain ⟨k0, h0, h1⟩ := L3.relab_inv h
      rcases h1 with h1 | ⟨h1, _⟩
      · subst h1; exact absurd rfl (cp.cell _ (L3.mem_of_look h0))
      · subst h1; exact L3.mem_of_look h0
    · obtain ⟨k0, h0, h1⟩ := L3.relab_inv h
      rcases h1 with h1 | ⟨_, h1⟩
      · subst h1; exact L3.mem_of_look h0
      · cases h1
  exact ⟨q, cp.free _ q rfl⟩
theorem comp_ok (I : Inv X pins σ H s) (cp : L3.CompParts X.env.scope scope X.N N' sh) (hC : s.heap.objs.size ≤ C) (hf : ∀ b ∈ fp, FpOk X pins H b) (hlt : ∀ b ∈ fp, b < s.heap.objs.size) : (X.comp scope N' C fp pins s H).Ok := by
  refine ⟨I.ok.mod, cp.kind, I.ok.glob, I.ok.blt, hC, fun x y c h1 h2 => I.ok.inj x y c (comp_look h1) (comp_look h2), fun x hx => ?_, fun x c z _ => ?_, I.ok.hd, I.ok.frames, .inl rfl, fun b hb => ⟨?_, fun x c e => ?_⟩, I.bs, Nat.le_trans I.ok.bsz I.sz, fun b o e hb => ?_, fun b hb z => ?_, I.stack, I.stkFree⟩
  · obtain ⟨q, kq⟩ := comp_free cp hx
    obtain ⟨d, hd⟩ := I.ok.has x (.inl kq)
    exact L3.closL_has hd q
  · exact absurd (show false = true from z) Bool.false_ne_true
  · exact Nat.ne_of_lt (Nat.lt_of_lt_of_le (hlt b hb) hC)
  · exact (hf b hb).2.2.2.2.1 x c (comp_look e)
  · rcases (hf b hb).2.2.2.1 with z | z
    · exact I.ok.noex b o e z
    · exact absurd (Nat.lt_of_lt_of_le (Heap.lt_size e) (Nat.le_trans I.ok.bsz z)) (Nat.lt_irrefl _)
  · rcases List.mem_cons.mp (I.stkSub b z) with e | e
    · exact (hf b hb).2.1 e
    · exact (hf b hb).2.2.1 e
theorem comp_in (I : Inv X pins σ H s) (cp : L3.CompParts X.env.scope scope X.N N' sh) {more : Nat} (hm : N'.length = X.N.length + more) (hC : s.heap.objs.size ≤ C) (hf : ∀ b ∈ fp, FpOk X pins H b) (hlt : ∀ b ∈ fp, b < s.heap.objs.size)
    {h1 : Heap} {t : Nat} {m : Str → Option Value} (k : ∀ b o, s.heap.get? b = some o → h1.get? b = some o) (hn : h1.Ns C m) : Inv (X.comp scope N' C fp pins s H) [] (L3.blank sh σ ++ List.replicate more none) H { s with heap := h1, toks := t } := by
  have neC : ∀ b o, s.heap.get? b = some o → b ≠ C := fun b o e => Nat.ne_of_lt (Nat.lt_of_lt_of_le (Heap.lt_size e) hC)
  have lenσ : σ.length = X.N.length := I.len
  refine ⟨comp_ok I cp hC hf hlt, rfl, I.bare, Un.kept k, ⟨m, hn, fun i x v e1 e2 e3 => ?_⟩, fun x c e => ?_, I.hok.fresh hC, fun x c e => I.freeC x c (comp_look e), fun p hp => ?_, I.hok.kept k, ?_⟩
  · have hi : i < (L3.blank sh σ).length := by
      by_cases hi : i < (L3.blank sh σ).length
      · exact hi
      · rw [List.getElem?_append_right (Nat.le_of_not_lt hi), List.getElem?_replicate] at e2
        split at e2 <;> cases e2
    rw [List.getElem?_append_left hi] at e2
    obtain ⟨h1', h2'⟩ := L3.blank_get e2
    rw [L3.blank_length, lenσ] at hi
    have eN : X.N[i]? = some x := by
      have q : (N'.take X.N.length)[i]? = some x := by rw [List.getElem?_take_of_lt hi]; exact e1
      rw [cp.pre] at q; exact q
    have e3' : (relabel scope X.env).names.lookup x = some .local ∨ (relabel scope X.env).names.lookup x = some .cell ∨ (relabel scope X.env).names.lookup x = some .free := e3
    rcases e3' with z | z
    · obtain ⟨k0, h0, hk⟩ := L3.relab_inv z
      have : k0 = .local := by
        rcases hk with q | ⟨_, q⟩
        · exact q.symm
        · cases q
      subst this
      exact absurd (cp.shad i x eN h0) h1'
    · obtain ⟨q, kq⟩ := comp_free cp z
      obtain ⟨m0, _, hl⟩ := I.loc
      obtain ⟨u, ru, lu⟩ := hl i x v eN h2' (.inr (.inl kq))
      rcases lu with ⟨kl, _⟩ | ⟨_, c, hc, ic⟩
      · rw [kq] at kl; cases kl
      · obtain ⟨c', hc'⟩ := L3.closL_has (cs := []) hc q
        have := comp_look (X := X) hc'
        rw [hc] at this; cases this
        exact ⟨u, ru, .inr ⟨z, c, hc', ic.keeps k⟩⟩
  · obtain ⟨v, z⟩ := I.cell x c (comp_look e)
    exact ⟨v, z.keeps k⟩
  · have hp' : p ∈ X.pn ++ pins := by simpa [Cx.comp] using hp
    obtain ⟨e, n, ne, nf, d⟩ := I.pin p hp'
    refine ⟨k _ _ e, n, neC _ _ e, fun z => ?_, d⟩
    rcases List.mem_cons.mp (I.stkSub p.1 z) with q | q
    · exact ne q
    · exact nf q
  · show (L3.blank sh σ ++ List.replicate more none).length = N'.length
    rw [List.length_append, L3.blank_length, List.length_replicate, lenσ, hm]
theorem comp_out {D : Addr} {n : Nat} {acc : List V} {ys : Array Value} {pl : List (Addr × Obj)} {σ4 : St} {H4 : Hp} {s4 : Shared} {h' : Heap} (I : Inv X pins σ H s) (hC : s.heap.objs.size ≤ C) (hf : ∀ b ∈ fp, FpOk X pins H b)
    (I4 : Inv (X.comp scope N' C fp pins s H) pl σ4 H4 s4) (hD : s.heap.objs.size ≤ D) (hDC : D ≠ C) (gD : s4.heap.get? D = some { cls := .type "list", data := .seq ys n }) (va : Vals acc ys.toList) (fD : H4 D = none) (hl : acc.length ≤ sizeLine)
    (sb : Heap.SameBut C s4.heap h') : Inv X pins σ (upd H4 D (.lst acc)) { s4 with heap := h' } := by
  have B : Un (frs X.stack) fp H H4 s.heap s4.heap := I4.base
  have fC : H4 C = none := I4.free
  have lo : ∀ b o, s.heap.get? b = some o → b ≠ C ∧ b ≠ D := fun b o e => ⟨Nat.ne_of_lt (Nat.lt_of_lt_of_le (Heap.lt_size e) hC), Nat.ne_of_lt (Nat.lt_of_lt_of_le (Heap.lt_size e) hD)⟩
  have u : Un (frs X.stack) fp H (upd H4 D (.lst acc)) s.heap h' := by
    refine ⟨fun b o e n hb hx => (sb.2 b (lo b o e).1).trans (B.keep b o e n hb hx), fun b o e n hb hx => ?_, fun b o e n hx => by rw [upd_ne (lo b o e).2]; exact B.free b o e n hx, fun b o e hx => ?_,
      fun b xs e => ?_, fun b o v e => ?_, fun b ps e => ?_⟩
    · obtain ⟨sl, q⟩ := B.slot b o e n hb hx
      exact ⟨sl, (sb.2 b (lo b o e).1).trans q⟩
    · obtain ⟨o', q⟩ := B.there b o e hx
      exact ⟨o', (sb.2 b (lo b o e).1).trans q⟩
    · have q := B.tups b xs e
      rw [upd_ne (ne_of_none q fD)]; exact q
    · have q := B.frzs b o v e
      rw [upd_ne (ne_of_none q fD)]; exact q
    · obtain ⟨more, q⟩ := B.tbls b ps e
      exact ⟨more, by rw [upd_ne (ne_of_none q fD)]; exact q⟩
  have hok : HOk X.prog X.w (upd H4 D (.lst acc)) h' := fun b v e => by
    by_cases hb : b = D
    · subst hb
      rw [upd_same] at e; cases e
      exact ⟨hl, ys.toList, n, va, by rw [sb.2 _ hDC, gD]⟩
    · rw [upd_ne hb] at e
      refine (show ObjOk X.prog X.w H4 s4.heap b v from I4.hok b v e).stay (fun c w' hc q => (sb.2 c ?_).trans q) (fun c q => by rw [upd_ne (ne_of_none q fD)]; exact q) fun c xs q => by rw [upd_ne (ne_of_none q fD)]; exact q
      rcases hc with z | z
      · rw [z]; exact ne_of_none e fC
      · exact ne_of_none z fC
  exact I.call' (s' := { s4 with heap := h' }) (ch := fp) (show s4.os = s.os from I4.os) u hok I4.bare fun b hb => ⟨(hf b hb).2.2.2.1, (hf b hb).2.1, (hf b hb).2.2.2.2.1, (hf b hb).2.2.2.2.2⟩
end
noncomputable def PIf (X : Cx) (ifs : List Expr) (tt : TT) : Prop :=
  ∀ (pins : List (Addr × Obj)) (s : Shared) (σ : St) (H : Hp) (Q : Bool → Hp → Prop), Inv X pins σ H s → tt σ H Q → wpAny (model X.prog X.w) X.A (L3.testsOf ifs X.env) (TP X pins σ Q) X.xe s
theorem pif_nil {X : Cx} : PIf X [] (fun _ H Q => Q true H) := fun _ _ _ H _ I h => wpAny_tests_nil ⟨H, I, h⟩
theorem pif_one {X : Cx} {c : Expr} {t : TT} (h : PT X c t) : PIf X [c] t := fun pins s σ H Q I q => wpAny_tests_one (h pins s σ H Q I q)
noncomputable def compW (J : It) (g : TG) (tt : TT) (te : TE) (σ : St) (H : Hp) (Q : VK) : Prop := ∃ W : Nat → Nat → List V → St → Hp → Prop, (∃ m, W 0 m [] σ H) ∧ ∀ i m acc σ' H', W i m acc σ' H' →
  (J.stop i H' ∧ acc.length ≤ sizeLine ∧ ∀ D, H' D = none → Q (.ref D) (upd H' D (.lst acc))) ∨
  (J.go i H' ∧ acc.length < sizeLine ∧ ∃ N : List V → St → Hp → Prop, (∀ acc' σ2 H2, N acc' σ2 H2 → ∃ m', m' < m ∧ W (i + 1) m' acc' σ2 H2) ∧
    ∀ x H2, J.yld i H' x H2 → g x σ' H2 fun σ2 H3 => tt σ2 H3 fun b H4 => if b = true then te σ2 H4 fun y H5 => N (acc ++ [y]) σ2 H5 else N acc σ2 H4)
noncomputable def tComp (wi : TI) (g : TG) (tt : TT) (te : TE) (sh : List Nat) (more : Nat) : TE := fun σ H Q => wi σ H fun J H1 => compW J g tt te (L3.blank sh σ ++ List.replicate more none) H1 Q
theorem comp_any {X : Cx} {elt tg iter : Expr} {ifs : List Expr} {scope : Scope} {pos pos' : Pos} {wi : TI} {g : TG} {tt : TT} {te : TE} {sh : List Nat} {N' : List Str} {more : Nat} (hcalm : X.calm = true) (hi : PI X tg iter wi)
    (hg : ∀ C fp pins s H, PG (X.comp scope N' C fp pins s H) tg g) (ht : ∀ C fp pins s H, PIf (X.comp scope N' C fp pins s H) ifs tt) (he : ∀ C fp pins s H, PE (X.comp scope N' C fp pins s H) elt te)
    (hc : L3.compOk X.env.scope scope X.N N' sh = true) (hm : N'.length = X.N.length + more) (hs : ∀ x, foldedSetIterable iter X.env x = pure x) {use : Option (Value → Sem Unit)} {Qv : Value → Shared → Prop}
    {pins : List (Addr × Obj)} {s : Shared} {σ : St} {H : Hp} {Q : VK} (I : Inv X pins σ H s) (h : tComp wi g tt te sh more σ H Q)
    (fin : ∀ (D C : Addr) (s2 : Shared) (H2 : Hp) (fp : List Addr) (pl : List (Addr × Obj)) (σ4 : St) (H4 : Hp) (s4 : Shared) (n : Nat) (ys : Array Value) (acc : List V), Inv X pins σ H2 s2 → (∀ b ∈ fp, FpOk X pins H2 b) → s2.heap.objs.size ≤ C → s2.heap.objs.size ≤ D → D ≠ C →
      Inv (X.comp scope N' C fp pins s2 H2) pl σ4 H4 s4 → s4.heap.get? D = some { cls := .type "list", data := .seq ys n } → Vals acc ys.toList → H4 D = none → acc.length ≤ sizeLine → Q (.ref D) (upd H4 D (.lst acc)) → compPost (model X.prog X.w) X.A X.xe use Qv (.ref D) C (.ok .next) s4) :
    wpAny (model X.prog X.w) X.A (comprehension (.ListComp elt [⟨tg, iter, ifs, 0⟩] scope pos) scope X.env pos' (newList []) false (eval iter X.env) use) Qv X.xe s := by
  have cp := L3.compOk_parts hc
  refine wpAny_comprehension_free (cl := L3.closL X.env.cells scope.names []) rfl hs (L3.closureFor_eq fun x hx hk => ?_) cp.kind cp.loc ?_
  · obtain ⟨c, q⟩ := I.ok.has x.1 (.inl (cp.free x hx hk))
    rw [q]; rfl
  show wpAny _ X.A (eval iter X.env) _ _ s
  refine thn (hi pins s σ H _ I h) fun v s1 h1 => thn h1 fun itv s2 h2 => ?_
  obtain ⟨it, fp, tn, J, H2, e, I2, T, st2, f2, W, ⟨m0, w0⟩, turn⟩ := h2
  subst e
  have hlt : ∀ b ∈ fp, b < s2.heap.objs.size := fun b hb => by
    obtain ⟨o, q, _⟩ := T.obj 0 _ st2 b hb
    exact Heap.lt_size q
  refine wpAny_newObj_type (wpAny_newFunctionEnv cp.cell (by intro y hy; simp at hy) (fun h₁ hns hsb => ?_) cp.kind)
  dsimp only at hns hsb ⊢
  generalize hG : s2.heap.push { cls := .type "list", dict := none, data := .seq ([] : List Value).toArray } = G at hns hsb ⊢
  have hz : G.objs.size = s2.heap.objs.size + 1 := by rw [← hG, Heap.size_push]
  have hC : s2.heap.objs.size ≤ G.objs.size := by omega
  have hDC : s2.heap.objs.size ≠ G.objs.size := by omega
  have old : ∀ b o, s2.heap.get? b = some o → h₁.get? b = some o := fun b o q => by
    have hb := Heap.lt_size q
    exact hsb.extBut b o (Nat.ne_of_lt (Nat.lt_of_lt_of_le hb hC)) (Heap.get?_push_of_some _ (hG ▸ Heap.get?_push_of_some _ q))
  have acc0 : h₁.PlainList s2.heap.objs.size #[] := ⟨_, hsb.extBut _ _ hDC (Heap.get?_push_of_some _ (hG ▸ Heap.get?_push_size _ rfl))⟩
  have nfD : s2.heap.objs.size ∉ frs X.stack := fun z => by
    obtain ⟨_, o, ho, _⟩ := I2.stack.mem z
    exact absurd (Heap.lt_size ho) (Nat.lt_irrefl _)
  have fpD : ∀ b ∈ fp, s2.heap.objs.size ≠ b := fun b hb => Nat.ne_of_gt (hlt b hb)
  have cD : ∀ x c, (L3.closL X.env.cells scope.names []).lookup x = some c → c ≠ s2.heap.objs.size := fun x c q z => by
    obtain ⟨w', z'⟩ := I2.cell x c (comp_look q)
    rw [z] at z'
    exact absurd z'.lt (Nat.lt_irrefl _)
  have pnD : ∀ p ∈ X.pn ++ pins, p.1 ≠ s2.heap.objs.size := fun p hp z => by
    have q := (I2.pin p hp).1
    rw [z] at q
    exact absurd (Heap.lt_size q) (Nat.lt_irrefl _)
  have okX : (X.comp scope N' G.objs.size fp pins s2 H2).Ok := comp_ok I2 cp hC f2 hlt
  -- the iterator's records, seen from the block
  have stat : ∀ {o : Obj} {H' : Hp}, (∀ b ∈ fp, H' b = none) → ∀ b ∈ fp, FpOk (X.comp scope N' G.objs.size fp pins s2 H2) [(s2.heap.objs.size, o)] H' b := fun {o H'} hn b hb => by
    refine ⟨hn b hb, (okX.exf b hb).1, okX.exfs b hb, .inl hb, (okX.exf b hb).2, fun p hp => ?_⟩
    rcases List.mem_append.mp hp with z | z
    · exact (f2 b hb).2.2.2.2.2 p z
    · have : p = (s2.heap.objs.size, o) := by simpa using z
      rw [this]; exact fpD b hb
  -- the list so far, held as it is
  have hold : ∀ {σ' : St} {H' : Hp} {s' : Shared} {o : Obj}, Inv (X.comp scope N' G.objs.size fp pins s2 H2) [] σ' H' s' → s'.heap.get? s2.heap.objs.size = some o → H' s2.heap.objs.size = none → (∀ v, o.data ≠ .cell v) →
      Inv (X.comp scope N' G.objs.size fp pins s2 H2) [(s2.heap.objs.size, o)] σ' H' s' := fun {σ' H' s' o} I' q n d => I'.pins_of fun p hp => by
    have : p = (s2.heap.objs.size, o) := by simpa using hp
    subst this
    exact ⟨q, n, hDC, nfD, d⟩
  have loop : ∀ s₃ : Shared, s₃ = { s2 with heap := h₁, toks := s2.toks + ([] : List (Str × Value)).length } →
      codeAny (model X.prog X.w) X.A (.compLoop (.ListComp elt [⟨tg, iter, ifs, 0⟩] scope pos) 0 (.ref it) (.ref s2.heap.objs.size) (compEnvC scope (L3.closL X.env.cells scope.names []) G.objs.size X.env))
        (compPost (model X.prog X.w) X.A X.xe use Qv (.ref s2.heap.objs.size) G.objs.size) s₃ := by
    rintro s₃ rfl
    refine L3.comp_loop (fun n s' => ∃ i acc ys σ' H', Inv (X.comp scope N' G.objs.size fp pins s2 H2) [] σ' H' s' ∧ tn i s'.heap ∧ (∀ b ∈ fp, H' b = none) ∧ s'.heap.PlainList s2.heap.objs.size ys ∧ Vals acc ys.toList ∧ H' s2.heap.objs.size = none ∧ W i n acc σ' H') ?_ m0
      ⟨0, [], #[], _, H2, comp_in I2 cp hm hC f2 hlt old hns, T.keep _ _ _ st2 (fun b _ o q => old b o q), fun b hb => (f2 b hb).1, acc0, .nil, I2.hok.fresh (Nat.le_refl _), w0⟩
    rintro n s3 ⟨i, acc, ys, σ3, H3, I3, st3, fr3, ⟨nn, gD⟩, va, fD, w3⟩
    have dD : ∀ v, ({ cls := .type "list", data := .seq ys nn } : Obj).data ≠ .cell v := fun v z => by
      have z' : Data.seq ys nn = Data.cell v := z
      cases z'
    have I3' := hold I3 gD fD dD
    rcases turn i n acc σ3 H3 w3 with ⟨stop, hl, q⟩ | ⟨go, hl, N, hN, step⟩
    · refine thn (T.done (X.comp scope N' G.objs.size fp pins s2 H2) rfl rfl rfl hcalm i _ s3 σ3 H3 (fun _ _ => False) I3' (stat fr3) st3 stop) fun r s4 ⟨hr, I4⟩ => ?_
      subst hr
      have g4 := (I4.pin (s2.heap.objs.size, _) (List.mem_append_right _ List.mem_cons_self)).1
      exact fin _ _ s2 H2 fp _ _ _ s4 _ _ acc I2 f2 hC (Nat.le_refl _) hDC I4 g4 va fD hl (q _ fD)
    · refine thn (T.item (X.comp scope N' G.objs.size fp pins s2 H2) rfl rfl rfl hcalm i _ s3 σ3 H3 (fun _ _ => False) I3' (stat fr3) st3 go) fun r s4 ⟨u, hr, h4⟩ => ?_
      subst hr
      refine thn h4 fun _ s5 ⟨x, H5, I5, r5, y5, st5, fr5⟩ => ?_
      have I5' := I5.pinned (stat fr5) (T.obj _ _ st5)
      refine thn (hg _ _ _ _ _ _ s5 σ3 H5 x u _ I5' r5 (step x H5 y5)) fun _ s6 ⟨σ6, H6, I6, q6⟩ => ?_
      refine thn (ht _ _ _ _ _ _ s6 σ6 H6 _ I6 q6) fun b s7 ⟨H7, I7, q7⟩ => ?_
      have inD : ∀ {o : Obj}, (s2.heap.objs.size, o) ∈ [(s2.heap.objs.size, o)] ++ pinsAt fp s5.heap := List.mem_append_left _ List.mem_cons_self
      have turned : ∀ {σ' : St} {H' : Hp} {s' : Shared}, Inv (X.comp scope N' G.objs.size fp pins s2 H2) ([(s2.heap.objs.size, ({ cls := .type "list", data := .seq ys nn } : Obj))] ++ pinsAt fp s5.heap) σ' H' s' →
          (∀ b ∈ fp, ∀ o, s5.heap.get? b = some o → s'.heap.get? b = some o) ∧ ∀ b ∈ fp, H' b = none := fun I' => by
        refine ⟨fun b hb o q => (I'.pin (b, o) (List.mem_append_right _ (List.mem_append_right _ (mem_pinsAt hb q)))).1, fun b hb => ?_⟩
        obtain ⟨o, q, _⟩ := T.obj _ _ st5 b hb
        exact (I'.pin (b, o) (List.mem_append_right _ (List.mem_append_right _ (mem_pinsAt hb q)))).2.1
      cases b with
      | false =>
        rw [if_neg Bool.false_ne_true] at q7 ⊢
        obtain ⟨m', hm', w7⟩ := hN _ _ _ q7
        have p7 := I7.pin (s2.heap.objs.size, _) (List.mem_append_right _ inD)
        exact ⟨m', hm', i + 1, acc, ys, σ6, H7, I7.pins_of (fun p hp => absurd hp (by simp)), T.keep _ _ _ st5 (turned I7).1, (turned I7).2, ⟨nn, p7.1⟩, va, p7.2.1, w7⟩
      | true =>
        rw [if_pos rfl] at q7 ⊢
        refine thn (he _ _ _ _ _ _ s7 σ6 H7 _ I7 q7) fun yv s8 ⟨y, H8, I8, r8, q8⟩ => ?_
        obtain ⟨m', hm', w8⟩ := hN _ _ _ q8
        have p8 := I8.pin (s2.heap.objs.size, _) (List.mem_append_right _ inD)
        have lenv := va.length
        refine wpAny_list_append_plain (hsz := by rw [← Array.length_toList, ← lenv]; exact Nat.le_of_lt hl) ⟨nn, p8.1⟩ fun h9 pl9 sb9 => ?_
        have J8 : Inv (X.comp scope N' G.objs.size fp pins s2 H2) [] σ6 H8 s8 := I8.pins_of fun p hp => absurd hp (by simp)
        refine ⟨m', hm', i + 1, acc ++ [y], ys.push yv, σ6, H8, J8.turned (t' := s8.toks) (fun b o hb q => (sb9.2 b hb).trans q) p8.2.1 hDC (.inr (Nat.le_refl _)) cD (fun p hp => pnD p (by simpa [Cx.comp] using hp)), ?_, (turned I8).2, pl9, ?_, p8.2.1, w8⟩
        · exact T.keep _ _ _ st5 fun b hb o q => (sb9.2 b (fpD b hb).symm).trans ((turned I8).1 b hb o q)
        · rw [Array.toList_push]
          exact va.append (.cons r8 .nil)
  exact codeAny_compStart_list (loop _ rfl) (T.self _ 0 _ _ _ (T.keep _ _ _ st2 fun b _ o q => old b o q) (loop _ rfl))
theorem pe_comp {X : Cx} {elt tg iter : Expr} {ifs : List Expr} {scope : Scope} {pos : Pos} {wi : TI} {g : TG} {tt : TT} {te : TE} (sh : List Nat) (N' : List Str) (more : Nat) (hcalm : X.calm = true) (hi : PI X tg iter wi)
    (hg : ∀ C fp pins s H, PG (X.comp scope N' C fp pins s H) tg g) (ht : ∀ C fp pins s H, PIf (X.comp scope N' C fp pins s H) ifs tt) (he : ∀ C fp pins s H, PE (X.comp scope N' C fp pins s H) elt te)
    (hc : L3.compOk X.env.scope scope X.N N' sh = true := by rfl) (hm : N'.length = X.N.length + more := by rfl) (hs : ∀ x, foldedSetIterable iter X.env x = pure x := by intro _; rfl) :
    PE X (.ListComp elt [⟨tg, iter, ifs, 0⟩] scope pos) (tComp wi g tt te sh more) := by
  intro pins s σ H Q I h
  rw [eval_ListComp]
  refine comp_any hcalm hi hg ht he hc hm hs (use := none) I h fun D C s2 H2 fp pl σ4 H4 s4 n ys acc I2 f2 hC hD hDC I4 g4 va fD hl q => ?_
  obtain ⟨m4, hn4, _⟩ := I4.loc
  exact ⟨m4, hn4, fun h' sb => ⟨.ref D, _, comp_out I2 hC f2 I4 hD hDC g4 va fD hl sb, rfl, q⟩⟩
section
variable {X : Cx}
noncomputable def rSl3 (K : PySem.W.Frag) : V → Option Int → Option Int → Option Int → Hp → VK → Prop := fun x lo hi st H Q => ∃ a xs, x = .ref a ∧ SqT K H a xs ∧ st.getD 1 ≠ 0 ∧ (L3.cutAt xs.length lo hi st).2.2 ≤ sizeLine ∧
  (L3.wholeAt xs.length (L3.cutAt xs.length lo hi st) = true → Q (.ref a) H) ∧ (L3.wholeAt xs.length (L3.cutAt xs.length lo hi st) = false → ∀ p, H p = none → Q (.ref p) (upd H p (.tup (L3.pickAt xs (L3.cutAt xs.length lo hi st)))))
theorem vals_pick {xs : List V} {us : List Value} (r : Vals xs us) (f : Nat → Nat) : ∀ l : List Nat, Vals (l.filterMap fun k => xs[f k]?) (l.filterMap fun k => us[f k]?)
  | [] => .nil
  | k :: l => by
    have ih := vals_pick r f l
    rw [List.filterMap_cons, List.filterMap_cons]
    cases e : xs[f k]? with
    | none =>
      have e2 : us[f k]? = none := by
        rw [List.getElem?_eq_none_iff] at e ⊢
        rw [← r.length]; exact e
      rw [e2]; exact ih
    | some x =>
      obtain ⟨u, hu, ru⟩ := r.get e
      rw [hu]; exact .cons ru ih
noncomputable def tSl3 (r : V → Option Int → Option Int → Option Int → Hp → VK → Prop) (te : TE) (tl th ts : TO) : TE := fun σ H Q => te σ H fun x H1 => tl σ H1 fun l H2 => th σ H2 fun u H3 => ts σ H3 fun st H4 => r x l u st H4 Q
theorem pe_slice3 {e : Expr} {te : TE} {lo hi st : Option Expr} {tl th ts : TO} {pos p2 : Pos} (he : PE X e te) (hl : PO X lo tl) (hu : PO X hi th) (hst : PO X st ts) : PE X (.Subscript e (.Slice lo hi st p2) pos) (tSl3 (rSl3 X.K) te tl th ts) := by
  intro pins s σ H Q I h
  refine Subscript_ (thn (he pins s σ H _ I h) fun v s1 ⟨x, H1, I1, r1, q1⟩ => ?_)
  refine wpAny_Slice (thn (hl pins s1 σ H1 _ I1 q1) fun vl s2 ⟨l, H2, I2, pl, q2⟩ => thn (hu pins s2 σ H2 _ I2 q2) fun vu s3 ⟨u, H3, I3, pu, q3⟩ => thn (hst pins s3 σ H3 _ I3 q3) fun vs s4 ⟨k, H4, I4, ps, q4⟩ => ?_)
  obtain ⟨a, xs, rfl, hx, h0, hz2, q5, q6⟩ := q4
  cases r1
  have I5 : Inv X pins σ H4 { s4 with heap := s4.heap.push { cls := .type "slice", data := .fields #[vl, vu, vs] } } := I4.kept (t' := s4.toks) fun b ob q => Heap.get?_push_of_some _ q
  obtain ⟨its, r, ht, hz⟩ := I5.tuple hx
  have hlen : its.toArray.size = xs.length := by rw [List.size_toArray]; exact r.length.symm
  have hg : wpAny (model X.prog X.w) X.A (getItem (.ref a) (.ref s4.heap.objs.size)) (EP X pins σ Q) X.xe { s4 with heap := s4.heap.push { cls := .type "slice", data := .fields #[vl, vu, vs] } } := by
    refine L3.tupleCut ht (Heap.IsSliceOf.new ..) pl pu ps h0 (fun w => ?_) (fun w => ?_) (by rw [hlen]; exact hz2)
    · rw [hlen] at w
      exact ⟨.ref a, H4, I5, rfl, q5 w⟩
    · rw [hlen] at w ⊢
      refine ⟨.ref _, _, I5.laid (t' := s4.toks) (o := .tup (L3.pickAt xs (L3.cutAt xs.length l u k))) (fun b ob q => Heap.get?_push_of_some _ q) (Nat.le_refl _) ?_, rfl, q6 w _ (I5.hok.fresh (Nat.le_refl _))⟩
      refine ⟨?_, _, vals_pick r _ _, IsTup.new _ _, _, Heap.get?_push_size _ rfl, rfl⟩
      exact Nat.le_trans (List.length_filterMap_le _ _) (by rw [List.length_range]; exact hz2)
  show wpAny (model X.prog X.w) X.A (subscriptTail e (.Slice lo hi st p2) (.ref a) (.ref s4.heap.objs.size)) (EP X pins σ Q) X.xe { s4 with heap := s4.heap.push { cls := .type "slice", data := .fields #[vl, vu, vs] } }
  cases st with
  | none => exact tail_any (ops := [.ref s4.heap.objs.size, .ref a]) ht.typeIs PyProof.Rows.slot_tuple_getitem.lookup hg (by with_unfolding_all rfl)
  | some st => exact tail_any (ops := [.ref a, .ref s4.heap.objs.size]) ht.typeIs PyProof.Rows.slot_tuple_getitem.lookup hg (by with_unfolding_all rfl)
noncomputable def rCat0 (K : PySem.W.Frag) : R2 := fun x y H Q => ∃ a b xs ys, x = .ref a ∧ y = .ref b ∧ SqT K H a xs ∧ SqT K H b ys ∧ xs.length + ys.length ≤ sizeLine ∧
  (xs = [] → Q (.ref b) H) ∧ (xs ≠ [] → ys = [] → Q (.ref a) H) ∧ (xs ≠ [] → ys ≠ [] → ∀ p, H p = none → Q (.ref p) (upd H p (.tup (xs ++ ys))))
theorem op_cat0 : OpR X (binaryOp .Add) (rCat0 X.K) := by
  intro pins s σ H x y v u Q I rx ry h
  obtain ⟨a, b, xs, ys, rfl, rfl, ha, hb, hz, q0, q1, q2⟩ := h
  by_cases hx : xs = []
  · cases rx
    cases ry
    obtain ⟨its, r1, p1, _⟩ := I.tuple ha
    obtain ⟨its2, r2, p2, _⟩ := I.tuple hb
    have e1 : its = [] := r1.nil_iff.mpr hx
    obtain ⟨⟨cls, dd, data, sl⟩, ho, hc, n, hd⟩ := id p1
    obtain ⟨⟨cls2, dd2, data2, sl2⟩, ho2, hc2, n2, hd2⟩ := id p2
    simp only at hc hd hc2 hd2
    subst hc hd hc2 hd2
    exact concat_meets ⟨_, ho, rfl⟩ ⟨_, ho2, rfl⟩ noFill_tuple_add seq_tuple_add PySem.F.slot_tuple_add PySem.F.entry_tuple_add (PySem.F.args_tuple_add_2 _ _)
      (tuple_addW0 a b its.toArray its2.toArray n n2 dd dd2 sl sl2 (by simp [e1])) ⟨ho, ho2, ⟨.ref b, H, I, rfl, q0 hx⟩⟩
  · exact op_catT pins s σ H _ _ v u Q I rx ry ⟨a, b, xs, ys, rfl, rfl, ha, hb, hx, hz, fun z => q1 hx z, fun z => q2 hx z⟩
end
end L2
namespace L2
open PySem PySem.Spec PyProof.Rows
structure Fn (P : Program) (w : World) (K : PySem.W.Frag) (mg : Str → Option Value) (base : Heap) (x : Str) (ps : List Str) (k : Nat) (sp : Sp) : Prop where
  ex : ∃ f fd, FnOk P w K mg base CX0 k f fd ps sp ∧ mg x = some (.ref f) ∧ PySem.W.keepIn K (.ref f) = true ∧ Binds K fd ps []
theorem Fn.of {P : Program} {w : World} {K : PySem.W.Frag} {mg : Str → Option Value} {base : Heap} {x : Str} {ps : List Str} {k : Nat} {sp : Sp} {f : Addr} {fd : FuncData} (O : FnOk P w K mg base CX0 k f fd ps sp) (m : mg x = some (.ref f)) (kp : PySem.W.keepIn K (.ref f) = true) (b : Binds K fd ps []) :
    Fn P w K mg base x ps k sp := ⟨f, fd, O, m, kp, b⟩
section
variable {X : Cx} {x : Str} {ps : List Str} {k k' : Nat} {sp : Sp} {e : Expr} {es : List Expr} {t : TA} {p pos : Pos}
theorem pe_fn (F : Fn X.prog X.w X.K X.mg X.base x ps k sp) (hr : Room k' X.A) (ha : PA X (e :: es) t) (hk : k ≤ k' := by first | decide | exact Nat.le_refl _) (hg : Gl X x := by rfl) (hdb : (x == ("__debug__" : Str)) = false := by decide)
    (he : starEach (e :: es) X.env = (false, eval e X.env) :: starEach es X.env := by rfl) (hpl : (backTo pos (starEach es X.env)).any (·.1) = false := by rfl) : PE X (.Call (.Name x p) (e :: es) [] pos) (tCall sp [] E0 t) := by
  obtain ⟨f, fd, O, m, kp, b⟩ := F.ex
  exact pe_call O (hr.mono hk) hg m kp b .nil pass0 ha hdb he hpl
theorem ps_join {st : Stmt} {t : TS} (h : PS X st t) : PS X st (fun D σ H => ∃ J : St → Hp → Prop, (∀ σ' H', J σ' H' → D.nx σ' H') ∧ t { D with nx := J } σ H) := by
  intro pins s σ H D I q
  obtain ⟨J, hJ, q⟩ := q
  refine thn (h pins s σ H _ I q) fun f s1 r => ?_
  cases f with
  | next =>
    obtain ⟨σ', H', I', r⟩ := r
    exact ⟨σ', H', I', hJ _ _ r⟩
  | ret v => exact r
  | brk => exact r
  | cont => exact r
end
section
variable {X : Cx}
theorem call_len_seqK (K : PySem.W.Frag) (hK : X.K = K) : CallR X (.builtin "len") (fun xs H Q => ∃ p ys, xs = [.ref p] ∧ (SqL K H p ys ∨ SqT K H p ys) ∧ Q (.int ys.length) H) := by
  subst hK
  exact call_len_seq
end
theorem same_new {H : Hp} {p : Addr} (h : H p = none) (o : HO) : Same H (upd H p o) := fun b u q => by rw [upd_ne (ne_of_none q h)]; exact q
theorem small {n : Nat} (h : n ≤ 1000000) : n ≤ sizeLine := Nat.le_trans h (by rw [sizeLine_eq]; decide)
theorem smallL {n : Nat} (h : n ≤ 1000000) : n < sizeLine := Nat.lt_of_le_of_lt h (by rw [sizeLine_eq]; decide)
noncomputable def Scr (K : PySem.W.Frag) (H : Hp) (a : Addr) (ns : List Int) : Prop := (∃ o, H a = some (.frz o (.lst (ns.map V.int)))) ∨
  ∃ (o : Obj) (its : Array Value) (n : Nat), K.lookup a = some o ∧ o.cls = .type "list" ∧ o.dict = none ∧ o.data = .seq its n ∧ its.size ≤ sizeLine ∧ Vals (ns.map V.int) its.toList
theorem Scr.seq {K : PySem.W.Frag} {H : Hp} {a : Addr} {ns : List Int} (h : Scr K H a ns) : SqL K H a (ns.map V.int) := by
  rcases h with ⟨o, h⟩ | h
  · exact .inl (.inr ⟨o, h⟩)
  · exact .inr h
theorem Scr.of {K : PySem.W.Frag} {H : Hp} {a : Addr} {ns : List Int} (h : SqL K H a (ns.map V.int)) (o : Only H) : Scr K H a ns := by
  rcases h with (h | ⟨ob, h⟩) | h
  · rcases o a with z | ⟨ob, xs, z⟩
    · rw [z] at h; cases h
    · rw [z] at h; cases h
  · exact .inl ⟨ob, h⟩
  · exact .inr h
noncomputable abbrev zeros (k : Nat) : List V := List.replicate k (V.int 0)
noncomputable def Twn (H : Hp) (t : Addr) (k : Nat) : Prop := H t = some (.lst (zeros k))
noncomputable def Grow (t : Addr) (H H' : Hp) : Prop := ∀ b o, b ≠ t → H b = some o → H' b = some o
theorem Grow.refl (t : Addr) (H : Hp) : Grow t H H := fun _ _ _ h => h
theorem Grow.trans {t : Addr} {H H1 H2 : Hp} (a : Grow t H H1) (b : Grow t H1 H2) : Grow t H H2 := fun c o n h => b c o n (a c o n h)
theorem Grow.same {t : Addr} {H H1 : Hp} (a : Same H H1) : Grow t H H1 := fun c o _ h => a c o h
theorem Grow.upd {t : Addr} {H : Hp} (o : HO) : Grow t H (upd H t o) := fun c u n h => by rw [upd_ne n]; exact h
theorem Grow.scr {K : PySem.W.Frag} {t a : Addr} {H H' : Hp} {ns : List Int} {k : Nat} (g : Grow t H H') (tw : Twn H t k) (s : Scr K H a ns) : Scr K H' a ns := by
  rcases s with ⟨o, h⟩ | h
  · exact .inl ⟨o, g _ _ (fun z => by subst z; unfold Twn at tw; rw [tw] at h; cases h) h⟩
  · exact .inr h
theorem Grow.tup {t a : Addr} {H H' : Hp} {xs : List V} {k : Nat} (g : Grow t H H') (tw : Twn H t k) (h : H a = some (.tup xs)) : H' a = some (.tup xs) :=
  g _ _ (fun z => by subst z; unfold Twn at tw; rw [tw] at h; cases h) h
theorem Same.scr {K : PySem.W.Frag} {a : Addr} {H H' : Hp} {ns : List Int} (g : Same H H') (s : Scr K H a ns) : Scr K H' a ns := by
  rcases s with ⟨o, h⟩ | h
  · exact .inl ⟨o, g _ _ h⟩
  · exact .inr h
theorem Same.twn {t : Addr} {H H' : Hp} {k : Nat} (g : Same H H') (s : Twn H t k) : Twn H' t k := g _ _ s
noncomputable def scl : V → Bool
  | .non => true | .bl _ => true | .int _ => true | .str _ => true | _ => false
noncomputable def Eqv (H : Hp) : Nat → V → V → Prop
  | 0, _, _ => False
  | n + 1, x, y => (x = y ∧ scl x = true) ∨ ∃ a b xs ys, x = .ref a ∧ y = .ref b ∧ H a = some (.tup xs) ∧ H b = some (.tup ys) ∧ xs.length ≤ 1000000 ∧ Paired (Eqv H n) xs ys
theorem Eqv.same {H H' : Hp} (g : Same H H') : ∀ {n : Nat} {x y : V}, Eqv H n x y → Eqv H' n x y
  | 0, _, _, h => h
  | n + 1, x, y, h => by
    rcases h with h | ⟨a, b, xs, ys, e1, e2, h1, h2, hz, p⟩
    · exact .inl h
    · exact .inr ⟨a, b, xs, ys, e1, e2, g _ _ h1, g _ _ h2, hz, Paired.mapP p fun _ _ q => Eqv.same g q⟩
theorem Eqv.int {H : Hp} {n : Nat} (i : Int) : Eqv H (n + 1) (.int i) (.int i) := .inl ⟨rfl, rfl⟩
theorem eqv_ints {H : Hp} {n : Nat} : ∀ (l : List Int), Paired (Eqv H (n + 1)) (l.map V.int) (l.map V.int)
  | [] => .nil
  | i :: l => .cons (Eqv.int i) (eqv_ints l)
theorem Eqv.ints {H : Hp} {n : Nat} {a b : Addr} {l : List Int} (h1 : H a = some (.tup (l.map V.int))) (h2 : H b = some (.tup (l.map V.int))) (hz : l.length ≤ 1000000) : Eqv H (n + 2) (.ref a) (.ref b) :=
  .inr ⟨a, b, _, _, rfl, rfl, h1, h2, by rw [List.length_map]; exact hz, eqv_ints l⟩
noncomputable def lcell (ns : List Int) (k : Nat) : Int := if ns = [] then 0 else ns.getD (k % ns.length) 0
noncomputable def drw1 (ns : List Int) (k : Nat) : Int := (lcell ns k + 104729 * (k : Int)) % 4294967291
noncomputable def drw2 (ns : List Int) (k : Nat) : Int := drw1 ns k * drw1 ns k % 4294967279 * 48271 % 4294967291
noncomputable def drw3 (ns : List Int) (k : Nat) : Int := drw2 ns k * drw2 ns k % 4294967279 * 69621 % 4294967291
noncomputable def drw (ns : List Int) (k : Nat) (m : Int) : Int := (drw2 ns k / 64 * 67108864 + drw3 ns k / 64) % m
theorem drw_nn (ns : List Int) (k : Nat) {m : Int} (h : 0 < m) : 0 ≤ drw ns k m := Int.emod_nonneg _ (by omega)
theorem drw_lt (ns : List Int) (k : Nat) {m : Int} (h : 0 < m) : drw ns k m < m := Int.emod_lt_of_pos _ h
noncomputable def spDraw (K : PySem.W.Frag) : Sp := fun vs H Q _ => ∃ (a t : Addr) (ns : List Int) (k : Nat) (m : Int), vs = [.ref a, .ref t, .int m] ∧ Scr K H a ns ∧ ns.length ≤ 63 ∧ Twn H t k ∧ k ≤ 900000 ∧ 0 < m ∧
  ∀ H', Grow t H H' → Twn H' t (k + 1) → Q (.int (drw ns (k + 1) m)) H'
noncomputable def spLaw (K : PySem.W.Frag) : Sp := fun vs H Q _ => ∃ (a : Addr) (ns : List Int), vs = [.ref a] ∧ Scr K H a ns ∧ ns.length ≤ 63 ∧ ∀ H', Q (.bl true) H'
end L2
set_option maxRecDepth 100000
namespace L2
open PySem
noncomputable def Tr (B h : Heap) (e : Addr) (cls c fl : Value) : Prop :=
  ∃ oe vs T oT ts, h.get? e = some oe ∧ oe.cls = cls ∧ oe.data = .fields vs ∧ vs[2]? = some c ∧ vs[1]? = some (.ref T) ∧ B.get? T = none ∧ T ≠ e ∧ h.get? T = some oT ∧ oT.data = .fields ts ∧ ts[3]? = some fl
noncomputable def Fl (B : Heap) (l : List Env) (e : Addr) (cls c fl : Value) (h : Heap) : Prop :=
  B.StaysIn h ∧ B.get? e = none ∧ h.FunFrames B l ∧ Tr B h e cls c fl
theorem Fl.rest {B h : Heap} {env : Env} {outer : List Env} {e : Addr} {cls c fl : Value} (x : Fl B (env :: outer) e cls c fl h) : Fl B outer e cls c fl h := by
  obtain ⟨x1, x2, ⟨_, _, x3⟩, x4⟩ := x
  exact ⟨x1, x2, x3, x4⟩
section
variable {M : Model} {A : Around} {E : Value → Shared → Prop} {s : Shared} {B : Heap} {env : Env} {outer : List Env} {L e : Addr} {oe : Obj} {vs : Array Value} {cls c : Value} {Q : Unit → Shared → Prop}
theorem fl_entry {head : Value} {nx : Bool} (fA : A.frames = some (env :: outer)) (fF : s.heap.FunFrames B (env :: outer)) (fL : env.frame = some L) (e1 : s.heap.get? e = some oe) (sB : B.StaysIn s.heap) (eB : B.get? e = none) (ed : oe.data = .fields vs) (ec : vs[2]? = some c)
    (q : ∀ g, Fl B (env :: outer) e oe.cls c (rawInt L) g → s.heap.UpToSlots g → Q () { s with heap := g }) :
    wpAny M A (do let a ← frameOf env; let pl ← entryPlaceOf L nx; let b ← EntryCells.newEntry head a .none (rawInt L) .none pl; setField (.ref e) 1 b) Q E s := by
  have ez : 2 < vs.size := (Array.getElem?_eq_some_iff.mp ec).1
  have notF : ∀ b o ws, s.heap.get? b = some o → o.data = .fields ws → b ∉ (env :: outer).filterMap (·.frame) := fun b o ws e2 e3 y => by
    obtain ⟨_, o', e4, n4⟩ := fF.mem y
    rw [e2] at e4; cases e4; exact n4 ws e3
  refine wpAny_bind (wpAny_frameOf_fun fA fF fL fun g1 sl => wpAny_bind (wpAny_entryPlaceOf fun pl hpl => ?_))
  unfold EntryCells.newEntry newFields
  refine wpAny_bind (wpAny_newObj_type ?_ (hpl.sizeOk5 _ _ _ _ _))
  have tb : ∃ ts, (.fields ([head, .ref L, .none, rawInt L, .none] ++ (if pl.isEmpty then List.replicate 6 Value.none else pl)).toArray : Data) = .fields ts ∧ ts[3]? = some (rawInt L) := ⟨_, rfl, by simp⟩
  generalize (Data.fields ([head, .ref L, .none, rawInt L, .none] ++ (if pl.isEmpty then List.replicate 6 Value.none else pl)).toArray) = da at tb ⊢
  obtain ⟨ts, rfl, t3⟩ := tb
  have g1e : g1.get? e = some oe := (sl.2.1 e (notF e oe vs e1 ed)).trans e1
  have ob := Heap.get?_push_of_some (h := g1) { cls := .type "traceback", dict := none, data := .fields ts } g1e
  have ob2 := Heap.get?_push_size g1 (o := { cls := .type "traceback", dict := none, data := .fields ts }) rfl
  refine wpAny_setField ob ed (by omega) (q _ ?_ ?_)
  all_goals
    have far : g1.objs.size ≠ e := Nat.ne_of_gt (Heap.lt_size g1e)
    have kp : ∀ b o, b ≠ e → g1.get? b = some o → ((g1.push { cls := .type "traceback", dict := none, data := .fields ts }).update e (Obj.mapFields (·.setIfInBounds 1 (Value.ref g1.objs.size)))).get? b = some o := fun b o n y =>
      (Heap.get?_update_other _ _ (Ne.symm n)).trans (Heap.get?_push_of_some _ y)
    have rec0 : ∀ b o, s.heap.get? b = some o → (∀ ws, o.data ≠ .fields ws) → b ≠ e := fun b o y n z => by
      subst z; rw [e1] at y; cases y; exact n vs ed
  · have inB : ∀ b o, B.get? b = some o → g1.get? b = some o := fun b o y => (sl.2.1 b fun z => by rw [(fF.mem z).1] at y; cases y).trans (sB b o y)
    have ed2 := Obj.data_mapFields ed (·.setIfInBounds 1 (Value.ref g1.objs.size))
    refine ⟨fun b o y => kp b o (fun z => by subst z; rw [eB] at y; cases y) (inB b o y), eB, fF.of_keeps fun b o y n => ?_, _, _, g1.objs.size, _, ts, Heap.get?_update_self _ ob (Obj.isFreed_of_fields ed2), Obj.cls_mapFields _ _, ed2, ?_, ?_, ?_, far, (Heap.get?_update_other _ _ (Ne.symm far)).trans ob2, rfl, t3⟩
    · obtain ⟨sl2, y2⟩ := sl.2.2 b o y
      exact ⟨_, kp b _ (rec0 b o y n) y2, rfl⟩
    · rw [Array.getElem?_setIfInBounds_ne (by decide)]; exact ec
    · simp [show 1 < vs.size by omega]
    · cases y : B.get? g1.objs.size with
      | none => rfl
      | some o => exact absurd (Heap.lt_size (inB _ _ y)) (Nat.lt_irrefl _)
  · intro b o y n
    obtain ⟨sl2, y2⟩ := sl.2.2 b o y
    exact ⟨sl2, kp b _ (rec0 b o y n) y2⟩
theorem fl_new (fA : A.frames = some (env :: outer)) (fF : s.heap.FunFrames B (env :: outer)) (fL : env.frame = some L) (e1 : s.heap.get? e = some oe) (sB : B.StaysIn s.heap) (eB : B.get? e = none) (ed : oe.data = .fields vs) (ec : vs[2]? = some c) (et : vs[1]? = some .none)
    (q : ∀ g, Fl B (env :: outer) e oe.cls c (rawInt L) g → s.heap.UpToSlots g → Q () { s with heap := g }) : wpAny M A (noteFrame (.ref e) env) Q E s := by
  unfold noteFrame
  simp only [fL]
  refine wpAny_bind (wpAny_field e1 ed et ?_)
  rw [if_neg (by decide)]
  exact fl_entry fA fF fL e1 sB eB ed ec q
theorem fl_note (fA : A.frames = some (env :: outer)) (fL : env.frame = some L) (x : Fl B (env :: outer) e cls c .none s.heap)
    (q : ∀ g, Fl B (env :: outer) e cls c (rawInt L) g → s.heap.UpToSlots g → Q () { s with heap := g }) : wpAny M A (noteFrame (.ref e) env) Q E s := by
  obtain ⟨sB, eB, fF, oe, vs, T, oT, ts, e1, rfl, ed, ec, et, tB, tn, t1, td, t3⟩ := x
  unfold noteFrame
  simp only [fL]
  refine wpAny_bind (wpAny_field e1 ed et ?_)
  rw [if_pos (show (Value.ref T != Value.none) = true by simp)]
  refine wpAny_bind (wpAny_field t1 td t3 ?_)
  rw [if_neg (show ¬ ((Value.none == rawInt L) = true) by simp [rawInt])]
  refine wpAny_bind (wpAny_setField t1 td (Array.getElem?_eq_some_iff.mp t3).1 ?_)
  have oth : ∀ b, b ≠ T → (s.heap.update T (Obj.mapFields (·.setIfInBounds 3 Value.none))).get? b = s.heap.get? b := fun b n => Heap.get?_update_other _ _ (Ne.symm n)
  have rec0 : ∀ b o, s.heap.get? b = some o → (∀ ws, o.data ≠ .fields ws) → b ≠ T := fun b o y n z => by
    subst z; rw [t1] at y; cases y; exact n ts td
  refine fl_entry (s := { s with heap := s.heap.update T (Obj.mapFields (·.setIfInBounds 3 Value.none)) }) fA (fF.of_keeps fun b o y n => ⟨o, (oth b (rec0 b o y n)).trans y, rfl⟩) fL ((oth e (Ne.symm tn)).trans e1) (fun b o y => (oth b fun z => by subst z; rw [tB] at y; cases y).trans (sB b o y)) eB ed ec
    fun g y1 y2 => q g y1 fun b o z n => y2 b o ((oth b (rec0 b o z n)).trans z) n
theorem fl_land {l : List Env} {fl : Value} (x : Fl B l e cls c fl s.heap) (q : ∀ g, Fl B l e cls c .none g → s.heap.UpToSlots g → Q () { s with heap := g }) : wpAny M A (setFlight (.ref e) none) Q E s := by
  obtain ⟨sB, eB, fF, oe, vs, T, oT, ts, e1, ek, ed, ec, et, tB, tn, t1, td, t3⟩ := x
  have z3 : 3 < ts.size := (Array.getElem?_eq_some_iff.mp t3).1
  have oth : ∀ b, b ≠ T → (s.heap.update T (Obj.mapFields (·.setIfInBounds 3 ((none : Option Addr).elim Value.none fun f => rawInt f)))).get? b = s.heap.get? b := fun b n => Heap.get?_update_other _ _ (Ne.symm n)
  have rec0 : ∀ b o, s.heap.get? b = some o → (∀ ws, o.data ≠ .fields ws) → b ≠ T := fun b o y n z => by
    subst z; rw [t1] at y; cases y; exact n ts td
  unfold setFlight
  refine wpAny_bind (wpAny_field e1 ed et ?_)
  rw [if_pos (show (Value.ref T != Value.none) = true by simp)]
  refine wpAny_setField t1 td z3 (q _ ⟨fun b o y => (oth b fun z => by subst z; rw [tB] at y; cases y).trans (sB b o y), eB, fF.of_keeps fun b o y n => ⟨o, (oth b (rec0 b o y n)).trans y, rfl⟩, oe, vs, T, _, _, (oth e (Ne.symm tn)).trans e1, ek, ed, ec, et, tB, tn, Heap.get?_update_self _ t1 (Obj.isFreed_of_fields (Obj.data_mapFields td _)), Obj.data_mapFields td _, ?_⟩ fun b o y n => ⟨o.slots, (oth b (rec0 b o y n)).trans y⟩)
  simp [z3]
theorem fl_leave (fA : A.frames = some (env :: outer)) (fL : env.frame = some L) (x : Fl B (env :: outer) e cls c .none s.heap)
    (q : ∀ g, Fl B outer e cls c .none g → s.heap.UpToSlots g → Q () { s with heap := g }) : wpAny M A (leaving env (.ref e)) Q E s := by
  unfold leaving
  exact wpAny_bind (fl_note fA fL x fun g1 y1 u1 => fl_land (s := { s with heap := g1 }) y1 fun g2 y2 u2 => q g2 y2.rest (u1.trans u2))
theorem fl_leaveNew (fA : A.frames = some (env :: outer)) (fF : s.heap.FunFrames B (env :: outer)) (fL : env.frame = some L) (e1 : s.heap.get? e = some oe) (sB : B.StaysIn s.heap) (eB : B.get? e = none) (ed : oe.data = .fields vs) (ec : vs[2]? = some c) (et : vs[1]? = some .none)
    (q : ∀ g, Fl B outer e oe.cls c .none g → s.heap.UpToSlots g → Q () { s with heap := g }) : wpAny M A (leaving env (.ref e)) Q E s := by
  unfold leaving
  exact wpAny_bind (fl_new fA fF fL e1 sB eB ed ec et fun g1 y1 u1 => fl_land (s := { s with heap := g1 }) y1 fun g2 y2 u2 => q g2 y2.rest (u1.trans u2))
end
end L2
namespace L2
open PySem
inductive Reach (h : Heap) : Value → Value → Prop
  | refl (v : Value) : Reach h v v
  | step {a : Addr} {o : Obj} {vs : Array Value} {v u : Value} : h.get? a = some o → o.data = .fields vs → vs[2]? = some v → Reach h v u → Reach h (.ref a) u
theorem Reach.snoc {h : Heap} {u : Value} {b : Addr} {o : Obj} {vs : Array Value} {v : Value} (x : Reach h u (.ref b)) (e1 : h.get? b = some o) (e2 : o.data = .fields vs) (e3 : vs[2]? = some v) : Reach h u v := by
  generalize hz : Value.ref b = z at x
  induction x with
  | refl y => subst hz; exact .step e1 e2 e3 (.refl _)
  | step a1 a2 a3 _ ih => exact .step a1 a2 a3 (ih hz)
noncomputable def Chain (h : Heap) (F : Addr → Prop) : Nat → Value → Prop
  | 0, v => v = .none
  | n + 1, v => v = .none ∨ ∃ a o vs c, v = .ref a ∧ h.get? a = some o ∧ F a ∧ o.data = .fields vs ∧ vs[2]? = some c ∧ Chain h F n c
theorem Chain.imp {h g : Heap} {F G : Addr → Prop} (k : ∀ a o vs, F a → h.get? a = some o → o.data = .fields vs → g.get? a = some o ∧ G a) : ∀ {n : Nat} {v : Value}, Chain h F n v → Chain g G n v
  | 0, _, x => x
  | n + 1, _, x => by
    rcases x with x | ⟨a, o, vs, c, e1, e2, e3, e4, e5, r⟩
    · exact .inl x
    · exact .inr ⟨a, o, vs, c, e1, (k a o vs e3 e2 e4).1, (k a o vs e3 e2 e4).2, e4, e5, Chain.imp k r⟩
noncomputable def ChainP (ps : List (Addr × Obj)) : Nat → Value → Prop
  | 0, v => v = .none
  | n + 1, v => v = .none ∨ ∃ a o vs c, v = .ref a ∧ (a, o) ∈ ps ∧ o.data = .fields vs ∧ vs[2]? = some c ∧ ChainP ps n c
theorem ChainP.more {ps qs : List (Addr × Obj)} (k : ∀ p ∈ ps, p ∈ qs) : ∀ {n : Nat} {v : Value}, ChainP ps n v → ChainP qs n v
  | 0, _, x => x
  | n + 1, _, x => by
    rcases x with x | ⟨a, o, vs, c, e1, e2, e4, e5, r⟩
    · exact .inl x
    · exact .inr ⟨a, o, vs, c, e1, k _ e2, e4, e5, ChainP.more k r⟩
theorem ChainP.chain {h : Heap} {F : Addr → Prop} {ps : List (Addr × Obj)} (k : ∀ p ∈ ps, h.get? p.1 = some p.2 ∧ F p.1) : ∀ {n : Nat} {v : Value}, ChainP ps n v → Chain h F n v
  | 0, _, x => x
  | n + 1, _, x => by
    rcases x with x | ⟨a, o, vs, c, e1, e2, e4, e5, r⟩
    · exact .inl x
    · exact .inr ⟨a, o, vs, c, e1, (k _ e2).1, (k _ e2).2, e4, e5, ChainP.chain k r⟩
theorem Chain.pins {h : Heap} {F : Addr → Prop} : ∀ {n : Nat} {v : Value}, Chain h F n v → ∃ ps : List (Addr × Obj), (∀ p ∈ ps, h.get? p.1 = some p.2 ∧ F p.1 ∧ ∃ vs, p.2.data = .fields vs) ∧ ChainP ps n v
  | 0, _, x => ⟨[], fun _ y => absurd y (by simp), x⟩
  | n + 1, _, x => by
    rcases x with x | ⟨a, o, vs, c, e1, e2, e3, e4, e5, r⟩
    · exact ⟨[], fun _ y => absurd y (by simp), .inl x⟩
    · obtain ⟨ps, k, r⟩ := Chain.pins r
      refine ⟨(a, o) :: ps, fun p y => ?_, .inr ⟨a, o, vs, c, e1, List.mem_cons_self, e4, e5, r.more fun p y => List.mem_cons_of_mem _ y⟩⟩
      rcases List.mem_cons.mp y with rfl | y
      · exact ⟨e2, e3, vs, e4⟩
      · exact k p y
theorem entry_unchain : entryFor table "proto.unchain" = some Builtin.«proto.unchain» := entryFor_of_tree (by kernel_rfl)
section
variable {prog : Program} {w : World}
theorem unchain_ok {e : Addr} : ∀ (n : Nat) {A : Around} {R : Result → Shared → Prop} {s : Shared} {o : Addr} {oo : Obj} {vs : Array Value} {c slow : Value} {tg : Bool}, s.heap.get? o = some oo → oo.data = .fields vs → vs[2]? = some c → Chain s.heap (· ≠ e) n c → Reach s.heap slow (.ref o) →
    R (.ok (.ret .none)) s → codeAny (model prog w) A (.builtin "proto.unchain" ⟨[.ref e, .ref o, slow, .bool tg], []⟩) R s := by
  intro n
  induction n with
  | zero =>
    intro A R s o oo vs c slow tg e1 e2 e3 ch rc q
    obtain rfl : c = .none := ch
    refine codeAny_builtin entry_unchain ?_
    unfold Builtin.«proto.unchain»
    refine wpAny_bind (wpAny_field e1 e2 e3 ?_)
    rw [if_pos (by simp)]
    exact wpAny_pure q
  | succ n ih =>
    intro A R s o oo vs c slow tg e1 e2 e3 ch rc q
    refine codeAny_builtin entry_unchain ?_
    unfold Builtin.«proto.unchain»
    refine wpAny_bind (wpAny_field e1 e2 e3 ?_)
    rcases ch with rfl | ⟨a, oa, ws, d, rfl, a1, a2, a3, a4, r⟩
    · rw [if_pos (by simp)]
      exact wpAny_pure q
    rw [if_neg (by simp), if_neg (by simpa using a2)]
    by_cases hs : (Value.ref a == slow) = true
    · rw [if_pos hs]
      exact wpAny_bind (wpAny_rule (wpAny_pure q))
    rw [if_neg hs]
    have rc2 : Reach s.heap slow (.ref a) := rc.snoc e1 e2 e3
    cases tg with
    | false => exact wpAny_bind (wpAny_pure (wpAny_pure ⟨Code.quiet_builtin _ (by decide +kernel), ih a1 a3 a4 r rc2 q⟩))
    | true =>
      cases rc2 with
      | refl => exact absurd (by simp) hs
      | step b1 b2 b3 rc3 => exact wpAny_bind (wpAny_field b1 b2 b3 (wpAny_pure ⟨Code.quiet_builtin _ (by decide +kernel), ih a1 a3 a4 r rc3 q⟩))
end
end L2
namespace L2
open PySem
section
variable {prog : Program} {w : World} {A : Around} {E : Value → Shared → Prop} {env : Env}
variable {nm q : Str} {C N : Addr} {bs bm bmB : List Value} {hdct : Bool} {sn : List Str} {sub : List Value} {ab : Bool} {col : Option Bool} {dd : Option Addr} {k0 k1 k2 k3 k5 : Option Value} {newId : String}
noncomputable def Behind (h : Heap) (F : Addr → Prop) (y : Addr) : Prop := ∃ n, Chain h F (n + 1) (.ref y)
theorem raiseNew_behind {α : Type} {Q : α → Shared → Prop} {s : Shared} {e y : Addr} {oe : Obj} {vs : Array Value} (hh : A.handled = some (.ref y)) (he : s.heap.get? e = some oe) (hd : oe.data = .fields vs) (hz : 2 < vs.size) (hy : Behind s.heap (· ≠ e) y)
    (hE : E (.ref e) { s with heap := s.heap.update e (Obj.mapFields (·.setIfInBounds 2 (.ref y))) }) : wpAny (model prog w) A (raiseNew (.ref e) : Sem α) Q E s := by
  obtain ⟨n, z | ⟨a, o, ws, c, z, e1, e2, e3, e4, r⟩⟩ := hy
  · cases z
  cases z
  unfold raiseNew
  refine wpAny_bind (wpAny_handled ?_)
  rw [hh]
  dsimp only
  rw [if_pos (by simpa using e2)]
  refine wpAny_bind (wpAny_holding (wpAny_runValue (unchain_ok n e1 e3 e4 r (.refl _) ?_)))
  simp only [updateField]
  refine wpAny_bind (wpAny_bind (wpAny_load he ?_))
  rw [hd]
  dsimp only
  rw [if_pos hz]
  exact wpAny_update he (wpAny_throw hE)
theorem raiseStmt_behind {s : Shared} {x z : Sem Value} {Q : Flow → Shared → Prop} {y : Addr} (hbase : bm.contains (.type "BaseException") = true) (hh : A.handled = some (.ref y)) (hz : ∀ s', wpAny (model prog w) A z (fun v s'' => v = .none ∧ s'' = s') E s')
    (h : wpAny (model prog w) A x (fun v s₁ => ∃ e t, v = .ref e ∧ s₁.heap.get? C = some (excClassObj nm q C N bs bm hdct sn sub ab col dd k0 k1 k2 k3 k5 newId) ∧
      s₁.heap.get? e = some { cls := .ref C, data := .fields #[.ref t, .none, .none, .none, .bool false, .none] } ∧ Behind s₁.heap (· ≠ e) y ∧
      ∀ g, g.get? e = some { cls := .ref C, data := .fields #[.ref t, .none, .ref y, .none, .bool true, .none] } → (∀ b, b ≠ e → g.get? b = s₁.heap.get? b) → E (.ref e) { s₁ with heap := g }) E s) :
    wpAny (model prog w) A (raiseStmt env (some x) (some z)) Q E s := by
  have hcB : (Value.ref C :: bm).contains (.type "BaseException") = true := by rw [List.contains_cons, hbase, Bool.or_true]
  unfold raiseStmt
  refine wpAny_bind (wpAny_mono h (fun v s₁ h₁ => ?_) fun _ _ u => u)
  obtain ⟨e, t, rfl, hC, he, hy, hE⟩ := h₁
  refine wpAny_bind (wpAny_holding (wpAny_mono (hz s₁) (fun v s₂ h₂ => ?_) fun _ _ u => u))
  obtain ⟨rfl, rfl⟩ := h₂
  refine wpAny_bind (wpAny_pure ?_)
  obtain ⟨hp, g, d, tk, os⟩ := s₂
  have hne : C ≠ e := fun u => by rw [u] at hC; have hw := hC.symm.trans he; injection hw with hw; injection hw with _ _ hw; cases hw
  have he2 : ((hp.update e (Obj.mapFields (·.setIfInBounds 3 Value.none))).update e (Obj.mapFields (·.setIfInBounds 4 (Value.bool true)))).get? e = some { cls := .ref C, data := .fields #[.ref t, .none, .none, .none, .bool true, .none] } :=
    Heap.get?_update_self _ (Heap.get?_update_self _ he rfl) rfl
  have ot2 : ∀ b, b ≠ e → ((hp.update e (Obj.mapFields (·.setIfInBounds 3 Value.none))).update e (Obj.mapFields (·.setIfInBounds 4 (Value.bool true)))).get? b = hp.get? b := fun b n =>
    (Heap.get?_update_other _ _ (Ne.symm n)).trans (Heap.get?_update_other _ _ (Ne.symm n))
  have hC2 := (ot2 C hne).trans hC
  repeat (first | with_reducible refine wpAny_loadPart_at he2 ?_ | with_reducible refine wpAny_loadPart_at hC2 ?_ | with_reducible refine wpAny_loadPart_at he ?_ | with_reducible refine wpAny_loadPart_at hC ?_ | (with_reducible refine wpAny_isSubtype_exc hC ?_; rw [hcB]) | wp_step)
  refine raiseNew_behind hh he2 rfl (by show 2 < 6; decide) ?_ (hE _ (Heap.get?_update_self _ he2 rfl) fun b n => (Heap.get?_update_other _ _ (Ne.symm n)).trans (ot2 b n))
  obtain ⟨n, hy⟩ := hy
  exact ⟨n, hy.imp fun a o _ na ea _ => ⟨(ot2 a na).trans ea, na⟩⟩
end
end L2
namespace L2
open PySem
section
variable {prog : Program} {w : World} {A : Around} {E : Value → Shared → Prop} {s : Shared} {env : Env}
variable {nm q : Str} {C N : Addr} {bs bm bmB : List Value} {hdct : Bool} {sn : List Str} {sub : List Value} {ab : Bool} {col : Option Bool} {dd : Option Addr} {k0 k1 k2 k3 k5 : Option Value} {T newId initId : String}
theorem Raise_behind (F : ExcBaseFacts T newId initId bmB) {mN : Str → Option Value} {x : Str} {np cpos pos p2 : Pos} {j : Nat} {args : List Expr} {Q : Flow → Shared → Prop} {y : Addr} (hb : bm.contains (.type "BaseException") = true) (hh : A.handled = some (.ref y))
    (hp : (backTo cpos (starEach args env)).any (·.1) = false) (hi : mN "__init__" = none)
    (h : wpAny (model prog w) A (eval (.Name x np) env) (fun f s₁ => f = .ref C ∧ wpAny (model prog w) A (evalArgs (.ref C) true (backTo cpos (starEach args env)) [])
      (fun a s₂ => a.kw = [] ∧ a.pos.length ≤ sizeLine ∧ s₂.heap.get? C = some (excClassObj nm q C N bs bm hdct sn sub ab col dd k0 k1 k2 k3 k5 newId) ∧ s₂.heap.Ns N mN ∧ OwnTail s₂.heap bmB bm ∧
        ∀ h' e, Heap.MadeExcOf s₂.heap h' e (.ref C) a.pos → Behind h' (· ≠ e) y ∧ ∀ g t, g.get? e = some { cls := .ref C, data := .fields #[.ref t, .none, .ref y, .none, .bool true, .none] } → (∀ b, b ≠ e → g.get? b = h'.get? b) → E (.ref e) { s₂ with heap := g }) E s₁) E s) :
    wpAny (model prog w) A (exec (.Raise (some (.Call (.Name x np) args [] cpos)) (some (.Constant .none j p2)) pos) env) Q E s := by
  rw [arm_exec_Raise]
  refine wpAny_bind (wpAny_standAt (raiseStmt_behind (C := C) (N := N) (nm := nm) (q := q) (bs := bs) (bm := bm) (sn := sn) (sub := sub) (hdct := hdct) (ab := ab) (col := col) (dd := dd) (k0 := k0) (k1 := k1) (k2 := k2) (k3 := k3) (k5 := k5) (newId := newId) (y := y) hb hh (fun s' => ?_) ?_))
  · exact wpAny_bind (wpAny_Constant_none (wpAny_bind (wpAny_standAt (wpAny_pure ⟨rfl, rfl⟩))))
  refine wpAny_bind (wpAny_mono (wpAny_Call_ofName (wpAny_mono h (fun f s₁ z1 => ?_) fun _ _ u => u)) (fun v s₃ z3 => wpAny_bind (wpAny_standAt (wpAny_pure z3))) fun _ _ u => u)
  obtain ⟨rfl, z1⟩ := z1
  unfold callWith
  refine wpAny_bind (wpAny_holding (wpAny_mono z1 (fun a s₂ z2 => wpAny_bind (wpAny_standAt ?_)) fun _ _ u => u))
  obtain ⟨ap, ak⟩ := a
  obtain ⟨ek, hl, hC, hn, ht, z2⟩ := z2
  obtain rfl : ak = [] := ek
  obtain ⟨hp2, g, d, tk, os⟩ := s₂
  simp only [hp]
  refine wpAny_bind (wpAny_keeperOf_exc hC ?_)
  refine wpAny_bind (wpAny_call_exc_subT (hrest := hl) F ht hC hn hi fun h' e hm => wpAny_bind (wpAny_holding (wpAny_point (wpAny_pure ?_))))
  obtain ⟨t, e1, _, _⟩ := hm.there
  exact ⟨e, t, rfl, hm.keeps _ _ hC, e1, (z2 h' e hm).1, fun g y1 y2 => (z2 h' e hm).2 g t y1 y2⟩
end
end L2
namespace L2
open PySem PySem.Spec PyProof.Rows
theorem hok_none {P : Program} {w : World} {H : Hp} {h : Heap} {a : Addr} (x : HOk P w H h) (e : h.get? a = none) : H a = none := by
  cases q : H a with
  | none => rfl
  | some o =>
    have y := x a o q
    have : ∃ ob, h.get? a = some ob := by
      cases o with
      | lst xs => obtain ⟨_, _, _, _, e⟩ := y; exact ⟨_, e⟩
      | tup xs => obtain ⟨_, _, _, ⟨_, e, _⟩, _⟩ := y; exact ⟨_, e⟩
      | dK kvs => obtain ⟨_, _, _, _, o, _, _, e, _⟩ := y; exact ⟨_, e⟩
      | dT kvs => obtain ⟨_, _, _, _, o, _, _, e, _⟩ := y; exact ⟨_, e⟩
      | set S n => obtain ⟨o, _, _, _, e, _⟩ := y; exact ⟨_, e⟩
      | ins C dx fs => obtain ⟨_, _, _, e, _⟩ := y; exact ⟨_, e⟩
      | own y => obtain ⟨_, e⟩ := y; exact ⟨_, e⟩
      | xd fs => obtain ⟨_, ⟨_, _, _, e, _⟩, _⟩ := y; exact ⟨_, e⟩
      | rng lo hi => obtain ⟨_, _, _, e⟩ := y; exact ⟨_, e⟩
      | frz ob u => obtain ⟨e, _⟩ := y; exact ⟨_, e⟩
      | tbl ps => exact ⟨_, show h.get? a = some _ from y⟩
      | met f z => exact ⟨_, show h.get? a = some _ from y⟩
      | ext φ => obtain ⟨_, ⟨_, e⟩, _⟩ := y; exact ⟨_, e⟩
    obtain ⟨ob, z⟩ := this
    rw [e] at z; cases z
structure Flown (P : Program) (w : World) (outer : List Env) (H : Hp) (s : Shared) (x C : Addr) (c : Value) (B : Heap) (H' : Hp) (s' : Shared) : Prop where
  fly : Fl B outer x (.ref C) c .none s'.heap
  os : s'.os = s.os
  bare : AllBare s'.gens
  k1 : ∀ b o, s.heap.get? b = some o → H b = none → b ∉ frs outer → B.get? b = some o
  k2 : ∀ b o, s.heap.get? b = some o → H b = none → b ∈ frs outer → ∃ sl, s'.heap.get? b = some { o with slots := sl }
  k3 : ∀ b o, s.heap.get? b = some o → b ∉ frs outer → ∃ o', B.get? b = some o'
  free : ∀ b o, s.heap.get? b = some o → H b = none → H' b = none
  tups : ∀ b xs, H b = some (.tup xs) → H' b = some (.tup xs)
  frzs : ∀ b o u, H b = some (.frz o u) → H' b = some (.frz o u)
  tbls : ∀ b ps, H b = some (.tbl ps) → ∃ more, H' b = some (.tbl (ps ++ more))
  hok : HOk P w H' B
  new : H' x = none
  ch : ∃ n, Chain B (fun a => H' a = none) n c
noncomputable def CXR (P : Program) (w : World) : CXT := fun outer H s E e s' => ∃ (x C : Addr) (c : Value) (B : Heap) (H' : Hp), e = .ref x ∧ Flown P w outer H s x C c B H' s' ∧ E (.ref C) none H'
theorem Flown.un {P : Program} {w : World} {outer : List Env} {H : Hp} {s : Shared} {x C : Addr} {c : Value} {B : Heap} {H' : Hp} {s' : Shared} (F : Flown P w outer H s x C c B H' s') {h : Heap} (st : B.StaysIn h) (up : s'.heap.UpToSlots h) : Un (frs outer) [] H H' s.heap h := by
  have nf : ∀ b ∈ frs outer, ∀ o, s'.heap.get? b = some o → ∀ vs, o.data ≠ .fields vs := fun b hb o e => by
    obtain ⟨_, o', ho', n'⟩ := F.fly.2.2.1.mem hb
    rw [e] at ho'; cases ho'; exact n'
  refine ⟨fun b o e n hb _ => st b o (F.k1 b o e n hb), fun b o e n hb _ => ?_, fun b o e n _ => F.free b o e n, fun b o e _ => ?_, F.tups, F.frzs, F.tbls⟩
  · obtain ⟨sl, q⟩ := F.k2 b o e n hb
    obtain ⟨sl', q'⟩ := up b _ q (nf b hb _ q)
    exact ⟨sl', q'⟩
  · by_cases hb : b ∈ frs outer
    · obtain ⟨_, o', ho', n'⟩ := F.fly.2.2.1.mem hb
      obtain ⟨sl', q'⟩ := up b _ ho' n'
      exact ⟨_, q'⟩
    · obtain ⟨o', q⟩ := F.k3 b o e hb
      exact ⟨o', st b o' q⟩
section
variable {P : Program} {w : World} {K : PySem.W.Frag} {mg : Str → Option Value} {base : Heap} {N : List Str} {qual : Str} {scope : Scope} {f : Addr} {cd : Value} {A : Around} {outer : List Env} {s : Shared} {H : Hp} {E : XK}
theorem frs_cons {env : Env} {l : List Env} {b : Addr} (h : b ∈ frs l) : b ∈ frs (env :: l) := by
  unfold frs at h ⊢
  obtain ⟨e, he, hf⟩ := List.mem_filterMap.mp h
  exact List.mem_filterMap.mpr ⟨e, List.mem_cons_of_mem _ he, hf⟩
theorem cx_raise {pins : List (Addr × Obj)} {σ : St} {H1 : Hp} {s1 : Shared} {g : Heap} {x C : Addr} {oe : Obj} {vs : Array Value} {c : Value} (I : Inv (cxOf (CXR P w) P w K mg base N qual scope f cd A outer s H E) pins σ H1 s1)
    (kp : ∀ b o, s1.heap.get? b = some o → g.get? b = some o) (xn : s1.heap.get? x = none) (xg : g.get? x = some oe) (xk : oe.cls = .ref C) (xd : oe.data = .fields vs) (x1 : vs[1]? = some .none) (x2 : vs[2]? = some c) (xh : ∃ n, Chain s1.heap (fun a => H1 a = none) n c)
    (q : E (.ref C) none H1) : (cxOf (CXR P w) P w K mg base N qual scope f cd A outer s H E).xe (.ref x) { s1 with heap := g } := by
  have notF : ∀ b o, s.heap.get? b = some o → b ∉ frs outer → b ∉ frs (envOfC qual scope s.heap.objs.size f cd :: outer) := fun b o e hb z => by
    rcases List.mem_cons.mp (I.stkSub b z) with y | y
    · exact absurd (Heap.lt_size e) (by rw [y]; exact Nat.lt_irrefl _)
    · exact hb y
  have noex : ∀ b : Addr, b ∉ (cxOf (CXR P w) P w K mg base N qual scope f cd A outer s H E).ex := fun b z => absurd (show b ∈ ([] : List Addr) from z) (by simp)
  have fF : s1.heap.FunFrames (PySem.W.hideAll s1.heap (frs (envOfC qual scope s.heap.objs.size f cd :: outer))) (envOfC qual scope s.heap.objs.size f cd :: outer) :=
    PySem.W.funFrames_hide I.stack fun env he a ha => List.mem_filterMap.mpr ⟨env, he, ha⟩
  have notR : ∀ b o ws, s1.heap.get? b = some o → o.data = .fields ws → b ∉ frs (envOfC qual scope s.heap.objs.size f cd :: outer) := fun b o ws e2 e3 y => by
    obtain ⟨_, o', e4, n4⟩ := fF.mem y
    rw [e2] at e4; cases e4; exact n4 ws e3
  have nB : (PySem.W.hideAll s1.heap (frs (envOfC qual scope s.heap.objs.size f cd :: outer))).get? x = none := by
    cases z : (PySem.W.hideAll s1.heap (frs (envOfC qual scope s.heap.objs.size f cd :: outer))).get? x with
    | none => rfl
    | some o =>
      have z2 := PySem.W.of_hideAll _ z
      rw [xn] at z2; cases z2
  obtain ⟨n, xh⟩ := xh
  refine fl_leaveNew (s := { s1 with heap := g }) (B := PySem.W.hideAll s1.heap (frs (envOfC qual scope s.heap.objs.size f cd :: outer))) (outer := outer) (L := s.heap.objs.size) I.ok.frames (fF.of_keeps fun b o y _ => ⟨o, kp b o y, rfl⟩) rfl xg (fun b o z => kp b o (PySem.W.of_hideAll _ z)) nB xd x2 x1
    fun g2 fl up => ⟨x, C, c, _, H1, rfl, ⟨xk ▸ fl, I.os, I.bare, fun b o e n hb => ?_, fun b o e n hb => ?_, fun b o e hb => ?_, fun b o e n => I.base.free b o e n (noex b), I.base.tups, I.base.frzs, I.base.tbls, fun b u e => ?_, hok_none I.hok xn, n, xh.imp fun a o ws na ea da => ⟨PySem.W.hideAll_get _ ea (notR a o ws ea da), na⟩⟩, q⟩
  · exact PySem.W.hideAll_get _ (I.base.keep b o e n hb (noex b)) (notF b o e hb)
  · obtain ⟨sl, z⟩ := I.base.slot b o e n hb (noex b)
    obtain ⟨_, o', ho', nf⟩ := I.funs.mem hb
    rw [z] at ho'; cases ho'
    obtain ⟨sl', z'⟩ := up b _ (kp _ _ z) nf
    exact ⟨sl', z'⟩
  · obtain ⟨o', z⟩ := I.base.there b o e (noex b)
    exact ⟨o', PySem.W.hideAll_get _ z (notF b o e hb)⟩
  · have nfr : ∀ c v, H1 c = some v → c ∉ frs (envOfC qual scope s.heap.objs.size f cd :: outer) := fun c v e z => by
      rw [I.stkFree c z] at e; cases e
    refine (show ObjOk P w H1 s1.heap b u from I.hok b u e).stay (fun c v hc z => PySem.W.hideAll_get _ z ?_) (fun _ z => z) fun _ _ z => z
    rcases hc with y | y
    · rw [y]; exact nfr b u e
    · exact nfr c _ y
theorem cx_pass : Passes (CXR P w) (cxOf (CXR P w) P w K mg base N qual scope f cd A outer s H E) E := by
  intro pins σ H1 s1 e s' I h
  obtain ⟨x, C, c, B, H', rfl, F, q⟩ := h
  have noex : ∀ b : Addr, b ∉ (cxOf (CXR P w) P w K mg base N qual scope f cd A outer s H E).ex := fun b z => absurd (show b ∈ ([] : List Addr) from z) (by simp)
  have notF : ∀ b o, s.heap.get? b = some o → b ∉ frs outer → b ∉ frs (envOfC qual scope s.heap.objs.size f cd :: outer) := fun b o e hb z => by
    rcases List.mem_cons.mp (I.stkSub b z) with y | y
    · exact absurd (Heap.lt_size e) (by rw [y]; exact Nat.lt_irrefl _)
    · exact hb y
  refine fl_leave (outer := outer) (L := s.heap.objs.size) I.ok.frames rfl F.fly fun h'' fl up => ⟨x, C, c, B, H', rfl, ⟨fl, F.os.trans I.os, F.bare, fun b o e n hb => ?_, fun b o e n hb => ?_, fun b o e hb => ?_, fun b o e n => ?_, fun b xs e => F.tups b xs (I.base.tups b xs e), fun b o u e => F.frzs b o u (I.base.frzs b o u e), fun b ps e => ?_, F.hok, F.new, F.ch⟩, q⟩
  · exact F.k1 b o (I.base.keep b o e n hb (noex b)) (I.base.free b o e n (noex b)) (notF b o e hb)
  · obtain ⟨sl, z⟩ := I.base.slot b o e n hb (noex b)
    obtain ⟨sl', z'⟩ := F.k2 b _ z (I.base.free b o e n (noex b)) (frs_cons hb)
    have hb' : b ∈ frs (envOfC qual scope s.heap.objs.size f cd :: outer) := frs_cons hb
    obtain ⟨_, o2, ho2, nf2⟩ := F.fly.2.2.1.mem hb'
    rw [z'] at ho2; cases ho2
    obtain ⟨sl2, z2⟩ := up b _ z' nf2
    exact ⟨sl2, z2⟩
  · obtain ⟨o', z⟩ := I.base.there b o e (noex b)
    exact F.k3 b o' z (notF b o e hb)
  · obtain ⟨o', z⟩ := I.base.there b o e (noex b)
    exact F.free b o' z (I.base.free b o e n (noex b))
  · obtain ⟨m1, e1⟩ := I.base.tbls b ps e
    obtain ⟨m2, e2⟩ := F.tbls b _ e1
    exact ⟨m1 ++ m2, by rw [e2, Array.append_assoc]⟩
theorem Fun.okX {x qual : Str} {st : Stmt} {f : Addr} {fd : FuncData} {N ps : List Str} {k : Nat} {sp : Sp} (F : Fun K x qual st f fd) (S : FnScope N ps (defScope st)) (len : ∀ vs H Q E, sp vs H Q E → vs.length = ps.length)
    (hbody : ∀ (cdv : Value) (A : Around) (outer : List Env) (s : Shared) (H : Hp) (vs : List V) (Q : VK) (E : XK), Room k (A.deeper (envOfC qual (defScope st) s.heap.objs.size f cdv)) → sp vs H Q E →
      ∃ t, PSs (cxOf (CXR P w) P w K mg base N qual (defScope st) f cdv A outer s H E) (defBody st) t ∧ t { nx := fun _ H' => Q .non H', rt := Q } (start N vs) H) : FnOk P w K mg base (CXR P w) (k + 1) f fd ps sp := by
  obtain ⟨oc, od, kV, doc, pm, an, cdv, ct, osl, rfl, lk, hcd⟩ := F.ex
  exact fn_of lk hcd S len fun A outer s H vs Q E hr hsp => hbody cdv A outer s H vs Q E hr hsp
end
theorem FnOk.calm {P : Program} {w : World} {K : PySem.W.Frag} {mg : Str → Option Value} {base : Heap} {CX : CXT} {k : Nat} {f : Addr} {fd : FuncData} {ps : List Str} {sp : Sp} (F : FnOk P w K mg base CX0 k f fd ps sp) : FnOk P w K mg base CX k f fd ps sp :=
  ⟨F.len, fun A outer s H args us vs Q E hr he hb hv hs => codeAny_mono (F.run A outer s H args us vs Q E hr he hb hv hs) fun r s' h => by
    cases r with
    | error e => exact False.elim h
    | ok fl => cases fl <;> exact h⟩
structure FnX (P : Program) (w : World) (K : PySem.W.Frag) (mg : Str → Option Value) (base : Heap) (x : Str) (f : Addr) (fd : FuncData) (ps : List Str) (k : Nat) (sp : Sp) : Prop where
  ok : FnOk P w K mg base (CXR P w) k f fd ps sp
  mg : mg x = some (.ref f)
  kp : PySem.W.keepIn K (.ref f) = true
  bd : Binds K fd ps []
end L2
namespace L2
open PySem PySem.Spec PyProof.Rows
structure Exc (K : PySem.W.Frag) (mg : Str → Option Value) (x : Str) (C : Addr) (mro : List Value) : Prop where
  bound : mg x = some (.ref C)
  isin : PySem.W.excIn K C [.type "ValueError", .type "Exception", .type "BaseException", .type "object"] "ValueError.__new__" = true
  mro : ∃ c d cd sl, K.lookup C = some ⟨c, d, .cls cd, sl⟩ ∧ cd.mro = mro
theorem Exc.obj {K : PySem.W.Frag} {mg : Str → Option Value} {x : Str} {C : Addr} {mro : List Value} (O : Exc K mg x C mro) {h : Heap} (X : K.In h) :
    ∃ bm N nm q bs hdct sn sub ab col dd k0 k1 k2 k3 k5 mN, h.get? C = some (excClassObj nm q C N bs bm hdct sn sub ab col dd k0 k1 k2 k3 k5 "ValueError.__new__") ∧ h.Ns N mN ∧ mN "__init__" = none ∧
      OwnTail h [.type "ValueError", .type "Exception", .type "BaseException", .type "object"] bm ∧ mro = .ref C :: bm := by
  obtain ⟨_, q, c0, d0, cd0, sl0, lk, em⟩ := O
  unfold PySem.W.excIn at q
  rw [lk] at q
  split at q
  · rename_i dd cd sl ho
    cases ho
    split at q
    · rename_i C' bm k0 k1 k2 k3 n k5 hm hs
      simp only [Bool.and_eq_true, beq_iff_eq, Bool.not_eq_true'] at q
      obtain ⟨⟨⟨⟨⟨rfl, rfl⟩, hdel⟩, ht⟩, hok⟩, hni⟩ := q
      obtain ⟨nm, bs, mr, ns, qn, hd, sn, sub, ab, col, del⟩ := cd0
      dsimp only at hm hdel hok hni em
      subst hm hdel
      have hsl : sl0 = #[k0, k1, k2, k3, some (.builtin "ValueError.__new__"), k5] := by
        obtain ⟨l⟩ := sl0
        simp only at hs
        rw [hs]
      subst hsl
      exact ⟨bm, ns, nm, qn, bs, hd, sn, sub, ab, col, d0, k0, k1, k2, k3, k5, _, X _ _ lk, .of_isNs (PySem.W.isNs_of_in X hok), PySem.W.nsMap_none_of_in X hok hni, PySem.W.tail_of_in X ht, em.symm⟩
    · cases q
  · cases q
noncomputable def tRaise (C : Addr) (E : XK) (ta : TA) : TS := fun _ σ H => ta σ H fun vs H1 => vs.length ≤ sizeLine ∧ E (.ref C) none H1
theorem ps_raise {P : Program} {w : World} {K : PySem.W.Frag} {mg : Str → Option Value} {base : Heap} {N : List Str} {qual : Str} {scope : Scope} {f : Addr} {cd : Value} {A : Around} {outer : List Env} {s₀ : Shared} {H₀ : Hp} {E : XK}
    {x : Str} {C : Addr} {mro : List Value} {e : Expr} {es : List Expr} {ta : TA} {np cpos pos : Pos} (O : Exc K mg x C mro) (ha : PA (cxOf (CXR P w) P w K mg base N qual scope f cd A outer s₀ H₀ E) (e :: es) ta)
    (hg : Gl (cxOf (CXR P w) P w K mg base N qual scope f cd A outer s₀ H₀ E) x := by rfl) (hdb : (x == ("__debug__" : Str)) = false := by decide)
    (he : starEach (e :: es) (envOfC qual scope s₀.heap.objs.size f cd) = (false, eval e (envOfC qual scope s₀.heap.objs.size f cd)) :: starEach es (envOfC qual scope s₀.heap.objs.size f cd) := by rfl)
    (hpl : (backTo cpos (starEach es (envOfC qual scope s₀.heap.objs.size f cd))).any (·.1) = false := by rfl) :
    PS (cxOf (CXR P w) P w K mg base N qual scope f cd A outer s₀ H₀ E) (.Raise (some (.Call (.Name x np) (e :: es) [] cpos)) none pos) (tRaise C E ta) := by
  intro pins s σ H D I h
  obtain ⟨bm, N', nm, q, bs, hdct, sn, sub, ab, col, dd, k0, k1, k2, k3, k5, mN, hC, hN, hni, T, _⟩ := O.obj I.ok.mod.kin
  refine wpAny_Raise_call_subT (C := C) (nm := nm) (q := q) (N := N') (bs := bs) (bm := bm) (hdct := hdct) (sn := sn) (sub := sub) (ab := ab) (col := col) (dd := dd) (k0 := k0) (k1 := k1) (k2 := k2) (k3 := k3) (k5 := k5) (mN := mN)
    PySem.F.excBase_ValueError (T.hasType PySem.F.excBase_ValueError.hasBase) (I.ok.hd rfl) ?_ hni (ld_glob I hg O.bound ⟨rfl, ?_⟩ hdb)
  · show (backTo cpos (starEach (e :: es) (envOfC qual scope s₀.heap.objs.size f cd))).any (·.1) = false
    rw [he]
    show (false || (backTo cpos (starEach es (envOfC qual scope s₀.heap.objs.size f cd))).any (·.1)) = false
    rw [hpl]; rfl
  have hA := ha cpos pins s σ H _ I h
  show wpAny _ _ (evalArgs (.ref C) true (backTo cpos (starEach (e :: es) (envOfC qual scope s₀.heap.objs.size f cd))) []) _ _ s
  have hA' : wpAny (model P w) (cxOf (CXR P w) P w K mg base N qual scope f cd A outer s₀ H₀ E).A (spliced (backTo cpos (starEach (e :: es) (envOfC qual scope s₀.heap.objs.size f cd)))) _ _ s := hA
  rw [he] at hA' ⊢
  refine Calls.evalArgs_plain (thn hA' fun us s1 ⟨vs, H1, I1, r, hz, q1⟩ => ⟨rfl, by rw [← r.length]; exact hz, I1.bk _ _ hC, hN.keeps I1.bk, T.keeps I1.bk, fun h' x' hm => (let ⟨t, e1, _, _⟩ := hm.there; cx_raise I1 hm.keeps hm.new e1 rfl rfl rfl rfl ⟨0, rfl⟩ q1)⟩)
noncomputable def XP (X : Cx) (pins : List (Addr × Obj)) (σ : St) (Ex : XK) (e : Value) (s' : Shared) : Prop := ∃ H1 s1, Inv X pins σ H1 s1 ∧ CXR X.prog X.w X.stack H1 s1 Ex e s'
noncomputable abbrev TX := St → Hp → VK → XK → Prop
noncomputable def PEx (X : Cx) (e : Expr) (t : TX) : Prop :=
  ∀ (pins : List (Addr × Obj)) (s : Shared) (σ : St) (H : Hp) (Q : VK) (Ex : XK), Inv X pins σ H s → t σ H Q Ex → wpAny (model X.prog X.w) X.A (eval e X.env) (EP X pins σ Q) (XP X pins σ Ex) s
section
variable {X : Cx} {e : Expr} {es : List Expr} {pos : Pos}
theorem noxe {α : Type} {t : Sem α} {Q : α → Shared → Prop} {M : Model} {A : Around} {E : Value → Shared → Prop} {s : Shared} (h : wpAny M A t Q X.nox.xe s) : wpAny M A t Q E s := wpAny_mono h (fun _ _ z => z) fun _ _ z => False.elim z
variable {k : Nat} {f C : Addr} {fd : FuncData} {ps : List Str} {sp : Sp} {m x : Str} {p apos : Pos} {o : Expr} {ta : TE} {t : TA}
theorem run_fnx {pins : List (Addr × Obj)} {σ : St} {H : Hp} {s : Shared} {Q : VK} {Ex : XK} {us : List Value} {vs : List V} (F : FnOk X.prog X.w X.K X.mg X.base (CXR X.prog X.w) k f fd ps sp) (hr : Room k X.A) (hb : Binds X.K fd ps [])
    (I : Inv X pins σ H s) (r : Vals vs us) (h : sp vs H Q Ex) : wpAny (model X.prog X.w) X.A (call (.ref f) us) (EP X pins σ Q) (XP X pins σ Ex) s := by
  have hl : (us ++ []).length = ps.length := by rw [List.append_nil, ← r.length]; exact F.len _ _ _ _ h
  have hb' := hb s us I.kIn hl
  rw [List.append_nil] at hb'
  refine wpAny_call (codeAny_mono (F.run X.A X.stack s H ⟨us, []⟩ us vs Q Ex hr I.env0 hb' r h) fun r s' hq => ?_)
  cases r with
  | error e => exact ⟨H, s, I, hq⟩
  | ok fl =>
    cases fl with
    | ret u => exact I.after hq
    | next => exact False.elim hq
    | brk => exact False.elim hq
    | cont => exact False.elim hq
theorem px_callV (i : Nat) {k' : Nat} (hv : PE X.nox (.Name x p) (tVar i)) (hr : Room k' X.A) (ha : PA X.nox (e :: es) t)
    (he : starEach (e :: es) X.env = (false, eval e X.env) :: starEach es X.env := by rfl) (hpl : (backTo pos (starEach es X.env)).any (·.1) = false := by rfl) :
    PEx X.nox (.Call (.Name x p) (e :: es) [] pos) (fun σ H Q Ex => ∃ f fd k ps sp, σ[i]? = some (some (.ref f)) ∧ FnOk X.prog X.w X.K X.mg X.base (CXR X.prog X.w) k f fd ps sp ∧ k ≤ k' ∧ PySem.W.keepIn X.K (.ref f) = true ∧ Binds X.K fd ps [] ∧ t σ H fun vs H1 => sp vs H1 Q Ex) := by
  intro pins s σ H Q Ex I h
  obtain ⟨f, fd, k, ps, sp, ef, F, hk, kp, hb, h⟩ := h
  refine wpAny_Call_Name_kw (thn (noxe (hv pins s σ H (fun v H' => v = .ref f ∧ H' = H) I ⟨_, ef, rfl, rfl⟩)) fun u s1 ⟨v, H1, I1, rv, ev, eH⟩ => ?_)
  subst ev eH
  obtain rfl : u = Value.ref f := rv
  refine PySem.W.callWith_K (h₀ := X.base) I.ok.mod.kin kp (thn (noxe (ha pos pins s1 σ H1 _ I1 h)) fun us s2 ⟨vs, H2, I2, r, q⟩ => ⟨I2.kIn, ?_⟩) he hpl
  exact run_fnx (X := X.nox) F (hr.mono hk) hb I2 r q
end
theorem exc_matches {M : Model} {A : Around} {E : Value → Shared → Prop} {nm q nm' q' : Str} {C N D N' : Addr} {bs bm bs' bm' : List Value} {hdct hdct' : Bool} {sn sn' : List Str} {sub sub' : List Value} {ab ab' : Bool} {col col' : Option Bool} {dd dd' : Option Addr} {k0 k1 k2 k3 k5 l0 l1 l2 l3 l5 : Option Value} {newId newId' : String}
    {h : Heap} {g : Array GenState} {d : Drawn} {t : Nat} {os : OsState} {e : Addr} {oe : Obj} {Q : Bool → Shared → Prop}
    (hC : h.get? C = some (excClassObj nm q C N bs bm hdct sn sub ab col dd k0 k1 k2 k3 k5 newId)) (hD : h.get? D = some (excClassObj nm' q' D N' bs' bm' hdct' sn' sub' ab' col' dd' l0 l1 l2 l3 l5 newId'))
    (he : h.get? e = some oe) (hcls : oe.cls = .ref C) (hbase : bm'.contains (.type "BaseException") = true) (hq : Q ((Value.ref C :: bm).contains (.ref D)) ⟨h, g, d, t, os⟩) : wpAny M A (excMatches (.ref e) (.ref D)) Q E ⟨h, g, d, t, os⟩ := by
  have hcB : (Value.ref D :: bm').contains (.type "BaseException") = true := by rw [List.contains_cons, hbase, Bool.or_true]
  have f := tc_notTuple
  unfold excMatches
  cases hb : (Value.ref C :: bm).contains (.ref D) with
  | true =>
    rw [hb] at hq
    repeat (first | (with_reducible refine wpAny_loadPart_at he ?_; rw [hcls]) | with_reducible refine wpAny_loadPart_at hD ?_ | (with_reducible refine wpAny_isSubtype_exc hD ?_; rw [hcB]) | (with_reducible refine wpAny_isSubtype_exc hC ?_; rw [hb]) | wp_step)
    exact hq
  | false =>
    rw [hb] at hq
    repeat (first | (with_reducible refine wpAny_loadPart_at he ?_; rw [hcls]) | with_reducible refine wpAny_loadPart_at hD ?_ | (with_reducible refine wpAny_isSubtype_exc hD ?_; rw [hcB]) | (with_reducible refine wpAny_isSubtype_exc hC ?_; rw [hb]) | wp_step)
    exact hq
noncomputable abbrev Cx.caught (X : Cx) (x : Addr) (ps : List (Addr × Obj)) : Cx := { X with A := X.A.mark (some (.ref x)), calm := false, pn := ps ++ X.pn }
theorem caught_ok {X : Cx} {e : Addr} {ps : List (Addr × Obj)} (ok : X.Ok) : (X.caught e ps).Ok :=
  ⟨ok.mod, ok.kind, ok.glob, ok.blt, ok.above, ok.inj, ok.has, ok.cab, fun z => absurd (show false = true from z) Bool.false_ne_true, ok.frames, ok.stk, ok.exf, ok.bs, ok.bsz, ok.noex, ok.exfs, ok.funs, ok.frf⟩
theorem Inv.caught {X : Cx} {e : Addr} {ps pins : List (Addr × Obj)} {σ : St} {H : Hp} {s : Shared} (I : Inv X pins σ H s) (hp : ∀ p ∈ ps, s.heap.get? p.1 = some p.2 ∧ H p.1 = none ∧ p.1 ≠ X.env.locals ∧ p.1 ∉ X.fs ∧ ∀ v, p.2.data ≠ .cell v) : Inv (X.caught e ps) pins σ H s :=
  ⟨caught_ok I.ok, I.os, I.bare, I.base, I.loc, I.cell, I.free, I.freeC, fun p z => by
    rcases List.mem_append.mp z with z | z
    · rcases List.mem_append.mp z with z | z
      · exact hp p z
      · exact I.pin p (List.mem_append_left _ z)
    · exact I.pin p (List.mem_append_right _ z), I.hok, I.len⟩
theorem Inv.uncaught {X : Cx} {e : Addr} {ps pins : List (Addr × Obj)} {σ : St} {H : Hp} {s : Shared} (ok : X.Ok) (I : Inv (X.caught e ps) pins σ H s) : Inv X pins σ H s := ⟨ok, I.os, I.bare, I.base, I.loc, I.cell, I.free, I.freeC, fun p z => I.pin p (by
    rcases List.mem_append.mp z with z | z
    · exact List.mem_append_left _ (List.mem_append_right _ z)
    · exact List.mem_append_right _ z), I.hok, I.len⟩
theorem SP.uncaught {X : Cx} {e : Addr} {ps pins : List (Addr × Obj)} {D : Ends} {f : Flow} {s : Shared} (ok : X.Ok) (h : SP (X.caught e ps) pins D f s) : SP X pins D f s := by
  cases f with
  | next => obtain ⟨σ', H', I', q⟩ := h; exact ⟨σ', H', I'.uncaught ok, q⟩
  | brk => obtain ⟨σ', H', I', q⟩ := h; exact ⟨σ', H', I'.uncaught ok, q⟩
  | cont => obtain ⟨σ', H', I', q⟩ := h; exact ⟨σ', H', I'.uncaught ok, q⟩
  | ret v => obtain ⟨x, σ', H', I', r, q⟩ := h; exact ⟨x, σ', H', I'.uncaught ok, r, q⟩
noncomputable def HeadP (ps : List (Addr × Obj)) (x : Addr) : Prop := ∃ n, ChainP ps (n + 1) (.ref x)
inductive Hs (X : Cx) : List ExceptHandler → List (Addr × TS) → Prop where
  | nil : Hs X [] []
  | cons {x : Str} {C : Addr} {mro : List Value} {b₀ : Stmt} {suite : List Stmt} {pos np : Pos} {rest : List ExceptHandler} {ts : TS} {l : List (Addr × TS)} (O : Exc X.K X.mg x C mro) (hg : Gl X x) (hdb : (x == ("__debug__" : Str)) = false)
      (hs : ∀ e ps, X.Ok → HeadP ps e → PSs (X.caught e ps) (b₀ :: suite) ts) (r : Hs X rest l) : Hs X (.ExceptHandler (some (.Name x np)) none (b₀ :: suite) pos :: rest) ((C, ts) :: l)
noncomputable def pickH (mro : List Value) : List (Addr × TS) → Option TS
  | [] => none
  | (C, t) :: r => if mro.contains (.ref C) = true then some t else pickH mro r
noncomputable abbrev TSx := Ends → XK → St → Hp → Prop
noncomputable def PSx (X : Cx) (st : Stmt) (t : TSx) : Prop :=
  ∀ (pins : List (Addr × Obj)) (s : Shared) (σ : St) (H : Hp) (D : Ends) (Ex : XK), Inv X pins σ H s → t D Ex σ H → wpAny (model X.prog X.w) X.A (exec st X.env) (SP X pins D) (XP X pins σ Ex) s
theorem psx_ret {X : Cx} {e : Expr} {te : TX} {ap : Pos} (he : PEx X.nox e te) : PSx X.nox (.Return (some e) ap) (fun D Ex σ H => te σ H D.rt Ex) := by
  intro pins s σ H D Ex I h
  exact wpAny_Return_some (thn (he pins s σ H _ _ I h) fun v s1 ⟨y, H1, I1, r1, q1⟩ => ⟨y, σ, H1, I1, r1, q1⟩)
noncomputable def tTry (K : PySem.W.Frag) (mg : Str → Option Value) (te : TSx) (l : List (Addr × TS)) : TS := fun D σ H => te D (fun c _ H1 => ∃ x C mro t, c = .ref C ∧ Exc K mg x C mro ∧ pickH mro l = some t ∧ t D σ H1) σ H
theorem ps_try {X : Cx} {st : Stmt} {te : TSx} {h₀ : ExceptHandler} {hs : List ExceptHandler} {l : List (Addr × TS)} {pos : Pos} (he : PSx X.nox st te) (hh : Hs X (h₀ :: hs) l) (hf : X.env.frame = some X.env.locals) (hst : X.stack = X.env :: X.outer)
    (hpa : ∀ v, PassesOwnAt (model X.prog X.w) (X.A.mark v) X.A X.env X.xe) : PS X (.Try [st] (h₀ :: hs) [] [] pos) (tTry X.K X.mg te l) := by
  intro pins s σ H D I h
  refine wpAny_Try_except ?_
  refine wpAny_mono (Q := SP X.nox pins D) (E := XP X.nox pins σ fun c _ H1 => ∃ x C mro t, c = .ref C ∧ Exc X.K X.mg x C mro ∧ pickH mro l = some t ∧ t D σ H1) ?_ (fun f s1 q => ?_) fun ev s1 q => ?_
  · refine wpAny_execs_cons (thn (he pins s σ H D _ (I.wish _) h) fun f s1 q => ?_)
    cases f with
    | next => exact wpAny_execs_nil q
    | ret v => exact q
    | brk => exact q
    | cont => exact q
  · cases f with
    | next => exact wpAny_execs_nil (SP.unwish q)
    | ret v => exact SP.unwish q
    | brk => exact SP.unwish q
    | cont => exact SP.unwish q
  obtain ⟨H1, s2, I1, xa, C, c, B, H', rfl, F, nmx, C', mro, t, ec, O, pk, qt⟩ := q
  cases ec
  have F' : Flown X.prog X.w (X.env :: X.outer) H1 s2 xa C c B H' s1 := by
    have : Flown X.prog X.w X.stack H1 s2 xa C c B H' s1 := F
    rw [hst] at this; exact this
  have hfr : X.A.frames = some (X.env :: X.outer) := by rw [← hst]; exact I.ok.frames
  have I1' : Inv X pins σ H1 s2 := I1.unwish
  refine fl_note hfr hf F'.fly fun h4 held4 up4 => ?_
  refine fl_land (s := { s1 with heap := h4 }) held4 fun h5 fl5 up5' => ?_
  have up5 := up4.trans up5'
  -- whatever the handlers find, the names stand
  have inv : ∀ {h : Heap}, B.StaysIn h → s1.heap.UpToSlots h → Inv X pins σ H' { s1 with heap := h } := fun {h} st up => by
    have u := F.un st up
    exact I1'.call' (s' := { s1 with heap := h }) (ch := []) F.os u (F.hok.kept st) F.bare fun b z => absurd z (by simp)
  have ok := I.ok
  have main : ∀ {hs' : List ExceptHandler} {l' : List (Addr × TS)}, Hs X hs' l' → pickH mro l' = some t → wpAny (model X.prog X.w) X.A (handleBy (.ref xa) X.env hs') (SP X pins D) X.xe { s1 with heap := h5 } := by
    intro hs' l' hH
    induction hH with
    | nil => intro z; cases z
    | @cons nm2 C2 mro2 b₀ suite p2 np rest ts l2 O2 hg hdb hsu r ih =>
      intro z
      have I5 : Inv X pins σ H' { s1 with heap := h5 } := inv fl5.1 up5
      refine wpAny_handleBy_cons (codeAny_handlers_test ?_) (by intro q; cases q)
      have Ic : Inv (X.caught xa []) pins σ H' { s1 with heap := h5 } := I5.caught fun p hp => absurd hp (by simp)
      refine wpAny_mono (E := fun _ _ => False) (ld_glob Ic hg O2.bound (Q := fun c s' => c = .ref C2 ∧ s' = { s1 with heap := h5 }) ⟨rfl, rfl⟩ hdb) (fun c s' hc => ?_) fun _ _ z => z.elim
      obtain ⟨rfl, rfl⟩ := hc
      obtain ⟨bm, N1, nm, q1, bs, hdct, sn, sub, ab, col, dd, k0, k1, k2, k3, k5, mN, hC, _, _, T, em⟩ := O.obj I5.kIn
      obtain ⟨bm', N1', nm', q1', bs', hdct', sn', sub', ab', col', dd', l0, l1, l2', l3, l5, mN', hC', _, _, T', em'⟩ := O2.obj I5.kIn
      obtain ⟨ob, vs5, _, _, _, hob, hobc, _⟩ := fl5.2.2.2
      refine exc_matches (oe := ob) hC hC' hob hobc (T'.hasType PySem.F.excBase_ValueError.hasBase) ?_
      rw [← em]
      cases hb : mro.contains (.ref C2) with
      | true =>
        have z' : (if mro.contains (.ref C2) = true then some ts else pickH mro l2) = some t := z
        rw [hb, if_pos rfl] at z'
        cases z'
        refine codeAny_handlers_suite ?_
        refine fl_land (s := { s1 with heap := h5 }) fl5 fun h6 fl6 up6 => ?_
        have I6 : Inv X pins σ H' { s1 with heap := h6 } := inv fl6.1 (up5.trans up6)
        obtain ⟨oe, vs, _, _, _, g1, g2, g3, g4, _⟩ := fl6.2.2.2
        obtain ⟨n, chn⟩ := F.ch
        have chn6 : Chain h6 (fun a => H' a = none) (n + 1) (.ref xa) := .inr ⟨xa, oe, vs, c, rfl, g1, F.new, g3, g4, chn.imp fun a o ws na ea _ => ⟨fl6.1 a o ea, na⟩⟩
        obtain ⟨ps, pk1, pk2⟩ := chn6.pins
        have Ic6 : Inv (X.caught xa ps) pins σ H' { s1 with heap := h6 } := I6.caught fun p hp => by
          obtain ⟨a1, a2, ws, a3⟩ := pk1 p hp
          refine ⟨a1, a2, fun y => ?_, fun y => ?_, fun v y => ?_⟩
          · obtain ⟨m, ⟨o', es, ep, ho', hd', _⟩, _⟩ := I6.loc
            rw [y] at a1
            have a1' : h6.get? X.env.locals = some o' := ho'
            rw [a1'] at a1; cases a1
            rw [hd'] at a3; cases a3
          · obtain ⟨_, o', ho', n'⟩ := I6.funs.mem y
            have a1' : h6.get? p.1 = some o' := ho'
            rw [a1'] at a1; cases a1
            exact n' ws a3
          · rw [a3] at y; cases y
        refine wpAny_passesOwnAt (hpa _) ?_
        exact wpAny_mono (hsu xa ps ok ⟨n, pk2⟩ pins _ σ H' D Ic6 qt) (fun f s' q => SP.uncaught ok q) fun _ _ q => q
      | false =>
        have z' : (if mro.contains (.ref C2) = true then some ts else pickH mro l2) = some t := z
        rw [hb, if_neg Bool.false_ne_true] at z'
        exact ih z'
  exact main hh pk
theorem ps_raiseH {P : Program} {w : World} {K : PySem.W.Frag} {mg : Str → Option Value} {base : Heap} {N : List Str} {qual : Str} {scope : Scope} {f : Addr} {cd : Value} {A : Around} {outer : List Env} {s₀ : Shared} {H₀ : Hp} {E : XK} {y : Addr} {ps : List (Addr × Obj)}
    {x : Str} {C : Addr} {mro : List Value} {e : Expr} {es : List Expr} {ta : TA} {np cpos pos p2 : Pos} {j : Nat} (ok : (cxOf (CXR P w) P w K mg base N qual scope f cd A outer s₀ H₀ E).Ok) (hd : HeadP ps y) (O : Exc K mg x C mro) (ha : PA ((cxOf (CXR P w) P w K mg base N qual scope f cd A outer s₀ H₀ E).caught y ps) (e :: es) ta)
    (hg : Gl (cxOf (CXR P w) P w K mg base N qual scope f cd A outer s₀ H₀ E) x := by rfl) (hdb : (x == ("__debug__" : Str)) = false := by decide)
    (he : starEach (e :: es) (envOfC qual scope s₀.heap.objs.size f cd) = (false, eval e (envOfC qual scope s₀.heap.objs.size f cd)) :: starEach es (envOfC qual scope s₀.heap.objs.size f cd) := by rfl)
    (hpl : (backTo cpos (starEach es (envOfC qual scope s₀.heap.objs.size f cd))).any (·.1) = false := by rfl) :
    PS ((cxOf (CXR P w) P w K mg base N qual scope f cd A outer s₀ H₀ E).caught y ps) (.Raise (some (.Call (.Name x np) (e :: es) [] cpos)) (some (.Constant .none j p2)) pos) (tRaise C E ta) := by
  intro pins s σ H D I h
  obtain ⟨bm, N', nm, q, bs, hdct, sn, sub, ab, col, ddd, k0, k1, k2, k3, k5, mN, hC, hN, hni, T, _⟩ := O.obj I.ok.mod.kin
  refine Raise_behind (C := C) (nm := nm) (q := q) (N := N') (bs := bs) (bm := bm) (hdct := hdct) (sn := sn) (sub := sub) (ab := ab) (col := col) (dd := ddd) (k0 := k0) (k1 := k1) (k2 := k2) (k3 := k3) (k5 := k5) (mN := mN) (y := y)
    PySem.F.excBase_ValueError (T.hasType PySem.F.excBase_ValueError.hasBase) rfl ?_ hni (ld_glob I hg O.bound ⟨rfl, ?_⟩ hdb)
  · show (backTo cpos (starEach (e :: es) (envOfC qual scope s₀.heap.objs.size f cd))).any (·.1) = false
    rw [he]
    show (false || (backTo cpos (starEach es (envOfC qual scope s₀.heap.objs.size f cd))).any (·.1)) = false
    rw [hpl]; rfl
  have hA := ha cpos pins s σ H _ I h
  show wpAny _ _ (evalArgs (.ref C) true (backTo cpos (starEach (e :: es) (envOfC qual scope s₀.heap.objs.size f cd))) []) _ _ s
  have hA' : wpAny (model P w) ((cxOf (CXR P w) P w K mg base N qual scope f cd A outer s₀ H₀ E).caught y ps).A (spliced (backTo cpos (starEach (e :: es) (envOfC qual scope s₀.heap.objs.size f cd)))) _ _ s := hA
  rw [he] at hA' ⊢
  refine Calls.evalArgs_plain (thn hA' fun us s1 ⟨vs, H1, I1, r, hz, q1⟩ => ⟨rfl, by rw [← r.length]; exact hz, I1.bk _ _ hC, hN.keeps I1.bk, T.keeps I1.bk, fun h' x' hm => ?_⟩)
  obtain ⟨n, hd⟩ := hd
  have pin1 : ∀ p ∈ ps, s1.heap.get? p.1 = some p.2 ∧ H1 p.1 = none := fun p z => let w := I1.pin p (List.mem_append_left _ (List.mem_append_left _ z)); ⟨w.1, w.2.1⟩
  refine ⟨⟨n, hd.chain fun p z => ⟨hm.keeps _ _ (pin1 p z).1, fun z2 => ?_⟩⟩, fun g t y1 y2 => ?_⟩
  · have z3 := (pin1 p z).1
    rw [z2, hm.new] at z3; cases z3
  · refine cx_raise (I1.uncaught ok) (fun b o z => (y2 b fun z2 => ?_).trans (hm.keeps b o z)) hm.new y1 rfl rfl rfl rfl ⟨n + 1, hd.chain pin1⟩ q1
    rw [z2, hm.new] at z; cases z
structure RoomH (k : Nat) (A : Around) : Prop where
  dp : A.depth + 3 * k + 5 < recursionLimit
  un : A.units + 16 * k + 200 < cLine
theorem Room.h {k : Nat} {A : Around} (r : Room k A) (v : Option Value) : RoomH k (A.mark v) := ⟨r.dp, r.un⟩
structure FnOkH (P : Program) (w : World) (K : PySem.W.Frag) (mg : Str → Option Value) (base : Heap) (k : Nat) (f : Addr) (fd : FuncData) (ps : List Str) (sp : Sp) : Prop where
  len : ∀ vs H Q E, sp vs H Q E → vs.length = ps.length
  run : ∀ (A : Around) (outer : List Env) (s : Shared) (H : Hp) (args : Args) (us : List Value) (vs : List V) (Q : VK) (E : XK), RoomH k A → Env0 P w K mg base A outer s H → BindsTo s fd args (ps.zip us) → Vals vs us → sp vs H Q E →
    codeAny (model P w) A (.call (.ref f) args) (CR CX0 outer P w H s Q E) s
noncomputable abbrev Cx.uncalm (X : Cx) : Cx := { X with calm := false }
section
variable {P : Program} {w : World} {K : PySem.W.Frag} {mg : Str → Option Value} {base : Heap}
theorem Fun.okH {x qual : Str} {st : Stmt} {f : Addr} {fd : FuncData} {N ps : List Str} {k : Nat} {sp : Sp} (F : Fun K x qual st f fd) (S : FnScope N ps (defScope st)) (len : ∀ vs H Q E, sp vs H Q E → vs.length = ps.length)
    (hbody : ∀ (cdv : Value) (A : Around) (outer : List Env) (s : Shared) (H : Hp) (vs : List V) (Q : VK) (E : XK), sp vs H Q E →
      ∃ t, PSs (cxOf CX0 P w K mg base N qual (defScope st) f cdv A outer s H E).uncalm.nox (defBody st) t ∧ t { nx := fun _ H' => Q .non H', rt := Q } (start N vs) H) : FnOkH P w K mg base (k + 1) f fd ps sp := by
  obtain ⟨oc, od, kV, doc, pm, an, cdv, ct, osl, rfl, lk, hcd⟩ := F.ex
  refine ⟨len, fun A outer s H args us vs Q E hr e0 hb r hsp => ?_⟩
  have hl := len _ _ _ _ hsp
  have KX : K.In s.heap := e0.mod.kin.keeps fun b o e => (e0.bs b o e).1
  have lim : s.heap.NoLimit := e0.mod.nolimit.keeps fun b o e => (e0.bs b o e).1
  have hkind : ∀ y ∈ ps.zip us, (defScope st).names.lookup y.1 = some .local ∨ ((defScope st).names.lookup y.1 = some .cell ∧ ((cellsFrom (s.heap.objs.size + 1) (defScope st).names []).lookup y.1).isSome = true) := fun ⟨n, v⟩ hy => by
    rcases S.par n (List.of_mem_zip hy).1 with q | q
    · exact .inl q
    · exact .inr ⟨q, PySem.W.cellsFrom_some _ _ _ (.inl q)⟩
  refine codeAny_call_function (by have := hr.dp; omega) (KX _ _ lk) rfl S.co S.gen rfl (PySem.W.codeRec_of KX hcd) (hb _ _ _ _ ?_)
  refine wpAny_newFunctionEnv_cells S.kind hkind fun env he s1 x => ?_
  subst he
  refine ⟨lim.keeps x.toInCall.keep, codeAny_func ?_⟩
  obtain ⟨t, ht, hq⟩ := hbody cdv A outer s H vs Q E hsp
  have e1 : Env0 P w K mg base { A with handled := none } outer s H := ⟨e0.frames, e0.mod, e0.bs, e0.bsz, e0.funs, e0.frf, e0.hok, e0.bare⟩
  have I0 : Inv (cxOf CX0 P w K mg base N qual (defScope st) f cdv { A with handled := none } outer s H E) [] (start N vs) H s1 := inv_start S rfl e1 hl r x
  have I : Inv (cxOf CX0 P w K mg base N qual (defScope st) f cdv A outer s H E).uncalm.nox [] (start N vs) H s1 :=
    ⟨⟨I0.ok.mod, I0.ok.kind, I0.ok.glob, I0.ok.blt, I0.ok.above, I0.ok.inj, I0.ok.has, I0.ok.cab, fun z => absurd (show false = true from z) Bool.false_ne_true, Around.frames_deeper e0.frames, I0.ok.stk, I0.ok.exf, I0.ok.bs, I0.ok.bsz, I0.ok.noex, I0.ok.exfs, I0.ok.funs, I0.ok.frf⟩, I0.os, I0.bare, I0.base, I0.loc, I0.cell, I0.free, I0.freeC, I0.pin, I0.hok, I0.len⟩
  refine wpAny_mono (ht [] s1 (start N vs) H _ I hq) (fun fl s' hs => ?_) fun e s' hs => False.elim hs
  have fin : ∀ {σ' : St} {H' : Hp} {v : V} {u : Value}, Inv (cxOf CX0 P w K mg base N qual (defScope st) f cdv A outer s H E).uncalm.nox [] σ' H' s' → RelV v u → Q v H' → CE outer P w H s Q u s' :=
    fun {σ' H' v u} J rv q => ⟨v, H', J.os, J.bare, J.base, J.hok, rv, q⟩
  cases fl with
  | ret u =>
    obtain ⟨v, σ', H', J, rv, q⟩ := hs
    exact fin J rv q
  | next =>
    obtain ⟨σ', H', J, q⟩ := hs
    exact fin (v := V.non) (u := Value.none) J rfl q
  | brk =>
    obtain ⟨_, _, _, q⟩ := hs
    exact False.elim q
  | cont =>
    obtain ⟨_, _, _, q⟩ := hs
    exact False.elim q
end
section
variable {X : Cx} {k : Nat} {f C : Addr} {fd : FuncData} {ps : List Str} {sp : Sp} {m : Str} {pos apos : Pos} {e o : Expr} {es : List Expr} {ta : TE} {t : TA}
theorem pe_methH {pl : Sem Bool} (he : PE X o ta) (c : Cls X.K C) (hm : Meth X.K C m f) (F : FnOkH X.prog X.w X.K X.mg X.base k f fd ps sp) (hr : RoomH k X.A) (hb : Binds X.K fd ps []) (ha : PA X (e :: es) t)
    (hst : starEach (e :: es) X.env = (false, eval e X.env) :: starEach es X.env := by rfl) (hpl : (backTo pos (starEach es X.env)).any (·.1) = false := by rfl)
    (ht : eval (.Call (.Attribute o m apos) (e :: es) [] pos) X.env = (do
      let ov ← eval o X.env
      standAt apos.atName
      let (f, first) ← holding [ov] (getMethod ov m pl)
      callWith pos f first (backTo pos (starEach (e :: es) X.env)) (backToKw pos (keywordEach [] X.env))) := by rfl) :
    PE X (.Call (.Attribute o m apos) (e :: es) [] pos) (tMeth C m sp [] E0 ta t) := by
  intro pins s σ H Q I h
  refine PySem.W.methodCall_KW (pl := pl) (thn (he pins s σ H _ I h) fun u s1 ⟨x, H1, I1, rx, a, dx, fs, ex, ea, l, q⟩ => ?_) ht
  subst ex
  obtain rfl : u = Value.ref a := rx
  refine getmeth_ok I1 ea c hm l ?_
  refine PySem.W.callWith_K (first := [.ref a]) (h₀ := X.base) I.ok.mod.kin hm.kp (thn (ha pos pins s1 σ H1 _ I1 q) fun us s2 ⟨vs, H2, I2, r, q2⟩ => ⟨I2.kIn, ?_⟩) hst hpl
  have q2 : sp (.ref a :: (vs ++ [])) H2 Q E0 := q2
  rw [List.append_nil] at q2
  have r2 : Vals (.ref a :: vs) (.ref a :: us) := .cons rfl r
  have hl : ((.ref a :: us) ++ ([] : List Value)).length = ps.length := by rw [List.append_nil, ← r2.length]; exact F.len _ _ _ _ q2
  have hb' := hb s2 (.ref a :: us) I2.kIn hl
  rw [List.append_nil] at hb'
  refine wpAny_call (codeAny_mono (F.run X.A X.stack s2 H2 ⟨.ref a :: us, []⟩ (.ref a :: us) (.ref a :: vs) Q E0 hr I2.env0 hb' r2 q2) fun r s' hq => ?_)
  cases r with
  | error e => exact False.elim hq
  | ok fl =>
    cases fl with
    | ret u => exact I2.after hq
    | next => exact False.elim hq
    | brk => exact False.elim hq
    | cont => exact False.elim hq
end
section
variable {P : Program} {w : World} {K : PySem.W.Frag} {mg : Str → Option Value} {base : Heap} {N : List Str} {qual : Str} {scope : Scope} {f' : Addr} {cd : Value} {A : Around} {outer : List Env} {s₀ : Shared} {H₀ : Hp} {E : XK}
  {x : Str} {f : Addr} {fd : FuncData} {ps : List Str} {k k' : Nat} {sp : Sp} {e : Expr} {es : List Expr} {t : TA} {p pos : Pos}
theorem pe_fnX (F : FnX P w K mg base x f fd ps k sp) (hr : Room k' (cxOf (CXR P w) P w K mg base N qual scope f' cd A outer s₀ H₀ E).A) (ha : PA (cxOf (CXR P w) P w K mg base N qual scope f' cd A outer s₀ H₀ E) (e :: es) t) (hk : k ≤ k' := by first | decide | exact Nat.le_refl _) (hg : Gl (cxOf (CXR P w) P w K mg base N qual scope f' cd A outer s₀ H₀ E) x := by rfl) (hdb : (x == ("__debug__" : Str)) = false := by decide)
    (he : starEach (e :: es) (envOfC qual scope s₀.heap.objs.size f' cd) = (false, eval e (envOfC qual scope s₀.heap.objs.size f' cd)) :: starEach es (envOfC qual scope s₀.heap.objs.size f' cd) := by rfl) (hpl : (backTo pos (starEach es (envOfC qual scope s₀.heap.objs.size f' cd))).any (·.1) = false := by rfl) :
    PE (cxOf (CXR P w) P w K mg base N qual scope f' cd A outer s₀ H₀ E) (.Call (.Name x p) (e :: es) [] pos) (tCall sp [] E t) :=
  pe_call F.ok (hr.mono hk) hg F.mg F.kp F.bd .nil cx_pass ha hdb he hpl
end
section
variable {X : Cx} {x : Str} {f : Addr} {fd : FuncData} {ps : List Str} {k k' : Nat} {sp : Sp} {e : Expr} {es : List Expr} {t : TA} {p pos : Pos}
end
end L2
namespace L2
open PySem PySem.Spec PyProof.Rows
section
variable {X : Cx} {pos : Pos}
noncomputable def tPar3 (i j k : Nat) (ta : TA) : TS := fun D σ H => ta σ H fun vs H1 => ∃ v w u, vs = [v, w, u] ∧ D.nx (((σ.set i (some v)).set j (some w)).set k (some u)) H1
theorem ps_par3 {i j k : Nat} {x y z : Str} {a b c : Expr} {ta : TA} {px py pz pt : Pos} {kt k2 pt2} (hc : X.calm = true) (hN : X.N.Nodup) (hi : X.N[i]? = some x) (hj : X.N[j]? = some y) (hk : X.N[k]? = some z) (hij : i ≠ j) (hik : i ≠ k) (hjk : j ≠ k)
    (hx : X.env.scope.names.lookup x = some .local) (hy : X.env.scope.names.lookup y = some .local) (hz : X.env.scope.names.lookup z = some .local) (ha : PA X [a, b, c] ta)
    (hw : swappedStores [.Tuple [.Name x px, .Name y py, .Name z pz] kt pt] (.Tuple [a, b, c] k2 pt2) X.env = pure (some [x, y, z]))
    (hs : swapsWithSole [.Tuple [.Name x px, .Name y py, .Name z pz] kt pt] (.Tuple [a, b, c] k2 pt2) pos.line X.env = pure false := by rfl) :
    PS X (.Assign [.Tuple [.Name x px, .Name y py, .Name z pz] kt pt] (.Tuple [a, b, c] k2 pt2) pos) (tPar3 i j k ta) := by
  intro pins s σ H D I h
  rw [exec_Assign_arm]
  refine wpAny_bind (wpAny_standAt ?_)
  rw [hs]
  refine wpAny_bind (wpAny_pure ?_)
  rw [if_neg (by decide)]
  refine wpAny_bind (Tuple_ (thn (ha _ pins s σ H _ I h) fun us s1 ⟨vs, H1, I1, r1, q1⟩ => ?_))
  obtain ⟨v, w, u, e1, q1⟩ := q1
  subst e1
  obtain ⟨u1, u2, u3, rfl, rv, rw', ru⟩ : ∃ u1 u2 u3, us = [u1, u2, u3] ∧ RelV v u1 ∧ RelV w u2 ∧ RelV u u3 := by
    cases r1 with
    | cons p q =>
      cases q with
      | cons p' q' =>
        cases q' with
        | cons p'' q'' =>
          cases q''
          exact ⟨_, _, _, rfl, p, p', p''⟩
  refine wpAny_newObj_type ?_ (by show 3 ≤ sizeLine; decide)
  have I2 : Inv X pins σ H1 { s1 with heap := s1.heap.push { cls := .type "tuple", data := .seq [u1, u2, u3].toArray } } := I1.kept (t' := s1.toks) fun b o e => Heap.get?_push_of_some _ e
  rw [hw]
  refine wpAny_bind (wpAny_pure ?_)
  show wpAny (model X.prog X.w) X.A (do rule "assign.swapped-stores"; let items ← unpackItems (.ref s1.heap.objs.size) 3 none; assignInOrder [fun v => bindName X.env z v, fun v => bindName X.env y v, fun v => bindName X.env x v] items.reverse; pure Flow.next) _ _ _
  refine wpAny_bind (wpAny_rule (wpAny_bind (unpackItems_tuple (items := #[u1, u2, u3]) (I.ok.hd hc) (IsTup.new s1.heap _) fun h' hx' => ?_)))
  have I3 := I2.kept (h' := h') (t' := s1.toks) fun b o e => hx' b o (Nat.ne_of_lt (Heap.lt_size e)) e
  show wpAny _ _ (assignInOrder [fun v => bindName X.env z v, fun v => bindName X.env y v, fun v => bindName X.env x v] [u3, u2, u1] >>= fun _ => pure Flow.next) _ _ _
  refine wpAny_bind (assignInOrder_cons (wpAny_bindName (store_ok I3 hN hk (.inl hz) ru (fun s2 I4 => ?_) (.inr hz))))
  refine assignInOrder_cons (wpAny_bindName (store_ok I4 hN hj (.inl hy) rw' (fun s3 I5 => ?_) (.inr hy)))
  refine assignInOrder_cons (wpAny_bindName (store_ok I5 hN hi (.inl hx) rv (fun s3 I6 => assignInOrder_nil (wpAny_pure ?_)) (.inr hx)))
  refine ⟨_, H1, I6, ?_⟩
  rw [List.set_comm _ _ (Ne.symm hjk), List.set_comm _ _ (Ne.symm hik), List.set_comm _ _ (Ne.symm hij)]
  exact q1
end
end L2
namespace L2
open PySem PySem.Spec PyProof.Rows
section
variable {X : Cx}
theorem call_sumL (hc : X.calm = true) : CallR X (.builtin "sum") (fun xs H Q => ∃ (p : Addr) (ns : List Int), xs = [.ref p] ∧ SqL X.K H p (ns.map V.int) ∧ Q (.int ns.sum) H) := by
  intro pins s σ H xs us Q I r h
  obtain ⟨p, ns, rfl, hq, q⟩ := h
  obtain ⟨u, rfl, rx⟩ := vals1 r
  cases rx
  obtain ⟨its, rv, pl, hz⟩ := I.list hq
  have hlen : its.length = ns.length := by rw [← rv.length, List.length_map]
  have plt : p < s.heap.objs.size := by
    obtain ⟨o, ho, _⟩ := pl.isList
    exact Heap.lt_size ho
  have hh : X.A.in1.handled = none := I.ok.hd hc
  refine call_sum_walkG (wpAny_pyIter_list pl.isList ⟨s.heap.objs.size, _, _, _, _, _, fun i => ns.getD i 0, rfl, Walks.list hh s.heap.objs.size p (Nat.ne_of_lt plt) its.toArray, ⟨⟨_, Heap.get?_push_size _ rfl, rfl, rfl⟩, pl.isList.push _⟩, fun b hb => ?_, fun i v hv => ?_, fun h' tk t' k => ?_⟩)
  · show b < (s.heap.push _).objs.size
    rw [Heap.size_push]
    have : b = s.heap.objs.size ∨ b = p := by simpa using hb
    rcases this with rfl | rfl
    · exact Nat.lt_succ_self _
    · exact Nat.lt_succ_of_lt plt
  · have hv' : its[i]? = some v := by simpa using hv
    have hi : i < ns.length := by rw [← hlen]; exact (List.getElem?_eq_some_iff.mp hv').1
    obtain ⟨u, hu, ru⟩ := rv.get (i := i) (x := .int ns[i]) (by rw [List.getElem?_map, List.getElem?_eq_getElem hi]; rfl)
    rw [hv'] at hu; cases hu
    obtain ⟨t, rfl⟩ := ru
    refine ⟨t, ?_⟩
    show Value.int ns[i] t = Value.int (ns.getD i 0) t
    rw [List.getD_eq_getElem?_getD, List.getElem?_eq_getElem hi]
    rfl
  · have e : its.toArray.size = ns.length := by rw [List.size_toArray, hlen]
    rw [e, preSum_getD, List.take_length]
    refine ⟨.int ns.sum, H, ?_, ⟨_, rfl⟩, q⟩
    have I1 : Inv X pins σ H { s with heap := s.heap.push { cls := .type "list_iterator", data := .fields #[.ref p, .int 0 0] } } := I.kept (t' := s.toks) fun b o z => Heap.get?_push_of_some _ z
    refine I1.turnMany (t' := tk) (ch := [s.heap.objs.size]) (fun b hb => ?_) fun b o hb z => k b o (by simpa using hb) z
    have : b = s.heap.objs.size := by simpa using hb
    subst this
    exact I.fpOk (Nat.le_refl _) (I.hok.fresh (Nat.le_refl _))
theorem op_neLI (hu : X.A.units + 64 < cLine) : OpR X (compareOp .NotEq) (fun x y H Q => ∃ (p p2 : Addr) (ns ms : List Int), x = .ref p ∧ y = .ref p2 ∧ SqL X.K H p (ns.map V.int) ∧ SqL X.K H p2 (ms.map V.int) ∧ Q (.bl (!decide (ns = ms))) H) := by
  intro pins s σ H x y v u Q I rx ry h
  obtain ⟨p, p2, ns, ms, rfl, rfl, h1, h2, q⟩ := h
  cases rx
  cases ry
  obtain ⟨its, r1, l1, _⟩ := I.list h1
  obtain ⟨its2, r2, l2, _⟩ := I.list h2
  exact PySem.W.ke_ne_ints l1.isList l2.isList (intsAre_of r1) (intsAre_of r2) hu ⟨.bl _, H, I, rfl, q⟩
end
end L2
set_option maxRecDepth 100000
namespace L2
open PySem PySem.Spec PyProof.Rows
section
variable {X : Cx}
end
section
variable {prog : Program} {w : World} {A : Around} {E : Value → Shared → Prop} {s : Shared}
end
section
variable {X : Cx}
variable {o e : Expr} {es : List Expr} {to : TE} {t : TA} {name : Str} {apos cpos : Pos} {id : String} {r : V → List V → Hp → VK → Prop}
end
end L2
namespace L2
open PySem PySem.Spec PyProof.Rows
section
variable {X : Cx}
end
end L2
namespace L2
open PySem PySem.Spec PyProof.Rows
theorem count_eqU {x : V} : ∀ {xs : List V} {us : List Value}, Vals xs us → xs.all flatV = true → us.countP (eqU x) = xs.countP fun y => eqV y x
  | _, _, .nil, _ => rfl
  | y :: xs, u :: us, .cons r t, f => by
    rw [List.all_cons, Bool.and_eq_true] at f
    rw [List.countP_cons, List.countP_cons, eqU_of r f.1, count_eqU t f.2]
section
variable {X : Cx}
noncomputable def rCount : V → List V → Hp → VK → Prop := fun x vs H Q => ∃ (l : Addr) (xs : List V) (y : V), x = .ref l ∧ vs = [y] ∧ H l = some (.lst xs) ∧ flatV y = true ∧ xs.all flatV = true ∧ Q (.int ((xs.countP fun z => eqV z y : Nat) : Int)) H
theorem mt_count : MtR X "list.count" rCount := by
  intro pins s σ H x vs v us Q I rx rv h
  obtain ⟨l, xs, y, rfl, rfl, hH, fy, fs, q⟩ := h
  cases rx
  obtain ⟨u, rfl, ru⟩ := rv.one
  obtain ⟨z, its, n, r, hl, e⟩ := I.lstM hH
  refine call_meets F.slot_list_count ⟨_, e, rfl⟩ F.entry_list_count (F.args_list_count_2 _ _) (SeqAt.list_countAt l its.toArray n none #[] u (eqU y)) ⟨e, fun w hw => mem_eqAt ru fy r fs w (by simpa using hw), ?_⟩
  refine ⟨.int ((xs.countP fun z => eqV z y : Nat) : Int), H, I.tok _, ⟨s.toks, ?_⟩, q⟩
  rw [← count_eqU r fs]
end
end L2
set_option maxRecDepth 100000
namespace PySem
namespace R4
theorem tuple_no_reversed : typeLookup (.type "tuple") "__reversed__" = pure none := by rw [typeLookup_type, builtinLookup_eq_fast]; kernel_rfl
theorem slot_next : Slot "reversed" "__next__" "reversed.__next__" :=
  .of (owner := "reversed") (n := "__next__") (by rw [typeLookup_type, builtinLookup_eq_fast]; kernel_rfl) (by decide +kernel) (by decide +kernel) (by decide +kernel)
    (by first | exact .inl (by decide +kernel) | exact .inr (by decide +kernel)) (by rw [isSubtype_type]; kernel_rfl)
theorem entry_next : entryFor table "reversed.__next__" = some Builtin.«reversed.__next__» := entryFor_of_tree (by kernel_rfl)
theorem owner_rev : Manifest.owners.lookup (String.ofList ['d', 'e', 's', 'r', 'e', 'v', 'e', 'r'].reverse) = some Manifest.sig_reversed := by kernel_rfl
theorem args_next_1 (a : Value) : argsOk "reversed.__next__" ⟨[a], []⟩ := by
  unfold argsOk; rw [signature?_of (id := "reversed.__next__") (n := ['_', '_', 't', 'x', 'e', 'n', '_', '_']) (o := ['d', 'e', 's', 'r', 'e', 'v', 'e', 'r']) (by kernel_rfl) owner_rev]; kernel_rfl
theorem slot_iter : Slot "reversed" "__iter__" "reversed.__iter__" :=
  .of (owner := "reversed") (n := "__iter__") (by rw [typeLookup_type, builtinLookup_eq_fast]; kernel_rfl) (by decide +kernel) (by decide +kernel) (by decide +kernel)
    (by first | exact .inl (by decide +kernel) | exact .inr (by decide +kernel)) (by rw [isSubtype_type]; kernel_rfl)
theorem args_iter_1 (a : Value) : argsOk "reversed.__iter__" ⟨[a], []⟩ := by
  unfold argsOk; rw [signature?_of (id := "reversed.__iter__") (n := ['_', '_', 'r', 'e', 't', 'i', '_', '_']) (o := ['d', 'e', 's', 'r', 'e', 'v', 'e', 'r']) (by kernel_rfl) owner_rev]; kernel_rfl
theorem entry_iter : entryFor table "reversed.__iter__" = some Builtin.«dict_keyiterator.__iter__» :=
  entryFor_alias (id' := "dict_keyiterator.__iter__") (by kernel_rfl) (by first | rfl | decide +kernel | (unfold String.splitOn; simp +decide [String.splitOnAux])) (by decide +kernel) (by kernel_rfl)
theorem mro_reversed : mroOf (.type "reversed") = pure [.type "reversed", .type "object"] := by rw [mroOf_type]; kernel_rfl
theorem lookup_reversed_new : typeLookup (.type "reversed") "__new__" = pure (some (.builtin "reversed.__new__")) := by rw [typeLookup_type, builtinLookup_eq_fast]; kernel_rfl
theorem typeCall_reversed_1 (a : Value) : checkTypeCall "reversed" ⟨[a], []⟩ = pure () := by kernel_rfl
theorem newCall_reversed_1 (a : Value) : checkBuiltinCall "reversed.__new__" ⟨[.type "reversed", a], []⟩ = pure () := by kernel_rfl
theorem entry_reversed_new : entryFor table "reversed.__new__" = some Builtin.«reversed.__new__» := entryFor_of_tree (by kernel_rfl)
theorem sub_reversed_self : isSubtype (.type "reversed") (.type "reversed") = pure true := by rw [isSubtype_type]; kernel_rfl
theorem slot_init : Slot "reversed" "__init__" "object.__init__" :=
  .of (owner := "object") (n := "__init__") (by rw [typeLookup_type, builtinLookup_eq_fast]; kernel_rfl) (by decide +kernel) (by decide +kernel) (by decide +kernel)
    (by first | exact .inl (by decide +kernel) | exact .inr (by decide +kernel)) (by rw [isSubtype_type]; kernel_rfl)
theorem called_reversed : TypeCalled "reversed" "reversed.__new__" "object.__init__" :=
  ⟨by decide +kernel, by decide +kernel, ⟨_, _, mro_reversed⟩, madeBy_type mro_reversed lookup_reversed_new (by decide +kernel), by decide +kernel, by rw [isSubtype_type]; kernel_rfl, slot_init⟩
end R4
open PyProof.Rows
section
variable {prog : Program} {w : World} {A : Around} {E : Value → Shared → Prop} {s : Shared}
noncomputable def revT (t : Addr) (i : Int) : Obj := { cls := .type "reversed", data := .fields #[.ref t, rawInt i] }
set_option maxHeartbeats 1000000 in
theorem meets_reversed_newT (t : Addr) (items : Array Value) :
    Meets (Builtin.«reversed.__new__» ⟨[.type "reversed", .ref t], []⟩) (fun _ R s => IsTup s.heap t items ∧ (items.size : Int) < 2 ^ 63 ∧
      R (.ok (.ret (.ref s.heap.objs.size))) { s with heap := s.heap.push (revT t ((items.size : Int) - 1)), toks := s.toks + 1 + 1 }) :=
  .of_wp fun prog w A R s h => by
    obtain ⟨ht, hfit, h⟩ := h
    have hsub := R4.sub_reversed_self
    unfold Builtin.«reversed.__new__»
    refine wpAny_bind (wpAny_of_eq (a := (Value.type "reversed", [Value.ref t])) (by
      unfold Builtin.SmallTypes.newClass
      simp only [isType, hsub, pure_bind, Bool.not_true, Bool.false_eq_true, if_false]) ?_)
    try dsimp only
    refine wpAny_bind (wpAny_of_eq (a := ()) (by first | rfl | kernel_rfl) ?_)
    refine wpAny_bind (wpAny_of_eq (a := ()) (by first | rfl | kernel_rfl) ?_)
    try dsimp only
    refine wpAny_bind (wpAny_specialOf ht.typeIs R4.tuple_no_reversed ?_)
    try dsimp only
    refine wpAny_bind ?_
    wp_delta
    refine wpAny_bind (wpAny_isInstance (T := "tuple") (b := false) ht.typeIs (by rw [isSubtype_type]; kernel_rfl) ?_)
    try dsimp only
    rw [if_neg (by decide)]
    refine wpAny_bind (wpAny_specialOf ht.typeIs slot_tuple_getitem.lookup ?_)
    try dsimp only
    rw [if_pos (by decide +kernel)]
    refine wpAny_pure ?_
    rw [if_neg (by decide)]
    refine wpAny_bind (len_tuple ht hfit ?_)
    refine wpAny_bind (m := asInt? _) (wpAny_pure ?_)
    refine wpAny_bind (m := Builtin.SmallTypes.newRecord _ _) (show wpAny _ _ (newObj (.type "reversed") (.fields [Value.ref t, rawInt ((items.size : Int) - 1)].toArray)) _ _ _ from wpAny_newObj_type ?_ (by size_fits))
    exact wpAny_pure ⟨_, rfl, h⟩
theorem call_reversed_tuple {t : Addr} {items : Array Value} {Q : Value → Shared → Prop} (ht : IsTup s.heap t items) (hfit : (items.size : Int) < 2 ^ 63)
    (h : Q (.ref s.heap.objs.size) { s with heap := s.heap.push (revT t ((items.size : Int) - 1)), toks := s.toks + 1 + 1 }) : wpAny (model prog w) A (call (.type "reversed") [.ref t]) Q E s := by
  refine callType_new R4.called_reversed (by decide) (R4.typeCall_reversed_1 _) (R4.newCall_reversed_1 _) (fun obj => F.args_object_init_2 obj _) R4.entry_reversed_new (meets_reversed_newT t items) ⟨ht, hfit, ?_⟩
  exact ⟨⟨_, Heap.get?_push_size _ rfl, rfl⟩, h⟩
noncomputable def Heap.IsRevT (h : Heap) (a t : Addr) (i : Int) : Prop := ∃ o, h.get? a = some o ∧ o.cls = .type "reversed" ∧ o.data = .fields #[.ref t, rawInt i]
theorem Heap.IsRevT.typeIs {a t : Addr} {i : Int} (x : s.heap.IsRevT a t i) : s.TypeIs (.ref a) "reversed" := let ⟨o, ho, hc, _⟩ := x; ⟨o, ho, hc⟩
theorem Heap.IsRevT.at {h h' : Heap} {a t : Addr} {i : Int} (x : h.IsRevT a t i) (e : ∀ o, h.get? a = some o → h'.get? a = some o) : h'.IsRevT a t i := let ⟨o, ho, r⟩ := x; ⟨o, e _ ho, r⟩
theorem wpAny_pyNext_revT_item {it t : Addr} {i : Nat} {items : Array Value} {x : Value} {Q : Option Value → Shared → Prop} (hit : s.heap.IsRevT it t (i : Int)) (ht : IsTup s.heap t items) (hfit : (items.size : Int) < 2 ^ 63) (hx : items[i]? = some x)
    (hQ : ∀ h' tk, h'.IsRevT it t ((i : Int) - 1) → Heap.SameBut it s.heap h' → Q (some x) { s with heap := h', toks := tk }) : wpAny (model prog w) A (pyNext (.ref it)) Q E s := by
  obtain ⟨o, ho, hc, hd⟩ := id hit
  unfold pyNext
  refine wpAny_bind (wpAny_attempt (wpAny_callSpecial?_slot (name := Str.ofString "__next__") hit.typeIs R4.slot_next
    (wpAny_call_entry R4.slot_next hit.typeIs R4.entry_next ?_ (R4.args_next_1 _))))
  unfold Builtin.«reversed.__next__»
  refine wpAny_bind (wpAny_of_eq (a := (Value.ref it, [])) rfl ?_)
  try dsimp only
  refine wpAny_bind (wpAny_field ho hd (x := .ref t) rfl ?_)
  refine wpAny_bind (wpAny_field ho hd (x := rawInt (i : Int)) rfl ?_)
  show wpAny _ _ (if (i : Int) < 0 then _ else _) _ _ s
  rw [if_neg (by omega)]
  refine wpAny_bind (wpAny_specialOf ht.typeIs slot_tuple_getitem.lookup ?_)
  rw [if_neg (by decide)]
  refine wpAny_bind (wpAny_mkInt ?_)
  have hlt : i < items.size := (Array.getElem?_eq_some_iff.mp hx).1
  refine wpAny_bind (wpAny_attempt (getItem_tuple (j := i) ht (by omega) (by omega) (by unfold seqIndex?; simp; omega) hx ?_))
  try dsimp only
  refine wpAny_bind (wpAny_field ho hd (x := rawInt (i : Int)) rfl ?_)
  refine wpAny_bind (wpAny_setField ho hd (by simp) ?_)
  refine wpAny_pure ⟨x, rfl, wpAny_pure (hQ _ _ ?_ (Heap.SameBut.update ..))⟩
  exact ⟨_, Heap.get?_update_self _ ho (Obj.isFreed_of_fields (Obj.data_mapFields hd _)), (Obj.cls_mapFields ..).trans hc, by
    rw [Obj.data_mapFields hd]; simp⟩
theorem wpAny_pyNext_revT_end {it t : Addr} {Q : Option Value → Shared → Prop} (hh : A.handled = none) (hit : s.heap.IsRevT it t (-1))
    (hQ : ∀ h', Heap.ExtBut it s.heap h' → Q none { s with heap := h' }) : wpAny (model prog w) A (pyNext (.ref it)) Q E s := by
  obtain ⟨o, ho, hc, hd⟩ := id hit
  unfold pyNext
  refine wpAny_bind (wpAny_attempt (wpAny_callSpecial?_slot (name := Str.ofString "__next__") hit.typeIs R4.slot_next
    (wpAny_call_entry R4.slot_next hit.typeIs R4.entry_next ?_ (R4.args_next_1 _))))
  unfold Builtin.«reversed.__next__»
  refine wpAny_bind (wpAny_of_eq (a := (Value.ref it, [])) rfl ?_)
  try dsimp only
  refine wpAny_bind (wpAny_field ho hd (x := .ref t) rfl ?_)
  refine wpAny_bind (wpAny_field ho hd (x := rawInt (-1)) rfl ?_)
  show wpAny _ _ (if (-1 : Int) < 0 then _ else _) _ _ s
  rw [if_pos (by decide)]
  refine wpAny_bind (wpAny_rule ?_)
  refine wpAny_bind ?_
  wp_delta
  refine wpAny_bind (wpAny_setField ho hd (by simp) ?_)
  have ho2 := Heap.get?_update_self (h := s.heap) (Obj.mapFields fun vs => vs.set! 1 (rawInt (-1))) ho (Obj.isFreed_of_fields (Obj.data_mapFields hd _))
  refine wpAny_setField ho2 (Obj.data_mapFields hd _) (by simp) ?_
  refine wpAny_bind ?_
  show wpAny _ _ (newExc (.type "StopIteration") [] >>= _) _ _ _
  refine wpAny_bind ?_
  simp only [newExc, newTuple]
  refine wpAny_bind (wpAny_newObj_type ?_ (by size_fits))
  refine wpAny_bind (m := firstArgMember _ _) (wpAny_of_eq (a := Value.none) (by first | rfl | (simp only [firstArgMember]; rfl)) ?_)
  refine wpAny_newObj_type ?_ (by size_fits)
  simp only [raiseNew]
  refine wpAny_bind (wpAny_handled ?_)
  first | rw [show A.in1.handled = none from hh] | rw [hh]
  refine wpAny_bind (wpAny_pure (wpAny_throw ?_))
  refine wpAny_bind (wpAny_isInstance (T := "StopIteration") (b := true) ⟨_, Heap.get?_push_size _ rfl, rfl⟩ isSubtype_stop ?_)
  exact wpAny_pure (hQ _ fun b o hb e => Heap.get?_push_of_some _ (Heap.get?_push_of_some _ ((Heap.get?_update_other _ _ (Ne.symm hb)).trans ((Heap.get?_update_other _ _ (Ne.symm hb)).trans e))))
theorem wpAny_pyIter_revT {it t : Addr} {i : Int} {Q : Value → Shared → Prop} (hit : s.heap.IsRevT it t i) (h : Q (.ref it) s) : wpAny (model prog w) A (pyIter (.ref it)) Q E s := by
  refine wpAny_pyIter_slot hit.typeIs R4.slot_iter (wpAny_call_entry R4.slot_iter hit.typeIs R4.entry_iter ?_ (R4.args_iter_1 _))
  show wpAny _ _ (ret (.ref it)) _ _ s
  exact wpAny_pure ⟨_, rfl, "reversed", _, hit.typeIs, R4.slot_next.lookup, h⟩
end
section
variable {prog : Program} {w : World} {A : Around} {E : Value → Shared → Prop} {s : Shared} {I : Addr} {fp wr : List Addr} {G : Array GenState → Array GenState → Prop} {n : Nat} {P : Nat → Value → Prop} {St : Nat → Shared → Prop}
theorem revL_no_len : typeLookup (.type "list_reverseiterator") "__len__" = pure none := by rw [typeLookup_type, builtinLookup_eq_fast]; kernel_rfl
theorem revL_hint : typeLookup (.type "list_reverseiterator") "__length_hint__" = pure (some (.builtin "list_reverseiterator.__length_hint__")) := by rw [typeLookup_type, builtinLookup_eq_fast]; kernel_rfl
theorem wpAny_hint_revL {Q : Bool → Shared → Prop} (hT : s.TypeIs (.ref I) "list_reverseiterator") (h : Q false s) : wpAny (model prog w) A (Builtin.List.listLengthHint (.ref I)) Q E s := by
  unfold Builtin.List.listLengthHint
  refine wpAny_bind (wpAny_specialOf hT revL_no_len ?_)
  show wpAny _ A (specialOf (Value.ref I) (Str.ofString "__length_hint__") >>= _) _ _ _
  refine wpAny_bind (wpAny_specialOf hT revL_hint ?_)
  generalize hid : ("list_reverseiterator.__length_hint__" : String) = id0
  wp_delta
  rw [show splitId id0 = some ("list_reverseiterator", "__length_hint__") from by subst hid; decide +kernel]
  subst hid
  refine wpAny_bind (wpAny_isInstance (T := "list_reverseiterator") (b := true) hT (by rw [isSubtype_type]; kernel_rfl) ?_)
  refine wpAny_ite_split (fun hab => absurd hab (by decide)) (fun _ => ?_)
  refine wpAny_ite_split (fun _ => ?_) (fun hab => absurd (by decide +kernel) hab)
  refine wpAny_ite_split (fun hab => absurd hab (by decide +kernel)) (fun _ => ?_)
  exact wpAny_pure h
theorem wpAny_collect_rev {Q : List Value → Shared → Prop} (W : WalksS prog w A.in1 I fp wr G n P St) (hT : ∀ i s, St i s → s.TypeIs (.ref I) "list_reverseiterator") (hst : St 0 s) (hfp : ∀ b ∈ fp, b < s.heap.objs.size) (hI : I ∈ fp)
    (hQ : ∀ s' acc, Moved wr G s s' → ItemsOf P acc n → Q acc.toList s') (hn : n ≤ sizeLine := by size_fits) : wpAny (model prog w) A (collect (.ref I)) Q E s := by
  have hSf : s.heap.objs.size ∉ fp := fun hm => Nat.lt_irrefl _ (hfp _ hm)
  have hSI : s.heap.objs.size ≠ I := fun e => hSf (e ▸ hI)
  unfold collect
  refine wpAny_bind (wpAny_runValue (codeAny_builtin F.entry_proto_collect ?_))
  rw [Around.under_plainId F.plain_proto_collect _]
  show wpAny _ A.in1 (newList [] >>= fun l => again (.builtin "list.__iadd__" ⟨[l, .ref I], []⟩)) _ _ s
  refine wpAny_bind (wpAny_newObj_type ?_)
  refine wpAny_pure ⟨plainId_quiet F.plain_list_iadd _, codeAny_builtin F.entry_list_iadd ?_⟩
  rw [Around.under_plainId F.plain_list_iadd _]
  have hst₁ := W.frame 0 s (s.heap.push { cls := .type "list", data := .seq ([] : List Value).toArray }) s.toks hst (Nat.le_refl _) fun b _ o e => Heap.get?_push_of_some _ e
  show wpAny _ A.in1 (Builtin.List.listExtendWith (.ref s.heap.objs.size) (.ref I) (.ref s.heap.objs.size)) _ _ _
  unfold Builtin.List.listExtendWith
  refine wpAny_bind (wpAny_typeOf (hT 0 _ hst₁) ?_)
  have h1 : Builtin.List.listSameRef (.ref s.heap.objs.size) (.ref I) = false := by simp [Builtin.List.listSameRef, hSI]
  have h2 : (Value.type "list_reverseiterator" == Value.type "list") = false := by decide
  have h3 : (Value.type "list_reverseiterator" == Value.type "tuple") = false := by decide
  simp only [h1, h2, h3, Bool.or_false, Bool.false_eq_true, if_false]
  refine wpAny_bind (W.self 0 _ _ _ hst₁ ?_)
  refine wpAny_bind (wpAny_holding ?_)
  refine wpAny_hint_revL (hT 0 _ hst₁) ?_
  rw [if_neg (by decide)]
  have hS₁ : (s.heap.push { cls := .type "list", data := .seq ([] : List Value).toArray }).get? s.heap.objs.size = some { cls := .type "list", data := .seq ([] : List Value).toArray } := Heap.get?_push_size _ rfl
  refine wpAny_pure ⟨plainId_quiet F.plain_extend_loop _, codeAny_extend_loopS W hn _ hSf _ n 0 _ _ _ rfl (Nat.zero_le _) hst₁ hS₁ (ItemsOf.nil P) fun s' acc' c' hm hS' hacc => ?_⟩
  show wpAny _ A (load s.heap.objs.size >>= _) _ _ s'
  refine wpAny_bind (wpAny_load hS' ?_)
  exact wpAny_pure (hQ s' acc' (Moved.drop_new (o := { cls := .type "list", data := .seq ([] : List Value).toArray }) (tk := s.toks) hm (Nat.le_refl _)) hacc)
theorem code_tuple_new_rev {Q₁ : Value → Shared → Prop} (W : WalksS prog w A.in1.in1 I fp wr G n P St) (hT : ∀ i s, St i s → s.TypeIs (.ref I) "list_reverseiterator") (hst : St 0 s) (hfp : ∀ b ∈ fp, b < s.heap.objs.size) (hI : I ∈ fp)
    (h : ∀ s' acc, Moved wr G s s' → ItemsOf P acc n → Q₁ (.ref s'.heap.objs.size) { s' with heap := s'.heap.push { cls := .type "tuple", data := .seq acc } }) (hsz : n ≤ sizeLine := by size_fits) :
    codeAny (model prog w) A (.call (.builtin "tuple.__new__") ⟨[.type "tuple", .ref I], []⟩) (wants Q₁ E) s := by
  refine codeAny_of_tree ?_
  show wpAny _ A.in1 (do checkBuiltinCall "tuple.__new__" ⟨[.type "tuple", .ref I], []⟩; again (.builtin "tuple.__new__" ⟨[.type "tuple", .ref I], []⟩)) _ _ s
  refine wpAny_bind (wpAny_of_eq (F.newCall_tuple_1 _) (wpAny_pure ⟨plainId_quiet F.plain_tuple_new _, codeAny_builtin F.entry_tuple_new ?_⟩))
  rw [Around.under_plainId F.plain_tuple_new _]
  have hsub := sub_tuple_self
  have hinit := init_tuple_lookup
  have hmh := madeHere_tuple
  have hTI := hT 0 s hst
  wp_walk using wpAny_typeOf hTI, wpAny_collect_rev (hn := hsz) W hT hst hfp hI
  intro s' acc hm hacc
  show wpAny _ _ (Builtin.Tuple.tupleExact acc.toList.toArray >>= fun v => ret v) _ _ _
  unfold Builtin.Tuple.tupleExact
  refine wpAny_bind (wpAny_newObj_type ?_ (by show acc.toList.toArray.size ≤ sizeLine; simp only [Array.toArray_toList]; rw [hacc.1]; exact hsz))
  refine wpAny_pure ?_
  have e : acc.toList.toArray = acc := by simp
  rw [e]
  exact h s' acc hm hacc
theorem call_tuple_rev {Q : Value → Shared → Prop} (W : WalksS prog w A.in1.in1.in1 I fp wr G n P St) (hT : ∀ i s, St i s → s.TypeIs (.ref I) "list_reverseiterator") (hst : St 0 s) (hfp : ∀ b ∈ fp, b < s.heap.objs.size) (hI : I ∈ fp)
    (hQ : ∀ s' acc, Moved wr G s s' → ItemsOf P acc n → Q (.ref s'.heap.objs.size) { s' with heap := s'.heap.push { cls := .type "tuple", data := .seq acc } }) (hsz : n ≤ sizeLine := by size_fits) :
    wpAny (model prog w) A (call (.type "tuple") [.ref I]) Q E s := by
  refine callType_codes (Q₁ := fun obj s₁ => s₁.TypeIs obj "tuple" ∧ Q obj s₁) F.called_tuple (F.typeCall_tuple_1 _) F.entry_object_init
    (code_tuple_new_rev (hsz := hsz) W hT hst hfp hI fun s' acc hm hacc => ⟨⟨_, Heap.get?_push_size _ rfl, rfl⟩, hQ s' acc hm hacc⟩) fun obj s₁ h₁ => ?_
  exact ⟨h₁.1, F.args_object_init_2 obj _, object_init_meets F.called_tuple.init.lookup F.called_tuple.made (by decide) prog w A.in1 _ s₁ ⟨h₁.1, rfl, h₁.2⟩⟩
end
end PySem
namespace L2
open PySem PySem.Spec PyProof.Rows
noncomputable def ItR (K : PySem.W.Frag) (a : Addr) (n : Nat) : It :=
  ⟨fun i H => i < n ∧ ∃ xs, SqT K H a xs ∧ xs.length = n, fun i H x H' => H' = H ∧ ∀ xs, SqT K H a xs → xs.length = n → xs[n - 1 - i]? = some x, fun i H => n ≤ i ∧ ∃ xs, SqT K H a xs ∧ xs.length = n⟩
theorem turn_revT {P : Program} {w : World} {K : PySem.W.Frag} {tg : Expr} (a it : Addr) (n : Nat) : Turn P w K tg (ItR K a n) [it] it (fun i h => i ≤ n ∧ h.IsRevT it a ((n : Int) - 1 - (i : Int))) where
  mem := by simp
  obj := fun i h st b hb => by
    have e : b = it := by simpa using hb
    subst e
    obtain ⟨_, o, e, c, d⟩ := st
    exact ⟨o, e, fun v z => by rw [d] at z; cases z⟩
  keep := fun i h h' st k => ⟨st.1, st.2.at fun o e => k it (by simp) o e⟩
  item := by
    intro X hP hw hK hc i pins s σ H E I hf st hg
    subst hP hw hK
    obtain ⟨hi, xs, hq, hn⟩ := hg
    obtain ⟨its, rv, p, hz⟩ := I.tuple hq
    have hl := rv.length
    have hj : n - 1 - i < xs.length := by omega
    obtain ⟨u, hu, ru⟩ := rv.get (List.getElem?_eq_getElem hj)
    obtain ⟨f0, f1, f2, f3, f4, f5⟩ := hf it (by simp)
    have e1 : (n : Int) - 1 - (i : Int) = ((n - 1 - i : Nat) : Int) := by omega
    have st2 := st.2
    rw [e1] at st2
    have h63 := line63
    refine wpAny_pyNext_revT_item st2 p (by rw [List.size_toArray]; omega) (x := u) (by simpa using hu) fun h' tk st' sb => ?_
    have I1 : Inv X pins σ H { s with heap := h', toks := tk } := I.turned (t' := tk) (fun b o hb e => (sb.2 b hb).trans e) f0 f1 f3 f4 f5
    obtain ⟨o, e, c, d⟩ := id st'
    have e2 : ((n - 1 - i : Nat) : Int) - 1 = (n : Int) - 1 - ((i + 1 : Nat) : Int) := by omega
    rw [e2] at st'
    exact ⟨u, rfl, go_of (s := { s with heap := h', toks := tk }) e c d (by decide) ⟨xs[n - 1 - i], H, I1, ru, ⟨rfl, fun ys hy hm => by rw [I.tuple_inj hy hq]; exact List.getElem?_eq_getElem hj⟩, ⟨hi, st'⟩, fun b hb => (hf b hb).1⟩⟩
  done := by
    intro X hP hw hK hc i pins s σ H E I hf st hg
    subst hP hw hK
    obtain ⟨hi, xs, hq, hx⟩ := hg
    obtain ⟨f0, f1, f2, f3, f4, f5⟩ := hf it (by simp)
    have e1 : (n : Int) - 1 - (i : Int) = -1 := by have := st.1; omega
    have st2 := st.2
    rw [e1] at st2
    exact wpAny_pyNext_revT_end (I.ok.hd hc) st2 fun h' eb => ⟨rfl, I.turned (t' := s.toks) (fun b o hb e => eb b o hb e) f0 f1 f3 f4 f5⟩
  self := fun _ _ _ _ _ st h => wpAny_pyIter_revT st.2 h
noncomputable def iRevT (K : PySem.W.Frag) (ta : TA) : TI := fun σ H R => ta σ H fun vs H1 => ∃ a xs, vs = [.ref a] ∧ SqT K H1 a xs ∧ R (ItR K a xs.length) H1
section
variable {X : Cx}
theorem pi_revT {tg a : Expr} {ta : TA} {p pos : Pos} (hg : Gl X "reversed") (hm : X.mg "reversed" = none) (ha : PA X [a] ta) (hs : starEach [a] X.env = [(false, eval a X.env)] := by rfl) :
    PI X tg (.Call (.Name "reversed" p) [a] [] pos) (iRevT X.K ta) := by
  intro pins s σ H R I h
  refine Call_ (ld_blt I hg hm L3.bt_reversed (PyProof.Rows.callWith_type1 (thn (ha pos pins s σ H _ I h) fun us s1 ⟨vs, H1, I1, r1, q1⟩ => ?_) hs rfl))
  obtain ⟨t, xs, e, hq, q⟩ := q1
  subst e
  obtain ⟨u, rfl, rx⟩ := vals1 r1
  cases rx
  obtain ⟨its, rv, pt, hz⟩ := I1.tuple hq
  have hl := rv.length
  have h63 := line63
  refine call_reversed_tuple pt (by rw [List.size_toArray]; omega) ?_
  have I2 : Inv X pins σ H1 { s1 with heap := s1.heap.push (revT t ((its.toArray.size : Int) - 1)), toks := s1.toks + 1 + 1 } := I1.kept (t' := s1.toks + 1 + 1) fun b o e => Heap.get?_push_of_some _ e
  have st : (s1.heap.push (revT t ((its.toArray.size : Int) - 1))).IsRevT s1.heap.objs.size t ((xs.length : Int) - 1 - ((0 : Nat) : Int)) := ⟨_, Heap.get?_push_size _ rfl, rfl, by
    show Data.fields #[.ref t, rawInt ((its.toArray.size : Int) - 1)] = Data.fields #[.ref t, rawInt ((xs.length : Int) - 1 - ((0 : Nat) : Int))]
    rw [List.size_toArray, ← hl]
    simp⟩
  refine wpAny_pyIter_revT st ⟨_, [s1.heap.objs.size], _, _, H1, rfl, I2, turn_revT t _ xs.length, ⟨Nat.zero_le _, st⟩, fun b hb => ?_, q⟩
  have e : b = s1.heap.objs.size := by simpa using hb
  subst e
  exact I1.fpOk (Nat.le_refl _) (I1.hok.fresh (Nat.le_refl _))
noncomputable def tTupRev (K : PySem.W.Frag) (te : TA) : TE := fun σ H Q => te σ H fun vs H1 => ∃ a xs, vs = [.ref a] ∧ SqL K H1 a xs ∧ ∀ t, H1 t = none → Q (.ref t) (upd H1 t (.tup xs.reverse))
theorem pe_tupRev {a : Expr} {ta : TA} {p pos p2 pos2 : Pos} (hc : X.calm = true) (hg : Gl X "tuple") (hm : X.mg "tuple" = none) (hg2 : Gl X "reversed") (hm2 : X.mg "reversed" = none) (ha : PA X [a] ta) (hs : starEach [a] X.env = [(false, eval a X.env)] := by rfl)
    (hs2 : starEach [.Call (.Name "reversed" p2) [a] [] pos2] X.env = [(false, eval (.Call (.Name "reversed" p2) [a] [] pos2) X.env)] := by rfl) : PE X (.Call (.Name "tuple" p) [.Call (.Name "reversed" p2) [a] [] pos2] [] pos) (tTupRev X.K ta) := by
  intro pins s σ H Q I h
  refine Call_ (ld_blt I hg hm L3.bt_tuple (PyProof.Rows.callWith_type1 ?_ hs2 rfl))
  rw [hs2]
  show wpAny _ _ (spliced ((false, eval (.Call (.Name "reversed" p2) [a] [] pos2) X.env) :: backTo pos [])) _ _ s
  refine Calls.spliced_cons ?_
  refine Call_ (ld_blt I hg2 hm2 L3.bt_reversed (PyProof.Rows.callWith_type1 (thn (ha pos2 pins s σ H _ I h) fun us s1 ⟨vs, H1, I1, r1, q1⟩ => ?_) hs rfl))
  obtain ⟨l, xs, e, hq, q⟩ := q1
  subst e
  obtain ⟨u, rfl, rx⟩ := vals1 r1
  cases rx
  obtain ⟨its, rv, pl, hz⟩ := I1.list hq
  have hl := rv.length
  refine call_reversed_list pl.isList ?_
  refine Calls.spliced_nil ?_
  have hlt : l < s1.heap.objs.size := by
    obtain ⟨o, ho, _⟩ := pl.isList
    exact Heap.lt_size ho
  have hh : X.A.in1.in1.in1.handled = none := I.ok.hd hc
  refine call_tuple_rev (Walks.toS (Walks.listRev hh s1.heap.objs.size l (Nat.ne_of_lt hlt) its.toArray)) (fun i s st => st.2.1.typeIs) ⟨Nat.zero_le _, ⟨_, Heap.get?_push_size _ rfl, rfl, by simp [revObj]⟩, pl.isList.push _⟩ (fun b hb => ?_) (by simp) (fun s' acc hm hacc => ?_) (by rw [List.size_toArray]; omega)
  · show b < (s1.heap.push _).objs.size
    rw [Heap.size_push]
    have : b = s1.heap.objs.size ∨ b = l := by simpa using hb
    rcases this with rfl | rfl
    · exact Nat.lt_succ_self _
    · exact Nat.lt_succ_of_lt hlt
  · obtain ⟨h', g', d', tk', os'⟩ := s'
    have e1 : g' = s1.gens := hm.gens
    have e2 : d' = s1.drawn := hm.drawn
    have e3 : os' = s1.os := hm.os
    subst e1 e2 e3
    have I2 : Inv X pins σ H1 { s1 with heap := h', toks := tk' } := I1.kept (t' := tk') fun b u e => hm.heap b u (by
      have := Heap.lt_size e
      simp only [List.mem_singleton]
      exact Nat.ne_of_lt this) (Heap.get?_push_of_some _ e)
    have ea : acc = its.reverse.toArray := by
      apply Array.ext'
      refine List.ext_getElem? fun j => ?_
      have hsz : acc.size = its.length := by rw [hacc.1, List.size_toArray]
      by_cases c : j < its.length
      · have h1 : acc[j]? = some (acc[j]'(by omega)) := Array.getElem?_eq_getElem (by omega)
        have h2 := hacc.2 j _ h1
        rw [List.size_toArray] at h2
        show acc.toList[j]? = its.reverse[j]?
        rw [List.getElem?_reverse c, Array.getElem?_toList, h1]
        simpa using h2.symm
      · rw [List.getElem?_eq_none (by rw [Array.length_toList]; omega), List.getElem?_eq_none (by rw [List.length_reverse]; omega)]
    subst ea
    refine ⟨.ref h'.objs.size, _, I2.laid (t' := tk') (o := .tup xs.reverse) (fun b u e => Heap.get?_push_of_some _ e) (Nat.le_refl _) ?_, rfl, q _ (I2.hok.fresh (Nat.le_refl _))⟩
    exact ⟨by rw [List.length_reverse]; exact hz, its.reverse, rv.reverse, IsTup.new _ _, _, Heap.get?_push_size _ rfl, rfl⟩
end
end L2
namespace HT
open PySem PyProof.Rows
section
open PySem.SeqAt
open PySem.AutoSeq1 (wpAny_loadPart')
open PySem.MeetsSeq PySem.MeetsSeq2 PySem.MeetsSeq3
end
section
variable {prog : Program} {w : World} {A : Around} {E : Value → Shared → Prop} {s : Shared}
end
end HT
namespace L2
open PySem PySem.Spec PyProof.Rows
section
variable {X : Cx}
end
theorem rangeSize_down (a b : Int) : Builtin.Range.rangeSize a b (-1) = if a > b then a - b else 0 := by
  unfold Builtin.Range.rangeSize
  rw [if_neg (by decide), show -(-1 : Int) = 1 from rfl, Int.ediv_one]
  split <;> omega
theorem small_down {a b : Int} (ha : -(2 ^ 62) ≤ a) (ha' : a < 2 ^ 62) (hb : -(2 ^ 62) ≤ b) (hb' : b < 2 ^ 62) : Builtin.Range.small a b (-1) = true := by
  unfold Builtin.Range.small
  rw [rangeSize_down]
  simp only [Builtin.Range.rangeFitsLong, Bool.and_eq_true, Bool.or_eq_true, decide_eq_true_eq, beq_iff_eq, show ¬ ((-1 : Int) > 0) by decide, if_false]
  split <;> omega
section
variable {X : Cx} {tg : Expr}
end
end L2
namespace L2
open PySem PySem.Spec PyProof.Rows
theorem for_rev {K : PySem.W.Frag} {a : Addr} {xs : List V} {g : TG} {tb : TS} {D : Ends} {σ : St} {H : Hp} (Pv : Nat → St → Hp → Prop) (h0 : Pv 0 σ H) (hl : ∀ i σ H, i ≤ xs.length → Pv i σ H → SqT K H a xs)
    (hs : ∀ i x σ H, i < xs.length → xs[xs.length - 1 - i]? = some x → Pv i σ H → g x σ H fun σ2 H2 => tb { D with nx := Pv (i + 1), ct := Pv (i + 1), bk := D.nx } σ2 H2) (hd : ∀ σ H, Pv xs.length σ H → D.nx σ H) :
    ∃ W : Nat → Nat → St → Hp → Prop, (∃ m, W 0 m σ H) ∧ ∀ i m σ H, W i m σ H →
      ((ItR K a xs.length).stop i H ∧ D.nx σ H) ∨ ((ItR K a xs.length).go i H ∧ ∃ N : St → Hp → Prop, (∀ σ' H', N σ' H' → ∃ m', m' < m ∧ W (i + 1) m' σ' H') ∧ ∀ x H', (ItR K a xs.length).yld i H x H' → g x σ H' fun σ2 H2 => tb { D with nx := N, ct := N, bk := D.nx } σ2 H2) := by
  refine ⟨fun i m σ H => m = xs.length - i ∧ i ≤ xs.length ∧ Pv i σ H, ⟨xs.length, by simp, Nat.zero_le _, h0⟩, ?_⟩
  rintro i m σ H ⟨rfl, hi, p⟩
  have q := hl i σ H hi p
  by_cases hlt : i < xs.length
  · refine .inr ⟨⟨hlt, xs, q, rfl⟩, Pv (i + 1), fun σ' H' p' => ⟨xs.length - (i + 1), by omega, rfl, hlt, p'⟩, fun x H' y => ?_⟩
    obtain ⟨e, y⟩ := y
    subst e
    exact hs i x σ _ hlt (y xs q rfl) p
  · have e : i = xs.length := by omega
    subst e
    exact .inl ⟨⟨Nat.le_refl _, xs, q, rfl⟩, hd σ H p⟩
end L2
set_option maxRecDepth 100000
set_option maxHeartbeats 2000000
namespace L2
open PySem PySem.Spec PyProof.Rows
section
variable {κ : Type} [DecidableEq κ]
noncomputable def valV (kvs : List (κ × V)) (k : κ) : Option V := (kvs.find? fun kv => decide (kv.1 = k)).map (·.2)
noncomputable def putK (kvs : List (κ × V)) (k : κ) (v : V) : List (κ × V) :=
  if (kvs.any fun kv => decide (kv.1 = k)) = true then kvs.map (fun kv => if kv.1 = k then (kv.1, v) else kv) else kvs ++ [(k, v)]
noncomputable def dropK (kvs : List (κ × V)) (k : κ) : List (κ × V) := kvs.filter fun kv => decide (kv.1 ≠ k)
theorem valV_pos {p : κ × V} {r : List (κ × V)} {k : κ} (e : p.1 = k) : valV (p :: r) k = some p.2 := by simp [valV, List.find?_cons, e]
theorem valV_neg {p : κ × V} {r : List (κ × V)} {k : κ} (e : ¬ p.1 = k) : valV (p :: r) k = valV r k := by simp [valV, List.find?_cons, e]
theorem valV_any (k : κ) : ∀ kvs : List (κ × V), (kvs.any fun kv => decide (kv.1 = k)) = (valV kvs k).isSome
  | [] => rfl
  | p :: r => by
    rw [List.any_cons]
    by_cases e : p.1 = k
    · simp only [valV_pos e, decide_eq_true e, Bool.true_or, Option.isSome_some]
    · rw [valV_neg e, decide_eq_false e, Bool.false_or]; exact valV_any k r
theorem valV_snoc (k j : κ) (y : V) : ∀ kvs : List (κ × V), valV kvs k = none → valV (kvs ++ [(k, y)]) j = if j = k then some y else valV kvs j
  | [], _ => by
    by_cases e : k = j
    · rw [if_pos e.symm]; exact valV_pos (p := (k, y)) e
    · rw [if_neg (fun z => e z.symm)]; exact valV_neg (p := (k, y)) e
  | p :: r, hn => by
    rw [List.cons_append]
    have hk : ¬ p.1 = k := fun z => by rw [valV_pos z] at hn; cases hn
    rw [valV_neg hk] at hn
    have ih := valV_snoc k j y r hn
    by_cases e : p.1 = j
    · rw [valV_pos e, valV_pos e, if_neg (fun z => hk (e.trans z))]
    · rw [valV_neg e, valV_neg e, ih]
theorem length_putK (kvs : List (κ × V)) (k : κ) (v : V) : (putK kvs k v).length ≤ kvs.length + 1 := by
  unfold putK
  split
  · rw [List.length_map]; omega
  · rw [List.length_append, List.length_cons, List.length_nil]; omega
theorem putK_new {kvs : List (κ × V)} {k : κ} (v : V) (h : valV kvs k = none) : putK kvs k v = kvs ++ [(k, v)] := by
  unfold putK
  rw [valV_any, h]
  exact if_neg (by decide)
theorem RelO.isSome_eq {o : Option V} {u : Option Value} (r : RelO o u) : o.isSome = u.isSome := by
  cases o with
  | none => cases u with
    | none => rfl
    | some _ => exact (show False from r).elim
  | some _ => cases u with
    | none => exact (show False from r).elim
    | some _ => rfl
theorem RelO.getD {o : Option V} {u : Option Value} {d : V} {d' : Value} (r : RelO o u) (rd : RelV d d') : RelV (o.getD d) (u.getD d') := by
  cases o with
  | none => cases u with
    | none => exact rd
    | some _ => exact (show False from r).elim
  | some _ => cases u with
    | none => exact (show False from r).elim
    | some _ => exact r
theorem KV.val {kvs : List (κ × V)} {vs : List (κ × Value)} (r : KV kvs vs) (k : κ) : RelO (valV kvs k) (valueAt vs k) := by
  unfold KV at r
  induction r with
  | nil => exact True.intro
  | @cons p q ps qs h t ih =>
    obtain ⟨h1, h2⟩ := h
    by_cases e : p.1 = k
    · have e' : q.1 = k := h1.symm.trans e
      have b : valueAt (q :: qs) k = some q.2 := by simp [valueAt, List.find?_cons, e']
      rw [valV_pos e, b]; exact h2
    · have e' : ¬ q.1 = k := fun z => e (h1.trans z)
      have b : valueAt (q :: qs) k = valueAt qs k := by simp [valueAt, List.find?_cons, e']
      rw [valV_neg e, b]; exact ih
theorem KV.any {kvs : List (κ × V)} {vs : List (κ × Value)} (r : KV kvs vs) (k : κ) : (kvs.any fun kv => decide (kv.1 = k)) = vs.any fun kv => decide (kv.1 = k) := by
  unfold KV at r
  induction r with
  | nil => rfl
  | cons h t ih => rw [List.any_cons, List.any_cons, ih, h.1]
theorem KV.repl {kvs : List (κ × V)} {vs : List (κ × Value)} (r : KV kvs vs) (k : κ) {y : V} {u : Value} (ry : RelV y u) :
    KV (kvs.map fun kv => if kv.1 = k then (kv.1, y) else kv) (vs.map fun kv => if kv.1 = k then (kv.1, u) else kv) := by
  unfold KV at r ⊢
  induction r with
  | nil => exact .nil
  | @cons p q ps qs h t ih =>
    rw [List.map_cons, List.map_cons]
    refine .cons ?_ ih
    obtain ⟨h1, h2⟩ := h
    by_cases e : p.1 = k
    · rw [if_pos e, if_pos (h1.symm.trans e)]; exact ⟨h1, ry⟩
    · rw [if_neg e, if_neg (fun z => e (h1.trans z))]; exact ⟨h1, h2⟩
theorem KV.put {kvs : List (κ × V)} {vs : List (κ × Value)} (r : KV kvs vs) (k : κ) {y : V} {u : Value} (ry : RelV y u) : KV (putK kvs k y) (stored vs k u) := by
  unfold putK stored
  rw [r.any k]
  by_cases e : (vs.any fun kv => decide (kv.1 = k)) = true
  · rw [if_pos e, if_pos e]; exact r.repl k ry
  · rw [if_neg e, if_neg e]; exact Paired.snoc r ⟨rfl, ry⟩
theorem KV.drop {kvs : List (κ × V)} {vs : List (κ × Value)} (r : KV kvs vs) (k : κ) : KV (dropK kvs k) (without vs k) := by
  unfold KV at r ⊢
  unfold dropK without
  induction r with
  | nil => exact .nil
  | @cons p q ps qs h t ih =>
    obtain ⟨h1, h2⟩ := h
    rw [List.filter_cons, List.filter_cons]
    by_cases e : p.1 = k
    · have a : ¬ decide (p.1 ≠ k) = true := by simp [e]
      have b : ¬ decide (q.1 ≠ k) = true := by simp [h1.symm.trans e]
      rw [if_neg a, if_neg b]; exact ih
    · have e' : ¬ q.1 = k := fun z => e (h1.trans z)
      have a : decide (p.1 ≠ k) = true := by simp [e]
      have b : decide (q.1 ≠ k) = true := by simp [e']
      rw [if_pos a, if_pos b]; exact .cons ⟨h1, h2⟩ ih
theorem KV.keys {kvs : List (κ × V)} {vs : List (κ × Value)} (r : KV kvs vs) : kvs.map (·.1) = vs.map (·.1) := by
  unfold KV at r
  induction r with
  | nil => rfl
  | cons h t ih => rw [List.map_cons, List.map_cons, ih, h.1]
theorem KV.length {kvs : List (κ × V)} {vs : List (κ × Value)} (r : KV kvs vs) : kvs.length = vs.length := Paired.length r
end
theorem kV_is {P : Program} {w : World} {k : Key} {u : Value} (r : RelV (kV k) u) : (mixKind P w).is k u = true := by
  cases k with
  | inl i => obtain ⟨t, e⟩ := (show ∃ t, u = Value.int i t from r); subst e; exact mixKind_int P w i t
  | inr x => obtain ⟨t, e⟩ := (show ∃ t, u = Value.str x t from r); subst e; exact mixKind_str P w x t
theorem items_are {P : Program} {w : World} : ∀ {ks : List Key} {us : List Value}, Vals (ks.map kV) us → ItemsAre (mixKind P w) ks us
  | [], _, r => by rw [List.map_nil] at r; cases r; exact .nil
  | k :: ks, _, r => by
    rw [List.map_cons] at r
    cases r with
    | cons h t => exact .cons (kV_is h) (items_are t)
noncomputable abbrev KT (H : Hp) : List (List Key × V) → List (List Key × Addr × Value) → Prop := Paired fun p q => p.1 = q.1 ∧ H q.2.1 = some (.tup (p.1.map kV)) ∧ RelV p.2 q.2.2
theorem KT.val {H : Hp} {kvs : List (List Key × V)} {xs : List (List Key × Addr × Value)} (r : KT H kvs xs) (k : List Key) : RelO (valV kvs k) ((atKey xs k).map (·.2)) := by
  induction r with
  | nil => exact True.intro
  | @cons p q ps qs h t ih =>
    obtain ⟨h1, _, h2⟩ := h
    by_cases e : p.1 = k
    · have e' : q.1 = k := h1.symm.trans e
      have b : atKey (q :: qs) k = some q.2 := by simp [atKey, List.find?_cons, e']
      rw [valV_pos e, b]; exact h2
    · have e' : ¬ q.1 = k := fun z => e (h1.trans z)
      have b : atKey (q :: qs) k = atKey qs k := by simp [atKey, List.find?_cons, e']
      rw [valV_neg e, b]; exact ih
theorem KT.repl {H : Hp} {kvs : List (List Key × V)} {xs : List (List Key × Addr × Value)} (r : KT H kvs xs) (k : List Key) {y : V} {u : Value} (ry : RelV y u) :
    KT H (kvs.map fun kv => if kv.1 = k then (kv.1, y) else kv) (xs.map (putAt k u)) := by
  induction r with
  | nil => exact .nil
  | @cons p q ps qs h t ih =>
    rw [List.map_cons, List.map_cons]
    refine .cons ?_ ih
    obtain ⟨h1, h2, h3⟩ := h
    unfold putAt
    by_cases e : p.1 = k
    · rw [if_pos e, if_pos (h1.symm.trans e)]; exact ⟨h1, h2, ry⟩
    · rw [if_neg e, if_neg (fun z => e (h1.trans z))]; exact ⟨h1, h2, h3⟩
theorem KT.put {H : Hp} {kvs : List (List Key × V)} {xs : List (List Key × Addr × Value)} (r : KT H kvs xs) (k : List Key) {b : Addr} {y : V} {u : Value} (hb : H b = some (.tup (k.map kV))) (ry : RelV y u) :
    KT H (putK kvs k y) (storedH xs k b u) := by
  have e : (kvs.any fun kv => decide (kv.1 = k)) = (atKey xs k).isSome := by
    rw [valV_any, (r.val k).isSome_eq, Option.isSome_map]
  unfold putK storedH
  rw [e]
  by_cases q : (atKey xs k).isSome = true
  · rw [if_pos q, if_pos q]; exact r.repl k ry
  · rw [if_neg q, if_neg q]; exact Paired.snoc r ⟨rfl, hb, ry⟩
theorem KT.keeps {H H' : Hp} {kvs : List (List Key × V)} {xs : List (List Key × Addr × Value)} (r : KT H kvs xs) (ht : ∀ b ys, H b = some (.tup ys) → H' b = some (.tup ys)) : KT H' kvs xs :=
  Paired.mapP r fun _ _ z => ⟨z.1, ht _ _ z.2.1, z.2.2⟩
section
variable {P : Program} {w : World} {H : Hp} {h : Heap} {a : Addr}
theorem rd_of {u : HO} (ok : HOk P w H h) (e : Rd H a u) : ObjOk P w H h a u := e.ok ok
theorem dk_rd {kvs : List (Key × V)} (ok : HOk P w H h) (e : Rd H a (.dK kvs)) : kvs.length ≤ sizeLine ∧ (a == sysModules) = false ∧ ∃ vs, KV kvs vs ∧ h.DictOf (mixKind P w) a vs :=
  show ObjOk P w H h a (.dK kvs) from rd_of ok e
theorem dk_of {kvs : List (Key × V)} (ok : HOk P w H h) (e : H a = some (.dK kvs)) : kvs.length ≤ sizeLine ∧ (a == sysModules) = false ∧ ∃ vs, KV kvs vs ∧ h.DictOf (mixKind P w) a vs := dk_rd ok (.inl e)
theorem key_of {ks : List Key} (ok : HOk P w H h) (e : H a = some (.tup (ks.map kV))) : (tupleKind (mixKind P w)).is h ks a := by
  obtain ⟨_, its, r, ⟨o, h1, h2, n, h3⟩, _⟩ := (show ObjOk P w H h a (.tup (ks.map kV)) from ok a _ e)
  exact ⟨o, its.toArray, n, h1, h2, h3, by simpa using items_are r⟩
theorem dt_rd {kvs : List (List Key × V)} (ok : HOk P w H h) (e : Rd H a (.dT kvs)) : kvs.length ≤ sizeLine ∧ (a == sysModules) = false ∧
    ∃ xs, KT H kvs xs ∧ h.DictOfH (tupleKind (mixKind P w)) a xs := by
  obtain ⟨z, y, xs, r, o, es, ep, h1, h2, h3, h4, h5⟩ := (show ObjOk P w H h a (.dT kvs) from rd_of ok e)
  refine ⟨z, y, xs, r, o, es, ep, h1, h2, h3, h4, fun x hx => ?_, h5⟩
  have all : ∀ {l : List (List Key × V)} {m : List (List Key × Addr × Value)}, KT H l m → ∀ x ∈ m, (tupleKind (mixKind P w)).is h x.1 x.2.1 := by
    intro l m q
    induction q with
    | nil => intro x hx; exact nomatch hx
    | @cons p q ps qs hq t ih =>
      intro x hx
      rcases List.mem_cons.mp hx with e | hx
      · subst e
        exact key_of ok (by rw [← hq.1]; exact hq.2.1)
      · exact ih x hx
  exact all r x hx
theorem dt_of {kvs : List (List Key × V)} (ok : HOk P w H h) (e : H a = some (.dT kvs)) : kvs.length ≤ sizeLine ∧ (a == sysModules) = false ∧
    ∃ xs, KT H kvs xs ∧ h.DictOfH (tupleKind (mixKind P w)) a xs := dt_rd ok (.inl e)
end
noncomputable def DGet (H : Hp) (a : Addr) (y : V) (r : Option V) : Prop :=
  (∃ kvs k, Rd H a (.dK kvs) ∧ y = kV k ∧ r = valV kvs k) ∨ ∃ kvs k b, Rd H a (.dT kvs) ∧ y = .ref b ∧ H b = some (.tup (k.map kV)) ∧ r = valV kvs k
noncomputable def DPut (H : Hp) (a : Addr) (y v : V) (H' : Hp) : Prop :=
  (∃ kvs k, H a = some (.dK kvs) ∧ y = kV k ∧ kvs.length < sizeLine ∧ H' = upd H a (.dK (putK kvs k v))) ∨
  ∃ kvs k b, H a = some (.dT kvs) ∧ y = .ref b ∧ H b = some (.tup (k.map kV)) ∧ kvs.length < sizeLine ∧ H' = upd H a (.dT (putK kvs k v))
theorem DGet.k {H : Hp} {a : Addr} {kvs : List (Key × V)} {k : Key} (e : H a = some (.dK kvs)) : DGet H a (kV k) (valV kvs k) := .inl ⟨kvs, k, .inl e, rfl, rfl⟩
theorem DGet.t {H : Hp} {a b : Addr} {kvs : List (List Key × V)} {k : List Key} (e : H a = some (.dT kvs)) (eb : H b = some (.tup (k.map kV))) : DGet H a (.ref b) (valV kvs k) := .inr ⟨kvs, k, b, .inl e, rfl, eb, rfl⟩
theorem DPut.k {H : Hp} {a : Addr} {kvs : List (Key × V)} {k : Key} {v : V} (e : H a = some (.dK kvs)) (hl : kvs.length < sizeLine) : DPut H a (kV k) v (upd H a (.dK (putK kvs k v))) := .inl ⟨kvs, k, e, rfl, hl, rfl⟩
theorem DPut.t {H : Hp} {a b : Addr} {kvs : List (List Key × V)} {k : List Key} {v : V} (e : H a = some (.dT kvs)) (eb : H b = some (.tup (k.map kV))) (hl : kvs.length < sizeLine) :
    DPut H a (.ref b) v (upd H a (.dT (putK kvs k v))) := .inr ⟨kvs, k, b, e, rfl, eb, hl, rfl⟩
section
variable {X : Cx} {pins : List (Addr × Obj)} {σ : St} {H : Hp} {s : Shared} {a : Addr} {y v : V} {u r : Value} {o : Option V} {A : Around} {E : Value → Shared → Prop}
theorem Inv.big (I : Inv X pins σ H s) : sysModules < s.heap.objs.size := by
  have h : mainGlobals < s.heap.objs.size := (I.mod.glob.keeps I.bk).lt
  exact Nat.lt_trans (by decide) h
theorem d_notIn {Q : Value → Shared → Prop} (hu : A.units + 1 < cLine) (I : Inv X pins σ H s) (g : DGet H a y o) (ry : RelV y u) (h : ∀ s', Inv X pins σ H s' → Q (.bool (!o.isSome)) s') :
    wpAny (model X.prog X.w) A (compareOp .NotIn u (.ref a)) Q E s := by
  rcases g with ⟨kvs, k, e, ey, l⟩ | ⟨kvs, k, b, e, ey, eb, l⟩
  · subst ey
    obtain ⟨z, hd, vs, rel, dd⟩ := dk_rd I.hok e
    refine wpAny_notIn_of (kV_is ry) hd dd.mapOf ?_
    rw [← (rel.val k).isSome_eq, ← l]
    exact h _ (I.tok _)
  · subst ey
    cases (show u = Value.ref b from ry)
    obtain ⟨z, hd, xs, rel, dd⟩ := dt_rd I.hok e
    refine wpAny_notIn_heap (tupleKind_room_in1 hu) (key_of I.hok eb) hd dd ?_
    have q := (rel.val k).isSome_eq
    rw [Option.isSome_map] at q
    rw [← q, ← l]
    exact h _ (I.tok _)
theorem d_write {h' : Heap} {t' : Nat} {ob : HO} (I : Inv X pins σ H s) (mu : Mut (H a)) (hs : Heap.SameBut a s.heap h') (he : ∃ q, h'.get? a = some q) (new : ObjOk X.prog X.w (upd H a ob) h' a ob) :
    Inv X pins σ (upd H a ob) { s with heap := h', toks := t' } :=
  I.write (x := a) (e := a) mu (.inl rfl) (fun b q hb z => (hs.2 b hb).trans z) he new
theorem dk_new {P : Program} {w : World} {H' : Hp} {h' : Heap} {kvs : List (Key × V)} {vs : List (Key × Value)} (z : kvs.length ≤ sizeLine) (hd : (a == sysModules) = false) (rel : KV kvs vs) (dd : h'.DictOf (mixKind P w) a vs) :
    ObjOk P w H' h' a (.dK kvs) := ⟨z, hd, vs, rel, dd⟩
theorem d_setItem {H' : Hp} {Q : Unit → Shared → Prop} (hu : A.units + 1 < cLine) (I : Inv X pins σ H s) (g : DPut H a y v H') (ry : RelV y u) (rv : RelV v r) (h : ∀ s', Inv X pins σ H' s' → Q () s') :
    wpAny (model X.prog X.w) A (setItem (.ref a) u r) Q E s := by
  rcases g with ⟨kvs, k, e, ey, l, eH⟩ | ⟨kvs, k, b, e, ey, eb, l, eH⟩
  · subst ey eH
    obtain ⟨z, hd, vs, rel, dd⟩ := dk_of I.hok e
    have hz : vs.length ≤ sizeLine := by rw [← rel.length]; exact z
    have hl : (putK kvs k v).length ≤ sizeLine := by have := length_putK kvs k v; omega
    refine wpAny_setItem_pairs (hsz := hz) (kV_is ry) dd fun h' dd' hs => h _ ?_
    have he : ∃ q, h'.get? a = some q := let ⟨q, _, _, hq, _⟩ := dd'; ⟨q, hq⟩
    exact d_write I (by rw [e]; exact True.intro) hs he (dk_new hl hd (rel.put k rv) dd')
  · subst ey eH
    cases (show u = Value.ref b from ry)
    obtain ⟨z, hd, xs, rel, dd⟩ := dt_of I.hok e
    have hz : xs.length ≤ sizeLine := by rw [← Paired.length rel]; exact z
    have hl : (putK kvs k v).length ≤ sizeLine := by have := length_putK kvs k v; omega
    refine wpAny_setItem_heap (hsz := hz) (tupleKind_room_in1 hu) (key_of I.hok eb) dd fun h' dd' hs => h _ ?_
    obtain ⟨q, es, ep, hq, h2, h3, h4, _, h5⟩ := dd'
    refine d_write I (by rw [e]; exact True.intro) hs ⟨q, hq⟩ ⟨hl, hd, _, (rel.put k eb rv).keeps fun c ys ec => ?_, q, es, ep, hq, h2, h3, h4, h5⟩
    rw [upd_ne (ne_of ec e (fun z => nomatch z))]
    exact ec
end
section
variable {X : Cx} {pins : List (Addr × Obj)} {σ : St} {H : Hp} {s : Shared} {a : Addr} {kvs : List (Key × V)} {k : Key} {u : Value} {A : Around} {E : Value → Shared → Prop}
theorem d_len {Q : Value → Shared → Prop} (I : Inv X pins σ H s) (e : Rd H a (.dK kvs)) (h : ∀ t s', Inv X pins σ H s' → Q (.int kvs.length t) s') : wpAny (model X.prog X.w) A (call (.builtin "len") [.ref a]) Q E s := by
  obtain ⟨z, hd, vs, rel, dd⟩ := dk_rd I.hok e
  refine call_len_dict hd dd (by rw [← rel.length]; rw [sizeLine_eq] at z; omega) ?_
  rw [← rel.length]
  exact h _ _ (I.tok _)
end
noncomputable def sDPut (td ty tv : TE) : TS := fun D σ H => tv σ H fun v H1 => td σ H1 fun x H2 => ty σ H2 fun y H3 => ∃ a H4, x = .ref a ∧ DPut H3 a y v H4 ∧ D.nx σ H4
section
variable {X : Cx} {o i e value : Expr} {pos pos' tpos : Pos} {td ty tv : TE}
theorem ps_dput (hu : X.A.units + 1 < cLine) (ho : PE X o td) (hi : PE X i ty) (hv : PE X value tv) (hs : swapsWith value (some (.Subscript o i pos')) pos.line X.env = pure false) :
    PS X (.Assign [.Subscript o i pos'] value pos) (sDPut td ty tv) := by
  intro pins s σ H D I h
  refine wpAny_Assign_Subscript (thn (hv pins s σ H _ I h) fun r s1 ⟨v, H1, I1, rv, q1⟩ => thn (ho pins s1 σ H1 _ I1 q1) fun u s2 ⟨x, H2, I2, rx, q2⟩ => thn (hi pins s2 σ H2 _ I2 q2) fun iv s3 ⟨y, H3, I3, ry, a, H4, ex, g, q3⟩ => ?_) hs
  subst ex
  obtain rfl : u = Value.ref a := rx
  exact d_setItem hu I3 g ry rv fun s4 I4 => ⟨σ, H4, I4, q3⟩
end
theorem dk_empty {P : Program} {w : World} {H : Hp} (h : Heap) (hb : sysModules < h.objs.size) : ObjOk P w H (h.push { cls := .type "dict", data := .dict #[] }) h.objs.size (.dK []) :=
  ⟨Nat.zero_le _, beq_eq_false_iff_ne.mpr (Ne.symm (Nat.ne_of_lt hb)), [], .nil, Heap.DictOf.new h⟩
noncomputable def tDNewK : TE := fun _ H Q => ∀ p, H p = none → Q (.ref p) (upd H p (.dK []))
section
variable {X : Cx} {pos : Pos}
theorem pe_dnewK : PE X (.Dict [] [] pos) tDNewK := fun pins s σ H Q I h =>
  wpAny_Dict_empty ⟨.ref s.heap.objs.size, _, I.laid (a := s.heap.objs.size) (o := .dK []) (t' := s.toks) (fun _ _ q => Heap.get?_push_of_some _ q) (Nat.le_refl _) (dk_empty s.heap I.big), rfl, h _ (I.hok.fresh (Nat.le_refl _))⟩
end
structure M1 (X : Cx) (o : Expr) (m : Str) (apos : Pos) (e : Expr) (cpos : Pos) : Prop where
  base : attributeBase o m X.env (eval o X.env) = eval o X.env
  few : ((backTo cpos (starEach [e] X.env)).all (fun x => !x.1) && (backToKw cpos (keywordEach [] X.env)).all (fun x => x.1.isSome)
    && decide (([e] : List Expr).length + ([] : List Keyword).length + (if ([] : List Keyword).isEmpty then 0 else 1) < 30)) = true
  line : (apos.endLine == cpos.line) = true
  trees : backTo cpos (starEach [e] X.env) = [(false, eval e X.env)]
structure M2 (X : Cx) (o : Expr) (m : Str) (apos : Pos) (e f : Expr) (cpos : Pos) : Prop where
  base : attributeBase o m X.env (eval o X.env) = eval o X.env
  few : ((backTo cpos (starEach [e, f] X.env)).all (fun x => !x.1) && (backToKw cpos (keywordEach [] X.env)).all (fun x => x.1.isSome)
    && decide (([e, f] : List Expr).length + ([] : List Keyword).length + (if ([] : List Keyword).isEmpty then 0 else 1) < 30)) = true
  line : (apos.endLine == cpos.line) = true
  trees : backTo cpos (starEach [e, f] X.env) = [(false, eval e X.env), (false, eval f X.env)]
noncomputable def IsD (H : Hp) (a : Addr) : Prop := (∃ kvs, Rd H a (.dK kvs)) ∨ ∃ kvs, Rd H a (.dT kvs)
theorem isD_at {X : Cx} {pins : List (Addr × Obj)} {σ : St} {H : Hp} {s : Shared} {a : Addr} (I : Inv X pins σ H s) (d : IsD H a) :
    s.TypeIs (.ref a) "dict" ∧ (∀ b, Value.ref a = .ref b → ∃ ob, s.heap.get? b = some ob ∧ ob.dict = none) ∧ (a == sysModules) = false := by
  rcases d with ⟨kvs, e⟩ | ⟨kvs, e⟩
  · obtain ⟨_, hd, vs, _, dd⟩ := dk_rd I.hok e
    refine ⟨dd.typeIs, fun b q => ?_, hd⟩
    cases q
    obtain ⟨ob, _, _, h1, h2, _⟩ := dd
    exact ⟨ob, h1, h2.2.1⟩
  · obtain ⟨_, hd, xs, _, dd⟩ := dt_rd I.hok e
    refine ⟨dd.typeIs, fun b q => ?_, hd⟩
    cases q
    obtain ⟨ob, _, _, h1, h2, _⟩ := dd
    exact ⟨ob, h1, h2.2.1⟩
section
variable {X : Cx} {pins : List (Addr × Obj)} {σ : St} {H : Hp} {s : Shared} {a : Addr} {y d : V} {u r : Value} {o : Option V} {A : Around} {E : Value → Shared → Prop}
theorem d_get2 {Q : Value → Shared → Prop} (hu : A.units + 1 < cLine) (I : Inv X pins σ H s) (g : DGet H a y o) (ry : RelV y u) (rd : RelV d r) (h : ∀ w' s', Inv X pins σ H s' → RelV (o.getD d) w' → Q w' s') :
    wpAny (model X.prog X.w) A (call (.builtin "dict.get") [.ref a, u, r]) Q E s := by
  rcases g with ⟨kvs, k, e, ey, l⟩ | ⟨kvs, k, b, e, ey, eb, l⟩
  · subst ey
    obtain ⟨z, hd, vs, rel, dd⟩ := dk_rd I.hok e
    refine call_meetsIn PySem.F.slot_dict_get dd.typeIs PySem.F.entry_dict_get (PySem.F.args_dict_get_3 _ _ _) (meets_dict_get_default (mixKind X.prog X.w) a (kV_is ry) hd r) ⟨_, dd.mapOf, h _ _ (I.tok _) ?_⟩
    rw [l]
    exact (rel.val k).getD rd
  · subst ey
    cases (show u = Value.ref b from ry)
    obtain ⟨z, hd, xs, rel, dd⟩ := dt_rd I.hok e
    refine call_meetsIn PySem.F.slot_dict_get dd.typeIs PySem.F.entry_dict_get (PySem.F.args_dict_get_3 _ _ _) (meetsH_dict_get_default (tupleKind (mixKind X.prog X.w)) a b hd r) ⟨tupleKind_room_in1 hu, k, xs, key_of I.hok eb, dd, h _ _ (I.tok _) ?_⟩
    rw [l]
    exact (rel.val k).getD rd
end
noncomputable def tDGet2 (td ty tx : TE) : TE := fun σ H Q => td σ H fun x H1 => ∃ a, x = .ref a ∧ IsD H1 a ∧ ty σ H1 fun y H2 => tx σ H2 fun z H3 => ∃ o, DGet H3 a y o ∧ Q (o.getD z) H3
section
variable {X : Cx} {o e f : Expr} {apos cpos : Pos} {td ty tx : TE}
theorem pe_dget2 (hu : X.A.units + 1 < cLine) (ho : PE X o td) (he : PE X e ty) (hf : PE X f tx) (m : M2 X o "get" apos e f cpos) : PE X (.Call (.Attribute o "get" apos) [e, f] [] cpos) (tDGet2 td ty tx) := by
  intro pins s σ H Q I h
  refine wpAny_Call_method m.base m.few m.line PySem.F.plainAttrs_dict PySem.F.slot_dict_get PySem.F.type_dict_get (thn (ho pins s σ H _ I h) fun u s1 ⟨x, H1, I1, rx, a, ex, d, q1⟩ => ?_)
  subst ex
  obtain rfl : u = Value.ref a := rx
  obtain ⟨t1, t2, _⟩ := isD_at I1 d
  refine ⟨t1, t2, ?_⟩
  rw [m.trees]
  refine Calls.callWith_builtin rfl (Calls.evalArgs_plain (Calls.spliced_cons (thn (he pins s1 σ H1 _ I1 q1) fun iv s2 ⟨y, H2, I2, ry, q2⟩ =>
    Calls.spliced_cons (thn (hf pins s2 σ H2 _ I2 q2) fun fv s3 ⟨z, H3, I3, rz, ov, g, q3⟩ => Calls.spliced_nil ?_))))
  exact d_get2 hu I3 g ry rz fun w' s4 I4 rw' => ⟨_, H3, I4, rw', q3⟩
end
section
variable {X : Cx} {pins : List (Addr × Obj)} {σ : St} {H : Hp} {s : Shared} {a : Addr} {kvs : List (Key × V)} {A : Around} {E : Value → Shared → Prop}
end
section
variable {X : Cx} {pins : List (Addr × Obj)} {σ : St} {H : Hp} {s : Shared} {a : Addr} {y : V} {u : Value} {A : Around} {E : Value → Shared → Prop}
end
end L2
namespace L2
open PySem PySem.Spec PyProof.Rows
section
variable {X : Cx}
theorem call_lenD : CallR X (.builtin "len") (fun xs H Q => ∃ a kvs, xs = [V.ref a] ∧ H a = some (.dK kvs) ∧ Q (.int kvs.length) H) := by
  intro pins s σ H xs us Q I r h
  obtain ⟨a, kvs, rfl, ha, q⟩ := h
  obtain ⟨u, rfl, ru⟩ := vals1 r
  cases ru
  exact d_len I (.inl ha) fun t s' I' => ⟨.int kvs.length, H, I', ⟨t, rfl⟩, q⟩
end
section
variable {κ : Type} [DecidableEq κ]
end
end L2
namespace L2
open PySem PySem.Spec PyProof.Rows
section
variable {X : Cx}
theorem vals_of : ∀ {xs : List V} {us : List Value}, xs.length = us.length → (∀ (i : Nat) x u, xs[i]? = some x → us[i]? = some u → RelV x u) → Vals xs us
  | [], [], _, _ => .nil
  | [], _ :: _, h, _ => by simp at h
  | _ :: _, [], h, _ => by simp at h
  | x :: xs, u :: us, h, f => .cons (f 0 x u rfl rfl) (vals_of (by simpa using h) fun i y v hy hv => f (i + 1) y v (by simpa using hy) (by simpa using hv))
noncomputable def tListRange (ta : TA) : TE := fun σ H Q => ta σ H fun vs H1 => ∃ n : Nat, vs = [.int (n : Int)] ∧ n ≤ 1000000 ∧ ∀ p, H1 p = none → Q (.ref p) (upd H1 p (.lst ((List.range n).map fun (j : Nat) => V.int (j : Int))))
theorem pe_listRange {a : Expr} {ta : TA} {p pos p2 pos2 : Pos} (hc : X.calm = true) (hg : Gl X "list") (hm : X.mg "list" = none) (hg2 : Gl X "range") (hm2 : X.mg "range" = none) (ha : PA X [a] ta) (hs : starEach [a] X.env = [(false, eval a X.env)] := by rfl)
    (hs2 : starEach [.Call (.Name "range" p2) [a] [] pos2] X.env = [(false, eval (.Call (.Name "range" p2) [a] [] pos2) X.env)] := by rfl) : PE X (.Call (.Name "list" p) [.Call (.Name "range" p2) [a] [] pos2] [] pos) (tListRange ta) := by
  intro pins s σ H Q I h
  refine Call_ (ld_blt I hg hm L3.bt_list (PyProof.Rows.callWith_type1 ?_ hs2 rfl))
  rw [hs2]
  show wpAny _ _ (spliced ((false, eval (.Call (.Name "range" p2) [a] [] pos2) X.env) :: backTo pos [])) _ _ s
  refine Calls.spliced_cons ?_
  refine Call_ (ld_blt I hg2 hm2 boot_range (PyProof.Rows.callWith_type1 (thn (ha pos2 pins s σ H _ I h) fun us s1 ⟨vs, H1, I1, r1, q1⟩ => ?_) hs rfl))
  obtain ⟨n, e, hn, q⟩ := q1
  subst e
  obtain ⟨u, rfl, t, rfl⟩ := vals1 r1
  refine call_range_1 ?_
  refine Calls.spliced_nil ?_
  have hsz : Builtin.Range.rangeSize 0 (n : Int) 1 = (n : Nat) := by rw [rangeSize_one]; split <;> omega
  refine call_list_range (n := n) (I.ok.hd hc) (IsRange.new ..) (small_one (by omega) (by omega) (by omega) (by omega)) hsz (by omega) fun h' tk acc c' kp e hacc => ?_
  have I2 : Inv X pins σ H1 { s1 with heap := s1.heap.push { cls := .type "range", data := .fields #[.int 0 (s1.toks), .int (n : Int) t, .int 1 (s1.toks + 1)] }, toks := s1.toks + 1 + 1 } := I1.kept fun b o e => Heap.get?_push_of_some _ e
  refine ⟨.ref _, _, I2.laid (t' := tk) (o := .lst ((List.range n).map fun (j : Nat) => V.int (j : Int))) kp (Nat.le_refl _) ?_, rfl, q _ (I2.hok.fresh (Nat.le_refl _))⟩
  refine ⟨by rw [List.length_map, List.length_range]; exact Nat.le_trans hn (by decide), acc.toList, c', ?_, by rw [Array.toArray_toList]; exact e⟩
  refine vals_of (by rw [List.length_map, List.length_range, Array.length_toList, hacc.1]) fun i x u hx hu => ?_
  rw [Array.getElem?_toList] at hu
  obtain ⟨t2, rfl⟩ := hacc.2 i u hu
  rw [List.getElem?_map] at hx
  have hi : i < n := by
    rw [← hacc.1]
    exact (Array.getElem?_eq_some_iff.mp hu).1
  rw [List.getElem?_eq_getElem (by rw [List.length_range]; exact hi), List.getElem_range] at hx
  cases hx
  exact ⟨t2, by rw [Int.zero_add, Int.mul_one]⟩
end
end L2
namespace L2
open PySem
end L2
namespace L3
open PySem
open Sem (wp)
noncomputable abbrev IsZipF (h : Heap) (z TI TO : Addr) (f0 : Value) (f : Bool) : Prop :=
  h.get? z = some { cls := .type "zip", dict := none, data := .fields #[f0, .bool f, .bool false, .ref TI, .ref TO], slots := #[] }
structure ZipOut (z TI TO i1 i2 t1 t2 : Addr) (xs ys : Array Value) (i : Nat) (a : Addr) (f : Bool) (h : Heap) : Prop where
  hz : IsZipF h z TI TO (rawInt a) f
  hTI : IsPair h TI (.ref i1) (.ref i2)
  one : AtT i1 t1 xs i h
  two : AtT i2 t2 ys i h
  al : ∃ o, h.get? a = some o
  az : a ≠ z
  a1 : a ≠ i1
  a2 : a ≠ i2
  lt : TO < h.objs.size
section
variable {prog : Program} {w : World} {A : Around} {E : Value → Shared → Prop} {s : Shared}
end
end L3
namespace L3
open PySem
noncomputable def ZSt (z TI TO i1 i2 t1 t2 : Addr) (xs ys : Array Value) (S : Addr) (i : Nat) (h : Heap) : Prop :=
  (i = 0 ∧ ZipAt z TI TO i1 i2 t1 t2 xs ys 0 .none h) ∨ ∃ a f, ZipOut z TI TO i1 i2 t1 t2 xs ys i a f h ∧ a ≠ S
theorem ZSt.keep {z TI TO i1 i2 t1 t2 S : Addr} {xs ys : Array Value} {i : Nat} {h h' : Heap} (Z : ZSt z TI TO i1 i2 t1 t2 xs ys S i h) (nS : ∀ b ∈ [z, TI, TO, i1, i2, t1, t2], b ≠ S) (k : ∀ b o, b ≠ S → h.get? b = some o → h'.get? b = some o) (ks : h'.objs.size = h.objs.size) : ZSt z TI TO i1 i2 t1 t2 xs ys S i h' := by
  rcases Z with ⟨e, Z⟩ | ⟨a, f, Z, ha⟩
  · exact .inl ⟨e, Z.keeps (fun b hb o q => k b o (nS b (by simp only [List.mem_cons, List.not_mem_nil, or_false] at hb ⊢; rcases hb with h | h | h | h | h <;> simp [h])) q) (fun o q => k _ o (nS _ (by simp)) q) (fun o q => k _ o (nS _ (by simp)) q)⟩
  · obtain ⟨hz, hTI, h1, h2, ⟨o, al⟩, az, a1, a2, lt⟩ := Z
    exact .inr ⟨a, f, ⟨k _ _ (nS _ (by simp)) hz, k _ _ (nS _ (by simp)) hTI, h1.keeps (fun o q => k _ o (nS _ (by simp)) q) (fun o q => k _ o (nS _ (by simp)) q), h2.keeps (fun o q => k _ o (nS _ (by simp)) q) (fun o q => k _ o (nS _ (by simp)) q), ⟨o, k _ _ ha al⟩, az, a1, a2, by rw [ks]; exact lt⟩, ha⟩
section
variable {prog : Program} {w : World} {A : Around} {E : Value → Shared → Prop} {s : Shared}
end
end L3
namespace L2
open PySem PySem.Spec PyProof.Rows
end L2
namespace L2
open PySem PySem.Spec PyProof.Rows
end L2
namespace L2
open PySem PySem.Spec PyProof.Rows
section
variable {X : Cx} {tg : Expr}
end
end L2
namespace L2
open PySem PySem.Spec PyProof.Rows
noncomputable abbrev tJoin (t : TS) : TS := fun D σ H => ∃ J : St → Hp → Prop, (∀ σ' H', J σ' H' → D.nx σ' H') ∧ t { D with nx := J } σ H
theorem ps_joinN {X : Cx} {st : Stmt} {t : TS} (h : PS X st t) : PS X st (tJoin t) := ps_join h
end L2
namespace L2
open PySem PySem.Spec PyProof.Rows
section
variable {X : Cx}
end
end L2
namespace L2
open PySem PySem.Spec PyProof.Rows
theorem pe_bmK {X : Cx} (K : PySem.W.Frag) (hK : X.K = K) {o e : Expr} {es : List Expr} {to : TE} {t : TA} {name : Str} {apos cpos : Pos} {T id : String} {r : V → List V → Hp → VK → Prop} (pa : PlainAttrs T) (slot : Slot T name id) (hty : typeOf (.builtin id) = pure (.type "method_descriptor")) (hm : MtR X id r) (ho : PE X o to) (ha : PA X (e :: es) t)
    (hbase : attributeBase o name X.env (eval o X.env) = eval o X.env := by rfl)
    (hfew : ((backTo cpos (starEach (e :: es) X.env)).all (fun x => !x.1) && (backToKw cpos (keywordEach [] X.env)).all (fun x => x.1.isSome)
      && decide ((e :: es).length + ([] : List Keyword).length + (if ([] : List Keyword).isEmpty then 0 else 1) < 30)) = true := by rfl)
    (hline : (apos.endLine == cpos.line) = true := by rfl) (hs : starEach (e :: es) X.env = (false, eval e X.env) :: starEach es X.env := by rfl) (hplain : (backTo cpos (starEach es X.env)).any (·.1) = false := by rfl) :
    PE X (.Call (.Attribute o name apos) (e :: es) [] cpos) (tBM K T r to t) := by
  subst hK
  exact pe_bm pa slot hty hm ho ha hbase hfew hline hs hplain
end L2
namespace L2
open PySem PySem.Spec PyProof.Rows
section
variable {X : Cx}
end
end L2
namespace L2
open PySem PySem.Spec PyProof.Rows
end L2
namespace L2
open PySem PySem.Spec PyProof.Rows
theorem comp_of {J : It} {n : Nat} {g : TG} {tt : TT} {te : TE} {σ : St} {H : Hp} {Q : VK} (Pv : Nat → List V → St → Hp → Prop) (h0 : Pv 0 [] σ H) (hl : ∀ i acc σ H, i ≤ n → Pv i acc σ H → acc.length ≤ 1000000)
    (hgo : ∀ i acc σ H, i < n → Pv i acc σ H → J.go i H) (hstop : ∀ acc σ H, Pv n acc σ H → J.stop n H)
    (hs : ∀ i acc σ H, i < n → Pv i acc σ H → ∀ x H2, J.yld i H x H2 → g x σ H2 fun σ2 H3 => tt σ2 H3 fun b H4 => if b = true then te σ2 H4 fun y H5 => Pv (i + 1) (acc ++ [y]) σ2 H5 else Pv (i + 1) acc σ2 H4)
    (hd : ∀ acc σ H D, Pv n acc σ H → H D = none → Q (.ref D) (upd H D (.lst acc))) : compW J g tt te σ H Q := by
  refine ⟨fun i m acc σ H => m = n - i ∧ i ≤ n ∧ Pv i acc σ H, ⟨n, by simp, Nat.zero_le _, h0⟩, ?_⟩
  rintro i m acc σ H ⟨rfl, hi, p⟩
  have hz := hl i acc σ H hi p
  by_cases hlt : i < n
  · exact .inr ⟨hgo i acc σ H hlt p, smallL hz, Pv (i + 1), fun acc' σ' H' p' => ⟨n - (i + 1), by omega, rfl, hlt, p'⟩, hs i acc σ H hlt p⟩
  · have e : i = n := by omega
    subst e
    exact .inl ⟨hstop acc σ H p, small hz, fun D fD => hd acc σ H D p fD⟩
theorem comp_range {lo : Int} {n : Nat} {g : TG} {tt : TT} {te : TE} {σ : St} {H : Hp} {Q : VK} (Pv : Nat → List V → St → Hp → Prop) (h0 : Pv 0 [] σ H) (hl : ∀ i acc σ H, i ≤ n → Pv i acc σ H → acc.length ≤ 1000000)
    (hs : ∀ i acc σ H, i < n → Pv i acc σ H → g (.int (lo + i)) σ H fun σ2 H3 => tt σ2 H3 fun b H4 => if b = true then te σ2 H4 fun y H5 => Pv (i + 1) (acc ++ [y]) σ2 H5 else Pv (i + 1) acc σ2 H4)
    (hd : ∀ acc σ H D, Pv n acc σ H → H D = none → Q (.ref D) (upd H D (.lst acc))) : compW (Itr lo n) g tt te σ H Q :=
  comp_of Pv h0 hl (fun i acc σ H h _ => h) (fun acc σ H _ => Nat.le_refl _) (fun i acc σ H h p x H2 y => by
    obtain ⟨e, y⟩ := y
    subst e y
    exact hs i acc σ _ h p) hd
theorem comp_list {K : PySem.W.Frag} {a : Addr} {xs : List V} {g : TG} {tt : TT} {te : TE} {σ : St} {H : Hp} {Q : VK} (Pv : Nat → List V → St → Hp → Prop) (h0 : Pv 0 [] σ H) (hl : ∀ i acc σ H, i ≤ xs.length → Pv i acc σ H → acc.length ≤ 1000000)
    (ha : ∀ i acc σ H, i ≤ xs.length → Pv i acc σ H → SqL K H a xs)
    (hs : ∀ i x acc σ H, xs[i]? = some x → Pv i acc σ H → g x σ H fun σ2 H3 => tt σ2 H3 fun b H4 => if b = true then te σ2 H4 fun y H5 => Pv (i + 1) (acc ++ [y]) σ2 H5 else Pv (i + 1) acc σ2 H4)
    (hd : ∀ acc σ H D, Pv xs.length acc σ H → H D = none → Q (.ref D) (upd H D (.lst acc))) : compW (Itl K a) g tt te σ H Q :=
  comp_of Pv h0 hl (fun i acc σ H h p => ⟨xs, xs[i], ha i acc σ H (Nat.le_of_lt h) p, List.getElem?_eq_getElem h⟩) (fun acc σ H p => ⟨xs, ha _ acc σ H (Nat.le_refl _) p, Nat.le_refl _⟩) (fun i acc σ H h p x H2 y => by
    obtain ⟨e, y⟩ := y
    subst e
    exact hs i x acc σ _ (y xs (ha i acc σ _ (Nat.le_of_lt h) p)) p) hd
theorem for_of {J : It} {n : Nat} {g : TG} {tb : TS} {D : Ends} {σ : St} {H : Hp} (Pv : Nat → St → Hp → Prop) (h0 : Pv 0 σ H) (hgo : ∀ i σ H, i < n → Pv i σ H → J.go i H) (hstop : ∀ σ H, Pv n σ H → J.stop n H)
    (hs : ∀ i σ H, i < n → Pv i σ H → ∀ x H2, J.yld i H x H2 → g x σ H2 fun σ2 H3 => tb { D with nx := Pv (i + 1), ct := Pv (i + 1), bk := D.nx } σ2 H3) (hd : ∀ σ H, Pv n σ H → D.nx σ H) :
    ∃ W : Nat → Nat → St → Hp → Prop, (∃ m, W 0 m σ H) ∧ ∀ i m σ H, W i m σ H →
      (J.stop i H ∧ D.nx σ H) ∨ (J.go i H ∧ ∃ N : St → Hp → Prop, (∀ σ' H', N σ' H' → ∃ m', m' < m ∧ W (i + 1) m' σ' H') ∧ ∀ x H', J.yld i H x H' → g x σ H' fun σ2 H2 => tb { D with nx := N, ct := N, bk := D.nx } σ2 H2) := by
  refine ⟨fun i m σ H => m = n - i ∧ i ≤ n ∧ Pv i σ H, ⟨n, by simp, Nat.zero_le _, h0⟩, ?_⟩
  rintro i m σ H ⟨rfl, hi, p⟩
  by_cases hlt : i < n
  · exact .inr ⟨hgo i σ H hlt p, Pv (i + 1), fun σ' H' p' => ⟨n - (i + 1), by omega, rfl, hlt, p'⟩, hs i σ H hlt p⟩
  · have e : i = n := by omega
    subst e
    exact .inl ⟨hstop σ H p, hd σ H p⟩
end L2
namespace L2
open PySem PySem.Spec PyProof.Rows
noncomputable def Fit (n : Nat) : Prop := ∃ k, k ≤ 8000 ∧ n < 2 ^ k
theorem Fit.le {m n : Nat} (h : Fit n) (l : m ≤ n) : Fit m := by
  obtain ⟨k, h1, h2⟩ := h
  exact ⟨k, h1, Nat.lt_of_le_of_lt l h2⟩
theorem Fit.of {n : Nat} (h : n < 18446744073709551616) : Fit n := ⟨64, by decide, h⟩
theorem Fit.log {n : Nat} (h : Fit n) : n.log2 < 9000 := by
  obtain ⟨k, h1, h2⟩ := h
  by_cases h0 : n = 0
  · rw [h0]; decide +kernel
  · have := (Nat.log2_lt h0).mpr h2
    omega
theorem Fit.bits {i : Int} (h : Fit i.natAbs) : Builtin.Int.intBits i ≤ 2 ^ 20 := by
  obtain ⟨k, h1, h2⟩ := h
  refine Nat.le_trans (PyProof.Rows.intBits_le h2) (Nat.le_trans h1 ?_)
  decide
noncomputable def CDivB (i j : Int) : Prop := 0 < j ∧ Fit j.natAbs
noncomputable def CMulB (i j : Int) : Prop := Fit i.natAbs ∧ Fit j.natAbs
theorem Room.units1 {k : Nat} {A : Around} (r : Room k A) : A.units + 1 < cLine := by have := r.un; omega
section
variable {X : Cx}
theorem op_fdivB : OpR X (binaryOp .FloorDiv) (rI CDivB fun i j => .int (i / j)) := opI fun i j _ _ _ _ _ hc q => by
  have h1 : (0 : Int) < j := hc.1
  exact floordiv_int (by omega) (by rw [Int.fdiv_eq_ediv_of_nonneg i (by omega)]; exact q) (.inl (PyProof.noPylong_of_log2 hc.2.log))
theorem op_mulB : OpR X (binaryOp .Mult) (rI CMulB fun i j => .int (i * j)) := opI fun _ _ _ _ _ _ _ hc q => mul_int q (IntMulOk.of_bits hc.1.bits hc.2.bits)
end
end L2
namespace PySem
open PySem.W PyProof.Rows
section
variable {prog : Program} {w : World} {A : Around} {E : Value → Shared → Prop} {s : Shared} {T : String} {r d : Addr} {n : Nat} {P : Nat → Value → Prop} {OK : Heap → Prop}
theorem collect_src {Q : List Value → Shared → Prop} (K : KdlSrc prog w T r d n P OK) (hh : A.handled = none) (hok : OK s.heap) (hn : n ≤ sizeLine)
    (hQ : ∀ (h' : Heap) (tk : Nat) (acc : Array Value), (∀ b o, s.heap.get? b = some o → h'.get? b = some o) → ItemsOf P acc n → Q acc.toList { s with heap := h', toks := tk }) : wpAny (model prog w) A (collect (.ref r)) Q E s := by
  unfold collect
  refine wpAny_bind (wpAny_runValue (codeAny_builtin F.entry_proto_collect ?_))
  rw [Around.under_plainId F.plain_proto_collect _]
  show wpAny _ A.in1 (newList [] >>= fun l => again (.builtin "list.__iadd__" ⟨[l, .ref r], []⟩)) _ _ s
  refine wpAny_bind (wpAny_newObj_type ?_)
  refine wpAny_pure ⟨plainId_quiet F.plain_list_iadd _, codeAny_builtin F.entry_list_iadd ?_⟩
  rw [Around.under_plainId F.plain_list_iadd _]
  show wpAny _ A.in1 (Builtin.List.listExtendWith (.ref s.heap.objs.size) (.ref r) (.ref s.heap.objs.size)) _ _ _
  have hlt := K.there _ hok
  have hS0 : (s.heap.push { cls := .type "list", data := .seq ([] : List Value).toArray }).get? s.heap.objs.size = some { cls := .type "list", data := .seq #[] 0 } := Heap.get?_push_size _ rfl
  refine kdl_extend (R := fun r s' => match r with
    | .ok (.ret v) => wpAny (model prog w) A (match v with
      | .ref a => do
        let o ← load a
        match o.data with
          | .seq xs _ => pure xs.toList
          | _ => unsupported "internal:collect"
      | _ => unsupported "internal:collect") Q E s'
    | .ok _ => False
    | .error e => E e s') (s := { s with heap := s.heap.push { cls := .type "list", data := .seq ([] : List Value).toArray } }) K hh (K.keep _ _ hok fun b _ o e => Heap.get?_push_of_some _ e) _ (Nat.ne_of_gt hlt.1) (Nat.ne_of_gt hlt.2) _ 0 hS0 (fun h' tk acc c hk hS hacc => ?_) hn
  show wpAny _ A (load s.heap.objs.size >>= _) _ _ _
  refine wpAny_bind (wpAny_load hS ?_)
  exact wpAny_pure (hQ h' tk acc (fun b o e => hk b o (Nat.ne_of_lt (Heap.lt_size e)) (Heap.get?_push_of_some _ e)) hacc)
theorem code_tuple_src {Q₁ : Value → Shared → Prop} (K : KdlSrc prog w "dict" r d n P OK) (hh : A.in1.handled = none) (hok : OK s.heap) (hn : n ≤ sizeLine)
    (h : ∀ (h' : Heap) (tk : Nat) (acc : Array Value), (∀ b o, s.heap.get? b = some o → h'.get? b = some o) → ItemsOf P acc n → Q₁ (.ref h'.objs.size) { s with heap := h'.push { cls := .type "tuple", data := .seq acc }, toks := tk }) :
    codeAny (model prog w) A (.call (.builtin "tuple.__new__") ⟨[.type "tuple", .ref r], []⟩) (wants Q₁ E) s := by
  refine codeAny_of_tree ?_
  show wpAny _ A.in1 (do checkBuiltinCall "tuple.__new__" ⟨[.type "tuple", .ref r], []⟩; again (.builtin "tuple.__new__" ⟨[.type "tuple", .ref r], []⟩)) _ _ s
  refine wpAny_bind (wpAny_of_eq (F.newCall_tuple_1 _) (wpAny_pure ⟨plainId_quiet F.plain_tuple_new _, codeAny_builtin F.entry_tuple_new ?_⟩))
  rw [Around.under_plainId F.plain_tuple_new _]
  have hsub := sub_tuple_self
  have hinit := init_tuple_lookup
  have hmh := madeHere_tuple
  have hTI := K.type s hok
  have hnt := K.notTuple
  wp_walk using wpAny_typeOf hTI, collect_src K hh hok hn
  intro h' tk acc hm hacc
  show wpAny _ _ (Builtin.Tuple.tupleExact acc.toList.toArray >>= fun v => ret v) _ _ _
  unfold Builtin.Tuple.tupleExact
  refine wpAny_bind (wpAny_newObj_type ?_ (by show acc.toList.toArray.size ≤ sizeLine; simp only [Array.toArray_toList]; rw [hacc.1]; exact hn))
  refine wpAny_pure ?_
  have e : acc.toList.toArray = acc := by simp
  rw [e]
  exact h h' tk acc hm hacc
theorem call_tuple_src {Q : Value → Shared → Prop} (K : KdlSrc prog w "dict" r d n P OK) (hh : A.in1.in1.handled = none) (hok : OK s.heap) (hn : n ≤ sizeLine)
    (hQ : ∀ (h' : Heap) (tk : Nat) (acc : Array Value), (∀ b o, s.heap.get? b = some o → h'.get? b = some o) → ItemsOf P acc n → Q (.ref h'.objs.size) { s with heap := h'.push { cls := .type "tuple", data := .seq acc }, toks := tk }) :
    wpAny (model prog w) A (call (.type "tuple") [.ref r]) Q E s := by
  refine callType_codes (Q₁ := fun obj s₁ => s₁.TypeIs obj "tuple" ∧ Q obj s₁) F.called_tuple (F.typeCall_tuple_1 _) F.entry_object_init
    (code_tuple_src K hh hok hn fun h' tk acc hm hacc => ⟨⟨_, Heap.get?_push_size _ rfl, rfl⟩, hQ h' tk acc hm hacc⟩) fun obj s₁ h₁ => ?_
  exact ⟨h₁.1, F.args_object_init_2 obj _, object_init_meets F.called_tuple.init.lookup F.called_tuple.made (by decide) prog w A.in1 _ s₁ ⟨h₁.1, rfl, h₁.2⟩⟩
end
end PySem
namespace L2
open PySem PySem.Spec PyProof.Rows PySem.W
theorem pairedGet {α β : Type} {F : α → β → Prop} : ∀ {l : List α} {m : List β}, l.length = m.length → (∀ (i : Nat) x y, l[i]? = some x → m[i]? = some y → F x y) → Paired F l m
  | [], [], _, _ => .nil
  | x :: l, y :: m, hl, h => .cons (h 0 x y rfl rfl) (pairedGet (by simpa using hl) fun i a b e1 e2 => h (i + 1) a b (by simpa using e1) (by simpa using e2))
  | [], _ :: _, hl, _ => by simp at hl
  | _ :: _, [], hl, _ => by simp at hl
theorem relKey {k : Key} {v : Value} (h : keyIs k v = true) : RelV (kV k) v := by
  rcases keyIs_shape h with ⟨i, t, rfl, rfl⟩ | ⟨x, t, rfl, rfl⟩
  · exact ⟨_, rfl⟩
  · exact ⟨_, rfl⟩
section
variable {X : Cx}
theorem call_tupleD (hc : X.calm = true) : CallR X (.type "tuple") (fun xs H Q => ∃ (a : Addr) (kvs : List (Key × V)), xs = [V.ref a] ∧ H a = some (.dK kvs) ∧ ∀ l, H l = none → Q (.ref l) (upd H l (.tup (kvs.map fun kv => kV kv.1)))) := by
  intro pins s σ H xs us Q I r h
  obtain ⟨a, kvs, rfl, ha, q⟩ := h
  obtain ⟨u, rfl, rx⟩ := vals1 r
  cases rx
  obtain ⟨hz, hd, vs, rel, dd⟩ := dk_of I.hok ha
  obtain ⟨ep, dd⟩ := dd.dictAt
  have hl := rel.length
  have hh : X.A.in1.in1.handled = none := I.ok.hd hc
  refine call_tuple_src (kdl_dict (knd := mixKind X.prog X.w) (kvs := vs) (ep := ep) hd) hh dd (by omega) fun h' tk acc kp hacc => ?_
  have I1 : Inv X pins σ H { s with heap := h', toks := tk } := I.kept (t' := tk) kp
  have rv : Vals (kvs.map fun kv => kV kv.1) acc.toList := by
    refine pairedGet (by have := hacc.1; simp only [List.length_map, Array.length_toList]; omega) fun i x y e1 e2 => ?_
    obtain ⟨k, z, ek, hk⟩ := hacc.2 i y (by rw [← Array.getElem?_toList]; exact e2)
    have e3 : (kvs.map (·.1))[i]? = some k := by rw [rel.keys, List.getElem?_map, ek]; rfl
    rw [List.getElem?_map] at e1 e3
    cases eq : kvs[i]? with
    | none => rw [eq] at e3; cases e3
    | some kv =>
      rw [eq] at e1 e3
      cases e1
      cases e3
      exact relKey hk
  have ea : acc.toList.toArray = acc := by simp
  have I2 : Inv X pins σ (upd H h'.objs.size (.tup (kvs.map fun kv => kV kv.1))) { s with heap := h'.push { cls := .type "tuple", data := .seq acc }, toks := tk } :=
    I1.laid (t' := tk) (fun b o e => Heap.get?_push_of_some _ e) (Nat.le_refl _) (show ObjOk X.prog X.w _ _ _ (.tup (kvs.map fun kv => kV kv.1)) from ⟨by rw [List.length_map]; exact hz, acc.toList, rv, by rw [ea]; exact IsTup.new _ _, _, Heap.get?_push_size _ rfl, rfl⟩)
  exact ⟨.ref h'.objs.size, _, I2, rfl, q _ (I1.hok.fresh (Nat.le_refl _))⟩
theorem op_notInD (hu : X.A.units + 1 < cLine) : OpR X (compareOp .NotIn) (fun y x H Q => ∃ a o, x = .ref a ∧ DGet H a y o ∧ Q (.bl (!o.isSome)) H) := by
  intro pins s σ H y x iv u Q I ry rx h
  obtain ⟨a, o, rfl, g, q⟩ := h
  cases rx
  exact d_notIn hu I g ry fun s3 I3 => ⟨.bl (!o.isSome), H, I3, rfl, q⟩
end
end L2
namespace L2
open PySem PySem.Spec PyProof.Rows
section
variable {X : Cx}
noncomputable def rLIndex : V → List V → Hp → VK → Prop := fun x vs H Q => ∃ (l : Addr) (xs : List V) (y : V) (j : Nat) (z : V), x = .ref l ∧ vs = [y] ∧ H l = some (.lst xs) ∧ flatV y = true ∧ xs.all flatV = true ∧ xs[j]? = some z ∧ eqV z y = true ∧ (∀ i z', i < j → xs[i]? = some z' → eqV z' y = false) ∧ Q (.int (j : Int)) H
theorem mt_lindex : MtR X "list.index" rLIndex := by
  intro pins s σ H x vs v us Q I rx rv h
  obtain ⟨l, xs, y, j, z, rfl, rfl, hH, fy, fs, hj, hz, hno, q⟩ := h
  cases rx
  obtain ⟨u, rfl, ru⟩ := rv.one
  obtain ⟨zz, its, n, r, hl, e⟩ := I.lstM hH
  have hjx : j < xs.length := (List.getElem?_eq_some_iff.mp hj).1
  have hji : j < its.toArray.size := by rw [List.size_toArray, ← hl]; exact hjx
  have hflat : ∀ {i : Nat} {a : V}, xs[i]? = some a → flatV a = true := fun {i a} h => List.all_eq_true.mp fs a (List.mem_of_getElem? h)
  have key : ∀ {i : Nat} (hi : i < its.toArray.size) {a : V}, xs[i]? = some a → eqU y its.toArray[i] = eqV a y := fun {i} hi {a} h => by
    obtain ⟨w, hw, rw'⟩ := r.get h
    have : its.toArray[i] = w := by
      have h1 : its[i]? = some w := hw
      rw [List.getElem?_eq_getElem (by simpa using hi)] at h1
      simpa using Option.some.inj h1
    rw [this]
    exact eqU_of rw' (hflat h)
  refine call_meets F.slot_list_index ⟨_, e, rfl⟩ F.entry_list_index (F.args_list_index_2 _ _) (SeqAt.list_indexAt l its.toArray n none #[] u (eqU y) j hji ?_ ?_ ?_) ⟨e, fun w hw => mem_eqAt ru fy r fs w (by simpa using hw), ?_⟩
  · have : xs.length ≤ 16777216 := by rw [← sizeLine_eq]; exact zz
    omega
  · rw [key hji hj]
    exact hz
  · intro m hm hmj
    have hmx : m < xs.length := by omega
    rw [key hm (List.getElem?_eq_getElem hmx)]
    exact hno m _ hmj (List.getElem?_eq_getElem hmx)
  · exact ⟨.int (j : Int), H, I.tok _, ⟨_, rfl⟩, q⟩
end
end L2
namespace L2
open PySem PySem.Spec PyProof.Rows
theorem vals_of_ints : ∀ {us : List Value} {ns : List Int}, IntsAre us ns → Vals (ns.map V.int) us
  | _, _, .nil => .nil
  | _, _, .cons n t h => .cons ⟨t, rfl⟩ (vals_of_ints h)
end L2
namespace L2
open PySem PySem.Spec PyProof.Rows
section
variable {X : Cx}
end
end L2
namespace L2
open PySem PySem.Spec PyProof.Rows
end L2
set_option maxRecDepth 100000
namespace L2
open PySem PySem.Spec PyProof.Rows
noncomputable abbrev Cx.tr (X : Cx) (ps : List (Addr × Obj)) (Kx : Value → Shared → Prop) : Cx := { X with pn := X.pn ++ ps, xe := fun e s' => wpAny (model X.prog X.w) X.A (noteFrame e X.env) (fun _ s'' => Kx e s'') X.xe s' }
section
variable {X : Cx} {ps pins : List (Addr × Obj)} {Kx : Value → Shared → Prop} {σ : St} {H : Hp} {s : Shared} {Ex : St → XK}
theorem Inv.tr (I : Inv X ps σ H s) (Kx : Value → Shared → Prop) : Inv (X.tr ps Kx) [] σ H s :=
  ⟨⟨I.ok.mod, I.ok.kind, I.ok.glob, I.ok.blt, I.ok.above, I.ok.inj, I.ok.has, I.ok.cab, I.ok.hd, I.ok.frames, I.ok.stk, I.ok.exf, I.ok.bs, I.ok.bsz, I.ok.noex, I.ok.exfs, I.ok.funs, I.ok.frf⟩, I.os, I.bare, I.base, I.loc, I.cell, I.free, I.freeC, fun p hp => I.pin p (by
    have : p ∈ (X.pn ++ ps) ++ [] := hp
    rwa [List.append_nil] at this), I.hok, I.len⟩
theorem Inv.untr (I : Inv (X.tr ps Kx) pins σ H s) : Inv X ps σ H s :=
  ⟨⟨I.ok.mod, I.ok.kind, I.ok.glob, I.ok.blt, I.ok.above, I.ok.inj, I.ok.has, I.ok.cab, I.ok.hd, I.ok.frames, I.ok.stk, I.ok.exf, I.ok.bs, I.ok.bsz, I.ok.noex, I.ok.exfs, I.ok.funs, I.ok.frf⟩, I.os, I.bare, I.base, I.loc, I.cell, I.free, I.freeC, fun p hp => I.pin p (List.mem_append_left _ hp), I.hok, I.len⟩
theorem SP.untr {D : Ends} {f : Flow} {s' : Shared} (h : SP (X.tr ps Kx) pins D f s') : SP X ps D f s' := by
  cases f with
  | next => obtain ⟨σ', H', I, q⟩ := h; exact ⟨σ', H', I.untr, q⟩
  | brk => obtain ⟨σ', H', I, q⟩ := h; exact ⟨σ', H', I.untr, q⟩
  | cont => obtain ⟨σ', H', I, q⟩ := h; exact ⟨σ', H', I.untr, q⟩
  | ret u => obtain ⟨v, σ', H', I, r, q⟩ := h; exact ⟨v, σ', H', I.untr, r, q⟩
noncomputable def Pas (X : Cx) (ps : List (Addr × Obj)) (Kx : Value → Shared → Prop) (Ex : St → XK) : Prop := ∀ (σ' : St) (H1 : Hp) (s1 : Shared) (e : Value) (s' : Shared), Inv X ps σ' H1 s1 → CXR X.prog X.w X.stack H1 s1 (Ex σ') e s' → (X.tr ps Kx).xe e s'
theorem run_fnT {k : Nat} {f : Addr} {fd : FuncData} {qs : List Str} {sp : Sp} {Q : VK} {us : List Value} {vs : List V} (F : FnOk X.prog X.w X.K X.mg X.base (CXR X.prog X.w) k f fd qs sp) (hr : Room k X.A) (hb : Binds X.K fd qs []) (hp : Pas X ps Kx Ex)
    (I : Inv (X.tr ps Kx) pins σ H s) (r : Vals vs us) (h : sp vs H Q (Ex σ)) : wpAny (model X.prog X.w) X.A (call (.ref f) us) (EP (X.tr ps Kx) pins σ Q) (X.tr ps Kx).xe s :=
  wpAny_mono (run_fnx (X := X.tr ps Kx) F hr hb I r h) (fun _ _ z => z) fun e s' ⟨H1, s1, I1, c⟩ => hp σ H1 s1 e s' I1.untr c
end
section
variable {X : Cx} {ps : List (Addr × Obj)} {Kx : Value → Shared → Prop} {Ex : St → XK} {k k' : Nat} {f C : Addr} {fd : FuncData} {qs : List Str} {sp : Sp} {m x : Str} {p pos apos : Pos} {o e : Expr} {es : List Expr} {ta : TE} {t : TA}
theorem pe_fnT (hp : Pas X ps Kx Ex) (F : FnX X.prog X.w X.K X.mg X.base x f fd qs k sp) (hr : Room k' X.A) (ha : PA (X.tr ps Kx) (e :: es) t) (hk : k ≤ k' := by first | decide | exact Nat.le_refl _) (hg : Gl X x := by rfl) (hdb : (x == ("__debug__" : Str)) = false := by decide)
    (he : starEach (e :: es) X.env = (false, eval e X.env) :: starEach es X.env := by rfl) (hpl : (backTo pos (starEach es X.env)).any (·.1) = false := by rfl) :
    PE (X.tr ps Kx) (.Call (.Name x p) (e :: es) [] pos) (fun σ H Q => t σ H fun vs H1 => sp vs H1 Q (Ex σ)) := by
  intro pins s σ H Q I h
  refine wpAny_Call_Name_kw (ld_glob I hg F.mg ?_ hdb)
  refine PySem.W.callWith_K (h₀ := X.base) I.ok.mod.kin F.kp (thn (ha pos pins s σ H _ I h) fun us s1 ⟨vs, H1, I1, r, q⟩ => ⟨I1.kIn, ?_⟩) he hpl
  exact run_fnT F.ok (hr.mono hk) F.bd hp I1 r q
end
noncomputable def takeH (K : PySem.W.Frag) (mg : Str → Option Value) (l : List (Addr × TS)) (D : Ends) : St → XK := fun σ' c _ H1 => ∃ x C mro t, c = .ref C ∧ Exc K mg x C mro ∧ pickH mro l = some t ∧ t D σ' H1
noncomputable def tTryT (K : PySem.W.Frag) (mg : Str → Option Value) (te : List (Addr × Obj) → (Value → Shared → Prop) → (St → XK) → TS) (l : List (Addr × TS)) : TS := fun D σ H => ∀ ps Kx, te ps Kx (takeH K mg l D) D σ H
theorem ps_tryT {X : Cx} {sts : List Stmt} {te : List (Addr × Obj) → (Value → Shared → Prop) → (St → XK) → TS} {h₀ : ExceptHandler} {hs : List ExceptHandler} {l : List (Addr × TS)} {pos : Pos} (he : ∀ ps Kx Ex, Pas X ps Kx Ex → PSs (X.tr ps Kx) sts (te ps Kx Ex)) (hh : Hs X (h₀ :: hs) l) (hf : X.env.frame = some X.env.locals) (hst : X.stack = X.env :: X.outer)
    (hpa : ∀ v, PassesOwnAt (model X.prog X.w) (X.A.mark v) X.A X.env X.xe) : PS X (.Try sts (h₀ :: hs) [] [] pos) (tTryT X.K X.mg te l) := by
  intro pins s σ H D I h
  refine wpAny_Try_except ?_
  have pas : Pas X pins (fun e s₂ => wpAny (model X.prog X.w) X.A (setFlight e none) (fun _ s₃ => wpAny (model X.prog X.w) X.A (handleBy e X.env (h₀ :: hs)) (SP X pins D) X.xe s₃) X.xe s₂) (takeH X.K X.mg l D) := by
    intro σ' H1 s2 ev s1 I1 q
    obtain ⟨xa, C, c, B, H', rfl, F, nmx, C', mro, t, ec, O, pk, qt⟩ := q
    cases ec
    have F' : Flown X.prog X.w (X.env :: X.outer) H1 s2 xa C c B H' s1 := by
      have : Flown X.prog X.w X.stack H1 s2 xa C c B H' s1 := F
      rw [hst] at this; exact this
    have hfr : X.A.frames = some (X.env :: X.outer) := by rw [← hst]; exact I.ok.frames
    have I1' : Inv X pins σ' H1 s2 := I1
    refine fl_note hfr hf F'.fly fun h4 held4 up4 => ?_
    refine fl_land (s := { s1 with heap := h4 }) held4 fun h5 fl5 up5' => ?_
    have up5 := up4.trans up5'
    have inv : ∀ {h : Heap}, B.StaysIn h → s1.heap.UpToSlots h → Inv X pins σ' H' { s1 with heap := h } := fun {h} st up => by
      have u := F.un st up
      exact I1'.call' (s' := { s1 with heap := h }) (ch := []) F.os u (F.hok.kept st) F.bare fun b z => absurd z (by simp)
    have ok := I.ok
    have main : ∀ {hs' : List ExceptHandler} {l' : List (Addr × TS)}, Hs X hs' l' → pickH mro l' = some t → wpAny (model X.prog X.w) X.A (handleBy (.ref xa) X.env hs') (SP X pins D) X.xe { s1 with heap := h5 } := by
      intro hs' l' hH
      induction hH with
      | nil => intro z; cases z
      | @cons nm2 C2 mro2 b₀ suite p2 np rest ts l2 O2 hg hdb hsu r ih =>
        intro z
        have I5 : Inv X pins σ' H' { s1 with heap := h5 } := inv fl5.1 up5
        refine wpAny_handleBy_cons (codeAny_handlers_test ?_) (by intro q; cases q)
        have Ic : Inv (X.caught xa []) pins σ' H' { s1 with heap := h5 } := I5.caught fun p hp => absurd hp (by simp)
        refine wpAny_mono (E := fun _ _ => False) (ld_glob Ic hg O2.bound (Q := fun c s' => c = .ref C2 ∧ s' = { s1 with heap := h5 }) ⟨rfl, rfl⟩ hdb) (fun c s' hc => ?_) fun _ _ z => z.elim
        obtain ⟨rfl, rfl⟩ := hc
        obtain ⟨bm, N1, nm, q1, bs, hdct, sn, sub, ab, col, dd, k0, k1, k2, k3, k5, mN, hC, _, _, T, em⟩ := O.obj I5.kIn
        obtain ⟨bm', N1', nm', q1', bs', hdct', sn', sub', ab', col', dd', l0, l1, l2', l3, l5, mN', hC', _, _, T', em'⟩ := O2.obj I5.kIn
        obtain ⟨ob, vs5, _, _, _, hob, hobc, _⟩ := fl5.2.2.2
        refine exc_matches (oe := ob) hC hC' hob hobc (T'.hasType PySem.F.excBase_ValueError.hasBase) ?_
        rw [← em]
        cases hb : mro.contains (.ref C2) with
        | true =>
          have z' : (if mro.contains (.ref C2) = true then some ts else pickH mro l2) = some t := z
          rw [hb, if_pos rfl] at z'
          cases z'
          refine codeAny_handlers_suite ?_
          refine fl_land (s := { s1 with heap := h5 }) fl5 fun h6 fl6 up6 => ?_
          have I6 : Inv X pins σ' H' { s1 with heap := h6 } := inv fl6.1 (up5.trans up6)
          obtain ⟨oe, vs, _, _, _, g1, g2, g3, g4, _⟩ := fl6.2.2.2
          obtain ⟨n, chn⟩ := F.ch
          have chn6 : Chain h6 (fun a => H' a = none) (n + 1) (.ref xa) := .inr ⟨xa, oe, vs, c, rfl, g1, F.new, g3, g4, chn.imp fun a o ws na ea _ => ⟨fl6.1 a o ea, na⟩⟩
          obtain ⟨ps, pk1, pk2⟩ := chn6.pins
          have Ic6 : Inv (X.caught xa ps) pins σ' H' { s1 with heap := h6 } := I6.caught fun p hp => by
            obtain ⟨a1, a2, ws, a3⟩ := pk1 p hp
            refine ⟨a1, a2, fun y => ?_, fun y => ?_, fun v y => ?_⟩
            · obtain ⟨m, ⟨o', es, ep, ho', hd', _⟩, _⟩ := I6.loc
              rw [y] at a1
              have a1' : h6.get? X.env.locals = some o' := ho'
              rw [a1'] at a1; cases a1
              rw [hd'] at a3; cases a3
            · obtain ⟨_, o', ho', n'⟩ := I6.funs.mem y
              have a1' : h6.get? p.1 = some o' := ho'
              rw [a1'] at a1; cases a1
              exact n' ws a3
            · rw [a3] at y; cases y
          refine wpAny_passesOwnAt (hpa _) ?_
          exact wpAny_mono (hsu xa ps ok ⟨n, pk2⟩ pins _ σ' H' D Ic6 qt) (fun f s' q => SP.uncaught ok q) fun _ _ q => q
        | false =>
          have z' : (if mro.contains (.ref C2) = true then some ts else pickH mro l2) = some t := z
          rw [hb, if_neg Bool.false_ne_true] at z'
          exact ih z'
    exact main hh pk
  refine wpAny_mono (he pins _ _ pas [] s σ H D (I.tr _) (h _ _)) (fun f s1 q => ?_) fun _ _ q => q
  cases f with
  | next => exact wpAny_execs_nil q.untr
  | ret v => exact SP.untr q
  | brk => exact SP.untr q
  | cont => exact SP.untr q
end L2
namespace L3
open PySem
open Sem (wp)
open AutoSeq1 (wpAny_loadPart')
noncomputable def AtQ (c : Bool) (it t : Addr) (xs : Array Value) (i : Nat) (h : Heap) : Prop := (c = true ∧ AtT it t xs i h) ∨ (c = false ∧ h.IsListIter it t i ∧ h.IsList t xs)
theorem AtQ.move {c : Bool} {it t b : Addr} {xs : Array Value} {i : Nat} {h h' : Heap} (a : AtQ c it t xs i h) (k : Heap.ExtBut b h h') (h1 : it ≠ b) (h2 : t ≠ b) : AtQ c it t xs i h' := by
  rcases a with ⟨e, a⟩ | ⟨e, a, a'⟩
  · exact .inl ⟨e, a.move k h1 h2⟩
  · exact .inr ⟨e, a.extBut k h1, a'.extBut k h2⟩
theorem AtQ.keeps {c : Bool} {it t : Addr} {xs : Array Value} {i : Nat} {h h' : Heap} (a : AtQ c it t xs i h) (k1 : ∀ o, h.get? it = some o → h'.get? it = some o) (k2 : ∀ o, h.get? t = some o → h'.get? t = some o) : AtQ c it t xs i h' := by
  rcases a with ⟨e, a⟩ | ⟨e, ⟨o, ho, r⟩, o', ho', r'⟩
  · exact .inl ⟨e, a.keeps k1 k2⟩
  · exact .inr ⟨e, ⟨o, k1 o ho, r⟩, o', k2 o' ho', r'⟩
noncomputable def ItQ (c : Bool) (it t : Addr) (i : Nat) (h : Heap) : Prop := (c = true ∧ h.IsTupleIter it t i) ∨ (c = false ∧ h.IsListIter it t i)
theorem AtQ.iter {c : Bool} {it t : Addr} {xs : Array Value} {i : Nat} {h : Heap} (a : AtQ c it t xs i h) : ItQ c it t i h := by
  rcases a with ⟨e, a⟩ | ⟨e, a, _⟩
  · exact .inl ⟨e, a.iter⟩
  · exact .inr ⟨e, a⟩
theorem ItQ.at {c : Bool} {it t : Addr} {i : Nat} {h h' : Heap} (a : ItQ c it t i h) (k : ∀ o, h.get? it = some o → h'.get? it = some o) : ItQ c it t i h' := by
  rcases a with ⟨e, o, ho, r⟩ | ⟨e, o, ho, r⟩
  · exact .inl ⟨e, o, k o ho, r⟩
  · exact .inr ⟨e, o, k o ho, r⟩
theorem ItQ.obj {c : Bool} {it t : Addr} {i : Nat} {h : Heap} (a : ItQ c it t i h) : ∃ o, h.get? it = some o ∧ ∀ v, o.data ≠ .cell v := by
  rcases a with ⟨_, o, ho, _, d⟩ | ⟨_, o, ho, _, d⟩
  · exact ⟨o, ho, fun v z => by rw [d] at z; cases z⟩
  · exact ⟨o, ho, fun v z => by rw [d] at z; cases z⟩
noncomputable def SeqQ (c : Bool) (t : Addr) (xs : Array Value) (h : Heap) : Prop := (c = true ∧ h.IsTuple t xs) ∨ (c = false ∧ h.IsList t xs)
theorem AtQ.of {c : Bool} {it t : Addr} {xs : Array Value} {i : Nat} {h : Heap} (a : ItQ c it t i h) (b : SeqQ c t xs h) : AtQ c it t xs i h := by
  rcases a with ⟨e, a⟩ | ⟨e, a⟩ <;> rcases b with ⟨e', b⟩ | ⟨e', b⟩
  · exact .inl ⟨e, a, b⟩
  · rw [e] at e'; cases e'
  · rw [e] at e'; cases e'
  · exact .inr ⟨e, a, b⟩
theorem SeqQ.lt {c : Bool} {t : Addr} {xs : Array Value} {h : Heap} (b : SeqQ c t xs h) : t < h.objs.size := by
  rcases b with ⟨_, o, ho, _⟩ | ⟨_, o, ho, _⟩ <;> exact Heap.lt_size ho
theorem SeqQ.keeps {c : Bool} {t : Addr} {xs : Array Value} {h h' : Heap} (b : SeqQ c t xs h) (k : ∀ o, h.get? t = some o → h'.get? t = some o) : SeqQ c t xs h' := by
  rcases b with ⟨e, o, ho, r⟩ | ⟨e, o, ho, r⟩
  · exact .inl ⟨e, o, k o ho, r⟩
  · exact .inr ⟨e, o, k o ho, r⟩
section
variable {prog : Program} {w : World} {A : Around} {E : Value → Shared → Prop} {s : Shared}
theorem qnext_item {c : Bool} {it t : Addr} {i : Nat} {xs : Array Value} {x : Value} {Q : Value → Shared → Prop} (a : AtQ c it t xs i s.heap) (hne : t ≠ it) (hx : xs[i]? = some x)
    (hQ : ∀ h', AtQ c it t xs (i + 1) h' → Heap.SameBut it s.heap h' → Q x { s with heap := h' }) : wpAny (model prog w) A (Builtin.SmallTypes.nextOf (.ref it)) Q E s := by
  rcases a with ⟨e, a⟩ | ⟨e, a, a'⟩
  · exact tnext_item a hne hx fun h' y k => hQ h' (.inl ⟨e, y⟩) k
  · exact wpAny_nextOf_list_item a a' hx fun h' y k => hQ h' (.inr ⟨e, y, a'.extBut k.extBut hne⟩) k
theorem qnext_end {c : Bool} {it t : Addr} {i : Nat} {xs : Array Value} {Q : Value → Shared → Prop} (hh : A.handled = none) (a : AtQ c it t xs i s.heap) (hx : xs[i]? = none)
    (hE : ∀ h' e, Heap.ExtBut it s.heap h' → (∃ o, h'.get? e = some o ∧ o.cls = .type "StopIteration") → E (.ref e) { s with heap := h' }) : wpAny (model prog w) A (Builtin.SmallTypes.nextOf (.ref it)) Q E s := by
  rcases a with ⟨e, a⟩ | ⟨e, a, a'⟩
  · exact tnext_end hh a hx hE
  · exact wpAny_nextOf_list_end hh a a' hx hE
structure ZipQ (c1 c2 : Bool) (z TI TO i1 i2 t1 t2 : Addr) (xs ys : Array Value) (i : Nat) (f0 : Value) (h : Heap) : Prop where
  z : IsZip h z TI TO f0
  TI : IsPair h TI (.ref i1) (.ref i2)
  TO : ∃ a b, IsPair h TO a b
  one : AtQ c1 i1 t1 xs i h
  two : AtQ c2 i2 t2 ys i h
theorem ZipQ.keeps {c1 c2 : Bool} {z TI TO i1 i2 t1 t2 : Addr} {xs ys : Array Value} {i : Nat} {f0 : Value} {h h' : Heap} (Z : ZipQ c1 c2 z TI TO i1 i2 t1 t2 xs ys i f0 h) (k : ∀ b ∈ [z, TI, TO, i1, i2], ∀ o, h.get? b = some o → h'.get? b = some o)
    (k1 : ∀ o, h.get? t1 = some o → h'.get? t1 = some o) (k2 : ∀ o, h.get? t2 = some o → h'.get? t2 = some o) : ZipQ c1 c2 z TI TO i1 i2 t1 t2 xs ys i f0 h' :=
  ⟨k z (by simp) _ Z.z, k TI (by simp) _ Z.TI, let ⟨a, b, q⟩ := Z.TO; ⟨a, b, k TO (by simp) _ q⟩, Z.one.keeps (k i1 (by simp)) k1, Z.two.keeps (k i2 (by simp)) k2⟩
theorem zipQ_next {c1 c2 : Bool} {z TI TO i1 i2 t1 t2 : Addr} {xs ys : Array Value} {i : Nat} {x y : Value} {Q : Value → Shared → Prop} (D : ZipApart z TI TO i1 i2 t1 t2) (Z : ZipQ c1 c2 z TI TO i1 i2 t1 t2 xs ys i .none s.heap) (hx : xs[i]? = some x) (hy : ys[i]? = some y)
    (hQ : ∀ h', ZipQ c1 c2 z TI TO i1 i2 t1 t2 xs ys (i + 1) (rawInt s.heap.objs.size) h' → IsPair h' s.heap.objs.size x y → h'.objs.size = s.heap.objs.size + 1 →
      (∀ c o, c ≠ z → c ≠ TO → c ≠ i1 → c ≠ i2 → s.heap.get? c = some o → h'.get? c = some o) → Q (.ref s.heap.objs.size) { s with heap := h' }) :
    wpAny (model prog w) A (Builtin.«zip.__next__» ⟨[.ref z], []⟩) (fun fin s' => ∃ v, fin = .done (.ret v) ∧ Q v s') E s := by
  obtain ⟨hz, hTI, ⟨a, b, hTO⟩, h1, h2⟩ := Z
  show wpAny _ _ (field (.ref z) 2 >>= _) _ _ _
  refine wpAny_bind (wpAny_field hz rfl (x := .bool false) rfl ?_)
  show wpAny _ _ (field (.ref z) 3 >>= _) _ _ _
  refine wpAny_bind (wpAny_field hz rfl (x := .ref TI) rfl ?_)
  refine wpAny_bind (wpAny_seqItems hTI rfl ?_)
  show wpAny _ _ (Builtin.SmallTypes.ownedTupleIsFree (.ref z) >>= _) _ _ _
  refine wpAny_bind ?_
  unfold Builtin.SmallTypes.ownedTupleIsFree
  refine wpAny_bind (wpAny_field hz rfl (x := .none) rfl (wpAny_pure ?_))
  simp only [if_true]
  refine wpAny_bind (wpAny_rule (wpAny_bind (wpAny_field hz rfl (x := .ref TO) rfl (wpAny_bind (wpAny_setField_rec hz (by simp) fun g1 z1 k1 => ?_)))))
  replace z1 : IsZip g1 z TI TO .ellipsis := z1
  refine wpAny_bind ?_
  simp only [List.forIn_cons, List.forIn_nil, List.zipIdx_cons, List.zipIdx_nil]
  refine wpAny_bind (wpAny_bind (wpAny_onRaise ?_))
  show wpAny _ _ (Builtin.SmallTypes.nextOf (.ref i1) >>= _) _ _ _
  refine wpAny_bind (qnext_item (h1.move k1.extBut D.i1z D.l1z) D.l1i1 hx fun g2 p2 k2 => wpAny_pure ?_)
  have O2 : IsPair g2 TO a b := k2.extBut _ _ D.TOi1 (k1.extBut _ _ D.TOz hTO)
  refine wpAny_bind (wpAny_seqItems O2 rfl (wpAny_bind (wpAny_updateSeq_pair O2 fun g3 O3 k3 => ?_)))
  replace O3 : IsPair g3 TO x b := O3
  refine wpAny_bind (wpAny_letGo (wpAny_pure (wpAny_bind (wpAny_bind (wpAny_onRaise ?_)))))
  show wpAny _ _ (Builtin.SmallTypes.nextOf (.ref i2) >>= _) _ _ _
  refine wpAny_bind (qnext_item (((h2.move k1.extBut D.i2z D.l2z).move k2.extBut D.i12.symm D.l2i1).move k3.extBut D.TOi2.symm D.l2TO) D.l2i2 hy fun g4 p4 k4 => wpAny_pure ?_)
  have O4 : IsPair g4 TO x b := k4.extBut _ _ D.TOi2 O3
  refine wpAny_bind (wpAny_seqItems O4 rfl (wpAny_bind (wpAny_updateSeq_pair O4 fun g5 O5 k5 => ?_)))
  replace O5 : IsPair g5 TO x y := O5
  refine wpAny_bind (wpAny_letGo (wpAny_pure (wpAny_pure (wpAny_bind (wpAny_seqItems O5 rfl (wpAny_bind (wpAny_newTuple ?_)))))))
  have sz : g5.objs.size = s.heap.objs.size := by rw [k5.1, k4.1, k3.1, k2.1, k1.1]
  have z5 : IsZip g5 z TI TO .ellipsis := k5.extBut _ _ D.TOz.symm (k4.extBut _ _ D.i2z.symm (k3.extBut _ _ D.TOz.symm (k2.extBut _ _ D.i1z.symm z1)))
  have kp5 : ∀ c o, c ≠ z → c ≠ TO → c ≠ i1 → c ≠ i2 → s.heap.get? c = some o → g5.get? c = some o := fun c o n1 n2 n3 n4 e => k5.extBut _ _ n2 (k4.extBut _ _ n4 (k3.extBut _ _ n2 (k2.extBut _ _ n3 (k1.extBut _ _ n1 e))))
  have a5 : AtQ c1 i1 t1 xs (i + 1) g5 := ((p2.move k3.extBut D.TOi1.symm D.l1TO).move k4.extBut D.i12 D.l1i2).move k5.extBut D.TOi1.symm D.l1TO
  have b5 : AtQ c2 i2 t2 ys (i + 1) g5 := p4.move k5.extBut D.TOi2.symm D.l2TO
  have zlt : z < g5.objs.size := Heap.lt_size z5
  show wpAny _ _ (Builtin.SmallTypes.ownedTupleHandOut (.ref z) (.ref g5.objs.size) >>= _) _ _ _
  refine wpAny_bind ?_
  unfold Builtin.SmallTypes.ownedTupleHandOut
  have z6 : IsZip (g5.push { cls := .type "tuple", data := .seq #[x, y] }) z TI TO .ellipsis := Heap.get?_push_of_some _ z5
  refine wpAny_bind (wpAny_setField_rec z6 (by simp) fun g7 z7 k7 => ?_)
  replace z7 : IsZip g7 z TI TO (rawInt g5.objs.size) := z7
  refine wpAny_setField_rec z7 (by simp) fun g8 z8 k8 => ?_
  replace z8 : IsZip g8 z TI TO (rawInt g5.objs.size) := z8
  have up : ∀ c o, c ≠ z → g5.get? c = some o → g8.get? c = some o := fun c o n1 e => k8.extBut _ _ n1 (k7.extBut _ _ n1 (Heap.get?_push_of_some _ e))
  have T8 : IsPair g8 g5.objs.size x y := k8.extBut _ _ (Nat.ne_of_gt zlt) (k7.extBut _ _ (Nat.ne_of_gt zlt) (Heap.get?_push_size _ rfl))
  have s8 : g8.objs.size = g5.objs.size + 1 := by rw [k8.1, k7.1, Heap.size_push]
  rw [sz] at z8 T8 s8
  refine wpAny_pure ⟨_, rfl, ?_⟩
  show Q (.ref g5.objs.size) _
  rw [sz]
  exact hQ g8 ⟨z8, up _ _ D.TIz (kp5 _ _ D.TIz D.TITO D.TIi1 D.TIi2 hTI), ⟨x, y, up _ _ D.TOz O5⟩, a5.keeps (fun o q => up _ o D.i1z q) (fun o q => up _ o D.l1z q), b5.keeps (fun o q => up _ o D.i2z q) fun o q => up _ o D.l2z q⟩ T8 s8
    fun c o n1 n2 n3 n4 e => up c o n1 (kp5 c o n1 n2 n3 n4 e)
theorem zipQ_stop {c1 c2 : Bool} {z TI TO i1 i2 t1 t2 : Addr} {xs ys : Array Value} {i : Nat} {Q : Fin → Shared → Prop} (hh : A.handled = none) (D : ZipApart z TI TO i1 i2 t1 t2) (Z : ZipQ c1 c2 z TI TO i1 i2 t1 t2 xs ys i .none s.heap) (hend : xs[i]? = none ∨ ys[i]? = none)
    (hE : ∀ h' e, (∀ c o, c ≠ z → c ≠ TO → c ≠ i1 → c ≠ i2 → s.heap.get? c = some o → h'.get? c = some o) → (∃ o, h'.get? e = some o ∧ o.cls = .type "StopIteration") → E (.ref e) { s with heap := h' }) :
    wpAny (model prog w) A (Builtin.«zip.__next__» ⟨[.ref z], []⟩) Q E s := by
  obtain ⟨hz, hTI, ⟨a, b, hTO⟩, h1, h2⟩ := Z
  show wpAny _ _ (field (.ref z) 2 >>= _) _ _ _
  refine wpAny_bind (wpAny_field hz rfl (x := .bool false) rfl ?_)
  show wpAny _ _ (field (.ref z) 3 >>= _) _ _ _
  refine wpAny_bind (wpAny_field hz rfl (x := .ref TI) rfl ?_)
  refine wpAny_bind (wpAny_seqItems hTI rfl ?_)
  show wpAny _ _ (Builtin.SmallTypes.ownedTupleIsFree (.ref z) >>= _) _ _ _
  refine wpAny_bind ?_
  unfold Builtin.SmallTypes.ownedTupleIsFree
  refine wpAny_bind (wpAny_field hz rfl (x := .none) rfl (wpAny_pure ?_))
  simp only [if_true]
  refine wpAny_bind (wpAny_rule (wpAny_bind (wpAny_field hz rfl (x := .ref TO) rfl (wpAny_bind (wpAny_setField_rec hz (by simp) fun g1 z1 k1 => ?_)))))
  replace z1 : IsZip g1 z TI TO .ellipsis := z1
  refine wpAny_bind ?_
  simp only [List.forIn_cons, List.forIn_nil, List.zipIdx_cons, List.zipIdx_nil]
  refine wpAny_bind (wpAny_bind (wpAny_onRaise ?_))
  show wpAny _ _ (Builtin.SmallTypes.nextOf (.ref i1) >>= _) _ _ _
  cases hx : xs[i]? with
  | none =>
    refine wpAny_bind (qnext_end hh (h1.move k1.extBut D.i1z D.l1z) hx fun g2 e k2 he => ?_)
    obtain ⟨oe, hoe, hce⟩ := he
    have z2 : IsZip g2 z TI TO .ellipsis := k2 _ _ D.i1z.symm z1
    have hez : e ≠ z := fun q => by subst q; rw [z2] at hoe; cases hoe; simp at hce
    exact wpAny_setField_rec z2 (by simp) fun g3 _ k3 => hE g3 e (fun c o n1 _ n3 _ q => k3.extBut _ _ n1 (k2 _ _ n3 (k1.extBut _ _ n1 q))) ⟨oe, k3.extBut _ _ hez hoe, hce⟩
  | some x =>
    have hy : ys[i]? = none := by rcases hend with q | q; rw [hx] at q; cases q; exact q
    refine wpAny_bind (qnext_item (h1.move k1.extBut D.i1z D.l1z) D.l1i1 hx fun g2 p2 k2 => wpAny_pure ?_)
    have O2 : IsPair g2 TO a b := k2.extBut _ _ D.TOi1 (k1.extBut _ _ D.TOz hTO)
    refine wpAny_bind (wpAny_seqItems O2 rfl (wpAny_bind (wpAny_updateSeq_pair O2 fun g3 O3 k3 => ?_)))
    refine wpAny_bind (wpAny_letGo (wpAny_pure (wpAny_bind (wpAny_bind (wpAny_onRaise ?_)))))
    show wpAny _ _ (Builtin.SmallTypes.nextOf (.ref i2) >>= _) _ _ _
    refine wpAny_bind (qnext_end hh (((h2.move k1.extBut D.i2z D.l2z).move k2.extBut D.i12.symm D.l2i1).move k3.extBut D.TOi2.symm D.l2TO) hy fun g4 e k4 he => ?_)
    obtain ⟨oe, hoe, hce⟩ := he
    have z4 : IsZip g4 z TI TO .ellipsis := k4 _ _ D.i2z.symm (k3.extBut _ _ D.TOz.symm (k2.extBut _ _ D.i1z.symm z1))
    have hez : e ≠ z := fun q => by subst q; rw [z4] at hoe; cases hoe; simp at hce
    exact wpAny_setField_rec z4 (by simp) fun g5 _ k5 => hE g5 e (fun c o n1 n2 n3 n4 q => k5.extBut _ _ n1 (k4 _ _ n4 (k3.extBut _ _ n2 (k2.extBut _ _ n3 (k1.extBut _ _ n1 q))))) ⟨oe, k5.extBut _ _ hez hoe, hce⟩
theorem zipQ_pyNext {c1 c2 : Bool} {z TI TO i1 i2 t1 t2 : Addr} {xs ys : Array Value} {i : Nat} {x y : Value} {Q : Option Value → Shared → Prop} (D : ZipApart z TI TO i1 i2 t1 t2) (Z : ZipQ c1 c2 z TI TO i1 i2 t1 t2 xs ys i .none s.heap) (hx : xs[i]? = some x) (hy : ys[i]? = some y)
    (hQ : ∀ h', ZipQ c1 c2 z TI TO i1 i2 t1 t2 xs ys (i + 1) (rawInt s.heap.objs.size) h' → IsPair h' s.heap.objs.size x y → h'.objs.size = s.heap.objs.size + 1 →
      (∀ c o, c ≠ z → c ≠ TO → c ≠ i1 → c ≠ i2 → s.heap.get? c = some o → h'.get? c = some o) → Q (some (.ref s.heap.objs.size)) { s with heap := h' }) : wpAny (model prog w) A (pyNext (.ref z)) Q E s := by
  have hT : s.TypeIs (.ref z) "zip" := ⟨_, Z.z, rfl⟩
  unfold pyNext
  exact wpAny_bind (wpAny_attempt (wpAny_callSpecial?_slot (name := Str.ofString "__next__") hT F.slot_zip_next (wpAny_call_entry F.slot_zip_next hT F.entry_zip_next
    (zipQ_next D Z hx hy fun h' p1 p2 p3 p4 => wpAny_pure (hQ h' p1 p2 p3 p4)) (F.args_zip_next_1 _))))
theorem zipQ_pyEnd {c1 c2 : Bool} {z TI TO i1 i2 t1 t2 : Addr} {xs ys : Array Value} {i : Nat} {Q : Option Value → Shared → Prop} (hh : A.handled = none) (D : ZipApart z TI TO i1 i2 t1 t2) (Z : ZipQ c1 c2 z TI TO i1 i2 t1 t2 xs ys i .none s.heap) (hend : xs[i]? = none ∨ ys[i]? = none)
    (hQ : ∀ h', (∀ c o, c ≠ z → c ≠ TO → c ≠ i1 → c ≠ i2 → s.heap.get? c = some o → h'.get? c = some o) → Q none { s with heap := h' }) : wpAny (model prog w) A (pyNext (.ref z)) Q E s := by
  have hT : s.TypeIs (.ref z) "zip" := ⟨_, Z.z, rfl⟩
  unfold pyNext
  refine wpAny_bind (wpAny_attempt (wpAny_callSpecial?_slot (name := Str.ofString "__next__") hT F.slot_zip_next (wpAny_call_entry F.slot_zip_next hT F.entry_zip_next
    (zipQ_stop hh D Z hend fun h' e hk he => ?_) (F.args_zip_next_1 _))))
  obtain ⟨o, ho, hc⟩ := he
  exact wpAny_bind (wpAny_isInstance (T := "StopIteration") (b := true) ⟨o, ho, hc⟩ isSubtype_stop (wpAny_pure (hQ _ hk)))
noncomputable def itObj (c : Bool) (t : Addr) : Obj := { cls := .type (if c = true then "tuple_iterator" else "list_iterator"), data := .fields #[.ref t, .int 0 0] }
theorem pyIter_q {c : Bool} {t : Addr} {xs : Array Value} {Q : Value → Shared → Prop} (b : SeqQ c t xs s.heap) (hQ : Q (.ref s.heap.objs.size) { s with heap := s.heap.push (itObj c t) }) : wpAny (model prog w) A (pyIter (.ref t)) Q E s := by
  rcases b with ⟨rfl, b⟩ | ⟨rfl, b⟩
  · exact wpAny_pyIter_tuple b hQ
  · exact wpAny_pyIter_list b hQ
theorem itObj_at {c : Bool} {t it : Addr} {h : Heap} (e : h.get? it = some (itObj c t)) : ItQ c it t 0 h := by
  cases c
  · exact .inr ⟨rfl, _, e, rfl, rfl⟩
  · exact .inl ⟨rfl, _, e, rfl, rfl⟩
noncomputable abbrev qh1 (c1 : Bool) (h : Heap) (t1 : Addr) : Heap := h.push (itObj c1 t1)
noncomputable abbrev qh2 (c1 c2 : Bool) (h : Heap) (t1 t2 : Addr) : Heap := (qh1 c1 h t1).push (itObj c2 t2)
noncomputable abbrev qh3 (c1 c2 : Bool) (h : Heap) (t1 t2 : Addr) : Heap := (qh2 c1 c2 h t1 t2).push { cls := .type "tuple", data := .seq #[.ref h.objs.size, .ref (qh1 c1 h t1).objs.size] }
noncomputable abbrev qh4 (c1 c2 : Bool) (h : Heap) (t1 t2 : Addr) : Heap := (qh3 c1 c2 h t1 t2).push { cls := .type "tuple", data := .seq #[.none, .none] }
noncomputable abbrev qh5 (c1 c2 : Bool) (h : Heap) (t1 t2 : Addr) : Heap := (qh4 c1 c2 h t1 t2).push { cls := .type "zip", data := .fields #[.none, .bool false, .bool false, .ref (qh2 c1 c2 h t1 t2).objs.size, .ref (qh3 c1 c2 h t1 t2).objs.size] }
end
theorem zipQ_new (c1 c2 : Bool) (t1 t2 : Addr) (xs ys : Array Value) :
    Meets (Builtin.«zip.__new__» ⟨[.type "zip", .ref t1, .ref t2], []⟩) (fun _ R s => SeqQ c1 t1 xs s.heap ∧ SeqQ c2 t2 ys s.heap ∧ R (.ok (.ret (.ref (qh4 c1 c2 s.heap t1 t2).objs.size))) { s with heap := qh5 c1 c2 s.heap t1 t2 }) :=
  .of_wp fun prog w A R s h => by
    obtain ⟨hp, g, d, tk, os⟩ := s; obtain ⟨ht1, ht2, h⟩ := h
    have hsub := sub_zip
    have T1 : SeqQ c1 t1 xs (Shared.heap ⟨hp, g, d, tk, os⟩) := ht1
    have T2 : SeqQ c2 t2 ys (Shared.heap ⟨hp.push (itObj c1 t1), g, d, tk, os⟩) := ht2.keeps fun o e => Heap.get?_push_of_some _ e
    wp_walk using pyIter_q T1, pyIter_q T2
    exact ⟨_, rfl, h⟩
section
variable {prog : Program} {w : World} {A : Around} {E : Value → Shared → Prop} {s : Shared}
theorem call_zipQ {c1 c2 : Bool} {t1 t2 : Addr} {xs ys : Array Value} {Q : Value → Shared → Prop} (ht1 : SeqQ c1 t1 xs s.heap) (ht2 : SeqQ c2 t2 ys s.heap)
    (h : ∀ h', ZipQ c1 c2 (s.heap.objs.size + 4) (s.heap.objs.size + 2) (s.heap.objs.size + 3) s.heap.objs.size (s.heap.objs.size + 1) t1 t2 xs ys 0 .none h' → h'.objs.size = s.heap.objs.size + 5 →
      (∀ c o, s.heap.get? c = some o → h'.get? c = some o) → Q (.ref (s.heap.objs.size + 4)) { s with heap := h' }) : wpAny (model prog w) A (call (.type "zip") [.ref t1, .ref t2]) Q E s := by
  refine callType_new F.called_zip (by decide) (F.typeCall_zip_2 _ _) (F.newCall_zip_2 _ _) (fun obj => F.args_object_init_3 obj _ _) F.entry_zip_new (zipQ_new c1 c2 t1 t2 xs ys) ⟨ht1, ht2, ?_⟩
  have z1 : (qh1 c1 s.heap t1).objs.size = s.heap.objs.size + 1 := Heap.size_push ..
  have z2 : (qh2 c1 c2 s.heap t1 t2).objs.size = s.heap.objs.size + 2 := by rw [Heap.size_push, z1]
  have z3 : (qh3 c1 c2 s.heap t1 t2).objs.size = s.heap.objs.size + 3 := by rw [Heap.size_push, z2]
  have z4 : (qh4 c1 c2 s.heap t1 t2).objs.size = s.heap.objs.size + 4 := by rw [Heap.size_push, z3]
  have z5 : (qh5 c1 c2 s.heap t1 t2).objs.size = s.heap.objs.size + 5 := by rw [Heap.size_push, z4]
  have up : ∀ c o, s.heap.get? c = some o → (qh5 c1 c2 s.heap t1 t2).get? c = some o := fun c o q => Heap.get?_push_of_some _ (Heap.get?_push_of_some _ (Heap.get?_push_of_some _ (Heap.get?_push_of_some _ (Heap.get?_push_of_some _ q))))
  have g5 : (qh5 c1 c2 s.heap t1 t2).get? (qh4 c1 c2 s.heap t1 t2).objs.size = some _ := Heap.get?_push_size _ rfl
  have g4 : (qh5 c1 c2 s.heap t1 t2).get? (qh3 c1 c2 s.heap t1 t2).objs.size = some _ := Heap.get?_push_of_some _ (Heap.get?_push_size _ rfl)
  have g3 : (qh5 c1 c2 s.heap t1 t2).get? (qh2 c1 c2 s.heap t1 t2).objs.size = some _ := Heap.get?_push_of_some _ (Heap.get?_push_of_some _ (Heap.get?_push_size _ rfl))
  have g2 : (qh5 c1 c2 s.heap t1 t2).get? (qh1 c1 s.heap t1).objs.size = some (itObj c2 t2) := Heap.get?_push_of_some _ (Heap.get?_push_of_some _ (Heap.get?_push_of_some _ (Heap.get?_push_size _ rfl)))
  have g1 : (qh5 c1 c2 s.heap t1 t2).get? s.heap.objs.size = some (itObj c1 t1) := Heap.get?_push_of_some _ (Heap.get?_push_of_some _ (Heap.get?_push_of_some _ (Heap.get?_push_of_some _ (Heap.get?_push_size _ rfl))))
  show _ ∧ _
  rw [z2, z3, z4] at g5
  rw [z1, z2] at g3
  rw [z3] at g4
  rw [z1] at g2
  rw [z4]
  exact ⟨⟨_, g5, rfl⟩, h _ ⟨g5, g3, ⟨_, _, g4⟩, .of (itObj_at g1) (ht1.keeps fun o q => up _ o q), .of (itObj_at g2) (ht2.keeps fun o q => up _ o q)⟩ z5 up⟩
end
end L3
namespace L2
open PySem PySem.Spec PyProof.Rows
noncomputable def SqQ (c : Bool) (K : PySem.W.Frag) (H : Hp) (a : Addr) (xs : List V) : Prop := (c = true ∧ SqT K H a xs) ∨ (c = false ∧ SqL K H a xs)
theorem SqQ.tup {K : PySem.W.Frag} {H : Hp} {a : Addr} {xs : List V} (h : SqT K H a xs) : SqQ true K H a xs := .inl ⟨rfl, h⟩
theorem SqQ.lst {K : PySem.W.Frag} {H : Hp} {a : Addr} {xs : List V} (h : SqL K H a xs) : SqQ false K H a xs := .inr ⟨rfl, h⟩
theorem Inv.seqQ {c : Bool} {X : Cx} {pins : List (Addr × Obj)} {σ : St} {H : Hp} {s : Shared} {a : Addr} {xs : List V} (I : Inv X pins σ H s) (h : SqQ c X.K H a xs) : ∃ its : List Value, Vals xs its ∧ L3.SeqQ c a its.toArray s.heap ∧ xs.length ≤ sizeLine := by
  rcases h with ⟨e, h⟩ | ⟨e, h⟩
  · obtain ⟨its, r, p, z⟩ := I.tuple h
    exact ⟨its, r, .inl ⟨e, p⟩, z⟩
  · obtain ⟨its, r, p, z⟩ := I.list h
    exact ⟨its, r, .inr ⟨e, p.isList⟩, z⟩
theorem Inv.seqQ_inj {c : Bool} {X : Cx} {pins : List (Addr × Obj)} {σ : St} {H : Hp} {s : Shared} {a : Addr} {xs ys : List V} (I : Inv X pins σ H s) (h : SqQ c X.K H a xs) (h' : SqQ c X.K H a ys) : xs = ys := by
  rcases h with ⟨e, h⟩ | ⟨e, h⟩ <;> rcases h' with ⟨e', h'⟩ | ⟨e', h'⟩
  · exact I.tuple_inj h h'
  · rw [e] at e'; cases e'
  · rw [e] at e'; cases e'
  · exact I.list_inj h h'
noncomputable def ItzQ (c1 c2 : Bool) (K : PySem.W.Frag) (a b : Addr) : It :=
  ⟨fun i H => ∃ xs ys x y, SqQ c1 K H a xs ∧ SqQ c2 K H b ys ∧ xs[i]? = some x ∧ ys[i]? = some y,
   fun i H v H' => ∃ p x y, H p = none ∧ v = .ref p ∧ H' = upd H p (.tup [x, y]) ∧ (∀ xs, SqQ c1 K H a xs → xs[i]? = some x) ∧ ∀ ys, SqQ c2 K H b ys → ys[i]? = some y,
   fun i H => ∃ xs ys, SqQ c1 K H a xs ∧ SqQ c2 K H b ys ∧ (xs.length ≤ i ∨ ys.length ≤ i)⟩
theorem turn_zipQ {c1 c2 : Bool} {P : Program} {w : World} {K : PySem.W.Frag} {elts : List Expr} {x1} {tp : Pos} {z TI TO i1 i2 a b : Addr} (D : ZipApart z TI TO i1 i2 a b) :
    Turn P w K (.Tuple elts x1 tp) (ItzQ c1 c2 K a b) [z, TI, TO, i1, i2] z (fun i h => IsZip h z TI TO .none ∧ IsPair h TI (.ref i1) (.ref i2) ∧ (∃ u v, IsPair h TO u v) ∧ L3.ItQ c1 i1 a i h ∧ L3.ItQ c2 i2 b i h) where
  mem := by simp
  obj := fun i h st c hc => by
    obtain ⟨q1, q2, ⟨u, v, q3⟩, i4, i5⟩ := st
    obtain ⟨o4, e4, d4⟩ := i4.obj
    obtain ⟨o5, e5, d5⟩ := i5.obj
    simp only [List.mem_cons, List.not_mem_nil, or_false] at hc
    rcases hc with rfl | rfl | rfl | rfl | rfl
    · exact ⟨_, q1, fun v z => by have z' : Data.fields _ = Data.cell v := z; cases z'⟩
    · exact ⟨_, q2, fun v z => by have z' : Data.seq _ _ = Data.cell v := z; cases z'⟩
    · exact ⟨_, q3, fun v z => by have z' : Data.seq _ _ = Data.cell v := z; cases z'⟩
    · exact ⟨o4, e4, d4⟩
    · exact ⟨o5, e5, d5⟩
  keep := fun i h h' ⟨q1, q2, ⟨u, v, q3⟩, r4, r5⟩ k => ⟨k _ (by simp) _ q1, k _ (by simp) _ q2, ⟨u, v, k _ (by simp) _ q3⟩, r4.at fun o q => k _ (by simp) o q, r5.at fun o q => k _ (by simp) o q⟩
  item := by
    intro X hP hw hK hc i pins s σ H E I hf st hg
    subst hP hw hK
    have st0 := st
    obtain ⟨q1, q2, q3, r4, r5⟩ := st
    obtain ⟨xs, ys, x, y, hq, hq', hx, hy⟩ := hg
    obtain ⟨its, rv, p, _⟩ := I.seqQ hq
    obtain ⟨its', rv', p', _⟩ := I.seqQ hq'
    obtain ⟨u, hu, ru⟩ := rv.get hx
    obtain ⟨v, hv, rw'⟩ := rv'.get hy
    refine L3.zipQ_pyNext D ⟨q1, q2, q3, .of r4 p, .of r5 p'⟩ (x := u) (y := v) (by simpa using hu) (by simpa using hv) fun h' Z tp1 sz k1 => ⟨_, rfl, ?_⟩
    refine wpAny_letOwnedTupleGo_zip Z.z fun h2 z2 k2 => ?_
    have lt : ∀ c ∈ [z, TI, TO, i1, i2], c < s.heap.objs.size := fun c hc => by
      obtain ⟨w1, w2, ⟨_, _, w3⟩, j4, j5⟩ := st0
      obtain ⟨_, w4, _⟩ := j4.obj
      obtain ⟨_, w5, _⟩ := j5.obj
      simp only [List.mem_cons, List.not_mem_nil, or_false] at hc
      rcases hc with rfl | rfl | rfl | rfl | rfl
      · exact Heap.lt_size w1
      · exact Heap.lt_size w2
      · exact Heap.lt_size w3
      · exact Heap.lt_size w4
      · exact Heap.lt_size w5
    have hT : s.heap.objs.size ≠ z := Nat.ne_of_gt (lt z (by simp))
    have kk : ∀ c w', c ∉ [z, TI, TO, i1, i2] → s.heap.get? c = some w' → h2.get? c = some w' := fun c w' hc q => by
      have n1 : c ≠ z := fun e => hc (by simp [e])
      exact (k2.2 c n1).trans (k1 c w' n1 (fun e => hc (by simp [e])) (fun e => hc (by simp [e])) (fun e => hc (by simp [e])) q)
    have new : ObjOk X.prog X.w (upd H s.heap.objs.size (.tup [x, y])) h2 s.heap.objs.size (.tup [x, y]) :=
      ⟨by show 2 ≤ sizeLine; decide, [u, v], .cons ru (.cons rw' .nil), ⟨_, (k2.2 _ hT).trans tp1, rfl, _, rfl⟩, _, (k2.2 _ hT).trans tp1, rfl⟩
    have IL : Inv X pins σ (upd H s.heap.objs.size (.tup [x, y])) { s with heap := h2, toks := s.toks } := I.turnLay (t' := s.toks) (ch := [z, TI, TO, i1, i2]) hf kk (Nat.le_refl _) new
    refine ⟨.ref s.heap.objs.size, _, IL, rfl,
      ⟨_, x, y, I.hok.fresh (Nat.le_refl _), rfl, rfl, fun ys hy' => by rw [I.seqQ_inj hy' hq]; exact hx, fun ys hy' => by rw [I.seqQ_inj hy' hq']; exact hy⟩,
      ⟨z2, (k2.2 _ D.TIz).trans Z.TI, ?_, Z.one.iter.at fun o q => (k2.2 _ D.i1z).trans q, Z.two.iter.at fun o q => (k2.2 _ D.i2z).trans q⟩, fun c hc => ?_⟩
    · obtain ⟨a', b', q⟩ := Z.TO
      exact ⟨a', b', (k2.2 _ D.TOz).trans q⟩
    · rw [upd_ne (Nat.ne_of_lt (lt c hc))]; exact (hf c hc).1
  done := by
    intro X hP hw hK hc i pins s σ H E I hf st hg
    subst hP hw hK
    obtain ⟨q1, q2, q3, r4, r5⟩ := st
    obtain ⟨xs, ys, hq, hq', hx⟩ := hg
    obtain ⟨its, rv, p, _⟩ := I.seqQ hq
    obtain ⟨its', rv', p', _⟩ := I.seqQ hq'
    have hl := rv.length
    have hl' := rv'.length
    refine L3.zipQ_pyEnd (I.ok.hd hc) D ⟨q1, q2, q3, .of r4 p, .of r5 p'⟩ ?_ fun h' k => ⟨rfl, I.turnMany (t' := s.toks) (ch := [z, TI, TO, i1, i2]) hf fun c v hc q =>
      k c v (fun e => hc (by simp [e])) (fun e => hc (by simp [e])) (fun e => hc (by simp [e])) (fun e => hc (by simp [e])) q⟩
    rcases hx with hx | hx
    · exact .inl (by simp; omega)
    · exact .inr (by simp; omega)
  self := fun _ _ _ _ _ ⟨q, _⟩ h => wpAny_pyIter_zip q h
section
variable {X : Cx}
noncomputable def iZipQ (c1 c2 : Bool) (K : PySem.W.Frag) (ta : TA) : TI := fun σ H R => ta σ H fun vs H1 => ∃ a b, vs = [.ref a, .ref b] ∧ (∃ xs, SqQ c1 K H1 a xs) ∧ (∃ ys, SqQ c2 K H1 b ys) ∧ R (ItzQ c1 c2 K a b) H1
theorem pi_zipQ (c1 c2 : Bool) {a b : Expr} {ta : TA} {p pos tp : Pos} {elts : List Expr} {x1} (hg : Gl X "zip") (hm : X.mg "zip" = none) (ha : PA X [a, b] ta)
    (hs : starEach [a, b] X.env = [(false, eval a X.env), (false, eval b X.env)] := by rfl) (hs2 : starEach [b] X.env = [(false, eval b X.env)] := by rfl) : PI X (.Tuple elts x1 tp) (.Call (.Name "zip" p) [a, b] [] pos) (iZipQ c1 c2 X.K ta) := by
  intro pins s σ H R I h
  refine Call_ (ld_blt I hg hm boot_zip (PyProof.Rows.callWith_type1 (thn (ha pos pins s σ H _ I h) fun us s1 ⟨vs, H1, I1, r1, q1⟩ => ?_) (by rw [hs, hs2]) (by rw [hs2]; rfl)))
  obtain ⟨t, t2, e, ⟨xs, hq⟩, ⟨ys, hq'⟩, q⟩ := q1
  subst e
  cases r1 with
  | cons r rr =>
    cases rr with
    | cons r' rr =>
      cases rr
      cases r
      cases r'
      obtain ⟨its, rv, pt, hz⟩ := I1.seqQ hq
      obtain ⟨its', rv', pt', hz'⟩ := I1.seqQ hq'
      have T1 : L3.SeqQ c1 t its.toArray s1.heap := pt
      have T2 : L3.SeqQ c2 t2 its'.toArray s1.heap := pt'
      have l1 : t < s1.heap.objs.size := T1.lt
      have l2 : t2 < s1.heap.objs.size := T2.lt
      refine L3.call_zipQ T1 T2 fun h' Z sz k => ?_
      have I2 : Inv X pins σ H1 { s1 with heap := h' } := I1.kept (t' := s1.toks) k
      have D : ZipApart (s1.heap.objs.size + 4) (s1.heap.objs.size + 2) (s1.heap.objs.size + 3) s1.heap.objs.size (s1.heap.objs.size + 1) t t2 := PyProof.Rows.zipApart_new l1 l2
      refine wpAny_pyIter_zip Z.z ⟨_, [s1.heap.objs.size + 4, s1.heap.objs.size + 2, s1.heap.objs.size + 3, s1.heap.objs.size, s1.heap.objs.size + 1], _, _, H1, rfl, I2, turn_zipQ D, ⟨Z.z, Z.TI, Z.TO, Z.one.iter, Z.two.iter⟩, fun c hc => ?_, q⟩
      have hc' : s1.heap.objs.size ≤ c := by
        simp only [List.mem_cons, List.not_mem_nil, or_false] at hc
        rcases hc with rfl | rfl | rfl | rfl | rfl <;> first | exact Nat.le_refl _ | exact Nat.le_add_right _ _
      exact I1.fpOk hc' (I1.hok.fresh hc')
end
theorem for_zipQ {c1 c2 : Bool} {K : PySem.W.Frag} {a b : Addr} {xs ys : List V} {g : TG} {tb : TS} {D : Ends} {σ : St} {H : Hp} (Pv : Nat → St → Hp → Prop) (h0 : Pv 0 σ H) (ha : ∀ i σ H, i ≤ min xs.length ys.length → Pv i σ H → SqQ c1 K H a xs ∧ SqQ c2 K H b ys)
    (hs : ∀ i x z σ H p, xs[i]? = some x → ys[i]? = some z → Pv i σ H → H p = none → g (.ref p) σ (upd H p (.tup [x, z])) fun σ2 H3 => tb { D with nx := Pv (i + 1), ct := Pv (i + 1), bk := D.nx } σ2 H3) (hd : ∀ σ H, Pv (min xs.length ys.length) σ H → D.nx σ H) :
    ∃ W : Nat → Nat → St → Hp → Prop, (∃ m, W 0 m σ H) ∧ ∀ i m σ H, W i m σ H →
      ((ItzQ c1 c2 K a b).stop i H ∧ D.nx σ H) ∨ ((ItzQ c1 c2 K a b).go i H ∧ ∃ N : St → Hp → Prop, (∀ σ' H', N σ' H' → ∃ m', m' < m ∧ W (i + 1) m' σ' H') ∧ ∀ x H', (ItzQ c1 c2 K a b).yld i H x H' → g x σ H' fun σ2 H2 => tb { D with nx := N, ct := N, bk := D.nx } σ2 H2) :=
  for_of (n := min xs.length ys.length) Pv h0 (fun i σ H h p => ⟨xs, ys, _, _, (ha i σ H (Nat.le_of_lt h) p).1, (ha i σ H (Nat.le_of_lt h) p).2, List.getElem?_eq_getElem (by omega), List.getElem?_eq_getElem (by omega)⟩) (fun σ H p => ⟨xs, ys, (ha _ σ H (Nat.le_refl _) p).1, (ha _ σ H (Nat.le_refl _) p).2, by omega⟩) (fun i σ H h p x H2 y => by
    obtain ⟨q, z1, z2, fq, rfl, rfl, y1, y2⟩ := y
    exact hs i z1 z2 σ _ q (y1 xs (ha i σ _ (Nat.le_of_lt h) p).1) (y2 ys (ha i σ _ (Nat.le_of_lt h) p).2) p fq) hd
end L2
namespace PySem
open PySem.W PyProof.Rows
section
variable {prog : Program} {w : World} {A : Around} {E : Value → Shared → Prop} {s : Shared} {r : Addr} {a b c : Int} {t u v : Tok} {n : Nat}
theorem collect_range {Q : List Value → Shared → Prop} (hh : A.handled = none) (hr : IsRange s.heap r a b c t u v) (hsmall : Builtin.Range.small a b c = true) (hn : Builtin.Range.rangeSize a b c = n) (hlen : n ≤ 2 ^ 24)
    (hQ : ∀ (h' : Heap) (tk : Nat) (acc : Array Value), (∀ b o, s.heap.get? b = some o → h'.get? b = some o) → ItemsOf (fun i v => ∃ t, v = .int (a + i * c) t) acc n → Q acc.toList { s with heap := h', toks := tk }) : wpAny (model prog w) A (collect (.ref r)) Q E s := by
  unfold collect
  refine wpAny_bind (wpAny_runValue (codeAny_builtin F.entry_proto_collect ?_))
  rw [Around.under_plainId F.plain_proto_collect _]
  show wpAny _ A.in1 (newList [] >>= fun l => again (.builtin "list.__iadd__" ⟨[l, .ref r], []⟩)) _ _ s
  refine wpAny_bind (wpAny_newObj_type ?_)
  refine wpAny_pure ⟨plainId_quiet F.plain_list_iadd _, codeAny_builtin F.entry_list_iadd ?_⟩
  rw [Around.under_plainId F.plain_list_iadd _]
  show wpAny _ A.in1 (Builtin.List.listExtendWith (.ref s.heap.objs.size) (.ref r) (.ref s.heap.objs.size)) _ _ _
  have hS0 : (s.heap.push { cls := .type "list", data := .seq ([] : List Value).toArray }).get? s.heap.objs.size = some { cls := .type "list", data := .seq #[] 0 } := Heap.get?_push_size _ rfl
  refine wpAny_extend_range (R := fun r s' => match r with
    | .ok (.ret v) => wpAny (model prog w) A (match v with
      | .ref a => do
        let o ← load a
        match o.data with
          | .seq xs _ => pure xs.toList
          | _ => unsupported "internal:collect"
      | _ => unsupported "internal:collect") Q E s'
    | .ok _ => False
    | .error e => E e s') (s := { s with heap := s.heap.push { cls := .type "list", data := .seq ([] : List Value).toArray } }) hh (Heap.get?_push_of_some _ hr) hsmall hn hlen _ _ 0 hS0 (fun h' tk acc c hk hS hacc => ?_)
  show wpAny _ A (load s.heap.objs.size >>= _) _ _ _
  refine wpAny_bind (wpAny_load hS ?_)
  exact wpAny_pure (hQ h' tk acc (fun b o e => hk b o (Nat.ne_of_lt (Heap.lt_size e)) (Heap.get?_push_of_some _ e)) hacc)
theorem range_not_tuple : isSubtype (.type "range") (.type "tuple") = pure false := by rw [isSubtype_type]; kernel_rfl
theorem code_tuple_range {Q₁ : Value → Shared → Prop} (hh : A.in1.handled = none) (hr : IsRange s.heap r a b c t u v) (hsmall : Builtin.Range.small a b c = true) (hn : Builtin.Range.rangeSize a b c = n) (hlen : n ≤ 2 ^ 24)
    (h : ∀ (h' : Heap) (tk : Nat) (acc : Array Value), (∀ b o, s.heap.get? b = some o → h'.get? b = some o) → ItemsOf (fun i v => ∃ t, v = .int (a + i * c) t) acc n → Q₁ (.ref h'.objs.size) { s with heap := h'.push { cls := .type "tuple", data := .seq acc }, toks := tk }) :
    codeAny (model prog w) A (.call (.builtin "tuple.__new__") ⟨[.type "tuple", .ref r], []⟩) (wants Q₁ E) s := by
  refine codeAny_of_tree ?_
  show wpAny _ A.in1 (do checkBuiltinCall "tuple.__new__" ⟨[.type "tuple", .ref r], []⟩; again (.builtin "tuple.__new__" ⟨[.type "tuple", .ref r], []⟩)) _ _ s
  refine wpAny_bind (wpAny_of_eq (F.newCall_tuple_1 _) (wpAny_pure ⟨plainId_quiet F.plain_tuple_new _, codeAny_builtin F.entry_tuple_new ?_⟩))
  rw [Around.under_plainId F.plain_tuple_new _]
  have hsub := sub_tuple_self
  have hinit := init_tuple_lookup
  have hmh := madeHere_tuple
  have hTI : s.TypeIs (.ref r) "range" := ⟨_, hr, rfl⟩
  have hnt := range_not_tuple
  wp_walk using wpAny_typeOf hTI, collect_range hh hr hsmall hn hlen
  intro h' tk acc hm hacc
  show wpAny _ _ (Builtin.Tuple.tupleExact acc.toList.toArray >>= fun v => ret v) _ _ _
  unfold Builtin.Tuple.tupleExact
  refine wpAny_bind (wpAny_newObj_type ?_ (by show acc.toList.toArray.size ≤ sizeLine; simp only [Array.toArray_toList]; rw [hacc.1, sizeLine_eq]; omega))
  refine wpAny_pure ?_
  have e : acc.toList.toArray = acc := by simp
  rw [e]
  exact h h' tk acc hm hacc
theorem call_tuple_range {Q : Value → Shared → Prop} (hh : A.in1.in1.handled = none) (hr : IsRange s.heap r a b c t u v) (hsmall : Builtin.Range.small a b c = true) (hn : Builtin.Range.rangeSize a b c = n) (hlen : n ≤ 2 ^ 24)
    (hQ : ∀ (h' : Heap) (tk : Nat) (acc : Array Value), (∀ b o, s.heap.get? b = some o → h'.get? b = some o) → ItemsOf (fun i v => ∃ t, v = .int (a + i * c) t) acc n → Q (.ref h'.objs.size) { s with heap := h'.push { cls := .type "tuple", data := .seq acc }, toks := tk }) :
    wpAny (model prog w) A (call (.type "tuple") [.ref r]) Q E s := by
  refine callType_codes (Q₁ := fun obj s₁ => s₁.TypeIs obj "tuple" ∧ Q obj s₁) F.called_tuple (F.typeCall_tuple_1 _) F.entry_object_init
    (code_tuple_range hh hr hsmall hn hlen fun h' tk acc hm hacc => ⟨⟨_, Heap.get?_push_size _ rfl, rfl⟩, hQ h' tk acc hm hacc⟩) fun obj s₁ h₁ => ?_
  exact ⟨h₁.1, F.args_object_init_2 obj _, object_init_meets F.called_tuple.init.lookup F.called_tuple.made (by decide) prog w A.in1 _ s₁ ⟨h₁.1, rfl, h₁.2⟩⟩
end
end PySem
namespace PyProof.Rows
open PySem
section
variable {prog : Program} {w : World} {A : Around} {E : Value → Shared → Prop} {s : Shared}
theorem collect_tup {l : Addr} {vs : List Value} {Q : List Value → Shared → Prop} (hl : s.heap.IsTuple l vs.toArray)
    (h : Q vs { s with heap := (s.heap.push (seqObj "list" #[] 0)).update s.heap.objs.size (Obj.mapSeq (· ++ vs.toArray)) }) (hsz : vs.length ≤ sizeLine) :
    wpAny (model prog w) A (collect (.ref l)) Q E s := by
  obtain ⟨o, ho, hc, n, hd⟩ := id hl
  unfold collect
  refine wpAny_bind (wpAny_runValue (codeAny_builtin entry_proto_collect' ?_))
  show wpAny _ _ (do again (.builtin "list.__iadd__" ⟨[← newList [], .ref l], []⟩)) _ _ s
  refine wpAny_bind (wpAny_newList (wpAny_pure ⟨Code.quiet_builtin _ (by decide +kernel), codeAny_builtin entry_list_iadd' ?_⟩))
  show wpAny _ _ (Builtin.List.listExtendWith (.ref s.heap.objs.size) (.ref l) (.ref s.heap.objs.size)) _ _ { s with heap := s.heap.push (seqObj "list" #[] 0) }
  unfold Builtin.List.listExtendWith
  have ho' : (s.heap.push (seqObj "list" #[] 0)).get? l = some o := Heap.get?_push_of_some _ ho
  refine wpAny_bind (wpAny_typeOf (T := "tuple") ⟨o, ho', hc⟩ ?_)
  have ht : (Value.type "tuple" == Value.type "tuple") = true := by rfl
  rw [if_pos (by rw [ht]; simp)]
  refine wpAny_bind (listItems_at ho' hd ?_)
  refine wpAny_bind (listItems_at (xs := #[]) (n := 0) (Heap.get?_push_size _ rfl) rfl ?_)
  rw [if_neg (by simp)]
  refine wpAny_bind (listUpdate_at (xs := #[]) (n := 0) (Heap.get?_push_size _ rfl) rfl ?_ (Nat.zero_le _) (by show (#[] ++ vs.toArray).size ≤ sizeLine + 1; simp only [Array.size_append, List.size_toArray, List.length_nil]; omega))
  refine wpAny_pure ?_
  show wpAny (model prog w) A (do
      let o ← load s.heap.objs.size
      match o.data with
      | .seq xs _ => pure xs.toList
      | _ => unsupported "internal:collect") Q E { s with heap := (s.heap.push (seqObj "list" #[] 0)).update s.heap.objs.size (Obj.mapSeq (· ++ vs.toArray)) }
  refine wpAny_bind (wpAny_load (get?_update_seq (Heap.get?_push_size _ rfl) _) ?_)
  show wpAny _ _ (pure ((#[] : Array Value) ++ vs.toArray).toList) Q E _
  rw [show ((#[] : Array Value) ++ vs.toArray).toList = vs by simp]
  exact wpAny_pure h
theorem sorted_intsT {l : Addr} {vs : List Value} {ns : List Int} {Q : Value → Shared → Prop} (hl : s.heap.IsTuple l vs.toArray) (hI : IntsAre vs ns) (h64 : vs.length < 64)
    (h : ∀ (out : Array Value) (ns' : List Int), IntsAre out.toList ns' → ns'.Perm ns → ns'.Pairwise (· ≤ ·) → Q (.ref (s.heap.objs.size + 1)) { s with heap := sortedAll s.heap vs out }) :
    wpAny (model prog w) A (call (.builtin "sorted") [.ref l]) Q E s := by
  refine Calls.call_function_entry kind_sorted plain_sorted entry_sorted (args_sorted1 _) ?_
  unfold Builtin.«sorted»
  refine wpAny_bind (m := checkCount "sorted" 1 1 _) (wpAny_pure ?_)
  refine wpAny_bind (collect_tup hl ?_ (by rw [sizeLine_eq]; omega))
  refine wpAny_bind (wpAny_newList ?_)
  have hsz : ((s.heap.push (seqObj "list" #[] 0)).update s.heap.objs.size (Obj.mapSeq (· ++ vs.toArray))).objs.size = s.heap.objs.size + 1 := by
    rw [Heap.size_update, size_push']
  have hoL : (((s.heap.push (seqObj "list" #[] 0)).update s.heap.objs.size (Obj.mapSeq (· ++ vs.toArray))).push (seqObj "list" vs.toArray 0)).get? (s.heap.objs.size + 1) = some (seqObj "list" vs.toArray 0) := by
    rw [← hsz]; exact Heap.get?_push_size _ rfl
  show wpAny _ _ _ _ _ { s with heap := ((s.heap.push (seqObj "list" #[] 0)).update s.heap.objs.size (Obj.mapSeq (· ++ vs.toArray))).push (seqObj "list" vs.toArray 0) }
  rw [hsz]
  refine wpAny_bind (wpAny_holding (wpAny_call_entry slot_list_sort ⟨_, hoL, rfl⟩ entry_list_sort (list_sort_tree hoL hI h64 fun out ns' a1 a2 a3 => ⟨_, rfl, ?_⟩) (args_list_sort _)))
  exact wpAny_pure ⟨_, rfl, h out ns' a1 a2 a3⟩
end
end PyProof.Rows
namespace L2
open PySem PySem.Spec PyProof.Rows
section
variable {X : Cx}
theorem call_sortedT : CallR X (.builtin "sorted") (fun xs H Q => ∃ (p : Addr) (ns : List Int), xs = [.ref p] ∧ H p = some (.tup (ns.map V.int)) ∧ ns.length < 64 ∧ ∀ (l : Addr) (ns' : List Int), H l = none → ns'.Perm ns → ns'.Pairwise (· ≤ ·) → Q (.ref l) (upd H l (.lst (ns'.map V.int)))) := by
  intro pins s σ H xs us Q I r h
  obtain ⟨p, ns, rfl, hp, h64, q⟩ := h
  obtain ⟨u, rfl, rx⟩ := vals1 r
  cases rx
  obtain ⟨its, r', ho, hz⟩ := I.tuple (SqT.of hp)
  have hI := intsAre_of r'
  have hlen := r'.length
  rw [List.length_map] at hlen
  refine sorted_intsT (l := p) (vs := its) (ns := ns) ho hI (by omega) fun out ns' i1 p1 s1 => ?_
  obtain ⟨e, he⟩ := sortedAll_at s.heap its out
  have hl' := p1.length_eq
  refine ⟨.ref (s.heap.objs.size + 1), _, I.laid (t' := s.toks) (fun b o x => sortedAll_old x) (Nat.le_succ _) (show ObjOk X.prog X.w _ _ _ (.lst (ns'.map V.int)) from ⟨?_, out.toList, e, vals_of_ints i1, ?_⟩), rfl, q _ ns' (I.hok.fresh (Nat.le_succ _)) p1 s1⟩
  · rw [List.length_map, hl']
    exact Nat.le_trans (Nat.le_of_lt h64) (by decide)
  · rw [Array.toArray_toList]
    exact he
noncomputable def rRemove : V → List V → Hp → VK → Prop := fun x vs H Q => ∃ (l : Addr) (xs : List V) (y : V) (j : Nat) (z : V), x = .ref l ∧ vs = [y] ∧ H l = some (.lst xs) ∧ flatV y = true ∧ xs.all flatV = true ∧ xs[j]? = some z ∧ eqV z y = true ∧ (∀ i z', i < j → xs[i]? = some z' → eqV z' y = false) ∧ Q .non (upd H l (.lst (xs.eraseIdx j)))
theorem mt_remove : MtM X "list.remove" rRemove := by
  intro pins s σ H x vs v us Q I rx rv h
  obtain ⟨l, xs, y, j, z, rfl, rfl, hH, fy, fs, hj, hz, hno, q⟩ := h
  cases rx
  obtain ⟨u, rfl, ru⟩ := rv.one
  obtain ⟨zz, its, n, r, hl, e⟩ := I.lstM hH
  have hjx : j < xs.length := (List.getElem?_eq_some_iff.mp hj).1
  have hji : j < its.toArray.size := by rw [List.size_toArray, ← hl]; exact hjx
  have hflat : ∀ {i : Nat} {a : V}, xs[i]? = some a → flatV a = true := fun {i a} h => List.all_eq_true.mp fs a (List.mem_of_getElem? h)
  have key : ∀ {i : Nat} (hi : i < its.toArray.size) {a : V}, xs[i]? = some a → eqU y its.toArray[i] = eqV a y := fun {i} hi {a} h => by
    obtain ⟨w, hw, rw'⟩ := r.get h
    have : its.toArray[i] = w := by
      have h1 : its[i]? = some w := hw
      rw [List.getElem?_eq_getElem (by simpa using hi)] at h1
      simpa using Option.some.inj h1
    rw [this]
    exact eqU_of rw' (hflat h)
  refine call_meets F.slot_list_remove ⟨_, e, rfl⟩ F.entry_list_remove (F.args_list_remove_2 _ _)
    (MeetsSeq.list_remove l its.toArray n u (eqU y) (fun w hw => ?_) j hji ?_ ?_ ?_) ⟨e, ?_⟩
  · exact fun prog w0 A E s Q hq => mem_eqAt (A := A) (s := s) ru fy r fs w (by simpa using hw) prog w0 E Q hq
  · rw [key hji hj]
    exact hz
  · intro m hm hmj
    have hmx : m < xs.length := by omega
    rw [key hm (List.getElem?_eq_getElem hmx)]
    exact hno m _ hmj (List.getElem?_eq_getElem hmx)
  · rw [List.size_toArray]; omega
  · refine ⟨.non, _, I.lset (its' := its.eraseIdx j) hH e ?_ (r.eraseIdx j) ?_, rfl, q⟩
    · show its.toArray.eraseIdxIfInBounds j = (its.eraseIdx j).toArray
      rw [List.eraseIdxIfInBounds_toArray]
    · have := len_erase xs j
      omega
noncomputable def downL (lo hi : Int) : List V := (List.range (lo - hi).toNat).map fun (j : Nat) => V.int (lo - (j : Int))
noncomputable def tTupDown (ta : TA) : TE := fun σ H Q => ta σ H fun vs H1 => ∃ lo hi : Int, vs = [.int lo, .int hi, .int (-1)] ∧ (-1000 ≤ lo ∧ lo ≤ 1000000 ∧ -1000 ≤ hi ∧ hi ≤ 1000000) ∧ ∀ p, H1 p = none → Q (.ref p) (upd H1 p (.tup (downL lo hi)))
theorem downL_len (lo hi : Int) : (downL lo hi).length = (lo - hi).toNat := by rw [downL, List.length_map, List.length_range]
theorem down_vals {lo hi : Int} {acc : Array Value} (hacc : ItemsOf (fun i v => ∃ t, v = .int (lo + i * (-1)) t) acc (lo - hi).toNat) : Vals (downL lo hi) acc.toList := by
  refine vals_of (by rw [downL_len, Array.length_toList, hacc.1]) fun i x u hx hu => ?_
  rw [Array.getElem?_toList] at hu
  obtain ⟨t2, rfl⟩ := hacc.2 i u hu
  have hi : i < (lo - hi).toNat := by
    rw [← hacc.1]
    exact (Array.getElem?_eq_some_iff.mp hu).1
  rw [downL, List.getElem?_map, List.getElem?_eq_getElem (by rw [List.length_range]; exact hi), List.getElem_range] at hx
  cases hx
  exact ⟨t2, by congr 1; omega⟩
theorem pe_tupDown {a b c : Expr} {ta : TA} {p pos p2 pos2 : Pos} (hc : X.calm = true) (hg : Gl X "tuple") (hm : X.mg "tuple" = none) (hg2 : Gl X "range") (hm2 : X.mg "range" = none) (ha : PA X [a, b, c] ta) (hs : starEach [a, b, c] X.env = [(false, eval a X.env), (false, eval b X.env), (false, eval c X.env)] := by rfl)
    (hs1 : starEach [b, c] X.env = [(false, eval b X.env), (false, eval c X.env)] := by rfl)
    (hs2 : starEach [.Call (.Name "range" p2) [a, b, c] [] pos2] X.env = [(false, eval (.Call (.Name "range" p2) [a, b, c] [] pos2) X.env)] := by rfl) : PE X (.Call (.Name "tuple" p) [.Call (.Name "range" p2) [a, b, c] [] pos2] [] pos) (tTupDown ta) := by
  intro pins s σ H Q I h
  refine Call_ (ld_blt I hg hm L3.bt_tuple (PyProof.Rows.callWith_type1 ?_ hs2 rfl))
  rw [hs2]
  show wpAny _ _ (spliced ((false, eval (.Call (.Name "range" p2) [a, b, c] [] pos2) X.env) :: backTo pos [])) _ _ s
  refine Calls.spliced_cons ?_
  refine Call_ (ld_blt I hg2 hm2 boot_range (PyProof.Rows.callWith_type1 (thn (ha pos2 pins s σ H _ I h) fun us s1 ⟨vs, H1, I1, r1, q1⟩ => ?_) (by rw [hs, hs1]) (by rw [hs1]; rfl)))
  obtain ⟨lo, hi, e, ⟨b1, b2, b3, b4⟩, q⟩ := q1
  subst e
  cases r1 with
  | cons r rr =>
    cases rr with
    | cons r' rr =>
      cases rr with
      | cons r'' rr =>
        cases rr
        obtain ⟨t, rfl⟩ := r
        obtain ⟨t', rfl⟩ := r'
        obtain ⟨t'', rfl⟩ := r''
        refine call_range_3 (by decide) ?_ (Or.inl (PyProof.noPylong_small (by omega)))
        refine Calls.spliced_nil ?_
        have hsz : Builtin.Range.rangeSize lo hi (-1) = ((lo - hi).toNat : Nat) := by rw [rangeSize_down]; omega
        refine call_tuple_range (n := (lo - hi).toNat) (I.ok.hd hc) (IsRange.new ..) (small_down (by omega) (by omega) (by omega) (by omega)) hsz (by omega) fun h' tk acc kp hacc => ?_
        have I2 : Inv X pins σ H1 { s1 with heap := s1.heap.push { cls := .type "range", data := .fields #[.int lo t, .int hi t', .int (-1) t''] }, toks := s1.toks } := I1.kept fun b o e => Heap.get?_push_of_some _ e
        have I3 : Inv X pins σ H1 { s1 with heap := h', toks := tk } := I2.kept fun b o e => kp b o e
        refine ⟨.ref h'.objs.size, _, I3.laid (t' := tk) (o := .tup (downL lo hi)) (fun b o e => Heap.get?_push_of_some _ e) (Nat.le_refl _) ?_, rfl, q _ (I3.hok.fresh (Nat.le_refl _))⟩
        exact ⟨by rw [downL_len]; exact Nat.le_trans (show (lo - hi).toNat ≤ 1001000 by omega) (by decide), acc.toList, down_vals hacc, ⟨_, Heap.get?_push_size _ rfl, rfl, 0, by simp⟩, _, Heap.get?_push_size _ rfl, rfl⟩
end
end L2
namespace PySem
open Sem (wp)
theorem lk_list_keys : typeLookup (.type "list") "keys" = pure none := by rw [typeLookup_type, builtinLookup_eq_fast]; kernel_rfl
theorem lk_list_getattr : typeLookup (.type "list") "__getattr__" = pure none := by rw [typeLookup_type, builtinLookup_eq_fast]; kernel_rfl
theorem meets_miss_list (a : Addr) (its : Array Value) (n : Nat) (u : Tok) :
    Meets (Builtin.«object.__getattribute__» ⟨[.ref a, .str "keys" u], []⟩) (fun A R s => s.heap.get? a = some { cls := .type "list", data := .seq its n } ∧ raisesAttr (.ref a) "keys" A R s) :=
  Meets.of_wp fun prog w A R s hs => by
    obtain ⟨hp, g, d, tk, os⟩ := s
    obtain ⟨hx, hs⟩ := hs
    have hT : (⟨hp, g, d, tk, os⟩ : Shared).TypeIs (.ref a) "list" := ⟨_, hx, rfl⟩
    have hx' : hp.get? a = some { cls := .type "list", data := .seq its n } := hx
    have f1 := lk_list_keys
    unfold Builtin.«object.__getattribute__»
    repeat (any_goals (first | assumption | with_reducible refine AutoSeq1.wpAny_loadPart' hx' ?_ | wp_step))
    exact wpAny_raiseAttrError hs.1 hs.2 (attrMsg_fits (by decide +kernel) (by decide +kernel))
theorem getAttr?_keys_list {prog : Program} {w : World} {A : Around} {E : Value → Shared → Prop} {s : Shared} {a : Addr} {its : Array Value} {n : Nat} {Q : Option Value → Shared → Prop} (hx : s.heap.get? a = some { cls := .type "list", data := .seq its n }) (hA : A.handled = none)
    (h : ∀ h' tk, (∀ b o, s.heap.get? b = some o → h'.get? b = some o) → Q none { s with heap := h', toks := tk }) : wpAny (model prog w) A (getAttr? (.ref a) "keys") Q E s := by
  obtain ⟨hp, g, d, tk, os⟩ := s
  have hT : (⟨hp, g, d, tk + 1, os⟩ : Shared).TypeIs (.ref a) "list" := ⟨_, hx, rfl⟩
  have f1 := sub_AttributeError
  have f3 := F.slot_list_getattribute.lookup
  have f4 := F.slot_list_getattribute.bind (.ref a)
  have f5 := lk_list_getattr
  unfold getAttr? getAttrBy? getAttrBy
  repeat (any_goals (first | assumption | ((with_reducible show wpAny _ _ (call (Value.builtin "list.__getattribute__") _ _) _ _ _); refine call_meets F.slot_list_getattribute hT F.entry_list_ga (F.args_list_getattribute_2 _ _) (meets_miss_list a its n _) ⟨hx, hA, fun h' tk' e hx' => ?_⟩) | wp_step))
  obtain ⟨t', u', he⟩ := hx'.there
  show wpAny _ _ (getattributeRaised _ _ _ _ _ _ _) _ _ _
  unfold getattributeRaised
  repeat (any_goals (first | assumption | wp_step))
  exact h _ _ hx'.keeps
end PySem
namespace PySem.F
theorem entry_dict_update_loop : entryFor table "dict.update.loop" = some Builtin.«dict.update.loop» := entryFor_of_tree (by kernel_rfl)
theorem plain_dict_update_loop : plainId "dict.update.loop" = true := by decide +kernel
end PySem.F
namespace L2
open PySem PySem.Spec PyProof.Rows
theorem d_dictSet {X : Cx} {pins : List (Addr × Obj)} {σ : St} {H : Hp} {s : Shared} {a : Addr} {v : V} {u r : Value} {A : Around} {E : Value → Shared → Prop} {kvs : List (Key × V)} {k : Key} {Q : Unit → Shared → Prop} (I : Inv X pins σ H s) (e : H a = some (.dK kvs)) (l : kvs.length < sizeLine) (ry : RelV (kV k) u) (rv : RelV v r)
    (h : ∀ h', Heap.SameBut a s.heap h' → Inv X pins σ (upd H a (.dK (putK kvs k v))) { s with heap := h', toks := s.toks + 1 } → Q () { s with heap := h', toks := s.toks + 1 }) : wpAny (model X.prog X.w) A (dictSet a u r) Q E s := by
  obtain ⟨z, hd, vs, rel, dd⟩ := dk_of I.hok e
  have hz : vs.length ≤ sizeLine := by rw [← rel.length]; exact z
  have hl : (putK kvs k v).length ≤ sizeLine := by have := length_putK kvs k v; omega
  refine wpAny_dictSet_pairs (hsz := hz) (kV_is ry) dd fun h' dd' hs => h h' hs ?_
  have he : ∃ q, h'.get? a = some q := let ⟨q, _, _, hq, _⟩ := dd'; ⟨q, hq⟩
  exact d_write I (by rw [e]; exact True.intro) hs he (dk_new hl hd (rel.put k rv) dd')
noncomputable def putsK (kvs : List (Key × V)) (acc : List (Key × V)) : List (Key × V) := kvs.foldl (fun acc kv => putK acc kv.1 kv.2) acc
theorem dloop {X : Cx} {pins : List (Addr × Obj)} {σ : St} {A : Around} {R : Result → Shared → Prop} {s : Shared} {S it l : Addr} {as : List Addr} {kvs : List (Key × V)} (hh : A.handled = none) (hne : it ≠ S) (hlS : l ≠ S) (hai : l ≠ it) (hlen : as.length = kvs.length) (hsz : kvs.length ≤ 1000000) {H1 : Hp} (hl1 : H1 l = some (.lst (as.map V.ref))) (hS1 : ∀ b ∈ as, b ≠ S)
    (hit1 : ∀ (j : Nat) (a : Addr) (kv : Key × V), as[j]? = some a → kvs[j]? = some kv → H1 a = some (.tup [kV kv.1, kv.2]))
    (hR : ∀ (h : Heap) (tk : Nat), Inv X pins σ (upd H1 S (.dK (putsK kvs []))) { s with heap := h, toks := tk } → R (.ok (.ret .none)) { s with heap := h, toks := tk }) :
    ∀ (k i : Nat) (h : Heap) (tk : Nat) (acc : List (Key × V)), kvs.length - i = k → i ≤ kvs.length → acc.length ≤ i → putsK (kvs.drop i) acc = putsK kvs [] → h.IsListIter it l i → Inv X pins σ (upd H1 S (.dK acc)) { s with heap := h, toks := tk } → FpOk X pins (upd H1 S (.dK acc)) it →
      codeAny (model X.prog X.w) A (.builtin "dict.update.loop" ⟨[.ref S, .ref it, rawInt i, .none], []⟩) R { s with heap := h, toks := tk } := by
  intro k
  induction k with
  | zero =>
    intro i h tk acc hk hi hacc hput hit I hf
    have ei : i = kvs.length := by omega
    obtain ⟨its, rv, p, _⟩ := I.list (a := l) (xs := as.map V.ref) (SqL.of (by rw [upd_ne hlS]; exact hl1))
    have hl := rv.length
    rw [List.length_map] at hl
    obtain ⟨f0, f1, f2, f3, f4, f5⟩ := hf
    refine codeAny_builtin PySem.F.entry_dict_update_loop ?_
    rw [Around.under_plainId PySem.F.plain_dict_update_loop _]
    show wpAny _ A.in1 (pyNext (.ref it) >>= _) _ _ _
    refine wpAny_bind (wpAny_pyNext_list_end (s := { s with heap := h, toks := tk }) (A := A.in1) hh hit p.isList (by simp; omega) fun h' eb => ?_)
    have I' : Inv X pins σ (upd H1 S (.dK acc)) { s with heap := h', toks := tk } := Inv.turned (s := { s with heap := h, toks := tk }) (t' := tk) I (fun b o hb e => eb b o hb e) f0 f1 f3 f4 f5
    have e : acc = putsK kvs [] := by rw [← hput, List.drop_eq_nil_of_le (by omega)]; rfl
    subst e
    show wpAny _ A.in1 (Builtin.Dict.addKeywords S [] >>= fun _ => ret Value.none) _ _ _
    exact wpAny_bind (wpAny_pure (wpAny_pure (hR h' tk I')))
  | succ k ih =>
    intro i h tk acc hk hi hacc hput hit I hf
    have hlt : i < kvs.length := by omega
    have hx : as[i]? = some as[i] := List.getElem?_eq_getElem (by omega)
    have hkv : kvs[i]? = some kvs[i] := List.getElem?_eq_getElem hlt
    have haS : as[i] ≠ S := hS1 _ (List.getElem_mem _)
    have hT := hit1 i _ _ hx hkv
    obtain ⟨its, rv, p, _⟩ := I.list (a := l) (xs := as.map V.ref) (SqL.of (by rw [upd_ne hlS]; exact hl1))
    obtain ⟨u, hu, ru⟩ := rv.get (i := i) (x := V.ref as[i]) (by rw [List.getElem?_map, hx]; rfl)
    cases ru
    obtain ⟨f0, f1, f2, f3, f4, f5⟩ := id hf
    refine codeAny_builtin PySem.F.entry_dict_update_loop ?_
    rw [Around.under_plainId PySem.F.plain_dict_update_loop _]
    show wpAny _ A.in1 (pyNext (.ref it) >>= _) _ _ _
    refine wpAny_bind (wpAny_pyNext_list_item (s := { s with heap := h, toks := tk }) hit p.isList (x := .ref as[i]) (by simpa using hu) fun h' st' sb => ?_)
    have I' : Inv X pins σ (upd H1 S (.dK acc)) { s with heap := h', toks := tk } := Inv.turned (s := { s with heap := h, toks := tk }) (t' := tk) I (fun b o hb e => (sb.2 b hb).trans e) f0 f1 f3 f4 f5
    obtain ⟨tits, trv, tp, _⟩ := I'.tuple (a := as[i]) (xs := [kV kvs[i].1, kvs[i].2]) (SqT.of (by rw [upd_ne haS]; exact hT))
    obtain ⟨o, ho, hc, n, hd⟩ := tp
    obtain ⟨u1, u2, rfl, r1, r2⟩ := vals2 trv
    refine wpAny_bind (wpAny_holding (wpAny_bind (wpAny_tryCatch ?_)))
    unfold Builtin.Dict.pairItems
    refine wpAny_bind (wpAny_typeOf (T := "tuple") ⟨o, ho, hc⟩ ?_)
    rw [if_pos (by decide)]
    refine wpAny_bind (wpAny_seqItems ho hd (wpAny_pure ?_))
    show wpAny _ _ (holding [u1, u2] (dictSet S u1 u2)) _ _ _
    refine wpAny_holding (d_dictSet (s := { s with heap := h', toks := tk }) I' upd_same (by exact Nat.lt_of_le_of_lt (show acc.length ≤ 1000000 by omega) (by decide)) r1 r2 fun h2 sb2 I2 => ?_)
    rw [upd_upd] at I2
    refine wpAny_pure ⟨plainId_quiet PySem.F.plain_dict_update_loop _, ?_⟩
    have ec : ((i : Int) + 1) = ((i + 1 : Nat) : Int) := by push_cast; rfl
    rw [ec]
    refine ih (i + 1) h2 (tk + 1) (putK acc kvs[i].1 kvs[i].2) (by omega) (by omega) (by have := length_putK acc kvs[i].1 kvs[i].2; omega) ?_ ?_ I2 ?_
    · rw [← hput, List.drop_eq_getElem_cons hlt]
      rfl
    · obtain ⟨o', e', r'⟩ := st'
      exact ⟨o', (sb2.2 it hne).trans e', r'⟩
    · refine ⟨?_, f1, f2, f3, f4, f5⟩
      rw [upd_ne hne] at f0 ⊢
      exact f0
theorem call_dictL {X : Cx} (hc : X.calm = true) : CallR X (.type "dict") (fun xs H Q => ∃ (l : Addr) (as : List Addr) (kvs : List (Key × V)), xs = [.ref l] ∧ H l = some (.lst (as.map V.ref)) ∧ as.length = kvs.length ∧ kvs.length ≤ 1000000 ∧
    (∀ (j : Nat) (a : Addr) (kv : Key × V), as[j]? = some a → kvs[j]? = some kv → H a = some (.tup [kV kv.1, kv.2])) ∧ ∀ d, H d = none → Q (.ref d) (upd H d (.dK (putsK kvs [])))) := by
  intro pins s σ H xs us Q I r h
  obtain ⟨l, as, kvs, rfl, hl, hlen, hsz, hit, q⟩ := h
  obtain ⟨u, rfl, ru⟩ := vals1 r
  cases ru
  have hA : X.A.handled = none := I.ok.hd hc
  refine callType_codes (Q₁ := fun obj s₁ => obj = .ref s.heap.objs.size ∧ s₁ = { s with heap := s.heap.push { cls := .type "dict", data := .dict #[] } }) F.kt_called_dict (F.kt_typeCall_dict_1 _) F.entry_dict_init (kt_code_dict_new _ ⟨rfl, rfl⟩) ?_
  rintro obj s₁ ⟨rfl, rfl⟩
  have hnew : (s.heap.push { cls := .type "dict", data := .dict #[] }).DictOf (mixKind X.prog X.w) s.heap.objs.size [] := Heap.DictOf.new s.heap
  have nS : H s.heap.objs.size = none := I.hok.fresh (Nat.le_refl _)
  have hlS : l ≠ s.heap.objs.size := ne_of_none hl nS
  have I0 : Inv X pins σ (upd H s.heap.objs.size (.dK [])) { s with heap := s.heap.push { cls := .type "dict", data := .dict #[] }, toks := s.toks } := I.laid (a := s.heap.objs.size) (o := .dK []) (t' := s.toks) (fun _ _ q => Heap.get?_push_of_some _ q) (Nat.le_refl _) (dk_empty s.heap I.big)
  refine ⟨hnew.typeIs, F.args_dict_init_2 _ _, ?_⟩
  unfold Builtin.«dict.__init__»
  refine wpAny_bind ?_
  unfold Builtin.Dict.selfAndRest
  refine wpAny_bind (wpAny_notOrdered_dict hnew.typeIs ?_)
  show wpAny _ _ (pure (s.heap.objs.size, [Value.ref l])) _ _ _
  refine wpAny_pure ?_
  show wpAny _ _ (Builtin.Dict.updateFrom "dict.__init__" s.heap.objs.size (.ref l) [] .none) _ _ _
  unfold Builtin.Dict.updateFrom
  obtain ⟨zz, its, n, rv, hle, e⟩ := I0.lstM (by rw [upd_ne hlS]; exact hl)
  refine wpAny_bind (wpAny_typeOf (T := "list") ⟨_, e, rfl⟩ ?_)
  rw [if_pos (by decide)]
  refine wpAny_bind (getAttr?_keys_list (A := X.A.in1.in1) e hA fun h1 tk1 k1 => ?_)
  dsimp only
  rw [if_pos (by decide)]
  refine wpAny_bind (wpAny_rule ?_)
  have I1 : Inv X pins σ (upd H s.heap.objs.size (.dK [])) { s with heap := h1, toks := tk1 } := I0.kept k1
  refine wpAny_bind (wpAny_pyIter_list (items := its.toArray) ⟨_, k1 _ _ e, rfl, n, rfl⟩ ?_)
  refine wpAny_pure ⟨plainId_quiet PySem.F.plain_dict_update_loop _, ?_⟩
  have I2 : Inv X pins σ (upd H s.heap.objs.size (.dK [])) { s with heap := h1.push { cls := .type "list_iterator", data := .fields #[.ref l, .int 0 0] }, toks := tk1 } := I1.kept fun b o e => Heap.get?_push_of_some _ e
  have hlt : s.heap.objs.size < h1.objs.size := (I1.hok _ _ upd_same).lt
  have nit : (upd H s.heap.objs.size (.dK [])) h1.objs.size = none := I1.hok.fresh (Nat.le_refl _)
  refine dloop (X := X) (A := X.A.in1) (pins := pins) (σ := σ) (s := s) (as := as) (kvs := kvs) (H1 := H) hA (Nat.ne_of_gt hlt) hlS (ne_of_none (show (upd H s.heap.objs.size (.dK [])) l = _ by rw [upd_ne hlS]; exact hl) nit) hlen hsz hl (fun b hb z => ?_) hit (fun h tk J => ?_) kvs.length 0 _ tk1 [] (by omega) (Nat.zero_le _) (Nat.zero_le _) rfl ⟨_, Heap.get?_push_size _ rfl, rfl, rfl⟩ I2 (I1.fpOk (Nat.le_refl _) nit)
  · obtain ⟨j, hj, ej⟩ := List.mem_iff_getElem.mp hb
    have := hit j b kvs[j] (by rw [List.getElem?_eq_getElem hj, ej]) (List.getElem?_eq_getElem (by omega))
    rw [z, nS] at this
    cases this
  · exact ⟨rfl, .ref s.heap.objs.size, _, J, rfl, q _ nS⟩
end L2
namespace L2
open PySem PySem.Spec PyProof.Rows
section
variable {X : Cx} {tg : Expr}
end
end L2
namespace L2
open PySem PySem.Spec PyProof.Rows
section
variable {X : Cx}
end
end L2
set_option maxHeartbeats 4000000
namespace Lw
open PySem L2
structure PB (X : Cx) (es : List Expr) (t : TA) : Prop where
  go : PA X es t
noncomputable def top (i : Nat) : Stmt := PySem.Challenge.pw_bitdraws_k42_whole_one_number_for_all.main.body.getD i (.Pass ⟨0, 0, 0, 0⟩)
noncomputable abbrev s_drawn_whole : Stmt := top 6
noncomputable abbrev p_drawn_whole : List Str := ["bits", "draw", "shape"]
theorem sc_drawn_whole : FnScope ["bits", "draw", "shape", "used_before"] ["bits", "draw", "shape"] (defScope s_drawn_whole) := ⟨rfl, rfl, rfl, by decide +kernel, rfl, by decide +kernel, by decide +kernel⟩
noncomputable abbrev s_common_divisor : Stmt := top 8
noncomputable abbrev p_common_divisor : List Str := ["one", "other"]
theorem sc_common_divisor : FnScope ["one", "other", "great", "small", "rest"] ["one", "other"] (defScope s_common_divisor) := ⟨rfl, rfl, rfl, by decide +kernel, rfl, by decide +kernel, by decide +kernel⟩
noncomputable abbrev s_fraction : Stmt := top 9
noncomputable abbrev p_fraction : List Str := ["upper", "lower"]
theorem sc_fraction : FnScope ["upper", "lower", "divisor"] ["upper", "lower"] (defScope s_fraction) := ⟨rfl, rfl, rfl, by decide +kernel, rfl, by decide +kernel, by decide +kernel⟩
noncomputable abbrev s_rests_of : Stmt := top 11
noncomputable abbrev p_rests_of : List Str := ["upper", "lower"]
theorem sc_rests_of : FnScope ["upper", "lower", "rest", "places", "rests", "begin"] ["upper", "lower"] (defScope s_rests_of) := ⟨rfl, rfl, rfl, by decide +kernel, rfl, by decide +kernel, by decide +kernel⟩
noncomputable abbrev s_number_in_twos : Stmt := top 12
noncomputable abbrev p_number_in_twos : List Str := ["figures"]
theorem sc_number_in_twos : FnScope ["figures", "number", "figure"] ["figures"] (defScope s_number_in_twos) := ⟨rfl, rfl, rfl, by decide +kernel, rfl, by decide +kernel, by decide +kernel⟩
noncomputable abbrev s_sum_by_halves : Stmt := top 13
noncomputable abbrev p_sum_by_halves : List Str := ["ahead", "again"]
theorem sc_sum_by_halves : FnScope ["ahead", "again", "lower", "upper", "round_lower"] ["ahead", "again"] (defScope s_sum_by_halves) := ⟨rfl, rfl, rfl, by decide +kernel, rfl, by decide +kernel, by decide +kernel⟩
noncomputable abbrev s_even : Stmt := top 15
noncomputable abbrev p_even : List Str := ["bits", "many"]
theorem sc_even : FnScope ["bits", "many"] ["bits", "many"] (defScope s_even) := ⟨rfl, rfl, rfl, by decide +kernel, rfl, by decide +kernel, by decide +kernel⟩
noncomputable abbrev s_take_even : Stmt := top 16
noncomputable abbrev p_take_even : List Str := ["bits", "many"]
theorem sc_take_even : FnScope ["bits", "many", "number", "size"] ["bits", "many"] (defScope s_take_even) := ⟨rfl, rfl, rfl, by decide +kernel, rfl, by decide +kernel, by decide +kernel⟩
noncomputable abbrev s_sizes_of : Stmt := top 17
noncomputable abbrev p_sizes_of : List Str := ["many"]
theorem sc_sizes_of : FnScope ["many"] ["many"] (defScope s_sizes_of) := ⟨rfl, rfl, rfl, by decide +kernel, rfl, by decide +kernel, by decide +kernel⟩
noncomputable abbrev s_mean_even : Stmt := top 18
noncomputable abbrev p_mean_even : List Str := ["many"]
theorem sc_mean_even : FnScope ["many", "sizes", "half"] ["many"] (defScope s_mean_even) := ⟨rfl, rfl, rfl, by decide +kernel, rfl, by decide +kernel, by decide +kernel⟩
noncomputable abbrev s_check_place : Stmt := top 20
noncomputable abbrev p_check_place : List Str := ["place", "many"]
theorem sc_check_place : FnScope ["place", "many"] ["place", "many"] (defScope s_check_place) := ⟨rfl, rfl, rfl, by decide +kernel, rfl, by decide +kernel, by decide +kernel⟩
noncomputable abbrev s_count_figures : Stmt := top 21
noncomputable abbrev p_count_figures : List Str := ["radices"]
theorem sc_count_figures : FnScope ["radices", "count", "radix"] ["radices"] (defScope s_count_figures) := ⟨rfl, rfl, rfl, by decide +kernel, rfl, by decide +kernel, by decide +kernel⟩
noncomputable abbrev s_figures_at : Stmt := top 22
noncomputable abbrev p_figures_at : List Str := ["radices", "place"]
theorem sc_figures_at : FnScope ["radices", "place", "figures", "rest", "radix"] ["radices", "place"] (defScope s_figures_at) := ⟨rfl, rfl, rfl, by decide +kernel, rfl, by decide +kernel, by decide +kernel⟩
noncomputable abbrev s_place_of_figures : Stmt := top 23
noncomputable abbrev p_place_of_figures : List Str := ["radices", "figures"]
theorem sc_place_of_figures : FnScope ["radices", "figures", "place", "radix", "figure"] ["radices", "figures"] (defScope s_place_of_figures) := ⟨rfl, rfl, rfl, by decide +kernel, rfl, by decide +kernel, by decide +kernel⟩
noncomputable abbrev s_radices_of_orders : Stmt := top 24
noncomputable abbrev p_radices_of_orders : List Str := ["many"]
theorem sc_radices_of_orders : FnScope ["many"] ["many"] (defScope s_radices_of_orders) := ⟨rfl, rfl, rfl, by decide +kernel, rfl, by decide +kernel, by decide +kernel⟩
noncomputable abbrev s_order_at : Stmt := top 25
noncomputable abbrev p_order_at : List Str := ["many", "place"]
theorem sc_order_at : FnScope ["many", "place", "left", "row", "figure"] ["many", "place"] (defScope s_order_at) := ⟨rfl, rfl, rfl, by decide +kernel, rfl, by decide +kernel, by decide +kernel⟩
noncomputable abbrev s_place_of_order : Stmt := top 26
noncomputable abbrev p_place_of_order : List Str := ["row"]
theorem sc_place_of_order : FnScope ["row", "left", "figures", "number"] ["row"] (defScope s_place_of_order) := ⟨rfl, rfl, rfl, by decide +kernel, rfl, by decide +kernel, by decide +kernel⟩
noncomputable abbrev s_order : Stmt := top 27
noncomputable abbrev p_order : List Str := ["bits", "many"]
theorem sc_order : FnScope ["bits", "many"] ["bits", "many"] (defScope s_order) := ⟨rfl, rfl, rfl, by decide +kernel, rfl, by decide +kernel, by decide +kernel⟩
noncomputable abbrev s__law_draw : Stmt := top 30
noncomputable abbrev p__law_draw : List Str := ["_law_script", "_law_town", "_law_many"]
theorem sc__law_draw : FnScope ["_law_script", "_law_town", "_law_many", "_law_k", "_law_cell", "_law_number", "_law_more"] ["_law_script", "_law_town", "_law_many"] (defScope s__law_draw) := ⟨rfl, rfl, rfl, by decide +kernel, rfl, by decide +kernel, by decide +kernel⟩
noncomputable abbrev s__law_every : Stmt := top 33
noncomputable abbrev p__law_every : List Str := ["_law_long"]
theorem sc__law_every : FnScope ["_law_long", "_law_got", "_law_total", "_law_turn", "_law_number", "_law_row"] ["_law_long"] (defScope s__law_every) := ⟨rfl, rfl, rfl, by decide +kernel, rfl, by decide +kernel, by decide +kernel⟩
noncomputable abbrev s__law_frac : Stmt := top 34
noncomputable abbrev p__law_frac : List Str := ["_law_upper", "_law_lower"]
theorem sc__law_frac : FnScope ["_law_upper", "_law_lower", "_law_one_here", "_law_other"] ["_law_upper", "_law_lower"] (defScope s__law_frac) := ⟨rfl, rfl, rfl, by decide +kernel, rfl, by decide +kernel, by decide +kernel⟩
noncomputable abbrev s__law_plus : Stmt := top 35
noncomputable abbrev p__law_plus : List Str := ["_law_one_here", "_law_other"]
theorem sc__law_plus : FnScope ["_law_one_here", "_law_other"] ["_law_one_here", "_law_other"] (defScope s__law_plus) := ⟨rfl, rfl, rfl, by decide +kernel, rfl, by decide +kernel, by decide +kernel⟩
noncomputable abbrev s__law_told : Stmt := top 36
noncomputable abbrev p__law_told : List Str := ["_law_row", "_law_radices"]
theorem sc__law_told : FnScope ["_law_row", "_law_radices", "_law_bits_here", "_law_one_here", "_law_other", "_law_total", "_law_radix", "_law_some"] ["_law_row", "_law_radices"] (defScope s__law_told) := ⟨rfl, rfl, rfl, by decide +kernel, rfl, by decide +kernel, by decide +kernel⟩
noncomputable abbrev s__law_order : Stmt := top 37
noncomputable abbrev p__law_order : List Str := ["_law_row", "_law_many"]
theorem sc__law_order : FnScope ["_law_row", "_law_many", "_law_got"] ["_law_row", "_law_many"] (defScope s__law_order) := ⟨rfl, rfl, rfl, by decide +kernel, rfl, by decide +kernel, by decide +kernel⟩
noncomputable abbrev s_law : Stmt := top 38
noncomputable abbrev p_law : List Str := ["_law_script"]
theorem sc_law : FnScope ["_law_script", "_law_town", "_law_k", "_law_radices", "_law_rows", "_law_total", "_law_mean", "_law_radix", "_law_one_here", "_law_other", "_law_both", "_law_row", "_law_first", "_law_second", "_law_place", "_law_many", "_law_said", "_law_count"] ["_law_script"] (defScope s_law) := ⟨rfl, rfl, rfl, by decide +kernel, rfl, by decide +kernel, by decide +kernel⟩
noncomputable abbrev s_Bits___init__ : Stmt := inClass (top 5) 0
noncomputable abbrev p_Bits___init__ : List Str := ["self", "row"]
theorem sc_Bits___init__ : FnScope ["self", "row"] ["self", "row"] (defScope s_Bits___init__) := ⟨rfl, rfl, rfl, by decide +kernel, rfl, by decide +kernel, by decide +kernel⟩
noncomputable abbrev s_Bits_take : Stmt := inClass (top 5) 1
noncomputable abbrev p_Bits_take : List Str := ["self"]
theorem sc_Bits_take : FnScope ["self", "bit"] ["self"] (defScope s_Bits_take) := ⟨rfl, rfl, rfl, by decide +kernel, rfl, by decide +kernel, by decide +kernel⟩
noncomputable abbrev s_Bits_used : Stmt := inClass (top 5) 2
noncomputable abbrev p_Bits_used : List Str := ["self"]
theorem sc_Bits_used : FnScope ["self"] ["self"] (defScope s_Bits_used) := ⟨rfl, rfl, rfl, by decide +kernel, rfl, by decide +kernel, by decide +kernel⟩
noncomputable abbrev s_Bits_left : Stmt := inClass (top 5) 3
noncomputable abbrev p_Bits_left : List Str := ["self"]
theorem sc_Bits_left : FnScope ["self"] ["self"] (defScope s_Bits_left) := ⟨rfl, rfl, rfl, by decide +kernel, rfl, by decide +kernel, by decide +kernel⟩
noncomputable abbrev s_Bits_go_back : Stmt := inClass (top 5) 4
noncomputable abbrev p_Bits_go_back : List Str := ["self", "many"]
theorem sc_Bits_go_back : FnScope ["self", "many"] ["self", "many"] (defScope s_Bits_go_back) := ⟨rfl, rfl, rfl, by decide +kernel, rfl, by decide +kernel, by decide +kernel⟩
theorem nd_1 : (["_law_script", "_law_town", "_law_k", "_law_radices", "_law_rows", "_law_total", "_law_mean", "_law_radix", "_law_one_here", "_law_other", "_law_both", "_law_row", "_law_first", "_law_second", "_law_place", "_law_many", "_law_said", "_law_count", "_law_j"] : List Str).Nodup := by decide +kernel
theorem nd_2 : (["_law_script", "_law_town", "_law_k", "_law_radices", "_law_rows", "_law_total", "_law_mean", "_law_radix", "_law_one_here", "_law_other", "_law_both", "_law_row", "_law_first", "_law_second", "_law_place", "_law_many", "_law_said", "_law_count"] : List Str).Nodup := by decide +kernel
theorem nd_3 : (["_law_script", "_law_town", "_law_k", "_law_radices", "_law_rows", "_law_total", "_law_mean", "_law_radix", "_law_one_here", "_law_other", "_law_both", "_law_row", "_law_first", "_law_second", "_law_place", "_law_many", "_law_said", "_law_count"] : List Str).Nodup := by decide +kernel
theorem nd_4 : (["_law_script", "_law_town", "_law_k", "_law_radices", "_law_rows", "_law_total", "_law_mean", "_law_radix", "_law_one_here", "_law_other", "_law_both", "_law_row", "_law_first", "_law_second", "_law_place", "_law_many", "_law_said", "_law_count"] : List Str).Nodup := by decide +kernel
structure Bl (mg : Str → Option Value) : Prop where
  abs_ : mg "abs" = none
  dict_ : mg "dict" = none
  len_ : mg "len" = none
  list_ : mg "list" = none
  max_ : mg "max" = none
  range_ : mg "range" = none
  reversed_ : mg "reversed" = none
  sorted_ : mg "sorted" = none
  sum_ : mg "sum" = none
  tuple_ : mg "tuple" = none
  zip_ : mg "zip" = none
structure Cn (mg : Str → Option Value) : Prop where
  tt : True
theorem cell_at {ns : List Int} (h : ns ≠ []) (k : Nat) : atI (ns.map V.int) ((k : Int) % ((ns.map V.int).length : Int)) = some (.int (lcell ns k)) := by
  have hp : 0 < ns.length := List.length_pos_iff.mpr h
  have e : ((k : Int) % ((ns.map V.int).length : Int)) = (((k % ns.length : Nat)) : Int) := by rw [List.length_map]; omega
  have hk : k % ns.length < ns.length := Nat.mod_lt _ hp
  rw [e]
  refine atI_nat ?_
  rw [List.getElem?_map, List.getElem?_eq_getElem hk]
  unfold lcell
  rw [if_neg h, List.getD_eq_getElem?_getD, List.getElem?_eq_getElem hk]
  rfl
theorem emod_bd (i : Int) {m : Int} (h : 0 < m) (h2 : m < 18446744073709551616) : -(2 ^ 64) < i % m ∧ i % m < 2 ^ 64 := by
  have a := Int.emod_nonneg i (show m ≠ 0 by omega)
  have b := Int.emod_lt_of_pos i h
  exact ⟨by omega, by omega⟩
section
variable {P : Program} {w : World} {K : PySem.W.Frag} {mg : Str → Option Value} {base : Heap} {f : Addr} {fd : FuncData}
theorem ok__law_draw (F__law_draw : Fun K "_law_draw" "_law_draw" s__law_draw f fd) (B : Bl mg) : FnOk P w K mg base CX0 1 f fd p__law_draw (spDraw K) := by
  refine F__law_draw.ok sc__law_draw (fun vs H Q E h => ?_) (fun cdv A outer s H vs Q E hr h => ?_)
  · obtain ⟨a, t, ns, k, m, rfl, _⟩ := h
    rfl
  obtain ⟨a, t, ns, k, m, rfl, hS, h63, hT, hk, hm, q⟩ := h
  refine ⟨_, (pss_cons (ps_expr (pe_bm PySem.F.plainAttrs_list PySem.F.slot_list_append PySem.F.type_list_append mt_append (pv 1) (pa_cons pe_int pa_nil)))
      (pss_cons (ps_set (i := 3) sc__law_draw.nd rfl (Or.inl rfl) (pe_callB call_len_seq rfl B.len_ L3.bt_len (pa_cons (pv 1) pa_nil)))
      (pss_cons (ps_set (i := 4) sc__law_draw.nd rfl (Or.inl rfl) pe_int)
      (pss_cons (ps_join (ps_if (pt_truth (pv 0) (fun _ => rfl)) (pss_one (ps_set (i := 4) sc__law_draw.nd rfl (Or.inl rfl) (pe_ix ix_list (pv 0) (pe_op op_mod (pv 3) (pe_callB call_len_seq rfl B.len_ L3.bt_len (pa_cons (pv 0) pa_nil))) (fun _ _ => rfl)))) pss_nil))
      (pss_cons (ps_set (i := 5) sc__law_draw.nd rfl (Or.inl rfl) (pe_op op_mod (pe_op op_add (pv 4) (pe_op op_mul pe_int (pv 3))) pe_int))
      (pss_cons (ps_set (i := 5) sc__law_draw.nd rfl (Or.inl rfl) (pe_op op_mod (pe_op op_mul (pe_op op_mod (pe_op op_mul (pv 5) (pv 5)) pe_int) pe_int) pe_int))
      (pss_cons (ps_set (i := 6) sc__law_draw.nd rfl (Or.inl rfl) (pe_op op_mod (pe_op op_mul (pe_op op_mod (pe_op op_mul (pv 5) (pv 5)) pe_int) pe_int) pe_int))
      (pss_one (ps_ret (pe_op op_mod (pe_op op_add (pe_op op_mul (pe_op op_fdiv (pv 5) pe_int) pe_int) (pe_op op_fdiv (pv 6) pe_int)) (pv 2))))))))))), ?_⟩
  have hT' : H t = some (.lst (zeros k)) := hT
  have g1 : Grow t H (upd H t (.lst (zeros k ++ [V.int 0]))) := Grow.upd _
  have t1 : Twn (upd H t (.lst (zeros k ++ [V.int 0]))) t (k + 1) := by
    unfold Twn
    rw [upd_same]
    show some (HO.lst (List.replicate k (V.int 0) ++ [V.int 0])) = some (HO.lst (List.replicate (k + 1) (V.int 0)))
    rw [List.replicate_succ']
  have s1 := g1.scr hT hS
  have hl : (((zeros k ++ [V.int 0]).length : Nat) : Int) = ((k + 1 : Nat) : Int) := by simp
  refine ⟨_, rfl, .inl ⟨rfl, _, SqL.of hT'⟩, t, _, _, rfl, rfl, hT', (by rw [List.length_replicate]; exact smallL (by omega)), ?_⟩
  refine ⟨_, rfl, t, _, rfl, .inl (SqL.of upd_same), ?_⟩
  rw [hl]
  refine ⟨fun σ' H' => σ' = [some (.ref a), some (.ref t), some (.int m), some (.int ((k + 1 : Nat) : Int)), some (.int (lcell ns (k + 1))), none, none] ∧ H' = upd H t (.lst (zeros k ++ [V.int 0])), ?_, ?_⟩
  · rintro σ' H' ⟨rfl, rfl⟩
    refine ⟨_, rfl, _, rfl, _, _, rfl, rfl, .inl ⟨by decide, by decide⟩, _, _, rfl, rfl, _, _, rfl, rfl, (by show (0 : Int) < 4294967291; decide), ?_⟩
    refine ⟨_, rfl, _, rfl, _, _, rfl, rfl, .inl (emod_bd _ (by decide) (by decide)), _, _, rfl, rfl, (by show (0 : Int) < 4294967279; decide), _, _, rfl, rfl, .inr ⟨by decide, by decide⟩, _, _, rfl, rfl, (by show (0 : Int) < 4294967291; decide), ?_⟩
    refine ⟨_, rfl, _, rfl, _, _, rfl, rfl, .inl (emod_bd _ (by decide) (by decide)), _, _, rfl, rfl, (by show (0 : Int) < 4294967279; decide), _, _, rfl, rfl, .inr ⟨by decide, by decide⟩, _, _, rfl, rfl, (by show (0 : Int) < 4294967291; decide), ?_⟩
    refine ⟨_, rfl, _, _, rfl, rfl, ⟨by decide, by decide⟩, _, _, rfl, rfl, .inr ⟨by decide, by decide⟩, _, rfl, _, _, rfl, rfl, ⟨by decide, by decide⟩, _, _, rfl, rfl, _, rfl, _, _, rfl, rfl, hm, ?_⟩
    exact q _ g1 t1
  · by_cases hn : ns = []
    · refine ⟨_, rfl, false, .inl ⟨_, s1.seq, by rw [hn]; rfl⟩, iteF ⟨?_, rfl⟩⟩
      unfold lcell
      rw [if_pos hn]
      rfl
    · refine ⟨_, rfl, true, .inl ⟨_, s1.seq, by cases ns with | nil => exact absurd rfl hn | cons _ _ => rfl⟩, iteT ?_⟩
      refine ⟨_, rfl, _, rfl, _, rfl, a, _, rfl, .inl s1.seq, _, _, rfl, rfl, ?_, a, _, _, _, rfl, rfl, s1.seq, cell_at hn (k + 1), rfl, rfl⟩
      show (0 : Int) < (((ns.map V.int).length : Nat) : Int)
      rw [List.length_map]
      have := List.length_pos_iff.mpr hn
      omega
end
theorem rp : ¬ (("row" : Str) = "place") := by decide +kernel
noncomputable def flds (r : Addr) (z : Int) : List (Str × V) := putF "place" (.int z) (putF "row" (.ref r) [])
theorem flds_eq (r : Addr) (z : Int) : flds r z = ([("row", V.ref r), ("place", V.int z)] : List (Str × V)) := by
  show (if ("row" : Str) = "place" then [(("row" : Str), V.int z)] else (("row" : Str), V.ref r) :: putF "place" (V.int z) []) = ([("row", V.ref r), ("place", V.int z)] : List (Str × V))
  rw [if_neg rp]
  all_goals rfl
theorem flds_row (r : Addr) (z : Int) : (flds r z).lookup ("row" : Str) = some (.ref r) := by
  unfold flds
  rw [lookup_putF, if_neg rp, lookup_putF, if_pos rfl]
theorem flds_place (r : Addr) (z : Int) : (flds r z).lookup ("place" : Str) = some (.int z) := by
  unfold flds
  rw [lookup_putF, if_pos rfl]
theorem flds_no (r : Addr) (z : Int) {m : Str} (h1 : ¬ m = "place") (h2 : ¬ m = "row") : (flds r z).lookup m = none := by
  unfold flds
  rw [lookup_putF, if_neg h1, lookup_putF, if_neg h2]
  all_goals rfl
theorem flds_put (r : Addr) (z y : Int) : putF "place" (.int y) (flds r z) = flds r y := by
  rw [flds_eq, flds_eq]
  show (if ("row" : Str) = "place" then _ else (("row" : Str), V.ref r) :: (if ("place" : Str) = "place" then [(("place" : Str), V.int y)] else _)) = ([("row", V.ref r), ("place", V.int y)] : List (Str × V))
  rw [if_neg rp, if_pos rfl]
theorem flds_lt (r : Addr) (z : Int) : (flds r z).length < 1000 := by
  rw [flds_eq]
  show 2 < 1000
  decide
structure Txt (K : PySem.W.Frag) (mg : Str → Option Value) (C fI fT fU fL fG : Addr) (dI dT dU dL dG : FuncData) : Prop where
  cl : Cls K C
  nR : NoAttr K C "row"
  nP : NoAttr K C "place"
  mgC : mg "Bits" = some (.ref C)
  made : Mk K C fI
  m_take : Meth K C "take" fT
  m_used : Meth K C "used" fU
  m_left : Meth K C "left" fL
  m_go_back : Meth K C "go_back" fG
  b_init : Binds K dI p_Bits___init__ []
  b_take : Binds K dT p_Bits_take []
  b_used : Binds K dU p_Bits_used []
  b_left : Binds K dL p_Bits_left []
  b_go_back : Binds K dG p_Bits_go_back []
noncomputable def spInit (C : Addr) : Sp := fun vs H Q _ => ∃ (p dx r : Addr) (xs : List V), vs = [.ref p, .ref r] ∧ H p = some (.ins C dx []) ∧ H r = some (.tup xs) ∧
  ∀ H', H' p = some (.ins C dx (flds r 0)) → (∀ b o, H b = some o → b ≠ p → H' b = some o) → Q .non H'
noncomputable def spUsed (C : Addr) : Sp := fun vs H Q _ => ∃ (p dx r : Addr) (z : Nat), vs = [.ref p] ∧ H p = some (.ins C dx (flds r z)) ∧ Q (.int z) H
noncomputable def spLeft (C : Addr) : Sp := fun vs H Q _ => ∃ (p dx r : Addr) (xs : List V) (z : Nat), vs = [.ref p] ∧ H p = some (.ins C dx (flds r z)) ∧ H r = some (.tup xs) ∧ Q (.int ((xs.length : Int) - (z : Int))) H
noncomputable def spTake (C CN : Addr) : Sp := fun vs H Q E => ∃ (p dx r : Addr) (xs : List V) (z : Nat), vs = [.ref p] ∧ H p = some (.ins C dx (flds r z)) ∧ H r = some (.tup xs) ∧ z ≤ xs.length ∧
  (∀ v, xs[z]? = some v → Q v (upd H p (.ins C dx (flds r ((z + 1 : Nat) : Int))))) ∧ (z = xs.length → E (.ref CN) none H)
noncomputable def spBackH (C : Addr) : Sp := fun vs H Q _ => ∃ (p dx r : Addr) (z m : Nat), vs = [.ref p, .int m] ∧ H p = some (.ins C dx (flds r z)) ∧ m ≤ z ∧ Q .non (upd H p (.ins C dx (flds r m)))
section
variable {P : Program} {w : World} {K : PySem.W.Frag} {mg : Str → Option Value} {base : Heap} {f C fI fT fU fL fG CN CP : Addr} {fd dI dT dU dL dG : FuncData} {mN mP : List Value}
theorem ok_init (F_Bits___init__ : Fun K "__init__" "Bits.__init__" s_Bits___init__ f fd) (B : Bl mg) (T : Txt K mg C fI fT fU fL fG dI dT dU dL dG) : FnOk P w K mg base CX0 1 f fd p_Bits___init__ (spInit C) := by
  refine F_Bits___init__.ok sc_Bits___init__ (fun vs H Q E h => ?_) (fun cdv A outer s H vs Q E hr h => ?_)
  · obtain ⟨p, dx, r, xs, rfl, _⟩ := h
    rfl
  obtain ⟨p, dx, r, xs, rfl, hp, hR, q⟩ := h
  refine ⟨_, (pss_cons (ps_fld (pv 0) (pe_callTy call_tuple_of rfl B.tuple_ L3.bt_tuple (pa_cons (pv 1) pa_nil)) rfl)
      (pss_one (ps_fld (pv 0) pe_int rfl))), ?_⟩
  refine ⟨_, rfl, r, xs, rfl, .inr ⟨SqT.of hR, _, rfl, p, C, dx, [], rfl, hp, T.cl, T.nR, (by show 0 < 1000; decide), ?_⟩⟩
  refine ⟨_, rfl, p, C, dx, _, rfl, upd_same, T.cl, T.nP, (by show 1 < 1000; decide), ?_⟩
  refine q _ upd_same fun b o e hb => ?_
  rw [upd_ne hb, upd_ne hb]
  exact e
theorem ok_used (F_Bits_used : Fun K "used" "Bits.used" s_Bits_used f fd) (T : Txt K mg C fI fT fU fL fG dI dT dU dL dG) : FnOk P w K mg base CX0 1 f fd p_Bits_used (spUsed C) := by
  refine F_Bits_used.ok sc_Bits_used (fun vs H Q E h => ?_) (fun cdv A outer s H vs Q E hr h => ?_)
  · obtain ⟨p, dx, r, z, rfl, _⟩ := h
    rfl
  obtain ⟨p, dx, r, z, rfl, hp, q⟩ := h
  refine ⟨_, (pss_one (ps_ret (pe_fld (pv 0) rfl))), ?_⟩
  exact ⟨_, rfl, p, C, dx, _, _, rfl, hp, T.cl, T.nP, flds_place _ _, q⟩
theorem ok_left (F_Bits_left : Fun K "left" "Bits.left" s_Bits_left f fd) (B : Bl mg) (T : Txt K mg C fI fT fU fL fG dI dT dU dL dG) : FnOk P w K mg base CX0 1 f fd p_Bits_left (spLeft C) := by
  refine F_Bits_left.ok sc_Bits_left (fun vs H Q E h => ?_) (fun cdv A outer s H vs Q E hr h => ?_)
  · obtain ⟨p, dx, r, xs, z, rfl, _⟩ := h
    rfl
  obtain ⟨p, dx, r, xs, z, rfl, hp, hR, q⟩ := h
  refine ⟨_, (pss_one (ps_ret (pe_op op_sub (pe_callB call_len_seq rfl B.len_ L3.bt_len (pa_cons (pe_fld (pv 0) rfl) pa_nil)) (pe_fld (pv 0) rfl)))), ?_⟩
  exact ⟨_, rfl, p, C, dx, _, _, rfl, hp, T.cl, T.nR, flds_row _ _, r, xs, rfl, .inr (SqT.of hR), _, rfl, p, C, dx, _, _, rfl, hp, T.cl, T.nP, flds_place _ _, _, _, rfl, rfl, q⟩
theorem ok_take (F_Bits_take : Fun K "take" "Bits.take" s_Bits_take f fd) (T : Txt K mg C fI fT fU fL fG dI dT dU dL dG) (X_NoBits : Exc K mg "NoBits" CN mN) (g_left : FnOk P w K mg base CX0 1 fL dL p_Bits_left (spLeft C)) : FnOk P w K mg base (CXR P w) 2 f fd p_Bits_take (spTake C CN) := by
  refine F_Bits_take.okX sc_Bits_take (fun vs H Q E h => ?_) (fun cdv A outer s H vs Q E hr h => ?_)
  · obtain ⟨p, dx, r, xs, z, rfl, _⟩ := h
    rfl
  obtain ⟨p, dx, r, xs, z, rfl, hp, hR, hz, q, e⟩ := h
  refine ⟨_, (pss_cons (ps_if (pt_cmpR op_eq (pe_meth0 (pv 0) T.cl T.m_left g_left (hr.mono (by first | decide | omega)) T.b_left .nil pass0) pe_int (nomark _)) (pss_one (ps_raise X_NoBits (pa_cons pe_str pa_nil))) pss_nil)
      (pss_cons (ps_set (i := 1) sc_Bits_take.nd rfl (Or.inl rfl) (pe_ix ix_tup (pe_fld (pv 0) rfl) (pe_fld (pv 0) rfl) (fun _ _ => rfl)))
      (pss_cons (ps_fld (pv 0) (pe_op op_add (pe_fld (pv 0) rfl) pe_int) rfl)
      (pss_one (ps_ret (pv 1)))))), ?_⟩
  refine ⟨_, rfl, p, dx, _, rfl, hp, flds_no _ _ (by decide +kernel) (by decide +kernel), p, dx, r, xs, z, rfl, hp, hR, rfl, _, rfl, ?_⟩
  refine ite2 (fun c => ?_) (fun c => ?_)
  · have c' : V.int ((xs.length : Int) - (z : Int)) = V.int 0 := of_decide_eq_true c
    injection c' with c'
    exact ⟨(by show 1 ≤ sizeLine; decide), e (by omega)⟩
  · have c' : ¬ V.int ((xs.length : Int) - (z : Int)) = V.int 0 := of_decide_eq_false (Bool.eq_false_iff.mpr c)
    have hlt : z < xs.length := by
      rcases Nat.lt_or_ge z xs.length with y | y
      · exact y
      · exact absurd (by rw [show (xs.length : Int) - (z : Int) = 0 by omega]) c'
    have hv := List.getElem?_eq_getElem hlt
    refine ⟨_, rfl, p, C, dx, _, _, rfl, hp, T.cl, T.nR, flds_row _ _, _, rfl, p, C, dx, _, _, rfl, hp, T.cl, T.nP, flds_place _ _, r, xs, _, _, rfl, rfl, SqT.of hR, atI_nat hv, ?_⟩
    refine ⟨_, rfl, p, C, dx, _, _, rfl, hp, T.cl, T.nP, flds_place _ _, _, _, rfl, rfl, _, rfl, p, C, dx, _, rfl, hp, T.cl, T.nP, flds_lt _ _, ?_⟩
    refine ⟨_, rfl, ?_⟩
    rw [flds_put]
    exact q _ hv
theorem okH_go_back (F_Bits_go_back : Fun K "go_back" "Bits.go_back" s_Bits_go_back f fd) (T : Txt K mg C fI fT fU fL fG dI dT dU dL dG) : FnOkH P w K mg base 1 f fd p_Bits_go_back (spBackH C) := by
  refine F_Bits_go_back.okH sc_Bits_go_back (fun vs H Q E h => ?_) (fun cdv A outer s H vs Q E h => ?_)
  · obtain ⟨p, dx, r, z, m, rfl, _⟩ := h
    rfl
  obtain ⟨p, dx, r, z, m, rfl, hp, hm, q⟩ := h
  refine ⟨_, (pss_cons (ps_if (PW.pt (pw_or (pt_cmpR op_lt (pv 1) pe_int (nomark _)) (pw_or1 (pt_cmpR op_gt (pv 1) (pe_fld (pv 0) rfl) (nomark _))))) (pss_one ps_never) pss_nil)
      (pss_one (ps_fld (pv 0) (pv 1) rfl))), ?_⟩
  refine ⟨_, rfl, _, _, rfl, rfl, _, rfl, ?_⟩
  refine ite2 (fun c => ?_) (fun c => ?_)
  · have c' : (m : Int) < 0 := of_decide_eq_true c
    omega
  · refine ⟨_, rfl, _, rfl, p, C, dx, _, _, rfl, hp, T.cl, T.nP, flds_place _ _, _, _, rfl, rfl, _, rfl, ?_⟩
    refine ite2 (fun c2 => ?_) (fun c2 => ?_)
    · have c3 : (m : Int) > (z : Int) := of_decide_eq_true c2
      omega
    · refine ⟨_, rfl, _, rfl, p, C, dx, _, rfl, hp, T.cl, T.nP, flds_lt _ _, ?_⟩
      rw [flds_put]
      exact q
end
theorem lo62 (n : Nat) : (-(2 ^ 62) : Int) ≤ (n : Int) := Int.le_trans (by decide) (Int.natCast_nonneg n)
theorem hi62 {n : Nat} (h : n ≤ 1000000) : (n : Int) < 2 ^ 62 := Int.lt_of_le_of_lt (Int.ofNat_le.mpr h) (by decide)
theorem nat_of {z : Int} (h : 0 ≤ z) : ∃ n : Nat, z = (n : Int) := ⟨z.toNat, by omega⟩
noncomputable abbrev vbits (bl : List Nat) : List V := bl.map fun (b : Nat) => V.int (b : Int)
structure At (C : Addr) (H : Hp) (b dx r : Addr) (bl : List Nat) (z : Nat) : Prop where
  obj : H b = some (.ins C dx (flds r z))
  row : H r = some (.tup (vbits bl))
  le : z ≤ bl.length
theorem At.same {C : Addr} {H H' : Hp} {b dx r : Addr} {bl : List Nat} {z : Nat} (h : At C H b dx r bl z) (s : Same H H') : At C H' b dx r bl z := ⟨s _ _ h.obj, s _ _ h.row, h.le⟩
theorem At.ne {C : Addr} {H : Hp} {b dx r : Addr} {bl : List Nat} {z : Nat} (h : At C H b dx r bl z) : r ≠ b := fun e => by
  have a := h.row
  rw [e, h.obj] at a
  cases a
theorem At.to {C : Addr} {H : Hp} {b dx r : Addr} {bl : List Nat} {z : Nat} (h : At C H b dx r bl z) {y : Nat} (hy : y ≤ bl.length) : At C (upd H b (.ins C dx (flds r y))) b dx r bl y := ⟨upd_same, by rw [upd_ne h.ne]; exact h.row, hy⟩
theorem vbits_at {bl : List Nat} {z : Nat} {v : V} (h : (vbits bl)[z]? = some v) : ∃ x, bl[z]? = some x ∧ v = .int (x : Int) := by
  rw [List.getElem?_map] at h
  cases e : bl[z]? with
  | none => rw [e] at h; cases h
  | some x => rw [e] at h; exact ⟨x, rfl, (Option.some.inj h).symm⟩
theorem vbits_len (bl : List Nat) : (vbits bl).length = bl.length := List.length_map _
noncomputable def spTakeB (C CN : Addr) : Sp := fun vs H Q E => ∃ (b dx r : Addr) (bl : List Nat) (z : Nat), vs = [.ref b] ∧ At C H b dx r bl z ∧
  (∀ x H', bl[z]? = some x → Grow b H H' → At C H' b dx r bl (z + 1) → Q (.int (x : Int)) H') ∧ (z = bl.length → E (.ref CN) none H)
theorem take_imp {C CN : Addr} : ∀ vs H Q E, spTakeB C CN vs H Q E → spTake C CN vs H Q E := by
  rintro vs H Q E ⟨b, dx, r, bl, z, rfl, hA, q, e⟩
  refine ⟨b, dx, r, vbits bl, z, rfl, hA.obj, hA.row, by rw [vbits_len]; exact hA.le, fun v hv => ?_, fun hz => e (by rw [vbits_len] at hz; exact hz)⟩
  obtain ⟨x, hx, rfl⟩ := vbits_at hv
  have hlt : z < bl.length := by
    rcases Nat.lt_or_ge z bl.length with y | y
    · exact y
    · rw [List.getElem?_eq_none y] at hx; cases hx
  exact q x _ hx (Grow.upd _) (hA.to hlt)
noncomputable def spRaw {α : Type} (C CN : Addr) (Sh : Hp → V → α → Prop) (F : α → List Nat → Option (V × Nat)) : Sp := fun vs H Q E => ∃ (b dx r : Addr) (bl : List Nat) (z : Nat) (x : V) (a : α), vs = [.ref b, x] ∧ At C H b dx r bl z ∧ Sh H x a ∧
  (∀ v u H', F a (bl.drop z) = some (v, u) → Grow b H H' → At C H' b dx r bl (z + u) → Q v H') ∧
  (∀ z' H', F a (bl.drop z) = none → z ≤ z' → Grow b H H' → At C H' b dx r bl z' → E (.ref CN) none H')
noncomputable def spDone {α : Type} (C CN : Addr) (Sh : Hp → V → α → Prop) (F : α → List Nat → Option (V × Nat)) : Sp := fun vs H Q E => ∃ (b dx r : Addr) (bl : List Nat) (z : Nat) (x : V) (a : α), vs = [.ref b, x] ∧ At C H b dx r bl z ∧ Sh H x a ∧
  (∀ v u H', F a (bl.drop z) = some (v, u) → Grow b H H' → At C H' b dx r bl (z + u) → Q v H') ∧
  (∀ H', F a (bl.drop z) = none → Grow b H H' → At C H' b dx r bl z → E (.ref CN) none H')
noncomputable def spDW (P : Program) (w : World) (K : PySem.W.Frag) (mg : Str → Option Value) (base : Heap) (k0 : Nat) (C CN : Addr) : Sp := fun vs H Q E => ∃ (b dx r f : Addr) (bl : List Nat) (z : Nat) (x : V) (fd : FuncData) (ps : List Str) (k : Nat) (sp : Sp),
  vs = [.ref b, .ref f, x] ∧ FnOk P w K mg base (CXR P w) k f fd ps sp ∧ k ≤ k0 ∧ PySem.W.keepIn K (.ref f) = true ∧ Binds K fd ps [] ∧ At C H b dx r bl z ∧
  ∀ Ex : XK, (∀ z' H1, z ≤ z' → At C H1 b dx r bl z' → (∀ H2, Grow b H1 H2 → At C H2 b dx r bl z → E (.ref CN) none H2) → Ex (.ref CN) none H1) → sp [.ref b, x] H Q Ex
theorem dw_of {α : Type} {P : Program} {w : World} {K : PySem.W.Frag} {mg : Str → Option Value} {base : Heap} {k k0 : Nat} {C CN f : Addr} {fd : FuncData} {ps : List Str} {x : Str} {Sh : Hp → V → α → Prop} {F : α → List Nat → Option (V × Nat)} (G : FnX P w K mg base x f fd ps k (spRaw C CN Sh F)) (hk : k ≤ k0)
    {b dx r : Addr} {bl : List Nat} {z : Nat} {y : V} {a : α} {H : Hp} {Q : VK} {E : XK} (hA : At C H b dx r bl z) (hS : Sh H y a) (q : ∀ v u H', F a (bl.drop z) = some (v, u) → Grow b H H' → At C H' b dx r bl (z + u) → Q v H')
    (e : ∀ H', F a (bl.drop z) = none → Grow b H H' → At C H' b dx r bl z → E (.ref CN) none H') : spDW P w K mg base k0 C CN [.ref b, .ref f, y] H Q E :=
  ⟨b, dx, r, f, bl, z, y, fd, ps, k, _, rfl, G.ok, hk, G.kp, G.bd, hA, fun Ex hE => ⟨b, dx, r, bl, z, y, a, rfl, hA, hS, q, fun z' H1 n1 l1 g1 a1 => hE z' H1 l1 a1 fun H2 g2 a2 => e H2 n1 (g1.trans g2) a2⟩⟩
section
variable {P : Program} {w : World} {K : PySem.W.Frag} {mg : Str → Option Value} {base : Heap} {f C fI fT fU fL fG CN : Addr} {fd dI dT dU dL dG : FuncData} {mN : List Value}
theorem ok_drawn_whole {k0 : Nat} (F_drawn_whole : Fun K "drawn_whole" "drawn_whole" s_drawn_whole f fd) (T : Txt K mg C fI fT fU fL fG dI dT dU dL dG) (X_NoBits : Exc K mg "NoBits" CN mN) (hNN : mN.contains (.ref CN) = true) (g_used : FnOk P w K mg base CX0 1 fU dU p_Bits_used (spUsed C)) (gH_go_back : FnOkH P w K mg base 1 fG dG p_Bits_go_back (spBackH C)) :
    FnOk P w K mg base (CXR P w) (k0 + 1 + 1) f fd p_drawn_whole (spDW P w K mg base (k0 + 1) C CN) := by
  refine F_drawn_whole.okX sc_drawn_whole (fun vs H Q E h => ?_) (fun cdv A outer s H vs Q E hr h => ?_)
  · obtain ⟨b, dx, r, f, bl, z, x, fd, ps, k, sp, rfl, _⟩ := h
    rfl
  obtain ⟨b, dx, r, f', bl, z, x, fd', ps', k, sp, rfl, F, hk, kp, hb, hA, q⟩ := h
  refine ⟨_, (pss_cons (ps_set (i := 3) sc_drawn_whole.nd rfl (Or.inl rfl) (pe_meth0 (pv 0) T.cl T.m_used g_used (hr.mono (by first | decide | omega)) T.b_used .nil pass0))
      (pss_one (ps_try (psx_ret (px_callV 1 (pv 1) hr (pa_cons (pv 0) (pa_cons (pv 2) pa_nil)))) (Hs.cons X_NoBits rfl (by decide) (fun y ps ok hd => (pss_cons (ps_expr (pe_methH (pv 0) T.cl T.m_go_back gH_go_back ((hr.mono (by first | decide | omega)).h _) T.b_go_back (pa_cons (pv 3) pa_nil)))
      (pss_one (ps_raiseH ok hd X_NoBits (pa_cons pe_str pa_nil))))) .nil) rfl rfl (fun _ => PassesOwnAt.leaving)))), ?_⟩
  refine ⟨_, rfl, b, dx, _, rfl, hA.obj, flds_no _ _ (by decide +kernel) (by decide +kernel), b, dx, r, z, rfl, hA.obj, ?_⟩
  refine ⟨f', fd', k, ps', sp, rfl, F, hk, kp, hb, _, rfl, _, rfl, q _ fun z' H1 hz hA1 e => ?_⟩
  refine ⟨"NoBits", CN, mN, _, rfl, X_NoBits, if_pos hNN, ?_⟩
  refine ⟨_, rfl, b, dx, _, rfl, hA1.obj, flds_no _ _ (by decide +kernel) (by decide +kernel), _, rfl, b, dx, r, z', z, rfl, hA1.obj, hz, ?_⟩
  exact ⟨(by show 1 ≤ sizeLine; decide), e _ (Grow.upd _) (hA1.to hA.le)⟩
end
noncomputable def evR (m : Nat) : Nat → Nat → Nat → List Nat → Option (Nat × Nat)
  | _, _, _, [] => none
  | n, s, u, b :: bs => if 2 * s < m then evR m (2 * n + b) (2 * s) (u + 1) bs else if 2 * n + b < m then some (2 * n + b, u + 1) else evR m (2 * n + b - m) (2 * s - m) (u + 1) bs
noncomputable def evG (m n s u : Nat) (bs : List Nat) : Option (Nat × Nat) := if s < m then evR m n s u bs else if n < m then some (n, u) else evR m (n - m) (s - m) u bs
noncomputable def evF (m : Nat) (bs : List Nat) : Option (Nat × Nat) := evG m 0 1 0 bs
noncomputable def evV (m : Nat) (bs : List Nat) : Option (V × Nat) := (evF m bs).map fun p => (V.int (p.1 : Int), p.2)
theorem evG_nil {m n s u : Nat} (h : s < m) : evG m n s u [] = none := by
  unfold evG
  rw [if_pos h]
  rfl
theorem evG_step {m n s u b : Nat} {bs : List Nat} (h : s < m) : evG m n s u (b :: bs) = evG m (2 * n + b) (2 * s) (u + 1) bs := by
  unfold evG
  rw [if_pos h]
  rfl
theorem evG_less {m n s u : Nat} {bs : List Nat} (h : ¬ s < m) (h2 : ¬ n < m) (h3 : s < 2 * m) : evG m n s u bs = evG m (n - m) (s - m) u bs := by
  unfold evG
  rw [if_neg h, if_neg h2, if_pos (by omega)]
theorem evG_end {m n s u : Nat} {bs : List Nat} (h : ¬ s < m) (h2 : n < m) : evG m n s u bs = some (n, u) := by
  unfold evG
  rw [if_neg h, if_pos h2]
theorem drop_at {bl : List Nat} {z x : Nat} (h : bl[z]? = some x) : bl.drop z = x :: bl.drop (z + 1) := by
  have hlt : z < bl.length := by
    rcases Nat.lt_or_ge z bl.length with y | y
    · exact y
    · rw [List.getElem?_eq_none y] at h; cases h
  rw [List.drop_eq_getElem_cons hlt]
  rw [List.getElem?_eq_getElem hlt] at h
  rw [Option.some.inj h]
noncomputable def ShN (_ : Hp) (x : V) (m : Nat) : Prop := x = .int (m : Int) ∧ 0 < m
section
variable {P : Program} {w : World} {K : PySem.W.Frag} {mg : Str → Option Value} {base : Heap} {f C fI fT fU fL fG CN : Addr} {fd dI dT dU dL dG : FuncData} {mN : List Value}
theorem ok_take_even (F_take_even : Fun K "take_even" "take_even" s_take_even f fd) (T : Txt K mg C fI fT fU fL fG dI dT dU dL dG) (g_take : FnOk P w K mg base (CXR P w) 2 fT dT p_Bits_take (spTakeB C CN)) :
    FnOk P w K mg base (CXR P w) 3 f fd p_take_even (spRaw C CN ShN evV) := by
  refine F_take_even.okX sc_take_even (fun vs H Q E h => ?_) (fun cdv A outer s H vs Q E hr h => ?_)
  · obtain ⟨b, dx, r, bl, z, x, a, rfl, _⟩ := h
    rfl
  obtain ⟨b, dx, r, bl, z, x, m, rfl, hA, ⟨rfl, hm⟩, q, e⟩ := h
  refine ⟨_, (pss_cons (ps_set (i := 2) sc_take_even.nd rfl (Or.inl rfl) pe_int)
      (pss_cons (ps_set (i := 3) sc_take_even.nd rfl (Or.inl rfl) pe_int)
      (pss_one (ps_while (PassesOwn.leaving (M := model P w)) (pt_truth pe_bl (fun _ => rfl)) (pss_cons (ps_while (PassesOwn.leaving (M := model P w)) (pt_cmpR op_lt (pv 3) (pv 1) (nomark _)) (pss_cons (ps_set (i := 2) sc_take_even.nd rfl (Or.inl rfl) (pe_op op_add (pe_op op_mul pe_int (pv 2)) (pe_meth0 (pv 0) T.cl T.m_take g_take (hr.mono (by first | decide | omega)) T.b_take .nil cx_pass)))
      (pss_one (ps_set (i := 3) sc_take_even.nd rfl (Or.inl rfl) (pe_op op_mul pe_int (pv 3))))))
      (pss_cons (ps_if (pt_cmpR op_lt (pv 2) (pv 1) (nomark _)) (pss_one (ps_ret (pv 2))) pss_nil)
      (pss_cons (ps_set (i := 2) sc_take_even.nd rfl (Or.inl rfl) (pe_op op_sub (pv 2) (pv 1)))
      (pss_one (ps_set (i := 3) sc_take_even.nd rfl (Or.inl rfl) (pe_op op_sub (pv 3) (pv 1))))))))))), ?_⟩
  refine ⟨fun mu σ' H' => ∃ (n sz u : Nat), mu = 2 * (bl.length - (z + u)) + (if sz < m then 0 else 1) ∧ σ' = [some (.ref b), some (.int (m : Int)), some (.int (n : Int)), some (.int (sz : Int))] ∧ Grow b H H' ∧ At C H' b dx r bl (z + u) ∧ sz < 2 * m ∧ evF m (bl.drop z) = evG m n sz u (bl.drop (z + u)), ⟨_, 0, 1, 0, rfl, rfl, Grow.refl _ _, hA, by omega, rfl⟩, ?_⟩
  rintro mu σ1 H1 ⟨n, sz, u, rfl, rfl, g1, a1, hsz, hev⟩
  refine ⟨_, rfl, iteT ?_⟩
  refine ⟨_, fun _ _ z => z, ?_⟩
  refine ⟨fun m2 σ' H' => ∃ (n2 sz2 u2 : Nat), m2 = bl.length - (z + u2) ∧ σ' = [some (.ref b), some (.int (m : Int)), some (.int (n2 : Int)), some (.int (sz2 : Int))] ∧ Grow b H H' ∧ At C H' b dx r bl (z + u2) ∧ sz2 < 2 * m ∧ evF m (bl.drop z) = evG m n2 sz2 u2 (bl.drop (z + u2)) ∧ u ≤ u2 ∧ (u2 = u → sz2 = sz), ⟨_, n, sz, u, rfl, rfl, g1, a1, hsz, hev, Nat.le_refl _, fun _ => rfl⟩, ?_⟩
  rintro m2 σ2 H2 ⟨n2, sz2, u2, rfl, rfl, g2, a2, hsz2, hev2, hu2, hk2⟩
  refine ⟨_, rfl, _, rfl, _, _, rfl, rfl, _, rfl, ite2 (fun c => ?_) (fun c => ?_)⟩
  · have c' : (sz2 : Int) < (m : Int) := of_decide_eq_true c
    have hlt : sz2 < m := by omega
    refine ⟨_, fun _ _ z => z, ?_⟩
    refine ⟨_, rfl, _, _, rfl, rfl, .inl ⟨by decide, by decide⟩, _, rfl, b, dx, _, rfl, a2.obj, flds_no _ _ (by decide +kernel) (by decide +kernel), b, dx, r, bl, z + u2, rfl, a2, fun x H3 hx g3 a3 => ?_, fun hz => ?_⟩
    · have hl3 := a3.le
      refine ⟨_, _, rfl, rfl, ?_⟩
      refine ⟨_, rfl, _, _, rfl, rfl, .inl ⟨by decide, by decide⟩, ?_⟩
      refine ⟨bl.length - (z + (u2 + 1)), by omega, 2 * n2 + x, 2 * sz2, u2 + 1, rfl, ?_, g2.trans g3, a3, by omega, ?_, by omega, fun h => by omega⟩
      · show _ = [some (V.ref b), some (V.int (m : Int)), some (V.int ((2 * n2 + x : Nat) : Int)), some (V.int ((2 * sz2 : Nat) : Int))]
        rw [Int.natCast_add, Int.natCast_mul, Int.natCast_mul]
        rfl
      · rw [hev2, drop_at hx, evG_step hlt]
        rfl
    · refine e (z + u2) H2 ?_ (by omega) g2 a2
      unfold evV
      rw [hev2, List.drop_eq_nil_of_le (by omega), evG_nil hlt]
      rfl
  · have c' : ¬ (sz2 : Int) < (m : Int) := of_decide_eq_false (Bool.eq_false_iff.mpr c)
    have hge : ¬ sz2 < m := by omega
    refine ⟨_, rfl, _, rfl, _, _, rfl, rfl, _, rfl, ite2 (fun c2 => ?_) (fun c2 => ?_)⟩
    · have c3 : (n2 : Int) < (m : Int) := of_decide_eq_true c2
      refine ⟨_, rfl, q _ u2 H2 ?_ g2 a2⟩
      unfold evV
      rw [hev2, evG_end hge (by omega)]
      rfl
    · have c3 : ¬ (n2 : Int) < (m : Int) := of_decide_eq_false (Bool.eq_false_iff.mpr c2)
      refine ⟨_, rfl, _, rfl, _, _, rfl, rfl, ?_⟩
      refine ⟨_, rfl, _, rfl, _, _, rfl, rfl, ?_⟩
      have l2 := a2.le
      refine ⟨2 * (bl.length - (z + u2)) + (if sz2 - m < m then 0 else 1), ?_, n2 - m, sz2 - m, u2, rfl, ?_, g2, a2, by omega, by rw [hev2, evG_less hge (by omega) hsz2]⟩
      · rw [if_pos (show sz2 - m < m by omega)]
        by_cases hu : u2 = u
        · have := hk2 hu
          subst this
          subst hu
          rw [if_neg hge]
          omega
        · omega
      · show _ = [some (V.ref b), some (V.int (m : Int)), some (V.int ((n2 - m : Nat) : Int)), some (V.int ((sz2 - m : Nat) : Int))]
        rw [Int.ofNat_sub (by omega), Int.ofNat_sub (by omega)]
        rfl
theorem ok_even (F_even : Fun K "even" "even" s_even f fd) {fD fR : Addr} {dD dR : FuncData} (g_drawn_whole : FnX P w K mg base "drawn_whole" fD dD p_drawn_whole 5 (spDW P w K mg base 4 C CN)) (g_take_even : FnX P w K mg base "take_even" fR dR p_take_even 3 (spRaw C CN ShN evV)) :
    FnOk P w K mg base (CXR P w) 6 f fd p_even (spDone C CN ShN evV) := by
  refine F_even.okX sc_even (fun vs H Q E h => ?_) (fun cdv A outer s H vs Q E hr h => ?_)
  · obtain ⟨b, dx, r, bl, z, x, a, rfl, _⟩ := h
    rfl
  obtain ⟨b, dx, r, bl, z, x, m, rfl, hA, hS, q, e⟩ := h
  refine ⟨_, (pss_one (ps_ret (pe_fnX g_drawn_whole hr (pa_cons (pv 0) (pa_cons (pe_glob (v := .ref _) rfl g_take_even.mg rfl) (pa_cons (pv 1) pa_nil)))))), ?_⟩
  exact ⟨_, rfl, _, rfl, dw_of g_take_even (by decide) hA hS q e⟩
end
noncomputable def vnats (l : List Nat) : List V := l.map fun (n : Nat) => V.int (n : Int)
theorem vnats_ints (l : List Nat) : vnats l = (l.map fun (n : Nat) => (n : Int)).map V.int := by rw [List.map_map]; rfl
theorem vnats_at {l : List Nat} {j : Nat} (h : j < l.length) : (vnats l)[j]? = some (V.int (l.getD j 0 : Int)) := by
  rw [vnats, List.getElem?_map, List.getElem?_eq_getElem h, List.getD_eq_getElem?_getD, List.getElem?_eq_getElem h]
  rfl
theorem vnats_len (l : List Nat) : (vnats l).length = l.length := List.length_map _
theorem sum_nats : ∀ l : List Nat, (l.map fun (n : Nat) => (n : Int)).sum = ((l.sum : Nat) : Int)
  | [] => rfl
  | a :: l => by rw [List.map_cons, List.sum_cons, List.sum_cons, sum_nats l, Int.natCast_add]
theorem vnats_app (a b : List Nat) : vnats (a ++ b) = vnats a ++ vnats b := List.map_append
noncomputable def bitsOf : Nat → Nat → List Nat
  | 0, _ => []
  | n + 1, i => (i / 2 ^ n % 2) :: bitsOf n i
theorem bitsOf_length : ∀ n i, (bitsOf n i).length = n
  | 0, _ => rfl
  | n + 1, i => by rw [bitsOf, List.length_cons, bitsOf_length n i]
structure Rows (H : Hp) (l : Addr) (ps : List Addr) (n k : Nat) : Prop where
  lst : H l = some (.lst (ps.map V.ref))
  len : ps.length = k
  row : ∀ j a, ps[j]? = some a → H a = some (.tup (vbits (bitsOf n j)))
theorem Rows.same {H H' : Hp} {l : Addr} {ps : List Addr} {n k : Nat} (R : Rows H l ps n k) (s : Same H H') : Rows H' l ps n k := ⟨s _ _ R.lst, R.len, fun j a e => s _ _ (R.row j a e)⟩
noncomputable def spEvery : Sp := fun vs H Q _ => ∃ n : Nat, vs = [.int (n : Int)] ∧ n ≤ 16 ∧ ∀ l ps H', Same H H' → H l = none → Rows H' l ps n (2 ^ n) → Q (.ref l) H'
section
variable {P : Program} {w : World} {K : PySem.W.Frag} {mg : Str → Option Value} {base : Heap} {f : Addr} {fd : FuncData}
theorem ok__law_every (F__law_every : Fun K "_law_every" "_law_every" s__law_every f fd) (B : Bl mg) : FnOk P w K mg base CX0 1 f fd p__law_every spEvery := by
  refine F__law_every.ok sc__law_every (fun vs H Q E h => ?_) (fun cdv A outer s H vs Q E hr h => ?_)
  · obtain ⟨n, rfl, _⟩ := h
    rfl
  obtain ⟨n, rfl, hn, q⟩ := h
  have h2n : 2 ^ n ≤ 65536 := Nat.pow_le_pow_right (n := 2) (by decide) hn
  refine ⟨_, (pss_cons (ps_set (i := 1) sc__law_every.nd rfl (Or.inl rfl) (pe_lst pa_nil))
      (pss_cons (ps_set (i := 2) sc__law_every.nd rfl (Or.inl rfl) pe_int)
      (pss_cons (ps_for PassesOwn.never rfl (pi_range1 rfl B.range_ (pa_cons (pv 0) pa_nil)) (pg_name (i := 3) sc__law_every.nd rfl (Or.inl rfl)) (pss_one (ps_set (i := 2) sc__law_every.nd rfl (Or.inl rfl) (pe_op op_mul (pv 2) pe_int))))
      (pss_cons (ps_for PassesOwn.never rfl (pi_range1 rfl B.range_ (pa_cons (pv 2) pa_nil)) (pg_name (i := 4) sc__law_every.nd rfl (Or.inl rfl)) (pss_cons (ps_set (i := 5) sc__law_every.nd rfl (Or.inl rfl) (pe_tup pa_nil))
      (pss_cons (ps_for PassesOwn.never rfl (pi_range1 rfl B.range_ (pa_cons (pv 0) pa_nil)) (pg_name (i := 3) sc__law_every.nd rfl (Or.inl rfl)) (pss_cons (ps_set (i := 5) sc__law_every.nd rfl (Or.inl rfl) (pe_op op_cat0 (pe_tup (pa_cons (pe_op op_mod (pv 4) pe_int) pa_nil)) (pv 5)))
      (pss_one (ps_set (i := 4) sc__law_every.nd rfl (Or.inl rfl) (pe_op op_fdiv (pv 4) pe_int)))))
      (pss_one (ps_expr (pe_bm PySem.F.plainAttrs_list PySem.F.slot_list_append PySem.F.type_list_append mt_append (pv 1) (pa_cons (pv 5) pa_nil)))))))
      (pss_one (ps_ret (pv 1))))))), ?_⟩
  refine ⟨(by show 0 ≤ sizeLine; decide), fun l fl => ?_⟩
  refine ⟨_, rfl, _, rfl, by omega, by omega, ?_⟩
  rw [Int.toNat_natCast]
  refine for_range (lo := 0) (n := n) (fun i σ' H' => H' = upd H l (.lst []) ∧ ∃ o3 : Option V, σ' = [some (.int (n : Int)), some (.ref l), some (.int ((2 ^ i : Nat) : Int)), o3, none, none]) ⟨rfl, _, rfl⟩ ?_ ?_
  · rintro i σ1 H1 hi ⟨rfl, o3, rfl⟩
    refine ⟨_, rfl, _, _, rfl, rfl, .inr ⟨by decide, by decide⟩, rfl, some (.int (0 + (i : Int))), ?_⟩
    rw [Nat.pow_succ]
    rfl
  rintro σ1 H1 ⟨rfl, o3, rfl⟩
  refine ⟨_, rfl, _, rfl, lo62 _, hi62 (Nat.le_trans h2n (by decide)), ?_⟩
  rw [Int.toNat_natCast]
  refine for_range (lo := 0) (n := 2 ^ n) (fun i σ' H' => Same H H' ∧ ∃ (ps : List Addr) (o3 o4 o5 : Option V), σ' = [some (.int (n : Int)), some (.ref l), some (.int ((2 ^ n : Nat) : Int)), o3, o4, o5] ∧ Rows H' l ps n i)
    ⟨same_new fl _, [], o3, none, none, rfl, upd_same, rfl, fun j a e => by simp at e⟩ ?_ ?_
  · rintro i σ2 H2 hi ⟨s2, ps, p3, p4, p5, rfl, R⟩
    refine ⟨(by show 0 ≤ sizeLine; decide), fun p0 f0 => ?_⟩
    have s3 := same_new f0 (.tup ([] : List V))
    refine ⟨_, rfl, _, rfl, by omega, by omega, ?_⟩
    rw [Int.toNat_natCast]
    have e0 : (0 : Int) + (i : Int) = (i : Int) := Int.zero_add _
    refine for_range (lo := 0) (n := n) (fun j σ' H' => Same H2 H' ∧ ∃ (pr : Addr) (o3 : Option V), σ' = [some (.int (n : Int)), some (.ref l), some (.int ((2 ^ n : Nat) : Int)), o3, some (.int ((i / 2 ^ j : Nat) : Int)), some (.ref pr)] ∧ H' pr = some (.tup (vbits (bitsOf j i))))
      ⟨s3, p0, p3, ?_, upd_same⟩ ?_ ?_
    · rw [Nat.pow_zero, Nat.div_one]
      show _ = [some (V.int (n : Int)), some (V.ref l), some (V.int ((2 ^ n : Nat) : Int)), p3, some (V.int (i : Int)), some (V.ref p0)]
      rw [e0]
      rfl
    · rintro j σ3 H3 hj ⟨s4, pr, o, rfl, hp⟩
      refine ⟨_, rfl, _, _, rfl, rfl, (by show (0 : Int) < 2; decide), (by show 1 ≤ sizeLine; decide), fun pq fq => ?_⟩
      have s5 := same_new fq (.tup [V.int (((i / 2 ^ j : Nat) : Int) % 2)])
      refine ⟨_, rfl, pq, pr, _, _, rfl, rfl, SqT.of upd_same, SqT.of (s5 _ _ hp), small (by rw [vbits_len, bitsOf_length]; show 1 + j ≤ _; omega), (fun z => by cases z), fun _ hy => ?_, fun _ hy pz fz => ?_⟩
      · have hj0 : j = 0 := by
          have := congrArg List.length hy
          rw [vbits_len, bitsOf_length] at this
          exact this
        subst hj0
        refine ⟨_, rfl, _, _, rfl, rfl, ⟨by decide, by decide⟩, s4.trans s5, pq, some (.int (0 + ((0 : Nat) : Int))), ?_, ?_⟩
        · rw [Nat.pow_succ, ← Nat.div_div_eq_div_mul]
          rfl
        · rw [upd_same]
          rfl
      · have s6 := same_new fz (.tup ([V.int (((i / 2 ^ j : Nat) : Int) % 2)] ++ vbits (bitsOf j i)))
        refine ⟨_, rfl, _, _, rfl, rfl, ⟨by decide, by decide⟩, (s4.trans s5).trans s6, pz, some (.int (0 + (j : Int))), ?_, ?_⟩
        · rw [Nat.pow_succ, ← Nat.div_div_eq_div_mul]
          rfl
        · rw [upd_same]
          rfl
    · rintro σ3 H3 ⟨s4, pr, o, rfl, hp⟩
      have R3 := R.same s4
      have hll : (ps.map V.ref).length < sizeLine := by rw [List.length_map, R.len]; exact smallL (by omega)
      refine ⟨_, rfl, .inl ⟨rfl, _, SqL.of R3.lst⟩, _, rfl, l, _, _, rfl, rfl, R3.lst, hll, ?_⟩
      have hne : ∀ c o, H c = some o → c ≠ l := fun c o e => ne_of_none e fl
      have up : ∀ c o, c ≠ l → H3 c = some o → upd H3 l (.lst (ps.map V.ref ++ [V.ref pr])) c = some o := fun c o n e => by rw [upd_ne n]; exact e
      refine ⟨fun c o e => up c o (hne c o e) ((s2.trans s4) c o e), ps ++ [pr], o, _, _, rfl, ?_, ?_, fun j a e => ?_⟩
      · rw [upd_same, List.map_append]
        rfl
      · rw [List.length_append, R.len]
        rfl
      · have tl : ∀ {a xs}, H3 a = some (.tup xs) → a ≠ l := fun {a xs} e y => by
          rw [y, R3.lst] at e
          cases e
        by_cases c : j < ps.length
        · rw [List.getElem?_append_left c] at e
          exact up a _ (tl (R3.row j a e)) (R3.row j a e)
        · have hj : j = i := by
            have := (List.getElem?_eq_some_iff.mp e).1
            rw [List.length_append, R.len] at this
            have : j < i + 1 := this
            rw [R.len] at c
            omega
          subst hj
          rw [List.getElem?_append_right (by rw [R.len]; exact Nat.le_refl _), R.len, Nat.sub_self] at e
          cases e
          exact up _ _ (tl hp) hp
  · rintro σ2 H2 ⟨s2, ps, p3, p4, p5, rfl, R⟩
    exact ⟨_, rfl, q l ps H2 s2 fl R⟩
end
noncomputable def hits (F : List Nat → Option (Nat × Nat)) (j : Nat) (l : List (List Nat)) : Nat := (l.filter fun bs => (F bs).map (·.1) == some j).length
theorem hits_append (F : List Nat → Option (Nat × Nat)) (j : Nat) (l l' : List (List Nat)) : hits F j (l ++ l') = hits F j l + hits F j l' := by simp [hits, List.filter_append]
noncomputable def sumB (f : Nat → Nat) : Nat → Nat
  | 0 => 0
  | n + 1 => sumB f n + f n
theorem sumB_add (f : Nat → Nat) (n : Nat) : ∀ m, sumB f (n + m) = sumB f n + sumB (fun i => f (n + i)) m
  | 0 => rfl
  | m + 1 => by
    show sumB f (n + m) + f (n + m) = _
    rw [sumB_add f n m, sumB]
    omega
theorem sumB_congr {f g : Nat → Nat} : ∀ {n : Nat}, (∀ i, i < n → f i = g i) → sumB f n = sumB g n
  | 0, _ => rfl
  | n + 1, h => by
    rw [sumB, sumB, sumB_congr fun i hi => h i (by omega), h n (by omega)]
noncomputable def incr (l : List Nat) (o : Option (Nat × Nat)) : List Nat := match o with
  | none => l
  | some (v, _) => l.set v (l.getD v 0 + 1)
noncomputable def cnt (F : List Nat → Option (Nat × Nat)) (m long : Nat) : Nat → List Nat
  | 0 => List.replicate m 0
  | i + 1 => incr (cnt F m long i) (F (bitsOf long i))
theorem incr_length (l : List Nat) (o : Option (Nat × Nat)) : (incr l o).length = l.length := by
  cases o with
  | none => rfl
  | some p => exact List.length_set
theorem cnt_length (F : List Nat → Option (Nat × Nat)) (m long : Nat) : ∀ i, (cnt F m long i).length = m
  | 0 => List.length_replicate
  | i + 1 => by rw [cnt, incr_length, cnt_length F m long i]
theorem hits_snoc (F : List Nat → Option (Nat × Nat)) (j : Nat) (l : List (List Nat)) (bs : List Nat) : hits F j (l ++ [bs]) = hits F j l + (if (F bs).map (·.1) == some j then 1 else 0) := by
  rw [hits_append]
  congr 1
  unfold hits
  rw [List.filter_cons]
  split <;> rfl
theorem cnt_at (F : List Nat → Option (Nat × Nat)) {m long j : Nat} (hj : j < m) (hF : ∀ bs v u, F bs = some (v, u) → v < m) : ∀ k, (cnt F m long k).getD j 0 = hits F j ((List.range k).map (bitsOf long))
  | 0 => by
    show (List.replicate m 0).getD j 0 = 0
    rw [List.getD_eq_getElem?_getD, List.getElem?_replicate, if_pos hj]
    rfl
  | k + 1 => by
    rw [List.range_succ, List.map_append, List.map_cons, List.map_nil, hits_snoc, ← cnt_at F hj hF k, cnt]
    cases e : F (bitsOf long k) with
    | none => simp [incr]
    | some p =>
      obtain ⟨v, u⟩ := p
      have hv := hF _ _ _ e
      show ((cnt F m long k).set v _).getD j 0 = _
      rw [List.getD_eq_getElem?_getD, List.getElem?_set]
      by_cases c : v = j
      · subst c
        rw [if_pos rfl, if_pos (by rw [cnt_length]; exact hj)]
        simp
      · rw [if_neg c, ← List.getD_eq_getElem?_getD]
        simp [c]
theorem twn_tup {H : Hp} {t b : Addr} {k : Nat} {xs : List V} (h : Twn H t k) (hb : H b = some (.tup xs)) : b ≠ t := fun e => by
  unfold Twn at h
  rw [e, h] at hb
  cases hb
noncomputable def prodL : List Nat → Nat
  | [] => 1
  | r :: rs => r * prodL rs
noncomputable def figs : List Nat → Nat → List Nat
  | [], _ => []
  | r :: rs, p => (p / prodL rs % r) :: figs rs p
noncomputable def poF : Nat → List Nat → List Nat → Nat
  | acc, r :: rs, f :: fs => poF (acc * r + f) rs fs
  | acc, _, _ => acc
theorem figs_len : ∀ (rs : List Nat) (p : Nat), (figs rs p).length = rs.length
  | [], _ => rfl
  | r :: rs, p => by rw [figs, List.length_cons, figs_len rs p, List.length_cons]
theorem prod_pos : ∀ {rs : List Nat}, (∀ x ∈ rs, 0 < x) → 0 < prodL rs
  | [], _ => Nat.one_pos
  | r :: rs, h => Nat.mul_pos (h r List.mem_cons_self) (prod_pos fun x hx => h x (List.mem_cons_of_mem _ hx))
theorem poF_figs : ∀ (rs : List Nat) (acc p : Nat), poF acc rs (figs rs p) = acc * prodL rs + p % prodL rs
  | [], acc, p => by show acc = acc * 1 + p % 1; rw [Nat.mod_one]; omega
  | r :: rs, acc, p => by
    show poF (acc * r + p / prodL rs % r) rs (figs rs p) = acc * (r * prodL rs) + p % (r * prodL rs)
    rw [poF_figs rs, Nat.mul_comm r (prodL rs), Nat.mod_mul, Nat.add_mul, Nat.mul_comm (prodL rs) r, Nat.mul_assoc, Nat.mul_comm (p / prodL rs % r)]
    omega
theorem figs_mod : ∀ (rs : List Nat) (c v : Nat), (∀ x ∈ rs, 0 < x) → figs rs (c * prodL rs + v) = figs rs v
  | [], _, _, _ => rfl
  | r :: rs, c, v, h => by
    have hp := prod_pos fun x hx => h x (List.mem_cons_of_mem _ hx)
    have e : c * prodL (r :: rs) + v = c * r * prodL rs + v := by rw [prodL, Nat.mul_assoc]
    show ((c * prodL (r :: rs) + v) / prodL rs % r) :: figs rs (c * prodL (r :: rs) + v) = (v / prodL rs % r) :: figs rs v
    rw [e, figs_mod rs (c * r) v fun x hx => h x (List.mem_cons_of_mem _ hx)]
    congr 1
    rw [Nat.add_comm, Nat.add_mul_div_right _ _ hp, Nat.add_mul_mod_self_right]
theorem poF_acc : ∀ (rs fs : List Nat) (acc : Nat), fs.length = rs.length → poF acc rs fs = acc * prodL rs + poF 0 rs fs
  | [], _, acc, _ => by
    unfold poF
    show acc = acc * 1 + 0
    omega
  | r :: rs, [], _, h => by simp at h
  | r :: rs, f :: fs, acc, h => by
    have h' : fs.length = rs.length := by simpa using h
    show poF (acc * r + f) rs fs = acc * (r * prodL rs) + poF (0 * r + f) rs fs
    rw [poF_acc rs fs (acc * r + f) h', poF_acc rs fs (0 * r + f) h', Nat.add_mul, Nat.add_mul, Nat.mul_assoc]
    omega
inductive Below : List Nat → List Nat → Prop
  | nil : Below [] []
  | cons {f r : Nat} {fs rs : List Nat} : f < r → Below fs rs → Below (f :: fs) (r :: rs)
theorem Below.len : ∀ {fs rs : List Nat}, Below fs rs → fs.length = rs.length
  | _, _, .nil => rfl
  | _, _, .cons _ t => by rw [List.length_cons, List.length_cons, t.len]
theorem Below.pos : ∀ {fs rs : List Nat}, Below fs rs → ∀ x ∈ rs, 0 < x
  | _, _, .cons h t, x, hx => by
    rcases List.mem_cons.mp hx with rfl | hx
    · omega
    · exact t.pos x hx
theorem val_lt : ∀ {fs rs : List Nat}, Below fs rs → poF 0 rs fs < prodL rs
  | _, _, .nil => by show 0 < 1; decide
  | f :: fs, r :: rs, .cons h t => by
    show poF (0 * r + f) rs fs < r * prodL rs
    rw [poF_acc rs fs _ t.len]
    have := val_lt t
    have h2 : (f + 1) * prodL rs ≤ r * prodL rs := Nat.mul_le_mul_right _ h
    rw [Nat.add_mul] at h2
    rw [Nat.zero_mul, Nat.zero_add]
    omega
theorem figs_val : ∀ {fs rs : List Nat}, Below fs rs → figs rs (poF 0 rs fs) = fs
  | _, _, .nil => rfl
  | f :: fs, r :: rs, .cons h t => by
    have hp := prod_pos t.pos
    have hv := val_lt t
    show figs (r :: rs) (poF (0 * r + f) rs fs) = f :: fs
    rw [poF_acc rs fs _ t.len, Nat.zero_mul, Nat.zero_add]
    show ((f * prodL rs + poF 0 rs fs) / prodL rs % r) :: figs rs (f * prodL rs + poF 0 rs fs) = f :: fs
    rw [figs_mod rs f _ t.pos, figs_val t, Nat.add_comm, Nat.add_mul_div_right _ _ hp, Nat.div_eq_of_lt hv, Nat.zero_add, Nat.mod_eq_of_lt h]
theorem drop_fig {rs : List Nat} {i : Nat} (h : i < rs.length) : rs.drop (rs.length - (i + 1)) = rs.getD (rs.length - 1 - i) 0 :: rs.drop (rs.length - i) := by
  have h1 : rs.length - (i + 1) < rs.length := by omega
  rw [List.drop_eq_getElem_cons h1, List.getD_eq_getElem?_getD, List.getElem?_eq_getElem (by omega)]
  have e1 : rs.length - (i + 1) + 1 = rs.length - i := by omega
  have e2 : rs.length - (i + 1) = rs.length - 1 - i := by omega
  rw [e1]
  congr 1
  simp only [e2]
  rfl
noncomputable def rows : Nat → List (List Nat)
  | 0 => [[]]
  | n + 1 => (rows n).map (0 :: ·) ++ (rows n).map (1 :: ·)
theorem rows_length : ∀ n, (rows n).length = 2 ^ n
  | 0 => rfl
  | n + 1 => by
    rw [rows, List.length_append, List.length_map, List.length_map, rows_length n, Nat.pow_succ]
    omega
theorem bitsOf_add (c i : Nat) {m : Nat} : ∀ {n : Nat}, n ≤ m → bitsOf n (2 ^ m * c + i) = bitsOf n i
  | 0, _ => rfl
  | n + 1, h => by
    rw [bitsOf, bitsOf, bitsOf_add c i (by omega)]
    congr 1
    obtain ⟨k, rfl⟩ : ∃ k, m = n + 1 + k := ⟨m - (n + 1), by omega⟩
    have e : 2 ^ (n + 1 + k) * c + i = i + 2 ^ n * (2 * (2 ^ k * c)) := by
      rw [Nat.pow_add, Nat.pow_succ, Nat.add_comm]
      congr 1
      simp only [Nat.mul_assoc]
    rw [e, Nat.add_mul_div_left _ _ (Nat.two_pow_pos n), Nat.add_mul_mod_self_left]
theorem rows_bits : ∀ n, rows n = (List.range (2 ^ n)).map (bitsOf n)
  | 0 => rfl
  | n + 1 => by
    have e : 2 ^ (n + 1) = 2 ^ n + 2 ^ n := by rw [Nat.pow_succ]; omega
    rw [rows, rows_bits n, e, List.range_add, List.map_append, List.map_map, List.map_map, List.map_map]
    congr 1
    · refine List.map_congr_left fun i hi => ?_
      have hi := List.mem_range.mp hi
      show 0 :: bitsOf n i = (i / 2 ^ n % 2) :: bitsOf n i
      rw [Nat.div_eq_of_lt hi]
    · refine List.map_congr_left fun i hi => ?_
      have hi := List.mem_range.mp hi
      show 1 :: bitsOf n i = ((2 ^ n + i) / 2 ^ n % 2) :: bitsOf n (2 ^ n + i)
      have e2 := bitsOf_add 1 i (Nat.le_refl n)
      rw [Nat.mul_one] at e2
      rw [e2, Nat.add_div_left _ (Nat.two_pow_pos n), Nat.div_eq_of_lt hi]
theorem cnt_all (F : List Nat → Option (Nat × Nat)) {m long : Nat} (hF : ∀ bs v u, F bs = some (v, u) → v < m) {G : Nat → Nat} (h : ∀ j, j < m → hits F j (rows long) = G j) : cnt F m long (2 ^ long) = (List.range m).map G := by
  refine List.ext_getElem (by rw [cnt_length, List.length_map, List.length_range]) fun j h1 h2 => ?_
  have hj : j < m := by rw [cnt_length] at h1; exact h1
  have := cnt_at F (long := long) hj hF (2 ^ long)
  rw [← rows_bits, h j hj, List.getD_eq_getElem?_getD, List.getElem?_eq_getElem h1] at this
  rw [List.getElem_map, List.getElem_range]
  exact this
theorem sumB_two (f : Nat → Nat) : ∀ n, sumB f (2 * n) = sumB (fun p => f (2 * p) + f (2 * p + 1)) n
  | 0 => rfl
  | n + 1 => by
    rw [show 2 * (n + 1) = 2 * n + 1 + 1 by omega, sumB, sumB, sumB_two f n, sumB]
    omega
theorem sumB_none {f : Nat → Nat} : ∀ {n : Nat}, (∀ i, i < n → f i = 0) → sumB f n = 0
  | 0, _ => rfl
  | n + 1, h => by rw [sumB, sumB_none fun i hi => h i (by omega), h n (by omega)]
theorem sumB_single {f : Nat → Nat} {v : Nat} : ∀ {n : Nat}, v < n → (∀ i, i < n → i ≠ v → f i = 0) → sumB f n = f v
  | n + 1, hv, h => by
    rw [sumB]
    by_cases c : v = n
    · subst c
      rw [sumB_none fun i hi => h i (by omega) (by omega), Nat.zero_add]
    · rw [sumB_single (v := v) (by omega) fun i hi hne => h i (by omega) hne, h n (by omega) (by omega), Nat.add_zero]
noncomputable def hitB (p : List Nat → Bool) (l : List (List Nat)) : Nat := (l.filter p).length
theorem hitB_append (p : List Nat → Bool) (l l' : List (List Nat)) : hitB p (l ++ l') = hitB p l + hitB p l' := by simp [hitB, List.filter_append]
theorem hitB_map (p : List Nat → Bool) (b : Nat) (l : List (List Nat)) : hitB p (l.map (b :: ·)) = hitB (fun bs => p (b :: bs)) l := by
  unfold hitB
  rw [List.filter_map, List.length_map]
  rfl
theorem hitB_congr {p q : List Nat → Bool} (h : ∀ bs, p bs = q bs) (l : List (List Nat)) : hitB p l = hitB q l := by
  have : p = q := funext h
  rw [this]
theorem hitB_false (l : List (List Nat)) : hitB (fun _ => false) l = 0 := by
  unfold hitB
  rw [List.filter_eq_nil_iff.mpr fun a _ => by simp]
  rfl
theorem hitB_true (l : List (List Nat)) : hitB (fun _ => true) l = l.length := by
  unfold hitB
  rw [List.filter_eq_self.mpr fun a _ => rfl]
noncomputable def evK {β : Type} (m : Nat) (k : Nat → List Nat → Option β) : Nat → Nat → List Nat → Option β
  | _, _, [] => none
  | n, s, b :: bs => if 2 * s < m then evK m k (2 * n + b) (2 * s) bs else if 2 * n + b < m then k (2 * n + b) bs else evK m k (2 * n + b - m) (2 * s - m) bs
theorem evR_ge {m : Nat} : ∀ {bs : List Nat} {n s u v w : Nat}, evR m n s u bs = some (v, w) → u < w
  | [], _, _, _, _, _, h => by cases h
  | b :: bs, n, s, u, v, w, h => by
    unfold evR at h
    split at h
    · have := evR_ge h; omega
    · split at h
      · cases h; omega
      · have := evR_ge h; omega
theorem evK_of {β : Type} {m : Nat} {k : Nat → List Nat → Option β} : ∀ (bs : List Nat) (n s u : Nat), evK m k n s bs = (evR m n s u bs).bind fun p => k p.1 (bs.drop (p.2 - u))
  | [], _, _, _ => rfl
  | b :: bs, n, s, u => by
    have sh : ∀ (n s : Nat), ((evR m n s (u + 1) bs).bind fun p => k p.1 (bs.drop (p.2 - (u + 1)))) = (evR m n s (u + 1) bs).bind fun p => k p.1 ((b :: bs).drop (p.2 - u)) := fun n s => by
      cases e : evR m n s (u + 1) bs with
      | none => rfl
      | some p =>
        obtain ⟨v, w⟩ := p
        have := evR_ge e
        show k v _ = k v _
        rw [show w - u = (w - (u + 1)) + 1 by omega, List.drop_succ_cons]
    unfold evK evR
    split
    · rw [evK_of bs _ _ (u + 1), sh]
    · split
      · show k _ _ = k _ _
        rw [show u + 1 - u = 0 + 1 by omega, List.drop_succ_cons, List.drop_zero]
      · rw [evK_of bs _ _ (u + 1), sh]
noncomputable def evS {β : Type} (m : Nat) (k : Nat → List Nat → Option β) (bs : List Nat) : Option β := if 1 < m then evK m k 0 1 bs else k 0 bs
theorem evS_of {β : Type} {m : Nat} (hm : 0 < m) {k : Nat → List Nat → Option β} (bs : List Nat) : evS m k bs = (evF m bs).bind fun p => k p.1 (bs.drop p.2) := by
  unfold evS evF evG
  by_cases c : 1 < m
  · rw [if_pos c, if_pos c, evK_of bs 0 1 0]
    rfl
  · rw [if_neg c, if_neg c, if_pos hm]
    rfl
noncomputable def gS (c : Nat → Nat) (m : Nat) : Nat → Nat → Nat
  | 0, _ => 0
  | n + 1, s => if 2 * s < m then gS c m n (2 * s) else c n + gS c m n (2 * s - m)
noncomputable def cS (c : Nat → Nat) (m n : Nat) : Nat := if 1 < m then gS c m n 1 else c n
theorem evK_hits {β : Type} [BEq β] {m v : Nat} {k : Nat → List Nat → Option β} {y : β} {c : Nat → Nat} (hv : v < m) (h1 : ∀ n, hitB (fun bs => k v bs == some y) (rows n) = c n) (h2 : ∀ q, q ≠ v → ∀ bs, (k q bs == some y) = false) :
    ∀ (n s : Nat), 0 < s → s < m → sumB (fun x => hitB (fun bs => evK m k x s bs == some y) (rows n)) s = gS c m n s
  | 0, s, _, _ => by
    rw [gS]
    refine sumB_none fun x _ => ?_
    show ([([] : List Nat)].filter fun bs => evK m k x s bs == some y).length = 0
    rw [List.filter_cons]
    have : (evK m k x s [] == some y) = false := rfl
    rw [this]
    rfl
  | n + 1, s, h0, hs => by
    have key : sumB (fun x => hitB (fun bs => evK m k x s bs == some y) (rows (n + 1))) s = sumB (fun q => hitB (fun bs => (if 2 * s < m then evK m k q (2 * s) bs else if q < m then k q bs else evK m k (q - m) (2 * s - m) bs) == some y) (rows n)) (2 * s) := by
      rw [sumB_two]
      refine sumB_congr fun x _ => ?_
      rw [rows, hitB_append, hitB_map, hitB_map]
      rfl
    rw [key, gS]
    by_cases c1 : 2 * s < m
    · rw [if_pos c1, ← evK_hits hv h1 h2 n (2 * s) (by omega) c1]
      refine sumB_congr fun q _ => hitB_congr (fun bs => ?_) _
      rw [if_pos c1]
    · rw [if_neg c1]
      have e : 2 * s = m + (2 * s - m) := by omega
      conv => lhs; arg 2; rw [e]
      rw [sumB_add]
      congr 1
      · rw [sumB_single hv fun q hq hne => ?_, ← h1 n]
        · refine hitB_congr (fun bs => ?_) _
          rw [if_neg c1, if_pos hv]
        · rw [hitB_congr (q := fun _ => false) (fun bs => ?_), hitB_false]
          rw [if_neg c1, if_pos hq]
          exact h2 q hne bs
      · by_cases z : 2 * s - m = 0
        · rw [z]
          have : ∀ n, gS c m n 0 = 0 := by
            intro n
            induction n with
            | zero => rfl
            | succ n ih => rw [gS, if_pos (by omega)]; exact ih
          rw [this]
          rfl
        · rw [← evK_hits hv h1 h2 n (2 * s - m) (by omega) (by omega)]
          refine sumB_congr fun q _ => hitB_congr (fun bs => ?_) _
          rw [if_neg c1, if_neg (show ¬ (m + q < m) by omega), Nat.add_sub_cancel_left]
theorem evS_hits {β : Type} [BEq β] {m v : Nat} {k : Nat → List Nat → Option β} {y : β} {c : Nat → Nat} (hv : v < m) (h1 : ∀ n, hitB (fun bs => k v bs == some y) (rows n) = c n) (h2 : ∀ q, q ≠ v → ∀ bs, (k q bs == some y) = false) (n : Nat) :
    hitB (fun bs => evS m k bs == some y) (rows n) = cS c m n := by
  unfold evS cS
  by_cases hm : 1 < m
  · have := evK_hits hv h1 h2 n 1 (by decide) hm
    rw [sumB, sumB, Nat.zero_add] at this
    rw [if_pos hm, ← this]
    exact hitB_congr (fun bs => by rw [if_pos hm]) _
  · have : v = 0 := by omega
    subst this
    rw [if_neg hm, ← h1 n]
    exact hitB_congr (fun bs => by rw [if_neg hm]) _
theorem gS_pow {m : Nat} (hm : 0 < m) : ∀ (n s : Nat), s < m → gS (fun n => 2 ^ n) m n s = 2 ^ n * s / m
  | 0, s, h => by rw [gS, Nat.pow_zero, Nat.one_mul, Nat.div_eq_of_lt h]
  | n + 1, s, h => by
    rw [gS]
    by_cases c : 2 * s < m
    · rw [if_pos c, gS_pow hm n _ c, Nat.pow_succ, Nat.mul_assoc]
    · rw [if_neg c, gS_pow hm n _ (by omega)]
      have e : 2 ^ (n + 1) * s = 2 ^ n * (2 * s - m) + 2 ^ n * m := by
        rw [← Nat.mul_add, Nat.sub_add_cancel (by omega), Nat.pow_succ, Nat.mul_assoc]
      rw [e, Nat.add_mul_div_right _ _ hm, Nat.add_comm]
theorem cS_pow {m : Nat} (hm : 0 < m) (n : Nat) : cS (fun n => 2 ^ n) m n = 2 ^ n / m := by
  unfold cS
  by_cases c : 1 < m
  · rw [if_pos c, gS_pow hm n 1 c, Nat.mul_one]
  · rw [if_neg c, show m = 1 by omega, Nat.div_one]
theorem gS_le {m P : Nat} {c : Nat → Nat} (h : ∀ n, c n * P ≤ 2 ^ n) : ∀ (n s : Nat), s < m → gS c m n s * (m * P) ≤ 2 ^ n * s
  | 0, s, _ => by rw [gS, Nat.zero_mul]; exact Nat.zero_le _
  | n + 1, s, hs => by
    rw [gS]
    by_cases d : 2 * s < m
    · rw [if_pos d]
      have := gS_le (m := m) h n (2 * s) d
      rw [Nat.pow_succ, Nat.mul_assoc]
      exact this
    · rw [if_neg d, Nat.add_mul]
      have h1 := gS_le (m := m) h n (2 * s - m) (by omega)
      have h2 : c n * P * m ≤ 2 ^ n * m := Nat.mul_le_mul_right _ (h n)
      have e : 2 ^ (n + 1) * s = 2 ^ n * m + 2 ^ n * (2 * s - m) := by
        rw [← Nat.mul_add, Nat.add_sub_cancel' (by omega), Nat.pow_succ, Nat.mul_assoc]
      have e2 : c n * (m * P) = c n * P * m := by rw [Nat.mul_comm m P, Nat.mul_assoc]
      omega
theorem cS_le {m P : Nat} {c : Nat → Nat} (hm : 0 < m) (h : ∀ n, c n * P ≤ 2 ^ n) (n : Nat) : cS c m n * (m * P) ≤ 2 ^ n := by
  unfold cS
  by_cases d : 1 < m
  · rw [if_pos d]
    have := gS_le h n 1 d
    omega
  · rw [if_neg d, show m = 1 by omega, Nat.one_mul]
    exact h n
noncomputable def sqF : List Nat → List Nat → Option (List Nat × Nat)
  | [], _ => some ([], 0)
  | r :: rs, bs => match evF r bs with
    | none => none
    | some (v, u) => (sqF rs (bs.drop u)).map fun p => (v :: p.1, u + p.2)
noncomputable def sqK : List Nat → List Nat → Option (List Nat)
  | [], _ => some []
  | r :: rs, bs => evS r (fun v bs' => (sqK rs bs').map (v :: ·)) bs
noncomputable def cK : List Nat → Nat → Nat
  | [], n => 2 ^ n
  | r :: rs, n => cS (cK rs) r n
theorem sqK_of : ∀ (rs bs : List Nat), (∀ x ∈ rs, 0 < x) → (sqF rs bs).map (·.1) = sqK rs bs
  | [], _, _ => rfl
  | r :: rs, bs, h => by
    rw [sqK, evS_of (h r List.mem_cons_self), sqF]
    cases e : evF r bs with
    | none => rfl
    | some p =>
      obtain ⟨v, u⟩ := p
      show ((sqF rs (bs.drop u)).map fun p => (v :: p.1, u + p.2)).map (·.1) = (sqK rs (bs.drop u)).map (v :: ·)
      rw [← sqK_of rs (bs.drop u) fun x hx => h x (List.mem_cons_of_mem _ hx), Option.map_map, Option.map_map]
      rfl
theorem sqK_hits : ∀ {fs rs : List Nat}, Below fs rs → ∀ n, hitB (fun bs => sqK rs bs == some fs) (rows n) = cK rs n
  | _, _, .nil, n => by
    rw [cK, ← rows_length n, ← hitB_true]
    exact hitB_congr (fun bs => by simp [sqK]) _
  | f :: fs, r :: rs, .cons h t, n => by
    rw [cK]
    refine evS_hits (m := r) (v := f) h (fun n => ?_) (fun q hq bs => ?_) n
    · rw [← sqK_hits t n]
      refine hitB_congr (fun bs => ?_) _
      cases sqK rs bs with
      | none => rfl
      | some l =>
        show (some (f :: l) == some (f :: fs)) = (some l == some fs)
        by_cases c : l = fs
        · subst c; simp
        · have h1 : (some l == some fs) = false := by simpa using c
          have h2 : (some (f :: l) == some (f :: fs)) = false := by simpa using c
          rw [h1, h2]
    · cases sqK rs bs with
      | none => rfl
      | some l =>
        show (some (q :: l) == some (f :: fs)) = false
        simp [hq]
theorem cK_le : ∀ (rs : List Nat), (∀ x ∈ rs, 0 < x) → ∀ n, cK rs n * prodL rs ≤ 2 ^ n
  | [], _, n => by rw [cK, prodL, Nat.mul_one]; exact Nat.le_refl _
  | r :: rs, h, n => by
    rw [cK, prodL]
    exact cS_le (h r List.mem_cons_self) (cK_le rs fun x hx => h x (List.mem_cons_of_mem _ hx)) n
theorem evR_lt {m : Nat} : ∀ {bs : List Nat} {n s u v w : Nat}, evR m n s u bs = some (v, w) → v < m
  | [], _, _, _, _, _, h => by cases h
  | b :: bs, n, s, u, v, w, h => by
    unfold evR at h
    split at h
    · exact evR_lt h
    · split at h
      · cases h; assumption
      · exact evR_lt h
theorem evF_lt {m : Nat} {bs : List Nat} {v u : Nat} (h : evF m bs = some (v, u)) : v < m := by
  unfold evF evG at h
  split at h
  · exact evR_lt h
  · split at h
    · cases h; assumption
    · exact evR_lt h
theorem sqF_below : ∀ {rs bs fs : List Nat} {u : Nat}, sqF rs bs = some (fs, u) → Below fs rs
  | [], _, _, _, h => by cases h; exact .nil
  | r :: rs, bs, fs, u, h => by
    unfold sqF at h
    cases e : evF r bs with
    | none => rw [e] at h; cases h
    | some p =>
      obtain ⟨v, w⟩ := p
      rw [e] at h
      cases e2 : sqF rs (bs.drop w) with
      | none =>
        have h' : ((sqF rs (bs.drop w)).map fun p => (v :: p.1, w + p.2)) = some (fs, u) := h
        rw [e2] at h'; cases h'
      | some q =>
        obtain ⟨gs, w2⟩ := q
        have h' : ((sqF rs (bs.drop w)).map fun p => (v :: p.1, w + p.2)) = some (fs, u) := h
        rw [e2] at h'
        cases h'
        exact .cons (evF_lt e) (sqF_below e2)
theorem one_hits {m j : Nat} (hj : j < m) (n : Nat) : hits (evF m) j (rows n) = 2 ^ n / m := by
  have hm : 0 < m := by omega
  rw [← cS_pow hm n]
  have := evS_hits (m := m) (v := j) (k := fun v _ => some v) (y := j) (c := fun n => 2 ^ n) hj (fun n => ?_) (fun q hq bs => ?_) n
  · rw [← this]
    show ((rows n).filter _).length = ((rows n).filter _).length
    congr 1
    refine List.filter_congr fun bs _ => ?_
    rw [evS_of hm]
    cases evF m bs <;> rfl
  · rw [← rows_length n, ← hitB_true]
    exact hitB_congr (fun bs => by simp) _
  · show (some q == some j) = false
    simpa using hq
noncomputable def sqP (rs : List Nat) (bs : List Nat) : Option (Nat × Nat) := (sqF rs bs).map fun p => (poF 0 rs p.1, p.2)
theorem sqP_lt {rs bs : List Nat} {v u : Nat} (h : sqP rs bs = some (v, u)) : v < prodL rs := by
  unfold sqP at h
  cases e : sqF rs bs with
  | none => rw [e] at h; cases h
  | some p =>
    obtain ⟨fs, w⟩ := p
    rw [e] at h
    cases h
    exact val_lt (sqF_below e)
theorem below_figs : ∀ {rs : List Nat} (j : Nat), (∀ x ∈ rs, 0 < x) → Below (figs rs j) rs
  | [], _, _ => .nil
  | r :: rs, j, h => .cons (Nat.mod_lt _ (h r List.mem_cons_self)) (below_figs j fun x hx => h x (List.mem_cons_of_mem _ hx))
theorem seq_hits {rs : List Nat} {j : Nat} (hp : ∀ x ∈ rs, 0 < x) (hj : j < prodL rs) (n : Nat) : hits (sqP rs) j (rows n) = cK rs n := by
  rw [← sqK_hits (below_figs j hp) n]
  show ((rows n).filter _).length = ((rows n).filter _).length
  congr 1
  refine List.filter_congr fun bs _ => ?_
  rw [← sqK_of rs bs hp]
  unfold sqP
  cases e : sqF rs bs with
  | none => rfl
  | some p =>
    obtain ⟨fs, w⟩ := p
    have hb := sqF_below e
    show (some (poF 0 rs fs) == some j) = (some fs == some (figs rs j))
    by_cases c : poF 0 rs fs = j
    · subst c
      rw [figs_val hb]
      simp
    · have h1 : (some (poF 0 rs fs) == some j) = false := by simpa using c
      rw [h1]
      have : fs ≠ figs rs j := fun z => c (by
        have := poF_figs rs 0 j
        rw [← z, Nat.zero_mul, Nat.zero_add, Nat.mod_eq_of_lt hj] at this
        exact this)
      have h2 : (some fs == some (figs rs j)) = false := by simpa using this
      rw [h2]
theorem vnats_set (l : List Nat) (j x : Nat) : (vnats l).set j (V.int (x : Int)) = vnats (l.set j x) := by rw [vnats, vnats, List.map_set]
theorem vnats_rev (l : List Nat) : vnats l.reverse = (vnats l).reverse := List.map_reverse
theorem ixN_nat {n j : Nat} (h : j < n) : ixN n (j : Int) = some j := by
  unfold ixN
  rw [if_pos (by omega), if_pos (by omega)]
  simp
theorem rep_flat (x : V) : ∀ k : Nat, (List.replicate k [x]).flatten = List.replicate k x
  | 0 => rfl
  | k + 1 => by rw [List.replicate_succ, List.flatten_cons, rep_flat x k]; rfl
theorem vnats_rep (m n : Nat) : vnats (List.replicate m n) = List.replicate m (V.int (n : Int)) := by rw [vnats, List.map_replicate]
structure Rad (H : Hp) (r : Addr) (rs : List Nat) : Prop where
  at_ : H r = some (.tup (vnats rs))
  pos : ∀ x ∈ rs, 0 < x
  le : ∀ x ∈ rs, x ≤ 1000000
  len : rs.length ≤ 1000
theorem Rad.same {H H' : Hp} {r : Addr} {rs : List Nat} (R : Rad H r rs) (s : Same H H') : Rad H' r rs := ⟨s _ _ R.at_, R.pos, R.le, R.len⟩
theorem Rad.get {H : Hp} {r : Addr} {rs : List Nat} (R : Rad H r rs) {j : Nat} (h : j < rs.length) : 0 < rs.getD j 0 ∧ rs.getD j 0 ≤ 1000000 := by
  have : rs.getD j 0 ∈ rs := by
    rw [List.getD_eq_getElem?_getD, List.getElem?_eq_getElem h]
    exact List.getElem_mem h
  exact ⟨R.pos _ this, R.le _ this⟩
noncomputable def spCheck (CP : Addr) : Sp := fun vs H Q E => ∃ p m : Int, vs = [.int p, .int m] ∧ (0 ≤ p ∧ p < m → Q .non H) ∧ (¬ (0 ≤ p ∧ p < m) → E (.ref CP) none H)
noncomputable def spCount : Sp := fun vs H Q _ => ∃ (r : Addr) (rs : List Nat), vs = [.ref r] ∧ Rad H r rs ∧ Q (.int (prodL rs : Int)) H
noncomputable def spFigs (CP : Addr) : Sp := fun vs H Q E => ∃ (r : Addr) (rs : List Nat) (p : Int), vs = [.ref r, .int p] ∧ Rad H r rs ∧
  (∀ (n : Nat) t H', p = (n : Int) → n < prodL rs → Same H H' → H' t = some (.tup (vnats (figs rs n))) → Q (.ref t) H') ∧ (¬ (0 ≤ p ∧ p < (prodL rs : Int)) → E (.ref CP) none H)
theorem prod_take {rs : List Nat} {i : Nat} (h : i < rs.length) : prodL (rs.take (i + 1)) = prodL (rs.take i) * rs.getD i 0 := by
  induction rs generalizing i with
  | nil => simp at h
  | cons a rs ih =>
    cases i with
    | zero => simp [prodL]
    | succ i =>
      have h' : i < rs.length := by simpa using h
      rw [List.take_succ_cons, List.take_succ_cons, prodL, prodL, ih h', List.getD_cons_succ, Nat.mul_assoc]
noncomputable def poT (rs fs : List Nat) (i : Nat) : Nat := poF 0 (rs.take i) (fs.take i)
theorem poF_snoc : ∀ (rs fs : List Nat) (acc r f : Nat), fs.length = rs.length → poF acc (rs ++ [r]) (fs ++ [f]) = poF acc rs fs * r + f
  | [], [], acc, r, f, _ => rfl
  | [], f' :: fs, _, _, _, h => by simp at h
  | r' :: rs, [], _, _, _, h => by simp at h
  | r' :: rs, f' :: fs, acc, r, f, h => by
    show poF (acc * r' + f') (rs ++ [r]) (fs ++ [f]) = poF (acc * r' + f') rs fs * r + f
    exact poF_snoc rs fs _ r f (by simpa using h)
theorem poT_more {rs fs : List Nat} {i : Nat} (hl : fs.length = rs.length) (h : i < rs.length) : poT rs fs (i + 1) = poT rs fs i * rs.getD i 0 + fs.getD i 0 := by
  unfold poT
  have hf : i < fs.length := by omega
  rw [List.take_add_one, List.take_add_one, List.getElem?_eq_getElem h, List.getElem?_eq_getElem hf]
  show poF 0 (rs.take i ++ [rs[i]]) (fs.take i ++ [fs[i]]) = _
  rw [poF_snoc _ _ _ _ _ (by rw [List.length_take, List.length_take]; omega), List.getD_eq_getElem?_getD, List.getD_eq_getElem?_getD, List.getElem?_eq_getElem h, List.getElem?_eq_getElem hf]
  rfl
section
variable {P : Program} {w : World} {K : PySem.W.Frag} {mg : Str → Option Value} {base : Heap} {f CP : Addr} {fd : FuncData} {mP : List Value}
theorem ok_check_place (F_check_place : Fun K "check_place" "check_place" s_check_place f fd) (X_NoPlace : Exc K mg "NoPlace" CP mP) : FnOk P w K mg base (CXR P w) 1 f fd p_check_place (spCheck CP) := by
  refine F_check_place.okX sc_check_place (fun vs H Q E h => ?_) (fun cdv A outer s H vs Q E hr h => ?_)
  · obtain ⟨p, m, rfl, _⟩ := h
    rfl
  obtain ⟨p, m, rfl, q, e⟩ := h
  refine ⟨_, (pss_one (ps_if (PW.pt (pw_or (pt_cmpR op_lt (pv 0) pe_int (nomark _)) (pw_or1 (pt_cmpR op_ge (pv 0) (pv 1) (nomark _))))) (pss_one (ps_raise X_NoPlace (pa_cons pe_str pa_nil))) pss_nil)), ?_⟩
  refine ⟨_, rfl, _, _, rfl, rfl, _, rfl, ite2 (fun c => ?_) (fun c => ?_)⟩
  · have c' : p < 0 := of_decide_eq_true c
    exact iteT ⟨(by show 1 ≤ sizeLine; decide), e (by omega)⟩
  · have c' : ¬ p < 0 := of_decide_eq_false (Bool.eq_false_iff.mpr c)
    refine ⟨_, rfl, _, rfl, _, _, rfl, rfl, _, rfl, ite2 (fun c2 => ?_) (fun c2 => ?_)⟩
    · have c3 : p ≥ m := of_decide_eq_true c2
      exact ⟨(by show 1 ≤ sizeLine; decide), e (by omega)⟩
    · have c3 : ¬ p ≥ m := of_decide_eq_false (Bool.eq_false_iff.mpr c2)
      exact q (by omega)
theorem ok_count_figures (F_count_figures : Fun K "count_figures" "count_figures" s_count_figures f fd) (B : Bl mg) : FnOk P w K mg base CX0 1 f fd p_count_figures spCount := by
  refine F_count_figures.ok sc_count_figures (fun vs H Q E h => ?_) (fun cdv A outer s H vs Q E hr h => ?_)
  · obtain ⟨r, rs, rfl, _⟩ := h
    rfl
  obtain ⟨r, rs, rfl, hR, q⟩ := h
  refine ⟨_, (pss_cons (ps_set (i := 1) sc_count_figures.nd rfl (Or.inl rfl) pe_int)
      (pss_cons (ps_for PassesOwn.never rfl (pi_tup (pv 0)) (pg_name (i := 2) sc_count_figures.nd rfl (Or.inl rfl)) (pss_one (ps_set (i := 1) sc_count_figures.nd rfl (Or.inl rfl) (pe_op op_mul (pv 1) (pe_callB (call_max2 rfl) rfl B.max_ L3.bt_max (pa_cons pe_int (pa_cons (pv 2) pa_nil)))))))
      (pss_one (ps_ret (pv 1))))), ?_⟩
  refine ⟨_, rfl, r, rfl, ⟨_, SqT.of hR.at_⟩, for_tup (xs := vnats rs) (fun i σ' H' => ∃ o2 : Option V, σ' = [some (.ref r), some (.int (prodL (rs.take i) : Int)), o2] ∧ H' = H)
    ⟨_, rfl, rfl⟩ (fun i σ' H' _ ⟨_, _, e⟩ => by rw [e]; exact SqT.of hR.at_) ?_ ?_⟩
  · rintro i x σ1 H1 hx ⟨o2, rfl, rfl⟩
    have hi : i < rs.length := by
      have := (List.getElem?_eq_some_iff.mp hx).1
      rwa [vnats_len] at this
    rw [vnats_at hi] at hx
    cases hx
    obtain ⟨hg, hg2⟩ := hR.get hi
    refine ⟨_, rfl, _, rfl, _, _, rfl, ?_⟩
    rw [show (if ((rs.getD i 0 : Nat) : Int) > 0 then ((rs.getD i 0 : Nat) : Int) else 0) = ((rs.getD i 0 : Nat) : Int) from if_pos (by omega)]
    refine ⟨_, _, rfl, rfl, .inr ⟨by omega, by omega⟩, some (.int (rs.getD i 0 : Int)), ?_, rfl⟩
    rw [prod_take hi]
    rfl
  · rintro σ1 H1 ⟨o2, rfl, rfl⟩
    rw [vnats_len, List.take_length]
    exact ⟨_, rfl, q⟩
theorem ok_figures_at (F_figures_at : Fun K "figures_at" "figures_at" s_figures_at f fd) (B : Bl mg) {fC : Addr} {dC : FuncData} (g_check_place : FnX P w K mg base "check_place" fC dC p_check_place 1 (spCheck CP)) (g_count_figures : Fn P w K mg base "count_figures" p_count_figures 1 spCount) :
    FnOk P w K mg base (CXR P w) 2 f fd p_figures_at (spFigs CP) := by
  refine F_figures_at.okX sc_figures_at (fun vs H Q E h => ?_) (fun cdv A outer s H vs Q E hr h => ?_)
  · obtain ⟨r, rs, p, rfl, _⟩ := h
    rfl
  obtain ⟨r, rs, p, rfl, hR, q, e⟩ := h
  refine ⟨_, (pss_cons (ps_expr (pe_fnX g_check_place hr (pa_cons (pv 1) (pa_cons (pe_fn g_count_figures hr (pa_cons (pv 0) pa_nil)) pa_nil))))
      (pss_cons (ps_set (i := 2) sc_figures_at.nd rfl (Or.inl rfl) (pe_lst pa_nil))
      (pss_cons (ps_set (i := 3) sc_figures_at.nd rfl (Or.inl rfl) (pv 1))
      (pss_cons (ps_for (PassesOwn.leaving (M := model P w)) rfl (pi_revT rfl B.reversed_ (pa_cons (pv 0) pa_nil)) (pg_name (i := 4) sc_figures_at.nd rfl (Or.inl rfl)) (pss_cons (ps_expr (pe_bm PySem.F.plainAttrs_list PySem.F.slot_list_append PySem.F.type_list_append mt_append (pv 2) (pa_cons (pe_op op_mod (pv 3) (pv 4)) pa_nil)))
      (pss_one (ps_set (i := 3) sc_figures_at.nd rfl (Or.inl rfl) (pe_op op_fdiv (pv 3) (pv 4))))))
      (pss_one (ps_ret (pe_tupRev rfl rfl B.tuple_ rfl B.reversed_ (pa_cons (pv 2) pa_nil)))))))), ?_⟩
  refine ⟨_, rfl, _, rfl, r, rs, rfl, hR, p, _, rfl, fun hin => ?_, fun hout => e hout⟩
  obtain ⟨n, rfl⟩ := nat_of hin.1
  have hn : n < prodL rs := by omega
  refine ⟨(by show 0 ≤ sizeLine; decide), fun l fl => ?_⟩
  refine ⟨_, rfl, ?_⟩
  have s1 := same_new fl (.lst ([] : List V))
  refine ⟨_, rfl, r, _, rfl, SqT.of (s1 _ _ hR.at_), for_rev (xs := vnats rs) (fun i σ' H' => ∃ o4 : Option V, σ' = [some (.ref r), some (.int (n : Int)), some (.ref l), some (.int ((n / prodL (rs.drop (rs.length - i)) : Nat) : Int)), o4] ∧ Same H H' ∧ H' l = some (.lst (vnats (figs (rs.drop (rs.length - i)) n).reverse)))
    ⟨none, ?_, s1, ?_⟩ (fun i σ' H' _ ⟨_, _, s, _⟩ => SqT.of (s _ _ hR.at_)) ?_ ?_⟩
  · rw [Nat.sub_zero, List.drop_length]
    show _ = [some (V.ref r), some (V.int (n : Int)), some (V.ref l), some (V.int ((n / 1 : Nat) : Int)), _]
    rw [Nat.div_one]
    rfl
  · rw [Nat.sub_zero, List.drop_length, upd_same]
    rfl
  · rintro i x σ2 H2 hi hx ⟨o4, rfl, s2, h2⟩
    rw [vnats_len] at hi hx
    rw [vnats_at (show rs.length - 1 - i < rs.length by omega)] at hx
    cases hx
    have hd := drop_fig hi
    obtain ⟨hg, hg2⟩ := hR.get (show rs.length - 1 - i < rs.length by omega)
    generalize rs.getD (rs.length - 1 - i) 0 = x at hd hg hg2
    have hll : (vnats (figs (rs.drop (rs.length - i)) n).reverse).length < sizeLine := by
      rw [vnats_len, List.length_reverse, figs_len, List.length_drop]
      have := hR.len
      exact smallL (by omega)
    refine ⟨_, rfl, .inl ⟨rfl, _, SqL.of h2⟩, _, rfl, _, rfl, _, _, rfl, rfl, (by show (0 : Int) < (x : Int); omega), l, _, _, rfl, rfl, h2, hll, ?_⟩
    refine ⟨_, rfl, _, rfl, _, _, rfl, rfl, ⟨by omega, by omega⟩, some (.int (x : Int)), ?_, fun c o ec => ?_, ?_⟩
    · rw [hd, prodL, Nat.mul_comm x, ← Nat.div_div_eq_div_mul]
      rfl
    · rw [upd_ne (ne_of_none ec fl)]
      exact s2 c o ec
    · rw [upd_same, hd, figs, List.reverse_cons, vnats_app]
      rfl
  · rintro σ2 H2 ⟨o4, rfl, s2, h2⟩
    rw [vnats_len, Nat.sub_self, List.drop_zero] at h2
    refine ⟨_, rfl, l, _, rfl, SqL.of h2, fun t ft => q n t _ rfl hn (s2.trans (same_new ft _)) ?_⟩
    rw [upd_same, vnats_rev, List.reverse_reverse]
end
noncomputable def radsO : Nat → List Nat
  | 0 => []
  | n + 1 => (n + 1) :: radsO n
theorem radsO_len : ∀ n, (radsO n).length = n
  | 0 => rfl
  | n + 1 => by rw [radsO, List.length_cons, radsO_len n]
theorem radsO_pos : ∀ {n : Nat}, ∀ x ∈ radsO n, 0 < x ∧ x ≤ n
  | 0, x, h => by cases h
  | n + 1, x, h => by
    rcases List.mem_cons.mp h with rfl | h
    · omega
    · have := radsO_pos x h; omega
theorem radsO_at : ∀ {n i : Nat}, i < n → (radsO n).getD i 0 = n - i
  | n + 1, 0, _ => rfl
  | n + 1, i + 1, h => by
    rw [radsO, List.getD_cons_succ, radsO_at (by omega)]
    omega
theorem radsO_down (n : Nat) : downL (n : Int) 0 = vnats (radsO n) := by
  refine List.ext_getElem? fun i => ?_
  by_cases hi : i < n
  · rw [vnats_at (by rw [radsO_len]; exact hi), radsO_at hi, downL, List.getElem?_map, List.getElem?_range (by omega)]
    show some (V.int _) = some (V.int _)
    congr 2
    omega
  · rw [List.getElem?_eq_none (by rw [downL_len]; omega), List.getElem?_eq_none (by rw [vnats_len, radsO_len]; omega)]
theorem cons_erase_perm : ∀ {l : List Nat} {f : Nat} (h : f < l.length), (l[f] :: l.eraseIdx f).Perm l
  | a :: l, 0, _ => List.Perm.refl _
  | a :: l, f + 1, h => by
    have h' : f < l.length := by simpa using h
    show (l[f] :: a :: l.eraseIdx f).Perm (a :: l)
    exact (List.Perm.swap ..).trans ((cons_erase_perm h').cons a)
theorem seq_ix {f n : Nat} (h : f < n) : seqIndex? (f : Int) n = some f := by
  unfold seqIndex?
  simp
  omega
noncomputable def takeL : List Nat → List Nat → List Nat
  | _, [] => []
  | l, f :: fs => l.getD f 0 :: takeL (l.eraseIdx f) fs
noncomputable def leftL : List Nat → List Nat → List Nat
  | l, [] => l
  | l, f :: fs => leftL (l.eraseIdx f) fs
theorem takeL_len : ∀ (l fs : List Nat), (takeL l fs).length = fs.length
  | _, [] => rfl
  | l, f :: fs => by rw [takeL, List.length_cons, takeL_len, List.length_cons]
theorem takeL_snoc : ∀ (l fs : List Nat) (f : Nat), takeL l (fs ++ [f]) = takeL l fs ++ [(leftL l fs).getD f 0]
  | _, [], _ => rfl
  | l, g :: fs, f => by
    show _ :: takeL (l.eraseIdx g) (fs ++ [f]) = _
    rw [takeL_snoc]
    rfl
theorem leftL_snoc : ∀ (l fs : List Nat) (f : Nat), leftL l (fs ++ [f]) = (leftL l fs).eraseIdx f
  | _, [], _ => rfl
  | l, g :: fs, f => leftL_snoc (l.eraseIdx g) fs f
theorem takeL_take : ∀ (l fs : List Nat) (i : Nat), takeL l (fs.take i) = (takeL l fs).take i
  | _, [], i => by simp [takeL]
  | _, _ :: _, 0 => rfl
  | l, f :: fs, i + 1 => by
    show _ :: takeL (l.eraseIdx f) (fs.take i) = _ :: (takeL (l.eraseIdx f) fs).take i
    rw [takeL_take]
theorem take_step {fs : List Nat} {i : Nat} (h : i < fs.length) : fs.take (i + 1) = fs.take i ++ [fs.getD i 0] := by
  rw [List.take_add_one, List.getElem?_eq_getElem h, List.getD_eq_getElem?_getD, List.getElem?_eq_getElem h]
  rfl
theorem leftL_sub : ∀ (l fs : List Nat), (leftL l fs).Sublist l
  | l, [] => List.Sublist.refl _
  | l, f :: fs => (leftL_sub (l.eraseIdx f) fs).trans (List.eraseIdx_sublist ..)
theorem leftL_nodup {l fs : List Nat} (h : l.Nodup) : (leftL l fs).Nodup := List.Nodup.sublist (leftL_sub l fs) h
theorem Below.at : ∀ {fs rs : List Nat} {i : Nat}, Below fs rs → i < fs.length → fs.getD i 0 < rs.getD i 0
  | _, _, 0, .cons h _, _ => h
  | _, _, i + 1, .cons _ t, hi => by
    rw [List.getD_cons_succ, List.getD_cons_succ]
    exact t.at (by simpa using hi)
  | _, _, _, .nil, hi => by simp at hi
theorem leftL_len {fs : List Nat} {n : Nat} (h : Below fs (radsO n)) : ∀ i, i ≤ n → (leftL (List.range n) (fs.take i)).length = n - i
  | 0, _ => by simp [leftL]
  | i + 1, hi => by
    have hl := h.len
    rw [radsO_len] at hl
    have ih := leftL_len h i (by omega)
    have hf := h.at (i := i) (by omega)
    rw [radsO_at (by omega)] at hf
    rw [take_step (by omega), leftL_snoc, List.length_eraseIdx, ih, if_pos (by omega)]
    omega
theorem takeL_perm : ∀ {l fs : List Nat}, Below fs (radsO l.length) → (takeL l fs).Perm l
  | [], fs, h => by
    cases h
    exact List.Perm.refl _
  | a :: l, fs, h => by
    have h' : Below fs ((l.length + 1) :: radsO l.length) := h
    cases h' with
    | @cons f _ fs _ hf t =>
      have hlt : f < (a :: l).length := hf
      have hl : ((a :: l).eraseIdx f).length = l.length := by rw [List.length_eraseIdx, if_pos hlt]; rfl
      have ih := takeL_perm (l := (a :: l).eraseIdx f) (fs := fs) (by rw [hl]; exact t)
      have e : (a :: l).getD f 0 = (a :: l)[f] := by rw [List.getD_eq_getElem?_getD, List.getElem?_eq_getElem hlt]; rfl
      show ((a :: l).getD f 0 :: takeL ((a :: l).eraseIdx f) fs).Perm (a :: l)
      rw [e]
      exact (ih.cons _).trans (cons_erase_perm hlt)
theorem sorted_range {n : Nat} {ns : List Int} {row : List Nat} (hp : row.Perm (List.range n)) (h1 : ns.Perm (row.map fun (x : Nat) => (x : Int))) (h2 : ns.Pairwise (· ≤ ·)) : ns = (List.range n).map fun (x : Nat) => (x : Int) := by
  have h3 : ns.Perm ((List.range n).map fun (x : Nat) => (x : Int)) := h1.trans (hp.map _)
  refine h3.eq_of_pairwise (le := fun a b => decide (a ≤ b)) ?_ ?_ ?_
  · intro a b _ _ x y
    have := of_decide_eq_true x
    have := of_decide_eq_true y
    omega
  · exact h2.imp fun h => decide_eq_true h
  · rw [List.pairwise_map]
    exact List.pairwise_lt_range.imp fun h => decide_eq_true (by omega)
noncomputable def spRads : Sp := fun vs H Q _ => ∃ n : Nat, vs = [.int (n : Int)] ∧ n ≤ 1000 ∧ ∀ p H', Same H H' → H' p = some (.tup (vnats (radsO n))) → Q (.ref p) H'
noncomputable def spOrdAt : Sp := fun vs H Q _ => ∃ n p : Nat, vs = [.int (n : Int), .int (p : Int)] ∧ n ≤ 1000 ∧ p < prodL (radsO n) ∧ ∀ t H', Same H H' → H' t = some (.tup (vnats (takeL (List.range n) (figs (radsO n) p)))) → Q (.ref t) H'
noncomputable def spPlaceQ (c : Bool) : Sp := fun vs H Q _ => ∃ (r t : Addr) (rs fs : List Nat), vs = [.ref r, .ref t] ∧ Rad H r rs ∧ H t = some (if c = true then .tup (vnats fs) else .lst (vnats fs)) ∧ fs.length = rs.length ∧ ∀ H', Same H H' → Q (.int (poF 0 rs fs : Int)) H'
noncomputable def spPlO : Sp := fun vs H Q _ => ∃ (t : Addr) (n : Nat) (fs : List Nat), vs = [.ref t] ∧ H t = some (.tup (vnats (takeL (List.range n) fs))) ∧ Below fs (radsO n) ∧ n ≤ 60 ∧ ∀ H', Same H H' → Q (.int (poF 0 (radsO n) fs : Int)) H'
theorem rad_of {H : Hp} {p : Addr} {n : Nat} (hn : n ≤ 1000) (h : H p = some (.tup (vnats (radsO n)))) : Rad H p (radsO n) :=
  ⟨h, fun x hx => (radsO_pos x hx).1, fun x hx => Nat.le_trans (radsO_pos x hx).2 (by omega), by rw [radsO_len]; exact hn⟩
theorem flat_nats' (l : List Nat) : (vnats l).all flatV = true := by
  rw [List.all_eq_true]
  intro x hx
  obtain ⟨n, _, rfl⟩ := List.mem_map.mp hx
  rfl
theorem vnats_erase : ∀ (l : List Nat) (j : Nat), (vnats l).eraseIdx j = vnats (l.eraseIdx j)
  | [], _ => rfl
  | _ :: _, 0 => rfl
  | a :: l, j + 1 => by
    show _ :: (vnats l).eraseIdx j = _ :: vnats (l.eraseIdx j)
    rw [vnats_erase]
section
variable {P : Program} {w : World} {K : PySem.W.Frag} {mg : Str → Option Value} {base : Heap} {f C CP CN : Addr} {fd : FuncData} {mP mN : List Value}
theorem ok_radices_of_orders (F_radices_of_orders : Fun K "radices_of_orders" "radices_of_orders" s_radices_of_orders f fd) (B : Bl mg) : FnOk P w K mg base CX0 1 f fd p_radices_of_orders spRads := by
  refine F_radices_of_orders.ok sc_radices_of_orders (fun vs H Q E h => ?_) (fun cdv A outer s H vs Q E hr h => ?_)
  · obtain ⟨n, rfl, _⟩ := h
    rfl
  obtain ⟨n, rfl, hn, q⟩ := h
  refine ⟨_, (pss_one (ps_ret (pe_tupDown rfl rfl B.tuple_ rfl B.range_ (pa_cons (pv 0) (pa_cons pe_int (pa_cons (pe_un un_neg pe_int) pa_nil)))))), ?_⟩
  refine ⟨_, rfl, _, rfl, _, 0, rfl, ⟨by omega, by omega, by decide, by decide⟩, fun p fp => ?_⟩
  rw [radsO_down]
  exact q p _ (same_new fp _) upd_same
theorem ok_place_of_figuresQ {c : Bool} (F_place_of_figures : Fun K "place_of_figures" "place_of_figures" s_place_of_figures f fd) (B : Bl mg) : FnOk P w K mg base CX0 1 f fd p_place_of_figures (spPlaceQ c) := by
  refine F_place_of_figures.ok sc_place_of_figures (fun vs H Q E h => ?_) (fun cdv A outer s H vs Q E hr h => ?_)
  · obtain ⟨r, t, rs, fs, rfl, _⟩ := h
    rfl
  obtain ⟨r, t, rs, fs, rfl, hR, hF, hl, q⟩ := h
  refine ⟨_, (pss_cons (ps_set (i := 2) sc_place_of_figures.nd rfl (Or.inl rfl) pe_int)
      (pss_cons (ps_for PassesOwn.never rfl (pi_zipQ true c rfl B.zip_ (pa_cons (pv 0) (pa_cons (pv 1) pa_nil))) (pg_tup rfl (pgs_cons (pg_name (i := 3) sc_place_of_figures.nd rfl (Or.inl rfl)) (pgs_cons (pg_name (i := 4) sc_place_of_figures.nd rfl (Or.inl rfl)) pgs_nil))) (pss_one (ps_set (i := 2) sc_place_of_figures.nd rfl (Or.inl rfl) (pe_op op_add (pe_op op_mul (pv 2) (pv 3)) (pv 4)))))
      (pss_one (ps_ret (pv 2))))), ?_⟩
  have sq : ∀ {H' : Hp}, Same H H' → SqQ c K H' t (vnats fs) := fun {H'} s => by
    have e := s _ _ hF
    cases c with
    | true => exact .tup (SqT.of e)
    | false => exact .lst (SqL.of e)
  refine ⟨_, rfl, _, rfl, r, t, rfl, ⟨_, .tup (SqT.of hR.at_)⟩, ⟨_, sq (Same.refl _)⟩, for_zipQ (xs := vnats rs) (ys := vnats fs) (fun i σ' H' => ∃ o3 o4 : Option V, σ' = [some (.ref r), some (.ref t), some (.int (poT rs fs i : Int)), o3, o4] ∧ Same H H')
    ⟨_, _, rfl, Same.refl _⟩ (fun i σ' H' _ ⟨_, _, _, s⟩ => ⟨.tup (SqT.of (s _ _ hR.at_)), sq s⟩) ?_ ?_⟩
  · rintro i x y σ1 H1 p hx hy ⟨o3, o4, rfl, s1⟩ hp
    have hi : i < rs.length := by
      have := (List.getElem?_eq_some_iff.mp hx).1
      rwa [vnats_len] at this
    rw [vnats_at hi] at hx
    rw [vnats_at (show i < fs.length by omega)] at hy
    cases hx
    cases hy
    obtain ⟨hg, hg2⟩ := hR.get hi
    refine ⟨p, _, rfl, SqT.of upd_same, rfl, _, _, rfl, _, _, rfl, rfl, ?_⟩
    refine ⟨_, rfl, _, rfl, _, _, rfl, rfl, .inr ⟨by omega, by omega⟩, _, rfl, _, _, rfl, rfl, some (.int (rs.getD i 0 : Int)), some (.int (fs.getD i 0 : Int)), ?_, s1.trans (same_new hp _)⟩
    rw [poT_more hl hi]
    rfl
  · rintro σ1 H1 ⟨o3, o4, rfl, s1⟩
    refine ⟨_, rfl, ?_⟩
    have := q H1 s1
    rw [vnats_len, vnats_len, hl, Nat.min_self]
    unfold poT
    rw [List.take_length, ← hl, List.take_length]
    exact this
theorem ok_order_at (F_order_at : Fun K "order_at" "order_at" s_order_at f fd) (B : Bl mg) (g_radices_of_orders : Fn P w K mg base "radices_of_orders" p_radices_of_orders 1 spRads) {fF : Addr} {dF : FuncData} (g_figures_at : FnX P w K mg base "figures_at" fF dF p_figures_at 2 (spFigs CP)) : FnOk P w K mg base (CXR P w) 3 f fd p_order_at spOrdAt := by
  refine F_order_at.okX sc_order_at (fun vs H Q E h => ?_) (fun cdv A outer s H vs Q E hr h => ?_)
  · obtain ⟨n, p, rfl, _⟩ := h
    rfl
  obtain ⟨n, p, rfl, hn, hp, q⟩ := h
  refine ⟨_, (pss_cons (ps_set (i := 2) sc_order_at.nd rfl (Or.inl rfl) (pe_listRange rfl rfl B.list_ rfl B.range_ (pa_cons (pv 0) pa_nil)))
      (pss_cons (ps_set (i := 3) sc_order_at.nd rfl (Or.inl rfl) (pe_lst pa_nil))
      (pss_cons (ps_for (PassesOwn.leaving (M := model P w)) rfl (pi_tup (pe_fnX g_figures_at hr (pa_cons (pe_fn g_radices_of_orders hr (pa_cons (pv 0) pa_nil)) (pa_cons (pv 1) pa_nil)))) (pg_name (i := 4) sc_order_at.nd rfl (Or.inl rfl)) (pss_one (ps_expr (pe_bm PySem.F.plainAttrs_list PySem.F.slot_list_append PySem.F.type_list_append mt_append (pv 3) (pa_cons (pe_bm PySem.F.plainAttrs_list PySem.F.slot_list_pop PySem.F.type_list_pop mt_popAt (pv 2) (pa_cons (pv 4) pa_nil)) pa_nil)))))
      (pss_one (ps_ret (pe_callTy call_tuple_of rfl B.tuple_ L3.bt_tuple (pa_cons (pv 3) pa_nil))))))), ?_⟩
  refine ⟨_, rfl, n, rfl, by omega, fun l fl => ?_⟩
  have y1 := same_new fl (.lst ((List.range n).map fun (j : Nat) => V.int (j : Int)))
  have w1 : (upd H l (.lst ((List.range n).map fun (j : Nat) => V.int (j : Int)))) l = some (.lst (vnats (List.range n))) := upd_same
  generalize upd H l (.lst ((List.range n).map fun (j : Nat) => V.int (j : Int))) = H1 at y1 w1 ⊢
  refine ⟨(by show 0 ≤ sizeLine; decide), fun rw fr => ?_⟩
  have y2 := same_new fr (.lst ([] : List V))
  have w2 : (upd H1 rw (.lst ([] : List V))) rw = some (.lst (vnats (takeL (List.range n) []))) := upd_same
  have nlr : l ≠ rw := ne_of_none w1 fr
  have nr : H rw = none := by
    cases e : H rw with
    | none => rfl
    | some o => have := y1 _ _ e; rw [fr] at this; cases this
  generalize upd H1 rw (.lst ([] : List V)) = H2 at y2 w2 ⊢
  have s2 := y1.trans y2
  refine ⟨_, rfl, n, rfl, hn, fun pr H3 s3 h3 => ⟨_, rfl, pr, radsO n, (p : Int), rfl, rad_of hn h3, fun m t H4 em hm s4 h4 => ?_, fun hout => absurd ⟨by omega, by omega⟩ hout⟩⟩
  have emp : m = p := by omega
  subst emp
  have hb := below_figs (rs := radsO n) m fun x hx => (radsO_pos x hx).1
  have hfl : (figs (radsO n) m).length = n := by rw [figs_len, radsO_len]
  refine ⟨t, rfl, ⟨_, SqT.of h4⟩, for_tup (xs := vnats (figs (radsO n) m)) (fun i σ' H' => ∃ o4 : Option V, σ' = [some (.int (n : Int)), some (.int (m : Int)), some (.ref l), some (.ref rw), o4] ∧ Same H H' ∧ H' t = some (.tup (vnats (figs (radsO n) m))) ∧ H' l = some (.lst (vnats (leftL (List.range n) ((figs (radsO n) m).take i)))) ∧ H' rw = some (.lst (vnats (takeL (List.range n) ((figs (radsO n) m).take i)))))
    ⟨_, rfl, s2.trans (s3.trans s4), h4, s4 _ _ (s3 _ _ (y2 _ _ w1)), s4 _ _ (s3 _ _ w2)⟩ (fun i σ' H' _ ⟨_, _, _, e, _⟩ => SqT.of e) ?_ ?_⟩
  · rintro i x σ1 H5 hx ⟨o4, rfl, s5, ht, hL, hR⟩
    have hi : i < n := by
      have := (List.getElem?_eq_some_iff.mp hx).1
      rwa [vnats_len, hfl] at this
    rw [vnats_at (by omega)] at hx
    cases hx
    have hf := hb.at (i := i) (by omega)
    rw [radsO_at hi] at hf
    have hll := leftL_len hb i (by omega)
    have htl : t ≠ l := fun z => by rw [z, hL] at ht; cases ht
    have htr : t ≠ rw := fun z => by rw [z, hR] at ht; cases ht
    refine ⟨_, rfl, .inl ⟨rfl, _, SqL.of hR⟩, ?_⟩
    refine ⟨_, rfl, .inl ⟨rfl, _, SqL.of hL⟩, _, rfl, l, _, _, (figs (radsO n) m).getD i 0, _, rfl, rfl, hL, by omega, by omega, ?_, vnats_at (by omega), ?_⟩
    · rw [vnats_len, hll]
      exact seq_ix (by omega)
    · rw [vnats_erase]
      refine ⟨rw, _, _, rfl, rfl, by rw [upd_ne nlr.symm]; exact hR, smallL (by rw [vnats_len, takeL_len, List.length_take]; omega), ?_⟩
      refine ⟨_, rfl, fun b o e => ?_, by rw [upd_ne htr, upd_ne htl]; exact ht, ?_, ?_⟩
      · have n1 : b ≠ rw := ne_of_none e nr
        have n2 : b ≠ l := ne_of_none e fl
        rw [upd_ne n1, upd_ne n2]
        exact s5 b o e
      · rw [upd_ne nlr, upd_same, take_step (by omega), leftL_snoc]
      · rw [upd_same, take_step (by omega), takeL_snoc, vnats_app]
        rfl
  · rintro σ1 H5 ⟨o4, rfl, s5, ht, hL, hR⟩
    rw [vnats_len, List.take_length] at hR
    refine ⟨_, rfl, rw, _, rfl, .inl ⟨SqL.of hR, fun tq ftq => ?_⟩⟩
    exact q tq _ (s5.trans (same_new ftq _)) upd_same
theorem ok_place_of_order (F_place_of_order : Fun K "place_of_order" "place_of_order" s_place_of_order f fd) (B : Bl mg) (g_radices_of_orders : Fn P w K mg base "radices_of_orders" p_radices_of_orders 1 spRads) (g_place_of_figures : Fn P w K mg base "place_of_figures" p_place_of_figures 1 (spPlaceQ false)) : FnOk P w K mg base CX0 2 f fd p_place_of_order spPlO := by
  refine F_place_of_order.ok sc_place_of_order (fun vs H Q E h => ?_) (fun cdv A outer s H vs Q E hr h => ?_)
  · obtain ⟨t, n, fs, rfl, _⟩ := h
    rfl
  obtain ⟨t, n, fs, rfl, hT, hb, hn, q⟩ := h
  have hfl := hb.len
  rw [radsO_len] at hfl
  have hrl : (takeL (List.range n) fs).length = n := by rw [takeL_len, hfl]
  refine ⟨_, (pss_cons (ps_set (i := 1) sc_place_of_order.nd rfl (Or.inl rfl) (pe_callB call_sortedT rfl B.sorted_ L3.bt_sorted (pa_cons (pv 0) pa_nil)))
      (pss_cons (ps_set (i := 2) sc_place_of_order.nd rfl (Or.inl rfl) (pe_lst pa_nil))
      (pss_cons (ps_for PassesOwn.never rfl (pi_tup (pv 0)) (pg_name (i := 3) sc_place_of_order.nd rfl (Or.inl rfl)) (pss_cons (ps_expr (pe_bm PySem.F.plainAttrs_list PySem.F.slot_list_append PySem.F.type_list_append mt_append (pv 2) (pa_cons (pe_bm PySem.F.plainAttrs_list PySem.F.slot_list_index PySem.F.type_list_index mt_lindex (pv 1) (pa_cons (pv 3) pa_nil)) pa_nil)))
      (pss_one (ps_expr (pe_bm PySem.F.plainAttrs_list PySem.F.slot_list_remove PySem.F.type_list_remove mt_remove (pv 1) (pa_cons (pv 3) pa_nil))))))
      (pss_one (ps_ret (pe_fn g_place_of_figures hr (pa_cons (pe_fn g_radices_of_orders hr (pa_cons (pe_callB call_len_seq rfl B.len_ L3.bt_len (pa_cons (pv 0) pa_nil)) pa_nil)) (pa_cons (pv 2) pa_nil)))))))), ?_⟩
  refine ⟨_, rfl, t, _, rfl, by rw [← vnats_ints]; exact hT, by rw [List.length_map, hrl]; omega, fun l ns' fl hp hs => ?_⟩
  have en := sorted_range (takeL_perm (l := List.range n) (by rw [List.length_range]; exact hb)) hp hs
  subst en
  rw [← vnats_ints]
  have y1 := same_new fl (.lst (vnats (List.range n)))
  have w1 : (upd H l (.lst (vnats (List.range n)))) l = some (.lst (vnats (List.range n))) := upd_same
  generalize upd H l (.lst (vnats (List.range n))) = H1 at y1 w1 ⊢
  refine ⟨(by show 0 ≤ sizeLine; decide), fun rw fr => ?_⟩
  have y2 := same_new fr (.lst ([] : List V))
  have w2 : (upd H1 rw (.lst ([] : List V))) rw = some (.lst (vnats (fs.take 0))) := upd_same
  have nlr : l ≠ rw := ne_of_none w1 fr
  have nr : H rw = none := by
    cases e : H rw with
    | none => rfl
    | some o => have := y1 _ _ e; rw [fr] at this; cases this
  generalize upd H1 rw (.lst ([] : List V)) = H2 at y2 w2 ⊢
  have s2 := y1.trans y2
  refine ⟨_, rfl, t, rfl, ⟨_, SqT.of (s2 _ _ hT)⟩, for_tup (xs := vnats (takeL (List.range n) fs)) (fun i σ' H' => ∃ o3 : Option V, σ' = [some (.ref t), some (.ref l), some (.ref rw), o3] ∧ Same H H' ∧ H' l = some (.lst (vnats (leftL (List.range n) (fs.take i)))) ∧ H' rw = some (.lst (vnats (fs.take i))))
    ⟨_, rfl, s2, y2 _ _ w1, w2⟩ (fun i σ' H' _ ⟨_, _, e, _⟩ => SqT.of (e _ _ hT)) ?_ ?_⟩
  · rintro i x σ1 H5 hx ⟨o3, rfl, s5, hL, hR⟩
    have hi : i < n := by
      have := (List.getElem?_eq_some_iff.mp hx).1
      rwa [vnats_len, hrl] at this
    have hf := hb.at (i := i) (by omega)
    rw [radsO_at hi] at hf
    have hll := leftL_len hb i (by omega)
    have ex : (takeL (List.range n) fs).getD i 0 = (leftL (List.range n) (fs.take i)).getD (fs.getD i 0) 0 := by
      have h1 := takeL_take (List.range n) fs (i + 1)
      rw [take_step (by omega), takeL_snoc, takeL_take, take_step (by omega)] at h1
      have := List.append_cancel_left h1
      injection this with this
      exact this.symm
    rw [vnats_at (by omega), ex] at hx
    cases hx
    have nd : (leftL (List.range n) (fs.take i)).Nodup := leftL_nodup List.nodup_range
    have only : ∀ (k : Nat) (z : V), k < fs.getD i 0 → (vnats (leftL (List.range n) (fs.take i)))[k]? = some z → eqV z (.int ((leftL (List.range n) (fs.take i)).getD (fs.getD i 0) 0 : Nat)) = false := fun k z hk hz => by
      rw [vnats_at (by omega)] at hz
      cases hz
      have hne : (leftL (List.range n) (fs.take i)).getD k 0 ≠ (leftL (List.range n) (fs.take i)).getD (fs.getD i 0) 0 := fun e => by
        rw [List.getD_eq_getElem?_getD, List.getD_eq_getElem?_getD, List.getElem?_eq_getElem (by omega), List.getElem?_eq_getElem (by omega)] at e
        have := (List.getElem_inj nd).mp e
        omega
      show ((((leftL (List.range n) (fs.take i)).getD k 0 : Nat) : Int) == (((leftL (List.range n) (fs.take i)).getD (fs.getD i 0) 0 : Nat) : Int)) = false
      rw [beq_eq_false_iff_ne]
      omega
    have self : eqV (.int ((leftL (List.range n) (fs.take i)).getD (fs.getD i 0) 0 : Nat)) (.int ((leftL (List.range n) (fs.take i)).getD (fs.getD i 0) 0 : Nat)) = true := by
      show ((((leftL (List.range n) (fs.take i)).getD (fs.getD i 0) 0 : Nat) : Int) == _) = true
      simp
    refine ⟨_, rfl, .inl ⟨rfl, _, SqL.of hR⟩, ?_⟩
    refine ⟨_, rfl, .inl ⟨rfl, _, SqL.of hL⟩, _, rfl, l, _, _, fs.getD i 0, _, rfl, rfl, hL, rfl, flat_nats' _, vnats_at (by omega), self, only, ?_⟩
    refine ⟨rw, _, _, rfl, rfl, hR, smallL (by rw [vnats_len, List.length_take]; omega), ?_⟩
    have hL6 : (upd H5 rw (.lst (vnats (fs.take i) ++ [V.int ((fs.getD i 0 : Nat) : Int)]))) l = some (.lst (vnats (leftL (List.range n) (fs.take i)))) := by rw [upd_ne nlr]; exact hL
    refine ⟨_, rfl, .inl ⟨rfl, _, SqL.of hL6⟩, _, rfl, l, _, _, fs.getD i 0, _, rfl, rfl, hL6, rfl, flat_nats' _, vnats_at (by omega), self, only, ?_⟩
    refine ⟨_, rfl, fun b o e => ?_, ?_, ?_⟩
    · have n1 : b ≠ rw := ne_of_none e nr
      have n2 : b ≠ l := ne_of_none e fl
      rw [upd_ne n2, upd_ne n1]
      exact s5 b o e
    · rw [upd_same, vnats_erase, take_step (by omega), leftL_snoc]
    · rw [upd_ne nlr.symm, upd_same, take_step (by omega), vnats_app]
      rfl
  · rintro σ1 H5 ⟨o3, rfl, s5, hL, hR⟩
    rw [vnats_len, hrl, ← hfl, List.take_length] at hR
    refine ⟨_, rfl, t, _, rfl, .inr (SqT.of (s5 _ _ hT)), n, by rw [vnats_len, hrl]; rfl, by omega, fun pr H6 s6 h6 => ?_⟩
    refine ⟨_, rfl, pr, rw, radsO n, fs, rfl, rad_of (by omega) h6, s6 _ _ hR, by rw [radsO_len, hfl], fun H7 s7 => ?_⟩
    exact q H7 (s5.trans (s6.trans s7))
noncomputable def spOrd (C CN : Addr) : Sp := fun vs H Q E => ∃ (b dx r : Addr) (bl : List Nat) (z n : Nat), vs = [.ref b, .int (n : Int)] ∧ At C H b dx r bl z ∧ n ≤ 1000 ∧
  (∀ v u t H', evF (prodL (radsO n)) (bl.drop z) = some (v, u) → Grow b H H' → At C H' b dx r bl (z + u) → H' t = some (.tup (vnats (takeL (List.range n) (figs (radsO n) v)))) → Q (.ref t) H') ∧
  (∀ H', evF (prodL (radsO n)) (bl.drop z) = none → Grow b H H' → At C H' b dx r bl z → E (.ref CN) none H')
theorem ok_order (F_order : Fun K "order" "order" s_order f fd) (B : Bl mg) {fO fE : Addr} {dO dE : FuncData} (g_order_at : FnX P w K mg base "order_at" fO dO p_order_at 3 spOrdAt) (g_even : FnX P w K mg base "even" fE dE p_even 6 (spDone C CN ShN evV)) (g_count_figures : Fn P w K mg base "count_figures" p_count_figures 1 spCount) (g_radices_of_orders : Fn P w K mg base "radices_of_orders" p_radices_of_orders 1 spRads) :
    FnOk P w K mg base (CXR P w) 7 f fd p_order (spOrd C CN) := by
  refine F_order.okX sc_order (fun vs H Q E h => ?_) (fun cdv A outer s H vs Q E hr h => ?_)
  · obtain ⟨b, dx, r, bl, z, n, rfl, _⟩ := h
    rfl
  obtain ⟨b, dx, r, bl, z, n, rfl, hA, hn, q, e⟩ := h
  refine ⟨_, (pss_one (ps_ret (pe_fnX g_order_at hr (pa_cons (pv 1) (pa_cons (pe_fnX g_even hr (pa_cons (pv 0) (pa_cons (pe_fn g_count_figures hr (pa_cons (pe_fn g_radices_of_orders hr (pa_cons (pv 1) pa_nil)) pa_nil)) pa_nil))) pa_nil))))), ?_⟩
  refine ⟨_, rfl, _, rfl, _, rfl, n, rfl, hn, fun pr H1 s1 h1 => ⟨pr, radsO n, rfl, rad_of hn h1, ?_⟩⟩
  have hp : 0 < prodL (radsO n) := prod_pos fun x hx => (radsO_pos x hx).1
  refine ⟨b, dx, r, bl, z, _, prodL (radsO n), rfl, hA.same s1, ⟨rfl, hp⟩, fun v u H2 hv g2 a2 => ?_, fun H2 hv g2 a2 => ?_⟩
  · unfold evV at hv
    cases ev : evF (prodL (radsO n)) (bl.drop z) with
    | none => rw [ev] at hv; cases hv
    | some pr =>
      obtain ⟨v', u'⟩ := pr
      rw [ev] at hv
      cases hv
      refine ⟨n, v', rfl, hn, evF_lt ev, fun t H3 s3 h3 => ?_⟩
      exact q v' u' t H3 ev ((Grow.same s1).trans (g2.trans (.same s3))) (a2.same s3) h3
  · refine e H2 ?_ ((Grow.same s1).trans g2) a2
    unfold evV at hv
    cases ev : evF (prodL (radsO n)) (bl.drop z) with
    | none => rfl
    | some pr => rw [ev] at hv; cases hv
end
theorem fm_all {g : Nat → Option V} : ∀ {m : Nat}, (∀ k, k < m → (g k).isSome = true) → ((List.range m).filterMap g).length = m ∧ ∀ j, j < m → ((List.range m).filterMap g)[j]? = g j
  | 0, _ => ⟨rfl, fun j h => absurd h (Nat.not_lt_zero j)⟩
  | m + 1, h => by
    obtain ⟨h1, h2⟩ := fm_all (m := m) fun k hk => h k (by omega)
    obtain ⟨x, hx⟩ := Option.isSome_iff_exists.mp (h m (by omega))
    have e : (List.range (m + 1)).filterMap g = (List.range m).filterMap g ++ [x] := by
      rw [List.range_succ, List.filterMap_append, List.filterMap_cons, hx]
      rfl
    rw [e]
    refine ⟨by rw [List.length_append, h1]; rfl, fun j hj => ?_⟩
    by_cases c : j < m
    · rw [List.getElem?_append_left (by omega)]
      exact h2 j c
    · have : j = m := by omega
      subst this
      rw [List.getElem?_append_right (by omega), h1, Nat.sub_self, hx]
      rfl
theorem cat34 {K : PySem.W.Frag} {H : Hp} {a b : Addr} {xs ys : List V} {Q : VK} (ha : H a = some (.tup xs)) (hb : H b = some (.tup ys)) (hz : xs.length + ys.length ≤ 300000) (q : ∀ p H', Same H H' → H' p = some (.tup (xs ++ ys)) → Q (.ref p) H') : rCat0 K (.ref a) (.ref b) H Q := by
  refine ⟨a, b, xs, ys, rfl, rfl, SqT.of ha, SqT.of hb, small (by omega), fun e => ?_, fun _ e => ?_, fun _ _ p fp => q p _ (same_new fp _) upd_same⟩
  · subst e
    exact q b H (Same.refl _) hb
  · subst e
    refine q a H (Same.refl _) ?_
    rw [List.append_nil]
    exact ha
noncomputable def resP : Option (Nat × Nat) → V
  | none => .non
  | some p => .int (p.1 : Int)
noncomputable def spLO : Sp := fun vs H Q _ => ∃ (r : Addr) (bl : List Nat) (n : Nat), vs = [.ref r, .int (n : Int)] ∧ H r = some (.tup (vbits bl)) ∧ n ≤ 60 ∧ ∀ H', Same H H' → Q (resP (evF (prodL (radsO n)) bl)) H'
noncomputable def FigV (H : Hp) (v : V) (o : Option (List Nat)) : Prop := match o with
  | none => v = .non
  | some fs => ∃ t, v = .ref t ∧ H t = some (.tup (vnats fs))
theorem FigV.same {H H' : Hp} {v : V} {o : Option (List Nat)} (h : FigV H v o) (s : Same H H') : FigV H' v o := by
  cases o with
  | none => exact h
  | some fs => obtain ⟨t, e, h⟩ := h; exact ⟨t, e, s _ _ h⟩
noncomputable def spTold42 : Sp := fun vs H Q _ => ∃ (r q : Addr) (bl rs : List Nat), vs = [.ref r, .ref q] ∧ H r = some (.tup (vbits bl)) ∧ Rad H q rs ∧ rs.length ≤ 100 ∧
  ∀ p a b H', Same H H' → H' p = some (.tup [a, b]) → FigV H' a ((evF (prodL rs) bl).map fun x => figs rs x.1) → FigV H' b ((sqF rs bl).map (·.1)) → Q (.ref p) H'
theorem sqF_take {rs bs fs : List Nat} {u : Nat} {r : Nat} (h : sqF rs bs = some (fs, u)) : sqF (rs ++ [r]) bs = (evF r (bs.drop u)).map fun p => (fs ++ [p.1], u + p.2) := by
  induction rs generalizing bs fs u with
  | nil =>
    cases h
    show sqF [r] bs = _
    unfold sqF
    rw [List.drop_zero]
    cases evF r bs with
    | none => rfl
    | some p =>
      show ((sqF [] (bs.drop p.2)).map _) = some ([] ++ [p.1], 0 + p.2)
      rw [sqF, Nat.zero_add]
      rfl
  | cons a rs ih =>
    rw [List.cons_append]
    unfold sqF at h ⊢
    cases e : evF a bs with
    | none => rw [e] at h; cases h
    | some p =>
      obtain ⟨v, w⟩ := p
      rw [e] at h
      have h' : ((sqF rs (bs.drop w)).map fun p => (v :: p.1, w + p.2)) = some (fs, u) := h
      cases e2 : sqF rs (bs.drop w) with
      | none => rw [e2] at h'; cases h'
      | some q =>
        obtain ⟨gs, w2⟩ := q
        rw [e2] at h'
        cases h'
        show ((sqF (rs ++ [r]) (bs.drop w)).map fun p => (v :: p.1, w + p.2)) = _
        rw [ih e2, List.drop_drop, Option.map_map]
        cases evF r (bs.drop (w + w2)) with
        | none => rfl
        | some p =>
          show some (v :: (gs ++ [p.1]), w + (w2 + p.2)) = some (v :: gs ++ [p.1], w + w2 + p.2)
          rw [Nat.add_assoc]
          rfl
theorem sqF_none : ∀ {rs more bs : List Nat}, sqF rs bs = none → sqF (rs ++ more) bs = none
  | [], _, _, h => by cases h
  | a :: rs, more, bs, h => by
    rw [List.cons_append]
    unfold sqF at h ⊢
    cases e : evF a bs with
    | none => rfl
    | some p =>
      obtain ⟨v, w⟩ := p
      rw [e] at h
      have h' : ((sqF rs (bs.drop w)).map fun p => (v :: p.1, w + p.2)) = none := h
      have h2 : sqF rs (bs.drop w) = none := Option.map_eq_none_iff.mp h'
      show ((sqF (rs ++ more) (bs.drop w)).map fun p => (v :: p.1, w + p.2)) = none
      rw [sqF_none h2]
      rfl
section
variable {P : Program} {w : World} {K : PySem.W.Frag} {mg : Str → Option Value} {base : Heap} {f C fI fT fU fL fG CN CP : Addr} {fd dI dT dU dL dG : FuncData} {mN : List Value}
theorem ok__law_order (F__law_order : Fun K "_law_order" "_law_order" s__law_order f fd) (B : Bl mg) (T : Txt K mg C fI fT fU fL fG dI dT dU dL dG) (X_NoBits : Exc K mg "NoBits" CN mN) (hNN : mN.contains (.ref CN) = true) (g_init : FnOk P w K mg base CX0 1 fI dI p_Bits___init__ (spInit C)) {fO : Addr} {dO : FuncData} (g_order : FnX P w K mg base "order" fO dO p_order 7 (spOrd C CN)) (g_place_of_order : Fn P w K mg base "place_of_order" p_place_of_order 2 spPlO) :
    FnOk P w K mg base CX0 8 f fd p__law_order spLO := by
  refine F__law_order.ok sc__law_order (fun vs H Q E h => ?_) (fun cdv A outer s H vs Q E hr h => ?_)
  · obtain ⟨r, bl, n, rfl, _⟩ := h
    rfl
  obtain ⟨r, bl, n, rfl, hR, hn, q⟩ := h
  refine ⟨_, (pss_cons (ps_set (i := 2) sc__law_order.nd rfl (Or.inl rfl) pe_non)
      (pss_cons (ps_tryT (fun ps Kx Ex hp => (pss_one (ps_set (i := 2) sc__law_order.nd rfl (Or.inl rfl) (pe_fn g_place_of_order hr (pa_cons (pe_fnT hp g_order hr (pa_cons (pe_make T.made g_init (hr.mono (by first | decide | omega)) rfl T.mgC T.b_init .nil pass0 (pa_cons (pv 0) pa_nil)) (pa_cons (pv 1) pa_nil))) pa_nil))))) (Hs.cons X_NoBits rfl (by decide) (fun y ps ok hd => (pss_one (ps_set (i := 2) sc__law_order.nd rfl (Or.inl rfl) pe_non))) .nil) rfl rfl (fun _ => PassesOwnAt.never))
      (pss_one (ps_ret (pv 2))))), ?_⟩
  intro ps Kx
  refine ⟨_, rfl, fun b dx nb ndx nex => ?_⟩
  have s7 : Same H (upd (upd H dx (.own b)) b (.ins C dx [])) := fun c o y => by
    rw [upd_ne (ne_of_none y nb), upd_ne (ne_of_none y ndx)]
    exact y
  refine ⟨b, dx, r, vbits bl, rfl, upd_same, s7 _ _ hR, fun H7 e7 kp => ⟨rfl, _, rfl, ?_⟩⟩
  have s8 : Same H H7 := fun c o y => kp c o (s7 c o y) (ne_of_none y nb)
  have a7 : At C H7 b dx r bl 0 := ⟨e7, s8 _ _ hR, Nat.zero_le _⟩
  have gs : ∀ {H'' : Hp}, Grow b H7 H'' → Same H H'' := fun {H''} g c o e => g c o (ne_of_none e nb) (s8 c o e)
  refine ⟨b, dx, r, bl, 0, n, rfl, a7, by omega, fun v u t H8 hv g8 a8 h8 => ?_, fun H8 hv g8 a8 => ?_⟩
  · rw [List.drop_zero] at hv
    refine ⟨t, n, figs (radsO n) v, rfl, h8, below_figs v fun x hx => (radsO_pos x hx).1, hn, fun H9 s9 => ⟨_, rfl, ?_⟩⟩
    have := q H9 ((gs g8).trans s9)
    rw [hv] at this
    rw [poF_figs, Nat.zero_mul, Nat.zero_add, Nat.mod_eq_of_lt (evF_lt hv)]
    exact this
  · rw [List.drop_zero] at hv
    refine ⟨"NoBits", CN, mN, _, rfl, X_NoBits, if_pos hNN, ?_⟩
    have := q H8 (gs g8)
    rw [hv] at this
    exact ⟨_, rfl, this⟩
theorem ok__law_told (F__law_told : Fun K "_law_told" "_law_told" s__law_told f fd) (B : Bl mg) (T : Txt K mg C fI fT fU fL fG dI dT dU dL dG) (X_NoBits : Exc K mg "NoBits" CN mN) (hNN : mN.contains (.ref CN) = true) (g_init : FnOk P w K mg base CX0 1 fI dI p_Bits___init__ (spInit C)) {fE fF : Addr} {dE dF : FuncData} (g_even : FnX P w K mg base "even" fE dE p_even 6 (spDone C CN ShN evV)) (g_figures_at : FnX P w K mg base "figures_at" fF dF p_figures_at 2 (spFigs CP)) :
    FnOk P w K mg base CX0 7 f fd p__law_told spTold42 := by
  refine F__law_told.ok sc__law_told (fun vs H Q E h => ?_) (fun cdv A outer s H vs Q E hr h => ?_)
  · obtain ⟨r, q, bl, rs, rfl, _⟩ := h
    rfl
  obtain ⟨r, rq, bl, rs, rfl, hR, hQ, hl, q⟩ := h
  refine ⟨_, (pss_cons (ps_par3 (i := 2) (j := 3) (k := 4) rfl sc__law_told.nd rfl rfl rfl (by decide) (by decide) (by decide) rfl rfl rfl (pa_cons (pe_make T.made g_init (hr.mono (by first | decide | omega)) rfl T.mgC T.b_init .nil pass0 (pa_cons (pv 0) pa_nil)) (pa_cons pe_non (pa_cons pe_non pa_nil))) rfl)
      (pss_cons (ps_set (i := 5) sc__law_told.nd rfl (Or.inl rfl) pe_int)
      (pss_cons (ps_for PassesOwn.never rfl (pi_tup (pv 1)) (pg_name (i := 6) sc__law_told.nd rfl (Or.inl rfl)) (pss_one (ps_set (i := 5) sc__law_told.nd rfl (Or.inl rfl) (pe_op op_mul (pv 5) (pv 6)))))
      (pss_cons (ps_join (ps_tryT (fun ps Kx Ex hp => (pss_one (ps_set (i := 3) sc__law_told.nd rfl (Or.inl rfl) (pe_fnT hp g_figures_at hr (pa_cons (pv 1) (pa_cons (pe_fnT hp g_even hr (pa_cons (pv 2) (pa_cons (pv 5) pa_nil))) pa_nil)))))) (Hs.cons X_NoBits rfl (by decide) (fun y ps ok hd => (pss_one (ps_set (i := 3) sc__law_told.nd rfl (Or.inl rfl) pe_non))) .nil) rfl rfl (fun _ => PassesOwnAt.never)))
      (pss_cons (ps_set (i := 2) sc__law_told.nd rfl (Or.inl rfl) (pe_make T.made g_init (hr.mono (by first | decide | omega)) rfl T.mgC T.b_init .nil pass0 (pa_cons (pv 0) pa_nil)))
      (pss_cons (ps_join (ps_tryT (fun ps Kx Ex hp => (pss_cons (ps_set (i := 7) sc__law_told.nd rfl (Or.inl rfl) (pe_tup pa_nil))
      (pss_cons (ps_for (PassesOwn.looking (M := model P w)) rfl (pi_tup (pv 1)) (pg_name (i := 6) sc__law_told.nd rfl (Or.inl rfl)) (pss_one (ps_set (i := 7) sc__law_told.nd rfl (Or.inl rfl) (pe_op op_cat0 (pv 7) (pe_tup (pa_cons (pe_fnT hp g_even hr (pa_cons (pv 2) (pa_cons (pv 6) pa_nil))) pa_nil))))))
      (pss_one (ps_set (i := 4) sc__law_told.nd rfl (Or.inl rfl) (pv 7)))))) (Hs.cons X_NoBits rfl (by decide) (fun y ps ok hd => (pss_one (ps_set (i := 4) sc__law_told.nd rfl (Or.inl rfl) pe_non))) .nil) rfl rfl (fun _ => PassesOwnAt.never)))
      (pss_one (ps_ret (pe_tup (pa_cons (pv 3) (pa_cons (pv 4) pa_nil))))))))))), ?_⟩
  refine ⟨_, rfl, fun b dx nb ndx nex => ?_⟩
  have s7 : Same H (upd (upd H dx (.own b)) b (.ins C dx [])) := fun c o y => by
    rw [upd_ne (ne_of_none y nb), upd_ne (ne_of_none y ndx)]
    exact y
  refine ⟨b, dx, r, vbits bl, rfl, upd_same, s7 _ _ hR, fun H1 e1 kp => ⟨rfl, _, _, _, rfl, ?_⟩⟩
  have s1 : Same H H1 := fun c o y => kp c o (s7 c o y) (ne_of_none y nb)
  have a1 : At C H1 b dx r bl 0 := ⟨e1, s1 _ _ hR, Nat.zero_le _⟩
  have gs : ∀ {H'' : Hp}, Grow b H1 H'' → Same H H'' := fun {H''} g c o e => g c o (ne_of_none e nb) (s1 c o e)
  -- the product
  refine ⟨_, rfl, rq, rfl, ⟨_, SqT.of (s1 _ _ hQ.at_)⟩, for_tup (xs := vnats rs) (fun i σ' H' => ∃ o6 : Option V, σ' = [some (.ref r), some (.ref rq), some (.ref b), some .non, some .non, some (.int (prodL (rs.take i) : Int)), o6, none] ∧ H' = H1)
    ⟨_, rfl, rfl⟩ (fun i σ' H' _ ⟨_, _, e⟩ => by rw [e]; exact SqT.of (s1 _ _ hQ.at_)) ?_ ?_⟩
  · rintro i x σ1 H2 hx ⟨o6, rfl, rfl⟩
    have hi : i < rs.length := by
      have := (List.getElem?_eq_some_iff.mp hx).1
      rwa [vnats_len] at this
    rw [vnats_at hi] at hx
    cases hx
    obtain ⟨hg, hg2⟩ := hQ.get hi
    refine ⟨_, rfl, _, rfl, _, _, rfl, rfl, .inr ⟨by omega, by omega⟩, some (.int (rs.getD i 0 : Int)), ?_, rfl⟩
    rw [prod_take hi]
    rfl
  rintro σ1 H2 ⟨o6, rfl, rfl⟩
  rw [vnats_len, List.take_length]
  have hp := prod_pos hQ.pos
  -- the first try
  refine ⟨fun σ' H' => ∃ (a : V) (o6 : Option V), σ' = [some (.ref r), some (.ref rq), some (.ref b), some a, some .non, some (.int (prodL rs : Int)), o6, none] ∧ Same H H' ∧ FigV H' a ((evF (prodL rs) bl).map fun x => figs rs x.1), ?_, ?_⟩
  rotate_left
  · intro ps Kx
    refine ⟨_, rfl, _, rfl, _, rfl, b, dx, r, bl, 0, _, prodL rs, rfl, a1, ⟨rfl, hp⟩, fun v u H3 hv g3 a3 => ?_, fun H3 hv g3 a3 => ?_⟩
    · rw [List.drop_zero] at hv
      unfold evV at hv
      cases ev : evF (prodL rs) bl with
      | none => rw [ev] at hv; cases hv
      | some pr =>
        obtain ⟨v', u'⟩ := pr
        rw [ev] at hv
        cases hv
        have s3 := gs g3
        refine ⟨rq, rs, _, rfl, hQ.same s3, fun n t H4 en hn s4 h4 => ?_, fun hout => absurd ⟨by omega, by have := evF_lt ev; omega⟩ hout⟩
        have : n = v' := by omega
        subst this
        refine ⟨.ref t, _, rfl, s3.trans s4, ?_⟩
        exact ⟨t, rfl, h4⟩
    · rw [List.drop_zero] at hv
      refine ⟨"NoBits", CN, mN, _, rfl, X_NoBits, if_pos hNN, ?_⟩
      have ev : evF (prodL rs) bl = none := by
        unfold evV at hv
        exact Option.map_eq_none_iff.mp hv
      refine ⟨.non, _, rfl, gs g3, ?_⟩
      rw [ev]
      exact rfl
  rintro σ2 H3 ⟨a, o6', rfl, s3, hA⟩
  clear gs a1 s1 e1 kp s7 nb ndx nex
  -- the bits anew
  refine ⟨_, rfl, fun b2 dx2 nb ndx nex => ?_⟩
  have s7 : Same H3 (upd (upd H3 dx2 (.own b2)) b2 (.ins C dx2 [])) := fun c o y => by
    rw [upd_ne (ne_of_none y nb), upd_ne (ne_of_none y ndx)]
    exact y
  refine ⟨b2, dx2, r, vbits bl, rfl, upd_same, s7 _ _ (s3 _ _ hR), fun H4 e4 kp => ⟨rfl, ?_⟩⟩
  have s4 : Same H3 H4 := fun c o y => kp c o (s7 c o y) (ne_of_none y nb)
  have a4 : At C H4 b2 dx2 r bl 0 := ⟨e4, s4 _ _ (s3 _ _ hR), Nat.zero_le _⟩
  have gs : ∀ {H'' : Hp}, Grow b2 H4 H'' → Same H3 H'' := fun {H''} g c o e => g c o (ne_of_none e nb) (s4 c o e)
  refine ⟨fun σ' H' => ∃ (b' : V) (o6 o7 : Option V), σ' = [some (.ref r), some (.ref rq), some (.ref b2), some a, some b', some (.int (prodL rs : Int)), o6, o7] ∧ Same H3 H' ∧ FigV H' b' ((sqF rs bl).map (·.1)), ?_, ?_⟩
  · rintro σ3 H5 ⟨b', p6, p7, rfl, s5, hB⟩
    refine ⟨_, rfl, _, rfl, (by show 2 ≤ sizeLine; decide), fun t ft => ?_⟩
    have y := same_new ft (.tup [a, b'])
    exact q t a b' _ (s3.trans (s5.trans y)) upd_same ((hA.same s5).same y) (hB.same y)
  intro ps Kx
  refine ⟨(by show 0 ≤ sizeLine; decide), fun t0 ft0 => ?_⟩
  have y0 := same_new ft0 (.tup ([] : List V))
  have w0 : (upd H4 t0 (.tup ([] : List V))) t0 = some (.tup (vnats [])) := upd_same
  generalize upd H4 t0 (.tup ([] : List V)) = H5 at y0 w0 ⊢
  have g5 : Grow b2 H4 H5 := .same y0
  refine ⟨_, rfl, rq, rfl, ⟨_, SqT.of ((gs g5) _ _ (s3 _ _ hQ.at_))⟩, for_tup (xs := vnats rs) (fun i σ' H' => ∃ (z : Nat) (fs : List Nat) (t : Addr) (o6 : Option V), σ' = [some (.ref r), some (.ref rq), some (.ref b2), some a, some .non, some (.int (prodL rs : Int)), o6, some (.ref t)] ∧ Grow b2 H4 H' ∧ At C H' b2 dx2 r bl z ∧ H' t = some (.tup (vnats fs)) ∧ sqF (rs.take i) bl = some (fs, z) ∧ fs.length = i)
    ⟨0, [], t0, _, rfl, g5, a4.same y0, w0, by rw [List.take_zero]; rfl, rfl⟩ (fun i σ' H' _ ⟨_, _, _, _, _, g, _⟩ => SqT.of ((gs g) _ _ (s3 _ _ hQ.at_))) ?_ ?_⟩
  · rintro i x σ1 H6 hx ⟨z, fs, t, o6, rfl, g6, a6, h6, hsq, hfl⟩
    have hi : i < rs.length := by
      have := (List.getElem?_eq_some_iff.mp hx).1
      rwa [vnats_len] at this
    rw [vnats_at hi] at hx
    cases hx
    obtain ⟨hg, hg2⟩ := hQ.get hi
    have nxt := sqF_take (r := rs.getD i 0) hsq
    rw [← take_step hi] at nxt
    refine ⟨_, rfl, _, rfl, _, rfl, b2, dx2, r, bl, z, _, rs.getD i 0, rfl, a6, ⟨rfl, hg⟩, fun v u H7 hv g7 a7 => ?_, fun H7 hv g7 a7 => ?_⟩
    · unfold evV at hv
      cases ev : evF (rs.getD i 0) (bl.drop z) with
      | none => rw [ev] at hv; cases hv
      | some pr =>
        obtain ⟨v', u'⟩ := pr
        rw [ev] at hv nxt
        cases hv
        refine ⟨(by show 1 ≤ sizeLine; decide), fun t1 ft1 => ?_⟩
        have y1 := same_new ft1 (.tup [V.int (v' : Int)])
        have w1 : (upd H7 t1 (.tup [V.int (v' : Int)])) t1 = some (.tup (vnats [v'])) := upd_same
        generalize upd H7 t1 (.tup [V.int (v' : Int)]) = H8 at y1 w1 ⊢
        have tb : t ≠ b2 := fun z => by rw [z, a6.obj] at h6; cases h6
        refine cat34 (y1 _ _ (g7 _ _ tb h6)) w1 (by rw [vnats_len, hfl]; show _ + 1 ≤ _; omega) fun t2 H9 s9 h9 => ?_
        rw [← vnats_app] at h9
        exact ⟨z + u', fs ++ [v'], t2, _, rfl, g6.trans (g7.trans ((Grow.same y1).trans (.same s9))), (a7.same y1).same s9, h9, nxt, by rw [List.length_append, hfl]; rfl⟩
    · refine ⟨"NoBits", CN, mN, _, rfl, X_NoBits, if_pos hNN, ?_⟩
      have ev : evF (rs.getD i 0) (bl.drop z) = none := by
        unfold evV at hv
        exact Option.map_eq_none_iff.mp hv
      rw [ev] at nxt
      have e2 := sqF_none (more := rs.drop (i + 1)) nxt
      rw [List.take_append_drop] at e2
      refine ⟨.non, _, _, rfl, gs (g6.trans g7), ?_⟩
      rw [e2]
      exact rfl
  · rintro σ1 H6 ⟨z, fs, t, o6, rfl, g6, a6, h6, hsq, hfl⟩
    rw [vnats_len, List.take_length] at hsq
    refine ⟨_, rfl, .ref t, _, _, rfl, gs g6, ?_⟩
    rw [hsq]
    exact ⟨t, rfl, h6⟩
end
noncomputable def frU (u l : Nat) : Nat := u / Nat.gcd u l
noncomputable def frL (u l : Nat) : Nat := l / Nat.gcd u l
noncomputable def frV (u l : Nat) : List V := [.int (frU u l : Int), .int (frL u l : Int)]
theorem gcd_pos {u l : Nat} (h : 0 < l) : 0 < Nat.gcd u l := Nat.gcd_pos_of_pos_right _ h
theorem gcd_le {u l : Nat} (h : 0 < l) : Nat.gcd u l ≤ l := Nat.le_of_dvd h (Nat.gcd_dvd_right _ _)
theorem frL_pos {u l : Nat} (h : 0 < l) : 0 < frL u l := Nat.div_pos (gcd_le h) (gcd_pos h)
theorem fr_cop {u l : Nat} (h : 0 < l) : Nat.Coprime (frU u l) (frL u l) := Nat.coprime_div_gcd_div_gcd (gcd_pos h)
theorem frU_mul (u l : Nat) : frU u l * Nat.gcd u l = u := Nat.div_mul_cancel (Nat.gcd_dvd_left _ _)
theorem frL_mul (u l : Nat) : frL u l * Nat.gcd u l = l := Nat.div_mul_cancel (Nat.gcd_dvd_right _ _)
theorem frU_le (u l : Nat) : frU u l ≤ u := Nat.div_le_self _ _
theorem frL_le (u l : Nat) : frL u l ≤ l := Nat.div_le_self _ _
theorem fr_uniq {a b c d : Nat} (h1 : Nat.Coprime a b) (h2 : Nat.Coprime c d) (hb : 0 < b) (e : a * d = c * b) : a = c ∧ b = d := by
  have d1 : b ∣ d := h1.symm.dvd_of_dvd_mul_left (by rw [e]; exact Nat.dvd_mul_left _ _)
  have d2 : d ∣ b := h2.symm.dvd_of_dvd_mul_left (by rw [← e]; exact Nat.dvd_mul_left _ _)
  have ed := Nat.dvd_antisymm d1 d2
  subst ed
  exact ⟨Nat.eq_of_mul_eq_mul_right hb e, rfl⟩
theorem fr_eq {a b c d : Nat} (hb : 0 < b) (hd : 0 < d) (e : a * d = c * b) : frU a b = frU c d ∧ frL a b = frL c d := by
  refine fr_uniq (fr_cop hb) (fr_cop hd) (frL_pos hb) ?_
  have g1 := gcd_pos (u := a) hb
  have g2 := gcd_pos (u := c) hd
  refine Nat.eq_of_mul_eq_mul_right (Nat.mul_pos g1 g2) ?_
  calc frU a b * frL c d * (Nat.gcd a b * Nat.gcd c d) = (frU a b * Nat.gcd a b) * (frL c d * Nat.gcd c d) := by
        rw [Nat.mul_assoc, Nat.mul_assoc, Nat.mul_left_comm (frL c d)]
    _ = a * d := by rw [frU_mul, frL_mul]
    _ = c * b := e
    _ = (frU c d * Nat.gcd c d) * (frL a b * Nat.gcd a b) := by rw [frU_mul, frL_mul]
    _ = frU c d * frL a b * (Nat.gcd a b * Nat.gcd c d) := by
        rw [Nat.mul_assoc, Nat.mul_assoc, Nat.mul_left_comm (Nat.gcd c d), Nat.mul_comm (Nat.gcd c d)]
theorem frV_eq {a b c d : Nat} (hb : 0 < b) (hd : 0 < d) (e : a * d = c * b) : frV a b = frV c d := by
  obtain ⟨h1, h2⟩ := fr_eq hb hd e
  unfold frV
  rw [h1, h2]
theorem fit_gcd {u l : Nat} (h : 0 < l) (f : Fit l) : Fit ((Nat.gcd u l : Nat) : Int).natAbs := by
  rw [Int.natAbs_natCast]
  exact f.le (gcd_le h)
noncomputable def spCD : Sp := fun vs H Q _ => ∃ u l : Nat, vs = [.int (u : Int), .int (l : Int)] ∧ Q (.int ((Nat.gcd u l : Nat) : Int)) H
noncomputable def spFrac : Sp := fun vs H Q _ => ∃ u l : Nat, vs = [.int (u : Int), .int (l : Int)] ∧ 0 < l ∧ Fit l ∧ ∀ p H', Same H H' → H' p = some (.tup (frV u l)) → Q (.ref p) H'
section
variable {P : Program} {w : World} {K : PySem.W.Frag} {mg : Str → Option Value} {base : Heap} {f : Addr} {fd : FuncData}
theorem ok_common_divisor (F_common_divisor : Fun K "common_divisor" "common_divisor" s_common_divisor f fd) (B : Bl mg) : FnOk P w K mg base CX0 1 f fd p_common_divisor spCD := by
  refine F_common_divisor.ok sc_common_divisor (fun vs H Q E h => ?_) (fun cdv A outer s H vs Q E hr h => ?_)
  · obtain ⟨u, l, rfl, _⟩ := h
    rfl
  obtain ⟨u, l, rfl, q⟩ := h
  refine ⟨_, (pss_cons (ps_set (i := 2) sc_common_divisor.nd rfl (Or.inl rfl) (pe_callB call_abs rfl B.abs_ L3.bt_abs (pa_cons (pv 0) pa_nil)))
      (pss_cons (ps_set (i := 3) sc_common_divisor.nd rfl (Or.inl rfl) (pe_callB call_abs rfl B.abs_ L3.bt_abs (pa_cons (pv 1) pa_nil)))
      (pss_cons (ps_while PassesOwn.never (pt_cmpR op_gt (pv 3) pe_int (nomark _)) (pss_cons (ps_set (i := 4) sc_common_divisor.nd rfl (Or.inl rfl) (pe_op op_mod (pv 2) (pv 3)))
      (pss_cons (ps_set (i := 2) sc_common_divisor.nd rfl (Or.inl rfl) (pv 3))
      (pss_one (ps_set (i := 3) sc_common_divisor.nd rfl (Or.inl rfl) (pv 4))))))
      (pss_one (ps_ret (pv 2)))))), ?_⟩
  refine ⟨_, rfl, _, rfl, ?_⟩
  rw [if_neg (by omega)]
  refine ⟨_, rfl, _, rfl, ?_⟩
  rw [if_neg (by omega)]
  refine ⟨fun m σ' H' => ∃ (g : Nat) (o4 : Option V), σ' = [some (.int (u : Int)), some (.int (l : Int)), some (.int (g : Int)), some (.int (m : Int)), o4] ∧ H' = H ∧ Nat.gcd g m = Nat.gcd u l, ⟨l, u, _, rfl, rfl, rfl⟩, ?_⟩
  rintro m σ' H' ⟨g, o4, rfl, rfl, hg⟩
  refine ⟨_, rfl, _, _, rfl, rfl, _, rfl, ite2 (fun c => ?_) (fun c => ?_)⟩
  · have c' : (0 : Int) < (m : Int) := of_decide_eq_true c
    refine ⟨fun σ' H'' => ∃ o4 : Option V, σ' = [some (.int (u : Int)), some (.int (l : Int)), some (.int (m : Int)), some (.int ((g % m : Nat) : Int)), o4] ∧ H'' = H', fun σ' H'' ⟨o, e1, e2⟩ => ⟨g % m, Nat.mod_lt _ (by omega), m, o, e1, e2, ?_⟩, ?_⟩
    · rw [← hg, Nat.gcd_comm m, ← Nat.gcd_rec, Nat.gcd_comm]
    refine ⟨_, rfl, _, rfl, _, _, rfl, rfl, c', ?_⟩
    refine ⟨_, rfl, _, rfl, some (.int ((g % m : Nat) : Int)), ?_, rfl⟩
    rw [Int.natCast_emod]
    rfl
  · have c' : ¬ (0 : Int) < (m : Int) := of_decide_eq_false (Bool.eq_false_iff.mpr c)
    have : m = 0 := by omega
    subst this
    refine ⟨_, rfl, ?_⟩
    rw [Nat.gcd_zero_right] at hg
    rw [← hg] at q
    exact q
theorem ok_fraction (F_fraction : Fun K "fraction" "fraction" s_fraction f fd) (g_common_divisor : Fn P w K mg base "common_divisor" p_common_divisor 1 spCD) : FnOk P w K mg base CX0 2 f fd p_fraction spFrac := by
  refine F_fraction.ok sc_fraction (fun vs H Q E h => ?_) (fun cdv A outer s H vs Q E hr h => ?_)
  · obtain ⟨u, l, rfl, _⟩ := h
    rfl
  obtain ⟨u, l, rfl, hl, hf, q⟩ := h
  refine ⟨_, (pss_cons (ps_if (pt_cmpR op_eq (pv 1) pe_int (nomark _)) (pss_one ps_never) pss_nil)
      (pss_cons (ps_set (i := 2) sc_fraction.nd rfl (Or.inl rfl) (pe_fn g_common_divisor hr (pa_cons (pv 0) (pa_cons (pv 1) pa_nil))))
      (pss_cons (ps_join (ps_if (pt_cmpR op_lt (pv 1) pe_int (nomark _)) (pss_one (ps_set (i := 2) sc_fraction.nd rfl (Or.inl rfl) (pe_un un_neg (pv 2)))) pss_nil))
      (pss_one (ps_ret (pe_tup (pa_cons (pe_op op_fdivB (pv 0) (pv 2)) (pa_cons (pe_op op_fdivB (pv 1) (pv 2)) pa_nil)))))))), ?_⟩
  have hg := gcd_pos (u := u) hl
  refine ⟨_, rfl, rfl, _, rfl, ?_⟩
  rw [show decide (V.int (l : Int) = V.int 0) = false from decide_eq_false (fun z => by injection z with z; omega)]
  refine iteF ⟨_, rfl, _, rfl, u, l, rfl, ?_⟩
  refine ⟨fun σ' H' => σ' = [some (.int (u : Int)), some (.int (l : Int)), some (.int ((Nat.gcd u l : Nat) : Int))] ∧ H' = H, ?_, ?_⟩
  · rintro σ' H' ⟨rfl, rfl⟩
    refine ⟨_, rfl, _, rfl, _, _, rfl, rfl, ⟨by omega, fit_gcd hl hf⟩, _, rfl, _, rfl, _, _, rfl, rfl, ⟨by omega, fit_gcd hl hf⟩, (by show 2 ≤ sizeLine; decide), fun p fp => ?_⟩
    refine q p _ (same_new fp _) ?_
    rw [upd_same]
    show some (HO.tup [V.int ((u : Int) / ((Nat.gcd u l : Nat) : Int)), V.int ((l : Int) / ((Nat.gcd u l : Nat) : Int))]) = _
    rw [← Int.natCast_ediv, ← Int.natCast_ediv]
    rfl
  · refine ⟨_, rfl, _, _, rfl, rfl, _, rfl, ?_⟩
    rw [decide_eq_false (by omega)]
    exact iteF ⟨rfl, rfl⟩
theorem ok__law_frac (F__law_frac : Fun K "_law_frac" "_law_frac" s__law_frac f fd) (B : Bl mg) : FnOk P w K mg base CX0 1 f fd p__law_frac spFrac := by
  refine F__law_frac.ok sc__law_frac (fun vs H Q E h => ?_) (fun cdv A outer s H vs Q E hr h => ?_)
  · obtain ⟨u, l, rfl, _⟩ := h
    rfl
  obtain ⟨u, l, rfl, hl, hf, q⟩ := h
  refine ⟨_, (pss_cons (ps_par (i := 2) (j := 3) rfl sc__law_frac.nd rfl rfl (by decide) rfl rfl (pa_cons (pv 0) (pa_cons (pv 1) pa_nil)) rfl)
      (pss_cons (ps_while PassesOwn.never (pt_cmpR op_ne (pv 3) pe_int (nomark _)) (pss_one (ps_par (i := 2) (j := 3) rfl sc__law_frac.nd rfl rfl (by decide) rfl rfl (pa_cons (pv 3) (pa_cons (pe_op op_mod (pv 2) (pv 3)) pa_nil)) rfl)))
      (pss_cons (ps_set (i := 2) sc__law_frac.nd rfl (Or.inl rfl) (pe_ifExp (pt_cmpR op_gt (pv 1) pe_int (nomark _)) (pe_callB call_abs rfl B.abs_ L3.bt_abs (pa_cons (pv 2) pa_nil)) (pe_un un_neg (pe_callB call_abs rfl B.abs_ L3.bt_abs (pa_cons (pv 2) pa_nil)))))
      (pss_one (ps_ret (pe_tup (pa_cons (pe_op op_fdivB (pv 0) (pv 2)) (pa_cons (pe_op op_fdivB (pv 1) (pv 2)) pa_nil)))))))), ?_⟩
  have hg := gcd_pos (u := u) hl
  refine ⟨_, rfl, _, rfl, _, _, rfl, ?_⟩
  refine ⟨fun m σ' H' => ∃ (g : Nat), σ' = [some (.int (u : Int)), some (.int (l : Int)), some (.int (g : Int)), some (.int (m : Int))] ∧ H' = H ∧ Nat.gcd g m = Nat.gcd u l, ⟨l, u, rfl, rfl, rfl⟩, ?_⟩
  rintro m σ' H' ⟨g, rfl, rfl, hgs⟩
  refine ⟨_, rfl, rfl, _, rfl, ?_⟩
  by_cases c : m = 0
  · subst c
    rw [show (!decide (V.int ((0 : Nat) : Int) = V.int 0)) = false from rfl]
    rw [Nat.gcd_zero_right] at hgs
    subst hgs
    refine iteF ⟨_, rfl, _, _, rfl, rfl, _, rfl, ?_⟩
    rw [decide_eq_true (by omega)]
    refine iteT ⟨_, rfl, _, rfl, ?_⟩
    rw [if_neg (by omega)]
    refine ⟨_, rfl, _, rfl, _, _, rfl, rfl, ⟨by omega, fit_gcd hl hf⟩, _, rfl, _, rfl, _, _, rfl, rfl, ⟨by omega, fit_gcd hl hf⟩, (by show 2 ≤ sizeLine; decide), fun p fp => ?_⟩
    refine q p _ (same_new fp _) ?_
    rw [upd_same]
    show some (HO.tup [V.int ((u : Int) / ((Nat.gcd u l : Nat) : Int)), V.int ((l : Int) / ((Nat.gcd u l : Nat) : Int))]) = _
    rw [← Int.natCast_ediv, ← Int.natCast_ediv]
    rfl
  · rw [show (!decide (V.int (m : Int) = V.int 0)) = true from by rw [decide_eq_false (fun z => by injection z with z; omega)]; rfl]
    refine iteT ⟨fun σ' H'' => σ' = [some (.int (u : Int)), some (.int (l : Int)), some (.int (m : Int)), some (.int ((g % m : Nat) : Int))] ∧ H'' = H', fun σ' H'' ⟨e1, e2⟩ => ⟨g % m, Nat.mod_lt _ (by omega), m, e1, e2, ?_⟩, ?_⟩
    · rw [← hgs, Nat.gcd_comm m, ← Nat.gcd_rec, Nat.gcd_comm]
    refine ⟨_, rfl, _, rfl, _, rfl, _, _, rfl, rfl, (by show (0 : Int) < (m : Int); omega), _, _, rfl, ?_, rfl⟩
    rw [Int.natCast_emod]
    rfl
end
noncomputable def spPlus : Sp := fun vs H Q _ => ∃ (a b : Addr) (x y z v : Nat), vs = [.ref a, .ref b] ∧ H a = some (.tup [.int (x : Int), .int (y : Int)]) ∧ H b = some (.tup [.int (z : Int), .int (v : Int)]) ∧ 0 < y ∧ 0 < v ∧ Fit x ∧ Fit y ∧ Fit z ∧ Fit v ∧ Fit (y * v) ∧ ∀ p H', Same H H' → H' p = some (.tup (frV (x * v + z * y) (y * v))) → Q (.ref p) H'
noncomputable def spPlusZ : Sp := fun vs H Q _ => ∃ (a b : Addr) (x y v c : Nat) (z : Int), vs = [.ref a, .ref b] ∧ H a = some (.tup [.int (x : Int), .int (y : Int)]) ∧ H b = some (.tup [.int z, .int (v : Int)]) ∧ 0 < y ∧ 0 < v ∧ Fit x ∧ Fit y ∧ Fit z.natAbs ∧ Fit v ∧ Fit (y * v) ∧ (x : Int) * (v : Int) + z * (y : Int) = (c : Int) ∧ ∀ p H', Same H H' → H' p = some (.tup (frV c (y * v))) → Q (.ref p) H'
section
variable {P : Program} {w : World} {K : PySem.W.Frag} {mg : Str → Option Value} {base : Heap} {f : Addr} {fd : FuncData}
theorem ok__law_plusZ (F__law_plus : Fun K "_law_plus" "_law_plus" s__law_plus f fd) (g__law_frac : Fn P w K mg base "_law_frac" p__law_frac 1 spFrac) : FnOk P w K mg base CX0 2 f fd p__law_plus spPlusZ := by
  refine F__law_plus.ok sc__law_plus (fun vs H Q E h => ?_) (fun cdv A outer s H vs Q E hr h => ?_)
  · obtain ⟨a, b, x, y, v, c, z, rfl, _⟩ := h
    rfl
  obtain ⟨a, b, x, y, v, c, z, rfl, ha, hb, hy, hv, fx, fy, fz, fv, fm, ec, q⟩ := h
  refine ⟨_, (pss_one (ps_ret (pe_fn g__law_frac hr (pa_cons (pe_op op_add (pe_op op_mulB (pe_ix ix_tup (pv 0) pe_int (fun _ _ => rfl)) (pe_ix ix_tup (pv 1) pe_int (fun _ _ => rfl))) (pe_op op_mulB (pe_ix ix_tup (pv 1) pe_int (fun _ _ => rfl)) (pe_ix ix_tup (pv 0) pe_int (fun _ _ => rfl)))) (pa_cons (pe_op op_mulB (pe_ix ix_tup (pv 0) pe_int (fun _ _ => rfl)) (pe_ix ix_tup (pv 1) pe_int (fun _ _ => rfl))) pa_nil))))), ?_⟩
  refine ⟨_, rfl, a, _, _, _, rfl, rfl, SqT.of ha, rfl, _, rfl, b, _, _, _, rfl, rfl, SqT.of hb, rfl, _, _, rfl, rfl, ⟨fx, fv⟩, _, rfl, b, _, _, _, rfl, rfl, SqT.of hb, rfl, _, rfl, a, _, _, _, rfl, rfl, SqT.of ha, rfl, _, _, rfl, rfl, ⟨fz, fy⟩, _, _, rfl, rfl, ?_⟩
  refine ⟨_, rfl, a, _, _, _, rfl, rfl, SqT.of ha, rfl, _, rfl, b, _, _, _, rfl, rfl, SqT.of hb, rfl, _, _, rfl, rfl, ⟨fy, fv⟩, ?_⟩
  exact ⟨c, y * v, by rw [← ec, Int.natCast_mul]; rfl, Nat.mul_pos hy hv, fm, q⟩
theorem plus_imp : ∀ vs H Q E, spPlus vs H Q E → spPlusZ vs H Q E := by
  rintro vs H Q E ⟨a, b, x, y, z, v, rfl, ha, hb, hy, hv, fx, fy, fz, fv, fm, q⟩
  exact ⟨a, b, x, y, v, x * v + z * y, (z : Int), rfl, ha, hb, hy, hv, fx, fy, by rw [Int.natAbs_natCast]; exact fz, fv, fm, by rw [Int.natCast_add, Int.natCast_mul, Int.natCast_mul], q⟩
end
theorem cut_take (n m : Nat) : L3.cutAt n none (some (m : Int)) none = (0, 1, min m n) := by
  have a : Builtin.Slice.sliceAdjust none (some (m : Int)) 1 (n : Int) = (0, ((min m n : Nat) : Int)) := by
    unfold Builtin.Slice.sliceAdjust
    simp
    omega
  have b : Builtin.Slice.slicePlaces 0 ((min m n : Nat) : Int) 1 = min m n := by
    unfold Builtin.Slice.slicePlaces
    rw [if_pos (by decide)]
    by_cases h : (0 : Int) < ((min m n : Nat) : Int)
    · rw [if_pos h]; omega
    · rw [if_neg h]; omega
  unfold L3.cutAt
  show ((Builtin.Slice.sliceAdjust none (some (m : Int)) 1 (n : Int)).1, (1 : Int), Builtin.Slice.slicePlaces (Builtin.Slice.sliceAdjust none (some (m : Int)) 1 (n : Int)).1 (Builtin.Slice.sliceAdjust none (some (m : Int)) 1 (n : Int)).2 1) = _
  rw [a]
  dsimp only
  rw [b]
theorem pick_take (xs : List V) (m : Nat) : L3.pickAt xs (0, 1, min m xs.length) = xs.take m := by
  unfold L3.pickAt
  dsimp only
  have e : (fun (k : Nat) => xs[(0 + (k : Int) * 1).toNat]?) = fun k => xs[k]? := by
    funext k
    have : (0 + (k : Int) * 1).toNat = k := by omega
    rw [this]
  rw [e]
  obtain ⟨h1, h2⟩ := fm_all (g := fun k => xs[k]?) (m := min m xs.length) fun k hk => by
    rw [List.getElem?_eq_getElem (by omega)]
    rfl
  refine List.ext_getElem? fun j => ?_
  by_cases c : j < min m xs.length
  · rw [h2 j c, List.getElem?_take_of_lt (by omega)]
  · rw [List.getElem?_eq_none (by omega), List.getElem?_eq_none (by rw [List.length_take]; omega)]
theorem sl_take {K : PySem.W.Frag} {H : Hp} {a : Addr} {xs : List V} {m : Nat} {Q : VK} (h : H a = some (.tup xs)) (hz : xs.length ≤ 100000) (q : ∀ p H', Same H H' → H' p = some (.tup (xs.take m)) → Q (.ref p) H') : rSl3 K (.ref a) none (some (m : Int)) none H Q := by
  refine ⟨a, xs, rfl, SqT.of h, by decide, by rw [cut_take]; exact small (by show min m xs.length ≤ _; omega), fun z => ?_, fun _ p fp => ?_⟩
  · rw [cut_take] at z
    have z' : min m xs.length = xs.length := by simpa [L3.wholeAt] using z
    exact q a H (Same.refl _) (by rw [List.take_of_length_le (by omega)]; exact h)
  · refine q p _ (same_new fp _) ?_
    rw [upd_same, cut_take, pick_take]
theorem vnats_take (l : List Nat) (m : Nat) : (vnats l).take m = vnats (l.take m) := by rw [vnats, vnats, List.map_take]
theorem sl_takeP {K : PySem.W.Frag} {H : Hp} {a : Addr} {xs : List V} {m : Nat} {Q : VK} {σ : St} {n : Int} (hn : n = (m : Int)) (h : H a = some (.tup xs)) (hz : xs.length ≤ 100000) (q : ∀ p H', Same H H' → H' p = some (.tup (xs.take m)) → Q (.ref p) H') :
    tNoPart σ H (fun st H4 => rSl3 K (.ref a) none (some n) st H4 Q) := by
  subst hn
  exact sl_take h hz q
theorem vnats_drop (l : List Nat) (m : Nat) : (vnats l).drop m = vnats (l.drop m) := by rw [vnats, vnats, List.map_drop]
theorem cut_drop {n m : Nat} (h : m ≤ n) : L3.cutAt n (some (m : Int)) none none = ((m : Int), 1, n - m) := by
  have a : Builtin.Slice.sliceAdjust (some (m : Int)) none 1 (n : Int) = ((m : Int), (n : Int)) := by
    unfold Builtin.Slice.sliceAdjust
    simp
    omega
  have b : Builtin.Slice.slicePlaces (m : Int) (n : Int) 1 = n - m := by
    unfold Builtin.Slice.slicePlaces
    rw [if_pos (by decide)]
    by_cases h : (m : Int) < (n : Int)
    · rw [if_pos h]; omega
    · rw [if_neg h]; omega
  unfold L3.cutAt
  show ((Builtin.Slice.sliceAdjust (some (m : Int)) none 1 (n : Int)).1, (1 : Int), Builtin.Slice.slicePlaces (Builtin.Slice.sliceAdjust (some (m : Int)) none 1 (n : Int)).1 (Builtin.Slice.sliceAdjust (some (m : Int)) none 1 (n : Int)).2 1) = _
  rw [a]
  dsimp only
  rw [b]
theorem pick_drop (xs : List V) {m : Nat} (h : m ≤ xs.length) : L3.pickAt xs ((m : Int), 1, xs.length - m) = xs.drop m := by
  unfold L3.pickAt
  dsimp only
  have e : (fun (k : Nat) => xs[((m : Int) + (k : Int) * 1).toNat]?) = fun k => xs[m + k]? := by
    funext k
    have : ((m : Int) + (k : Int) * 1).toNat = m + k := by omega
    rw [this]
  rw [e]
  obtain ⟨h1, h2⟩ := fm_all (g := fun k => xs[m + k]?) (m := xs.length - m) fun k hk => by
    rw [List.getElem?_eq_getElem (by omega)]
    rfl
  refine List.ext_getElem? fun j => ?_
  by_cases c : j < xs.length - m
  · rw [h2 j c, List.getElem?_drop]
  · rw [List.getElem?_eq_none (by omega), List.getElem?_eq_none (by rw [List.length_drop]; omega)]
theorem sl_dropP {K : PySem.W.Frag} {H : Hp} {a : Addr} {xs : List V} {m : Nat} {Q : VK} {σ σ' : St} {n : Int} (hn : n = (m : Int)) (h : H a = some (.tup xs)) (hm : m ≤ xs.length) (hz : xs.length ≤ 100000) (q : ∀ p H', Same H H' → H' p = some (.tup (xs.drop m)) → Q (.ref p) H') :
    tNoPart σ H (fun u H3 => tNoPart σ' H3 fun st H4 => rSl3 K (.ref a) (some n) u st H4 Q) := by
  subst hn
  show rSl3 K (.ref a) (some (m : Int)) none none H Q
  refine ⟨a, xs, rfl, SqT.of h, by decide, by rw [cut_drop hm]; exact small (by show xs.length - m ≤ _; omega), fun z => ?_, fun _ p fp => ?_⟩
  · rw [cut_drop hm] at z
    have z' : m = 0 := by
      have : m = 0 ∧ xs.length - m = xs.length := by simpa [L3.wholeAt] using z
      exact this.1
    subst z'
    exact q a H (Same.refl _) h
  · refine q p _ (same_new fp _) ?_
    rw [upd_same, cut_drop hm, pick_drop xs hm]
noncomputable def rst (l u : Nat) : Nat → Nat
  | 0 => u % l
  | k + 1 => 2 * rst l u k % l
theorem rst_lt {l : Nat} (hl : 0 < l) (u : Nat) : ∀ k, rst l u k < l
  | 0 => Nat.mod_lt _ hl
  | k + 1 => Nat.mod_lt _ hl
theorem rst_add {l : Nat} (hl : 0 < l) (u j : Nat) : ∀ k, rst l (rst l u j) k = rst l u (j + k)
  | 0 => Nat.mod_eq_of_lt (rst_lt hl u j)
  | k + 1 => by
    rw [rst, rst_add hl u j k]
    rfl
noncomputable def nt (ns : List Nat) : Nat := ns.foldl (fun a x => 2 * a + x) 0
theorem nt_snoc (ns : List Nat) (x : Nat) : nt (ns ++ [x]) = 2 * nt ns + x := by rw [nt, List.foldl_append]; rfl
theorem nt_cons : ∀ (ns : List Nat) (x : Nat), nt (x :: ns) = x * 2 ^ ns.length + nt ns := by
  have key : ∀ (ns : List Nat) (a : Nat), ns.foldl (fun a x => 2 * a + x) a = a * 2 ^ ns.length + nt ns := by
    intro ns
    induction ns with
    | nil => intro a; simp [nt]
    | cons y ns ih =>
      intro a
      have e : nt (y :: ns) = ns.foldl (fun a x => 2 * a + x) (2 * 0 + y) := rfl
      rw [List.foldl_cons, ih, e, ih, List.length_cons, Nat.pow_succ]
      grind
  intro ns x
  rw [nt, List.foldl_cons, key]
  simp
theorem nt_le {c : Nat} : ∀ {ns : List Nat}, (∀ x ∈ ns, x ≤ c) → nt ns + c ≤ c * 2 ^ ns.length
  | [], _ => by simp [nt]
  | x :: ns, h => by
    have h1 := h x List.mem_cons_self
    have h2 := nt_le fun y hy => h y (List.mem_cons_of_mem _ hy)
    rw [nt_cons, List.length_cons, Nat.pow_succ]
    have h3 : x * 2 ^ ns.length ≤ c * 2 ^ ns.length := Nat.mul_le_mul_right _ h1
    grind
noncomputable def hvU (xs ys : List Nat) : Nat := if ys = [] then nt xs else nt xs * (2 ^ ys.length - 1) + nt ys
noncomputable def hvL (xs ys : List Nat) : Nat := if ys = [] then 2 ^ xs.length else 2 ^ xs.length * (2 ^ ys.length - 1)
theorem two_pow_sub {n : Nat} (h : 0 < n) : 0 < 2 ^ n - 1 := by
  have : 2 ^ 1 ≤ 2 ^ n := Nat.pow_le_pow_right (by decide) h
  omega
theorem hvL_pos (xs ys : List Nat) : 0 < hvL xs ys := by
  unfold hvL
  split
  · exact Nat.pow_pos (by decide)
  · rename_i h
    exact Nat.mul_pos (Nat.pow_pos (by decide)) (two_pow_sub (List.length_pos_iff.mpr h))
theorem hvL_le (xs ys : List Nat) : hvL xs ys ≤ 2 ^ (xs.length + ys.length) := by
  unfold hvL
  split
  · exact Nat.pow_le_pow_right (by decide) (Nat.le_add_right _ _)
  · rw [Nat.pow_add]
    exact Nat.mul_le_mul_left _ (Nat.sub_le _ _)
theorem hvU_le {c : Nat} {xs ys : List Nat} (h1 : ∀ x ∈ xs, x ≤ c) (h2 : ∀ x ∈ ys, x ≤ c) : hvU xs ys ≤ c * hvL xs ys := by
  have a := nt_le h1
  have b := nt_le h2
  unfold hvU hvL
  split
  · omega
  · rename_i hne
    have hp : 0 < 2 ^ ys.length := Nat.pow_pos (by decide)
    generalize 2 ^ xs.length = X at a
    generalize 2 ^ ys.length = Y at b hp
    obtain ⟨Z, rfl⟩ : ∃ Z, Y = Z + 1 := ⟨Y - 1, by omega⟩
    rw [Nat.add_sub_cancel]
    have hb : nt ys ≤ c * Z := by grind
    have ha : nt xs * Z + c * Z ≤ c * X * Z := by
      rw [← Nat.add_mul]
      exact Nat.mul_le_mul_right _ a
    grind
theorem fit_pow {n c : Nat} (hn : n ≤ 6000) (hc : c ≤ 1000000) : Fit (c * 2 ^ n) := by
  refine ⟨6020, by decide, ?_⟩
  have h1 : c < 2 ^ 20 := Nat.lt_of_le_of_lt hc (by decide)
  have h2 : 2 ^ n ≤ 2 ^ 6000 := Nat.pow_le_pow_right (by decide) hn
  calc c * 2 ^ n < 2 ^ 20 * 2 ^ n := Nat.mul_lt_mul_of_pos_right h1 (Nat.pow_pos (by decide))
    _ ≤ 2 ^ 20 * 2 ^ 6000 := Nat.mul_le_mul_left _ h2
    _ = 2 ^ 6020 := by rw [← Nat.pow_add]
structure RF (l u n b : Nat) : Prop where
  pos : ∀ k, k < n → 0 < rst l u k
  nd : ∀ i j, i < n → j < n → rst l u i = rst l u j → i = j
  le : b ≤ n
  nl : n ≤ l
  fin : (rst l u n = 0 ∧ b = n) ∨ (b < n ∧ rst l u n = rst l u b)
noncomputable def rsL (l u n : Nat) : List Nat := (List.range n).map (rst l u)
theorem rsL_len (l u n : Nat) : (rsL l u n).length = n := by rw [rsL, List.length_map, List.length_range]
theorem rsL_succ (l u n : Nat) : rsL l u (n + 1) = rsL l u n ++ [rst l u n] := by rw [rsL, List.range_succ, List.map_append]; rfl
theorem rsL_mem {l u n x : Nat} : x ∈ rsL l u n ↔ ∃ k, k < n ∧ rst l u k = x := by
  unfold rsL
  rw [List.mem_map]
  exact ⟨fun ⟨k, hk, e⟩ => ⟨k, List.mem_range.mp hk, e⟩, fun ⟨k, hk, e⟩ => ⟨k, List.mem_range.mpr hk, e⟩⟩
theorem rsL_le {l u n : Nat} (hl : 0 < l) : ∀ x ∈ rsL l u n, x ≤ l := fun x hx => by
  obtain ⟨k, _, rfl⟩ := rsL_mem.mp hx
  exact Nat.le_of_lt (rst_lt hl u k)
theorem RF.uniq {l u n b n' b' : Nat} (h : RF l u n b) (h' : RF l u n' b') : n = n' ∧ b = b' := by
  have key : ∀ {n b n' b' : Nat}, RF l u n b → RF l u n' b' → ¬ n < n' := by
    intro n b n' b' h h' hlt
    rcases h.fin with ⟨h0, _⟩ | ⟨hb, e⟩
    · have := h'.pos n hlt
      omega
    · have := h'.nd n b hlt (by omega) e
      omega
  have e : n = n' := by
    have h1 := key h h'
    have h2 := key h' h
    omega
  subst e
  refine ⟨rfl, ?_⟩
  rcases h.fin with ⟨h0, e1⟩ | ⟨hb, e1⟩ <;> rcases h'.fin with ⟨h0', e1'⟩ | ⟨hb', e1'⟩
  · omega
  · have := h.pos b' hb'
    omega
  · have := h'.pos b hb
    omega
  · exact h.nd b b' hb hb' (by rw [← e1, ← e1'])
theorem RF.next {l u n b : Nat} (hl : 0 < l) (h : RF l u n b) (hn : 0 < n) : (0 < b ∧ RF l (rst l u 1) (n - 1) (b - 1)) ∨ (b = 0 ∧ RF l (rst l u 1) n 0) := by
  have sh : ∀ k, rst l (rst l u 1) k = rst l u (k + 1) := fun k => by rw [rst_add hl, Nat.add_comm]
  by_cases hb : 0 < b
  · refine .inl ⟨hb, fun k hk => ?_, fun i j hi hj e => ?_, by have := h.le; omega, by have := h.nl; omega, ?_⟩
    · rw [sh]; exact h.pos _ (by omega)
    · rw [sh, sh] at e
      have := h.nd _ _ (by omega) (by omega) e
      omega
    · rw [sh, sh, show n - 1 + 1 = n by omega, show b - 1 + 1 = b by omega]
      rcases h.fin with ⟨h0, e⟩ | ⟨h1, e⟩
      · exact .inl ⟨h0, by omega⟩
      · exact .inr ⟨by omega, e⟩
  · have hb0 : b = 0 := by omega
    subst hb0
    have hf : rst l u n = rst l u 0 := by
      rcases h.fin with ⟨_, e⟩ | ⟨_, e⟩
      · omega
      · exact e
    refine .inr ⟨rfl, fun k hk => ?_, fun i j hi hj e => ?_, Nat.zero_le _, h.nl, .inr ⟨hn, ?_⟩⟩
    · rw [sh]
      by_cases c : k + 1 = n
      · rw [c, hf]; exact h.pos 0 hn
      · exact h.pos _ (by omega)
    · rw [sh, sh] at e
      by_cases c1 : i + 1 = n
      · by_cases c2 : j + 1 = n
        · omega
        · rw [c1, hf] at e
          have := h.nd 0 (j + 1) hn (by omega) e
          omega
      · by_cases c2 : j + 1 = n
        · rw [c2, hf] at e
          have := h.nd (i + 1) 0 (by omega) hn e
          omega
        · have := h.nd _ _ (by omega) (by omega) e
          omega
    · rw [sh, sh]
      show 2 * rst l u n % l = 2 * rst l u 0 % l
      rw [hf]
noncomputable def hU (l u n b : Nat) : Nat := hvU ((rsL l u n).take b) ((rsL l u n).drop b)
noncomputable def hL (l u n b : Nat) : Nat := hvL ((rsL l u n).take b) ((rsL l u n).drop b)
theorem rsL_shift {l u : Nat} (hl : 0 < l) (n : Nat) : rsL l u (n + 1) = rst l u 0 :: rsL l (rst l u 1) n := by
  unfold rsL
  rw [List.range_succ_eq_map, List.map_cons, List.map_map]
  congr 1
  refine List.map_congr_left fun k _ => ?_
  show rst l u (k + 1) = rst l (rst l u 1) k
  rw [rst_add hl, Nat.add_comm]
theorem half_next {l u n b n' b' : Nat} (hl : 0 < l) (h : RF l u n b) (h' : RF l (rst l u 1) n' b') : 2 * hU l u n b * hL l (rst l u 1) n' b' = hL l u n b * (rst l u 0 * hL l (rst l u 1) n' b' + hU l (rst l u 1) n' b') := by
  by_cases hn : n = 0
  · subst hn
    have h0 : rst l u 0 = 0 := by
      rcases h.fin with ⟨h0, _⟩ | ⟨hb, _⟩
      · exact h0
      · omega
    have hb : b = 0 := by have := h.le; omega
    have z : RF l (rst l u 1) 0 0 := by
      refine ⟨fun k hk => by omega, fun i j hi => by omega, Nat.le_refl _, Nat.zero_le _, .inl ⟨?_, rfl⟩⟩
      rw [rst_add hl]
      show 2 * rst l u 0 % l = 0
      rw [h0]
      exact Nat.zero_mod _
    obtain ⟨e1, e2⟩ := h'.uniq z
    subst e1 e2 hb
    rw [h0]
    rfl
  rcases h.next hl (by omega) with ⟨hb, z⟩ | ⟨hb, z⟩
  · obtain ⟨e1, e2⟩ := h'.uniq z
    subst e1 e2
    have es : rsL l u n = rst l u 0 :: rsL l (rst l u 1) (n - 1) := by rw [← rsL_shift hl, show n - 1 + 1 = n by omega]
    unfold hU hL
    obtain ⟨b0, rfl⟩ : ∃ b0, b = b0 + 1 := ⟨b - 1, by omega⟩
    rw [es, List.take_succ_cons, List.drop_succ_cons, Nat.add_sub_cancel]
    generalize (rsL l (rst l u 1) (n - 1)).take b0 = xs
    generalize (rsL l (rst l u 1) (n - 1)).drop b0 = ys
    unfold hvU hvL
    split
    · rw [nt_cons, List.length_cons, Nat.pow_succ]
      grind
    · rw [nt_cons, List.length_cons, Nat.pow_succ]
      grind
  · subst hb
    obtain ⟨e1, e2⟩ := h'.uniq z
    subst e1 e2
    have hf : rst l u n' = rst l u 0 := by
      rcases h.fin with ⟨_, e⟩ | ⟨_, e⟩
      · omega
      · exact e
    have hne : n' ≠ 0 := hn
    obtain ⟨m, rfl⟩ : ∃ m, n' = m + 1 := ⟨n' - 1, by omega⟩
    have e1 : rsL l u (m + 1) = rst l u 0 :: rsL l (rst l u 1) m := rsL_shift hl m
    have e2 : rsL l (rst l u 1) (m + 1) = rsL l (rst l u 1) m ++ [rst l u 0] := by
      rw [rsL_succ, rst_add hl, Nat.add_comm 1 m, hf]
    have hlen := rsL_len l (rst l u 1) m
    unfold hU hL
    rw [List.take_zero, List.drop_zero, List.take_zero, List.drop_zero, e1, e2]
    generalize rsL l (rst l u 1) m = xs at hlen
    unfold hvU hvL
    rw [if_neg (by simp), if_neg (by simp), if_neg (by simp), if_neg (by simp)]
    rw [nt_cons, nt_snoc, List.length_cons, List.length_append, List.length_nil]
    have hp : 0 < 2 ^ xs.length := Nat.pow_pos (by decide)
    show 2 * (nt [] * (2 ^ (xs.length + 1) - 1) + (rst l u 0 * 2 ^ xs.length + nt xs)) * (2 ^ 0 * (2 ^ (xs.length + 1) - 1)) = 2 ^ 0 * (2 ^ (xs.length + 1) - 1) * (rst l u 0 * (2 ^ 0 * (2 ^ (xs.length + 1) - 1)) + (nt [] * (2 ^ (xs.length + 1) - 1) + (2 * nt xs + rst l u 0)))
    rw [Nat.pow_succ]
    have hz : nt [] = 0 := rfl
    rw [hz]
    generalize 2 ^ xs.length = X at hp
    obtain ⟨Y, hY⟩ : ∃ Y, X * 2 = Y + 1 := ⟨X * 2 - 1, by omega⟩
    rw [hY, Nat.add_sub_cancel]
    generalize nt xs = N
    generalize rst l u 0 = r
    have : r * (X * 2) = r * Y + r := by rw [hY]; grind
    grind
theorem half_le {l u n b : Nat} (hl : 0 < l) : hU l u n b ≤ l * hL l u n b :=
  hvU_le (fun x hx => rsL_le hl x (List.mem_of_mem_take hx)) (fun x hx => rsL_le hl x (List.mem_of_mem_drop hx))
theorem hL_pos (l u n b : Nat) : 0 < hL l u n b := hvL_pos _ _
theorem hL_le {l u n b : Nat} : hL l u n b ≤ 2 ^ n := by
  refine Nat.le_trans (hvL_le _ _) (Nat.pow_le_pow_right (by decide) ?_)
  rw [List.length_take, List.length_drop, rsL_len]
  omega
theorem filt_lt {α : Type} {p q : α → Bool} : ∀ {L : List α} {x : α}, (∀ y, p y = true → q y = true) → x ∈ L → q x = true → p x = false → (L.filter p).length < (L.filter q).length
  | a :: L, x, hpq, hx, hq, hp => by
    have le : ∀ {L : List α}, (L.filter p).length ≤ (L.filter q).length := by
      intro L
      induction L with
      | nil => simp
      | cons b L ih =>
        by_cases c : p b = true
        · rw [List.filter_cons_of_pos c, List.filter_cons_of_pos (hpq b c), List.length_cons, List.length_cons]; omega
        · rw [List.filter_cons_of_neg c]
          by_cases d : q b = true
          · rw [List.filter_cons_of_pos d, List.length_cons]; omega
          · rw [List.filter_cons_of_neg d]; exact ih
    rcases List.mem_cons.mp hx with e | hx
    · subst e
      rw [List.filter_cons_of_neg (by rw [hp]; decide), List.filter_cons_of_pos hq, List.length_cons]
      have := le (L := L)
      omega
    · have ih := filt_lt hpq hx hq hp
      by_cases c : p a = true
      · rw [List.filter_cons_of_pos c, List.filter_cons_of_pos (hpq a c), List.length_cons, List.length_cons]; omega
      · rw [List.filter_cons_of_neg c]
        by_cases d : q a = true
        · rw [List.filter_cons_of_pos d, List.length_cons]; omega
        · rw [List.filter_cons_of_neg d]; exact ih
theorem fr_cross (a d : Nat) : frU a d * d = a * frL a d := by
  have h1 := frU_mul a d
  have h2 := frL_mul a d
  calc frU a d * d = frU a d * (frL a d * Nat.gcd a d) := by rw [h2]
    _ = (frU a d * Nat.gcd a d) * frL a d := by rw [Nat.mul_assoc, Nat.mul_comm (Nat.gcd a d)]
    _ = a * frL a d := by rw [h1]
theorem frV_scale {a b c d : Nat} (hb : 0 < b) (hc : 0 < c) (hd : 0 < d) : frV (c * frU a b) (d * frL a b) = frV (c * a) (d * b) := by
  refine frV_eq (Nat.mul_pos hd (frL_pos hb)) (Nat.mul_pos hd hb) ?_
  have e1 := fr_cross a b
  have : c * frU a b * (d * b) = c * d * (frU a b * b) := by grind
  rw [this, e1]
  grind
theorem RF.zero {l u n b : Nat} (hl : 0 < l) (h : RF l u n b) : RF l (rst l u 0) n b := by
  have sh : ∀ k, rst l (rst l u 0) k = rst l u k := fun k => by rw [rst_add hl, Nat.zero_add]
  refine ⟨fun k hk => by rw [sh]; exact h.pos k hk, fun i j hi hj e => h.nd i j hi hj (by rw [sh, sh] at e; exact e), h.le, h.nl, ?_⟩
  rw [sh, sh]
  exact h.fin
theorem rsL_zero {l u : Nat} (hl : 0 < l) (n : Nat) : rsL l (rst l u 0) n = rsL l u n := by
  unfold rsL
  refine List.map_congr_left fun k _ => ?_
  rw [rst_add hl, Nat.zero_add]
theorem RF.step {l u n b : Nat} (hl : 0 < l) (h : RF l u n b) : ∃ n' b', RF l (rst l u 1) n' b' := by
  by_cases hn : 0 < n
  · rcases h.next hl hn with ⟨_, z⟩ | ⟨_, z⟩
    · exact ⟨_, _, z⟩
    · exact ⟨_, _, z⟩
  · have hn0 : n = 0 := by omega
    subst hn0
    have h0 : rst l u 0 = 0 := by
      rcases h.fin with ⟨h0, _⟩ | ⟨hb, _⟩
      · exact h0
      · omega
    refine ⟨0, 0, fun k hk => by omega, fun i j hi => by omega, Nat.le_refl _, Nat.zero_le _, .inl ⟨?_, rfl⟩⟩
    rw [rst_add hl]
    show 2 * rst l u 0 % l = 0
    rw [h0]
    exact Nat.zero_mod _
theorem rst_pow {l u : Nat} : ∀ k, rst l u k = u * 2 ^ k % l
  | 0 => by rw [rst, Nat.pow_zero, Nat.mul_one]
  | k + 1 => by
    rw [rst, rst_pow k, Nat.pow_succ, ← Nat.mul_assoc, Nat.mul_comm (u * 2 ^ k) 2]
    exact (Nat.mul_mod 2 (u * 2 ^ k) l).symm ▸ by rw [Nat.mul_mod, Nat.mod_mod, ← Nat.mul_mod]
theorem half_K {l u n b : Nat} (hl : 0 < l) (h : RF l u n b) : ∀ k : Nat, ∃ n' b', RF l (rst l u k) n' b' ∧ hU l u n b * 2 ^ k * hL l (rst l u k) n' b' = hL l u n b * (nt (rsL l u k) * hL l (rst l u k) n' b' + hU l (rst l u k) n' b')
  | 0 => by
    refine ⟨n, b, h.zero hl, ?_⟩
    have e1 : hU l (rst l u 0) n b = hU l u n b := by unfold hU; rw [rsL_zero hl]
    have e2 : hL l (rst l u 0) n b = hL l u n b := by unfold hL; rw [rsL_zero hl]
    rw [e1, e2]
    have : nt (rsL l u 0) = 0 := rfl
    rw [this]
    grind
  | k + 1 => by
    obtain ⟨n1, b1, h1, e1⟩ := half_K hl h k
    obtain ⟨n2, b2, h2⟩ := h1.step hl
    have e2 := half_next hl h1 h2
    have er : rst l (rst l u k) 1 = rst l u (k + 1) := rst_add hl u k 1
    have e0 : rst l (rst l u k) 0 = rst l u k := Nat.mod_eq_of_lt (rst_lt hl u k)
    rw [er] at h2 e2
    rw [e0] at e2
    refine ⟨n2, b2, h2, ?_⟩
    rw [rsL_succ, nt_snoc]
    have hp := hL_pos l (rst l u k) n1 b1
    generalize hL l (rst l u k) n1 b1 = M1 at *
    generalize hU l (rst l u k) n1 b1 = N1 at *
    generalize hL l (rst l u (k + 1)) n2 b2 = M2 at *
    generalize hU l (rst l u (k + 1)) n2 b2 = N2 at *
    generalize hL l u n b = M0 at *
    generalize hU l u n b = N0 at *
    generalize rst l u (k + 1) = r2 at *
    generalize rst l u k = r1 at *
    generalize nt (rsL l u k) = S at *
    refine Nat.eq_of_mul_eq_mul_left hp ?_
    rw [Nat.pow_succ]
    have c1 : M1 * (N0 * (2 ^ k * 2) * M2) = (N0 * 2 ^ k * M1) * (2 * M2) := by grind
    rw [c1, e1]
    have c2 : M0 * (S * M1 + N1) * (2 * M2) = M0 * (2 * S * M1 * M2 + 2 * N1 * M2) := by grind
    rw [c2, e2]
    grind
theorem half_between {l u n b : Nat} (hl : 0 < l) (h : RF l u n b) (k : Nat) : nt (rsL l u k) * hL l u n b ≤ hU l u n b * 2 ^ k ∧ hU l u n b * 2 ^ k ≤ (nt (rsL l u k) + (if rst l u k = 0 then 0 else l)) * hL l u n b := by
  obtain ⟨n', b', h', e⟩ := half_K hl h k
  have hp := hL_pos l (rst l u k) n' b'
  have hle : hU l (rst l u k) n' b' ≤ (if rst l u k = 0 then 0 else l) * hL l (rst l u k) n' b' := by
    split
    · rename_i h0
      rw [h0] at h' ⊢
      have z : RF l 0 0 0 := ⟨fun k hk => by omega, fun i j hi => by omega, Nat.le_refl _, Nat.zero_le _, .inl ⟨Nat.zero_mod _, rfl⟩⟩
      obtain ⟨e1, e2⟩ := h'.uniq z
      subst e1 e2
      exact Nat.zero_le _
    · exact half_le hl
  generalize hL l (rst l u k) n' b' = M1 at *
  generalize hU l (rst l u k) n' b' = N1 at *
  generalize hL l u n b = M0 at *
  generalize hU l u n b = N0 at *
  generalize nt (rsL l u k) = S at *
  generalize (if rst l u k = 0 then 0 else l) = L at *
  constructor
  · refine Nat.le_of_mul_le_mul_right (c := M1) ?_ hp
    rw [e]
    have : S * M0 * M1 = M0 * (S * M1) := by grind
    rw [this]
    exact Nat.mul_le_mul_left _ (by omega)
  · refine Nat.le_of_mul_le_mul_right (c := M1) ?_ hp
    rw [e]
    have : (S + L) * M0 * M1 = M0 * (S * M1 + L * M1) := by grind
    rw [this]
    exact Nat.mul_le_mul_left _ (by omega)
noncomputable def pA (k : Nat) : Nat → Nat → Nat
  | _, 0 => 0
  | y, T + 1 => (y % k) * 2 ^ T + pA k (2 * y) T
theorem pA_add {k : Nat} : ∀ (T y z : Nat), pA k (y + z) T ≤ pA k y T + pA k z T
  | 0, _, _ => Nat.le_refl _
  | T + 1, y, z => by
    have ih := pA_add (k := k) T (2 * y) (2 * z)
    have hm : (y + z) % k ≤ y % k + z % k := by
      rw [Nat.add_mod]
      exact Nat.mod_le _ _
    have h2 : (y + z) % k * 2 ^ T ≤ (y % k + z % k) * 2 ^ T := Nat.mul_le_mul_right _ hm
    rw [pA, pA, pA, Nat.mul_add, Nat.add_mul] at *
    omega
theorem pA_zero {k : Nat} : ∀ T, pA k 0 T = 0
  | 0 => rfl
  | T + 1 => by rw [pA, Nat.mul_zero, pA_zero T, Nat.zero_mod, Nat.zero_mul]
theorem pA_two {k : Nat} : ∀ (T y : Nat), 2 * pA k y T ≤ pA k y (T + 1)
  | 0, y => by rw [pA]; omega
  | T + 1, y => by
    have ih := pA_two (k := k) T (2 * y)
    show 2 * (y % k * 2 ^ T + pA k (2 * y) T) ≤ y % k * 2 ^ (T + 1) + pA k (2 * y) (T + 1)
    rw [Nat.pow_succ]
    have : 2 * (y % k * 2 ^ T + pA k (2 * y) T) = y % k * (2 ^ T * 2) + 2 * pA k (2 * y) T := by grind
    omega
theorem pA_mono {k y T : Nat} (c : Nat) (hc : c ≤ 1) : pA k (c * y) T ≤ c * pA k y T := by
  rcases Nat.le_one_iff_eq_zero_or_eq_one.mp hc with rfl | rfl
  · rw [Nat.zero_mul, Nat.zero_mul, pA_zero]
    exact Nat.le_refl _
  · rw [Nat.one_mul, Nat.one_mul]
    exact Nat.le_refl _
noncomputable def qA (m k : Nat) : Nat → Nat → Nat
  | _, 0 => 0
  | i, T + 1 => (2 ^ i / m % k) * 2 ^ T + qA m k (i + 1) T
noncomputable def eA (m k : Nat) : Nat → Nat → Nat
  | _, 0 => 0
  | i, T + 1 => (2 * (2 ^ i % m) / m) * pA k 1 T + eA m k (i + 1) T
noncomputable def dA (m : Nat) : Nat → Nat → Nat
  | _, 0 => 0
  | i, T + 1 => (2 * (2 ^ i % m) / m) * 2 ^ T + dA m (i + 1) T
theorem x_next {m : Nat} (hm : 0 < m) (i : Nat) : 2 ^ (i + 1) / m = 2 * (2 ^ i / m) + 2 * (2 ^ i % m) / m := by
  have h := Nat.div_add_mod (2 ^ i) m
  have e : 2 ^ (i + 1) = 2 * (2 ^ i % m) + m * (2 * (2 ^ i / m)) := by rw [Nat.pow_succ]; grind
  rw [e, Nat.add_mul_div_left _ _ hm, Nat.add_comm]
theorem d_le {m : Nat} (hm : 0 < m) (i : Nat) : 2 * (2 ^ i % m) / m ≤ 1 := by
  have := Nat.mod_lt (2 ^ i) hm
  have : 2 * (2 ^ i % m) / m < 2 := Nat.div_lt_of_lt_mul (by omega)
  omega
theorem qA_le {m k : Nat} (hm : 0 < m) : ∀ (T i : Nat), qA m k i T ≤ pA k (2 ^ i / m) T + eA m k i T
  | 0, _ => Nat.zero_le _
  | T + 1, i => by
    have ih := qA_le (k := k) hm T (i + 1)
    rw [x_next hm] at ih
    have h1 := pA_add (k := k) T (2 * (2 ^ i / m)) (2 * (2 ^ i % m) / m)
    have h2 := pA_mono (k := k) (y := 1) (T := T) (2 * (2 ^ i % m) / m) (d_le hm i)
    rw [Nat.mul_one] at h2
    rw [qA, pA, eA]
    omega
theorem eA_le {m k : Nat} : ∀ (T i : Nat), 2 ^ T * eA m k i T ≤ dA m i T * pA k 1 T
  | 0, _ => Nat.le_refl _
  | T + 1, i => by
    have ih := eA_le (m := m) (k := k) T (i + 1)
    have h2 := pA_two (k := k) T 1
    rw [eA, dA, Nat.pow_succ]
    generalize 2 * (2 ^ i % m) / m = d
    generalize eA m k (i + 1) T = e at *
    generalize dA m (i + 1) T = D at *
    generalize pA k 1 T = p at *
    generalize pA k 1 (T + 1) = p1 at *
    have h3 : (d * 2 ^ T + D) * (2 * p) ≤ (d * 2 ^ T + D) * p1 := Nat.mul_le_mul_left _ h2
    have h4 : 2 ^ T * 2 * (d * p + e) = d * 2 ^ T * (2 * p) + 2 * (2 ^ T * e) := by grind
    have h5 : (d * 2 ^ T + D) * (2 * p) = d * 2 ^ T * (2 * p) + 2 * (D * p) := by grind
    omega
theorem dA_is {m : Nat} (hm : 0 < m) : ∀ (T i : Nat), 2 ^ (i + T) / m = 2 ^ T * (2 ^ i / m) + dA m i T
  | 0, i => by rw [dA]; simp
  | T + 1, i => by
    have ih := dA_is hm T (i + 1)
    rw [show i + (T + 1) = i + 1 + T by omega, ih, x_next hm, dA, Nat.pow_succ]
    grind
theorem pA_nt {k : Nat} (hk : 0 < k) : ∀ (T u : Nat), pA k u T = nt (rsL k u T)
  | 0, _ => rfl
  | T + 1, u => by
    rw [pA, pA_nt hk T (2 * u), rsL_shift hk, nt_cons, rsL_len]
    have e1 : rst k u 0 = u % k := rfl
    have e2 : rsL k (2 * u) T = rsL k (rst k u 1) T := by
      unfold rsL
      refine List.map_congr_left fun j _ => ?_
      rw [rst_add hk, rst_pow, rst_pow, Nat.pow_add, ← Nat.mul_assoc]
      congr 2
      rw [Nat.pow_one, Nat.mul_comm]
    rw [e1, e2]
theorem qA_sum {m k : Nat} (hm : 0 < m) (hk : 0 < k) : ∀ (T i : Nat), (nt ((List.range T).map fun j => 2 ^ (i + j) % (m * k))) = nt ((List.range T).map fun j => 2 ^ (i + j) % m) + m * qA m k i T
  | 0, _ => rfl
  | T + 1, i => by
    have ih := qA_sum hm hk T (i + 1)
    have sh : ∀ f : Nat → Nat, (List.range (T + 1)).map f = f 0 :: (List.range T).map fun j => f (j + 1) := fun f => by rw [List.range_succ_eq_map, List.map_cons, List.map_map]; rfl
    rw [sh, sh, nt_cons, nt_cons, List.length_map, List.length_map, List.length_range, qA]
    have e : (fun j => 2 ^ (i + (j + 1)) % (m * k)) = fun j => 2 ^ (i + 1 + j) % (m * k) := by funext j; rw [show i + (j + 1) = i + 1 + j by omega]
    have e' : (fun j => 2 ^ (i + (j + 1)) % m) = fun j => 2 ^ (i + 1 + j) % m := by funext j; rw [show i + (j + 1) = i + 1 + j by omega]
    rw [e, e', ih, Nat.mod_mul, Nat.add_zero]
    grind
theorem rsL_one (l T : Nat) : rsL l 1 T = (List.range T).map fun j => 2 ^ (0 + j) % l := by
  unfold rsL
  refine List.map_congr_left fun j _ => ?_
  rw [rst_pow, Nat.one_mul, Nat.zero_add]
theorem nt_both {m k : Nat} (hm : 1 < m) (hk : 0 < k) (T : Nat) : nt (rsL (m * k) 1 T) ≤ nt (rsL m 1 T) + nt (rsL k 1 T) := by
  have hm0 : 0 < m := by omega
  rw [rsL_one (m * k), rsL_one m, qA_sum hm0 hk, ← pA_nt hk]
  have h1 := qA_le (k := k) hm0 T 0
  have h2 := eA_le (m := m) (k := k) T 0
  have h3 := dA_is hm0 T 0
  have h0 : 2 ^ 0 / m = 0 := Nat.div_eq_of_lt hm
  rw [h0, pA_zero, Nat.zero_add] at h1
  rw [h0, Nat.mul_zero, Nat.zero_add, Nat.zero_add] at h3
  rw [← h3] at h2
  have h4 : m * (2 ^ T / m) ≤ 2 ^ T := Nat.mul_div_le _ _
  have h5 : m * eA m k 0 T ≤ pA k 1 T := by
    refine Nat.le_of_mul_le_mul_left (c := 2 ^ T) (Nat.le_trans ?_ (Nat.mul_le_mul_right _ h4)) (Nat.pow_pos (by decide))
    have : 2 ^ T * (m * eA m k 0 T) = m * (2 ^ T * eA m k 0 T) := by grind
    rw [this, Nat.mul_assoc]
    exact Nat.mul_le_mul_left _ h2
  have h6 : m * qA m k 0 T ≤ m * eA m k 0 T := Nat.mul_le_mul_left _ h1
  omega
noncomputable def kvR (l u n : Nat) : List (Key × V) := (List.range n).map fun k => (.inl ((rst l u k : Nat) : Int), .int (k : Int))
theorem kvR_succ (l u n : Nat) : kvR l u (n + 1) = kvR l u n ++ [(.inl ((rst l u n : Nat) : Int), .int (n : Int))] := by rw [kvR, List.range_succ, List.map_append]; rfl
theorem kvR_len (l u n : Nat) : (kvR l u n).length = n := by rw [kvR, List.length_map, List.length_range]
theorem kvR_none {l u x : Nat} : ∀ {n : Nat}, (∀ k, k < n → rst l u k ≠ x) → valV (kvR l u n) (.inl (x : Int)) = none
  | 0, _ => rfl
  | n + 1, h => by
    have ih := kvR_none (n := n) fun k hk => h k (by omega)
    have hn := h n (by omega)
    rw [kvR_succ]
    unfold valV at ih ⊢
    rw [List.find?_append]
    rw [Option.map_eq_none_iff] at ih
    rw [ih]
    have : ¬ ((Sum.inl ((rst l u n : Nat) : Int) : Key) = Sum.inl (x : Int)) := fun z => by injection z with z; omega
    simp [this]
theorem kvR_some {l u b : Nat} : ∀ {n : Nat}, (∀ i j, i < n → j < n → rst l u i = rst l u j → i = j) → b < n → valV (kvR l u n) (.inl ((rst l u b : Nat) : Int)) = some (.int (b : Int))
  | n + 1, h, hb => by
    rw [kvR_succ]
    by_cases c : b = n
    · subst c
      have hn : valV (kvR l u b) (.inl ((rst l u b : Nat) : Int)) = none := kvR_none fun k hk e => absurd (h k b (by omega) (by omega) e) (by omega)
      rw [valV_snoc _ _ _ _ hn, if_pos rfl]
    · have ih := kvR_some (b := b) (n := n) (fun i j hi hj e => h i j (by omega) (by omega) e) (by omega)
      have hn : valV (kvR l u n) (.inl ((rst l u n : Nat) : Int)) = none := kvR_none fun k hk e => absurd (h k n (by omega) (by omega) e) (by omega)
      rw [valV_snoc _ _ _ _ hn, if_neg (fun z => c (h b n (by omega) (by omega) (by injection z with z; omega)))]
      exact ih
theorem kvR_keys (l u n : Nat) : ((kvR l u n).map fun kv => kV kv.1) = vnats (rsL l u n) := by
  unfold kvR rsL vnats
  rw [List.map_map, List.map_map]
  rfl
theorem rests_test {a0 a1 a4 a5 : Option V} {H : Hp} {Q : Bool → Hp → Prop} {r : Nat} {d : Addr} {kvs : List (Key × V)} (hd : H d = some (.dK kvs)) (q : Q (decide (0 < r) && !(valV kvs (.inl (r : Int))).isSome) H) :
    tAnd (tTest (tOp (rI0 fun i j => V.bl (decide (j < i))) (tVar 2) (tC (V.int 0)))) (tTest (tOp (fun y x H Q => ∃ a o, x = V.ref a ∧ DGet H a y o ∧ Q (V.bl !o.isSome) H) (tVar 2) (tVar 3))) [a0, a1, some (.int (r : Int)), some (.ref d), a4, a5] H Q := by
  refine ⟨_, rfl, _, _, rfl, rfl, _, rfl, ?_⟩
  by_cases c : 0 < r
  · rw [decide_eq_true c, Bool.true_and] at q
    rw [decide_eq_true (by omega)]
    exact iteT ⟨_, rfl, _, rfl, d, _, rfl, DGet.k (k := .inl (r : Int)) hd, _, rfl, q⟩
  · rw [decide_eq_false c, Bool.false_and] at q
    rw [decide_eq_false (by omega)]
    exact iteF q
noncomputable def spRests : Sp := fun vs H Q _ => ∃ u l : Nat, vs = [.int (u : Int), .int (l : Int)] ∧ 0 < l ∧ l ≤ 10000 ∧ ∀ pp p1 p2 n b H', Same H H' → H' pp = some (.tup [.ref p1, .ref p2]) → H' p1 = some (.tup (vnats ((rsL l u n).take b))) → H' p2 = some (.tup (vnats ((rsL l u n).drop b))) → RF l u n b → Q (.ref pp) H'
noncomputable def spNT : Sp := fun vs H Q _ => ∃ (p : Addr) (ns : List Nat), vs = [.ref p] ∧ H p = some (.tup (vnats ns)) ∧ Q (.int ((nt ns : Nat) : Int)) H
noncomputable def spHalves : Sp := fun vs H Q _ => ∃ (p1 p2 : Addr) (xs ys : List Nat), vs = [.ref p1, .ref p2] ∧ H p1 = some (.tup (vnats xs)) ∧ H p2 = some (.tup (vnats ys)) ∧ xs.length + ys.length ≤ 6000 ∧ (∀ x ∈ xs, x ≤ 10000) ∧ (∀ x ∈ ys, x ≤ 10000) ∧
  ∀ p H', Same H H' → H' p = some (.tup (frV (hvU xs ys) (hvL xs ys))) → Q (.ref p) H'
section
variable {P : Program} {w : World} {K : PySem.W.Frag} {mg : Str → Option Value} {base : Heap} {f : Addr} {fd : FuncData}
theorem ok_number_in_twos (F_number_in_twos : Fun K "number_in_twos" "number_in_twos" s_number_in_twos f fd) : FnOk P w K mg base CX0 1 f fd p_number_in_twos spNT := by
  refine F_number_in_twos.ok sc_number_in_twos (fun vs H Q E h => ?_) (fun cdv A outer s H vs Q E hr h => ?_)
  · obtain ⟨p, ns, rfl, _⟩ := h
    rfl
  obtain ⟨p, ns, rfl, hp, q⟩ := h
  refine ⟨_, (pss_cons (ps_set (i := 1) sc_number_in_twos.nd rfl (Or.inl rfl) pe_int)
      (pss_cons (ps_for PassesOwn.never rfl (pi_tup (pv 0)) (pg_name (i := 2) sc_number_in_twos.nd rfl (Or.inl rfl)) (pss_one (ps_set (i := 1) sc_number_in_twos.nd rfl (Or.inl rfl) (pe_op op_add (pe_op op_mul pe_int (pv 1)) (pv 2)))))
      (pss_one (ps_ret (pv 1))))), ?_⟩
  refine ⟨_, rfl, p, rfl, ⟨_, SqT.of hp⟩, for_tup (xs := vnats ns) (fun i σ' H' => ∃ o2 : Option V, σ' = [some (.ref p), some (.int ((nt (ns.take i) : Nat) : Int)), o2] ∧ H' = H)
    ⟨_, rfl, rfl⟩ (fun i σ' H' _ ⟨_, _, e⟩ => by rw [e]; exact SqT.of hp) ?_ ?_⟩
  · rintro i x σ' H' hx ⟨o2, rfl, rfl⟩
    have hi : i < ns.length := by
      have := (List.getElem?_eq_some_iff.mp hx).1
      rw [vnats_len] at this
      exact this
    rw [vnats_at hi] at hx
    obtain rfl := Option.some.inj hx
    refine ⟨_, rfl, _, _, rfl, rfl, .inl ⟨by decide, by decide⟩, _, rfl, _, _, rfl, rfl, some (.int ((ns.getD i 0 : Nat) : Int)), ?_, rfl⟩
    have tk : ns.take (i + 1) = ns.take i ++ [ns.getD i 0] := by
      rw [List.take_add_one, List.getElem?_eq_getElem hi, List.getD_eq_getElem?_getD, List.getElem?_eq_getElem hi]
      rfl
    rw [tk, nt_snoc, Int.natCast_add, Int.natCast_mul]
    rfl
  · rintro σ' H' ⟨o2, rfl, rfl⟩
    rw [vnats_len, List.take_length]
    exact ⟨_, rfl, q⟩
theorem ok_rests_of (F_rests_of : Fun K "rests_of" "rests_of" s_rests_of f fd) (B : Bl mg) : FnOk P w K mg base CX0 1 f fd p_rests_of spRests := by
  refine F_rests_of.ok sc_rests_of (fun vs H Q E h => ?_) (fun cdv A outer s H vs Q E hr h => ?_)
  · obtain ⟨u, l, rfl, _⟩ := h
    rfl
  obtain ⟨u, l, rfl, hl, hl2, q⟩ := h
  refine ⟨_, (pss_cons (ps_set (i := 2) sc_rests_of.nd rfl (Or.inl rfl) (pe_op op_mod (pv 0) (pv 1)))
      (pss_cons (ps_set (i := 3) sc_rests_of.nd rfl (Or.inl rfl) pe_dnewK)
      (pss_cons (ps_while PassesOwn.never (PW.pt (pw_and (pt_cmpR op_gt (pv 2) pe_int (nomark _)) (pw_and1 (pt_cmpR (op_notInD hr.units1) (pv 2) (pv 3) rfl)))) (pss_cons (ps_dput hr.units1 (pv 3) (pv 2) (pe_callB call_lenD rfl B.len_ L3.bt_len (pa_cons (pv 3) pa_nil)) rfl)
      (pss_one (ps_set (i := 2) sc_rests_of.nd rfl (Or.inl rfl) (pe_op op_mod (pe_op op_mul pe_int (pv 2)) (pv 1))))))
      (pss_cons (ps_set (i := 4) sc_rests_of.nd rfl (Or.inl rfl) (pe_callTy (call_tupleD rfl) rfl B.tuple_ L3.bt_tuple (pa_cons (pv 3) pa_nil)))
      (pss_cons (ps_set (i := 5) sc_rests_of.nd rfl (Or.inl rfl) (pe_dget2 hr.units1 (pv 3) (pv 2) (pe_callB call_len_seq rfl B.len_ L3.bt_len (pa_cons (pv 4) pa_nil)) ⟨rfl, rfl, rfl, rfl⟩))
      (pss_one (ps_ret (pe_tup (pa_cons (pe_slice3 (pv 4) po_none (po_some (pv 5)) po_none) (pa_cons (pe_slice3 (pv 4) (po_some (pv 5)) po_none po_none) pa_nil)))))))))), ?_⟩
  refine ⟨_, rfl, _, rfl, _, _, rfl, rfl, (by show (0 : Int) < (l : Int); omega), ?_⟩
  refine fun d fd' => ?_
  have yd := same_new fd' (.dK [])
  have wd : (upd H d (.dK [])) d = some (.dK (kvR l u 0)) := upd_same
  generalize upd H d (.dK []) = H1 at yd wd ⊢
  refine ⟨fun m σ' H' => ∃ n : Nat, m = ((List.range l).filter fun x => decide (x ∉ rsL l u n)).length ∧ n + m ≤ l ∧ σ' = [some (.int (u : Int)), some (.int (l : Int)), some (.int ((rst l u n : Nat) : Int)), some (.ref d), none, none] ∧ Same H H' ∧ H' d = some (.dK (kvR l u n)) ∧ (∀ k, k < n → 0 < rst l u k) ∧ (∀ i j, i < n → j < n → rst l u i = rst l u j → i = j),
    ⟨_, 0, rfl, ?_, ?_, yd, wd, fun k hk => by omega, fun i j hi => by omega⟩, ?_⟩
  · rw [Nat.zero_add]
    exact Nat.le_trans (List.length_filter_le _ _) (by rw [List.length_range]; exact Nat.le_refl _)
  · show _ = [_, _, some (V.int ((u % l : Nat) : Int)), _, _, _]
    rw [Int.natCast_emod]
    rfl
  rintro m σ' H2 ⟨n, hm, hnm, rfl, s2, hd2, hpos, hnd⟩
  refine rests_test hd2 ?_
  by_cases c : 0 < rst l u n ∧ ∀ k, k < n → rst l u k ≠ rst l u n
  · have hnone := kvR_none c.2
    rw [hnone, decide_eq_true c.1]
    refine iteT ⟨fun σ' H' => σ' = [some (.int (u : Int)), some (.int (l : Int)), some (.int ((rst l u (n + 1) : Nat) : Int)), some (.ref d), none, none] ∧ Same H H' ∧ H' d = some (.dK (kvR l u (n + 1))), fun σ' H' ⟨e1, s3, hd3⟩ => ?_, ?_⟩
    · have hlt : ((List.range l).filter fun x => decide (x ∉ rsL l u (n + 1))).length < m := by
        rw [hm]
        refine filt_lt (x := rst l u n) (fun y hy => ?_) (List.mem_range.mpr (rst_lt hl u n)) ?_ ?_
        · have hy' : y ∉ rsL l u (n + 1) := of_decide_eq_true hy
          exact decide_eq_true fun z => hy' (by rw [rsL_succ]; exact List.mem_append_left _ z)
        · refine decide_eq_true fun z => ?_
          obtain ⟨k, hk, e⟩ := rsL_mem.mp z
          exact c.2 k hk e
        · refine decide_eq_false fun z => z ?_
          rw [rsL_succ]
          exact List.mem_append_right _ (List.mem_singleton.mpr rfl)
      refine ⟨_, hlt, n + 1, rfl, by omega, e1, s3, hd3, fun k hk => ?_, fun i j hi hj e => ?_⟩
      · by_cases e : k = n
        · rw [e]; exact c.1
        · exact hpos k (by omega)
      · by_cases e1 : i = n
        · by_cases e2 : j = n
          · omega
          · rw [e1] at e
            exact absurd e.symm (c.2 j (by omega))
        · by_cases e2 : j = n
          · rw [e2] at e
            exact absurd e (c.2 i (by omega))
          · exact hnd i j (by omega) (by omega) e
    refine ⟨_, rfl, d, _, rfl, hd2, ?_⟩
    refine ⟨_, rfl, _, rfl, d, _, rfl, DPut.k (k := .inl ((rst l u n : Nat) : Int)) hd2 (smallL (by rw [kvR_len]; omega)), ?_⟩
    refine ⟨_, rfl, _, _, rfl, rfl, .inl ⟨by decide, by decide⟩, _, rfl, _, _, rfl, rfl, (by show (0 : Int) < (l : Int); omega), ?_, fun b o e => ?_, ?_⟩
    · show _ = [_, _, some (V.int ((2 * rst l u n % l : Nat) : Int)), _, _, _]
      rw [Int.natCast_emod, Int.natCast_mul]
      rfl
    · rw [upd_ne (ne_of_none e fd')]
      exact s2 _ _ e
    · rw [upd_same, putK_new _ hnone, kvR_succ, kvR_len]
  · obtain ⟨b, hRF, hget, hb⟩ : ∃ b, RF l u n b ∧ (valV (kvR l u n) (.inl ((rst l u n : Nat) : Int))).getD (.int (n : Int)) = .int (b : Int) ∧ (decide (0 < rst l u n) && !(valV (kvR l u n) (.inl ((rst l u n : Nat) : Int))).isSome) = false := by
      by_cases c0 : 0 < rst l u n
      · have : ∃ k, k < n ∧ rst l u k = rst l u n := Classical.byContradiction fun z => c ⟨c0, fun k hk e => z ⟨k, hk, e⟩⟩
        obtain ⟨k, hk, e⟩ := this
        have hs := kvR_some hnd hk
        rw [e] at hs
        refine ⟨k, ⟨hpos, hnd, by omega, by omega, .inr ⟨hk, e.symm⟩⟩, ?_, ?_⟩
        · rw [hs]; rfl
        · rw [hs]; simp
      · have h0 : rst l u n = 0 := by omega
        have hnone : valV (kvR l u n) (.inl ((rst l u n : Nat) : Int)) = none := kvR_none fun k hk e => by have := hpos k hk; omega
        refine ⟨n, ⟨hpos, hnd, Nat.le_refl _, by omega, .inl ⟨h0, rfl⟩⟩, ?_, ?_⟩
        · rw [hnone]; rfl
        · rw [decide_eq_false c0]; rfl
    rw [hb]
    refine iteF ⟨_, rfl, d, _, rfl, hd2, fun t ft => ?_⟩
    rw [kvR_keys]
    have yt := same_new ft (.tup (vnats (rsL l u n)))
    have wt : (upd H2 t (.tup (vnats (rsL l u n)))) t = some (.tup (vnats (rsL l u n))) := upd_same
    have hd3 := yt _ _ hd2
    generalize upd H2 t (.tup (vnats (rsL l u n))) = H3 at yt wt hd3 ⊢
    refine ⟨_, rfl, d, rfl, .inl ⟨_, .inl hd3⟩, _, rfl, _, rfl, t, _, rfl, .inr (SqT.of wt), _, DGet.k (k := .inl ((rst l u n : Nat) : Int)) hd3, ?_⟩
    rw [vnats_len, rsL_len, hget]
    refine ⟨_, rfl, _, rfl, _, rfl, sl_takeP (K := K) (m := b) rfl wt (by rw [vnats_len, rsL_len]; have := hRF.nl; omega) fun p1 H4 s4 h4 => ?_⟩
    refine ⟨_, rfl, _, rfl, _, rfl, sl_dropP (K := K) (m := b) rfl (s4 _ _ wt) (by rw [vnats_len, rsL_len]; exact hRF.le) (by rw [vnats_len, rsL_len]; have := hRF.nl; omega) fun p2 H5 s5 h5 => ?_⟩
    refine ⟨(by show 2 ≤ sizeLine; decide), fun pp fpp => ?_⟩
    have yp := same_new fpp (.tup [V.ref p1, V.ref p2])
    refine q pp p1 p2 n b _ (s2.trans (yt.trans (s4.trans (s5.trans yp)))) upd_same (yp _ _ (s5 _ _ ?_)) (yp _ _ ?_) hRF
    · rw [h4, vnats_take]
    · rw [h5, vnats_drop]
theorem ok_sum_by_halves (F_sum_by_halves : Fun K "sum_by_halves" "sum_by_halves" s_sum_by_halves f fd) (B : Bl mg) (g_number_in_twos : Fn P w K mg base "number_in_twos" p_number_in_twos 1 spNT) (g_fraction : Fn P w K mg base "fraction" p_fraction 2 spFrac) : FnOk P w K mg base CX0 3 f fd p_sum_by_halves spHalves := by
  refine F_sum_by_halves.ok sc_sum_by_halves (fun vs H Q E h => ?_) (fun cdv A outer s H vs Q E hr h => ?_)
  · obtain ⟨p1, p2, xs, ys, rfl, _⟩ := h
    rfl
  obtain ⟨p1, p2, xs, ys, rfl, h1, h2, hz, hx, hy, q⟩ := h
  refine ⟨_, (pss_cons (ps_set (i := 2) sc_sum_by_halves.nd rfl (Or.inl rfl) (pe_op op_shl pe_int (pe_callB call_len_seq rfl B.len_ L3.bt_len (pa_cons (pv 0) pa_nil))))
      (pss_cons (ps_set (i := 3) sc_sum_by_halves.nd rfl (Or.inl rfl) (pe_fn g_number_in_twos hr (pa_cons (pv 0) pa_nil)))
      (pss_cons (ps_if (pt_cmpR op_eq (pe_callB call_len_seq rfl B.len_ L3.bt_len (pa_cons (pv 1) pa_nil)) pe_int (nomark _)) (pss_one (ps_ret (pe_fn g_fraction hr (pa_cons (pv 3) (pa_cons (pv 2) pa_nil))))) pss_nil)
      (pss_cons (ps_set (i := 4) sc_sum_by_halves.nd rfl (Or.inl rfl) (pe_op op_sub (pe_op op_shl pe_int (pe_callB call_len_seq rfl B.len_ L3.bt_len (pa_cons (pv 1) pa_nil))) pe_int))
      (pss_one (ps_ret (pe_fn g_fraction hr (pa_cons (pe_op op_add (pe_op op_mulB (pv 3) (pv 4)) (pe_fn g_number_in_twos hr (pa_cons (pv 1) pa_nil))) (pa_cons (pe_op op_mulB (pv 2) (pv 4)) pa_nil))))))))), ?_⟩
  refine ⟨_, rfl, p1, _, rfl, .inr (SqT.of h1), _, _, rfl, rfl, ⟨by omega, by rw [vnats_len]; omega, by decide⟩, ?_⟩
  dsimp only
  rw [vnats_len, Int.toNat_natCast, Int.one_mul]
  have ep : ∀ n : Nat, ((2 : Int) ^ n) = ((2 ^ n : Nat) : Int) := fun n => by rw [Int.natCast_pow]; rfl
  rw [ep]
  refine ⟨_, rfl, p1, xs, rfl, h1, ?_⟩
  have fx : ∀ {c}, c ≤ 2 ^ xs.length → Fit c := fun {c} h => (fit_pow (n := xs.length) (c := 1) (by omega) (by decide)).le (by omega)
  have ax := nt_le hx
  have ay := nt_le hy
  refine ⟨_, rfl, p2, _, rfl, .inr (SqT.of h2), rfl, _, rfl, ?_⟩
  rw [vnats_len]
  by_cases c : ys = []
  · subst c
    rw [show decide (V.int ((([] : List Nat).length : Nat) : Int) = V.int 0) = true from rfl]
    refine iteT ⟨_, rfl, _, rfl, nt xs, 2 ^ xs.length, rfl, Nat.pow_pos (by decide), fx (Nat.le_refl _), q⟩
  · have hyl : 0 < ys.length := List.length_pos_iff.mpr c
    rw [show decide (V.int ((ys.length : Nat) : Int) = V.int 0) = false from decide_eq_false (fun z => by injection z with z; omega)]
    refine iteF ⟨_, rfl, p2, _, rfl, .inr (SqT.of h2), _, _, rfl, rfl, ⟨by omega, by rw [vnats_len]; omega, by decide⟩, _, _, rfl, rfl, ?_⟩
    dsimp only
    rw [vnats_len, Int.toNat_natCast, Int.one_mul, ep]
    have hy2 := two_pow_sub hyl
    have e1 : ((2 ^ ys.length : Nat) : Int) - 1 = ((2 ^ ys.length - 1 : Nat) : Int) := by omega
    rw [e1]
    have fy : Fit (2 ^ ys.length - 1) := (fit_pow (n := ys.length) (c := 1) (by omega) (by decide)).le (by omega)
    have fnx : Fit (nt xs) := (fit_pow (n := xs.length) (c := 10000) (by omega) (by decide)).le (by omega)
    refine ⟨_, rfl, _, rfl, _, _, rfl, rfl, ⟨fnx, fy⟩, _, rfl, p2, ys, rfl, h2, _, _, rfl, rfl, _, rfl, _, rfl, _, _, rfl, rfl, ⟨fx (Nat.le_refl _), fy⟩, ?_⟩
    refine ⟨nt xs * (2 ^ ys.length - 1) + nt ys, 2 ^ xs.length * (2 ^ ys.length - 1), by rw [Int.natCast_add, Int.natCast_mul, Int.natCast_mul]; rfl, Nat.mul_pos (Nat.pow_pos (by decide)) hy2, ?_, ?_⟩
    · refine (fit_pow (n := xs.length + ys.length) (c := 1) (by omega) (by decide)).le ?_
      rw [Nat.one_mul, Nat.pow_add]
      exact Nat.mul_le_mul_left _ (Nat.sub_le _ _)
    · unfold hvU hvL at q
      rw [if_neg c, if_neg c] at q
      exact q
end
noncomputable def spSizes : Sp := fun vs H Q _ => ∃ l : Nat, vs = [.int (l : Int)] ∧ 0 < l ∧ l ≤ 10000 ∧ ∀ pp p1 p2 n b H', Same H H' → H' pp = some (.tup [.ref p1, .ref p2]) → H' p1 = some (.tup (vnats ((rsL l 1 n).take b))) → H' p2 = some (.tup (vnats ((rsL l 1 n).drop b))) → RF l 1 n b → Q (.ref pp) H'
noncomputable def spMeanE : Sp := fun vs H Q _ => ∃ m : Nat, vs = [.int (m : Int)] ∧ 0 < m ∧ m ≤ 5000 ∧ ∀ p n b H', Same H H' → RF m 1 n b → H' p = some (.tup (frV (2 * hU m 1 n b) (hL m 1 n b))) → Q (.ref p) H'
theorem fit_mean {m n b : Nat} (hm : 0 < m) (hm2 : m ≤ 5000) (h : RF m 1 n b) : Fit (hU m 1 n b) ∧ Fit (hL m 1 n b) ∧ Fit (2 * hU m 1 n b) := by
  have h1 : hL m 1 n b ≤ 2 ^ n := hL_le
  have h2 := half_le (l := m) (u := 1) (n := n) (b := b) hm
  have hn := h.nl
  have h3 : m * hL m 1 n b ≤ m * 2 ^ n := Nat.mul_le_mul_left _ h1
  have h4 : 2 * m * 2 ^ n = 2 * (m * 2 ^ n) := Nat.mul_assoc _ _ _
  have f := fit_pow (n := n) (c := 2 * m) (by omega) (by omega)
  exact ⟨f.le (by omega), (fit_pow (n := n) (c := 1) (by omega) (by decide)).le (by omega), f.le (by omega)⟩
section
variable {P : Program} {w : World} {K : PySem.W.Frag} {mg : Str → Option Value} {base : Heap} {f : Addr} {fd : FuncData}
theorem ok_sizes_of (F_sizes_of : Fun K "sizes_of" "sizes_of" s_sizes_of f fd) (g_rests_of : Fn P w K mg base "rests_of" p_rests_of 1 spRests) : FnOk P w K mg base CX0 2 f fd p_sizes_of spSizes := by
  refine F_sizes_of.ok sc_sizes_of (fun vs H Q E h => ?_) (fun cdv A outer s H vs Q E hr h => ?_)
  · obtain ⟨l, rfl, _⟩ := h
    rfl
  obtain ⟨l, rfl, hl, hl2, q⟩ := h
  refine ⟨_, (pss_one (ps_ret (pe_fn g_rests_of hr (pa_cons pe_int (pa_cons (pv 0) pa_nil))))), ?_⟩
  exact ⟨_, rfl, 1, l, rfl, hl, hl2, q⟩
theorem ok_mean_even (F_mean_even : Fun K "mean_even" "mean_even" s_mean_even f fd) (g_sizes_of : Fn P w K mg base "sizes_of" p_sizes_of 2 spSizes) (g_sum_by_halves : Fn P w K mg base "sum_by_halves" p_sum_by_halves 3 spHalves) (g_fraction : Fn P w K mg base "fraction" p_fraction 2 spFrac) : FnOk P w K mg base CX0 4 f fd p_mean_even spMeanE := by
  refine F_mean_even.ok sc_mean_even (fun vs H Q E h => ?_) (fun cdv A outer s H vs Q E hr h => ?_)
  · obtain ⟨m, rfl, _⟩ := h
    rfl
  obtain ⟨m, rfl, hm, hm2, q⟩ := h
  refine ⟨_, (pss_cons (ps_set (i := 1) sc_mean_even.nd rfl (Or.inl rfl) (pe_fn g_sizes_of hr (pa_cons (pv 0) pa_nil)))
      (pss_cons (ps_set (i := 2) sc_mean_even.nd rfl (Or.inl rfl) (pe_fn g_sum_by_halves hr (pa_cons (pe_ix ix_tup (pv 1) pe_int (fun _ _ => rfl)) (pa_cons (pe_ix ix_tup (pv 1) pe_int (fun _ _ => rfl)) pa_nil))))
      (pss_one (ps_ret (pe_fn g_fraction hr (pa_cons (pe_op op_mulB pe_int (pe_ix ix_tup (pv 2) pe_int (fun _ _ => rfl))) (pa_cons (pe_ix ix_tup (pv 2) pe_int (fun _ _ => rfl)) pa_nil))))))), ?_⟩
  refine ⟨_, rfl, m, rfl, hm, by omega, fun pp p1 p2 n b H1 s1 hpp hp1 hp2 hRF => ?_⟩
  have hnl := hRF.nl
  refine ⟨_, rfl, pp, _, _, _, rfl, rfl, SqT.of hpp, rfl, _, rfl, pp, _, _, _, rfl, rfl, SqT.of hpp, rfl, p1, p2, _, _, rfl, hp1, hp2, ?_, ?_, ?_, fun ph H2 s2 hph => ?_⟩
  · rw [List.length_take, List.length_drop, rsL_len]; omega
  · exact fun x hx => Nat.le_trans (rsL_le hm x (List.mem_of_mem_take hx)) (by omega)
  · exact fun x hx => Nat.le_trans (rsL_le hm x (List.mem_of_mem_drop hx)) (by omega)
  obtain ⟨f1, f2, f3⟩ := fit_mean hm hm2 hRF
  have hM := hL_pos m 1 n b
  replace hph : H2 ph = some (.tup [.int (frU (hU m 1 n b) (hL m 1 n b) : Int), .int (frL (hU m 1 n b) (hL m 1 n b) : Int)]) := hph
  refine ⟨_, rfl, ph, _, _, _, rfl, rfl, SqT.of hph, rfl, _, _, rfl, rfl, ⟨.of (by decide), f1.le (frU_le _ _)⟩, _, rfl, ph, _, _, _, rfl, rfl, SqT.of hph, rfl, ?_⟩
  refine ⟨2 * frU (hU m 1 n b) (hL m 1 n b), frL (hU m 1 n b) (hL m 1 n b), by rw [Int.natCast_mul]; rfl, frL_pos hM, f2.le (frL_le _ _), fun p H3 s3 hp => ?_⟩
  have e := frV_scale (a := hU m 1 n b) (b := hL m 1 n b) (c := 2) (d := 1) hM (by decide) (by decide)
  rw [Nat.one_mul, Nat.one_mul] at e
  rw [e] at hp
  exact q p n b H3 (s1.trans (s2.trans s3)) hRF hp
end
noncomputable def MeanOk (T x y : Nat) : Prop := ∀ t, 2 * nt (rsL T 1 t) * y ≤ x * 2 ^ t
theorem nt_one : ∀ t, nt (rsL 1 1 t) = 0
  | 0 => rfl
  | t + 1 => by
    rw [rsL_succ, nt_snoc, nt_one t]
    have := rst_lt (l := 1) (by decide) 1 t
    omega
theorem mean_start : MeanOk 1 0 1 := fun t => by rw [nt_one]; omega
theorem mean_step {T k x y n b : Nat} (hT : 0 < T) (hk : 0 < k) (hy : 0 < y) (h : MeanOk T x y) (hr : RF k 1 n b) :
    MeanOk (T * k) (frU (x * frL (2 * hU k 1 n b) (hL k 1 n b) + frU (2 * hU k 1 n b) (hL k 1 n b) * y) (y * frL (2 * hU k 1 n b) (hL k 1 n b))) (frL (x * frL (2 * hU k 1 n b) (hL k 1 n b) + frU (2 * hU k 1 n b) (hL k 1 n b) * y) (y * frL (2 * hU k 1 n b) (hL k 1 n b))) := by
  intro t
  have hM := hL_pos k 1 n b
  have hc := fr_cross (2 * hU k 1 n b) (hL k 1 n b)
  have hv := frL_pos (u := 2 * hU k 1 n b) hM
  have hb := (half_between hk hr t).1
  have hn : nt (rsL (T * k) 1 t) ≤ nt (rsL T 1 t) + nt (rsL k 1 t) := by
    by_cases h1 : T = 1
    · subst h1
      rw [Nat.one_mul, nt_one]
      omega
    · exact nt_both (by omega) hk t
  have h0 := h t
  generalize frU (2 * hU k 1 n b) (hL k 1 n b) = z at *
  generalize frL (2 * hU k 1 n b) (hL k 1 n b) = v at *
  generalize hU k 1 n b = N at *
  generalize hL k 1 n b = M at *
  generalize nt (rsL k 1 t) = s2 at *
  generalize nt (rsL T 1 t) = s1 at *
  generalize nt (rsL (T * k) 1 t) = s3 at *
  generalize 2 ^ t = P at *
  have e2 : 2 * s2 * v ≤ z * P := by
    refine Nat.le_of_mul_le_mul_right (c := M) ?_ hM
    calc 2 * s2 * v * M = 2 * v * (s2 * M) := by grind
      _ ≤ 2 * v * (N * P) := Nat.mul_le_mul_left _ hb
      _ = 2 * N * v * P := by grind
      _ = z * M * P := by rw [hc]
      _ = z * P * M := by grind
  have key : 2 * s3 * (y * v) ≤ (x * v + z * y) * P := by
    calc 2 * s3 * (y * v) ≤ 2 * (s1 + s2) * (y * v) := Nat.mul_le_mul_right _ (Nat.mul_le_mul_left _ hn)
      _ = (2 * s1 * y) * v + (2 * s2 * v) * y := by grind
      _ ≤ (x * P) * v + (z * P) * y := Nat.add_le_add (Nat.mul_le_mul_right _ h0) (Nat.mul_le_mul_right _ e2)
      _ = (x * v + z * y) * P := by grind
  have hpos : 0 < y * v := Nat.mul_pos hy hv
  have hg := gcd_pos (u := x * v + z * y) hpos
  have g1 := frU_mul (x * v + z * y) (y * v)
  have g2 := frL_mul (x * v + z * y) (y * v)
  generalize frU (x * v + z * y) (y * v) = X at *
  generalize frL (x * v + z * y) (y * v) = Y at *
  generalize Nat.gcd (x * v + z * y) (y * v) = g at *
  refine Nat.le_of_mul_le_mul_right (c := g) ?_ hg
  calc 2 * s3 * Y * g = 2 * s3 * (Y * g) := by grind
    _ = 2 * s3 * (y * v) := by rw [g2]
    _ ≤ (x * v + z * y) * P := key
    _ = X * g * P := by rw [g1]
    _ = X * P * g := by grind
theorem mean_end {T n b x y : Nat} (hT : 0 < T) (h : MeanOk T x y) (hr : RF T 1 n b) : frU (2 * hU T 1 n b) (hL T 1 n b) * y ≤ x * frL (2 * hU T 1 n b) (hL T 1 n b) := by
  have hM := hL_pos T 1 n b
  have main : 2 * hU T 1 n b * y ≤ x * hL T 1 n b := by
    have key : ∀ t, 2 * hU T 1 n b * y * 2 ^ t ≤ x * hL T 1 n b * 2 ^ t + 2 * T * y * hL T 1 n b := fun t => by
      have a := (half_between hT hr t).2
      have a4 : (if rst T 1 t = 0 then 0 else T) ≤ T := by split <;> omega
      have h0 := h t
      generalize (if rst T 1 t = 0 then 0 else T) = L at *
      generalize hU T 1 n b = N at *
      generalize hL T 1 n b = M at *
      generalize nt (rsL T 1 t) = S at *
      generalize 2 ^ t = P at *
      calc 2 * N * y * P = 2 * y * (N * P) := by grind
        _ ≤ 2 * y * ((S + L) * M) := Nat.mul_le_mul_left _ a
        _ ≤ 2 * y * ((S + T) * M) := Nat.mul_le_mul_left _ (Nat.mul_le_mul_right _ (by omega))
        _ = (2 * S * y) * M + 2 * T * y * M := by grind
        _ ≤ x * P * M + 2 * T * y * M := Nat.add_le_add_right (Nat.mul_le_mul_right _ h0) _
        _ = x * M * P + 2 * T * y * M := by grind
    generalize 2 * hU T 1 n b * y = A at *
    generalize x * hL T 1 n b = C at *
    generalize 2 * T * y * hL T 1 n b = D at *
    refine Nat.le_of_not_lt fun hlt => ?_
    have h1 := key D
    have h2 : (C + 1) * 2 ^ D ≤ A * 2 ^ D := Nat.mul_le_mul_right _ hlt
    have h3 : D < 2 ^ D := Nat.lt_two_pow_self
    rw [Nat.add_mul, Nat.one_mul] at h2
    omega
  have hc := fr_cross (2 * hU T 1 n b) (hL T 1 n b)
  generalize frU (2 * hU T 1 n b) (hL T 1 n b) = X at *
  generalize frL (2 * hU T 1 n b) (hL T 1 n b) = Y at *
  generalize 2 * hU T 1 n b = N at *
  generalize hL T 1 n b = M at *
  refine Nat.le_of_mul_le_mul_right (c := M) ?_ hM
  calc X * y * M = X * M * y := by grind
    _ = N * Y * y := by rw [hc]
    _ = N * y * Y := by grind
    _ ≤ x * M * Y := Nat.mul_le_mul_right _ main
    _ = x * Y * M := by grind
theorem fit64 {n : Nat} (h : n ≤ 2 ^ 100) : Fit n := by
  have := fit_pow (n := 100) (c := 1) (by decide) (by decide)
  rw [Nat.one_mul] at this
  exact this.le h
theorem mean_small {k n b : Nat} (hk : 0 < k) (hk6 : k ≤ 6) (h : RF k 1 n b) : frU (2 * hU k 1 n b) (hL k 1 n b) ≤ 768 ∧ frL (2 * hU k 1 n b) (hL k 1 n b) ≤ 64 := by
  have h1 : hL k 1 n b ≤ 2 ^ n := hL_le
  have h2 := half_le (l := k) (u := 1) (n := n) (b := b) hk
  have hn := h.nl
  have h3 : 2 ^ n ≤ 2 ^ 6 := Nat.pow_le_pow_right (by decide) (by omega)
  have h4 : k * hL k 1 n b ≤ 6 * 64 := Nat.mul_le_mul hk6 (by omega)
  have h5 := frU_le (2 * hU k 1 n b) (hL k 1 n b)
  have h6 := frL_le (2 * hU k 1 n b) (hL k 1 n b)
  constructor <;> omega
theorem mean_bound {x y z v i : Nat} (hx : x ≤ 2 ^ (12 * i)) (hy : y ≤ 2 ^ (12 * i)) (hz : z ≤ 768) (hv : v ≤ 64) : frU (x * v + z * y) (y * v) ≤ 2 ^ (12 * (i + 1)) ∧ frL (x * v + z * y) (y * v) ≤ 2 ^ (12 * (i + 1)) := by
  have e : 2 ^ (12 * (i + 1)) = 2 ^ (12 * i) * 4096 := by rw [Nat.mul_add, Nat.pow_add]
  have h1 := frU_le (x * v + z * y) (y * v)
  have h2 := frL_le (x * v + z * y) (y * v)
  have h3 : x * v ≤ 2 ^ (12 * i) * 64 := Nat.mul_le_mul hx hv
  have h4 : z * y ≤ 768 * 2 ^ (12 * i) := Nat.mul_le_mul hz hy
  have h5 : y * v ≤ 2 ^ (12 * i) * 64 := Nat.mul_le_mul hy hv
  constructor <;> omega
theorem prod_le6 : ∀ {rs : List Nat}, (∀ x ∈ rs, x ≤ 6) → prodL rs ≤ 6 ^ rs.length
  | [], _ => Nat.le_refl _
  | r :: rs, h => by
    rw [prodL, List.length_cons, Nat.pow_succ, Nat.mul_comm (6 ^ _)]
    exact Nat.mul_le_mul (h r List.mem_cons_self) (prod_le6 fun x hx => h x (List.mem_cons_of_mem _ hx))
theorem puts_rep (c : Int) : ∀ k, putsK (List.replicate (k + 1) ((Sum.inl c : Key), V.int 0)) [] = [((Sum.inl c : Key), V.int 0)] := by
  have step : ∀ k, putsK (List.replicate k ((Sum.inl c : Key), V.int 0)) [((Sum.inl c : Key), V.int 0)] = [((Sum.inl c : Key), V.int 0)] := by
    intro k
    induction k with
    | zero => rfl
    | succ k ih =>
      show putsK (List.replicate k _) (putK [((Sum.inl c : Key), V.int 0)] (Sum.inl c) (V.int 0)) = _
      have : putK [((Sum.inl c : Key), V.int 0)] (Sum.inl c) (V.int 0) = [((Sum.inl c : Key), V.int 0)] := by simp [putK]
      rw [this]
      exact ih
  intro k
  show putsK (List.replicate k _) (putK [] (Sum.inl c) (V.int 0)) = _
  exact step k
theorem sum_rep (k c : Nat) : (List.replicate k c).sum = k * c := by
  induction k with
  | zero => simp
  | succ k ih => rw [List.replicate_succ, List.sum_cons, ih, Nat.add_mul]; omega
theorem map_const (m c : Nat) : (List.range m).map (fun _ => c) = List.replicate m c := by
  rw [List.map_const', List.length_range]
theorem count_ev {m long : Nat} (j : Nat) : ((List.range (2 ^ long)).map fun i => resP (evF m (bitsOf long i))).countP (fun z => eqV z (.int (j : Int))) = hits (evF m) j (rows long) := by
  unfold hits
  rw [rows_bits, List.countP_map, List.filter_map, List.length_map, List.countP_eq_length_filter]
  congr 1
  refine List.filter_congr fun i _ => ?_
  show eqV (resP (evF m (bitsOf long i))) _ = ((evF m (bitsOf long i)).map (·.1) == some j)
  cases evF m (bitsOf long i) with
  | none => rfl
  | some p =>
    show ((p.1 : Int) == (j : Int)) = (some p.1 == some j)
    by_cases c : p.1 = j
    · rw [c]; simp
    · have e2 : (some p.1 == some j) = false := by simpa using c
      rw [e2, beq_eq_false_iff_ne]
      omega
section
variable {P : Program} {w : World} {K : PySem.W.Frag} {mg : Str → Option Value} {base : Heap} {f C CP : Addr} {fd : FuncData}
theorem ok_law (F_law : Fun K "law" "law" s_law f fd) (B : Bl mg) (g__law_draw : Fn P w K mg base "_law_draw" p__law_draw 1 (spDraw K)) (g__law_every : Fn P w K mg base "_law_every" p__law_every 1 spEvery) (g__law_plus : Fn P w K mg base "_law_plus" p__law_plus 2 spPlus) (g_mean_even : Fn P w K mg base "mean_even" p_mean_even 4 spMeanE)
    (g__law_told : Fn P w K mg base "_law_told" p__law_told 7 spTold42) (g_place_of_figures : Fn P w K mg base "place_of_figures" p_place_of_figures 1 (spPlaceQ true)) (g__law_order : Fn P w K mg base "_law_order" p__law_order 8 spLO) : FnOk P w K mg base CX0 12 f fd p_law (spLaw K) := by
  refine F_law.ok sc_law (fun vs H Q E h => ?_) (fun cdv A outer s H vs Q E hr h => ?_)
  · obtain ⟨a, ns, rfl, _⟩ := h
    rfl
  obtain ⟨a, ns, rfl, hS, h63, q⟩ := h
  refine ⟨_, (pss_cons (ps_set (i := 1) sc_law.nd rfl (Or.inr rfl) (pe_lst pa_nil))
      (pss_cons (ps_for PassesOwn.never rfl (pi_range1 rfl B.range_ (pa_cons pe_int pa_nil)) (pg_name (i := 2) sc_law.nd rfl (Or.inl rfl)) (pss_cons (ps_set (i := 3) sc_law.nd rfl (Or.inl rfl) (pe_callTy call_tuple_of rfl B.tuple_ L3.bt_tuple (pa_cons (pe_comp [] ["_law_script", "_law_town", "_law_k", "_law_radices", "_law_rows", "_law_total", "_law_mean", "_law_radix", "_law_one_here", "_law_other", "_law_both", "_law_row", "_law_first", "_law_second", "_law_place", "_law_many", "_law_said", "_law_count", "_law_j"] 1 rfl (pi_range1 rfl B.range_ (pa_cons (pe_op op_add pe_int (pe_fn g__law_draw hr (pa_cons (pv 0) (pa_cons (pv 1) (pa_cons pe_int pa_nil))))) pa_nil)) (fun _ _ _ _ _ => (pg_name (i := 18) nd_1 rfl (Or.inl rfl) (Or.inr rfl))) (fun _ _ _ _ _ => pif_nil) (fun _ _ _ _ _ => (pe_op op_add pe_int (pe_fn g__law_draw hr (pa_cons (pv 0) (pa_cons (pv 1) (pa_cons pe_int pa_nil))))))) pa_nil)))
      (pss_cons (ps_set (i := 4) sc_law.nd rfl (Or.inr rfl) (pe_fn g__law_every hr (pa_cons (pe_fn g__law_draw hr (pa_cons (pv 0) (pa_cons (pv 1) (pa_cons pe_int pa_nil)))) pa_nil)))
      (pss_cons (ps_asg (pe_tup (pa_cons pe_int (pa_cons (pe_tup (pa_cons pe_int (pa_cons pe_int pa_nil))) pa_nil))) (pg_tup rfl (pgs_cons (pg_name (i := 5) sc_law.nd rfl (Or.inl rfl)) (pgs_cons (pg_name (i := 6) sc_law.nd rfl (Or.inl rfl)) pgs_nil))))
      (pss_cons (ps_for PassesOwn.never rfl (pi_tup (pv 3)) (pg_name (i := 7) sc_law.nd rfl (Or.inl rfl)) (pss_one (ps_par (i := 5) (j := 6) rfl sc_law.nd rfl rfl (by decide) rfl rfl (pa_cons (pe_op op_mul (pv 5) (pv 7)) (pa_cons (pe_fn g__law_plus hr (pa_cons (pv 6) (pa_cons (pe_fn g_mean_even hr (pa_cons (pv 7) pa_nil)) pa_nil))) pa_nil)) rfl)))
      (pss_cons (ps_par3 (i := 8) (j := 9) (k := 10) rfl sc_law.nd rfl rfl rfl (by decide) (by decide) (by decide) rfl rfl rfl (pa_cons (pe_op op_rep (pe_lst (pa_cons pe_int pa_nil)) (pv 5)) (pa_cons (pe_op op_rep (pe_lst (pa_cons pe_int pa_nil)) (pv 5)) (pa_cons (pe_fn g_mean_even hr (pa_cons (pv 5) pa_nil)) pa_nil))) rfl)
      (pss_cons (ps_for PassesOwn.never rfl (pi_list (pv 4)) (pg_name (i := 11) sc_law.nd rfl (Or.inl rfl)) (pss_cons (ps_asg (pe_fn g__law_told hr (pa_cons (pv 11) (pa_cons (pv 3) pa_nil))) (pg_tup rfl (pgs_cons (pg_name (i := 12) sc_law.nd rfl (Or.inl rfl)) (pgs_cons (pg_name (i := 13) sc_law.nd rfl (Or.inl rfl)) pgs_nil))))
      (pss_cons (ps_join (ps_if (pt_cmpR op_notN (pv 12) pe_non (nomark _)) (pss_cons (ps_set (i := 14) sc_law.nd rfl (Or.inl rfl) (pe_fn g_place_of_figures hr (pa_cons (pv 3) (pa_cons (pv 12) pa_nil))))
      (pss_one (ps_asg (pe_op op_add (pe_ix ix_list (pv 8) (pv 14) (fun _ _ => rfl)) pe_int) (pg_sub (pv 8) (pv 14) set_list)))) pss_nil))
      (pss_one (ps_joinN (ps_if (pt_cmpR op_notN (pv 13) pe_non (nomark _)) (pss_cons (ps_set (i := 14) sc_law.nd rfl (Or.inl rfl) (pe_fn g_place_of_figures hr (pa_cons (pv 3) (pa_cons (pv 13) pa_nil))))
      (pss_one (ps_asg (pe_op op_add (pe_ix ix_list (pv 9) (pv 14) (fun _ _ => rfl)) pe_int) (pg_sub (pv 9) (pv 14) set_list)))) pss_nil))))))
      (pss_cons (ps_if (PW.pt (pw_or (pt_cmpR (op_neLI hr.units) (pv 8) (pe_op op_rep (pe_lst (pa_cons (pe_op op_fdiv (pe_callB (call_len_seqK K rfl) rfl B.len_ L3.bt_len (pa_cons (pv 4) pa_nil)) (pv 5)) pa_nil)) (pv 5)) (nomark _)) (pw_or1 (pt_cmpR op_ne (pe_callB call_lenD rfl B.len_ L3.bt_len (pa_cons (pe_callTy (call_dictL rfl) rfl B.dict_ L3.bt_dict (pa_cons (pe_comp [15] ["_law_script", "_law_town", "_law_k", "_law_radices", "_law_rows", "_law_total", "_law_mean", "_law_radix", "_law_one_here", "_law_other", "_law_both", "_law_row", "_law_first", "_law_second", "_law_place", "_law_many", "_law_said", "_law_count"] 0 rfl (pi_list (pv 9)) (fun _ _ _ _ _ => (pg_name (i := 15) nd_2 rfl (Or.inl rfl) (Or.inr rfl))) (fun _ _ _ _ _ => pif_nil) (fun _ _ _ _ _ => (pe_tup (pa_cons (pv 15) (pa_cons pe_int pa_nil))))) pa_nil)) pa_nil)) pe_int (nomark _))))) (pss_one (ps_ret pe_bl)) pss_nil)
      (pss_cons (ps_if (PW.pt (pw_or (pt_cmpR op_gt (pe_callB (call_sumL rfl) rfl B.sum_ L3.bt_sum (pa_cons (pv 9) pa_nil)) (pe_callB (call_sumL rfl) rfl B.sum_ L3.bt_sum (pa_cons (pv 8) pa_nil)) (nomark _)) (pw_or1 (pt_cmpR op_gt (pe_op op_mulB (pe_ix ix_tup (pv 10) pe_int (fun _ _ => rfl)) (pe_ix ix_tup (pv 6) pe_int (fun _ _ => rfl))) (pe_op op_mulB (pe_ix ix_tup (pv 6) pe_int (fun _ _ => rfl)) (pe_ix ix_tup (pv 10) pe_int (fun _ _ => rfl))) (nomark _))))) (pss_one (ps_ret pe_bl)) pss_nil)
      (pss_cons (ps_set (i := 15) sc_law.nd rfl (Or.inr rfl) (pe_op op_add pe_int (pe_fn g__law_draw hr (pa_cons (pv 0) (pa_cons (pv 1) (pa_cons pe_int pa_nil))))))
      (pss_cons (ps_set (i := 16) sc_law.nd rfl (Or.inr rfl) (pe_comp [11] ["_law_script", "_law_town", "_law_k", "_law_radices", "_law_rows", "_law_total", "_law_mean", "_law_radix", "_law_one_here", "_law_other", "_law_both", "_law_row", "_law_first", "_law_second", "_law_place", "_law_many", "_law_said", "_law_count"] 0 rfl (pi_list (pv 4)) (fun _ _ _ _ _ => (pg_name (i := 11) nd_3 rfl (Or.inl rfl) (Or.inr rfl))) (fun _ _ _ _ _ => pif_nil) (fun _ _ _ _ _ => (pe_fn g__law_order hr (pa_cons (pv 11) (pa_cons (pv 15) pa_nil))))))
      (pss_cons (ps_set (i := 17) sc_law.nd rfl (Or.inr rfl) (pe_ix ix_list (pe_lst (pa_cons pe_int (pa_cons pe_int (pa_cons pe_int (pa_cons pe_int (pa_cons pe_int pa_nil)))))) (pv 15) (fun _ _ => rfl)))
      (pss_one (ps_if (pt_truth (pe_comp [14] ["_law_script", "_law_town", "_law_k", "_law_radices", "_law_rows", "_law_total", "_law_mean", "_law_radix", "_law_one_here", "_law_other", "_law_both", "_law_row", "_law_first", "_law_second", "_law_place", "_law_many", "_law_said", "_law_count"] 0 rfl (pi_range1 rfl B.range_ (pa_cons (pv 17) pa_nil)) (fun _ _ _ _ _ => (pg_name (i := 14) nd_4 rfl (Or.inl rfl) (Or.inr rfl))) (fun _ _ _ _ _ => (pif_one (pt_cmpR op_ne (pe_bmK K rfl PySem.F.plainAttrs_list PySem.F.slot_list_count PySem.F.type_list_count mt_count (pv 16) (pa_cons (pv 14) pa_nil)) (pe_op op_fdiv (pe_callB (call_len_seqK K rfl) rfl B.len_ L3.bt_len (pa_cons (pv 4) pa_nil)) (pv 17)) (nomark _)))) (fun _ _ _ _ _ => (pv 14))) (fun _ => rfl)) (pss_one (ps_ret pe_bl)) pss_nil))))))))))))))
      (pss_one (ps_ret pe_bl)))), ?_⟩
  refine ⟨(by show 0 ≤ sizeLine; decide), fun t ft => ?_⟩
  have sT := same_new ft (.lst ([] : List V))
  have hT : Twn (upd H t (.lst [])) t 0 := upd_same
  replace hS := sT.scr hS
  generalize upd H t (.lst []) = H0 at hS hT
  refine ⟨2, rfl, by decide, by decide, for_range (lo := 0) (n := 2) (fun i σ' H' => ∃ (k : Nat) (o2 o3 o4 o5 o6 o7 o8 o9 o10 o11 o12 o13 o14 o15 o16 o17 : Option V), σ' = [some (.ref a), some (.ref t), o2, o3, o4, o5, o6, o7, o8, o9, o10, o11, o12, o13, o14, o15, o16, o17] ∧ Scr K H' a ns ∧ Twn H' t k ∧ k ≤ 100 * i)
    ⟨0, _, _, _, _, _, _, _, _, _, _, _, _, _, _, _, _, rfl, hS, hT, by omega⟩ ?_ ?_⟩
  rotate_left
  · rintro σ H1 ⟨k, o2, o3, o4, o5, o6, o7, o8, o9, o10, o11, o12, o13, o14, o15, o16, o17, rfl, hS1, hT1, hk1⟩
    exact q H1
  rintro i σ H1 hi ⟨k, o2, o3, o4, o5, o6, o7, o8, o9, o10, o11, o12, o13, o14, o15, o16, o17, rfl, hS1, hT1, hk1⟩
  -- radices
  refine ⟨_, rfl, _, rfl, a, t, ns, k, 3, rfl, hS1, h63, hT1, by omega, by decide, fun H2 g2 t2 => ?_⟩
  have e0 := drw_nn ns (k + 1) (show (0 : Int) < 3 by decide)
  have e1 := drw_lt ns (k + 1) (show (0 : Int) < 3 by decide)
  generalize drw ns (k + 1) 3 = dd at e0 e1
  obtain ⟨d, rfl⟩ := nat_of e0
  have hS2 := g2.scr hT1 hS1
  refine ⟨_, _, rfl, rfl, _, rfl, by omega, by omega, ?_⟩
  rw [show ((1 : Int) + (d : Int)).toNat = d + 1 by omega]
  refine comp_range (fun j acc σ' H' => ∃ (rs : List Nat) (o : Option V), acc = vnats rs ∧ rs.length = j ∧ (∀ x ∈ rs, 0 < x ∧ x ≤ 6) ∧ Scr K H' a ns ∧ Twn H' t (k + 1 + j) ∧ σ' = [some (.ref a), some (.ref t), some (.int (0 + (i : Int))), o3, o4, o5, o6, o7, o8, o9, o10, o11, o12, o13, o14, o15, o16, o17, o])
    ⟨[], _, rfl, rfl, (fun x hx => by cases hx), hS2, t2, rfl⟩ (fun j acc σ' H' hj ⟨rs, _, e, hl, _⟩ => by rw [e, vnats_len]; omega) ?_ ?_
  · rintro j acc σ' H' hj ⟨rs, o, rfl, hl, hb, hS', t', rfl⟩
    refine ⟨_, rfl, _, rfl, a, t, ns, k + 1 + j, 6, rfl, hS', h63, t', by omega, by decide, fun H3 g3 t3 => ?_⟩
    have e2 := drw_nn ns (k + 1 + j + 1) (show (0 : Int) < 6 by decide)
    have e3 := drw_lt ns (k + 1 + j + 1) (show (0 : Int) < 6 by decide)
    generalize drw ns (k + 1 + j + 1) 6 = dd at e2 e3
    obtain ⟨x, rfl⟩ := nat_of e2
    refine ⟨_, _, rfl, rfl, rs ++ [x + 1], _, ?_, by rw [List.length_append, hl]; rfl, fun y hy => ?_, g3.scr t' hS', t3, rfl⟩
    · rw [vnats_app]
      show _ = vnats rs ++ [V.int ((x + 1 : Nat) : Int)]
      rw [Int.natCast_add, Int.add_comm]
      rfl
    · rcases List.mem_append.mp hy with y1 | y1
      · exact hb y y1
      · have : y = x + 1 := by simpa using y1
        omega
  rintro acc σ' H3 D ⟨rs, o, rfl, hl, hb, hS3, t3, rfl⟩ fD
  have yD := same_new fD (.lst (vnats rs))
  have wD : (upd H3 D (.lst (vnats rs))) D = some (.lst (vnats rs)) := upd_same
  generalize upd H3 D (.lst (vnats rs)) = G1 at yD wD ⊢
  refine ⟨D, _, rfl, .inl ⟨SqL.of wD, fun rq frq => ?_⟩⟩
  have yq := same_new frq (.tup (vnats rs))
  have wq : (upd G1 rq (.tup (vnats rs))) rq = some (.tup (vnats rs)) := upd_same
  generalize upd G1 rq (.tup (vnats rs)) = H4 at yq wq ⊢
  have s4 := yD.trans yq
  have hS4 := s4.scr hS3
  have t4 := s4.twn t3
  have hrl : rs.length ≤ 3 := by omega
  have hr1 : 1 ≤ rs.length := by omega
  have hQ4 : Rad H4 rq rs := ⟨wq, fun x hx => (hb x hx).1, fun x hx => Nat.le_trans (hb x hx).2 (by decide), by omega⟩
  obtain ⟨k4, hk4e⟩ : ∃ k4, k4 = k + 1 + (d + 1) := ⟨_, rfl⟩
  rw [← hk4e] at t4
  have hk4 : k4 ≤ k + 4 := by omega
  have hp : 0 < prodL rs := prod_pos hQ4.pos
  have hp2 : prodL rs ≤ 216 := Nat.le_trans (prod_le6 fun x hx => (hb x hx).2) (Nat.pow_le_pow_right (n := 6) (by decide) hrl)
  clear yD wD yq wq s4 hS3 t3 fD frq hS2 t2 g2 hk4e hS1 hT1 e0 e1
  -- rows
  refine ⟨_, rfl, _, rfl, a, t, ns, k4, 10, rfl, hS4, h63, t4, by omega, by decide, fun H5 g5 t5 => ?_⟩
  have e0 := drw_nn ns (k4 + 1) (show (0 : Int) < 10 by decide)
  have e1 := drw_lt ns (k4 + 1) (show (0 : Int) < 10 by decide)
  generalize drw ns (k4 + 1) 10 = dd at e0 e1
  obtain ⟨long, rfl⟩ := nat_of e0
  have hS5 := g5.scr t4 hS4
  have wq5 := g5 _ _ (twn_tup t4 hQ4.at_) hQ4.at_
  refine ⟨long, rfl, by omega, fun lr ps H6 s6 flr R6 => ?_⟩
  have hS6 := s6.scr hS5
  have t6 := s6.twn t5
  have hQ6 : Rad H6 rq rs := ⟨s6 _ _ wq5, hQ4.pos, hQ4.le, hQ4.len⟩
  have l2 : 2 ^ long ≤ 512 := Nat.le_trans (Nat.pow_le_pow_right (n := 2) (by decide) (show long ≤ 9 by omega)) (by decide)
  have lp : 0 < 2 ^ long := Nat.pow_pos (by decide)
  clear hS4 t4 g5 hS5 t5 s6 flr hQ4 wq5
  -- the mean of each
  refine ⟨(by show 2 ≤ sizeLine; decide), fun m0 fm0 => ?_⟩
  have ym := same_new fm0 (.tup [V.int 0, V.int 1])
  have wm : (upd H6 m0 (.tup [V.int 0, V.int 1])) m0 = some (.tup [V.int 0, V.int 1]) := upd_same
  generalize upd H6 m0 (.tup [V.int 0, V.int 1]) = G1 at ym wm ⊢
  refine ⟨(by show 2 ≤ sizeLine; decide), fun p1 fp1 => ?_⟩
  have y1 := same_new fp1 (.tup [V.int 1, V.ref m0])
  have w1 : (upd G1 p1 (.tup [V.int 1, V.ref m0])) p1 = some (.tup [V.int 1, V.ref m0]) := upd_same
  generalize upd G1 p1 (.tup [V.int 1, V.ref m0]) = H7 at y1 w1 ⊢
  refine ⟨p1, _, rfl, SqT.of w1, rfl, _, _, rfl, _, _, rfl, rfl, ?_⟩
  have s7 := ym.trans y1
  have hS7 := s7.scr hS6
  have t7 := s7.twn t6
  have hQ7 := hQ6.same s7
  have R7 := R6.same s7
  have wm7 := y1 _ _ wm
  clear ym wm y1 w1 s7 hS6 t6 hQ6 R6 fm0 fp1
  refine ⟨_, rfl, rq, rfl, ⟨_, SqT.of hQ7.at_⟩, for_tup (xs := vnats rs) (fun j σ' H' => ∃ (mp : Addr) (x y : Nat) (o7 : Option V), σ' = [some (.ref a), some (.ref t), some (.int (0 + (i : Int))), some (.ref rq), some (.ref lr), some (.int (prodL (rs.take j) : Int)), some (.ref mp), o7, o8, o9, o10, o11, o12, o13, o14, o15, o16, o17] ∧ Same H7 H' ∧ H' mp = some (.tup [.int (x : Int), .int (y : Int)]) ∧ 0 < y ∧ x ≤ 2 ^ (12 * j) ∧ y ≤ 2 ^ (12 * j) ∧ MeanOk (prodL (rs.take j)) x y)
    ⟨m0, 0, 1, _, rfl, Same.refl _, wm7, by decide, by decide, by decide, by rw [List.take_zero]; exact mean_start⟩ (fun j σ' H' _ ⟨_, _, _, _, _, s, _⟩ => SqT.of (s _ _ hQ7.at_)) ?_ ?_⟩
  · rintro j v σ1 H8 hx ⟨mp, x, y, o7', rfl, s8, hm8, hy, bx, by_, hM⟩
    have hj : j < rs.length := by
      have := (List.getElem?_eq_some_iff.mp hx).1
      rwa [vnats_len] at this
    rw [vnats_at hj] at hx
    cases hx
    obtain ⟨hg, hg2⟩ := hQ7.get hj
    have hg6 : rs.getD j 0 ≤ 6 := (hb _ (by rw [List.getD_eq_getElem?_getD, List.getElem?_eq_getElem hj]; exact List.getElem_mem hj)).2
    have bx3 : 2 ^ (12 * j) ≤ 2 ^ 36 := Nat.pow_le_pow_right (by decide) (by omega)
    refine ⟨_, rfl, _, rfl, _, _, rfl, rfl, .inr ⟨by omega, by omega⟩, _, rfl, _, rfl, rs.getD j 0, rfl, hg, by omega, fun pe n b H9 s9 hRF he => ?_⟩
    obtain ⟨bz, bv⟩ := mean_small hg hg6 hRF
    have hv0 := frL_pos (u := 2 * hU (rs.getD j 0) 1 n b) (hL_pos (rs.getD j 0) 1 n b)
    have e64 : y * frL (2 * hU (rs.getD j 0) 1 n b) (hL (rs.getD j 0) 1 n b) ≤ 2 ^ 36 * 64 := Nat.mul_le_mul (Nat.le_trans by_ bx3) bv
    refine ⟨mp, pe, x, y, _, _, rfl, s9 _ _ hm8, he, hy, hv0, fit64 (by omega), fit64 (by omega), fit64 (by omega), fit64 (by omega), fit64 (by omega), fun pp H10 s10 hpp => ?_⟩
    have hmb := mean_bound bx by_ bz bv
    have hst := mean_step (prod_pos fun x hx => hQ7.pos x (List.mem_of_mem_take hx)) hg hy hM hRF
    refine ⟨_, _, rfl, pp, _, _, some (.int (rs.getD j 0 : Int)), ?_, s8.trans (s9.trans s10), hpp, frL_pos (Nat.mul_pos hy hv0), hmb.1, hmb.2, ?_⟩
    · rw [prod_take hj]
      rfl
    · rw [prod_take hj]
      exact hst
  rintro σ1 H8 ⟨mp, x, y, o7', rfl, s8, hm8, hy, bx, by_, hM⟩
  rw [vnats_len, List.take_length] at hM
  rw [vnats_len] at bx by_
  rw [vnats_len, List.take_length]
  have bx3 : 2 ^ (12 * rs.length) ≤ 2 ^ 36 := Nat.pow_le_pow_right (by decide) (by omega)
  have hS8 := s8.scr hS7
  have t8 := s8.twn t7
  have hQ8 := hQ7.same s8
  have R8 := R7.same s8
  clear s8 hS7 t7 hQ7 R7 wm7
  -- the lists of counts
  generalize hTe : prodL rs = T at *
  have z1 : ∀ (n : Nat), (List.replicate ((n : Int)).toNat [V.int 0]).flatten = vnats (List.replicate n 0) := fun n => by rw [Int.toNat_natCast, rep_flat, vnats_rep]; rfl
  refine ⟨(by show 1 ≤ sizeLine; decide), fun z0 fz0 => ?_⟩
  have y1 := same_new fz0 (.lst [V.int 0])
  have w1 : (upd H8 z0 (.lst [V.int 0])) z0 = some (.lst [V.int 0]) := upd_same
  generalize upd H8 z0 (.lst [V.int 0]) = G1 at y1 w1 ⊢
  refine ⟨_, rfl, z0, _, _, rfl, rfl, w1, by omega, by omega, (by show 1 * _ ≤ _; rw [Int.toNat_natCast]; exact small (by omega)), fun O fO => ?_⟩
  rw [z1]
  have nO : H8 O = none := by
    cases e : H8 O with
    | none => rfl
    | some o => have := y1 _ _ e; rw [fO] at this; cases this
  have y2 := same_new fO (.lst (vnats (List.replicate T 0)))
  have w2 : (upd G1 O (.lst (vnats (List.replicate T 0)))) O = some (.lst (vnats (List.replicate T 0))) := upd_same
  generalize upd G1 O (.lst (vnats (List.replicate T 0))) = G2 at y2 w2 ⊢
  refine ⟨(by show 1 ≤ sizeLine; decide), fun z2 fz2 => ?_⟩
  have y3 := same_new fz2 (.lst [V.int 0])
  have w3 : (upd G2 z2 (.lst [V.int 0])) z2 = some (.lst [V.int 0]) := upd_same
  generalize upd G2 z2 (.lst [V.int 0]) = G3 at y3 w3 ⊢
  refine ⟨_, rfl, z2, _, _, rfl, rfl, w3, by omega, by omega, (by show 1 * _ ≤ _; rw [Int.toNat_natCast]; exact small (by omega)), fun U fU => ?_⟩
  rw [z1]
  have nOU : O ≠ U := ne_of_none (y3 _ _ w2) fU
  have s83 := y1.trans (y2.trans y3)
  have nU : H8 U = none := by
    cases e : H8 U with
    | none => rfl
    | some o => have := s83 _ _ e; rw [fU] at this; cases this
  have y4 := same_new fU (.lst (vnats (List.replicate T 0)))
  have w4 : (upd G3 U (.lst (vnats (List.replicate T 0)))) U = some (.lst (vnats (List.replicate T 0))) := upd_same
  generalize upd G3 U (.lst (vnats (List.replicate T 0))) = G4 at y4 w4 ⊢
  refine ⟨_, rfl, T, rfl, hp, by omega, fun pe n b H9 s9 hRF he => ⟨_, _, _, rfl, ?_⟩⟩
  have s89 := s83.trans (y4.trans s9)
  have hO9 := s9 _ _ (y4 _ _ (y3 _ _ w2))
  have hU9 := s9 _ _ w4
  clear y1 w1 y2 w2 y3 w3 y4 w4 s83 s9 fz0 fO fz2 fU
  have peO : pe ≠ O := fun z => by rw [z, hO9] at he; cases he
  have peU : pe ≠ U := fun z => by rw [z, hU9] at he; cases he
  -- counted
  refine ⟨_, rfl, lr, rfl, ⟨_, SqL.of (R8.same s89).lst⟩, for_list (xs := ps.map V.ref) (fun j σ' H' => ∃ (o11 o12 o13 o14 : Option V), σ' = [some (.ref a), some (.ref t), some (.int (0 + (i : Int))), some (.ref rq), some (.ref lr), some (.int (T : Int)), some (.ref mp), o7', some (.ref O), some (.ref U), some (.ref pe), o11, o12, o13, o14, o15, o16, o17] ∧ Same H8 H' ∧ H' pe = some (.tup (frV (2 * hU T 1 n b) (hL T 1 n b))) ∧ H' O = some (.lst (vnats (cnt (evF T) T long j))) ∧ H' U = some (.lst (vnats (cnt (sqP rs) T long j))))
    ⟨_, _, _, _, rfl, s89, he, hO9, hU9⟩ (fun j σ' H' _ ⟨_, _, _, _, _, s, _⟩ => SqL.of (R8.same s).lst) ?_ ?_⟩
  · rintro j v σ1 H10 hx ⟨p11, p12, p13, p14, rfl, s10, hpe, hO, hUc⟩
    obtain ⟨r, hr2⟩ : ∃ r, ps[j]? = some r := by
      rw [List.getElem?_map] at hx
      cases e : ps[j]? with
      | none => rw [e] at hx; cases hx
      | some r => exact ⟨r, rfl⟩
    rw [List.getElem?_map, hr2] at hx
    cases hx
    have hrow := (R8.same s10).row j r hr2
    have hQ10 := hQ8.same s10
    refine ⟨_, rfl, _, rfl, r, rq, bitsOf long j, rs, rfl, hrow, hQ10, by omega, fun p fa fb H11 s11 hp11 hA hB => ?_⟩
    rw [hTe] at hA
    refine ⟨p, _, rfl, SqT.of hp11, rfl, _, _, rfl, _, _, rfl, rfl, ?_⟩
    have s811 := s10.trans s11
    refine ⟨fun σ' H' => ∃ o14 : Option V, σ' = [some (.ref a), some (.ref t), some (.int (0 + (i : Int))), some (.ref rq), some (.ref lr), some (.int (T : Int)), some (.ref mp), o7', some (.ref O), some (.ref U), some (.ref pe), some (.ref r), some fa, some fb, o14, o15, o16, o17] ∧ Same H8 H' ∧ H' pe = some (.tup (frV (2 * hU T 1 n b) (hL T 1 n b))) ∧ H' O = some (.lst (vnats (cnt (evF T) T long (j + 1)))) ∧ H' U = some (.lst (vnats (cnt (sqP rs) T long j))) ∧ FigV H' fb ((sqF rs (bitsOf long j)).map (·.1)), ?_, ?_⟩
    rotate_left
    · cases ev : evF T (bitsOf long j) with
      | none =>
        rw [ev] at hA
        cases (show fa = .non from hA)
        refine ⟨_, rfl, rfl, _, rfl, ite2 (fun c => absurd c (by decide)) (fun _ => ?_)⟩
        refine ⟨_, rfl, s811, s11 _ _ hpe, ?_, s11 _ _ hUc, hB⟩
        rw [cnt, ev]
        exact s11 _ _ hO
      | some pr =>
        obtain ⟨v, u⟩ := pr
        rw [ev] at hA
        obtain ⟨ta, rfl, hta⟩ := hA
        have hv := evF_lt ev
        refine ⟨_, rfl, rfl, _, rfl, ite2 (fun _ => ?_) (fun c => absurd (by rfl) c)⟩
        refine ⟨_, rfl, _, rfl, rq, ta, rs, figs rs v, rfl, hQ8.same s811, hta, figs_len _ _, fun H12 s12 => ?_⟩
        rw [poF_figs, Nat.zero_mul, Nat.zero_add, hTe, Nat.mod_eq_of_lt hv]
        have s812 := s811.trans s12
        have hO12 := s12 _ _ (s11 _ _ hO)
        have hlt : v < (cnt (evF T) T long j).length := by rw [cnt_length]; exact hv
        refine ⟨_, rfl, _, rfl, O, _, _, _, rfl, rfl, SqL.of hO12, atI_nat (vnats_at hlt), _, _, rfl, rfl, _, rfl, _, rfl, O, _, _, v, rfl, rfl, hO12, by rw [vnats_len]; exact ixN_nat hlt, ?_⟩
        refine ⟨_, rfl, fun c o e => ?_, ?_, ?_, ?_, ?_⟩
        · rw [upd_ne (ne_of_none e nO)]
          exact s812 _ _ e
        · rw [upd_ne peO]
          exact s12 _ _ (s11 _ _ hpe)
        · rw [upd_same, cnt, ev]
          show _ = some (HO.lst (vnats ((cnt (evF T) T long j).set v ((cnt (evF T) T long j).getD v 0 + 1))))
          rw [← vnats_set, Int.natCast_add]
          rfl
        · rw [upd_ne (Ne.symm nOU)]
          exact s12 _ _ (s11 _ _ hUc)
        · cases esq : (sqF rs (bitsOf long j)).map (·.1) with
          | none => rw [esq] at hB; exact hB
          | some fs =>
            rw [esq] at hB
            obtain ⟨tb, e1, e2⟩ := hB
            refine ⟨tb, e1, ?_⟩
            have h12 := s12 _ _ e2
            rw [upd_ne (fun z => by rw [z, hO12] at h12; cases h12)]
            exact h12
    rintro σ2 H12 ⟨q14, rfl, s12, hpe, hO, hUc, hB⟩
    refine ⟨fun σ' H' => ∃ o14 : Option V, σ' = [some (.ref a), some (.ref t), some (.int (0 + (i : Int))), some (.ref rq), some (.ref lr), some (.int (T : Int)), some (.ref mp), o7', some (.ref O), some (.ref U), some (.ref pe), some (.ref r), some fa, some fb, o14, o15, o16, o17] ∧ Same H8 H' ∧ H' pe = some (.tup (frV (2 * hU T 1 n b) (hL T 1 n b))) ∧ H' O = some (.lst (vnats (cnt (evF T) T long (j + 1)))) ∧ H' U = some (.lst (vnats (cnt (sqP rs) T long (j + 1)))), fun σ' H' ⟨o14, e1, e2, e3, e4, e5⟩ => ⟨_, _, _, o14, e1, e2, e3, e4, e5⟩, ?_⟩
    cases ev : sqF rs (bitsOf long j) with
    | none =>
      rw [ev] at hB
      cases (show fb = .non from hB)
      refine ⟨_, rfl, rfl, _, rfl, ite2 (fun c => absurd c (by decide)) (fun _ => ?_)⟩
      refine ⟨_, rfl, s12, hpe, hO, ?_⟩
      rw [cnt, sqP, ev]
      exact hUc
    | some pr =>
      obtain ⟨fs, u⟩ := pr
      rw [ev] at hB
      obtain ⟨tb, rfl, htb⟩ := hB
      have hbl := sqF_below ev
      have hv := val_lt hbl
      rw [hTe] at hv
      refine ⟨_, rfl, rfl, _, rfl, ite2 (fun _ => ?_) (fun c => absurd (by rfl) c)⟩
      refine ⟨_, rfl, _, rfl, rq, tb, rs, fs, rfl, hQ8.same s12, htb, hbl.len, fun H13 s13 => ?_⟩
      have s813 := s12.trans s13
      have hU13 := s13 _ _ hUc
      have hlt : poF 0 rs fs < (cnt (sqP rs) T long j).length := by rw [cnt_length]; exact hv
      refine ⟨_, rfl, _, rfl, U, _, _, _, rfl, rfl, SqL.of hU13, atI_nat (vnats_at hlt), _, _, rfl, rfl, _, rfl, _, rfl, U, _, _, poF 0 rs fs, rfl, rfl, hU13, by rw [vnats_len]; exact ixN_nat hlt, ?_⟩
      refine ⟨_, rfl, fun c o e => ?_, ?_, ?_, ?_⟩
      · rw [upd_ne (ne_of_none e nU)]
        exact s813 _ _ e
      · rw [upd_ne peU]
        exact s13 _ _ hpe
      · rw [upd_ne nOU]
        exact s13 _ _ hO
      · rw [upd_same, cnt, sqP, ev]
        show _ = some (HO.lst (vnats ((cnt (sqP rs) T long j).set (poF 0 rs fs) ((cnt (sqP rs) T long j).getD (poF 0 rs fs) 0 + 1))))
        rw [← vnats_set, Int.natCast_add]
        rfl
  rintro σ1 H10 ⟨p11, p12, p13, p14, rfl, s10, hpe, hO, hUc⟩
  rw [List.length_map, R8.len] at hO hUc
  have eO : cnt (evF T) T long (2 ^ long) = List.replicate T (2 ^ long / T) := by
    rw [cnt_all (evF T) (fun bs v u h => evF_lt h) (G := fun _ => 2 ^ long / T) (fun j hj => one_hits hj long), map_const]
  have eU : cnt (sqP rs) T long (2 ^ long) = List.replicate T (cK rs long) := by
    rw [cnt_all (sqP rs) (fun bs v u h => hTe ▸ sqP_lt h) (G := fun _ => cK rs long) (fun j hj => seq_hits hQ8.pos (hTe ▸ hj) long), map_const]
  rw [eO] at hO
  rw [eU] at hUc
  have hle : cK rs long ≤ 2 ^ long / T := by
    have := cK_le rs hQ8.pos long
    rw [hTe] at this
    exact (Nat.le_div_iff_mul_le hp).mpr this
  clear eO eU hO9 hU9 he s89
  have hS10 := s10.scr hS8
  have t10 := s10.twn t8
  have R10 := R8.same s10
  have hm10 := s10 _ _ hm8
  have sm : 2 ^ long / T ≤ 512 := Nat.le_trans (Nat.div_le_self _ _) l2
  clear hS8 t8 R8 hm8 hQ8
  -- as many as its share has whole, and all alike
  have em : (((ps.map V.ref).length : Nat) : Int) / (T : Int) = ((2 ^ long / T : Nat) : Int) := by
    rw [List.length_map, R10.len, ← Int.natCast_ediv]
  refine ⟨_, rfl, _, rfl, lr, _, rfl, .inl (SqL.of R10.lst), _, rfl, _, _, rfl, rfl, ⟨by omega, by omega⟩, (by show 1 ≤ sizeLine; decide), fun l1 fl1 => ?_⟩
  dsimp only
  rw [em]
  generalize hM2 : 2 ^ long / T = M at *
  generalize hCe : cK rs long = c at *
  have y1 := same_new fl1 (.lst [V.int (M : Int)])
  have w1 : (upd H10 l1 (.lst [V.int (M : Int)])) l1 = some (.lst [V.int (M : Int)]) := upd_same
  generalize upd H10 l1 (.lst [V.int (M : Int)]) = G1 at y1 w1 ⊢
  refine ⟨_, rfl, l1, _, _, rfl, rfl, w1, by omega, by omega, (by show 1 * _ ≤ _; rw [Int.toNat_natCast]; exact small (by omega)), fun l2' fl2 => ?_⟩
  rw [Int.toNat_natCast, rep_flat, ← vnats_rep]
  have y2 := same_new fl2 (.lst (vnats (List.replicate T M)))
  have w2 : SqL K (upd G1 l2' (.lst (vnats (List.replicate T M)))) l2' (((List.replicate T M).map fun (n : Nat) => (n : Int)).map V.int) := by rw [← vnats_ints]; exact SqL.of upd_same
  generalize upd G1 l2' (.lst (vnats (List.replicate T M))) = G2 at y2 w2 ⊢
  have s102 := y1.trans y2
  have hO2 : SqL K G2 O (((List.replicate T M).map fun (n : Nat) => (n : Int)).map V.int) := by rw [← vnats_ints]; exact SqL.of (s102 _ _ hO)
  refine ⟨O, l2', _, _, rfl, rfl, hO2, w2, _, rfl, ite2 (fun z => absurd z (by simp)) (fun _ => ?_)⟩
  have hU2 := s102 _ _ hUc
  refine ⟨_, rfl, U, rfl, ⟨_, SqL.of hU2⟩, comp_list (xs := vnats (List.replicate T c)) (fun j acc σ' H' => ∃ (as : List Addr) (o15 : Option V), acc = as.map V.ref ∧ as.length = j ∧ (∀ x ∈ as, H' x = some (.tup [.int (c : Int), .int 0])) ∧ Same G2 H' ∧ σ' = [some (.ref a), some (.ref t), some (.int (0 + (i : Int))), some (.ref rq), some (.ref lr), some (.int (T : Int)), some (.ref mp), o7', some (.ref O), some (.ref U), some (.ref pe), p11, p12, p13, p14, o15, o16, o17])
    ⟨[], _, rfl, rfl, (fun x hx => by cases hx), Same.refl _, rfl⟩ (fun j acc σ' H' hj ⟨as, _, e, hl, _⟩ => by rw [e, List.length_map, hl]; rw [vnats_len, List.length_replicate] at hj; omega) (fun j acc σ' H' _ ⟨_, _, _, _, _, y, _⟩ => SqL.of (y _ _ hU2)) ?_ ?_⟩
  · rintro j v acc σ' H' hx ⟨as, o15', rfl, hl, hal, s', rfl⟩
    have hj : j < T := by
      have := (List.getElem?_eq_some_iff.mp hx).1
      rw [vnats_len, List.length_replicate] at this
      exact this
    rw [vnats_at (by rw [List.length_replicate]; exact hj)] at hx
    have ec : (List.replicate T c).getD j 0 = c := by rw [List.getD_eq_getElem?_getD, List.getElem?_replicate, if_pos hj]; rfl
    rw [ec] at hx
    cases hx
    refine ⟨_, rfl, (by show 2 ≤ sizeLine; decide), fun p fp => ?_⟩
    have yp := same_new fp (.tup [V.int (c : Int), V.int 0])
    refine ⟨as ++ [p], _, by rw [List.map_append]; rfl, by rw [List.length_append, hl]; rfl, fun x hx => ?_, s'.trans yp, rfl⟩
    rcases List.mem_append.mp hx with z | z
    · exact yp _ _ (hal x z)
    · have : x = p := by simpa using z
      rw [this]
      exact upd_same
  rintro acc σ' G3 D ⟨as, o15', rfl, hl, hal, s3, rfl⟩ fD
  rw [vnats_len, List.length_replicate] at hl
  have yD := same_new fD (.lst (as.map V.ref))
  have wD : (upd G3 D (.lst (as.map V.ref))) D = some (.lst (as.map V.ref)) := upd_same
  generalize upd G3 D (.lst (as.map V.ref)) = G4 at yD wD ⊢
  obtain ⟨T', rfl⟩ : ∃ T', T = T' + 1 := ⟨T - 1, by omega⟩
  refine ⟨D, as, List.replicate (T' + 1) ((Sum.inl (c : Int) : Key), V.int 0), rfl, wD, by rw [List.length_replicate, hl], by rw [List.length_replicate]; omega, fun j x kv hx hkv => ?_, fun dd fdd => ?_⟩
  · have e1 := hal x (List.mem_of_getElem? hx)
    have e2 : kv = ((Sum.inl (c : Int) : Key), V.int 0) := (List.mem_replicate.mp (List.mem_of_getElem? hkv)).2
    rw [e2]
    exact yD _ _ e1
  rw [puts_rep]
  refine ⟨dd, _, rfl, upd_same, rfl, _, rfl, ite2 (fun z => absurd z (by simp)) (fun _ => ?_)⟩
  have yd := same_new fdd (.dK [((Sum.inl (c : Int) : Key), V.int 0)])
  generalize upd G4 dd (.dK [((Sum.inl (c : Int) : Key), V.int 0)]) = G5 at yd ⊢
  have s105 := s102.trans (s3.trans (yD.trans yd))
  have hS5 := s105.scr hS10
  have t5 := s105.twn t10
  have R5 := R10.same s105
  have hO5 := s105 _ _ hO
  have hU5 := s105 _ _ hUc
  have hm5 := s105 _ _ hm10
  have hpe5 := s105 _ _ hpe
  clear y1 w1 y2 w2 s102 hO2 hU2 s3 yD wD yd s105 hS10 t10 R10 hO hUc hm10 hpe fl1 fl2 fD fdd hal hl
  -- no more in the mean
  have hUs : SqL K G5 U (((List.replicate (T' + 1) c).map fun (n : Nat) => (n : Int)).map V.int) := by rw [← vnats_ints]; exact SqL.of hU5
  have hOs : SqL K G5 O (((List.replicate (T' + 1) M).map fun (n : Nat) => (n : Int)).map V.int) := by rw [← vnats_ints]; exact SqL.of hO5
  refine ⟨_, rfl, U, _, rfl, hUs, _, rfl, O, _, rfl, hOs, _, _, rfl, rfl, _, rfl, ite2 (fun z => absurd (of_decide_eq_true z) ?_) (fun _ => ?_)⟩
  · rw [sum_nats, sum_nats, sum_rep, sum_rep]
    have : (T' + 1) * c ≤ (T' + 1) * M := Nat.mul_le_mul_left _ hle
    omega
  obtain ⟨fN, fM, f2N⟩ := fit_mean hp (by omega) hRF
  have hend := mean_end hp hM hRF
  have fx : Fit x := fit64 (by omega)
  have fy : Fit y := fit64 (by omega)
  replace hpe5 : G5 pe = some (.tup [.int (frU (2 * hU (T' + 1) 1 n b) (hL (T' + 1) 1 n b) : Int), .int (frL (2 * hU (T' + 1) 1 n b) (hL (T' + 1) 1 n b) : Int)]) := hpe5
  refine ⟨_, rfl, pe, _, _, _, rfl, rfl, SqT.of hpe5, rfl, _, rfl, mp, _, _, _, rfl, rfl, SqT.of hm5, rfl, _, _, rfl, rfl, ⟨f2N.le (frU_le _ _), fy⟩, _, rfl, mp, _, _, _, rfl, rfl, SqT.of hm5, rfl, _, rfl, pe, _, _, _, rfl, rfl, SqT.of hpe5, rfl, _, _, rfl, rfl, ⟨fx, fM.le (frL_le _ _)⟩, _, _, rfl, rfl, _, rfl, ite2 (fun z => absurd (of_decide_eq_true z) ?_) (fun _ => ?_)⟩
  · rw [← Int.natCast_mul, ← Int.natCast_mul]
    omega
  clear hUs hOs hO5 hU5 hm5 hpe5 hend fx fy fN fM f2N hle
  -- orders
  refine ⟨_, rfl, _, rfl, a, t, ns, k4 + 1, 4, rfl, hS5, h63, t5, by omega, by decide, fun G6 g6 t6 => ⟨_, _, rfl, rfl, ?_⟩⟩
  have e2 := drw_nn ns (k4 + 1 + 1) (show (0 : Int) < 4 by decide)
  have e3 := drw_lt ns (k4 + 1 + 1) (show (0 : Int) < 4 by decide)
  generalize drw ns (k4 + 1 + 1) 4 = dd' at e2 e3
  obtain ⟨m, rfl⟩ := nat_of e2
  have hS6 := g6.scr t5 hS5
  have gr : Rows G6 lr ps long (2 ^ long) := ⟨g6 _ _ (fun z => by
    have h1 := R5.lst
    rw [z] at h1
    have h2 : G5 t = some (.lst (zeros (k4 + 1))) := t5
    rw [h2] at h1
    injection h1 with h1
    injection h1 with h1
    have h3 : (zeros (k4 + 1))[0]? = some (V.int 0) := rfl
    rw [h1, List.getElem?_map] at h3
    cases e : ps[0]? with
    | none => rw [e] at h3; cases h3
    | some r => rw [e] at h3; cases h3) R5.lst, R5.len, fun j r e => g6 _ _ (twn_tup t5 (R5.row j r e)) (R5.row j r e)⟩
  clear g6 hS5 t5 R5
  have hm1 : ((1 : Int) + (m : Int)) = ((m + 1 : Nat) : Int) := by omega
  dsimp only
  rw [hm1]
  refine ⟨_, rfl, lr, rfl, ⟨_, SqL.of gr.lst⟩, comp_list (xs := ps.map V.ref) (fun j acc σ' H' => ∃ o11 : Option V, acc = ((List.range j).map fun i => resP (evF (prodL (radsO (m + 1))) (bitsOf long i))) ∧ Same G6 H' ∧ σ' = [some (.ref a), some (.ref t), some (.int (0 + (i : Int))), some (.ref rq), some (.ref lr), some (.int ((T' + 1 : Nat) : Int)), some (.ref mp), o7', some (.ref O), some (.ref U), some (.ref pe), o11, p12, p13, p14, some (.int ((m + 1 : Nat) : Int)), o16, o17])
    ⟨_, rfl, Same.refl _, rfl⟩ (fun j acc σ' H' hj ⟨_, e, _⟩ => by rw [e, List.length_map, List.length_range]; rw [List.length_map, gr.len] at hj; omega) (fun j acc σ' H' _ ⟨_, _, y, _⟩ => SqL.of (y _ _ gr.lst)) ?_ ?_⟩
  · rintro j v acc σ' H' hx ⟨o11, rfl, s', rfl⟩
    obtain ⟨r, hr2⟩ : ∃ r, ps[j]? = some r := by
      rw [List.getElem?_map] at hx
      cases e : ps[j]? with
      | none => rw [e] at hx; cases hx
      | some r => exact ⟨r, rfl⟩
    rw [List.getElem?_map, hr2] at hx
    cases hx
    refine ⟨_, rfl, _, rfl, r, bitsOf long j, m + 1, rfl, s' _ _ (gr.row j r hr2), by omega, fun H7 s7 => ⟨_, ?_, s'.trans s7, rfl⟩⟩
    rw [List.range_succ, List.map_append]
    rfl
  rintro acc σ' G7 sa ⟨o11, rfl, s7, rfl⟩ fsa
  rw [List.length_map, gr.len]
  have ysa := same_new fsa (.lst ((List.range (2 ^ long)).map fun i => resP (evF (prodL (radsO (m + 1))) (bitsOf long i))))
  have wsa : (upd G7 sa (.lst ((List.range (2 ^ long)).map fun i => resP (evF (prodL (radsO (m + 1))) (bitsOf long i))))) sa = some (.lst ((List.range (2 ^ long)).map fun i => resP (evF (prodL (radsO (m + 1))) (bitsOf long i)))) := upd_same
  generalize upd G7 sa (.lst ((List.range (2 ^ long)).map fun i => resP (evF (prodL (radsO (m + 1))) (bitsOf long i)))) = G8 at ysa wsa ⊢
  -- count
  have at5 : ∀ m : Nat, m < 4 → atI [V.int 1, V.int 1, V.int 2, V.int 6, V.int 24] ((m + 1 : Nat) : Int) = some (V.int ((prodL (radsO (m + 1)) : Nat) : Int)) ∧ prodL (radsO (m + 1)) ≤ 24 := by decide
  obtain ⟨at5', le24⟩ := at5 m (by omega)
  have pc : 0 < prodL (radsO (m + 1)) := prod_pos fun x hx => (radsO_pos x hx).1
  generalize hFe : prodL (radsO (m + 1)) = Fc at *
  refine ⟨(by show 5 ≤ sizeLine; decide), fun l5 fl5 => ?_⟩
  have y5 := same_new fl5 (.lst [V.int 1, V.int 1, V.int 2, V.int 6, V.int 24])
  have w5 : (upd G8 l5 (.lst [V.int 1, V.int 1, V.int 2, V.int 6, V.int 24])) l5 = some (.lst [V.int 1, V.int 1, V.int 2, V.int 6, V.int 24]) := upd_same
  generalize upd G8 l5 (.lst [V.int 1, V.int 1, V.int 2, V.int 6, V.int 24]) = G9 at y5 w5 ⊢
  refine ⟨_, rfl, l5, _, _, _, rfl, rfl, SqL.of w5, at5', ?_⟩
  have s69 := s7.trans (ysa.trans y5)
  have gr9 := gr.same s69
  have hsa9 := y5 _ _ wsa
  have hS9 := s69.scr hS6
  have t9 := s69.twn t6
  clear s7 ysa wsa y5 w5 s69 gr hS6 t6 fsa fl5
  have em2 : (((ps.map V.ref).length : Nat) : Int) / (Fc : Int) = ((2 ^ long / Fc : Nat) : Int) := by
    rw [List.length_map, gr9.len, ← Int.natCast_ediv]
  refine ⟨_, rfl, _, rfl, lo62 _, hi62 (by omega), ?_⟩
  rw [Int.toNat_natCast]
  refine comp_range (fun j acc σ' H' => ∃ o14 : Option V, acc = [] ∧ H' = G9 ∧ σ' = [some (.ref a), some (.ref t), some (.int (0 + (i : Int))), some (.ref rq), some (.ref lr), some (.int ((T' + 1 : Nat) : Int)), some (.ref mp), o7', some (.ref O), some (.ref U), some (.ref pe), p11, p12, p13, o14, some (.int ((m + 1 : Nat) : Int)), some (.ref sa), some (.int (Fc : Int))])
    ⟨_, rfl, rfl, rfl⟩ (fun j acc σ' H' hj ⟨_, e, _⟩ => by rw [e]; exact Nat.zero_le _) ?_ ?_
  · rintro j acc σ' H' hj ⟨o14, rfl, rfl, rfl⟩
    refine ⟨_, rfl, .inl ⟨rfl, _, SqL.of hsa9⟩, _, rfl, sa, _, _, rfl, rfl, hsa9, rfl, ?_, ?_⟩
    · rw [List.all_eq_true]
      intro z hz
      obtain ⟨i', _, rfl⟩ := List.mem_map.mp hz
      cases evF Fc (bitsOf long i') <;> rfl
    · refine ⟨_, rfl, lr, _, rfl, .inl (SqL.of gr9.lst), _, rfl, _, _, rfl, rfl, ⟨by omega, by omega⟩, rfl, _, rfl, ?_⟩
      have eqv : V.int (((((List.range (2 ^ long)).map fun i => resP (evF Fc (bitsOf long i))).countP (fun z => eqV z (.int (0 + (j : Int)))) : Nat)) : Int) = V.int ((((ps.map V.ref).length : Nat) : Int) / (Fc : Int)) := by
        rw [em2, Int.zero_add, count_ev j, one_hits hj long]
      exact iteNS eqv ⟨_, rfl, rfl, rfl⟩
  rintro acc σ' G10 D ⟨o14, rfl, rfl, rfl⟩ fD
  have yD := same_new fD (.lst ([] : List V))
  refine ⟨false, .inl ⟨_, SqL.of upd_same, rfl⟩, iteF ?_⟩
  exact ⟨k4 + 1 + 1, _, _, _, _, _, _, _, _, _, _, _, _, _, _, _, _, rfl, yD.scr hS9, yD.twn t9, by omega⟩
end
theorem lenS {us : List Value} {n : Nat} (h : us.length = n + 1) : ∃ a t, us = a :: t ∧ t.length = n := by
  cases us with
  | nil => cases h
  | cons a t => exact ⟨a, t, rfl, Nat.succ.inj h⟩
theorem lenU0 {us : List Value} (h : us.length = 0) : us = [] := List.eq_nil_of_length_eq_zero h
theorem lenU1 {us : List Value} (h : us.length = 1) : ∃ a0, us = [a0] := by
  obtain ⟨a0, t, rfl, h2⟩ := lenS h
  obtain ⟨rfl⟩ := lenU0 h2
  exact ⟨a0, rfl⟩
theorem lenU2 {us : List Value} (h : us.length = 2) : ∃ a0 a1, us = [a0, a1] := by
  obtain ⟨a0, t, rfl, h2⟩ := lenS h
  obtain ⟨a1, rfl⟩ := lenU1 h2
  exact ⟨a0, a1, rfl⟩
theorem lenU3 {us : List Value} (h : us.length = 3) : ∃ a0 a1 a2, us = [a0, a1, a2] := by
  obtain ⟨a0, t, rfl, h2⟩ := lenS h
  obtain ⟨a1, a2, rfl⟩ := lenU2 h2
  exact ⟨a0, a1, a2, rfl⟩
theorem all_mk {l : PySem.W.OpenLaw} {w : World} {K : PySem.W.Frag} {h : Heap} {mg : Str → Option Value} {fa f1 f2 f3 f4 f5 f6 f7 f8 f9 f10 f11 f12 f13 f14 f15 f16 f17 f18 f19 f20 f21 f22 f23 f24 f25 c_Bits f26 f27 f28 f29 f30 e_NoBits e_NoPlace : Addr} (X : K.In h) (G : h.Ns mainGlobals mg) (hfa : mg "law" = some (.ref fa))
    {od1 an1 od2 an2 od3 an3 od4 an4 od5 an5 od6 an6 od7 an7 od8 an8 od9 an9 od10 an10 od11 an11 od12 an12 od13 an13 od14 an14 od15 an15 od16 an16 od17 an17 od18 an18 od19 an19 od20 an20 od21 an21 od22 an22 od23 an23 od24 an24 od25 an25 od26 an26 od27 an27 od28 an28 od29 an29 od30 an30 xo_NoBits xo_NoPlace : Option Addr} {sl1 sl2 sl3 sl4 sl5 sl6 sl7 sl8 sl9 sl10 sl11 sl12 sl13 sl14 sl15 sl16 sl17 sl18 sl19 sl20 sl21 sl22 sl23 sl24 sl25 sl26 sl27 sl28 sl29 sl30 xs_NoBits xs_NoPlace : Array (Option Value)} {oc1 kV1 dc1 pm1 cd1 ct1 oc2 kV2 dc2 pm2 cd2 ct2 oc3 kV3 dc3 pm3 cd3 ct3 oc4 kV4 dc4 pm4 cd4 ct4 oc5 kV5 dc5 pm5 cd5 ct5 oc6 kV6 dc6 pm6 cd6 ct6 oc7 kV7 dc7 pm7 cd7 ct7 oc8 kV8 dc8 pm8 cd8 ct8 oc9 kV9 dc9 pm9 cd9 ct9 oc10 kV10 dc10 pm10 cd10 ct10 oc11 kV11 dc11 pm11 cd11 ct11 oc12 kV12 dc12 pm12 cd12 ct12 oc13 kV13 dc13 pm13 cd13 ct13 oc14 kV14 dc14 pm14 cd14 ct14 oc15 kV15 dc15 pm15 cd15 ct15 oc16 kV16 dc16 pm16 cd16 ct16 oc17 kV17 dc17 pm17 cd17 ct17 oc18 kV18 dc18 pm18 cd18 ct18 oc19 kV19 dc19 pm19 cd19 ct19 oc20 kV20 dc20 pm20 cd20 ct20 oc21 kV21 dc21 pm21 cd21 ct21 oc22 kV22 dc22 pm22 cd22 ct22 oc23 kV23 dc23 pm23 cd23 ct23 oc24 kV24 dc24 pm24 cd24 ct24 oc25 kV25 dc25 pm25 cd25 ct25 oc26 kV26 dc26 pm26 cd26 ct26 oc27 kV27 dc27 pm27 cd27 ct27 oc28 kV28 dc28 pm28 cd28 ct28 oc29 kV29 dc29 pm29 cd29 ct29 oc30 kV30 dc30 pm30 cd30 ct30 xc_NoBits xc_NoPlace : Value} {ed_NoBits ed_NoPlace : ClassData}
    (a1 : PySem.W.nsIn K mainGlobals "drawn_whole" = some (some (.ref f1))) (l1 : K.lookup f1 = some ⟨oc1, od1, .func (PySem.W.fnOf "drawn_whole" "drawn_whole" (defArgs s_drawn_whole) (defBody s_drawn_whole) (defScope s_drawn_whole) .none kV1 dc1 pm1 an1 cd1 ct1), sl1⟩) (c1 : PySem.W.codeIn K cd1 "drawn_whole" = true) (k1 : PySem.W.keepIn K (.ref f1) = true)
    (a2 : PySem.W.nsIn K mainGlobals "common_divisor" = some (some (.ref f2))) (l2 : K.lookup f2 = some ⟨oc2, od2, .func (PySem.W.fnOf "common_divisor" "common_divisor" (defArgs s_common_divisor) (defBody s_common_divisor) (defScope s_common_divisor) .none kV2 dc2 pm2 an2 cd2 ct2), sl2⟩) (c2 : PySem.W.codeIn K cd2 "common_divisor" = true) (k2 : PySem.W.keepIn K (.ref f2) = true)
    (a3 : PySem.W.nsIn K mainGlobals "fraction" = some (some (.ref f3))) (l3 : K.lookup f3 = some ⟨oc3, od3, .func (PySem.W.fnOf "fraction" "fraction" (defArgs s_fraction) (defBody s_fraction) (defScope s_fraction) .none kV3 dc3 pm3 an3 cd3 ct3), sl3⟩) (c3 : PySem.W.codeIn K cd3 "fraction" = true) (k3 : PySem.W.keepIn K (.ref f3) = true)
    (a4 : PySem.W.nsIn K mainGlobals "rests_of" = some (some (.ref f4))) (l4 : K.lookup f4 = some ⟨oc4, od4, .func (PySem.W.fnOf "rests_of" "rests_of" (defArgs s_rests_of) (defBody s_rests_of) (defScope s_rests_of) .none kV4 dc4 pm4 an4 cd4 ct4), sl4⟩) (c4 : PySem.W.codeIn K cd4 "rests_of" = true) (k4 : PySem.W.keepIn K (.ref f4) = true)
    (a5 : PySem.W.nsIn K mainGlobals "number_in_twos" = some (some (.ref f5))) (l5 : K.lookup f5 = some ⟨oc5, od5, .func (PySem.W.fnOf "number_in_twos" "number_in_twos" (defArgs s_number_in_twos) (defBody s_number_in_twos) (defScope s_number_in_twos) .none kV5 dc5 pm5 an5 cd5 ct5), sl5⟩) (c5 : PySem.W.codeIn K cd5 "number_in_twos" = true) (k5 : PySem.W.keepIn K (.ref f5) = true)
    (a6 : PySem.W.nsIn K mainGlobals "sum_by_halves" = some (some (.ref f6))) (l6 : K.lookup f6 = some ⟨oc6, od6, .func (PySem.W.fnOf "sum_by_halves" "sum_by_halves" (defArgs s_sum_by_halves) (defBody s_sum_by_halves) (defScope s_sum_by_halves) .none kV6 dc6 pm6 an6 cd6 ct6), sl6⟩) (c6 : PySem.W.codeIn K cd6 "sum_by_halves" = true) (k6 : PySem.W.keepIn K (.ref f6) = true)
    (a7 : PySem.W.nsIn K mainGlobals "even" = some (some (.ref f7))) (l7 : K.lookup f7 = some ⟨oc7, od7, .func (PySem.W.fnOf "even" "even" (defArgs s_even) (defBody s_even) (defScope s_even) .none kV7 dc7 pm7 an7 cd7 ct7), sl7⟩) (c7 : PySem.W.codeIn K cd7 "even" = true) (k7 : PySem.W.keepIn K (.ref f7) = true)
    (a8 : PySem.W.nsIn K mainGlobals "take_even" = some (some (.ref f8))) (l8 : K.lookup f8 = some ⟨oc8, od8, .func (PySem.W.fnOf "take_even" "take_even" (defArgs s_take_even) (defBody s_take_even) (defScope s_take_even) .none kV8 dc8 pm8 an8 cd8 ct8), sl8⟩) (c8 : PySem.W.codeIn K cd8 "take_even" = true) (k8 : PySem.W.keepIn K (.ref f8) = true)
    (a9 : PySem.W.nsIn K mainGlobals "sizes_of" = some (some (.ref f9))) (l9 : K.lookup f9 = some ⟨oc9, od9, .func (PySem.W.fnOf "sizes_of" "sizes_of" (defArgs s_sizes_of) (defBody s_sizes_of) (defScope s_sizes_of) .none kV9 dc9 pm9 an9 cd9 ct9), sl9⟩) (c9 : PySem.W.codeIn K cd9 "sizes_of" = true) (k9 : PySem.W.keepIn K (.ref f9) = true)
    (a10 : PySem.W.nsIn K mainGlobals "mean_even" = some (some (.ref f10))) (l10 : K.lookup f10 = some ⟨oc10, od10, .func (PySem.W.fnOf "mean_even" "mean_even" (defArgs s_mean_even) (defBody s_mean_even) (defScope s_mean_even) .none kV10 dc10 pm10 an10 cd10 ct10), sl10⟩) (c10 : PySem.W.codeIn K cd10 "mean_even" = true) (k10 : PySem.W.keepIn K (.ref f10) = true)
    (a11 : PySem.W.nsIn K mainGlobals "check_place" = some (some (.ref f11))) (l11 : K.lookup f11 = some ⟨oc11, od11, .func (PySem.W.fnOf "check_place" "check_place" (defArgs s_check_place) (defBody s_check_place) (defScope s_check_place) .none kV11 dc11 pm11 an11 cd11 ct11), sl11⟩) (c11 : PySem.W.codeIn K cd11 "check_place" = true) (k11 : PySem.W.keepIn K (.ref f11) = true)
    (a12 : PySem.W.nsIn K mainGlobals "count_figures" = some (some (.ref f12))) (l12 : K.lookup f12 = some ⟨oc12, od12, .func (PySem.W.fnOf "count_figures" "count_figures" (defArgs s_count_figures) (defBody s_count_figures) (defScope s_count_figures) .none kV12 dc12 pm12 an12 cd12 ct12), sl12⟩) (c12 : PySem.W.codeIn K cd12 "count_figures" = true) (k12 : PySem.W.keepIn K (.ref f12) = true)
    (a13 : PySem.W.nsIn K mainGlobals "figures_at" = some (some (.ref f13))) (l13 : K.lookup f13 = some ⟨oc13, od13, .func (PySem.W.fnOf "figures_at" "figures_at" (defArgs s_figures_at) (defBody s_figures_at) (defScope s_figures_at) .none kV13 dc13 pm13 an13 cd13 ct13), sl13⟩) (c13 : PySem.W.codeIn K cd13 "figures_at" = true) (k13 : PySem.W.keepIn K (.ref f13) = true)
    (a14 : PySem.W.nsIn K mainGlobals "place_of_figures" = some (some (.ref f14))) (l14 : K.lookup f14 = some ⟨oc14, od14, .func (PySem.W.fnOf "place_of_figures" "place_of_figures" (defArgs s_place_of_figures) (defBody s_place_of_figures) (defScope s_place_of_figures) .none kV14 dc14 pm14 an14 cd14 ct14), sl14⟩) (c14 : PySem.W.codeIn K cd14 "place_of_figures" = true) (k14 : PySem.W.keepIn K (.ref f14) = true)
    (a15 : PySem.W.nsIn K mainGlobals "radices_of_orders" = some (some (.ref f15))) (l15 : K.lookup f15 = some ⟨oc15, od15, .func (PySem.W.fnOf "radices_of_orders" "radices_of_orders" (defArgs s_radices_of_orders) (defBody s_radices_of_orders) (defScope s_radices_of_orders) .none kV15 dc15 pm15 an15 cd15 ct15), sl15⟩) (c15 : PySem.W.codeIn K cd15 "radices_of_orders" = true) (k15 : PySem.W.keepIn K (.ref f15) = true)
    (a16 : PySem.W.nsIn K mainGlobals "order_at" = some (some (.ref f16))) (l16 : K.lookup f16 = some ⟨oc16, od16, .func (PySem.W.fnOf "order_at" "order_at" (defArgs s_order_at) (defBody s_order_at) (defScope s_order_at) .none kV16 dc16 pm16 an16 cd16 ct16), sl16⟩) (c16 : PySem.W.codeIn K cd16 "order_at" = true) (k16 : PySem.W.keepIn K (.ref f16) = true)
    (a17 : PySem.W.nsIn K mainGlobals "place_of_order" = some (some (.ref f17))) (l17 : K.lookup f17 = some ⟨oc17, od17, .func (PySem.W.fnOf "place_of_order" "place_of_order" (defArgs s_place_of_order) (defBody s_place_of_order) (defScope s_place_of_order) .none kV17 dc17 pm17 an17 cd17 ct17), sl17⟩) (c17 : PySem.W.codeIn K cd17 "place_of_order" = true) (k17 : PySem.W.keepIn K (.ref f17) = true)
    (a18 : PySem.W.nsIn K mainGlobals "order" = some (some (.ref f18))) (l18 : K.lookup f18 = some ⟨oc18, od18, .func (PySem.W.fnOf "order" "order" (defArgs s_order) (defBody s_order) (defScope s_order) .none kV18 dc18 pm18 an18 cd18 ct18), sl18⟩) (c18 : PySem.W.codeIn K cd18 "order" = true) (k18 : PySem.W.keepIn K (.ref f18) = true)
    (a19 : PySem.W.nsIn K mainGlobals "_law_draw" = some (some (.ref f19))) (l19 : K.lookup f19 = some ⟨oc19, od19, .func (PySem.W.fnOf "_law_draw" "_law_draw" (defArgs s__law_draw) (defBody s__law_draw) (defScope s__law_draw) .none kV19 dc19 pm19 an19 cd19 ct19), sl19⟩) (c19 : PySem.W.codeIn K cd19 "_law_draw" = true) (k19 : PySem.W.keepIn K (.ref f19) = true)
    (a20 : PySem.W.nsIn K mainGlobals "_law_every" = some (some (.ref f20))) (l20 : K.lookup f20 = some ⟨oc20, od20, .func (PySem.W.fnOf "_law_every" "_law_every" (defArgs s__law_every) (defBody s__law_every) (defScope s__law_every) .none kV20 dc20 pm20 an20 cd20 ct20), sl20⟩) (c20 : PySem.W.codeIn K cd20 "_law_every" = true) (k20 : PySem.W.keepIn K (.ref f20) = true)
    (a21 : PySem.W.nsIn K mainGlobals "_law_frac" = some (some (.ref f21))) (l21 : K.lookup f21 = some ⟨oc21, od21, .func (PySem.W.fnOf "_law_frac" "_law_frac" (defArgs s__law_frac) (defBody s__law_frac) (defScope s__law_frac) .none kV21 dc21 pm21 an21 cd21 ct21), sl21⟩) (c21 : PySem.W.codeIn K cd21 "_law_frac" = true) (k21 : PySem.W.keepIn K (.ref f21) = true)
    (a22 : PySem.W.nsIn K mainGlobals "_law_plus" = some (some (.ref f22))) (l22 : K.lookup f22 = some ⟨oc22, od22, .func (PySem.W.fnOf "_law_plus" "_law_plus" (defArgs s__law_plus) (defBody s__law_plus) (defScope s__law_plus) .none kV22 dc22 pm22 an22 cd22 ct22), sl22⟩) (c22 : PySem.W.codeIn K cd22 "_law_plus" = true) (k22 : PySem.W.keepIn K (.ref f22) = true)
    (a23 : PySem.W.nsIn K mainGlobals "_law_told" = some (some (.ref f23))) (l23 : K.lookup f23 = some ⟨oc23, od23, .func (PySem.W.fnOf "_law_told" "_law_told" (defArgs s__law_told) (defBody s__law_told) (defScope s__law_told) .none kV23 dc23 pm23 an23 cd23 ct23), sl23⟩) (c23 : PySem.W.codeIn K cd23 "_law_told" = true) (k23 : PySem.W.keepIn K (.ref f23) = true)
    (a24 : PySem.W.nsIn K mainGlobals "_law_order" = some (some (.ref f24))) (l24 : K.lookup f24 = some ⟨oc24, od24, .func (PySem.W.fnOf "_law_order" "_law_order" (defArgs s__law_order) (defBody s__law_order) (defScope s__law_order) .none kV24 dc24 pm24 an24 cd24 ct24), sl24⟩) (c24 : PySem.W.codeIn K cd24 "_law_order" = true) (k24 : PySem.W.keepIn K (.ref f24) = true)
    (a25 : PySem.W.nsIn K mainGlobals "law" = some (some (.ref f25))) (l25 : K.lookup f25 = some ⟨oc25, od25, .func (PySem.W.fnOf "law" "law" (defArgs s_law) (defBody s_law) (defScope s_law) .none kV25 dc25 pm25 an25 cd25 ct25), sl25⟩) (c25 : PySem.W.codeIn K cd25 "law" = true) (k25 : PySem.W.keepIn K (.ref f25) = true)
    (z1 : PySem.W.nsIn K mainGlobals "abs" = some none)
    (z2 : PySem.W.nsIn K mainGlobals "dict" = some none)
    (z3 : PySem.W.nsIn K mainGlobals "len" = some none)
    (z4 : PySem.W.nsIn K mainGlobals "list" = some none)
    (z5 : PySem.W.nsIn K mainGlobals "max" = some none)
    (z6 : PySem.W.nsIn K mainGlobals "range" = some none)
    (z7 : PySem.W.nsIn K mainGlobals "reversed" = some none)
    (z8 : PySem.W.nsIn K mainGlobals "sorted" = some none)
    (z9 : PySem.W.nsIn K mainGlobals "sum" = some none)
    (z10 : PySem.W.nsIn K mainGlobals "tuple" = some none)
    (z11 : PySem.W.nsIn K mainGlobals "zip" = some none)
    (ca_Bits : PySem.W.nsIn K mainGlobals "Bits" = some (some (.ref c_Bits)))
    (pg_Bits : PySem.W.plainGet K c_Bits Str.empty = true) (hd_Bits : PySem.W.hasDictIn K c_Bits = true) (po_Bits : PySem.W.plainOver K c_Bits = true) (sa_Bits : PySem.W.findIn K (.ref c_Bits) "__setattr__" = some (some (.builtin "object.__setattr__"))) (mk_Bits : PySem.W.makesIn K c_Bits = true) (kc_Bits : PySem.W.keepIn K (.ref c_Bits) = true)
    (n_Bits_row : PySem.W.findIn K (.ref c_Bits) "row" = some none)
    (n_Bits_place : PySem.W.findIn K (.ref c_Bits) "place" = some none)
    (a26 : PySem.W.findIn K (.ref c_Bits) "__init__" = some (some (.ref f26))) (i26 : PySem.W.isFn K (.ref f26) = true) (l26 : K.lookup f26 = some ⟨oc26, od26, .func (PySem.W.fnOf "__init__" "Bits.__init__" (defArgs s_Bits___init__) (defBody s_Bits___init__) (defScope s_Bits___init__) .none kV26 dc26 pm26 an26 cd26 ct26), sl26⟩) (c26 : PySem.W.codeIn K cd26 "Bits.__init__" = true) (k26 : PySem.W.keepIn K (.ref f26) = true)
    (a27 : PySem.W.findIn K (.ref c_Bits) "take" = some (some (.ref f27))) (i27 : PySem.W.isFn K (.ref f27) = true) (l27 : K.lookup f27 = some ⟨oc27, od27, .func (PySem.W.fnOf "take" "Bits.take" (defArgs s_Bits_take) (defBody s_Bits_take) (defScope s_Bits_take) .none kV27 dc27 pm27 an27 cd27 ct27), sl27⟩) (c27 : PySem.W.codeIn K cd27 "Bits.take" = true) (k27 : PySem.W.keepIn K (.ref f27) = true)
    (a28 : PySem.W.findIn K (.ref c_Bits) "used" = some (some (.ref f28))) (i28 : PySem.W.isFn K (.ref f28) = true) (l28 : K.lookup f28 = some ⟨oc28, od28, .func (PySem.W.fnOf "used" "Bits.used" (defArgs s_Bits_used) (defBody s_Bits_used) (defScope s_Bits_used) .none kV28 dc28 pm28 an28 cd28 ct28), sl28⟩) (c28 : PySem.W.codeIn K cd28 "Bits.used" = true) (k28 : PySem.W.keepIn K (.ref f28) = true)
    (a29 : PySem.W.findIn K (.ref c_Bits) "left" = some (some (.ref f29))) (i29 : PySem.W.isFn K (.ref f29) = true) (l29 : K.lookup f29 = some ⟨oc29, od29, .func (PySem.W.fnOf "left" "Bits.left" (defArgs s_Bits_left) (defBody s_Bits_left) (defScope s_Bits_left) .none kV29 dc29 pm29 an29 cd29 ct29), sl29⟩) (c29 : PySem.W.codeIn K cd29 "Bits.left" = true) (k29 : PySem.W.keepIn K (.ref f29) = true)
    (a30 : PySem.W.findIn K (.ref c_Bits) "go_back" = some (some (.ref f30))) (i30 : PySem.W.isFn K (.ref f30) = true) (l30 : K.lookup f30 = some ⟨oc30, od30, .func (PySem.W.fnOf "go_back" "Bits.go_back" (defArgs s_Bits_go_back) (defBody s_Bits_go_back) (defScope s_Bits_go_back) .none kV30 dc30 pm30 an30 cd30 ct30), sl30⟩) (c30 : PySem.W.codeIn K cd30 "Bits.go_back" = true) (k30 : PySem.W.keepIn K (.ref f30) = true)
    (xa_NoBits : PySem.W.nsIn K mainGlobals "NoBits" = some (some (.ref e_NoBits))) (xl_NoBits : K.lookup e_NoBits = some ⟨xc_NoBits, xo_NoBits, .cls ed_NoBits, xs_NoBits⟩) (xi_NoBits : PySem.W.excIn K e_NoBits [.type "ValueError", .type "Exception", .type "BaseException", .type "object"] "ValueError.__new__" = true)
    (xa_NoPlace : PySem.W.nsIn K mainGlobals "NoPlace" = some (some (.ref e_NoPlace))) (xl_NoPlace : K.lookup e_NoPlace = some ⟨xc_NoPlace, xo_NoPlace, .cls ed_NoPlace, xs_NoPlace⟩) (xi_NoPlace : PySem.W.excIn K e_NoPlace [.type "ValueError", .type "Exception", .type "BaseException", .type "object"] "ValueError.__new__" = true)
    (xm_NoBits_NoBits : ed_NoBits.mro.contains (.ref e_NoBits) = true)
    (xm_NoBits_NoPlace : ed_NoBits.mro.contains (.ref e_NoPlace) = false)
    (xm_NoPlace_NoBits : ed_NoPlace.mro.contains (.ref e_NoBits) = false)
    (xm_NoPlace_NoPlace : ed_NoPlace.mro.contains (.ref e_NoPlace) = true) :
    ∃ fd : FuncData, (∀ (s : Shared) (v : Value), BindsTo s fd ⟨[v], []⟩ [("_law_script", v)]) ∧ ∀ base : Heap, K.In base → base.Ns mainGlobals mg → FnOk l.prog w K mg base CX0 12 fa fd ["_law_script"] (spLaw K) := by
  have e := hfa.symm.trans (PySem.W.mg_of X G a25)
  cases e
  have B : Bl mg := ⟨PySem.W.mg_none_of X G z1, PySem.W.mg_none_of X G z2, PySem.W.mg_none_of X G z3, PySem.W.mg_none_of X G z4, PySem.W.mg_none_of X G z5, PySem.W.mg_none_of X G z6, PySem.W.mg_none_of X G z7, PySem.W.mg_none_of X G z8, PySem.W.mg_none_of X G z9, PySem.W.mg_none_of X G z10, PySem.W.mg_none_of X G z11⟩
  have C : Cn mg := ⟨trivial⟩
  have F_drawn_whole := fun_mk (st := s_drawn_whole) l1 c1 k1
  have F_common_divisor := fun_mk (st := s_common_divisor) l2 c2 k2
  have F_fraction := fun_mk (st := s_fraction) l3 c3 k3
  have F_rests_of := fun_mk (st := s_rests_of) l4 c4 k4
  have F_number_in_twos := fun_mk (st := s_number_in_twos) l5 c5 k5
  have F_sum_by_halves := fun_mk (st := s_sum_by_halves) l6 c6 k6
  have F_even := fun_mk (st := s_even) l7 c7 k7
  have F_take_even := fun_mk (st := s_take_even) l8 c8 k8
  have F_sizes_of := fun_mk (st := s_sizes_of) l9 c9 k9
  have F_mean_even := fun_mk (st := s_mean_even) l10 c10 k10
  have F_check_place := fun_mk (st := s_check_place) l11 c11 k11
  have F_count_figures := fun_mk (st := s_count_figures) l12 c12 k12
  have F_figures_at := fun_mk (st := s_figures_at) l13 c13 k13
  have F_place_of_figures := fun_mk (st := s_place_of_figures) l14 c14 k14
  have F_radices_of_orders := fun_mk (st := s_radices_of_orders) l15 c15 k15
  have F_order_at := fun_mk (st := s_order_at) l16 c16 k16
  have F_place_of_order := fun_mk (st := s_place_of_order) l17 c17 k17
  have F_order := fun_mk (st := s_order) l18 c18 k18
  have F__law_draw := fun_mk (st := s__law_draw) l19 c19 k19
  have F__law_every := fun_mk (st := s__law_every) l20 c20 k20
  have F__law_frac := fun_mk (st := s__law_frac) l21 c21 k21
  have F__law_plus := fun_mk (st := s__law_plus) l22 c22 k22
  have F__law_told := fun_mk (st := s__law_told) l23 c23 k23
  have F__law_order := fun_mk (st := s__law_order) l24 c24 k24
  have F_law := fun_mk (st := s_law) l25 c25 k25
  have F_Bits___init__ := fun_mk (st := s_Bits___init__) l26 c26 k26
  have b_Bits___init__ := F_Bits___init__.binds (ps := p_Bits___init__) fun _ _ _ _ _ _ us hl => (by obtain ⟨_, _, rfl⟩ := lenU2 hl; rfl)
  have m_Bits___init__ : Meth K c_Bits "__init__" f26 := ⟨a26, i26, k26⟩
  have F_Bits_take := fun_mk (st := s_Bits_take) l27 c27 k27
  have b_Bits_take := F_Bits_take.binds (ps := p_Bits_take) fun _ _ _ _ _ _ us hl => (by obtain ⟨_, rfl⟩ := lenU1 hl; rfl)
  have m_Bits_take : Meth K c_Bits "take" f27 := ⟨a27, i27, k27⟩
  have F_Bits_used := fun_mk (st := s_Bits_used) l28 c28 k28
  have b_Bits_used := F_Bits_used.binds (ps := p_Bits_used) fun _ _ _ _ _ _ us hl => (by obtain ⟨_, rfl⟩ := lenU1 hl; rfl)
  have m_Bits_used : Meth K c_Bits "used" f28 := ⟨a28, i28, k28⟩
  have F_Bits_left := fun_mk (st := s_Bits_left) l29 c29 k29
  have b_Bits_left := F_Bits_left.binds (ps := p_Bits_left) fun _ _ _ _ _ _ us hl => (by obtain ⟨_, rfl⟩ := lenU1 hl; rfl)
  have m_Bits_left : Meth K c_Bits "left" f29 := ⟨a29, i29, k29⟩
  have F_Bits_go_back := fun_mk (st := s_Bits_go_back) l30 c30 k30
  have b_Bits_go_back := F_Bits_go_back.binds (ps := p_Bits_go_back) fun _ _ _ _ _ _ us hl => (by obtain ⟨_, _, rfl⟩ := lenU2 hl; rfl)
  have m_Bits_go_back : Meth K c_Bits "go_back" f30 := ⟨a30, i30, k30⟩
  have cls_Bits : Cls K c_Bits := ⟨pg_Bits, hd_Bits, po_Bits, sa_Bits⟩
  have mk_Bits : Mk K c_Bits f26 := ⟨mk_Bits, a26, i26, kc_Bits⟩
  have mgC_Bits := PySem.W.mg_of X G ca_Bits
  have X_NoBits : Exc K mg "NoBits" e_NoBits ed_NoBits.mro := ⟨PySem.W.mg_of X G xa_NoBits, xi_NoBits, _, _, _, _, xl_NoBits, rfl⟩
  have X_NoPlace : Exc K mg "NoPlace" e_NoPlace ed_NoPlace.mro := ⟨PySem.W.mg_of X G xa_NoPlace, xi_NoPlace, _, _, _, _, xl_NoPlace, rfl⟩
  have b_drawn_whole := F_drawn_whole.binds (ps := p_drawn_whole) fun _ _ _ _ _ _ us hl => (by obtain ⟨_, _, _, rfl⟩ := lenU3 hl; rfl)
  have b_common_divisor := F_common_divisor.binds (ps := p_common_divisor) fun _ _ _ _ _ _ us hl => (by obtain ⟨_, _, rfl⟩ := lenU2 hl; rfl)
  have b_fraction := F_fraction.binds (ps := p_fraction) fun _ _ _ _ _ _ us hl => (by obtain ⟨_, _, rfl⟩ := lenU2 hl; rfl)
  have b_rests_of := F_rests_of.binds (ps := p_rests_of) fun _ _ _ _ _ _ us hl => (by obtain ⟨_, _, rfl⟩ := lenU2 hl; rfl)
  have b_number_in_twos := F_number_in_twos.binds (ps := p_number_in_twos) fun _ _ _ _ _ _ us hl => (by obtain ⟨_, rfl⟩ := lenU1 hl; rfl)
  have b_sum_by_halves := F_sum_by_halves.binds (ps := p_sum_by_halves) fun _ _ _ _ _ _ us hl => (by obtain ⟨_, _, rfl⟩ := lenU2 hl; rfl)
  have b_even := F_even.binds (ps := p_even) fun _ _ _ _ _ _ us hl => (by obtain ⟨_, _, rfl⟩ := lenU2 hl; rfl)
  have b_take_even := F_take_even.binds (ps := p_take_even) fun _ _ _ _ _ _ us hl => (by obtain ⟨_, _, rfl⟩ := lenU2 hl; rfl)
  have b_sizes_of := F_sizes_of.binds (ps := p_sizes_of) fun _ _ _ _ _ _ us hl => (by obtain ⟨_, rfl⟩ := lenU1 hl; rfl)
  have b_mean_even := F_mean_even.binds (ps := p_mean_even) fun _ _ _ _ _ _ us hl => (by obtain ⟨_, rfl⟩ := lenU1 hl; rfl)
  have b_check_place := F_check_place.binds (ps := p_check_place) fun _ _ _ _ _ _ us hl => (by obtain ⟨_, _, rfl⟩ := lenU2 hl; rfl)
  have b_count_figures := F_count_figures.binds (ps := p_count_figures) fun _ _ _ _ _ _ us hl => (by obtain ⟨_, rfl⟩ := lenU1 hl; rfl)
  have b_figures_at := F_figures_at.binds (ps := p_figures_at) fun _ _ _ _ _ _ us hl => (by obtain ⟨_, _, rfl⟩ := lenU2 hl; rfl)
  have b_place_of_figures := F_place_of_figures.binds (ps := p_place_of_figures) fun _ _ _ _ _ _ us hl => (by obtain ⟨_, _, rfl⟩ := lenU2 hl; rfl)
  have b_radices_of_orders := F_radices_of_orders.binds (ps := p_radices_of_orders) fun _ _ _ _ _ _ us hl => (by obtain ⟨_, rfl⟩ := lenU1 hl; rfl)
  have b_order_at := F_order_at.binds (ps := p_order_at) fun _ _ _ _ _ _ us hl => (by obtain ⟨_, _, rfl⟩ := lenU2 hl; rfl)
  have b_place_of_order := F_place_of_order.binds (ps := p_place_of_order) fun _ _ _ _ _ _ us hl => (by obtain ⟨_, rfl⟩ := lenU1 hl; rfl)
  have b_order := F_order.binds (ps := p_order) fun _ _ _ _ _ _ us hl => (by obtain ⟨_, _, rfl⟩ := lenU2 hl; rfl)
  have b__law_draw := F__law_draw.binds (ps := p__law_draw) fun _ _ _ _ _ _ us hl => (by obtain ⟨_, _, _, rfl⟩ := lenU3 hl; rfl)
  have b__law_every := F__law_every.binds (ps := p__law_every) fun _ _ _ _ _ _ us hl => (by obtain ⟨_, rfl⟩ := lenU1 hl; rfl)
  have b__law_frac := F__law_frac.binds (ps := p__law_frac) fun _ _ _ _ _ _ us hl => (by obtain ⟨_, _, rfl⟩ := lenU2 hl; rfl)
  have b__law_plus := F__law_plus.binds (ps := p__law_plus) fun _ _ _ _ _ _ us hl => (by obtain ⟨_, _, rfl⟩ := lenU2 hl; rfl)
  have b__law_told := F__law_told.binds (ps := p__law_told) fun _ _ _ _ _ _ us hl => (by obtain ⟨_, _, rfl⟩ := lenU2 hl; rfl)
  have b__law_order := F__law_order.binds (ps := p__law_order) fun _ _ _ _ _ _ us hl => (by obtain ⟨_, _, rfl⟩ := lenU2 hl; rfl)
  have b_law := F_law.binds (ps := p_law) fun _ _ _ _ _ _ us hl => (by obtain ⟨_, rfl⟩ := lenU1 hl; rfl)
  refine ⟨PySem.W.fnOf "law" "law" (defArgs s_law) (defBody s_law) (defScope s_law) .none kV25 dc25 pm25 an25 cd25 ct25, fun s v => .of_eq rfl, fun base _ _ => ?_⟩
  have m_drawn_whole := fun {sp : Sp} {j : Nat} (O : FnOk l.prog w K mg base (CXR l.prog w) j f1 _ p_drawn_whole sp) => FnX.mk (x := "drawn_whole") O (PySem.W.mg_of X G a1) k1 b_drawn_whole
  have m_common_divisor := fun {sp : Sp} {j : Nat} (O : FnOk l.prog w K mg base CX0 j f2 _ p_common_divisor sp) => Fn.of (x := "common_divisor") O (PySem.W.mg_of X G a2) k2 b_common_divisor
  have m_fraction := fun {sp : Sp} {j : Nat} (O : FnOk l.prog w K mg base CX0 j f3 _ p_fraction sp) => Fn.of (x := "fraction") O (PySem.W.mg_of X G a3) k3 b_fraction
  have m_rests_of := fun {sp : Sp} {j : Nat} (O : FnOk l.prog w K mg base CX0 j f4 _ p_rests_of sp) => Fn.of (x := "rests_of") O (PySem.W.mg_of X G a4) k4 b_rests_of
  have m_number_in_twos := fun {sp : Sp} {j : Nat} (O : FnOk l.prog w K mg base CX0 j f5 _ p_number_in_twos sp) => Fn.of (x := "number_in_twos") O (PySem.W.mg_of X G a5) k5 b_number_in_twos
  have m_sum_by_halves := fun {sp : Sp} {j : Nat} (O : FnOk l.prog w K mg base CX0 j f6 _ p_sum_by_halves sp) => Fn.of (x := "sum_by_halves") O (PySem.W.mg_of X G a6) k6 b_sum_by_halves
  have m_even := fun {sp : Sp} {j : Nat} (O : FnOk l.prog w K mg base (CXR l.prog w) j f7 _ p_even sp) => FnX.mk (x := "even") O (PySem.W.mg_of X G a7) k7 b_even
  have m_take_even := fun {sp : Sp} {j : Nat} (O : FnOk l.prog w K mg base (CXR l.prog w) j f8 _ p_take_even sp) => FnX.mk (x := "take_even") O (PySem.W.mg_of X G a8) k8 b_take_even
  have m_sizes_of := fun {sp : Sp} {j : Nat} (O : FnOk l.prog w K mg base CX0 j f9 _ p_sizes_of sp) => Fn.of (x := "sizes_of") O (PySem.W.mg_of X G a9) k9 b_sizes_of
  have m_mean_even := fun {sp : Sp} {j : Nat} (O : FnOk l.prog w K mg base CX0 j f10 _ p_mean_even sp) => Fn.of (x := "mean_even") O (PySem.W.mg_of X G a10) k10 b_mean_even
  have m_check_place := fun {sp : Sp} {j : Nat} (O : FnOk l.prog w K mg base (CXR l.prog w) j f11 _ p_check_place sp) => FnX.mk (x := "check_place") O (PySem.W.mg_of X G a11) k11 b_check_place
  have m_count_figures := fun {sp : Sp} {j : Nat} (O : FnOk l.prog w K mg base CX0 j f12 _ p_count_figures sp) => Fn.of (x := "count_figures") O (PySem.W.mg_of X G a12) k12 b_count_figures
  have m_figures_at := fun {sp : Sp} {j : Nat} (O : FnOk l.prog w K mg base (CXR l.prog w) j f13 _ p_figures_at sp) => FnX.mk (x := "figures_at") O (PySem.W.mg_of X G a13) k13 b_figures_at
  have m_place_of_figures := fun {sp : Sp} {j : Nat} (O : FnOk l.prog w K mg base CX0 j f14 _ p_place_of_figures sp) => Fn.of (x := "place_of_figures") O (PySem.W.mg_of X G a14) k14 b_place_of_figures
  have m_radices_of_orders := fun {sp : Sp} {j : Nat} (O : FnOk l.prog w K mg base CX0 j f15 _ p_radices_of_orders sp) => Fn.of (x := "radices_of_orders") O (PySem.W.mg_of X G a15) k15 b_radices_of_orders
  have m_order_at := fun {sp : Sp} {j : Nat} (O : FnOk l.prog w K mg base (CXR l.prog w) j f16 _ p_order_at sp) => FnX.mk (x := "order_at") O (PySem.W.mg_of X G a16) k16 b_order_at
  have m_place_of_order := fun {sp : Sp} {j : Nat} (O : FnOk l.prog w K mg base CX0 j f17 _ p_place_of_order sp) => Fn.of (x := "place_of_order") O (PySem.W.mg_of X G a17) k17 b_place_of_order
  have m_order := fun {sp : Sp} {j : Nat} (O : FnOk l.prog w K mg base (CXR l.prog w) j f18 _ p_order sp) => FnX.mk (x := "order") O (PySem.W.mg_of X G a18) k18 b_order
  have m__law_draw := fun {sp : Sp} {j : Nat} (O : FnOk l.prog w K mg base CX0 j f19 _ p__law_draw sp) => Fn.of (x := "_law_draw") O (PySem.W.mg_of X G a19) k19 b__law_draw
  have m__law_every := fun {sp : Sp} {j : Nat} (O : FnOk l.prog w K mg base CX0 j f20 _ p__law_every sp) => Fn.of (x := "_law_every") O (PySem.W.mg_of X G a20) k20 b__law_every
  have m__law_frac := fun {sp : Sp} {j : Nat} (O : FnOk l.prog w K mg base CX0 j f21 _ p__law_frac sp) => Fn.of (x := "_law_frac") O (PySem.W.mg_of X G a21) k21 b__law_frac
  have m__law_plus := fun {sp : Sp} {j : Nat} (O : FnOk l.prog w K mg base CX0 j f22 _ p__law_plus sp) => Fn.of (x := "_law_plus") O (PySem.W.mg_of X G a22) k22 b__law_plus
  have m__law_told := fun {sp : Sp} {j : Nat} (O : FnOk l.prog w K mg base CX0 j f23 _ p__law_told sp) => Fn.of (x := "_law_told") O (PySem.W.mg_of X G a23) k23 b__law_told
  have m__law_order := fun {sp : Sp} {j : Nat} (O : FnOk l.prog w K mg base CX0 j f24 _ p__law_order sp) => Fn.of (x := "_law_order") O (PySem.W.mg_of X G a24) k24 b__law_order
  have q_draw := m__law_draw (ok__law_draw F__law_draw B)
  have T : Txt K mg c_Bits _ _ _ _ _ _ _ _ _ _ := ⟨cls_Bits, n_Bits_row, n_Bits_place, mgC_Bits, mk_Bits, m_Bits_take, m_Bits_used, m_Bits_left, m_Bits_go_back, b_Bits___init__, b_Bits_take, b_Bits_used, b_Bits_left, b_Bits_go_back⟩
  have q_init := ok_init (P := l.prog) (w := w) (base := base) F_Bits___init__ B T
  have q_used := ok_used (P := l.prog) (w := w) (base := base) F_Bits_used T
  have q_left := ok_left (P := l.prog) (w := w) (base := base) F_Bits_left B T
  have q_take := (ok_take (P := l.prog) (w := w) (base := base) F_Bits_take T X_NoBits q_left).imp take_imp
  have q_goH := okH_go_back (P := l.prog) (w := w) (base := base) F_Bits_go_back T
  have q_dw := m_drawn_whole (ok_drawn_whole (k0 := 3) F_drawn_whole T X_NoBits xm_NoBits_NoBits q_used q_goH)
  have q_te := m_take_even (ok_take_even F_take_even T q_take)
  have q_ev := m_even (ok_even F_even q_dw q_te)
  have q_evy := m__law_every (ok__law_every F__law_every B)
  have q_cp := m_check_place (ok_check_place F_check_place X_NoPlace)
  have q_cf := m_count_figures (ok_count_figures F_count_figures B)
  have q_fa := m_figures_at (ok_figures_at F_figures_at B q_cp q_cf)
  have q_pfT := m_place_of_figures (ok_place_of_figuresQ (c := true) F_place_of_figures B)
  have q_pfL := m_place_of_figures (ok_place_of_figuresQ (c := false) F_place_of_figures B)
  have q_ro := m_radices_of_orders (ok_radices_of_orders F_radices_of_orders B)
  have q_oa := m_order_at (ok_order_at F_order_at B q_ro q_fa)
  have q_po := m_place_of_order (ok_place_of_order F_place_of_order B q_ro q_pfL)
  have q_or := m_order (ok_order F_order B q_oa q_ev q_cf q_ro)
  have q_lo := m__law_order (ok__law_order F__law_order B T X_NoBits xm_NoBits_NoBits q_init q_or q_po)
  have q_to := m__law_told (ok__law_told F__law_told B T X_NoBits xm_NoBits_NoBits q_init q_ev q_fa)
  have q_cd := m_common_divisor (ok_common_divisor F_common_divisor B)
  have q_fr := m_fraction (ok_fraction F_fraction q_cd)
  have q_lf := m__law_frac (ok__law_frac F__law_frac B)
  have q_lp := m__law_plus ((ok__law_plusZ F__law_plus q_lf).imp plus_imp)
  have q_re := m_rests_of (ok_rests_of F_rests_of B)
  have q_nt := m_number_in_twos (ok_number_in_twos F_number_in_twos)
  have q_sh := m_sum_by_halves (ok_sum_by_halves F_sum_by_halves B q_nt q_fr)
  have q_so := m_sizes_of (ok_sizes_of F_sizes_of q_re)
  have q_me := m_mean_even (ok_mean_even F_mean_even q_so q_sh q_fr)
  exact ok_law F_law B q_draw q_evy q_lp q_me q_to q_pfT q_lo
theorem walk {l : PySem.W.OpenLaw} {q : Program} {loose : List Str} {XP : (Str → Option Value) → Heap → Prop} {YP : World → Heap → Prop} {d : DefRec} {K : Params → PySem.W.Frag} (hn : l.most = some 63) (hdf : d.params.defaults = [])
    (hY : ∀ (w : World) (h : Heap), YP w h → (K w.params).In h)
    (F : ∀ (w : World) (mg : Str → Option Value) (fa : Addr) (h : Heap), (K w.params).In h → h.Ns mainGlobals mg → mg d.name = some (.ref fa) →
      ∃ fd : FuncData, (∀ (s : Shared) (u : Value), BindsTo s fd ⟨[u], []⟩ [("_law_script", u)]) ∧ ∀ base : Heap, (K w.params).In base → base.Ns mainGlobals mg → FnOk l.prog w (K w.params) mg base CX0 12 fa fd ["_law_script"] (spLaw (K w.params))) :
    PySem.W.WalkO q loose XP YP l.row.toRowW d [] (fun f vs => PySem.call f vs) :=
  L2.walk_of (n := 63) (k := 12) (x := "_law_script") (CX := fun _ => CX0) (sp := fun w => spLaw (K w.params)) hn (by decide) hdf ⟨rfl, by decide, by decide⟩ hY F (fun _ _ a ns hl hO hS => ⟨a, ns, rfl, Scr.of hS hO, hl, fun _ => rfl⟩) fun _ _ _ _ _ z => z
end Lw
open PySem PySem.W PyProof.Rows
set_option maxRecDepth 100000 in
set_option maxHeartbeats 0 in
theorem PySem.Challenge.cw_bitdraws_k42_whole_one_number_for_all_holds : PySem.Challenge.rw_bitdraws_k42_whole_one_number_for_all.Holds := by
  w_on; o_law; k_head; (case hw => w_witness2)
  k_fill
  refine Lw.walk (l := PySem.Challenge.rw_bitdraws_k42_whole_one_number_for_all) rfl rfl (fun w h Y => PySem.W.kIn_of Y) ?F
  case F =>
    intro w mg fa h KX G hmg
    refine' Lw.all_mk KX G hmg ?a1 ?l1 ?c1 ?k1 ?a2 ?l2 ?c2 ?k2 ?a3 ?l3 ?c3 ?k3 ?a4 ?l4 ?c4 ?k4 ?a5 ?l5 ?c5 ?k5 ?a6 ?l6 ?c6 ?k6 ?a7 ?l7 ?c7 ?k7 ?a8 ?l8 ?c8 ?k8 ?a9 ?l9 ?c9 ?k9 ?a10 ?l10 ?c10 ?k10 ?a11 ?l11 ?c11 ?k11 ?a12 ?l12 ?c12 ?k12 ?a13 ?l13 ?c13 ?k13 ?a14 ?l14 ?c14 ?k14 ?a15 ?l15 ?c15 ?k15 ?a16 ?l16 ?c16 ?k16 ?a17 ?l17 ?c17 ?k17 ?a18 ?l18 ?c18 ?k18 ?a19 ?l19 ?c19 ?k19 ?a20 ?l20 ?c20 ?k20 ?a21 ?l21 ?c21 ?k21 ?a22 ?l22 ?c22 ?k22 ?a23 ?l23 ?c23 ?k23 ?a24 ?l24 ?c24 ?k24 ?a25 ?l25 ?c25 ?k25 ?z1 ?z2 ?z3 ?z4 ?z5 ?z6 ?z7 ?z8 ?z9 ?z10 ?z11 ?ca_Bits ?pg_Bits ?hd_Bits ?po_Bits ?sa_Bits ?mk_Bits ?kc_Bits ?n_Bits_row ?n_Bits_place ?a26 ?i26 ?l26 ?c26 ?k26 ?a27 ?i27 ?l27 ?c27 ?k27 ?a28 ?i28 ?l28 ?c28 ?k28 ?a29 ?i29 ?l29 ?c29 ?k29 ?a30 ?i30 ?l30 ?c30 ?k30 ?xa_NoBits ?xl_NoBits ?xi_NoBits ?xa_NoPlace ?xl_NoPlace ?xi_NoPlace ?xm_NoBits_NoBits ?xm_NoBits_NoPlace ?xm_NoPlace_NoBits ?xm_NoPlace_NoPlace
    (case a1 => k_is)
    (case l1 => k_is)
    (case c1 => k_is)
    (case k1 => k_is)
    (case a2 => k_is)
    (case l2 => k_is)
    (case c2 => k_is)
    (case k2 => k_is)
    (case a3 => k_is)
    (case l3 => k_is)
    (case c3 => k_is)
    (case k3 => k_is)
    (case a4 => k_is)
    (case l4 => k_is)
    (case c4 => k_is)
    (case k4 => k_is)
    (case a5 => k_is)
    (case l5 => k_is)
    (case c5 => k_is)
    (case k5 => k_is)
    (case a6 => k_is)
    (case l6 => k_is)
    (case c6 => k_is)
    (case k6 => k_is)
    (case a7 => k_is)
    (case l7 => k_is)
    (case c7 => k_is)
    (case k7 => k_is)
    (case a8 => k_is)
    (case l8 => k_is)
    (case c8 => k_is)
    (case k8 => k_is)
    (case a9 => k_is)
    (case l9 => k_is)
    (case c9 => k_is)
    (case k9 => k_is)
    (case a10 => k_is)
    (case l10 => k_is)
    (case c10 => k_is)
    (case k10 => k_is)
    (case a11 => k_is)
    (case l11 => k_is)
    (case c11 => k_is)
    (case k11 => k_is)
    (case a12 => k_is)
    (case l12 => k_is)
    (case c12 => k_is)
    (case k12 => k_is)
    (case a13 => k_is)
    (case l13 => k_is)
    (case c13 => k_is)
    (case k13 => k_is)
    (case a14 => k_is)
    (case l14 => k_is)
    (case c14 => k_is)
    (case k14 => k_is)
    (case a15 => k_is)
    (case l15 => k_is)
    (case c15 => k_is)
    (case k15 => k_is)
    (case a16 => k_is)
    (case l16 => k_is)
    (case c16 => k_is)
    (case k16 => k_is)
    (case a17 => k_is)
    (case l17 => k_is)
    (case c17 => k_is)
    (case k17 => k_is)
    (case a18 => k_is)
    (case l18 => k_is)
    (case c18 => k_is)
    (case k18 => k_is)
    (case a19 => k_is)
    (case l19 => k_is)
    (case c19 => k_is)
    (case k19 => k_is)
    (case a20 => k_is)
    (case l20 => k_is)
    (case c20 => k_is)
    (case k20 => k_is)
    (case a21 => k_is)
    (case l21 => k_is)
    (case c21 => k_is)
    (case k21 => k_is)
    (case a22 => k_is)
    (case l22 => k_is)
    (case c22 => k_is)
    (case k22 => k_is)
    (case a23 => k_is)
    (case l23 => k_is)
    (case c23 => k_is)
    (case k23 => k_is)
    (case a24 => k_is)
    (case l24 => k_is)
    (case c24 => k_is)
    (case k24 => k_is)
    (case a25 => k_is)
    (case l25 => k_is)
    (case c25 => k_is)
    (case k25 => k_is)
    (case z1 => k_is)
    (case z2 => k_is)
    (case z3 => k_is)
    (case z4 => k_is)
    (case z5 => k_is)
    (case z6 => k_is)
    (case z7 => k_is)
    (case z8 => k_is)
    (case z9 => k_is)
    (case z10 => k_is)
    (case z11 => k_is)
    (case ca_Bits => k_is)
    (case pg_Bits => k_is)
    (case hd_Bits => k_is)
    (case po_Bits => k_is)
    (case sa_Bits => k_is)
    (case mk_Bits => k_is)
    (case kc_Bits => k_is)
    (case n_Bits_row => k_is)
    (case n_Bits_place => k_is)
    (case a26 => k_is)
    (case i26 => k_is)
    (case l26 => k_is)
    (case c26 => k_is)
    (case k26 => k_is)
    (case a27 => k_is)
    (case i27 => k_is)
    (case l27 => k_is)
    (case c27 => k_is)
    (case k27 => k_is)
    (case a28 => k_is)
    (case i28 => k_is)
    (case l28 => k_is)
    (case c28 => k_is)
    (case k28 => k_is)
    (case a29 => k_is)
    (case i29 => k_is)
    (case l29 => k_is)
    (case c29 => k_is)
    (case k29 => k_is)
    (case a30 => k_is)
    (case i30 => k_is)
    (case l30 => k_is)
    (case c30 => k_is)
    (case k30 => k_is)
    (case xa_NoBits => k_is)
    (case xl_NoBits => k_is)
    (case xi_NoBits => first | kernel_rfl | rfl | decide +kernel | k_is)
    (case xa_NoPlace => k_is)
    (case xl_NoPlace => k_is)
    (case xi_NoPlace => first | kernel_rfl | rfl | decide +kernel | k_is)
    (case xm_NoBits_NoBits => first | kernel_rfl | rfl | decide +kernel | k_is)
    (case xm_NoBits_NoPlace => first | kernel_rfl | rfl | decide +kernel | k_is)
    (case xm_NoPlace_NoBits => first | kernel_rfl | rfl | decide +kernel | k_is)
    (case xm_NoPlace_NoPlace => first | kernel_rfl | rfl | decide +kernel | k_is)
