import PyProof.Rows.All
import Wide.All
import OpenK.AllK
import Wide.FinOn
import Lean
import PyProof.EqAt
import PyProof.EqKinds
import PyProof.TupleCall
import PySem.Challenge.RW_standtogether_k30_round_tables_known
section
-- CHANGE: your row's module here, as the last of these rows
set_option Elab.async false
set_option linter.all false
set_option maxRecDepth 100000
namespace L2
open PySem PySem.Spec PyProof.Rows
noncomputable abbrev Key := Sum Int Str
noncomputable def keyIs : Key → Value → Bool
  | .inl k, v => Value.isInt k v
  | .inr x, v => Value.isStrOf x v
noncomputable def keyH (w : World) : Key → Int
  | .inl k => hashInt k
  | .inr x => hashStr w x
theorem keyIs_shape : ∀ {k : Key} {v : Value}, keyIs k v = true → (∃ i t, k = Sum.inl i ∧ v = Value.int i t) ∨ (∃ x t, k = Sum.inr x ∧ v = Value.str x t)
  | .inl i, v, h => by
    obtain ⟨t, e⟩ := Value.isInt_shape (k := i) (v := v) h
    exact .inl ⟨i, t, rfl, e⟩
  | .inr x, v, h => by
    obtain ⟨t, e⟩ := Value.isStrOf_shape (x := x) (v := v) h
    exact .inr ⟨x, t, rfl, e⟩
theorem key_ll (a b : Int) : decide ((Sum.inl a : Key) = Sum.inl b) = (a == b) := by
  by_cases e : a = b
  · subst e; simp
  · have h : ¬ (Sum.inl a : Key) = Sum.inl b := fun q => e (Sum.inl.inj q)
    rw [decide_eq_false h]
    exact (beq_eq_false_iff_ne.mpr e).symm
theorem key_rr (a b : Str) : decide ((Sum.inr a : Key) = Sum.inr b) = decide (a = b) := by
  by_cases e : a = b
  · subst e; simp
  · have h : ¬ (Sum.inr a : Key) = Sum.inr b := fun q => e (Sum.inr.inj q)
    rw [decide_eq_false h, decide_eq_false e]
theorem key_lr (a : Int) (b : Str) : decide ((Sum.inl a : Key) = Sum.inr b) = false := decide_eq_false (fun q => nomatch q)
theorem key_rl (a : Str) (b : Int) : decide ((Sum.inr a : Key) = Sum.inl b) = false := decide_eq_false (fun q => nomatch q)
noncomputable def mixKind (prog : Program) (w : World) : PySem.KeyKind prog w Key where
  is := keyIs
  hash := keyH w
  inj := fun v a b ha hb => by
    rcases keyIs_shape ha with ⟨i, t, rfl, rfl⟩ | ⟨x, t, rfl, rfl⟩
    · rcases keyIs_shape hb with ⟨j, u, rfl, e⟩ | ⟨y, u, rfl, e⟩
      · injection e with e1 _; rw [e1]
      · exact nomatch e
    · rcases keyIs_shape hb with ⟨j, u, rfl, e⟩ | ⟨y, u, rfl, e⟩
      · exact nomatch e
      · injection e with e1 _; rw [e1]
  byValue := fun k v h => by
    rcases keyIs_shape h with ⟨i, t, rfl, rfl⟩ | ⟨x, t, rfl, rfl⟩ <;> rfl
  pyHash := fun hv h => by
    rcases keyIs_shape hv with ⟨i, t, rfl, rfl⟩ | ⟨x, t, rfl, rfl⟩
    · exact wpAny_pyHash_int h
    · exact wpAny_pyHash_str h
  eqBool := fun hu hv h => by
    rcases keyIs_shape hu with ⟨i, t, rfl, rfl⟩ | ⟨x, t, rfl, rfl⟩
    · rcases keyIs_shape hv with ⟨j, u, rfl, rfl⟩ | ⟨y, u, rfl, rfl⟩
      · rw [key_ll] at h; exact wpAny_eqBool_int h
      · rw [key_lr] at h; exact SeqAt.EqAt.int_str i t y u _ _ _ _ h
    · rcases keyIs_shape hv with ⟨j, u, rfl, rfl⟩ | ⟨y, u, rfl, rfl⟩
      · rw [key_rl] at h; exact SeqAt.EqAt.str_int x t j u _ _ _ _ h
      · rw [key_rr] at h; exact wpAny_eqBool_str h
  «strs» := fun k x t v h => by
    rcases keyIs_shape h with ⟨i, u, rfl, e⟩ | ⟨y, u, rfl, e⟩
    · exact nomatch e
    · injection e with e1 _
      subst e1
      cases v <;> rfl
end L2
namespace L2
open PySem PySem.Spec PyProof.Rows
inductive V where
  | non | bl (b : Bool) | int (i : Int) | str (x : Str) | byt (b : Array UInt8) | flt (b : UInt64) | ref (a : Addr) | ty (n : String)
  deriving DecidableEq
noncomputable def RelV : V → Value → Prop
  | .non, u => u = Value.none
  | .bl b, u => u = Value.bool b
  | .int i, u => ∃ t, u = Value.int i t
  | .str x, u => ∃ t, u = Value.str x t
  | .byt b, u => ∃ t, u = Value.bytes b t
  | .flt b, u => ∃ t, u = Value.float b t
  | .ref a, u => u = Value.ref a
  | .ty n, u => u = Value.type n
noncomputable abbrev Vals : List V → List Value → Prop := Paired RelV
theorem Vals.length {xs : List V} {us : List Value} (r : Vals xs us) : xs.length = us.length := Paired.length r
theorem Vals.get : ∀ {xs : List V} {us : List Value} {i : Nat} {x : V}, Vals xs us → xs[i]? = some x → ∃ u, us[i]? = some u ∧ RelV x u
  | _, _, _, _, .nil, e => by simp at e
  | _, _, 0, _, .cons r _, e => by simp at e; subst e; exact ⟨_, rfl, r⟩
  | _, _, i + 1, x, .cons _ t, e => by
    obtain ⟨u, h1, h2⟩ := Vals.get (i := i) (x := x) t (by simpa using e)
    exact ⟨u, by simpa using h1, h2⟩
theorem Vals.set {x : V} {u : Value} (r : RelV x u) : ∀ {xs : List V} {us : List Value} (i : Nat), Vals xs us → Vals (xs.set i x) (us.set i u)
  | _, _, _, .nil => .nil
  | _, _, 0, .cons _ t => .cons r t
  | _, _, i + 1, .cons q t => .cons q (Vals.set r i t)
theorem Vals.append : ∀ {xs ys : List V} {us ws : List Value}, Vals xs us → Vals ys ws → Vals (xs ++ ys) (us ++ ws)
  | _, _, _, _, .nil, s => s
  | _, _, _, _, .cons r t, s => .cons r (Vals.append t s)
theorem Vals.take : ∀ {xs : List V} {us : List Value} (n : Nat), Vals xs us → Vals (xs.take n) (us.take n)
  | _, _, 0, _ => .nil
  | _, _, _ + 1, .nil => .nil
  | _, _, n + 1, .cons r t => .cons r (Vals.take n t)
theorem Vals.drop : ∀ {xs : List V} {us : List Value} (n : Nat), Vals xs us → Vals (xs.drop n) (us.drop n)
  | _, _, 0, r => r
  | _, _, _ + 1, .nil => .nil
  | _, _, n + 1, .cons _ t => Vals.drop n t
noncomputable def RelO : Option V → Option Value → Prop
  | some v, some u => RelV v u
  | none, none => True
  | _, _ => False
noncomputable def KV {κ : Type} : List (κ × V) → List (κ × Value) → Prop := Paired fun (p : κ × V) (q : κ × Value) => p.1 = q.1 ∧ RelV p.2 q.2
noncomputable def kV : Key → V
  | .inl i => .int i
  | .inr x => .str x
inductive HO where
    | lst (xs : List V)
    | tup (xs : List V)
    | dK (kvs : List (Key × V)) | dT (kvs : List (List Key × V))
    | set (S : Int → Bool) (n : Nat)
    | ins (C dx : Addr) (fs : List (Str × V))
    | own (x : Addr)
    | xd (fs : List (Str × V))
    | met (f x : Addr)
    | rng (lo hi : Int)
    | frz (o : Obj) (u : HO)
    | tbl (ps : Array Value)
    | ext (φ : Heap → Prop)
noncomputable abbrev Hp := Addr → Option HO
noncomputable def upd (H : Hp) (a : Addr) (o : HO) : Hp := fun b => if b = a then some o else H b
theorem upd_same {H : Hp} {a : Addr} {o : HO} : upd H a o a = some o := by unfold upd; rw [if_pos rfl]
theorem upd_ne {H : Hp} {a b : Addr} {o : HO} (h : b ≠ a) : upd H a o b = H b := by unfold upd; rw [if_neg h]
theorem ne_of_none {H : Hp} {a b : Addr} {o : HO} (h : H a = some o) (h' : H b = none) : a ≠ b := by
  intro e; subst e; rw [h] at h'; cases h'
section
variable (P : Program) (w : World)
noncomputable def ObjOk (H : Hp) (h : Heap) (a : Addr) : HO → Prop
  | .lst xs => xs.length ≤ sizeLine ∧ ∃ (its : List Value) (n : Nat), Vals xs its ∧ h.get? a = some { cls := .type "list", data := .seq its.toArray n }
  | .tup xs => xs.length ≤ sizeLine ∧ ∃ its : List Value, Vals xs its ∧ ∃ n, h.get? a = some { cls := .type "tuple", data := .seq its.toArray n }
  | .dK kvs => kvs.length ≤ sizeLine ∧ (a == sysModules) = false ∧ ∃ vs, KV kvs vs ∧ h.DictOf (mixKind P w) a vs
  | .dT kvs => kvs.length ≤ sizeLine ∧ (a == sysModules) = false ∧ ∃ xs : List (List Key × Addr × Value),
      Paired (fun (p : List Key × V) (q : List Key × Addr × Value) => p.1 = q.1 ∧ H q.2.1 = some (.tup (p.1.map kV)) ∧ RelV p.2 q.2.2) kvs xs ∧
      ∃ o es ep, h.get? a = some o ∧ o.ExactDict ∧ o.data = .dict es ep ∧ es.toList = xs.map (entryOfKey (tupleKind (mixKind P w))) ∧ (xs.map (·.1)).Nodup
  | .set S n => h.SetOf (intKind P w) a S n
  | .ins C dx fs => H dx = some (.own a) ∧ fs.length ≤ 1000 ∧ dx ≠ a ∧ h.get? a = some (PySem.W.instObj C dx) ∧
      ∃ mA, h.Ns1 dx mA ∧ (∀ f, RelO (fs.lookup f) (mA f)) ∧ PySem.Within mA (fs.map (·.1))
  | .own _ => ∃ o, h.get? a = some o
  | .xd fs => ∃ mA, h.Ns1 a mA ∧ ∀ f, RelO (fs.lookup f) (mA f)
  | .rng lo hi => ∃ t u v, h.get? a = some { cls := .type "range", data := .fields #[.int lo t, .int hi u, .int 1 v] }
  | .frz o u => h.get? a = some o ∧ ObjOk H h a u
  | .tbl ps => h.get? a = some { cls := .none, data := .fields ps }
  | .met f x => h.get? a = some (PySem.W.methodObj (.ref f) (.ref x))
  | .ext φ => φ h ∧ (∃ o, h.get? a = some o) ∧ ∀ h1 h2 : Heap, φ h1 → (∀ o, h1.get? a = some o → h2.get? a = some o) → φ h2
noncomputable def HOk (H : Hp) (h : Heap) : Prop := ∀ a o, H a = some o → ObjOk P w H h a o
end
section
variable {P : Program} {w : World} {H H' : Hp} {h h' : Heap} {a : Addr} {o : HO}
theorem ObjOk.lt (x : ObjOk P w H h a o) : a < h.objs.size := by
  cases o with
  | lst xs => obtain ⟨_, _, _, _, e⟩ := x; exact Heap.lt_size e
  | tup xs => obtain ⟨_, _, _, _, e⟩ := x; exact Heap.lt_size e
  | dK kvs => obtain ⟨_, _, _, _, o, _, _, e, _⟩ := x; exact Heap.lt_size e
  | dT kvs => obtain ⟨_, _, _, _, o, _, _, e, _⟩ := x; exact Heap.lt_size e
  | set S n => obtain ⟨o, _, _, _, e, _⟩ := x; exact Heap.lt_size e
  | ins C dx fs => obtain ⟨_, _, _, e, _⟩ := x; exact Heap.lt_size e
  | own y => obtain ⟨_, e⟩ := x; exact Heap.lt_size e
  | xd fs => obtain ⟨_, ⟨_, _, _, e, _⟩, _⟩ := x; exact Heap.lt_size e
  | rng lo hi => obtain ⟨_, _, _, e⟩ := x; exact Heap.lt_size e
  | frz ob u => obtain ⟨e, _⟩ := x; exact Heap.lt_size e
  | tbl ps => exact Heap.lt_size (show h.get? a = some _ from x)
  | met f y => exact Heap.lt_size (show h.get? a = some _ from x)
  | ext φ => obtain ⟨_, ⟨_, e⟩, _⟩ := x; exact Heap.lt_size e
theorem Paired.mapP {α β : Type} {F G : α → β → Prop} : ∀ {l₁ : List α} {l₂ : List β}, Paired F l₁ l₂ → (∀ a b, F a b → G a b) → Paired G l₁ l₂
  | _, _, .nil, _ => .nil
  | _, _, .cons r t, f => .cons (f _ _ r) (Paired.mapP t f)
theorem ObjOk.stay (x : ObjOk P w H h a o) (k : ∀ b u, (b = a ∨ H b = some (.own a)) → h.get? b = some u → h'.get? b = some u)
    (ho : ∀ b, H b = some (.own a) → H' b = some (.own a)) (ht : ∀ b xs, H b = some (.tup xs) → H' b = some (.tup xs)) : ObjOk P w H' h' a o := by
  induction o with
  | lst xs => obtain ⟨z, its, n, r, e⟩ := x; exact ⟨z, its, n, r, k _ _ (.inl rfl) e⟩
  | tup xs => obtain ⟨z, its, r, n, e⟩ := x; exact ⟨z, its, r, n, k _ _ (.inl rfl) e⟩
  | dK kvs => obtain ⟨z, y, vs, r, ob, es, ep, e, c⟩ := x; exact ⟨z, y, vs, r, ob, es, ep, k _ _ (.inl rfl) e, c⟩
  | dT kvs =>
    obtain ⟨z, y, xs, r, ob, es, ep, e, c⟩ := x
    exact ⟨z, y, xs, Paired.mapP r fun p q z => ⟨z.1, ht _ _ z.2.1, z.2.2⟩, ob, es, ep, k _ _ (.inl rfl) e, c⟩
  | set S n => obtain ⟨ob, es, ep, t, e, c⟩ := x; exact ⟨ob, es, ep, t, k _ _ (.inl rfl) e, c⟩
  | ins C dx fs =>
    obtain ⟨d, z, ne, e, mA, ⟨od, es, ep, e2, c⟩, r⟩ := x
    exact ⟨ho _ d, z, ne, k _ _ (.inl rfl) e, mA, ⟨od, es, ep, k _ _ (.inr d) e2, c⟩, r⟩
  | own y => obtain ⟨ob, e⟩ := x; exact ⟨ob, k _ _ (.inl rfl) e⟩
  | xd fs => obtain ⟨mA, ⟨od, es, ep, e, c⟩, r⟩ := x; exact ⟨mA, ⟨od, es, ep, k _ _ (.inl rfl) e, c⟩, r⟩
  | rng lo hi => obtain ⟨t, u, v, e⟩ := x; exact ⟨t, u, v, k _ _ (.inl rfl) e⟩
  | frz ob u ih => obtain ⟨e, q⟩ := x; exact ⟨k _ _ (.inl rfl) e, ih q⟩
  | tbl ps =>
    have e : h.get? a = some { cls := .none, data := .fields ps } := x
    show h'.get? a = some { cls := .none, data := .fields ps }
    exact k a _ (.inl rfl) e
  | met f y =>
    have e : h.get? a = some (PySem.W.methodObj (.ref f) (.ref y)) := x
    show h'.get? a = some (PySem.W.methodObj (.ref f) (.ref y))
    exact k a _ (.inl rfl) e
  | ext φ => obtain ⟨p, ⟨o, e⟩, st⟩ := x; exact ⟨st _ _ p fun o q => k _ _ (.inl rfl) q, ⟨o, k _ _ (.inl rfl) e⟩, st⟩
theorem HOk.lt (x : HOk P w H h) (e : H a = some o) : a < h.objs.size := (x a o e).lt
theorem HOk.fresh (x : HOk P w H h) (e : h.objs.size ≤ a) : H a = none := by
  cases q : H a with
  | none => rfl
  | some u => exact absurd (Nat.lt_of_lt_of_le (x.lt q) e) (Nat.lt_irrefl _)
theorem HOk.kept (x : HOk P w H h) (k : ∀ b u, h.get? b = some u → h'.get? b = some u) : HOk P w H h' := fun a o e =>
  (x a o e).stay (fun b u _ q => k b u q) (fun _ q => q) fun _ _ q => q
theorem HOk.laid (x : HOk P w H h) (k : ∀ b u, h.get? b = some u → h'.get? b = some u) (hp : h.objs.size ≤ a) (new : ObjOk P w (upd H a o) h' a o) : HOk P w (upd H a o) h' := fun b u e => by
  have hn := x.fresh hp
  by_cases hb : b = a
  · subst hb; rw [upd_same] at e; cases e; exact new
  · rw [upd_ne hb] at e
    exact (x b u e).stay (fun c v _ q => k c v q) (fun c q => by rw [upd_ne (ne_of_none q hn)]; exact q) fun c xs q => by rw [upd_ne (ne_of_none q hn)]; exact q
end
noncomputable def Rd (H : Hp) (a : Addr) (u : HO) : Prop := H a = some u ∨ ∃ o, H a = some (.frz o u)
theorem Rd.of {H : Hp} {a : Addr} {u : HO} (h : H a = some u) : Rd H a u := .inl h
theorem Rd.ok {P : Program} {w : World} {H : Hp} {h : Heap} {a : Addr} {u : HO} (r : Rd H a u) (x : HOk P w H h) : ObjOk P w H h a u := by
  rcases r with r | ⟨o, r⟩
  · exact x a u r
  · obtain ⟨_, q⟩ := x a _ r
    exact q
noncomputable def Mut : Option HO → Prop
  | some (.lst _) => True
  | some (.dK _) => True
  | some (.dT _) => True
  | some (.set _ _) => True
  | some (.ins _ _ _) => True
  | some (.ext _) => True
  | _ => False
section
variable {P : Program} {w : World} {H : Hp} {h h' : Heap} {x e : Addr} {o' : HO}
theorem HOk.write (ok : HOk P w H h) (mu : Mut (H x)) (he : e = x ∨ H e = some (.own x)) (k : ∀ b u, b ≠ e → h.get? b = some u → h'.get? b = some u) (heo : ∃ u, h'.get? e = some u)
    (new : ObjOk P w (upd H x o') h' x o') : HOk P w (upd H x o') h' := fun b u q => by
  have nown : ∀ c y, H c = some (.own y) → c ≠ x := fun c y r z => by subst z; rw [r] at mu; exact mu
  have ntup : ∀ c xs, H c = some (.tup xs) → c ≠ x := fun c xs r z => by subst z; rw [r] at mu; exact mu
  by_cases hb : b = x
  · subst hb; rw [upd_same] at q; cases q; exact new
  · rw [upd_ne hb] at q
    by_cases hbe : b = e
    · have q' : H b = some (.own x) := by
        rcases he with z | z
        · exact absurd (hbe.trans z) hb
        · rw [hbe]; exact z
      rw [q] at q'; cases q'
      obtain ⟨v, hv⟩ := heo
      exact ⟨v, by rw [hbe]; exact hv⟩
    · refine (ok b u q).stay (fun c v hc r => k c v ?_ r) (fun c r => by rw [upd_ne (nown c b r)]; exact r) fun c xs r => by rw [upd_ne (ntup c xs r)]; exact r
      rcases hc with rfl | hc
      · exact hbe
      · rintro rfl
        rcases he with z | z
        · exact nown c b hc z
        · rw [hc] at z; cases z; exact hb rfl
end
structure Un (fs ex : List Addr) (H H' : Hp) (h h' : Heap) : Prop where
  keep : ∀ b o, h.get? b = some o → H b = none → b ∉ fs → b ∉ ex → h'.get? b = some o
  slot : ∀ b o, h.get? b = some o → H b = none → b ∈ fs → b ∉ ex → ∃ sl, h'.get? b = some { o with slots := sl }
  free : ∀ b o, h.get? b = some o → H b = none → b ∉ ex → H' b = none
  there : ∀ b o, h.get? b = some o → b ∉ ex → ∃ o', h'.get? b = some o'
  tups : ∀ b xs, H b = some (.tup xs) → H' b = some (.tup xs)
  frzs : ∀ b o u, H b = some (.frz o u) → H' b = some (.frz o u)
  tbls : ∀ b ps, H b = some (.tbl ps) → ∃ more, H' b = some (.tbl (ps ++ more))
section
variable {fs fs' ex ex' : List Addr} {H H1 H2 : Hp} {h h1 h2 h' : Heap} {a x e : Addr} {o : HO}
theorem Un.any (u : Un fs ex H H1 h h1) {b : Addr} {ob : Obj} (q : h.get? b = some ob) (n : H b = none) (hx : b ∉ ex) : ∃ sl, h1.get? b = some { ob with slots := sl } := by
  by_cases hb : b ∈ fs
  · exact u.slot b ob q n hb hx
  · exact ⟨ob.slots, u.keep b ob q n hb hx⟩
theorem Un.trans (a : Un fs ex H H1 h h1) (b : Un fs ex H1 H2 h1 h2) : Un fs ex H H2 h h2 where
  keep := fun c ob q n hc hx => b.keep c ob (a.keep c ob q n hc hx) (a.free c ob q n hx) hc hx
  slot := fun c ob q n hc hx => by
    obtain ⟨sl, e1⟩ := a.slot c ob q n hc hx
    obtain ⟨sl', e2⟩ := b.slot c _ e1 (a.free c ob q n hx) hc hx
    exact ⟨sl', e2⟩
  free := fun c ob q n hx => by
    obtain ⟨o', e1⟩ := a.there c ob q hx
    exact b.free c o' e1 (a.free c ob q n hx) hx
  there := fun c ob q hx => by
    obtain ⟨o', e1⟩ := a.there c ob q hx
    exact b.there c o' e1 hx
  tups := fun c xs q => b.tups c xs (a.tups c xs q)
  frzs := fun c ob xs q => b.frzs c ob xs (a.frzs c ob xs q)
  tbls := fun c ps q => by
    obtain ⟨m1, e1⟩ := a.tbls c ps q
    obtain ⟨m2, e2⟩ := b.tbls c _ e1
    exact ⟨m1 ++ m2, by rw [e2, Array.append_assoc]⟩
theorem Un.kept (k : ∀ b u, h.get? b = some u → h'.get? b = some u) : Un fs ex H H h h' :=
  ⟨fun b ob q _ _ _ => k b ob q, fun b ob q _ _ _ => ⟨ob.slots, k b ob q⟩, fun _ _ _ n _ => n, fun b ob q _ => ⟨ob, k b ob q⟩, fun _ _ q => q, fun _ _ _ q => q, fun _ ps q => ⟨#[], by rw [q]; simp⟩⟩
theorem Un.refl : Un fs ex H H h h := Un.kept fun _ _ q => q
theorem Un.laid (k : ∀ b u, h.get? b = some u → h'.get? b = some u) (hp : h.objs.size ≤ a) (hn : H a = none) : Un fs ex H (upd H a o) h h' where
  keep := fun b u q _ _ _ => k b u q
  slot := fun b u q _ _ _ => ⟨u.slots, k b u q⟩
  free := fun b u q n _ => by rw [upd_ne (Nat.ne_of_lt (Nat.lt_of_lt_of_le (Heap.lt_size q) hp))]; exact n
  there := fun b u q _ => ⟨u, k b u q⟩
  tups := fun b xs q => by rw [upd_ne (ne_of_none q hn)]; exact q
  frzs := fun b u xs q => by rw [upd_ne (ne_of_none q hn)]; exact q
  tbls := fun b ps q => ⟨#[], by rw [upd_ne (ne_of_none q hn), q]; simp⟩
theorem Un.write (mu : Mut (H x)) (he : e = x ∨ H e = some (.own x)) (k : ∀ b u, b ≠ e → h.get? b = some u → h'.get? b = some u) (heo : ∃ u, h'.get? e = some u) : Un fs ex H (upd H x o) h h' := by
  have hx : ∀ b, H b = none → b ≠ x := fun b n z => by subst z; rw [n] at mu; exact mu
  have hb : ∀ b, H b = none → b ≠ e := fun b n z => by
    subst z
    rcases he with r | r
    · exact hx b n r
    · rw [n] at r; cases r
  have hm : ∀ b u, H b = some u → ¬ Mut (some u) → b ≠ x := fun b u q nm z => by subst z; rw [q] at mu; exact nm mu
  refine ⟨fun b u q n _ _ => k b u (hb b n) q, fun b u q n _ _ => ⟨u.slots, k b u (hb b n) q⟩, fun b u q n _ => by rw [upd_ne (hx b n)]; exact n, fun b u q _ => ?_,
    fun b xs q => by rw [upd_ne (hm b _ q fun z => z)]; exact q, fun b u xs q => by rw [upd_ne (hm b _ q fun z => z)]; exact q, fun b ps q => ⟨#[], by rw [upd_ne (hm b _ q fun z => z), q]; simp⟩⟩
  by_cases hbe : b = e
  · subst hbe; exact heo
  · exact ⟨u, k b u hbe q⟩
theorem Un.mono (u : Un fs ex H H1 h h1) (hs : ∀ b ∈ fs, b ∈ fs') (hx : ∀ b ∈ ex, b ∈ ex') : Un fs' ex' H H1 h h1 :=
  ⟨fun b ob q n hb he => u.keep b ob q n (fun z => hb (hs b z)) fun z => he (hx b z), fun _ _ q n _ he => u.any q n fun z => he (hx _ z), fun b ob q n he => u.free b ob q n fun z => he (hx b z), fun b ob q he => u.there b ob q fun z => he (hx b z), u.tups, u.frzs, u.tbls⟩
end
noncomputable def trk (h : Heap) (H : Hp) : List Addr := (List.range h.objs.size).filter fun a => (H a).isSome
noncomputable def hidT (h : Heap) (H : Hp) : Heap := PySem.W.hideAll h (trk h H)
theorem hidT_size (h : Heap) (H : Hp) : (hidT h H).objs.size = h.objs.size := PySem.W.hideAll_size _ _
theorem hidT_get {h : Heap} {H : Hp} {b : Addr} {o : Obj} (e : h.get? b = some o) (n : H b = none) : (hidT h H).get? b = some o :=
  PySem.W.hideAll_get _ e fun hm => by
    have q : (H b).isSome = true := (List.mem_filter.mp hm).2
    rw [n] at q; simp at q
theorem of_hidT {h : Heap} {H : Hp} {b : Addr} {o : Obj} (e : (hidT h H).get? b = some o) : h.get? b = some o ∧ H b = none := by
  have e' : h.get? b = some o := PySem.W.of_hideAll (trk h H) e
  refine ⟨e', ?_⟩
  cases q : H b with
  | none => rfl
  | some x =>
    have hm : b ∈ trk h H := List.mem_filter.mpr ⟨List.mem_range.mpr (Heap.lt_size e'), by simp [q]⟩
    have z : (hidT h H).get? b = none := PySem.W.hideAll_none (trk h H) hm
    rw [z] at e; cases e
noncomputable def allNews (g h : Heap) (L : Addr) : List (Addr × Obj) := (List.range h.objs.size).filterMap fun a => if a = L ∨ (g.get? a).isSome = true then none else (h.get? a).map fun o => (a, o)
noncomputable def rest (g h : Heap) (L d : Addr) : List (Addr × Obj) := (allNews g h L).filter fun p => decide (p.1 ≠ d)
end L2
namespace L2
open PySem PySem.Spec PyProof.Rows
structure Mod (K : PySem.W.Frag) (mg : Str → Option Value) (base : Heap) : Prop where
  kin : K.In base
  glob : base.Ns mainGlobals mg
  blt : ∃ mb, base.Ns builtinsNs mb ∧ ∀ x : Str, x ≠ "__name__" → mb x = bootBuiltins x
  nolimit : base.NoLimit
structure Cx where
  prog : Program
  w : World
  K : PySem.W.Frag
  mg : Str → Option Value
  base : Heap
  A : Around
  N : List Str
  s₀ : Shared
  H₀ : Hp
  env : Env
  outer : List Env
  stack : List Env
  ex : List Addr
  fn : Str → Bool
  calm : Bool
  pn : List (Addr × Obj)
  xe : Value → Shared → Prop
noncomputable def frs (l : List Env) : List Addr := l.filterMap (·.frame)
noncomputable abbrev Cx.fs (X : Cx) : List Addr := frs X.outer
noncomputable def Vis (sc : Scope) (x : Str) : Prop := sc.names.lookup x = some .local ∨ sc.names.lookup x = some .cell ∨ sc.names.lookup x = some .free
noncomputable def Loc (sc : Scope) (x : Str) : Prop := sc.names.lookup x = some .local ∨ sc.names.lookup x = some .cell
noncomputable def Look (env : Env) (h : Heap) (m : Str → Option Value) (x : Str) (u : Value) : Prop :=
  (env.kindOf x = some .local ∧ m x = some u) ∨ ((env.kindOf x = some .cell ∨ env.kindOf x = some .free) ∧ ∃ c, env.cells.lookup x = some c ∧ h.IsCell c (some u))
structure Cx.Ok (X : Cx) : Prop where
  mod : Mod X.K X.mg X.base
  kind : X.env.scope.kind = .function
  glob : X.env.globals = mainGlobals
  blt : X.env.builtins = builtinsNs
  above : X.s₀.heap.objs.size ≤ X.env.locals
  inj : ∀ x y c, X.env.cells.lookup x = some c → X.env.cells.lookup y = some c → x = y
  has : ∀ x, (X.env.kindOf x = some .cell ∨ X.env.kindOf x = some .free) → ∃ c, X.env.cells.lookup x = some c
  cab : ∀ x c, X.fn x = true → X.env.cells.lookup x = some c → X.s₀.heap.objs.size ≤ c
  hd : X.calm = true → X.A.handled = none
  frames : X.A.frames = some X.stack
  stk : X.stack = X.outer ∨ (X.stack = X.env :: X.outer ∧ X.env.frame = some X.env.locals)
  exf : ∀ b ∈ X.ex, b ≠ X.env.locals ∧ ∀ x c, X.env.cells.lookup x = some c → c ≠ b
  bs : ∀ b o, X.base.get? b = some o → X.s₀.heap.get? b = some o ∧ X.H₀ b = none
  bsz : X.base.objs.size ≤ X.s₀.heap.objs.size
  noex : ∀ b o, X.base.get? b = some o → b ∉ X.ex
  exfs : ∀ b ∈ X.ex, b ∉ X.fs
  funs : X.s₀.heap.FunFrames X.base X.outer
  frf : ∀ b ∈ X.fs, X.H₀ b = none
structure Inv (X : Cx) (pins : List (Addr × Obj)) (σ : List (Option V)) (H : Hp) (s : Shared) : Prop where
  ok : X.Ok
  os : s.os = X.s₀.os
  bare : AllBare s.gens
  base : Un X.fs X.ex X.H₀ H X.s₀.heap s.heap
  loc : ∃ m, s.heap.Ns X.env.locals m ∧ ∀ (i : Nat) (x : Str) (v : V), X.N[i]? = some x → σ[i]? = some (some v) → Vis X.env.scope x → ∃ u, RelV v u ∧ Look X.env s.heap m x u
  cell : ∀ x c, X.env.cells.lookup x = some c → ∃ v, s.heap.IsCell c v
  free : H X.env.locals = none
  freeC : ∀ x c, X.env.cells.lookup x = some c → H c = none
  pin : ∀ p ∈ X.pn ++ pins, s.heap.get? p.1 = some p.2 ∧ H p.1 = none ∧ p.1 ≠ X.env.locals ∧ p.1 ∉ X.fs ∧ ∀ v, p.2.data ≠ .cell v
  hok : HOk X.prog X.w H s.heap
  len : σ.length = X.N.length
section
variable {X : Cx} {pins : List (Addr × Obj)} {σ : List (Option V)} {H H' : Hp} {s : Shared} {h' : Heap}
theorem Cx.Ok.nofr (ok : X.Ok) {b : Addr} {o : Obj} (e : X.base.get? b = some o) : b ∉ X.fs := fun hb => by
  have := (ok.funs.mem hb).1
  rw [e] at this; cases this
theorem Inv.bs (I : Inv X pins σ H s) : ∀ b o, X.base.get? b = some o → s.heap.get? b = some o ∧ H b = none := fun b o e =>
  ⟨I.base.keep b o (I.ok.bs b o e).1 (I.ok.bs b o e).2 (I.ok.nofr e) (I.ok.noex b o e), I.base.free b o (I.ok.bs b o e).1 (I.ok.bs b o e).2 (I.ok.noex b o e)⟩
theorem Inv.bk (I : Inv X pins σ H s) : ∀ b o, X.base.get? b = some o → s.heap.get? b = some o := fun b o e => (I.bs b o e).1
theorem Inv.mod (I : Inv X pins σ H s) : Mod X.K X.mg X.base := I.ok.mod
theorem Inv.kIn (I : Inv X pins σ H s) : X.K.In s.heap := I.ok.mod.kin.keeps I.bk
theorem Inv.nolimit (I : Inv X pins σ H s) : s.heap.NoLimit := I.ok.mod.nolimit.keeps I.bk
theorem Inv.fr (I : Inv X pins σ H s) : ∃ m, Fr X.base X.env.locals s.heap m :=
  let ⟨m, hn, _⟩ := I.loc
  ⟨m, hn, I.bk, Nat.le_trans I.ok.bsz I.ok.above⟩
theorem Inv.lt (I : Inv X pins σ H s) : X.env.locals < s.heap.objs.size := let ⟨_, hn, _⟩ := I.loc; hn.lt
theorem Inv.sz (I : Inv X pins σ H s) : X.s₀.heap.objs.size ≤ s.heap.objs.size := Nat.le_trans I.ok.above (Nat.le_of_lt I.lt)
theorem Inv.nofs (I : Inv X pins σ H s) {a : Addr} (h : s.heap.objs.size ≤ a) : a ∉ X.fs := fun hb => by
  obtain ⟨_, o, ho, _⟩ := I.ok.funs.mem hb
  exact absurd (Nat.lt_of_lt_of_le (Heap.lt_size ho) (Nat.le_trans I.sz h)) (Nat.lt_irrefl _)
theorem Inv.cne (I : Inv X pins σ H s) : ∀ x c, X.env.cells.lookup x = some c → c ≠ X.env.locals := fun x c e z => by
  obtain ⟨v, o, ho, hd⟩ := I.cell x c e
  obtain ⟨m, ⟨o', es, ep, ho', hd', _⟩, _⟩ := I.loc
  rw [z, ho'] at ho; cases ho; rw [hd'] at hd; cases hd
theorem Inv.funs (I : Inv X pins σ H s) : s.heap.FunFrames X.base X.outer := by
  have all : ∀ (l : List Env), (∀ b ∈ frs l, b ∈ X.fs) → X.s₀.heap.FunFrames X.base l → s.heap.FunFrames X.base l := by
    intro l
    induction l with
    | nil => intro _ _; trivial
    | cons env r ih =>
      intro hs hl
      obtain ⟨hk, ⟨L, o, hf, hn, ho, hd⟩, hr⟩ := hl
      have hL : L ∈ X.fs := hs L (by unfold frs; rw [List.filterMap_cons, hf]; exact List.mem_cons_self)
      obtain ⟨sl, e⟩ := I.base.slot L o ho (I.ok.frf L hL) hL fun z => I.ok.exfs L z hL
      exact ⟨hk, ⟨L, _, hf, hn, e, hd⟩, ih (fun b hb => hs b (by unfold frs; rw [List.filterMap_cons, hf]; exact List.mem_cons_of_mem _ hb)) hr⟩
  exact all X.outer (fun _ hb => hb) I.ok.funs
theorem Inv.stack (I : Inv X pins σ H s) : s.heap.FunFrames X.base X.stack := by
  rcases I.ok.stk with e | ⟨e, hf⟩
  · rw [e]; exact I.funs
  · rw [e]
    obtain ⟨m, hn, _⟩ := I.loc
    refine .cons (by rw [I.ok.kind]; decide) hf hn ?_ I.funs
    exact Heap.get?_none_of_le (Nat.le_trans I.ok.bsz I.ok.above)
theorem Inv.stkSub (I : Inv X pins σ H s) : ∀ b ∈ frs X.stack, b ∈ X.env.locals :: X.fs := fun b hb => by
  rcases I.ok.stk with e | ⟨e, hf⟩
  · rw [e] at hb; exact List.mem_cons_of_mem _ hb
  · rw [e] at hb
    unfold frs at hb
    rw [List.filterMap_cons, hf] at hb
    exact hb
theorem Inv.stkFree (I : Inv X pins σ H s) : ∀ b ∈ frs X.stack, H b = none := fun b hb => by
  rcases List.mem_cons.mp (I.stkSub b hb) with e | hb
  · rw [e]; exact I.free
  · obtain ⟨_, o, ho, _⟩ := I.ok.funs.mem hb
    exact I.base.free b o ho (I.ok.frf b hb) fun z => I.ok.exfs b z hb
theorem Inv.step {g' : Array GenState} {t' : Nat} {d' : Drawn} {ch : List Addr} (I : Inv X pins σ H s)
    (hch : ∀ b ∈ ch, (b ∈ X.ex ∨ X.s₀.heap.objs.size ≤ b) ∧ b ≠ X.env.locals ∧ (∀ x c, X.env.cells.lookup x = some c → c ≠ b) ∧ ∀ p ∈ X.pn ++ pins, p.1 ≠ b)
    (keep : ∀ b o, b ≠ X.env.locals → b ∉ X.fs → b ∉ ch → s.heap.get? b = some o → H b = none → h'.get? b = some o)
    (slot : ∀ b o, b ≠ X.env.locals → b ∈ X.fs → b ∉ ch → s.heap.get? b = some o → H b = none → ∃ sl, h'.get? b = some { o with slots := sl }) (free : ∀ b o, b ∉ ch → s.heap.get? b = some o → H b = none → H' b = none)
    (there : ∀ b o, b ∉ ch → s.heap.get? b = some o → ∃ o', h'.get? b = some o')
    (tups : ∀ b xs, H b = some (.tup xs) → H' b = some (.tup xs)) (frzs : ∀ b o u, H b = some (.frz o u) → H' b = some (.frz o u)) (tbls : ∀ b ps, H b = some (.tbl ps) → ∃ more, H' b = some (.tbl (ps ++ more)))
    (ns : ∀ m, s.heap.Ns X.env.locals m → h'.Ns X.env.locals m) (hok : HOk X.prog X.w H' h') (hg : AllBare g') :
    Inv X pins σ H' { s with heap := h', gens := g', drawn := d', toks := t' } := by
  have neL : ∀ b o, X.s₀.heap.get? b = some o → b ≠ X.env.locals := fun b o e => Nat.ne_of_lt (Nat.lt_of_lt_of_le (Heap.lt_size e) I.ok.above)
  have neC : ∀ b o, X.s₀.heap.get? b = some o → b ∉ X.ex → b ∉ ch := fun b o e hx hb => by
    rcases (hch b hb).1 with z | z
    · exact hx z
    · exact absurd (Nat.lt_of_lt_of_le (Heap.lt_size e) z) (Nat.lt_irrefl _)
  have cellK : ∀ x c, X.env.cells.lookup x = some c → ∀ v, s.heap.IsCell c v → h'.IsCell c v := fun x c e v ⟨o, ho, hd⟩ => by
    have nch : c ∉ ch := fun z => (hch c z).2.2.1 x c e rfl
    by_cases hc : c ∈ X.fs
    · obtain ⟨sl, q⟩ := slot c o (I.cne x c e) hc nch ho (I.freeC x c e)
      exact ⟨_, q, hd⟩
    · exact ⟨o, keep c o (I.cne x c e) hc nch ho (I.freeC x c e), hd⟩
  refine ⟨I.ok, I.os, hg, ⟨fun b o e n hb hx => ?_, fun b o e n hb hx => ?_, fun b o e n hx => ?_, fun b o e hx => ?_, fun b xs e => tups b xs (I.base.tups b xs e), fun b o xs e => frzs b o xs (I.base.frzs b o xs e), fun b ps e => ?_⟩, ?_, fun x c e => ?_, ?_, fun x c e => ?_, fun p hp => ?_, hok, I.len⟩
  · exact keep b o (neL b o e) hb (neC b o e hx) (I.base.keep b o e n hb hx) (I.base.free b o e n hx)
  · obtain ⟨sl, e1⟩ := I.base.slot b o e n hb hx
    obtain ⟨sl', e2⟩ := slot b _ (neL b o e) hb (neC b o e hx) e1 (I.base.free b o e n hx)
    exact ⟨sl', e2⟩
  · obtain ⟨o', e1⟩ := I.base.there b o e hx
    exact free b o' (neC b o e hx) e1 (I.base.free b o e n hx)
  · obtain ⟨o', e1⟩ := I.base.there b o e hx
    exact there b o' (neC b o e hx) e1
  · obtain ⟨m1, e1⟩ := I.base.tbls b ps e
    obtain ⟨m2, e2⟩ := tbls b _ e1
    exact ⟨m1 ++ m2, by rw [e2, Array.append_assoc]⟩
  · obtain ⟨m, hn, hl⟩ := I.loc
    refine ⟨m, ns m hn, fun i x v e1 e2 e3 => ?_⟩
    obtain ⟨u, r, l⟩ := hl i x v e1 e2 e3
    refine ⟨u, r, ?_⟩
    rcases l with l | ⟨k, c, e, z⟩
    · exact .inl l
    · exact .inr ⟨k, c, e, cellK x c e _ z⟩
  · obtain ⟨v, z⟩ := I.cell x c e
    exact ⟨v, cellK x c e v z⟩
  · obtain ⟨m, ⟨o, _, _, ho, _⟩, _⟩ := I.loc
    exact free _ o (fun z => (hch _ z).2.1 rfl) ho I.free
  · obtain ⟨v, o, ho, hd⟩ := I.cell x c e
    exact free c o (fun z => (hch c z).2.2.1 x c e rfl) ho (I.freeC x c e)
  · obtain ⟨e, n, ne, nf, d⟩ := I.pin p hp
    have nch : p.1 ∉ ch := fun z => (hch p.1 z).2.2.2 p hp rfl
    exact ⟨keep p.1 p.2 ne nf nch e n, free p.1 p.2 nch e n, ne, nf, d⟩
theorem Inv.un {t' : Nat} (I : Inv X pins σ H s) (u : Un X.fs [] H H' s.heap h') (hok : HOk X.prog X.w H' h') : Inv X pins σ H' { s with heap := h', toks := t' } := by
  obtain ⟨m, ⟨o, es, ep, ho, r⟩, _⟩ := id I.loc
  obtain ⟨sl, hL⟩ := u.any ho I.free (by simp)
  exact I.step (g' := s.gens) (d' := s.drawn) (ch := []) (fun _ z => nomatch z) (fun b o _ hb _ e n => u.keep b o e n hb (by simp)) (fun b o _ hb _ e n => u.slot b o e n hb (by simp)) (fun b o _ e n => u.free b o e n (by simp)) (fun b o _ e => u.there b o e (by simp)) u.tups u.frzs u.tbls (fun m' hm => by
    obtain ⟨o', es', ep', ho', r'⟩ := hm
    rw [ho] at ho'; cases ho'
    exact ⟨_, es', ep', hL, r'⟩) hok I.bare
theorem Inv.call {g' : Array GenState} {t' : Nat} {d' : Drawn} {ch : List Addr} (I : Inv X pins σ H s) (u : Un (frs X.stack) ch H H' s.heap h') (hok : HOk X.prog X.w H' h') (hg : AllBare g')
    (hch : ∀ b ∈ ch, (b ∈ X.ex ∨ X.s₀.heap.objs.size ≤ b) ∧ b ≠ X.env.locals ∧ (∀ x c, X.env.cells.lookup x = some c → c ≠ b) ∧ ∀ p ∈ X.pn ++ pins, p.1 ≠ b) :
    Inv X pins σ H' { s with heap := h', gens := g', drawn := d', toks := t' } := by
  obtain ⟨m, ⟨o, es, ep, ho, r⟩, _⟩ := id I.loc
  obtain ⟨sl, hL⟩ := u.any ho I.free fun z => (hch _ z).2.1 rfl
  exact I.step (ch := ch) hch (fun b o hL hb hc e n => u.keep b o e n (fun z => (List.mem_cons.mp (I.stkSub b z)).elim hL hb) hc) (fun b o _ _ hc e n => u.any e n hc) (fun b o hc e n => u.free b o e n hc) (fun b o hc e => u.there b o e hc) u.tups u.frzs u.tbls (fun m' hm => by
    obtain ⟨o', es', ep', ho', r'⟩ := hm
    rw [ho] at ho'; cases ho'
    exact ⟨_, es', ep', hL, r'⟩) hok hg
theorem Inv.turned {t' : Nat} {it : Addr} (I : Inv X pins σ H s) (k : ∀ b o, b ≠ it → s.heap.get? b = some o → h'.get? b = some o) (hn : H it = none) (hL : it ≠ X.env.locals)
    (h1 : it ∈ X.ex ∨ X.s₀.heap.objs.size ≤ it) (h2 : ∀ x c, X.env.cells.lookup x = some c → c ≠ it) (h3 : ∀ p ∈ X.pn ++ pins, p.1 ≠ it) : Inv X pins σ H { s with heap := h', toks := t' } := by
  have nit : ∀ b u, H b = some u → b ≠ it := fun b u e z => by rw [z, hn] at e; cases e
  refine I.step (g' := s.gens) (d' := s.drawn) (ch := [it]) (fun b hb => ?_) (fun b o _ _ hc e _ => k b o (fun z => hc (by simp [z])) e) (fun b o _ _ hc e _ => ⟨o.slots, k b o (fun z => hc (by simp [z])) e⟩) (fun _ _ _ _ n => n)
    (fun b o hc e => ⟨o, k b o (fun z => hc (by simp [z])) e⟩) (fun _ _ e => e) (fun _ _ _ e => e) (fun b ps e => ⟨#[], by rw [e]; simp⟩) (fun m hm => ?_) (fun b u e => ?_) I.bare
  · have e : b = it := by simpa using hb
    subst e
    exact ⟨h1, hL, h2, h3⟩
  · obtain ⟨o, es, ep, ho, r⟩ := hm
    exact ⟨o, es, ep, k _ o (Ne.symm hL) ho, r⟩
  · refine (I.hok b u e).stay (fun c v hc q => k c v ?_ q) (fun _ q => q) fun _ _ q => q
    rcases hc with z | z
    · rw [z]; exact nit b u e
    · exact nit c _ z
theorem Inv.tok (I : Inv X pins σ H s) (t : Nat) : Inv X pins σ H { s with toks := t } := I.un (h' := s.heap) (t' := t) Un.refl I.hok
theorem Inv.kept {t' : Nat} (I : Inv X pins σ H s) (k : ∀ b u, s.heap.get? b = some u → h'.get? b = some u) : Inv X pins σ H { s with heap := h', toks := t' } := I.un (Un.kept k) (I.hok.kept k)
theorem Inv.laid {a : Addr} {o : HO} {t' : Nat} (I : Inv X pins σ H s) (k : ∀ b u, s.heap.get? b = some u → h'.get? b = some u) (hp : s.heap.objs.size ≤ a) (new : ObjOk X.prog X.w (upd H a o) h' a o) :
    Inv X pins σ (upd H a o) { s with heap := h', toks := t' } := I.un (Un.laid k hp (I.hok.fresh hp)) (I.hok.laid k hp new)
theorem Inv.write {x e : Addr} {o : HO} {t' : Nat} (I : Inv X pins σ H s) (mu : Mut (H x)) (he : e = x ∨ H e = some (.own x)) (k : ∀ b u, b ≠ e → s.heap.get? b = some u → h'.get? b = some u) (heo : ∃ u, h'.get? e = some u)
    (new : ObjOk X.prog X.w (upd H x o) h' x o) : Inv X pins σ (upd H x o) { s with heap := h', toks := t' } := I.un (Un.write mu he k heo) (I.hok.write mu he k heo new)
theorem Inv.weak {σ' : List (Option V)} (I : Inv X pins σ H s) (hl : σ'.length = σ.length) (w : ∀ (i : Nat) v, σ'[i]? = some (some v) → σ[i]? = some (some v)) : Inv X pins σ' H s :=
  ⟨I.ok, I.os, I.bare, I.base, let ⟨m, hn, hl'⟩ := I.loc; ⟨m, hn, fun i x v e1 e2 e3 => hl' i x v e1 (w i v e2) e3⟩, I.cell, I.free, I.freeC, I.pin, I.hok, hl.trans I.len⟩
theorem Inv.pins_of {pins' : List (Addr × Obj)} (I : Inv X pins σ H s) (h : ∀ p ∈ pins', s.heap.get? p.1 = some p.2 ∧ H p.1 = none ∧ p.1 ≠ X.env.locals ∧ p.1 ∉ X.fs ∧ ∀ v, p.2.data ≠ .cell v) : Inv X pins' σ H s :=
  ⟨I.ok, I.os, I.bare, I.base, I.loc, I.cell, I.free, I.freeC, fun p hp => (List.mem_append.mp hp).elim (fun z => I.pin p (List.mem_append_left _ z)) (h p), I.hok, I.len⟩
theorem nodup_ix {N : List Str} (hN : N.Nodup) {i j : Nat} {x : Str} (a : N[i]? = some x) (b : N[j]? = some x) : i = j := by
  obtain ⟨h1, e1⟩ := List.getElem?_eq_some_iff.mp a
  obtain ⟨h2, e2⟩ := List.getElem?_eq_some_iff.mp b
  exact (List.getElem_inj hN).mp (e1.trans e2.symm)
theorem store_ok2 {M : Model} {A : Around} {E : Value → Shared → Prop} {i : Nat} {x : Str} {v : V} {u : Value} {Q : Unit → Shared → Prop} (I : Inv X pins σ H s) (hN : X.N.Nodup) (hi : X.N[i]? = some x) (hx : Loc X.env.scope x) (r : RelV v u)
    (h : ∀ s', Inv X pins (σ.set i (some v)) H s' → (∃ a, Heap.SameBut a s.heap s'.heap ∧ (a = X.env.locals ∨ X.env.cells.lookup x = some a)) → Q () s') (hf : X.fn x = true ∨ X.env.scope.names.lookup x = some .local := by first | exact .inl rfl | exact .inr rfl | assumption) : wpAny M A (storeName X.env x u) Q E s := by
  obtain ⟨m, hn, hl⟩ := id I.loc
  have hcls : (X.env.scope.kind == .class || (X.env.scope.kind == .module && X.env.locals != X.env.globals)) = false := by rw [I.ok.kind]; rfl
  have hiσ : i < σ.length := by rw [I.len]; exact (List.getElem?_eq_some_iff.mp hi).1
  have cne := I.cne
  have tracked : ∀ {a : Addr} {h' : Heap}, (∃ o, s.heap.get? a = some o ∧ H a = none) → Heap.SameBut a s.heap h' → HOk X.prog X.w H h' := fun {a h'} ha hs b ob e => by
    obtain ⟨_, _, hfree⟩ := ha
    refine (I.hok b ob e).stay (fun c w' hc q => (hs.2 c ?_).trans q) (fun _ q => q) fun _ _ q => q
    rintro rfl
    rcases hc with rfl | hc
    · rw [hfree] at e; cases e
    · rw [hfree] at hc; cases hc
  rcases hx with hk | hk
  · refine wpAny_storeName_local hk hn (fun h' hn' hs => ?_) hcls
    obtain ⟨oL, _, _, hoL, _⟩ := id hn
    refine h _ ⟨I.ok, I.os, I.bare, ⟨fun b o e n hb hx => ?_, fun b o e n hb hx => ?_, I.base.free, fun b o e hx => ?_, I.base.tups, I.base.frzs, I.base.tbls⟩, ⟨_, hn', fun j y v' e1 e2 e3 => ?_⟩, fun y c e => ?_, I.free, I.freeC, fun p hp => ?_, tracked ⟨oL, hoL, I.free⟩ hs, by simpa using I.len⟩ ⟨_, hs, .inl rfl⟩
    · exact (hs.2 b (Nat.ne_of_lt (Nat.lt_of_lt_of_le (Heap.lt_size e) I.ok.above))).trans (I.base.keep b o e n hb hx)
    · obtain ⟨sl, e1⟩ := I.base.slot b o e n hb hx
      exact ⟨sl, (hs.2 b (Nat.ne_of_lt (Nat.lt_of_lt_of_le (Heap.lt_size e) I.ok.above))).trans e1⟩
    · obtain ⟨o', e1⟩ := I.base.there b o e hx
      exact ⟨o', (hs.2 b (Nat.ne_of_lt (Nat.lt_of_lt_of_le (Heap.lt_size e) I.ok.above))).trans e1⟩
    · by_cases hj : j = i
      · subst hj
        rw [hi] at e1; cases e1
        rw [List.getElem?_set_self hiσ] at e2
        cases e2
        exact ⟨u, r, .inl ⟨hk, by simp⟩⟩
      · rw [List.getElem?_set_ne (Ne.symm hj)] at e2
        obtain ⟨u', r', q⟩ := hl j y v' e1 e2 e3
        refine ⟨u', r', ?_⟩
        rcases q with ⟨k, e⟩ | ⟨k, c, e, z⟩
        · refine .inl ⟨k, ?_⟩
          have : y ≠ x := fun e => hj (nodup_ix hN e1 (e ▸ hi))
          simp [this, e]
        · exact .inr ⟨k, c, e, z.sameBut hs (cne y c e)⟩
    · obtain ⟨w', z⟩ := I.cell y c e
      exact ⟨w', z.sameBut hs (cne y c e)⟩
    · obtain ⟨e, n, ne, nf, d⟩ := I.pin p hp
      exact ⟨(hs.2 p.1 ne).trans e, n, ne, nf, d⟩
  · have hfn : X.fn x = true := by
      rcases hf with z | z
      · exact z
      · rw [z] at hk; cases hk
    obtain ⟨c, hc⟩ := I.ok.has x (.inl hk)
    obtain ⟨w', z⟩ := I.cell x c hc
    refine wpAny_storeName_cell I.ok.kind hk hc z (fun h' hc' hs => ?_)
    obtain ⟨oc, hoc, hocd⟩ := id z
    refine h { s with heap := h' } ⟨I.ok, I.os, I.bare, ⟨fun b o e n hb hx => ?_, fun b o e n hb hx => ?_, I.base.free, fun b o e hx => ?_, I.base.tups, I.base.frzs, I.base.tbls⟩, ⟨m, hn.sameBut hs (Ne.symm (cne x c hc)), fun j y v' e1 e2 e3 => ?_⟩, fun y c' e => ?_, I.free, I.freeC, fun p hp => ?_, tracked ⟨oc, hoc, I.freeC x c hc⟩ hs, by simpa using I.len⟩ ⟨c, hs, .inr hc⟩
    · exact (hs.2 b (Nat.ne_of_lt (Nat.lt_of_lt_of_le (Heap.lt_size e) (I.ok.cab x c hfn hc)))).trans (I.base.keep b o e n hb hx)
    · obtain ⟨sl, e1⟩ := I.base.slot b o e n hb hx
      exact ⟨sl, (hs.2 b (Nat.ne_of_lt (Nat.lt_of_lt_of_le (Heap.lt_size e) (I.ok.cab x c hfn hc)))).trans e1⟩
    · obtain ⟨o', e1⟩ := I.base.there b o e hx
      exact ⟨o', (hs.2 b (Nat.ne_of_lt (Nat.lt_of_lt_of_le (Heap.lt_size e) (I.ok.cab x c hfn hc)))).trans e1⟩
    · by_cases hj : j = i
      · subst hj
        rw [hi] at e1; cases e1
        rw [List.getElem?_set_self hiσ] at e2
        cases e2
        exact ⟨u, r, .inr ⟨.inl hk, c, hc, hc'⟩⟩
      · rw [List.getElem?_set_ne (Ne.symm hj)] at e2
        obtain ⟨u', r', q⟩ := hl j y v' e1 e2 e3
        refine ⟨u', r', ?_⟩
        rcases q with q | ⟨k, c', e, z'⟩
        · exact .inl q
        · refine .inr ⟨k, c', e, z'.sameBut hs ?_⟩
          rintro rfl
          exact hj (nodup_ix hN e1 (I.ok.inj _ _ _ e hc ▸ hi))
    · by_cases hcc : c' = c
      · subst hcc; exact ⟨_, hc'⟩
      · obtain ⟨w2, z2⟩ := I.cell y c' e
        exact ⟨w2, z2.sameBut hs hcc⟩
    · obtain ⟨e, n, ne, nf, d⟩ := I.pin p hp
      refine ⟨(hs.2 p.1 ?_).trans e, n, ne, nf, d⟩
      intro q
      rw [q, hoc] at e
      have q' : oc = p.2 := Option.some.inj e
      exact d w' (by rw [← q']; exact hocd)
theorem store_ok {M : Model} {A : Around} {E : Value → Shared → Prop} {i : Nat} {x : Str} {v : V} {u : Value} {Q : Unit → Shared → Prop} (I : Inv X pins σ H s) (hN : X.N.Nodup) (hi : X.N[i]? = some x) (hx : Loc X.env.scope x) (r : RelV v u)
    (h : ∀ s', Inv X pins (σ.set i (some v)) H s' → Q () s') (hf : X.fn x = true ∨ X.env.scope.names.lookup x = some .local := by first | exact .inl rfl | exact .inr rfl | assumption) : wpAny M A (storeName X.env x u) Q E s :=
  store_ok2 I hN hi hx r (fun s' I' _ => h s' I') hf
theorem Inv.call' {s' : Shared} {ch : List Addr} (I : Inv X pins σ H s) (ho : s'.os = s.os) (u : Un (frs X.stack) ch H H' s.heap s'.heap) (hok : HOk X.prog X.w H' s'.heap) (hg : AllBare s'.gens)
    (hch : ∀ b ∈ ch, (b ∈ X.ex ∨ X.s₀.heap.objs.size ≤ b) ∧ b ≠ X.env.locals ∧ (∀ x c, X.env.cells.lookup x = some c → c ≠ b) ∧ ∀ p ∈ X.pn ++ pins, p.1 ≠ b) : Inv X pins σ H' s' := by
  obtain ⟨h', g', d', t', o'⟩ := s'
  have e : o' = s.os := ho
  subst e
  exact I.call (g' := g') (t' := t') (d' := d') u hok hg hch
end
noncomputable abbrev XK := Value → Option Addr → Hp → Prop
noncomputable abbrev St := List (Option V)
noncomputable abbrev VK := V → Hp → Prop
noncomputable abbrev TE := St → Hp → VK → Prop
noncomputable abbrev TT := St → Hp → (Bool → Hp → Prop) → Prop
noncomputable abbrev TA := St → Hp → (List V → Hp → Prop) → Prop
structure Ends where
  nx : St → Hp → Prop
  rt : VK
  bk : St → Hp → Prop := fun _ _ => False
  ct : St → Hp → Prop := fun _ _ => False
noncomputable abbrev TS := Ends → St → Hp → Prop
noncomputable def EP (X : Cx) (pins : List (Addr × Obj)) (σ : St) (Q : VK) (u : Value) (s' : Shared) : Prop := ∃ v H', Inv X pins σ H' s' ∧ RelV v u ∧ Q v H'
noncomputable def TP (X : Cx) (pins : List (Addr × Obj)) (σ : St) (Q : Bool → Hp → Prop) (b : Bool) (s' : Shared) : Prop := ∃ H', Inv X pins σ H' s' ∧ Q b H'
noncomputable def AP (X : Cx) (pins : List (Addr × Obj)) (σ : St) (Q : List V → Hp → Prop) (us : List Value) (s' : Shared) : Prop := ∃ vs H', Inv X pins σ H' s' ∧ Vals vs us ∧ Q vs H'
noncomputable def SP (X : Cx) (pins : List (Addr × Obj)) (D : Ends) (f : Flow) (s' : Shared) : Prop :=
  match f with
  | .next => ∃ σ' H', Inv X pins σ' H' s' ∧ D.nx σ' H'
  | .brk => ∃ σ' H', Inv X pins σ' H' s' ∧ D.bk σ' H'
  | .cont => ∃ σ' H', Inv X pins σ' H' s' ∧ D.ct σ' H'
  | .ret u => ∃ v σ' H', Inv X pins σ' H' s' ∧ RelV v u ∧ D.rt v H'
noncomputable def PE (X : Cx) (e : Expr) (t : TE) : Prop :=
  ∀ (pins : List (Addr × Obj)) (s : Shared) (σ : St) (H : Hp) (Q : VK), Inv X pins σ H s → t σ H Q → wpAny (model X.prog X.w) X.A (eval e X.env) (EP X pins σ Q) X.xe s
noncomputable def PT (X : Cx) (e : Expr) (t : TT) : Prop :=
  ∀ (pins : List (Addr × Obj)) (s : Shared) (σ : St) (H : Hp) (Q : Bool → Hp → Prop), Inv X pins σ H s → t σ H Q → wpAny (model X.prog X.w) X.A (isTrue e X.env (eval e X.env)) (TP X pins σ Q) X.xe s
noncomputable def PW (X : Cx) (e : Expr) (t : TT) : Prop :=
  ∀ (whole : Sem Value) (pins : List (Addr × Obj)) (s : Shared) (σ : St) (H : Hp) (Q : Bool → Hp → Prop), Inv X pins σ H s → t σ H Q → wpAny (model X.prog X.w) X.A (isTrue e X.env whole) (TP X pins σ Q) X.xe s
theorem PW.pt {X : Cx} {e : Expr} {t : TT} (h : PW X e t) : PT X e t := h _
noncomputable def PA (X : Cx) (es : List Expr) (t : TA) : Prop :=
  ∀ (pos : Pos) (pins : List (Addr × Obj)) (s : Shared) (σ : St) (H : Hp) (Q : List V → Hp → Prop), Inv X pins σ H s → t σ H Q → wpAny (model X.prog X.w) X.A (spliced (backTo pos (starEach es X.env))) (AP X pins σ Q) X.xe s
noncomputable def PS (X : Cx) (st : Stmt) (t : TS) : Prop :=
  ∀ (pins : List (Addr × Obj)) (s : Shared) (σ : St) (H : Hp) (D : Ends), Inv X pins σ H s → t D σ H → wpAny (model X.prog X.w) X.A (exec st X.env) (SP X pins D) X.xe s
noncomputable def PSs (X : Cx) (st : List Stmt) (t : TS) : Prop :=
  ∀ (pins : List (Addr × Obj)) (s : Shared) (σ : St) (H : Hp) (D : Ends), Inv X pins σ H s → t D σ H → wpAny (model X.prog X.w) X.A (execs st X.env) (SP X pins D) X.xe s
theorem thn {α : Type} {t : Sem α} {Q Q' : α → Shared → Prop} {M : Model} {A : Around} {E : Value → Shared → Prop} {s : Shared} (h : wpAny M A t Q E s) (hQ : ∀ a s, Q a s → Q' a s) : wpAny M A t Q' E s := wpAny_mono h hQ fun _ _ x => x
end L2
namespace L2
open PySem PySem.Spec PyProof.Rows
section
variable {X : Cx}
noncomputable def tVar (i : Nat) : TE := fun σ H Q => ∃ v, σ[i]? = some (some v) ∧ Q v H
noncomputable def tC (v : V) : TE := fun _ H Q => Q v H
theorem pe_var {i : Nat} {x : Str} {pos : Pos} (hN : X.N[i]? = some x) (hv : Vis X.env.scope x) (hd : (x == ("__debug__" : Str)) = false := by decide) (hcd : (x == ("__classdict__" : Str)) = false := by decide) : PE X (.Name x pos) (tVar i) := by
  intro pins s σ H Q I h
  obtain ⟨v, e, h⟩ := h
  obtain ⟨m, hn, hl⟩ := I.loc
  obtain ⟨u, r, l⟩ := hl i x v hN e hv
  have fin : EP X pins σ Q u s := ⟨v, H, I, r, h⟩
  rcases l with ⟨hk, hm⟩ | ⟨hk, c, hc, hcell⟩
  · exact wpAny_Name (wpAny_loadName_local I.ok.kind hk hn hm fin) hd
  · rcases hk with hk | hk
    · exact wpAny_Name (wpAny_loadName_cell I.ok.kind hk hc hcell fin) hd
    · exact wpAny_Name (wpAny_loadName_free I.ok.kind hk hc hcell fin hcd) hd
theorem pe_int {i j pos} : PE X (.Constant (.int i) j pos) (tC (.int i)) := fun _ _ _ H _ I h => wpAny_Constant_int ⟨.int i, H, I.tok _, ⟨_, rfl⟩, h⟩
theorem pe_bl {b j pos} : PE X (.Constant (.bool b) j pos) (tC (.bl b)) := fun _ _ _ H _ I h => Constant_bool ⟨.bl b, H, I, rfl, h⟩
theorem pe_non {j pos} : PE X (.Constant .none j pos) (tC .non) := fun _ _ _ H _ I h => Constant_none ⟨.non, H, I, rfl, h⟩
theorem pe_str {x j pos} : PE X (.Constant (.str x) j pos) (tC (.str x)) := fun _ _ _ H _ I h => Calls.Constant_str ⟨.str x, H, I.tok _, ⟨_, rfl⟩, h⟩
noncomputable def Gl (X : Cx) (x : Str) : Prop := X.env.kindOf x = some .globalImplicit
theorem ld_glob {E : Value → Shared → Prop} {pins : List (Addr × Obj)} {s : Shared} {σ : St} {H : Hp} {x : Str} {u : Value} {pos : Pos} {Q : Value → Shared → Prop} (I : Inv X pins σ H s) (hg : Gl X x) (hm : X.mg x = some u) (h : Q u s)
    (hd : (x == ("__debug__" : Str)) = false := by decide) : wpAny (model X.prog X.w) X.A (eval (.Name x pos) X.env) Q E s :=
  Calls.Name_function_global I.ok.kind hg (Calls.loadGlobal_global (by rw [I.ok.glob]; exact I.mod.glob.keeps I.bk) hm h) hd
theorem ld_blt {E : Value → Shared → Prop} {pins : List (Addr × Obj)} {s : Shared} {σ : St} {H : Hp} {x : Str} {u : Value} {pos : Pos} {Q : Value → Shared → Prop} (I : Inv X pins σ H s) (hg : Gl X x) (hm : X.mg x = none) (hv : bootBuiltins x = some u) (h : Q u s)
    (hn : x ≠ "__name__" := by decide) (hd : (x == ("__debug__" : Str)) = false := by decide) : wpAny (model X.prog X.w) X.A (eval (.Name x pos) X.env) Q E s := by
  obtain ⟨mb, h1, h2⟩ := I.mod.blt
  exact Calls.Name_function_global I.ok.kind hg (Calls.loadGlobal_builtin (by rw [I.ok.glob]; exact I.mod.glob.keeps I.bk) hm (by rw [I.ok.blt]; exact h1.keeps I.bk) ((h2 x hn).trans hv) h) hd
theorem pe_glob {x : Str} {v : V} {u : Value} {pos : Pos} (hg : Gl X x) (hm : X.mg x = some u) (r : RelV v u) (hd : (x == ("__debug__" : Str)) = false := by decide) : PE X (.Name x pos) (tC v) :=
  fun _ _ _ H _ I h => ld_glob I hg hm ⟨v, H, I, r, h⟩ hd
theorem pe_bltn {x : Str} {v : V} {u : Value} {pos : Pos} (hg : Gl X x) (hm : X.mg x = none) (hv : bootBuiltins x = some u) (r : RelV v u) (hn : x ≠ "__name__" := by decide) (hd : (x == ("__debug__" : Str)) = false := by decide) : PE X (.Name x pos) (tC v) :=
  fun _ _ _ H _ I h => ld_blt I hg hm hv ⟨v, H, I, r, h⟩ hn hd
variable {a b : Expr} {ta tb : TE} {pos : Pos}
noncomputable def tB (t : TE) : TT := fun σ H Q => t σ H fun x H1 => ∃ c, x = .bl c ∧ Q c H1
theorem pt_val {e : Expr} {t : TE} (h : PE X e t) (he : ∀ whole, isTrue e X.env whole = (do let v ← whole; standAt e.pos; holding [v] (truthy v)) := by intro _; rfl) : PT X e (tB t) := by
  intro pins s σ H Q I hw
  refine isTrue_plain (thn (h pins s σ H _ I hw) fun v s1 ⟨x, H1, I1, r1, q1⟩ => ?_) (he _)
  obtain ⟨d, rfl, q⟩ := q1
  cases r1
  exact wpAny_truthy_bool ⟨H1, I1, q⟩
variable {tA tB' : TT} {rest : List Expr}
noncomputable def tAnd (t u : TT) : TT := fun σ H Q => t σ H fun c H1 => if c = true then u σ H1 Q else Q false H1
noncomputable def tOr (t u : TT) : TT := fun σ H Q => t σ H fun c H1 => if c = true then Q true H1 else u σ H1 Q
noncomputable def tNot (t : TT) : TT := fun σ H Q => t σ H fun c H1 => Q (!c) H1
theorem pw_and1 (ha : PT X a tA) : PW X (.BoolOp .And [a] pos) tA := by
  intro wh pins s σ H Q I h
  refine isTrue_and (thn (ha pins s σ H Q I h) fun c s1 e => ?_)
  cases c with
  | true => exact isTrue_and_nil e
  | false => exact e
theorem pw_or1 (ha : PT X a tA) : PW X (.BoolOp .Or [a] pos) tA := by
  intro wh pins s σ H Q I h
  refine isTrue_or (thn (ha pins s σ H Q I h) fun c s1 e => ?_)
  cases c with
  | false => exact isTrue_or_nil e
  | true => exact e
theorem pw_and (ha : PT X a tA) (hb : PW X (.BoolOp .And (b :: rest) pos) tB') : PW X (.BoolOp .And (a :: b :: rest) pos) (tAnd tA tB') := by
  intro wh pins s σ H Q I h
  refine isTrue_and (thn (ha pins s σ H _ I h) fun c s1 ⟨H1, I1, q1⟩ => ?_)
  cases c with
  | true => exact hb wh pins s1 σ H1 Q I1 q1
  | false => exact ⟨H1, I1, q1⟩
theorem pw_or (ha : PT X a tA) (hb : PW X (.BoolOp .Or (b :: rest) pos) tB') : PW X (.BoolOp .Or (a :: b :: rest) pos) (tOr tA tB') := by
  intro wh pins s σ H Q I h
  refine isTrue_or (thn (ha pins s σ H _ I h) fun c s1 ⟨H1, I1, q1⟩ => ?_)
  cases c with
  | true => exact ⟨H1, I1, q1⟩
  | false => exact hb wh pins s1 σ H1 Q I1 q1
theorem pt_not (ha : PT X a tA) : PT X (.UnaryOp .Not a pos) (tNot tA) := by
  intro pins s σ H Q I h
  exact isTrue_not (ha pins s σ H (fun c H1 => Q (!c) H1) I h)
noncomputable def tAndV (ta tb : TE) : TE := fun σ H Q => ta σ H fun x H1 => ∃ c, x = .bl c ∧ if c = true then tb σ H1 Q else Q (.bl false) H1
noncomputable def tNotV (ta : TE) : TE := fun σ H Q => ta σ H fun x H1 => ∃ c, x = .bl c ∧ Q (.bl (!c)) H1
theorem pe_one {op} {t : TE} (h : PE X a t) : PE X (.BoolOp op [a] pos) t := fun pins s σ H Q I hw => BoolOp_one (h pins s σ H Q I hw)
theorem pe_and (ha : PE X a ta) (hb : PE X (.BoolOp .And (b :: rest) pos) tb) : PE X (.BoolOp .And (a :: b :: rest) pos) (tAndV ta tb) := by
  intro pins s σ H Q I h
  refine BoolOp_and (thn (ha pins s σ H _ I h) fun v s1 ⟨x, H1, I1, r1, q1⟩ => ?_)
  obtain ⟨c, rfl, q1⟩ := q1
  cases r1
  refine wpAny_truthy_bool ?_
  cases c with
  | true => exact hb pins s1 σ H1 Q I1 q1
  | false => exact ⟨.bl false, H1, I1, rfl, q1⟩
theorem pe_not (ha : PE X a ta) : PE X (.UnaryOp .Not a pos) (tNotV ta) := by
  intro pins s σ H Q I h
  refine UnaryOp_ (thn (ha pins s σ H _ I h) fun v s1 ⟨x, H1, I1, r1, q1⟩ => ?_)
  obtain ⟨c, rfl, q1⟩ := q1
  cases r1
  exact not_of (wpAny_truthy_bool ⟨.bl (!c), H1, I1, rfl, q1⟩)
end
end L2
namespace L2
open PySem PySem.Spec PyProof.Rows
noncomputable def SqL (K : PySem.W.Frag) (H : Hp) (a : Addr) (xs : List V) : Prop :=
  Rd H a (.lst xs) ∨
    ∃ (o : Obj) (its : Array Value) (n : Nat), K.lookup a = some o ∧ o.cls = .type "list" ∧ o.dict = none ∧ o.data = .seq its n ∧ its.size ≤ sizeLine ∧ Vals xs its.toList
noncomputable def SqT (K : PySem.W.Frag) (H : Hp) (a : Addr) (xs : List V) : Prop :=
  Rd H a (.tup xs) ∨
    ∃ (o : Obj) (its : Array Value) (n : Nat), K.lookup a = some o ∧ o.cls = .type "tuple" ∧ o.data = .seq its n ∧ its.size ≤ sizeLine ∧ Vals xs its.toList
noncomputable def absV : Value → Option V
  | .none => some .non
  | .bool b => some (.bl b)
  | .int i _ => some (.int i)
  | .str x _ => some (.str x)
  | .bytes b _ => some (.byt b)
  | .float b _ => some (.flt b)
  | .ref a => some (.ref a)
  | .type n => some (.ty n)
  | _ => none
theorem RelV.abs {x : V} {u : Value} (r : RelV x u) : absV u = some x := by
  cases x with
  | non => cases r; rfl
  | bl _ => cases r; rfl
  | int _ => obtain ⟨t, rfl⟩ := r; rfl
  | str _ => obtain ⟨t, rfl⟩ := r; rfl
  | byt _ => obtain ⟨t, rfl⟩ := r; rfl
  | flt _ => obtain ⟨t, rfl⟩ := r; rfl
  | ref _ => cases r; rfl
  | ty _ => cases r; rfl
theorem RelV.inj {x y : V} {u : Value} (r : RelV x u) (q : RelV y u) : x = y := Option.some.inj (r.abs.symm.trans q.abs)
theorem Vals.inj : ∀ {xs ys : List V} {us : List Value}, Vals xs us → Vals ys us → xs = ys
  | _, _, _, .nil, .nil => rfl
  | _, _, _, .cons r t, .cons r' t' => by rw [r.inj r', Vals.inj t t']
section
variable {X : Cx} {pins : List (Addr × Obj)} {σ : St} {H : Hp} {s : Shared} {a : Addr} {xs ys : List V}
theorem SqL.of {K : PySem.W.Frag} (h : H a = some (.lst xs)) : SqL K H a xs := .inl (.inl h)
theorem SqT.of {K : PySem.W.Frag} (h : H a = some (.tup xs)) : SqT K H a xs := .inl (.inl h)
theorem Inv.list (I : Inv X pins σ H s) (h : SqL X.K H a xs) : ∃ its : List Value, Vals xs its ∧ PlainL s.heap a its.toArray ∧ xs.length ≤ sizeLine := by
  rcases h with h | ⟨o, its, n, hk, hc, hd, hs, hz, r⟩
  · obtain ⟨z, its, n, r, e⟩ := h.ok I.hok
    exact ⟨its, r, ⟨_, n, e, rfl, rfl, rfl⟩, z⟩
  · refine ⟨its.toList, r, ⟨o, n, I.kIn a o hk, hc, hd, by simpa using hs⟩, ?_⟩
    have e := r.length
    simp only [Array.length_toList] at e
    omega
theorem Inv.tuple (I : Inv X pins σ H s) (h : SqT X.K H a xs) : ∃ its : List Value, Vals xs its ∧ IsTup s.heap a its.toArray ∧ xs.length ≤ sizeLine := by
  rcases h with h | ⟨o, its, n, hk, hc, hs, hz, r⟩
  · obtain ⟨z, its, r, n, e⟩ := h.ok I.hok
    exact ⟨its, r, ⟨_, e, rfl, n, rfl⟩, z⟩
  · refine ⟨its.toList, r, ⟨o, I.kIn a o hk, hc, n, by simpa using hs⟩, ?_⟩
    have e := r.length
    simp only [Array.length_toList] at e
    omega
theorem Inv.list_inj (I : Inv X pins σ H s) (h : SqL X.K H a xs) (h' : SqL X.K H a ys) : xs = ys := by
  obtain ⟨its, r, ⟨o, n, e, _, _, d⟩, _⟩ := I.list h
  obtain ⟨its', r', ⟨o', n', e', _, _, d'⟩, _⟩ := I.list h'
  rw [e] at e'; cases e'
  rw [d] at d'
  injection d' with d1 _
  have : its = its' := by simpa using congrArg Array.toList d1
  subst this
  exact r.inj r'
theorem Inv.tuple_inj (I : Inv X pins σ H s) (h : SqT X.K H a xs) (h' : SqT X.K H a ys) : xs = ys := by
  obtain ⟨its, r, ⟨o, e, _, n, d⟩, _⟩ := I.tuple h
  obtain ⟨its', r', ⟨o', e', _, n', d'⟩, _⟩ := I.tuple h'
  rw [e] at e'; cases e'
  rw [d] at d'
  injection d' with d1 _
  have : its = its' := by simpa using congrArg Array.toList d1
  subst this
  exact r.inj r'
end
noncomputable abbrev Cx.wish (X : Cx) (E : Value → Shared → Prop) : Cx := { X with xe := E }
noncomputable abbrev Cx.nox (X : Cx) : Cx := X.wish fun _ _ => False
theorem Cx.Ok.wish {X : Cx} (ok : X.Ok) (E : Value → Shared → Prop) : (X.wish E).Ok :=
  ⟨ok.mod, ok.kind, ok.glob, ok.blt, ok.above, ok.inj, ok.has, ok.cab, ok.hd, ok.frames, ok.stk, ok.exf, ok.bs, ok.bsz, ok.noex, ok.exfs, ok.funs, ok.frf⟩
theorem Cx.Ok.unwish {X : Cx} {E : Value → Shared → Prop} (ok : (X.wish E).Ok) : X.Ok :=
  ⟨ok.mod, ok.kind, ok.glob, ok.blt, ok.above, ok.inj, ok.has, ok.cab, ok.hd, ok.frames, ok.stk, ok.exf, ok.bs, ok.bsz, ok.noex, ok.exfs, ok.funs, ok.frf⟩
section
variable {X : Cx} {pins : List (Addr × Obj)} {σ : St} {H : Hp} {s : Shared} {E : Value → Shared → Prop}
theorem Inv.wish (I : Inv X pins σ H s) (E : Value → Shared → Prop) : Inv (X.wish E) pins σ H s := ⟨I.ok.wish E, I.os, I.bare, I.base, I.loc, I.cell, I.free, I.freeC, I.pin, I.hok, I.len⟩
theorem Inv.unwish (I : Inv (X.wish E) pins σ H s) : Inv X pins σ H s := ⟨I.ok.unwish, I.os, I.bare, I.base, I.loc, I.cell, I.free, I.freeC, I.pin, I.hok, I.len⟩
theorem SP.unwish {D : Ends} {f : Flow} {s' : Shared} (h : SP (X.wish E) pins D f s') : SP X pins D f s' := by
  cases f with
  | next => obtain ⟨σ', H', I, q⟩ := h; exact ⟨σ', H', I.unwish, q⟩
  | brk => obtain ⟨σ', H', I, q⟩ := h; exact ⟨σ', H', I.unwish, q⟩
  | cont => obtain ⟨σ', H', I, q⟩ := h; exact ⟨σ', H', I.unwish, q⟩
  | ret u => obtain ⟨v, σ', H', I, r, q⟩ := h; exact ⟨v, σ', H', I.unwish, r, q⟩
theorem PE.nox {e : Expr} {t : TE} (h : PE X.nox e t) : PE X e t := fun pins s σ H Q I hw =>
  wpAny_mono (h pins s σ H Q (I.wish _) hw) (fun _ _ ⟨v, H', I', r, q⟩ => ⟨v, H', I'.unwish, r, q⟩) fun _ _ z => False.elim z
theorem PT.nox {e : Expr} {t : TT} (h : PT X.nox e t) : PT X e t := fun pins s σ H Q I hw =>
  wpAny_mono (h pins s σ H Q (I.wish _) hw) (fun _ _ ⟨H', I', q⟩ => ⟨H', I'.unwish, q⟩) fun _ _ z => False.elim z
theorem PSs.nox {st : List Stmt} {t : TS} (h : PSs X.nox st t) : PSs X st t := fun pins s σ H D I hw =>
  wpAny_mono (h pins s σ H D (I.wish _) hw) (fun _ _ q => q.unwish) fun _ _ z => False.elim z
end
section
variable {X : Cx} {st : Stmt} {rest : List Stmt} {t u : TS} {e : Expr} {te : TE} {pos : Pos}
noncomputable def tNext : TS := fun D σ H => D.nx σ H
noncomputable def tSeq (t u : TS) : TS := fun D σ H => t { D with nx := u D } σ H
theorem pss_nil : PSs X [] tNext := fun _ _ σ H _ I h => wpAny_execs_nil ⟨σ, H, I, h⟩
theorem pss_cons (h1 : PS X st t) (h2 : PSs X rest u) : PSs X (st :: rest) (tSeq t u) := by
  intro pins s σ H D I h
  refine wpAny_execs_cons (thn (h1 pins s σ H { D with nx := u D } I h) fun f s1 q => ?_)
  cases f with
  | next =>
    obtain ⟨σ', H', I', q⟩ := q
    exact h2 pins s1 σ' H' D I' q
  | ret v => exact q
  | brk => exact q
  | cont => exact q
theorem pss_one (h1 : PS X st t) : PSs X [st] t := by
  intro pins s σ H D I h
  refine wpAny_execs_cons (thn (h1 pins s σ H D I h) fun f s1 q => ?_)
  cases f with
  | next => exact wpAny_execs_nil q
  | ret v => exact q
  | brk => exact q
  | cont => exact q
theorem Inv.quiet {pins : List (Addr × Obj)} {σ : St} {H : Hp} {s : Shared} (I : Inv X pins σ H s) : interactive X.env = false := by simp [interactive, I.ok.kind]
noncomputable def tDrop (te : TE) : TS := fun D σ H => te σ H fun _ H1 => D.nx σ H1
theorem ps_expr (he : PE X e te) (hs : swapsWith e none pos.line X.env = pure false := by rfl) : PS X (.Expr e pos) (tDrop te) := by
  intro pins s σ H D I h
  exact wpAny_Expr_any (thn (he pins s σ H _ I h) fun v s1 ⟨x, H1, I1, r1, q1⟩ => ⟨σ, H1, I1, q1⟩) I.quiet hs
noncomputable def tRet (te : TE) : TS := fun D σ H => te σ H D.rt
theorem ps_ret (he : PE X e te) : PS X (.Return (some e) pos) (tRet te) := by
  intro pins s σ H D I h
  exact wpAny_Return_some (thn (he pins s σ H _ I h) fun v s1 ⟨x, H1, I1, r1, q1⟩ => ⟨x, σ, H1, I1, r1, q1⟩)
noncomputable def tIfS (c : TT) (t u : TS) : TS := fun D σ H => c σ H fun b H1 => if b = true then t D σ H1 else u D σ H1
theorem ps_if {c : Expr} {a b : List Stmt} {tc : TT} (hc : PT X c tc) (ha : PSs X a t) (hb : PSs X b u) : PS X (.If c a b pos) (tIfS tc t u) := by
  intro pins s σ H D I h
  refine wpAny_If (thn (hc pins s σ H _ I h) fun d s1 ⟨H1, I1, q1⟩ => ?_)
  cases d with
  | true => exact ha pins s1 σ H1 D I1 q1
  | false => exact hb pins s1 σ H1 D I1 q1
end
noncomputable abbrev TG := V → St → Hp → (St → Hp → Prop) → Prop
noncomputable abbrev TGs := List V → St → Hp → (St → Hp → Prop) → Prop
noncomputable def PG (X : Cx) (target : Expr) (t : TG) : Prop :=
  ∀ (pins : List (Addr × Obj)) (s : Shared) (σ : St) (H : Hp) (v : V) (u : Value) (Q : St → Hp → Prop), Inv X pins σ H s → RelV v u → t v σ H Q →
    wpAny (model X.prog X.w) X.A (assign target X.env u) (fun _ s' => ∃ σ' H', Inv X pins σ' H' s' ∧ Q σ' H') X.xe s
noncomputable def PGs (X : Cx) (ts : List Expr) (t : TGs) : Prop :=
  ∀ (pins : List (Addr × Obj)) (s : Shared) (σ : St) (H : Hp) (vs : List V) (us : List Value) (Q : St → Hp → Prop), Inv X pins σ H s → Vals vs us → t vs σ H Q →
    wpAny (model X.prog X.w) X.A (assignInOrder ((assignEach ts X.env).map (·.2)) us) (fun _ s' => ∃ σ' H', Inv X pins σ' H' s' ∧ Q σ' H') X.xe s
noncomputable abbrev TSet := V → V → V → Hp → (Hp → Prop) → Prop
noncomputable def PSet (X : Cx) (t : TSet) : Prop :=
  ∀ (pins : List (Addr × Obj)) (s : Shared) (σ : St) (H : Hp) (o i v : V) (ov iv u : Value) (Q : Hp → Prop), Inv X pins σ H s → RelV o ov → RelV i iv → RelV v u → t o i v H Q →
    wpAny (model X.prog X.w) X.A (setItem ov iv u) (fun _ s' => ∃ H', Inv X pins σ H' s' ∧ Q H') X.xe s
section
variable {X : Cx} {pos : Pos}
noncomputable def gName (i : Nat) : TG := fun v σ H Q => Q (σ.set i (some v)) H
theorem pg_name {i : Nat} {x : Str} (hN : X.N.Nodup) (hi : X.N[i]? = some x) (hx : Loc X.env.scope x) (hf : X.fn x = true ∨ X.env.scope.names.lookup x = some .local := by first | exact .inl rfl | exact .inr rfl | assumption) : PG X (.Name x pos) (gName i) := by
  intro pins s σ H v u Q I r h
  exact wpAny_assign_Name (store_ok I hN hi hx r (fun s' I' => ⟨_, H, I', h⟩) hf)
noncomputable def gNil : TGs := fun vs σ H Q => vs = [] ∧ Q σ H
noncomputable def gCons (t : TG) (u : TGs) : TGs := fun vs σ H Q => ∃ v r, vs = v :: r ∧ t v σ H fun σ' H' => u r σ' H' Q
theorem pgs_nil : PGs X [] gNil := by
  intro pins s σ H vs us Q I r h
  obtain ⟨e, h⟩ := h
  subst e
  cases r
  exact assignInOrder_nil ⟨σ, H, I, h⟩
theorem pgs_cons {e : Expr} {es : List Expr} {t : TG} {u : TGs} (h1 : PG X e t) (h2 : PGs X es u)
    (hs : (assignEach (e :: es) X.env).map (·.2) = assign e X.env :: (assignEach es X.env).map (·.2) := by rfl) : PGs X (e :: es) (gCons t u) := by
  intro pins s σ H vs us Q I r h
  obtain ⟨v, vr, e1, h⟩ := h
  subst e1
  cases r with
  | cons r rr =>
    rw [hs]
    refine assignInOrder_cons (thn (h1 pins s σ H _ _ _ I r h) fun _ s1 ⟨σ1, H1, I1, q1⟩ => ?_)
    exact h2 pins s1 σ1 H1 _ _ Q I1 rr q1
noncomputable def gTup (K : PySem.W.Frag) (n : Nat) (t : TGs) : TG := fun v σ H Q => ∃ a xs, v = .ref a ∧ SqT K H a xs ∧ xs.length = n ∧ t xs σ H Q
theorem pg_tup {es : List Expr} {k : Nat} {t : TGs} {n : Nat} (hc : X.calm = true) (h : PGs X es t)
    (hn : (assignEach es X.env).length = n := by rfl) (hst : (assignEach es X.env).findIdx? (·.1) = none := by rfl) : PG X (.Tuple es k pos) (gTup X.K n t) := by
  intro pins s σ H v u Q I r hw
  obtain ⟨a, xs, e1, hq, hl, hw⟩ := hw
  subst e1
  cases r
  obtain ⟨its, rv, ht, hz⟩ := I.tuple hq
  refine assign_Tuple_tuple (I.ok.hd hc) ht (by simp [hn, ← hl, rv.length]) hst fun h' hx => ?_
  have I1 : Inv X pins σ H { s with heap := h' } := I.kept (t' := s.toks) fun b o e => hx b o (Nat.ne_of_lt (Heap.lt_size e)) e
  exact h pins _ σ H xs _ Q I1 (by simpa using rv) hw
noncomputable def gSub (to ti : TE) (t : TSet) : TG := fun v σ H Q => to σ H fun o H1 => ti σ H1 fun i H2 => t o i v H2 fun H3 => Q σ H3
theorem pg_sub {o i : Expr} {to ti : TE} {t : TSet} (ho : PE X o to) (hi : PE X i ti) (hs : PSet X t)
    (ha : ∀ v, assign (.Subscript o i pos) X.env v = (do
      let ov ← holding [v] (eval o X.env)
      let iv ← holding [v, ov] (eval i X.env)
      standAt pos
      holding [v, ov, iv] (setItem ov iv v)
      release [v, ov, iv] []) := by intro _; rfl) : PG X (.Subscript o i pos) (gSub to ti t) := by
  intro pins s σ H v u Q I r h
  rw [ha]
  refine wpAny_bind (wpAny_holding (thn (ho pins s σ H _ I h) fun ov s1 ⟨x, H1, I1, r1, q1⟩ => ?_))
  refine wpAny_bind (wpAny_holding (thn (hi pins s1 σ H1 _ I1 q1) fun iv s2 ⟨y, H2, I2, r2, q2⟩ => ?_))
  refine wpAny_bind (wpAny_standAt (wpAny_bind (wpAny_holding (thn (hs pins s2 σ H2 x y v ov iv u _ I2 r1 r2 r q2) fun _ s3 ⟨H3, I3, q3⟩ => ?_))))
  exact wpAny_release ⟨σ, H3, I3, q3⟩
noncomputable def tAsg (te : TE) (g : TG) : TS := fun D σ H => te σ H fun x H1 => g x σ H1 D.nx
theorem ps_asg {tg e : Expr} {te : TE} {g : TG} (he : PE X e te) (hg : PG X tg g) (hs : swapsWithSole [tg] e pos.line X.env = pure false := by rfl) (hw : swappedStores [tg] e X.env = pure none := by rfl)
    (h1 : (assignEach [tg] X.env).map (·.2) = [assign tg X.env] := by rfl) : PS X (.Assign [tg] e pos) (tAsg te g) := by
  intro pins s σ H D I h
  refine wpAny_Assign_stores (thn (he pins s σ H _ I h) fun v s1 ⟨x, H1, I1, r1, q1⟩ => ?_) hs hw
  rw [h1]
  exact thn (hg pins s1 σ H1 x v _ I1 r1 q1) fun _ s2 q => q
theorem ps_set {i : Nat} {x : Str} {e : Expr} {te : TE} {pos' : Pos} (hN : X.N.Nodup) (hi : X.N[i]? = some x) (hx : Loc X.env.scope x) (he : PE X e te) (hs : swapsWith e (some (.Name x pos')) pos.line X.env = pure false := by rfl) (hf : X.fn x = true ∨ X.env.scope.names.lookup x = some .local := by first | exact .inl rfl | exact .inr rfl | assumption) :
    PS X (.Assign [.Name x pos'] e pos) (tAsg te (gName i)) := by
  intro pins s σ H D I h
  refine wpAny_Assign_Name (thn (he pins s σ H _ I h) fun v s1 ⟨y, H1, I1, r1, q1⟩ => ?_) hs
  exact store_ok I1 hN hi hx r1 (fun s2 I2 => ⟨_, H1, I2, q1⟩) hf
end
section
variable {X : Cx} {pos : Pos}
noncomputable def tWhile (c : TT) (tb : TS) : TS := fun D σ H => ∃ W : Nat → St → Hp → Prop, (∃ m, W m σ H) ∧ ∀ m σ H, W m σ H →
  c σ H fun b H1 => if b = true then ∃ N : St → Hp → Prop, (∀ σ' H', N σ' H' → ∃ m', m' < m ∧ W m' σ' H') ∧ tb { D with nx := N, ct := N, bk := D.nx } σ H1 else D.nx σ H1
theorem ps_while {c : Expr} {body : List Stmt} {tc : TT} {tb : TS} (hp : PassesOwn (model X.prog X.w) X.A X.env X.xe) (hc : PT X c tc) (hb : PSs X body tb) : PS X (.While c body [] pos) (tWhile tc tb) := by
  intro pins s σ H D I h
  obtain ⟨W, ⟨m0, w0⟩, turn⟩ := h
  refine wpAny_While (codeAny_whileLoop (fun n s' => ∃ σ' H', Inv X pins σ' H' s' ∧ W n σ' H') ?_ m0 ⟨σ, H, I, w0⟩)
  rintro n s1 ⟨σ1, H1, I1, w1⟩
  refine wpAny_passesOwn hp (thn (hc pins s1 σ1 H1 _ I1 (turn n σ1 H1 w1)) fun b s2 ⟨H2, I2, q2⟩ => ?_)
  cases b with
  | true =>
    obtain ⟨N, hN, q2⟩ := q2
    rw [if_pos rfl]
    refine wpAny_passesOwn hp (thn (hb pins s2 σ1 H2 _ I2 q2) fun f s3 q3 => ?_)
    cases f with
    | next =>
      obtain ⟨σ3, H3, I3, n3⟩ := q3
      obtain ⟨m', hm, w3⟩ := hN σ3 H3 n3
      exact ⟨m', hm, σ3, H3, I3, w3⟩
    | cont =>
      obtain ⟨σ3, H3, I3, n3⟩ := q3
      obtain ⟨m', hm, w3⟩ := hN σ3 H3 n3
      exact ⟨m', hm, σ3, H3, I3, w3⟩
    | brk => exact q3
    | ret v => exact q3
  | false =>
    rw [if_neg Bool.false_ne_true]
    exact wpAny_execs_nil ⟨σ1, H2, I2, q2⟩
end
structure It where
  go : Nat → Hp → Prop
  yld : Nat → Hp → V → Hp → Prop
  stop : Nat → Hp → Prop
noncomputable def FpOk (X : Cx) (pins : List (Addr × Obj)) (H : Hp) (b : Addr) : Prop :=
  H b = none ∧ b ≠ X.env.locals ∧ b ∉ X.fs ∧ (b ∈ X.ex ∨ X.s₀.heap.objs.size ≤ b) ∧ (∀ x c, X.env.cells.lookup x = some c → c ≠ b) ∧ ∀ p ∈ X.pn ++ pins, p.1 ≠ b
theorem Inv.fpOk {X : Cx} {pins : List (Addr × Obj)} {σ : St} {H H' : Hp} {s : Shared} {b : Addr} (I : Inv X pins σ H s) (hb : s.heap.objs.size ≤ b) (hn : H' b = none) : FpOk X pins H' b := by
  refine ⟨hn, Nat.ne_of_gt (Nat.lt_of_lt_of_le I.lt hb), I.nofs hb, .inr (Nat.le_trans I.sz hb), fun x c e z => ?_, fun p hp z => ?_⟩
  · obtain ⟨v, q⟩ := I.cell x c e
    exact absurd (Nat.lt_of_lt_of_le q.lt (by rw [z]; exact hb)) (Nat.lt_irrefl _)
  · exact absurd (Nat.lt_of_lt_of_le (Heap.lt_size (I.pin p hp).1) (by rw [z]; exact hb)) (Nat.lt_irrefl _)
structure Turn (P : Program) (w : World) (K : PySem.W.Frag) (tg : Expr) (J : It) (fp : List Addr) (it : Addr) (tn : Nat → Heap → Prop) : Prop where
  mem : it ∈ fp
  obj : ∀ i h, tn i h → ∀ b ∈ fp, ∃ o, h.get? b = some o ∧ ∀ v, o.data ≠ .cell v
  keep : ∀ i h h', tn i h → (∀ b ∈ fp, ∀ o, h.get? b = some o → h'.get? b = some o) → tn i h'
  item : ∀ (X : Cx), X.prog = P → X.w = w → X.K = K → X.calm = true → ∀ (i : Nat) (pins : List (Addr × Obj)) (s : Shared) (σ : St) (H : Hp) (E : Value → Shared → Prop), Inv X pins σ H s → (∀ b ∈ fp, FpOk X pins H b) → tn i s.heap → J.go i H →
    wpAny (model P w) X.A (pyNext (.ref it)) (fun r s1 => ∃ u, r = some u ∧
      wpAny (model P w) X.A (letOwnedTupleGo tg (.ref it) u) (fun _ s2 => ∃ x H', Inv X pins σ H' s2 ∧ RelV x u ∧ J.yld i H x H' ∧ tn (i + 1) s2.heap ∧ ∀ b ∈ fp, H' b = none) E s1) E s
  done : ∀ (X : Cx), X.prog = P → X.w = w → X.K = K → X.calm = true → ∀ (i : Nat) (pins : List (Addr × Obj)) (s : Shared) (σ : St) (H : Hp) (E : Value → Shared → Prop), Inv X pins σ H s → (∀ b ∈ fp, FpOk X pins H b) → tn i s.heap → J.stop i H →
    wpAny (model P w) X.A (pyNext (.ref it)) (fun r s1 => r = none ∧ Inv X pins σ H s1) E s
  self : ∀ (A : Around) (i : Nat) (s : Shared) (Q : Value → Shared → Prop) (E : Value → Shared → Prop), tn i s.heap → Q (.ref it) s → wpAny (model P w) A (pyIter (.ref it)) Q E s
noncomputable abbrev TI := St → Hp → (It → Hp → Prop) → Prop
noncomputable def PIE (X : Cx) (pins : List (Addr × Obj)) (σ : St) (tg : Expr) (R : It → Hp → Prop) (itv : Value) (s2 : Shared) : Prop :=
  ∃ (it : Addr) (fp : List Addr) (tn : Nat → Heap → Prop) (J : It) (H' : Hp), itv = .ref it ∧ Inv X pins σ H' s2 ∧ Turn X.prog X.w X.K tg J fp it tn ∧ tn 0 s2.heap ∧ (∀ b ∈ fp, FpOk X pins H' b) ∧ R J H'
noncomputable def PI (X : Cx) (tg iter : Expr) (wi : TI) : Prop :=
  ∀ (pins : List (Addr × Obj)) (s : Shared) (σ : St) (H : Hp) (R : It → Hp → Prop), Inv X pins σ H s → wi σ H R →
    wpAny (model X.prog X.w) X.A (eval iter X.env) (fun v s1 => wpAny (model X.prog X.w) X.A (pyIter v) (PIE X pins σ tg R) X.xe s1) X.xe s
theorem go_of {M : Model} {A : Around} {E : Value → Shared → Prop} {s : Shared} {tg : Expr} {it : Addr} {u : Value} {o : Obj} {n : String} {vs : Array Value} {Q : Unit → Shared → Prop} (ho : s.heap.get? it = some o) (hc : o.cls = .type n) (hd : o.data = .fields vs)
    (hn : ["enumerate", "zip", "dict_itemiterator", "dict_reverseitemiterator", "odict_iterator", "itertools.zip_longest", "itertools.pairwise"].contains n = false) (hQ : Q () s) : wpAny M A (letOwnedTupleGo tg (.ref it) u) Q E s := by
  unfold letOwnedTupleGo
  cases tg <;> first
    | exact wpAny_pure hQ
    | (cases u <;> first
        | exact wpAny_pure hQ
        | (refine wpAny_bind (wpAny_load ho ?_)
           rw [hc, hd]
           show wpAny M A (if (["enumerate", "zip", "dict_itemiterator", "dict_reverseitemiterator", "odict_iterator", "itertools.zip_longest", "itertools.pairwise"].contains n && vs[0]? == some (rawInt _)) = true then _ else _) Q E s
           rw [if_neg (by intro h; rw [hn, Bool.false_and] at h; cases h)]
           exact wpAny_pure hQ))
noncomputable def Itl (K : PySem.W.Frag) (a : Addr) : It :=
  ⟨fun i H => ∃ xs x, SqL K H a xs ∧ xs[i]? = some x, fun i H x H' => H' = H ∧ ∀ xs, SqL K H a xs → xs[i]? = some x, fun i H => ∃ xs, SqL K H a xs ∧ xs.length ≤ i⟩
noncomputable def Itt (K : PySem.W.Frag) (a : Addr) : It :=
  ⟨fun i H => ∃ xs x, SqT K H a xs ∧ xs[i]? = some x, fun i H x H' => H' = H ∧ ∀ xs, SqT K H a xs → xs[i]? = some x, fun i H => ∃ xs, SqT K H a xs ∧ xs.length ≤ i⟩
noncomputable def Itr (lo : Int) (n : Nat) : It := ⟨fun i _ => i < n, fun i H x H' => H' = H ∧ x = .int (lo + i), fun i _ => n ≤ i⟩
theorem turn_list {P : Program} {w : World} {K : PySem.W.Frag} {tg : Expr} (a it : Addr) : Turn P w K tg (Itl K a) [it] it (fun i h => h.IsListIter it a i) where
  mem := by simp
  obj := fun i h st b hb => by
    have e : b = it := by simpa using hb
    subst e
    obtain ⟨o, e, c, d⟩ := st
    exact ⟨o, e, fun v z => by rw [d] at z; cases z⟩
  keep := fun i h h' st k => st.at fun o e => k it (by simp) o e
  item := by
    intro X hP hw hK hc i pins s σ H E I hf st hg
    subst hP hw hK
    obtain ⟨xs, x, hq, hx⟩ := hg
    obtain ⟨its, rv, p, hz⟩ := I.list hq
    obtain ⟨u, hu, ru⟩ := rv.get hx
    obtain ⟨f0, f1, f2, f3, f4, f5⟩ := hf it (by simp)
    refine wpAny_pyNext_list_item st p.isList (x := u) (by simpa using hu) fun h' st' sb => ?_
    have I1 : Inv X pins σ H { s with heap := h' } := I.turned (t' := s.toks) (fun b o hb e => (sb.2 b hb).trans e) f0 f1 f3 f4 f5
    obtain ⟨o, e, c, d⟩ := id st'
    exact ⟨u, rfl, go_of (s := { s with heap := h' }) e c d (by decide) ⟨x, H, I1, ru, ⟨rfl, fun ys hy => by rw [I.list_inj hy hq]; exact hx⟩, st', fun b hb => (hf b hb).1⟩⟩
  done := by
    intro X hP hw hK hc i pins s σ H E I hf st hg
    subst hP hw hK
    obtain ⟨xs, hq, hx⟩ := hg
    obtain ⟨its, rv, p, hz⟩ := I.list hq
    obtain ⟨f0, f1, f2, f3, f4, f5⟩ := hf it (by simp)
    have hl := rv.length
    exact wpAny_pyNext_list_end (I.ok.hd hc) st p.isList (by simp; omega) fun h' eb => ⟨rfl, I.turned (t' := s.toks) (fun b o hb e => eb b o hb e) f0 f1 f3 f4 f5⟩
  self := fun _ _ _ _ _ st h => wpAny_pyIter_listiter st h
theorem turn_tuple {P : Program} {w : World} {K : PySem.W.Frag} {tg : Expr} (a it : Addr) : Turn P w K tg (Itt K a) [it] it (fun i h => h.IsTupleIter it a i) where
  mem := by simp
  obj := fun i h st b hb => by
    have e : b = it := by simpa using hb
    subst e
    obtain ⟨o, e, c, d⟩ := st
    exact ⟨o, e, fun v z => by rw [d] at z; cases z⟩
  keep := fun i h h' st k => st.at fun o e => k it (by simp) o e
  item := by
    intro X hP hw hK hc i pins s σ H E I hf st hg
    subst hP hw hK
    obtain ⟨xs, x, hq, hx⟩ := hg
    obtain ⟨its, rv, p, hz⟩ := I.tuple hq
    obtain ⟨u, hu, ru⟩ := rv.get hx
    obtain ⟨f0, f1, f2, f3, f4, f5⟩ := hf it (by simp)
    refine wpAny_pyNext_tuple_item st (show s.heap.IsTuple a its.toArray from p) (x := u) (by simpa using hu) fun h' st' sb => ?_
    have I1 : Inv X pins σ H { s with heap := h' } := I.turned (t' := s.toks) (fun b o hb e => (sb.2 b hb).trans e) f0 f1 f3 f4 f5
    obtain ⟨o, e, c, d⟩ := id st'
    exact ⟨u, rfl, go_of (s := { s with heap := h' }) e c d (by decide) ⟨x, H, I1, ru, ⟨rfl, fun ys hy => by rw [I.tuple_inj hy hq]; exact hx⟩, st', fun b hb => (hf b hb).1⟩⟩
  done := by
    intro X hP hw hK hc i pins s σ H E I hf st hg
    subst hP hw hK
    obtain ⟨xs, hq, hx⟩ := hg
    obtain ⟨its, rv, p, hz⟩ := I.tuple hq
    obtain ⟨f0, f1, f2, f3, f4, f5⟩ := hf it (by simp)
    have hl := rv.length
    exact wpAny_pyNext_tuple_end (I.ok.hd hc) st (show s.heap.IsTuple a its.toArray from p) (by simp; omega) fun h' eb => ⟨rfl, I.turned (t' := s.toks) (fun b o hb e => eb b o hb e) f0 f1 f3 f4 f5⟩
  self := fun _ _ _ _ _ st h => wpAny_pyIter_tupleiter st h
theorem turn_range {P : Program} {w : World} {K : PySem.W.Frag} {tg : Expr} (it : Addr) (lo : Int) (n : Nat) : Turn P w K tg (Itr lo n) [it] it (fun i h => IsRangeIter h it (lo + (i : Nat) * 1) ((n : Int) - (i : Nat)) 1) where
  mem := by simp
  obj := fun i h st b hb => by
    have e : b = it := by simpa using hb
    subst e
    exact ⟨_, st, fun v z => by
      have z' : Data.fields _ = Data.cell v := z
      cases z'⟩
  keep := fun i h h' st k => k it (by simp) _ st
  item := by
    intro X hP hw hK hc i pins s σ H E I hf st hg
    subst hP hw hK
    obtain ⟨f0, f1, f2, f3, f4, f5⟩ := hf it (by simp)
    have W := Walks.range (prog := X.prog) (w := X.w) (I.ok.hd hc) it lo 1 n
    refine W.item i s _ _ hg st fun v h' tk hv st' kk => ?_
    obtain ⟨t, rfl⟩ := hv
    have I1 : Inv X pins σ H { s with heap := h', toks := tk } := I.turned (fun b o hb e => kk b o (by simpa using hb) e) f0 f1 f3 f4 f5
    refine ⟨_, rfl, go_of (s := { s with heap := h', toks := tk }) (n := "range_iterator") st' rfl rfl (by decide) ⟨.int (lo + i), H, I1, ⟨t, ?_⟩, ⟨rfl, rfl⟩, st', fun b hb => (hf b hb).1⟩⟩
    rw [Int.mul_one]
  done := by
    intro X hP hw hK hc i pins s σ H E I hf st hg
    subst hP hw hK
    obtain ⟨f0, f1, f2, f3, f4, f5⟩ := hf it (by simp)
    exact wpAny_pyNext_range_end (I.ok.hd hc) st (by have : n ≤ i := hg; omega) fun h' eb => ⟨rfl, I.turned (t' := s.toks) (fun b o hb e => eb b o hb e) f0 f1 f3 f4 f5⟩
  self := fun _ _ _ _ _ st h => wpAny_pyIter_rangeiter st h
end L2
namespace L2
open PySem PySem.Spec PyProof.Rows
section
variable {X : Cx} {tg : Expr}
noncomputable def iList (K : PySem.W.Frag) (tl : TE) : TI := fun σ H R => tl σ H fun x H1 => ∃ a, x = .ref a ∧ (∃ xs, SqL K H1 a xs) ∧ R (Itl K a) H1
noncomputable def iTup (K : PySem.W.Frag) (tl : TE) : TI := fun σ H R => tl σ H fun x H1 => ∃ a, x = .ref a ∧ (∃ xs, SqT K H1 a xs) ∧ R (Itt K a) H1
theorem pi_list {l : Expr} {tl : TE} (hl : PE X l tl) : PI X tg l (iList X.K tl) := by
  intro pins s σ H R I h
  refine thn (hl pins s σ H _ I h) fun v s1 ⟨x, H1, I1, r1, q1⟩ => ?_
  obtain ⟨a, e, ⟨xs, hq⟩, q⟩ := q1
  subst e
  cases r1
  obtain ⟨its, rv, p, hz⟩ := I1.list hq
  refine wpAny_pyIter_list p.isList ?_
  refine ⟨s1.heap.objs.size, [s1.heap.objs.size], _, _, H1, rfl, I1.kept (t' := s1.toks) fun b o e => Heap.get?_push_of_some _ e, turn_list a _, ⟨_, Heap.get?_push_size _ rfl, rfl, rfl⟩, fun b hb => ?_, q⟩
  have e : b = s1.heap.objs.size := by simpa using hb
  subst e
  exact I1.fpOk (Nat.le_refl _) (I1.hok.fresh (Nat.le_refl _))
theorem pi_tup {l : Expr} {tl : TE} (hl : PE X l tl) : PI X tg l (iTup X.K tl) := by
  intro pins s σ H R I h
  refine thn (hl pins s σ H _ I h) fun v s1 ⟨x, H1, I1, r1, q1⟩ => ?_
  obtain ⟨a, e, ⟨xs, hq⟩, q⟩ := q1
  subst e
  cases r1
  obtain ⟨its, rv, p, hz⟩ := I1.tuple hq
  refine wpAny_pyIter_tuple (show s1.heap.IsTuple a its.toArray from p) ?_
  refine ⟨s1.heap.objs.size, [s1.heap.objs.size], _, _, H1, rfl, I1.kept (t' := s1.toks) fun b o e => Heap.get?_push_of_some _ e, turn_tuple a _, ⟨_, Heap.get?_push_size _ rfl, rfl, rfl⟩, fun b hb => ?_, q⟩
  have e : b = s1.heap.objs.size := by simpa using hb
  subst e
  exact I1.fpOk (Nat.le_refl _) (I1.hok.fresh (Nat.le_refl _))
theorem range_it {pins : List (Addr × Obj)} {σ : St} {H : Hp} {s : Shared} {R : It → Hp → Prop} {E : Value → Shared → Prop} {lo hi : Int} {t u v : Tok} {tk : Nat} (I : Inv X pins σ H s) (h1 : -(2 ^ 62) ≤ lo) (h2 : lo < 2 ^ 62) (h3 : -(2 ^ 62) ≤ hi) (h4 : hi < 2 ^ 62)
    (q : R (Itr lo (hi - lo).toNat) H) : wpAny (model X.prog X.w) X.A (pyIter (.ref s.heap.objs.size)) (PIE X pins σ tg R) E { s with heap := s.heap.push { cls := .type "range", data := .fields #[.int lo t, .int hi u, .int 1 v] }, toks := tk } := by
  refine wpAny_pyIter_range (IsRange.new ..) (small_one h1 h2 h3 h4) ?_
  have I1 : Inv X pins σ H { s with heap := s.heap.push { cls := .type "range", data := .fields #[.int lo t, .int hi u, .int 1 v] }, toks := tk } := I.kept fun b o e => Heap.get?_push_of_some _ e
  refine ⟨(s.heap.push { cls := .type "range", data := .fields #[.int lo t, .int hi u, .int 1 v] }).objs.size, [(s.heap.push { cls := .type "range", data := .fields #[.int lo t, .int hi u, .int 1 v] }).objs.size], _, _, H, rfl,
    I1.kept (t' := tk) fun b o e => Heap.get?_push_of_some _ e, turn_range _ lo (hi - lo).toNat, ?_, fun b hb => ?_, q⟩
  · have e1 : lo + ((0 : Nat) : Int) * 1 = lo := by simp
    have e2 : (((hi - lo).toNat : Nat) : Int) - ((0 : Nat) : Int) = Builtin.Range.rangeSize lo hi 1 := by rw [rangeSize_one]; split <;> omega
    show IsRangeIter _ _ (lo + ((0 : Nat) : Int) * 1) ((((hi - lo).toNat : Nat) : Int) - ((0 : Nat) : Int)) 1
    rw [e1, e2]
    exact Heap.get?_push_size _ rfl
  · have e : b = (s.heap.push { cls := .type "range", data := .fields #[.int lo t, .int hi u, .int 1 v] }).objs.size := by simpa using hb
    subst e
    exact I1.fpOk (Nat.le_refl _) (I1.hok.fresh (Nat.le_refl _))
noncomputable def iRng1 (ta : TA) : TI := fun σ H R => ta σ H fun vs H1 => ∃ j : Int, vs = [.int j] ∧ -(2 ^ 62) ≤ j ∧ j < 2 ^ 62 ∧ R (Itr 0 j.toNat) H1
theorem pi_range1 {a : Expr} {ta : TA} {p pos : Pos} (hg : Gl X "range") (hm : X.mg "range" = none) (ha : PA X [a] ta) (hs : starEach [a] X.env = [(false, eval a X.env)] := by rfl) : PI X tg (.Call (.Name "range" p) [a] [] pos) (iRng1 ta) := by
  intro pins s σ H R I h
  refine Call_ (ld_blt I hg hm boot_range (PyProof.Rows.callWith_type1 (thn (ha pos pins s σ H _ I h) fun us s1 ⟨vs, H1, I1, r1, q1⟩ => ?_) hs rfl))
  obtain ⟨j, e, q1, q2, q⟩ := q1
  subst e
  cases r1 with
  | cons r rr =>
    cases rr
    obtain ⟨t, rfl⟩ := r
    exact call_range_1 (range_it I1 (by omega) (by omega) q1 q2 (by simpa using q))
noncomputable def tFor (wi : TI) (g : TG) (tb : TS) : TS := fun D σ H => wi σ H fun J H1 => ∃ W : Nat → Nat → St → Hp → Prop, (∃ m, W 0 m σ H1) ∧ ∀ i m σ H, W i m σ H →
  (J.stop i H ∧ D.nx σ H) ∨ (J.go i H ∧ ∃ N : St → Hp → Prop, (∀ σ' H', N σ' H' → ∃ m', m' < m ∧ W (i + 1) m' σ' H') ∧ ∀ x H', J.yld i H x H' → g x σ H' fun σ2 H2 => tb { D with nx := N, ct := N, bk := D.nx } σ2 H2)
noncomputable def pinsAt (fp : List Addr) (h : Heap) : List (Addr × Obj) := fp.filterMap fun b => (h.get? b).map fun o => (b, o)
theorem mem_pinsAt {fp : List Addr} {h : Heap} {b : Addr} {o : Obj} (hb : b ∈ fp) (e : h.get? b = some o) : (b, o) ∈ pinsAt fp h := List.mem_filterMap.mpr ⟨b, hb, by rw [e]; rfl⟩
theorem of_pinsAt {fp : List Addr} {h : Heap} {p : Addr × Obj} (hp : p ∈ pinsAt fp h) : p.1 ∈ fp ∧ h.get? p.1 = some p.2 := by
  obtain ⟨b, hb, e⟩ := List.mem_filterMap.mp hp
  cases q : h.get? b with
  | none => rw [q] at e; cases e
  | some o =>
    rw [q] at e
    have e' : (b, o) = p := Option.some.inj e
    subst e'
    exact ⟨hb, q⟩
theorem Inv.pinned {pins : List (Addr × Obj)} {σ : St} {H : Hp} {s : Shared} {fp : List Addr} (I : Inv X pins σ H s) (hf : ∀ b ∈ fp, FpOk X pins H b) (ho : ∀ b ∈ fp, ∃ o, s.heap.get? b = some o ∧ ∀ v, o.data ≠ .cell v) : Inv X (pins ++ pinsAt fp s.heap) σ H s :=
  I.pins_of fun p hp => (List.mem_append.mp hp).elim (fun z => I.pin p (List.mem_append_right _ z)) fun z => by
    obtain ⟨hb, e⟩ := of_pinsAt z
    obtain ⟨f0, f1, f2, _⟩ := hf p.1 hb
    obtain ⟨o, e', d⟩ := ho p.1 hb
    rw [e] at e'; cases e'
    exact ⟨e, f0, f1, f2, d⟩
theorem Inv.unpinned {pins pl : List (Addr × Obj)} {σ : St} {H : Hp} {s : Shared} (I : Inv X (pins ++ pl) σ H s) : Inv X pins σ H s := I.pins_of fun p hp => I.pin p (List.mem_append_right _ (List.mem_append_left _ hp))
theorem ps_for {iter : Expr} {body : List Stmt} {wi : TI} {g : TG} {tb : TS} {pos : Pos} (hp : PassesOwn (model X.prog X.w) X.A X.env X.xe) (hc : X.calm = true) (hi : PI X tg iter wi) (hg : PG X tg g) (hb : PSs X body tb)
    (hs : ∀ x, foldedSetIterable iter X.env x = pure x := by intro _; rfl) : PS X (.For tg iter body [] pos) (tFor wi g tb) := by
  intro pins s σ H D I h
  refine wpAny_For (thn (hi pins s σ H _ I h) fun v s1 h1 => thn h1 fun itv s2 h2 => ?_) hs
  obtain ⟨it, fp, tn, J, H2, e, I2, T, st2, f2, W, ⟨m0, w0⟩, turn⟩ := h2
  subst e
  -- what stays true of the iterator's objects through the loop
  have stat : ∀ {H' : Hp}, (∀ b ∈ fp, H' b = none) → ∀ b ∈ fp, FpOk X pins H' b := fun hn b hb => ⟨hn b hb, (f2 b hb).2⟩
  refine codeAny_forLoop_any (fun n s' => ∃ i σ' H', Inv X pins σ' H' s' ∧ tn i s'.heap ∧ (∀ b ∈ fp, H' b = none) ∧ W i n σ' H') ?_ m0 ⟨0, σ, H2, I2, st2, fun b hb => (f2 b hb).1, w0⟩
  rintro n s3 ⟨i, σ3, H3, I3, st3, fr3, w3⟩
  rcases turn i n σ3 H3 w3 with ⟨stop, qn⟩ | ⟨go, N, hN, step⟩
  · refine wpAny_passesOwn hp (thn (T.done X rfl rfl rfl hc i pins s3 σ3 H3 X.xe I3 (stat fr3) st3 stop) fun r s4 ⟨hr, I4⟩ => ?_)
    subst hr
    exact wpAny_execs_nil ⟨σ3, H3, I4, qn⟩
  · refine wpAny_passesOwn hp (thn (T.item X rfl rfl rfl hc i pins s3 σ3 H3 X.xe I3 (stat fr3) st3 go) fun r s4 ⟨u, hr, h4⟩ => ?_)
    subst hr
    refine wpAny_passesOwn hp (thn h4 fun _ s5 ⟨x, H5, I5, r5, y5, st5, fr5⟩ => ?_)
    have I5' := I5.pinned (stat fr5) (T.obj _ _ st5)
    refine wpAny_passesOwn hp (thn (hg _ s5 σ3 H5 x u _ I5' r5 (step x H5 y5)) fun _ s6 ⟨σ6, H6, I6, q6⟩ => ?_)
    refine wpAny_passesOwn hp (thn (hb _ s6 σ6 H6 _ I6 q6) fun f s7 q7 => ?_)
    have again : ∀ {σ7 : St} {H7 : Hp}, Inv X (pins ++ pinsAt fp s5.heap) σ7 H7 s7 → N σ7 H7 → ∃ m, m < n ∧ ∃ i σ' H', Inv X pins σ' H' s7 ∧ tn i s7.heap ∧ (∀ b ∈ fp, H' b = none) ∧ W i m σ' H' := fun {σ7 H7} I7 n7 => by
      obtain ⟨m', hm, w7⟩ := hN σ7 H7 n7
      refine ⟨m', hm, i + 1, σ7, H7, I7.unpinned, T.keep _ _ _ st5 fun b hb o e => (I7.pin (b, o) (List.mem_append_right _ (List.mem_append_right _ (mem_pinsAt hb e)))).1, fun b hb => ?_, w7⟩
      obtain ⟨o, e, d⟩ := T.obj _ _ st5 b hb
      exact (I7.pin (b, o) (List.mem_append_right _ (List.mem_append_right _ (mem_pinsAt hb e)))).2.1
    cases f with
    | next => obtain ⟨σ7, H7, I7, n7⟩ := q7; exact again I7 n7
    | cont => obtain ⟨σ7, H7, I7, n7⟩ := q7; exact again I7 n7
    | brk => obtain ⟨σ7, H7, I7, q7⟩ := q7; exact ⟨σ7, H7, I7.unpinned, q7⟩
    | ret v => obtain ⟨x7, σ7, H7, I7, r7, q7⟩ := q7; exact ⟨x7, σ7, H7, I7.unpinned, r7, q7⟩
end
end L2
namespace L2
open PySem PySem.Spec PyProof.Rows
noncomputable abbrev R2 := V → V → Hp → VK → Prop
noncomputable def OpR (X : Cx) (f : Value → Value → Sem Value) (r : R2) : Prop :=
  ∀ (pins : List (Addr × Obj)) (s : Shared) (σ : St) (H : Hp) (x y : V) (v u : Value) (Q : VK), Inv X pins σ H s → RelV x v → RelV y u → r x y H Q →
    wpAny (model X.prog X.w) X.A (f v u) (EP X pins σ Q) X.xe s
noncomputable def UnR (X : Cx) (f : Value → Sem Value) (r : V → Hp → VK → Prop) : Prop :=
  ∀ (pins : List (Addr × Obj)) (s : Shared) (σ : St) (H : Hp) (x : V) (v : Value) (Q : VK), Inv X pins σ H s → RelV x v → r x H Q →
    wpAny (model X.prog X.w) X.A (f v) (EP X pins σ Q) X.xe s
noncomputable def CallR (X : Cx) (f : Value) (r : List V → Hp → VK → Prop) : Prop :=
  ∀ (pins : List (Addr × Obj)) (s : Shared) (σ : St) (H : Hp) (xs : List V) (us : List Value) (Q : VK), Inv X pins σ H s → Vals xs us → r xs H Q →
    wpAny (model X.prog X.w) X.A (call f us) (EP X pins σ Q) X.xe s
noncomputable def tOp (r : R2) (ta tb : TE) : TE := fun σ H Q => ta σ H fun x H1 => tb σ H1 fun y H2 => r x y H2 Q
noncomputable def tUn (r : V → Hp → VK → Prop) (ta : TE) : TE := fun σ H Q => ta σ H fun x H1 => r x H1 Q
noncomputable def rI (C : Int → Int → Prop) (g : Int → Int → V) : R2 := fun x y H Q => ∃ i j, x = .int i ∧ y = .int j ∧ C i j ∧ Q (g i j) H
noncomputable def rI0 (g : Int → Int → V) : R2 := fun x y H Q => ∃ i j, x = .int i ∧ y = .int j ∧ Q (g i j) H
noncomputable def rU (g : Int → V) : V → Hp → VK → Prop := fun x H Q => ∃ i, x = .int i ∧ Q (g i) H
section
variable {X : Cx} {a b c : Expr} {ta tb tc : TE} {pos : Pos}
theorem binT (ha : PE X a ta) (hb : PE X b tb) {pins : List (Addr × Obj)} {s : Shared} {σ : St} {H : Hp} {R : V → V → Hp → Prop} (I : Inv X pins σ H s)
    (h : ta σ H fun x H1 => tb σ H1 fun y H2 => R x y H2) {Q : Value → Shared → Prop} {f : Value → Value → Sem Value}
    (hf : ∀ v u s2 x y H2, Inv X pins σ H2 s2 → RelV x v → RelV y u → R x y H2 → wpAny (model X.prog X.w) X.A (f v u) Q X.xe s2) :
    wpAny (model X.prog X.w) X.A (eval a X.env) (fun v s₁ => wpAny (model X.prog X.w) X.A (eval b X.env) (fun u s₂ => wpAny (model X.prog X.w) X.A (f v u) Q X.xe s₂) X.xe s₁) X.xe s := by
  refine thn (ha pins s σ H _ I h) fun v s1 ⟨x, H1, I1, r1, q1⟩ => ?_
  refine thn (hb pins s1 σ H1 _ I1 q1) fun u s2 ⟨y, H2, I2, r2, q2⟩ => ?_
  exact hf v u s2 x y H2 I2 r1 r2 q2
theorem pe_op {op : Operator} {r : R2} (ho : OpR X (binaryOp op) r) (ha : PE X a ta) (hb : PE X b tb) : PE X (.BinOp a op b pos) (tOp r ta tb) := by
  intro pins s σ H Q I h
  exact wpAny_BinOp (binT ha hb I h fun v u s2 x y H2 I2 rx ry q => ho pins s2 σ H2 x y v u Q I2 rx ry q)
theorem pe_un {op : UnaryOp} {r : V → Hp → VK → Prop} (ho : UnR X (unaryOp op) r) (ha : PE X a ta) : PE X (.UnaryOp op a pos) (tUn r ta) := by
  intro pins s σ H Q I h
  exact UnaryOp_ (thn (ha pins s σ H _ I h) fun v s1 ⟨x, H1, I1, r1, q1⟩ => ho pins s1 σ H1 x v Q I1 r1 q1)
theorem opI {f : Value → Value → Sem Value} {C : Int → Int → Prop} {g : Int → Int → Int}
    (rule : ∀ (i j : Int) (t u : Tok) (s : Shared) (Q : Value → Shared → Prop) (E : Value → Shared → Prop), C i j → Q (.int (g i j) s.toks) { s with toks := s.toks + 1 } → wpAny (model X.prog X.w) X.A (f (.int i t) (.int j u)) Q E s) :
    OpR X f (rI C fun i j => .int (g i j)) := by
  intro pins s σ H x y v u Q I rx ry h
  obtain ⟨i, j, rfl, rfl, hc, q⟩ := h
  obtain ⟨t, rfl⟩ := rx
  obtain ⟨t', rfl⟩ := ry
  exact rule i j t t' s _ _ hc ⟨.int (g i j), H, I.tok _, ⟨_, rfl⟩, q⟩
theorem opI0 {f : Value → Value → Sem Value} {g : Int → Int → Int}
    (rule : ∀ (i j : Int) (t u : Tok) (s : Shared) (Q : Value → Shared → Prop) (E : Value → Shared → Prop), Q (.int (g i j) s.toks) { s with toks := s.toks + 1 } → wpAny (model X.prog X.w) X.A (f (.int i t) (.int j u)) Q E s) :
    OpR X f (rI0 fun i j => .int (g i j)) := by
  intro pins s σ H x y v u Q I rx ry h
  obtain ⟨i, j, rfl, rfl, q⟩ := h
  obtain ⟨t, rfl⟩ := rx
  obtain ⟨t', rfl⟩ := ry
  exact rule i j t t' s _ _ ⟨.int (g i j), H, I.tok _, ⟨_, rfl⟩, q⟩
theorem opB0 {f : Value → Value → Sem Value} {g : Int → Int → Bool}
    (rule : ∀ (i j : Int) (t u : Tok) (s : Shared) (Q : Value → Shared → Prop) (E : Value → Shared → Prop), Q (.bool (g i j)) s → wpAny (model X.prog X.w) X.A (f (.int i t) (.int j u)) Q E s) :
    OpR X f (rI0 fun i j => .bl (g i j)) := by
  intro pins s σ H x y v u Q I rx ry h
  obtain ⟨i, j, rfl, rfl, q⟩ := h
  obtain ⟨t, rfl⟩ := rx
  obtain ⟨t', rfl⟩ := ry
  exact rule i j t t' s _ _ ⟨.bl (g i j), H, I, rfl, q⟩
noncomputable def CDiv (i j : Int) : Prop := 0 < j ∧ j < 1073741824
noncomputable def CPow (i j : Int) : Prop := 0 ≤ j ∧ j ≤ 1000000 ∧ i.natAbs < 2 ^ 64
noncomputable def CMul (i j : Int) : Prop := (-(2 ^ 64) < i ∧ i < 2 ^ 64) ∨ (-(2 ^ 64) < j ∧ j < 2 ^ 64)
theorem CMul.ok {i j : Int} (h : CMul i j) : IntMulOk i j := by
  rcases h with ⟨h1, h2⟩ | ⟨h1, h2⟩
  · exact .of_left (intBits_le_64 h1 h2)
  · exact .of_right (intBits_le_64 h1 h2)
theorem op_add : OpR X (binaryOp .Add) (rI0 fun i j => .int (i + j)) := opI0 fun _ _ _ _ _ _ _ q => add_int q
theorem op_sub : OpR X (binaryOp .Sub) (rI0 fun i j => .int (i - j)) := opI0 fun _ _ _ _ _ _ _ q => sub_int q
theorem op_mul : OpR X (binaryOp .Mult) (rI CMul fun i j => .int (i * j)) := opI fun _ _ _ _ _ _ _ hc q => mul_int q hc.ok
theorem op_fdiv : OpR X (binaryOp .FloorDiv) (rI CDiv fun i j => .int (i / j)) := opI fun i j _ _ _ _ _ hc q => by
  have h1 : (0 : Int) < j := hc.1
  have h2 : j < 1073741824 := hc.2
  exact floordiv_int (by omega) (by rw [Int.fdiv_eq_ediv_of_nonneg i (by omega)]; exact q) (.inl (PyProof.noPylong_small (by omega)))
theorem op_mod : OpR X (binaryOp .Mod) (rI (fun _ j => 0 < j) fun i j => .int (i % j)) := opI fun i j _ _ _ _ _ hc q => by
  have h1 : (0 : Int) < j := hc
  exact mod_int' (by omega) (by rw [Int.fmod_eq_emod_of_nonneg i (by omega)]; exact q)
theorem op_pow : OpR X (binaryOp .Pow) (rI CPow fun i j => .int (i ^ j.toNat)) := opI fun _ _ _ _ _ _ _ hc q => pow_int_small hc.1 hc.2.1 hc.2.2 q
theorem unI {f : Value → Sem Value} {g : Int → Int}
    (rule : ∀ (i : Int) (t : Tok) (s : Shared) (Q : Value → Shared → Prop) (E : Value → Shared → Prop), Q (.int (g i) s.toks) { s with toks := s.toks + 1 } → wpAny (model X.prog X.w) X.A (f (.int i t)) Q E s) :
    UnR X f (rU fun i => .int (g i)) := by
  intro pins s σ H x v Q I rx h
  obtain ⟨i, rfl, q⟩ := h
  obtain ⟨t, rfl⟩ := rx
  exact rule i t s _ _ ⟨.int (g i), H, I.tok _, ⟨_, rfl⟩, q⟩
theorem un_neg : UnR X (unaryOp .USub) (rU fun i => .int (-i)) := unI fun _ _ _ _ _ q => neg_int q
end
section
variable {X : Cx} {a b c : Expr} {ta tb tc : TE} {pos : Pos}
theorem op_lt : OpR X (compareOp .Lt) (rI0 fun i j => .bl (decide (i < j))) := opB0 fun _ _ _ _ _ _ _ q => lt_int q
theorem op_le : OpR X (compareOp .LtE) (rI0 fun i j => .bl (decide (i ≤ j))) := opB0 fun _ _ _ _ _ _ _ q => le_int q
theorem op_gt : OpR X (compareOp .Gt) (rI0 fun i j => .bl (decide (j < i))) := opB0 fun _ _ _ _ _ _ _ q => gt_int q
theorem op_ge : OpR X (compareOp .GtE) (rI0 fun i j => .bl (decide (j ≤ i))) := opB0 fun _ _ _ _ _ _ _ q => ge_int q
theorem OpR.or {f : Value → Value → Sem Value} {r r' : R2} (h : OpR X f r) (h' : OpR X f r') : OpR X f (fun x y H Q => r x y H Q ∨ r' x y H Q) := by
  intro pins s σ H x y v u Q I rx ry q
  rcases q with q | q
  · exact h pins s σ H x y v u Q I rx ry q
  · exact h' pins s σ H x y v u Q I rx ry q
theorem nomark (b : Expr) {op : CmpOp} (h : op ≠ .In := by decide) (h2 : op ≠ .NotIn := by decide) : behindInMarks op b = false := by
  have e1 : (op == CmpOp.In) = false := by cases op <;> first | rfl | exact absurd rfl h
  have e2 : (op == CmpOp.NotIn) = false := by cases op <;> first | rfl | exact absurd rfl h2
  cases b <;> simp [behindInMarks, e1, e2]
theorem pe_cmpR {op : CmpOp} {r : R2} (ho : OpR X (compareOp op) r) (ha : PE X a ta) (hb : PE X b tb) (hm : behindInMarks op b = false) : PE X (.Compare a [op] [b] pos) (tOp r ta tb) := by
  intro pins s σ H Q I h
  exact wpAny_Compare1 (binT ha hb I h fun v u s2 x y H2 I2 rx ry q => ho pins s2 σ H2 x y v u Q I2 rx ry q) hm
noncomputable def tTest (t : TE) : TT := fun σ H Q => t σ H fun x H' => ∃ k, x = .bl k ∧ Q k H'
theorem pt_cmpR {op : CmpOp} {r : R2} (ho : OpR X (compareOp op) r) (ha : PE X a ta) (hb : PE X b tb) (hm : behindInMarks op b = false) : PT X (.Compare a [op] [b] pos) (tTest (tOp r ta tb)) := by
  intro pins s σ H Q I h
  refine wpAny_isTrue_Compare1 (thn (ha pins s σ H _ I h) fun v s1 ⟨x, H1, I1, r1, q1⟩ => thn (hb pins s1 σ H1 _ I1 q1) fun u s2 ⟨y, H2, I2, r2, q2⟩ =>
    thn (ho pins s2 σ H2 x y v u _ I2 r1 r2 q2) fun c s3 ⟨z, H3, I3, r3, k, e, q3⟩ => ?_) hm
  subst e
  cases r3
  exact wpAny_truthy_bool ⟨H3, I3, q3⟩
noncomputable def tChain (r r' : R2) (ta tb tc : TE) : TE := fun σ H Q => ta σ H fun x H1 => tb σ H1 fun y H2 => r x y H2 fun z H3 => ∃ k, z = .bl k ∧
  (if k = true then tc σ H3 fun w' H4 => r' y w' H4 Q else Q (.bl false) H3)
theorem pe_chain {op op' : CmpOp} {r r' : R2} (ho : OpR X (compareOp op) r) (ho' : OpR X (compareOp op') r') (ha : PE X a ta) (hb : PE X b tb) (hc : PE X c tc)
    (hm : lastMarks [op, op'] [b, c] = false := by with_unfolding_all rfl) : PE X (.Compare a [op, op'] [b, c] pos) (tChain r r' ta tb tc) := by
  intro pins s σ H Q I h
  refine Compare_chain (thn (ha pins s σ H _ I h) fun v s1 ⟨x, H1, I1, r1, q1⟩ => chain_link (thn (hb pins s1 σ H1 _ I1 q1) fun u s2 ⟨y, H2, I2, r2, q2⟩ =>
    thn (ho pins s2 σ H2 x y v u _ I2 r1 r2 q2) fun d s3 ⟨z, H3, I3, r3, k, e, q3⟩ => ?_)) hm
  subst e
  cases r3
  refine wpAny_truthy_bool ?_
  cases k with
  | false => exact ite_ff ⟨.bl false, H3, I3, rfl, q3⟩
  | true => exact ite_tt (chain_last (thn (hc pins s3 σ H3 _ I3 q3) fun w' s4 ⟨z', H4, I4, r4, q4⟩ => ho' pins s4 σ H4 y z' u w' Q I4 r2 r4 q4))
theorem line63 : (sizeLine : Nat) < 2 ^ 63 := by rw [sizeLine_eq]; decide
theorem vals1 {x : V} {us : List Value} (r : Vals [x] us) : ∃ u, us = [u] ∧ RelV x u := by
  cases r with
  | cons r1 r2 => cases r2; exact ⟨_, rfl, r1⟩
theorem vals2 {x y : V} {us : List Value} (r : Vals [x, y] us) : ∃ u w', us = [u, w'] ∧ RelV x u ∧ RelV y w' := by
  cases r with
  | cons r1 r2 =>
    cases r2 with
    | cons r3 r4 => cases r4; exact ⟨_, _, rfl, r1, r3⟩
theorem call_max2 (hc : X.calm = true) : CallR X (.builtin "max") (fun xs H Q => ∃ i j, xs = [.int i, .int j] ∧ Q (.int (if j > i then j else i)) H) := by
  intro pins s σ H xs us Q I r h
  obtain ⟨i, j, rfl, q⟩ := h
  obtain ⟨u, w', rfl, ⟨t, rfl⟩, ⟨t', rfl⟩⟩ := vals2 r
  refine max_two_ints (I.ok.hd hc) fun h' tk k => ⟨_, H, I.kept k, ?_, q⟩
  by_cases hj : j > i
  · rw [if_pos hj, if_pos hj]; exact ⟨_, rfl⟩
  · rw [if_neg hj, if_neg hj]; exact ⟨_, rfl⟩
theorem call_min2 (hc : X.calm = true) : CallR X (.builtin "min") (fun xs H Q => ∃ i j, xs = [.int i, .int j] ∧ Q (.int (if j < i then j else i)) H) := by
  intro pins s σ H xs us Q I r h
  obtain ⟨i, j, rfl, q⟩ := h
  obtain ⟨u, w', rfl, ⟨t, rfl⟩, ⟨t', rfl⟩⟩ := vals2 r
  refine min_two_ints (I.ok.hd hc) fun h' tk k => ⟨_, H, I.kept k, ?_, q⟩
  by_cases hj : j < i
  · rw [if_pos hj, if_pos hj]; exact ⟨_, rfl⟩
  · rw [if_neg hj, if_neg hj]; exact ⟨_, rfl⟩
end
end L2
namespace L2
open PySem PySem.Spec PyProof.Rows
structure ObjM (h : Heap) (x dx C : Addr) (mA : Str → Option Value) : Prop where
  obj : h.get? x = some (PySem.W.instObj C dx)
  ns : h.Ns1 dx mA
  ne : dx ≠ x
section
variable {prog : Program} {w : World} {A : Around} {E : Value → Shared → Prop} {s : Shared} {K : PySem.W.Frag} {x dx C f : Addr} {mA : Str → Option Value} {name : Str} {v : Value}
end
section
variable {P : Program} {w : World} {H H' : Hp} {h h' : Heap} {a C dx : Addr} {fs fs' : List (Str × V)}
end
structure Cls (K : PySem.W.Frag) (C : Addr) : Prop where
  pg : PySem.W.plainGet K C Str.empty = true
  hd : PySem.W.hasDictIn K C = true
  po : PySem.W.plainOver K C = true
  sa : PySem.W.findIn K (.ref C) "__setattr__" = some (some (.builtin "object.__setattr__"))
theorem Cls.get {K : PySem.W.Frag} {C : Addr} (c : Cls K C) (f : Str) : PySem.W.plainGet K C f = true := c.pg
structure Con (K : PySem.W.Frag) (C : Addr) (f : Str) (v : V) (u : Value) : Prop where
  at_ : PySem.W.findIn K (.ref C) f = some (some u)
  rel : RelV v u
  get : PySem.W.specialIn K u "__get__" = some none
  cp : PySem.W.copiedNames.contains f = false
structure Meth (K : PySem.W.Frag) (C : Addr) (m : Str) (f : Addr) : Prop where
  at_ : PySem.W.findIn K (.ref C) m = some (some (.ref f))
  fn : PySem.W.isFn K (.ref f) = true
  kp : PySem.W.keepIn K (.ref f) = true
section
variable {X : Cx} {pins : List (Addr × Obj)} {σ : St} {H : Hp} {s : Shared} {a C dx : Addr} {fs : List (Str × V)} {f : Str} {v : V} {A : Around} {E : Value → Shared → Prop}
theorem Inv.made (I : Inv X pins σ H s) : Inv X pins σ (upd (upd H s.heap.objs.size (.own (s.heap.objs.size + 1))) (s.heap.objs.size + 1) (.ins C s.heap.objs.size []))
    { s with heap := (s.heap.push PySem.W.emptyDict).push (PySem.W.instObj C s.heap.objs.size) } := by
  have e1 : (s.heap.push PySem.W.emptyDict).get? s.heap.objs.size = some PySem.W.emptyDict := Heap.get?_push_size s.heap rfl
  have e2 : ((s.heap.push PySem.W.emptyDict).push (PySem.W.instObj C s.heap.objs.size)).get? (s.heap.objs.size + 1) = some (PySem.W.instObj C s.heap.objs.size) := by
    have := Heap.get?_push_size (s.heap.push PySem.W.emptyDict) (o := PySem.W.instObj C s.heap.objs.size) rfl
    rwa [Heap.size_push] at this
  have e3 : (s.heap.push PySem.W.emptyDict).Ns s.heap.objs.size (fun _ => none) := ⟨PySem.W.emptyDict, #[], _, e1, rfl, (fun e he => absurd he (by simp)), fun _ => rfl⟩
  have I1 := I.laid (a := s.heap.objs.size) (o := .own (s.heap.objs.size + 1)) (h' := s.heap.push PySem.W.emptyDict) (t' := s.toks) (fun b u q => Heap.get?_push_of_some _ q) (Nat.le_refl _) ⟨_, e1⟩
  refine I1.laid (a := s.heap.objs.size + 1) (o := .ins C s.heap.objs.size []) (t' := s.toks) (fun b u q => Heap.get?_push_of_some _ q) (Nat.le_of_eq (Heap.size_push _ _)) ?_
  have ne : s.heap.objs.size ≠ s.heap.objs.size + 1 := Nat.ne_of_lt (Nat.lt_succ_self _)
  refine ⟨by rw [upd_ne ne, upd_same], Nat.zero_le _, ne, e2, fun _ => none, (Heap.Ns1.of_empty e3).at fun o q => Heap.get?_push_of_some _ q, fun _ => True.intro, fun y hy => absurd rfl hy⟩
end
section
variable {X : Cx} {o e value : Expr} {f : Str} {pos pos' tpos : Pos} {ta tv : TE}
end
section
variable {X : Cx} {pins : List (Addr × Obj)} {σ : St} {H : Hp} {s : Shared} {A : Around} {E : Value → Shared → Prop} {Q : Value → Shared → Prop} {c : Value} {b : Bool}
inductive TyOf (K : PySem.W.Frag) (H : Hp) : V → Value → Prop where
  | non : TyOf K H .non (.type "NoneType")
  | bl (x : Bool) : TyOf K H (.bl x) (.type "bool")
  | int (i : Int) : TyOf K H (.int i) (.type "int")
  | str (x : Str) : TyOf K H (.str x) (.type "str")
  | flt (x : UInt64) : TyOf K H (.flt x) (.type "float")
  | lst {a : Addr} {xs : List V} (e : H a = some (.lst xs)) : TyOf K H (.ref a) (.type "list")
  | frz {a : Addr} {o : Obj} {xs : List V} (e : H a = some (.frz o (.lst xs))) : TyOf K H (.ref a) (.type "list")
  | tup {a : Addr} {xs : List V} (e : H a = some (.tup xs)) : TyOf K H (.ref a) (.type "tuple")
  | dK {a : Addr} {kvs : List (Key × V)} (e : H a = some (.dK kvs)) : TyOf K H (.ref a) (.type "dict")
  | dT {a : Addr} {kvs : List (List Key × V)} (e : H a = some (.dT kvs)) : TyOf K H (.ref a) (.type "dict")
  | ins {a C dx : Addr} {fs : List (Str × V)} (e : H a = some (.ins C dx fs)) (cl : Cls K C) (ha : PySem.W.findIn K (.ref C) "__class__" = some (some (.builtin "object.__class__")))
      (hn : PySem.W.specialIn K (.builtin "object.__class__") "__get__" = some (some (.builtin "getset_descriptor.__get__"))) (htk : PySem.W.takesIn K (.builtin "object.__class__") = some true)
      (hm : PySem.W.mroIn K C (.type "object") = some true) : TyOf K H (.ref a) (.ref C)
end
end L2
namespace L2
open PySem PySem.Spec PyProof.Rows
structure Room (k : Nat) (A : Around) : Prop where
  hd : A.handled = none
  dp : A.depth + 3 * k + 5 < recursionLimit
  un : A.units + 16 * k + 200 < cLine
theorem Room.mono {j k : Nat} {A : Around} (r : Room k A) (h : j ≤ k) : Room j A := ⟨r.hd, by have := r.dp; omega, by have := r.un; omega⟩
theorem Room.deeper {k : Nat} {A : Around} (r : Room (k + 1) A) (env : Env) : Room k (A.deeper env) :=
  ⟨r.hd, by have := r.dp; show A.depth + 1 + 3 * k + 5 < _; omega, by have := r.un; show A.units + 3 + 16 * k + 200 < _; omega⟩
theorem Room.in1 {k : Nat} {A : Around} (r : Room (k + 1) A) : Room k A.in1 :=
  ⟨r.hd, by have := r.dp; show A.depth + 3 * k + 5 < _; omega, by have := r.un; show A.units + 1 + 16 * k + 200 < _; omega⟩
theorem Room.depth {k : Nat} {A : Around} (r : Room k A) : A.depth < recursionLimit := by have := r.dp; omega
theorem Room.units {k : Nat} {A : Around} (r : Room k A) : A.units + 64 < cLine := by have := r.un; omega
noncomputable def tNil : TA := fun _ H Q => Q [] H
noncomputable def tCons (ta : TE) (tr : TA) : TA := fun σ H Q => ta σ H fun x H1 => tr σ H1 fun xs H2 => Q (x :: xs) H2
section
variable {X : Cx} {e : Expr} {es : List Expr} {te : TE} {t : TA} {pos : Pos}
theorem pa_nil : PA X [] tNil := fun _ _ _ _ H Q I h => Calls.spliced_nil ⟨[], H, I, .nil, h⟩
theorem pa_cons (ha : PE X e te) (hr : PA X es t) (hs : starEach (e :: es) X.env = (false, eval e X.env) :: starEach es X.env := by rfl) : PA X (e :: es) (tCons te t) := by
  intro pos pins s σ H Q I h
  rw [hs]
  show wpAny _ _ (spliced ((false, eval e X.env) :: backTo pos (starEach es X.env))) _ _ s
  refine Calls.spliced_cons (thn (ha pins s σ H _ I h) fun u s1 ⟨x, H1, I1, r1, q1⟩ => ?_)
  exact thn (hr pos pins s1 σ H1 _ I1 q1) fun us s2 ⟨xs, H2, I2, r2, q2⟩ => ⟨x :: xs, H2, I2, .cons r1 r2, q2⟩
noncomputable def tTup (t : TA) : TE := fun σ H Q => t σ H fun xs H1 => xs.length ≤ sizeLine ∧ ∀ p, H1 p = none → Q (.ref p) (upd H1 p (.tup xs))
noncomputable def tLst (t : TA) : TE := fun σ H Q => t σ H fun xs H1 => xs.length ≤ sizeLine ∧ ∀ p, H1 p = none → Q (.ref p) (upd H1 p (.lst xs))
theorem pe_tup {x1} (h : PA X es t) : PE X (.Tuple es x1 pos) (tTup t) := by
  intro pins s σ H Q I hq
  refine wpAny_Tuple_spliced (thn (h pos pins s σ H _ I hq) fun us s1 ⟨xs, H1, I1, r, z, q⟩ => ⟨by rw [← r.length]; exact z, ?_⟩)
  have hf : H1 s1.heap.objs.size = none := I1.hok.fresh (Nat.le_refl _)
  refine ⟨.ref s1.heap.objs.size, upd H1 s1.heap.objs.size (.tup xs), I1.laid (t' := s1.toks) (fun b u e => Heap.get?_push_of_some _ e) (Nat.le_refl _) ?_, rfl, q _ hf⟩
  exact ⟨z, us, r, ⟨_, Heap.get?_push_size _ rfl⟩⟩
theorem pe_lst (h : PA X es t) : PE X (.List es pos) (tLst t) := by
  intro pins s σ H Q I hq
  refine wpAny_List_spliced (thn (h pos pins s σ H _ I hq) fun us s1 ⟨xs, H1, I1, r, z, q⟩ => ⟨by rw [← r.length]; exact z, ?_⟩)
  have hf : H1 s1.heap.objs.size = none := I1.hok.fresh (Nat.le_refl _)
  refine ⟨.ref s1.heap.objs.size, upd H1 s1.heap.objs.size (.lst xs), I1.laid (t' := s1.toks) (fun b u e => Heap.get?_push_of_some _ e) (Nat.le_refl _) ?_, rfl, q _ hf⟩
  exact ⟨z, us, 0, r, Heap.get?_push_size _ rfl⟩
end
noncomputable abbrev Sp := List V → Hp → VK → XK → Prop
noncomputable abbrev CXT := List Env → Hp → Shared → XK → Value → Shared → Prop
structure Env0 (P : Program) (w : World) (K : PySem.W.Frag) (mg : Str → Option Value) (base : Heap) (A : Around) (outer : List Env) (s : Shared) (H : Hp) : Prop where
  frames : A.frames = some outer
  mod : Mod K mg base
  bs : ∀ b o, base.get? b = some o → s.heap.get? b = some o ∧ H b = none
  bsz : base.objs.size ≤ s.heap.objs.size
  funs : s.heap.FunFrames base outer
  frf : ∀ b ∈ frs outer, H b = none
  hok : HOk P w H s.heap
  bare : AllBare s.gens
noncomputable def CE (outer : List Env) (P : Program) (w : World) (H : Hp) (s : Shared) (Q : VK) (u : Value) (s' : Shared) : Prop :=
  ∃ v H', s'.os = s.os ∧ AllBare s'.gens ∧ Un (frs outer) [] H H' s.heap s'.heap ∧ HOk P w H' s'.heap ∧ RelV v u ∧ Q v H'
noncomputable def CR (CX : CXT) (outer : List Env) (P : Program) (w : World) (H : Hp) (s : Shared) (Q : VK) (E : XK) (r : Result) (s' : Shared) : Prop :=
  match r with
  | .ok (.ret u) => CE outer P w H s Q u s'
  | .ok _ => False
  | .error e => CX outer H s E e s'
structure FnOk (P : Program) (w : World) (K : PySem.W.Frag) (mg : Str → Option Value) (base : Heap) (CX : CXT) (k : Nat) (f : Addr) (fd : FuncData) (ps : List Str) (sp : Sp) : Prop where
  len : ∀ vs H Q E, sp vs H Q E → vs.length = ps.length
  run : ∀ (A : Around) (outer : List Env) (s : Shared) (H : Hp) (args : Args) (us : List Value) (vs : List V) (Q : VK) (E : XK), Room k A → Env0 P w K mg base A outer s H → BindsTo s fd args (ps.zip us) → Vals vs us → sp vs H Q E →
    codeAny (model P w) A (.call (.ref f) args) (CR CX outer P w H s Q E) s
theorem FnOk.mono {P : Program} {w : World} {K : PySem.W.Frag} {mg : Str → Option Value} {base : Heap} {CX : CXT} {j k : Nat} {f : Addr} {fd : FuncData} {ps : List Str} {sp : Sp} (F : FnOk P w K mg base CX j f fd ps sp) (h : j ≤ k) :
    FnOk P w K mg base CX k f fd ps sp := ⟨F.len, fun A outer s H args us vs Q E hr => F.run A outer s H args us vs Q E (hr.mono h)⟩
theorem FnOk.imp {P : Program} {w : World} {K : PySem.W.Frag} {mg : Str → Option Value} {base : Heap} {CX : CXT} {k : Nat} {f : Addr} {fd : FuncData} {ps : List Str} {sp sp' : Sp} (F : FnOk P w K mg base CX k f fd ps sp)
    (h : ∀ vs H Q E, sp' vs H Q E → sp vs H Q E) : FnOk P w K mg base CX k f fd ps sp' :=
  ⟨fun vs H Q E q => F.len vs H Q E (h _ _ _ _ q), fun A outer s H args us vs Q E hr he hb hv hs => F.run A outer s H args us vs Q E hr he hb hv (h _ _ _ _ hs)⟩
theorem Env0.in1 {P : Program} {w : World} {K : PySem.W.Frag} {mg : Str → Option Value} {base : Heap} {A : Around} {outer : List Env} {s : Shared} {H : Hp} (e : Env0 P w K mg base A outer s H) :
    Env0 P w K mg base A.in1 outer s H := ⟨e.frames, e.mod, e.bs, e.bsz, e.funs, e.frf, e.hok, e.bare⟩
section
variable {X : Cx} {pins : List (Addr × Obj)} {σ : St} {H : Hp} {s s' : Shared}
theorem Inv.env0 (I : Inv X pins σ H s) : Env0 X.prog X.w X.K X.mg X.base X.A X.stack s H :=
  ⟨I.ok.frames, I.ok.mod, I.bs, Nat.le_trans I.ok.bsz I.sz, I.stack, I.stkFree, I.hok, I.bare⟩
theorem Inv.after {Q : VK} {u : Value} (I : Inv X pins σ H s) (h : CE X.stack X.prog X.w H s Q u s') : EP X pins σ Q u s' := by
  obtain ⟨v, H', os, bare, un, hok, r, q⟩ := h
  obtain ⟨hh, g, d, t, os'⟩ := s'
  obtain rfl : os' = s.os := os
  exact ⟨v, H', I.call (h' := hh) (g' := g) (d' := d) (t' := t) (ch := []) un hok bare (fun b z => absurd z (by simp)), r, q⟩
end
noncomputable def tCall (sp : Sp) (dvs : List V) (E : XK) (t : TA) : TE := fun σ H Q => t σ H fun vs H1 => sp (vs ++ dvs) H1 Q E
noncomputable def Binds (K : PySem.W.Frag) (fd : FuncData) (ps : List Str) (ds : List Value) : Prop :=
  ∀ (s : Shared) (us : List Value), K.In s.heap → (us ++ ds).length = ps.length → BindsTo s fd ⟨us, []⟩ (ps.zip (us ++ ds))
theorem Binds.all {K : PySem.W.Frag} {fd : FuncData} {ps : List Str} (h : ∀ us : List Value, us.length = ps.length → bindArgs fd ⟨us, []⟩ = pure (ps.zip us)) : Binds K fd ps [] := fun s us _ hl => by
  rw [List.append_nil] at hl ⊢
  exact .of_eq (h us hl)
noncomputable def Passes (CX : CXT) (X : Cx) (E : XK) : Prop := ∀ (pins : List (Addr × Obj)) (σ : St) (H : Hp) (s : Shared) (e : Value) (s' : Shared), Inv X pins σ H s → CX X.stack H s E e s' → X.xe e s'
section
variable {X : Cx} {CX : CXT} {k : Nat} {f C : Addr} {fd : FuncData} {ps : List Str} {sp : Sp} {dvs : List V} {ds : List Value} {E : XK} {x m : Str} {p pos apos : Pos} {e o : Expr} {es : List Expr} {ta : TE} {t : TA}
theorem run_fn {pins : List (Addr × Obj)} {σ : St} {H : Hp} {s : Shared} {Q : VK} {us : List Value} {vs : List V} (F : FnOk X.prog X.w X.K X.mg X.base CX k f fd ps sp) (hr : Room k X.A) (hb : Binds X.K fd ps ds) (hd : Vals dvs ds) (hx : Passes CX X E)
    (I : Inv X pins σ H s) (r : Vals vs us) (h : sp (vs ++ dvs) H Q E) : wpAny (model X.prog X.w) X.A (call (.ref f) us) (EP X pins σ Q) X.xe s := by
  have r2 : Vals (vs ++ dvs) (us ++ ds) := r.append hd
  have hl : (us ++ ds).length = ps.length := by rw [← r2.length]; exact F.len _ _ _ _ h
  refine wpAny_call (codeAny_mono (F.run X.A X.stack s H ⟨us, []⟩ (us ++ ds) (vs ++ dvs) Q E hr I.env0 (hb s us I.kIn hl) r2 h) fun r s' hq => ?_)
  cases r with
  | error e => exact hx pins σ H s e s' I hq
  | ok fl =>
    cases fl with
    | ret u => exact I.after hq
    | next => exact False.elim hq
    | brk => exact False.elim hq
    | cont => exact False.elim hq
theorem pe_call (F : FnOk X.prog X.w X.K X.mg X.base CX k f fd ps sp) (hr : Room k X.A) (hg : Gl X x) (hm : X.mg x = some (.ref f)) (hk : PySem.W.keepIn X.K (.ref f) = true) (hb : Binds X.K fd ps ds) (hd : Vals dvs ds) (hx : Passes CX X E)
    (ha : PA X (e :: es) t) (hdb : (x == ("__debug__" : Str)) = false := by decide) (he : starEach (e :: es) X.env = (false, eval e X.env) :: starEach es X.env := by rfl) (hpl : (backTo pos (starEach es X.env)).any (·.1) = false := by rfl) :
    PE X (.Call (.Name x p) (e :: es) [] pos) (tCall sp dvs E t) := by
  intro pins s σ H Q I h
  refine wpAny_Call_Name_kw (ld_glob I hg hm ?_ hdb)
  refine PySem.W.callWith_K (h₀ := X.base) I.ok.mod.kin hk (thn (ha pos pins s σ H _ I h) fun us s1 ⟨vs, H1, I1, r, q⟩ => ⟨I1.kIn, ?_⟩) he hpl
  exact run_fn F hr hb hd hx I1 r q
structure Mk (K : PySem.W.Frag) (C f : Addr) : Prop where
  makes : PySem.W.makesIn K C = true
  init : PySem.W.findIn K (.ref C) "__init__" = some (some (.ref f))
  fn : PySem.W.isFn K (.ref f) = true
  kp : PySem.W.keepIn K (.ref C) = true
end
section
variable {X : Cx} {CX : CXT} {k : Nat} {f C : Addr} {fd : FuncData} {ps ks : List Str} {sp : Sp} {E : XK} {x m : Str} {p pos apos kpos : Pos} {e o : Expr} {es : List Expr} {kws : List Keyword} {te ta : TE} {t tk : TA} {nm : Option Str}
structure KBinds (K : PySem.W.Frag) (fd : FuncData) (ps ks : List Str) (g : List Value → List Value → List Value) (gV : List V → List V → List V) : Prop where
  to : ∀ (s : Shared) (us ws : List Value), K.In s.heap → (g us ws).length = ps.length → BindsTo s fd ⟨us, ks.zip ws⟩ (ps.zip (g us ws))
  rel : ∀ {vs : List V} {us : List Value} {zs : List V} {ws : List Value}, Vals vs us → Vals zs ws → Vals (gV vs zs) (g us ws)
variable {g : List Value → List Value → List Value} {gV : List V → List V → List V}
end
structure FnScope (N P : List Str) (sc : Scope) : Prop where
  kind : sc.kind = .function
  co : sc.isCoroutine = false
  gen : sc.isGenerator = false
  nd : N.Nodup
  pre : N.take P.length = P
  par : ∀ x ∈ P, sc.names.lookup x = some .local ∨ sc.names.lookup x = some .cell
  nofree : ∀ y ∈ sc.names, y.2 ≠ .free
theorem bindL_out {kindOf : Str → Option NameKind} {x : Str} : ∀ {binds : List (Str × Value)} {m : Str → Option Value}, (∀ v, (x, v) ∉ binds) → bindL kindOf binds m x = m x
  | [], _, _ => rfl
  | (n, v) :: r, m, h => by
    unfold bindL
    rw [bindL_out fun w hw => h w (List.mem_cons_of_mem _ hw)]
    split
    · have : x ≠ n := by rintro rfl; exact h v List.mem_cons_self
      simp [this]
    · rfl
theorem bindC_out {kindOf : Str → Option NameKind} {x : Str} : ∀ {binds : List (Str × Value)} {m : Str → Option Value}, (∀ v, (x, v) ∉ binds) → bindC kindOf binds m x = m x
  | [], _, _ => rfl
  | (n, v) :: r, m, h => by
    unfold bindC
    rw [bindC_out fun w hw => h w (List.mem_cons_of_mem _ hw)]
    split
    · rfl
    · have : x ≠ n := by rintro rfl; exact h v List.mem_cons_self
      simp [this]
theorem bindL_get {kindOf : Str → Option NameKind} {x : Str} {v : Value} : ∀ {P : List Str} {vs : List Value} {i : Nat} {m : Str → Option Value}, P.Nodup → P[i]? = some x → vs[i]? = some v → kindOf x = some .local →
    bindL kindOf (P.zip vs) m x = some v
  | [], _, _, _, _, h, _, _ => by simp at h
  | _ :: _, [], _, _, _, _, h, _ => by simp at h
  | p :: P, w :: vs, 0, m, nd, h1, h2, hk => by
    simp at h1 h2; subst h1; subst h2
    show bindL kindOf ((p, w) :: P.zip vs) m p = _
    unfold bindL
    rw [bindL_out fun v hv => (List.nodup_cons.mp nd).1 (List.of_mem_zip hv).1, if_pos hk]
    simp
  | p :: P, w :: vs, i + 1, m, nd, h1, h2, hk => by
    show bindL kindOf ((p, w) :: P.zip vs) m x = _
    unfold bindL
    exact bindL_get (i := i) (List.nodup_cons.mp nd).2 (by simpa using h1) (by simpa using h2) hk
theorem bindC_get {kindOf : Str → Option NameKind} {x : Str} {v : Value} : ∀ {P : List Str} {vs : List Value} {i : Nat} {m : Str → Option Value}, P.Nodup → P[i]? = some x → vs[i]? = some v → kindOf x ≠ some .local →
    bindC kindOf (P.zip vs) m x = some v
  | [], _, _, _, _, h, _, _ => by simp at h
  | _ :: _, [], _, _, _, _, h, _ => by simp at h
  | p :: P, w :: vs, 0, m, nd, h1, h2, hk => by
    simp at h1 h2; subst h1; subst h2
    show bindC kindOf ((p, w) :: P.zip vs) m p = _
    unfold bindC
    rw [bindC_out fun v hv => (List.nodup_cons.mp nd).1 (List.of_mem_zip hv).1, if_neg hk]
    simp
  | p :: P, w :: vs, i + 1, m, nd, h1, h2, hk => by
    show bindC kindOf ((p, w) :: P.zip vs) m x = _
    unfold bindC
    exact bindC_get (i := i) (List.nodup_cons.mp nd).2 (by simpa using h1) (by simpa using h2) hk
noncomputable def start (N : List Str) (vs : List V) : St := vs.map some ++ List.replicate (N.length - vs.length) none
noncomputable def cxOf (CX : CXT) (P : Program) (w : World) (K : PySem.W.Frag) (mg : Str → Option Value) (base : Heap) (N : List Str) (qual : Str) (scope : Scope) (f : Addr) (cd : Value) (A : Around) (outer : List Env) (s : Shared) (H : Hp) (E : XK) : Cx where
  prog := P
  w := w
  K := K
  mg := mg
  base := base
  A := A.deeper (envOfC qual scope s.heap.objs.size f cd)
  N := N
  s₀ := s
  H₀ := H
  env := envOfC qual scope s.heap.objs.size f cd
  outer := outer
  stack := envOfC qual scope s.heap.objs.size f cd :: outer
  ex := []
  calm := true
  fn := fun _ => true
  pn := []
  xe := fun e s' => wpAny (model P w) (A.deeper (envOfC qual scope s.heap.objs.size f cd)) (leaving (envOfC qual scope s.heap.objs.size f cd) e) (fun _ s'' => CX outer H s E e s'') (fun e' s'' => CX outer H s E e' s'') s'
theorem cell_has {sc : Scope} {n : Nat} {x : Str} (h : sc.names.lookup x = some .cell) : ∃ c, (cellsFrom n sc.names []).lookup x = some c := by
  have q := PySem.W.cellsFrom_some sc.names n [] (.inl h)
  exact Option.isSome_iff_exists.mp q
theorem inv_start {CX : CXT} {P : Program} {w : World} {K : PySem.W.Frag} {mg : Str → Option Value} {base : Heap} {N ps : List Str} {qual : Str} {scope : Scope} {f : Addr} {cd : Value} {A : Around} {outer : List Env} {s s1 : Shared} {H : Hp} {E : XK} {us : List Value} {vs : List V}
    (S : FnScope N ps scope) (hd : A.handled = none) (e0 : Env0 P w K mg base A outer s H) (hl : vs.length = ps.length) (r : Vals vs us)
    (x : InCallC s s.heap.objs.size (bindL (envOfC qual scope s.heap.objs.size f cd).kindOf (ps.zip us) fun _ => none) (cellsFrom (s.heap.objs.size + 1) scope.names []) (bindC (envOfC qual scope s.heap.objs.size f cd).kindOf (ps.zip us) fun _ => none) s1) :
    Inv (cxOf CX P w K mg base N qual scope f cd A outer s H E) [] (start N vs) H s1 := by
  have hpl : ps.length ≤ N.length := by have := congrArg List.length S.pre; rw [List.length_take] at this; omega
  obtain ⟨h1, tk, rfl, hk⟩ := x.done
  have noA : ∀ b : Addr, b ∉ (cxOf CX P w K mg base N qual scope f cd A outer s H E).ex := fun b z => absurd (show b ∈ ([] : List Addr) from z) (by simp)
  refine ⟨⟨e0.mod, S.kind, rfl, rfl, Nat.le_refl _, fun y z c h1 h2 => ?_, fun y hy => ?_, fun y c _ h => ?_, fun _ => hd, Around.frames_deeper e0.frames, .inr ⟨rfl, rfl⟩, fun b z => absurd z (noA b), e0.bs, e0.bsz, fun b _ _ => noA b, fun b z => absurd z (noA b), e0.funs, e0.frf⟩,
    rfl, e0.bare, Un.kept hk, ⟨_, x.toInCall.ns, fun i y v h1 h2 h3 => ?_⟩, fun y c h => ⟨_, x.cell y c h⟩, e0.hok.fresh (Nat.le_refl _), fun y c h => ?_, fun p hp => absurd (show p ∈ ([] : List (Addr × Obj)) from hp) (by simp), e0.hok.kept hk, ?_⟩
  · exact name_of_addr x.apart (PySem.mem_of_lookup h1) (PySem.mem_of_lookup h2)
  · have hy : scope.names.lookup y = some .cell ∨ scope.names.lookup y = some .free := hy
    rcases hy with hy | hy
    · exact cell_has hy
    · exact absurd rfl (S.nofree _ (PySem.mem_of_lookup hy))
  · exact Nat.le_of_lt (x.above y c (PySem.mem_of_lookup h))
  · have hi : i < vs.length := by
      unfold start at h2
      by_cases hi : i < vs.length
      · exact hi
      · rw [List.getElem?_append_right (by simpa using hi)] at h2
        rw [List.getElem?_replicate] at h2
        split at h2 <;> cases h2
    have ha : vs[i]? = some v := by
      unfold start at h2
      rw [List.getElem?_append_left (by simpa using hi), List.getElem?_map] at h2
      cases e : vs[i]? with
      | none => rw [e] at h2; cases h2
      | some a => rw [e] at h2; cases h2; rfl
    obtain ⟨u, hu, rv⟩ := r.get ha
    have hp : ps[i]? = some y := by
      rw [← S.pre, List.getElem?_take_of_lt (by omega)]; exact h1
    have ndP : ps.Nodup := by rw [← S.pre]; exact S.nd.sublist (List.take_sublist _ _)
    refine ⟨u, rv, ?_⟩
    rcases S.par y (List.mem_of_getElem? hp) with k | k
    · exact .inl ⟨k, bindL_get ndP hp hu k⟩
    · obtain ⟨c, e⟩ := cell_has (n := s.heap.objs.size + 1) k
      refine .inr ⟨.inl k, c, e, ?_⟩
      have q := x.cell y c e
      rw [bindC_get ndP hp hu (by show scope.names.lookup y ≠ _; rw [k]; decide)] at q
      exact q
  · exact e0.hok.fresh (Nat.le_of_lt (x.above y c (PySem.mem_of_lookup h)))
  · unfold start
    show _ = N.length
    rw [List.length_append, List.length_map, List.length_replicate]
    omega
theorem fn_of {CX : CXT} {P : Program} {w : World} {K : PySem.W.Frag} {mg : Str → Option Value} {base : Heap} {k : Nat} {f : Addr} {name qual : Str} {params : Arguments} {body : List Stmt} {scope : Scope} {dV kV doc pm cdv ct oc : Value} {an od : Option Addr}
    {osl : Array (Option Value)} {N ps : List Str} {sp : Sp} (lk : K.lookup f = some ⟨oc, od, .func (PySem.W.fnOf name qual params body scope dV kV doc pm an cdv ct), osl⟩) (hcd : PySem.W.codeIn K cdv qual = true) (S : FnScope N ps scope)
    (len : ∀ vs H Q E, sp vs H Q E → vs.length = ps.length)
    (hbody : ∀ (A : Around) (outer : List Env) (s : Shared) (H : Hp) (vs : List V) (Q : VK) (E : XK), Room k (A.deeper (envOfC qual scope s.heap.objs.size f cdv)) → sp vs H Q E →
      ∃ t, PSs (cxOf CX P w K mg base N qual scope f cdv A outer s H E) body t ∧ t { nx := fun _ H' => Q .non H', rt := Q } (start N vs) H) :
    FnOk P w K mg base CX (k + 1) f (PySem.W.fnOf name qual params body scope dV kV doc pm an cdv ct) ps sp := by
  refine ⟨len, fun A outer s H args us vs Q E hr e0 hb r hsp => ?_⟩
  have hl := len _ _ _ _ hsp
  have KX : K.In s.heap := e0.mod.kin.keeps fun b o e => (e0.bs b o e).1
  have lim : s.heap.NoLimit := e0.mod.nolimit.keeps fun b o e => (e0.bs b o e).1
  have hkind : ∀ y ∈ ps.zip us, scope.names.lookup y.1 = some .local ∨ (scope.names.lookup y.1 = some .cell ∧ ((cellsFrom (s.heap.objs.size + 1) scope.names []).lookup y.1).isSome = true) := fun ⟨n, v⟩ hy => by
    rcases S.par n (List.of_mem_zip hy).1 with q | q
    · exact .inl q
    · exact .inr ⟨q, PySem.W.cellsFrom_some _ _ _ (.inl q)⟩
  refine codeAny_call_function hr.depth (KX _ _ lk) rfl S.co S.gen rfl (PySem.W.codeRec_of KX hcd) (hb _ _ _ _ ?_)
  refine wpAny_newFunctionEnv_cells S.kind hkind fun env he s1 x => ?_
  subst he
  refine ⟨lim.keeps x.toInCall.keep, codeAny_func ?_⟩
  obtain ⟨t, ht, hq⟩ := hbody A outer s H vs Q E (hr.deeper _) hsp
  have I : Inv (cxOf CX P w K mg base N qual scope f cdv A outer s H E) [] (start N vs) H s1 := inv_start S hr.hd e0 hl r x
  refine wpAny_mono (ht [] s1 (start N vs) H _ I hq) (fun fl s' hs => ?_) fun e s' hs => hs
  have fin : ∀ {σ' : St} {H' : Hp} {v : V} {u : Value}, Inv (cxOf CX P w K mg base N qual scope f cdv A outer s H E) [] σ' H' s' → RelV v u → Q v H' → CE outer P w H s Q u s' :=
    fun {σ' H' v u} J rv q => ⟨v, H', J.os, J.bare, J.base, J.hok, rv, q⟩
  cases fl with
  | ret u =>
    obtain ⟨v, σ', H', J, rv, q⟩ := hs
    exact fin J rv q
  | next =>
    obtain ⟨σ', H', J, q⟩ := hs
    exact fin (v := V.non) (u := Value.none) J rfl q
  | brk =>
    obtain ⟨_, _, _, q⟩ := hs
    exact False.elim q
  | cont =>
    obtain ⟨_, _, _, q⟩ := hs
    exact False.elim q
end L2
namespace L2
open PySem PySem.Spec PyProof.Rows
section
variable {X : Cx} {x : Str} {p pos : Pos} {e : Expr} {es : List Expr} {t : TA} {id T : String} {r : List V → Hp → VK → Prop}
noncomputable def tCB (r : List V → Hp → VK → Prop) (t : TA) : TE := fun σ H Q => t σ H fun vs H1 => r vs H1 Q
theorem pe_callB (hc : CallR X (.builtin id) r) (hg : Gl X x) (hm : X.mg x = none) (hv : bootBuiltins x = some (.builtin id)) (ha : PA X (e :: es) t) (hn : x ≠ "__name__" := by decide) (hdb : (x == ("__debug__" : Str)) = false := by decide)
    (he : starEach (e :: es) X.env = (false, eval e X.env) :: starEach es X.env := by rfl) (hpl : (backTo pos (starEach es X.env)).any (·.1) = false := by rfl) : PE X (.Call (.Name x p) (e :: es) [] pos) (tCB r t) := by
  intro pins s σ H Q I h
  refine wpAny_Call_Name_kw (ld_blt I hg hm hv ?_ hn hdb)
  exact PyProof.Rows.callWith_builtin1 (thn (ha pos pins s σ H _ I h) fun us s1 ⟨vs, H1, I1, r1, q1⟩ => hc pins s1 σ H1 vs us Q I1 r1 q1) he hpl
theorem pe_callTy (hc : CallR X (.type T) r) (hg : Gl X x) (hm : X.mg x = none) (hv : bootBuiltins x = some (.type T)) (ha : PA X (e :: es) t) (hn : x ≠ "__name__" := by decide) (hdb : (x == ("__debug__" : Str)) = false := by decide)
    (he : starEach (e :: es) X.env = (false, eval e X.env) :: starEach es X.env := by rfl) (hpl : (backTo pos (starEach es X.env)).any (·.1) = false := by rfl) : PE X (.Call (.Name x p) (e :: es) [] pos) (tCB r t) := by
  intro pins s σ H Q I h
  refine wpAny_Call_Name_kw (ld_blt I hg hm hv ?_ hn hdb)
  exact PyProof.Rows.callWith_type1 (thn (ha pos pins s σ H _ I h) fun us s1 ⟨vs, H1, I1, r1, q1⟩ => hc pins s1 σ H1 vs us Q I1 r1 q1) he hpl
end
end L2
namespace HT
open PySem PyProof.Rows
section
open PySem.SeqAt
open PySem.AutoSeq1 (wpAny_loadPart')
open PySem.MeetsSeq PySem.MeetsSeq2 PySem.MeetsSeq3
end
section
variable {prog : Program} {w : World} {A : Around} {E : Value → Shared → Prop} {s : Shared}
theorem cat_tup {t b : Addr} {vs ws : List Value} {Q : Value → Shared → Prop} (ht : IsTup s.heap t vs.toArray) (hb : IsTup s.heap b ws.toArray) (hv : vs ≠ [])
    (h1 : ws = [] → Q (.ref t) s) (h2 : ws ≠ [] → Q (.ref s.heap.objs.size) { s with heap := s.heap.push { cls := .type "tuple", data := .seq (vs ++ ws).toArray } })
    (hsz : vs.length + ws.length ≤ sizeLine) : wpAny (model prog w) A (binaryOp .Add (.ref t) (.ref b)) Q E s := by
  obtain ⟨⟨cls, dd, data, sl⟩, ho, hc, n, hd⟩ := id ht
  obtain ⟨⟨cls2, dd2, data2, sl2⟩, ho2, hc2, n2, hd2⟩ := id hb
  simp only at hc hd hc2 hd2
  subst hc hd hc2 hd2
  have e : vs.toArray ++ ws.toArray = (vs ++ ws).toArray := by simp
  by_cases hw : ws = []
  · exact concat_meets ⟨_, ho, rfl⟩ ⟨_, ho2, rfl⟩ noFill_tuple_add seq_tuple_add PySem.F.slot_tuple_add PySem.F.entry_tuple_add (PySem.F.args_tuple_add_2 _ _)
      (tuple_addW1 t b vs.toArray ws.toArray n n2 dd dd2 sl sl2 (by simpa using hv) (by simp [hw])) ⟨ho, ho2, h1 hw⟩
  · refine concat_meets ⟨_, ho, rfl⟩ ⟨_, ho2, rfl⟩ noFill_tuple_add seq_tuple_add PySem.F.slot_tuple_add PySem.F.entry_tuple_add (PySem.F.args_tuple_add_2 _ _)
      (tuple_addW2 t b vs.toArray ws.toArray n n2 dd dd2 sl sl2 (by simpa using hv) (by simpa using hw) (by rw [List.size_toArray, List.size_toArray]; exact hsz)) ⟨ho, ho2, ?_⟩
    rw [e]
    exact h2 hw
noncomputable def sIx (n d : Nat) : Option Int → Nat
  | none => d
  | some v => if v < 0 then (v + (n : Int)).toNat else min v.toNat n
theorem sIx_none (n d : Nat) : sIx n d none = d := rfl
theorem sIx_nat (n d k : Nat) : sIx n d (some (k : Int)) = min k n := by
  show (if (k : Int) < 0 then ((k : Int) + (n : Int)).toNat else min (k : Int).toNat n) = min k n
  rw [if_neg (by omega), Int.toNat_natCast]
theorem sIx_le (n d : Nat) (hd : d ≤ n) (o : Option Int) : sIx n d o ≤ n := by
  cases o with
  | none => exact hd
  | some v =>
    show (if v < 0 then (v + (n : Int)).toNat else min v.toNat n) ≤ n
    by_cases hv : v < 0
    · rw [if_pos hv]; omega
    · rw [if_neg hv]; exact Nat.min_le_right _ _
theorem clip_eq (v : Int) (n d : Nat) : (if v < 0 then max (v + (n : Int)) 0 else min v (n : Int)) = ((sIx n d (some v) : Nat) : Int) := by
  show (if v < 0 then max (v + (n : Int)) 0 else min v (n : Int)) = (((if v < 0 then (v + (n : Int)).toNat else min v.toNat n) : Nat) : Int)
  by_cases hv : v < 0
  · simp only [if_pos hv]; omega
  · simp only [if_neg hv]; omega
theorem adjust_gen (lo hi : Option Int) (n : Nat) : Builtin.Slice.sliceAdjust lo hi 1 (n : Int) = (((sIx n 0 lo : Nat) : Int), ((sIx n n hi : Nat) : Int)) := by
  have h1 : ¬ ((1 : Int) < 0) := by omega
  unfold Builtin.Slice.sliceAdjust
  simp only [h1, if_false]
  refine Prod.ext ?_ ?_
  · cases lo with
    | none => rfl
    | some v => exact clip_eq v n 0
  · cases hi with
    | none => rfl
    | some v => exact clip_eq v n n
theorem places_gen (i j : Nat) : Builtin.Slice.slicePlaces (i : Int) (j : Int) 1 = j - i := by
  unfold Builtin.Slice.slicePlaces
  have h1 : (1 : Int) > 0 := by omega
  simp only [h1, if_true, Int.ediv_one]
  split <;> omega
theorem slicePart_ {v : Value} {o : Option Int} {Q : Option Int → Shared → Prop} (p : IsPart v o) (h : Q o s) : wpAny (model prog w) A (Builtin.Slice.slicePartIndex v) Q E s := by
  cases p with
  | none => exact slicePart_none h
  | int i t => exact slicePart_int h
theorem sliceApplied_gen {sl : Addr} {vl vu : Value} {lo hi : Option Int} {n : Nat} {Q : Int × Int × Nat → Shared → Prop} (hs : s.heap.IsSliceOf sl vl vu .none) (pl : IsPart vl lo) (pu : IsPart vu hi)
    (h : Q (((sIx n 0 lo : Nat) : Int), 1, sIx n n hi - sIx n 0 lo) s) : wpAny (model prog w) A (Builtin.Slice.sliceApplied (.ref sl) (pure (n : Int))) Q E s := by
  obtain ⟨os, hos, hcs, hds⟩ := id hs
  unfold Builtin.Slice.sliceApplied Builtin.Slice.sliceFields
  refine wpAny_bind (wpAny_bind (wpAny_field hos hds (x := vl) rfl (wpAny_bind (wpAny_field hos hds (x := vu) rfl (wpAny_bind (wpAny_field hos hds (x := .none) rfl (wpAny_pure ?_)))))))
  refine wpAny_bind (slicePart_none ?_)
  show wpAny _ _ (if ((1 : Int) == 0) = true then _ else _) _ _ s
  rw [if_neg (by decide)]
  refine wpAny_bind (slicePart_ pl (wpAny_bind (slicePart_ pu (wpAny_bind (wpAny_pure ?_)))))
  show wpAny _ _ (match Builtin.Slice.sliceAdjust lo hi 1 (n : Int) with | (lo, hi) => pure (lo, (1 : Int), Builtin.Slice.slicePlaces lo hi 1)) _ _ s
  rw [adjust_gen lo hi n]
  show wpAny _ _ (pure (((sIx n 0 lo : Nat) : Int), (1 : Int), Builtin.Slice.slicePlaces ((sIx n 0 lo : Nat) : Int) ((sIx n n hi : Nat) : Int) 1)) _ _ s
  rw [places_gen]
  exact wpAny_pure h
theorem pick_gen (xs : Array Value) (i k : Nat) : ((List.range k).filterMap fun (m : Nat) => xs[((i : Int) + (m : Int) * 1).toNat]?).toArray = ((xs.toList.drop i).take k).toArray := by
  have e : (fun (m : Nat) => xs[((i : Int) + (m : Int) * 1).toNat]?) = fun m => xs[i + m]? := by
    funext m
    have : ((i : Int) + (m : Int) * 1).toNat = i + m := by omega
    rw [this]
  rw [e]
  have := pick_run xs i k
  rw [List.filterMap_map] at this
  have e2 : ((fun x => xs[x]?) ∘ fun x => i + x) = fun m => xs[i + m]? := rfl
  rw [e2] at this
  rw [this]
theorem getItem_tuple_cut {t sl : Addr} {items : Array Value} {vl vu : Value} {lo hi : Option Int} {Q : Value → Shared → Prop} (ht : IsTup s.heap t items) (hs : s.heap.IsSliceOf sl vl vu .none) (pl : IsPart vl lo) (pu : IsPart vu hi)
    (hw : ¬ (sIx items.size 0 lo = 0 ∧ sIx items.size items.size hi = items.size))
    (h : Q (.ref s.heap.objs.size) { s with heap := s.heap.push { cls := .type "tuple", data := .seq ((items.toList.drop (sIx items.size 0 lo)).take (sIx items.size items.size hi - sIx items.size 0 lo)).toArray } })
    (hsz : items.size ≤ sizeLine) : wpAny (model prog w) A (getItem (.ref t) (.ref sl)) Q E s := by
  have htake : sizeOk (.seq ((items.toList.drop (sIx items.size 0 lo)).take (sIx items.size items.size hi - sIx items.size 0 lo)).toArray) := by
    show ((items.toList.drop (sIx items.size 0 lo)).take (sIx items.size items.size hi - sIx items.size 0 lo)).toArray.size ≤ sizeLine
    rw [List.size_toArray, List.length_take, List.length_drop, Array.length_toList]
    omega
  have hj : sIx items.size items.size hi ≤ items.size := sIx_le _ _ (Nat.le_refl _) hi
  obtain ⟨os, hos, hcs, hds⟩ := id hs
  have hTs : s.TypeIs (.ref sl) "slice" := ⟨os, hos, hcs⟩
  unfold getItem
  try with_reducible refine wpAny_holding ?_
  first | refine wpAny_bind (wpAny_pure ?_) | skip
  refine wpAny_bind (wpAny_sequenceKey ht.typeIs (by decide) ?_)
  refine wpAny_bind (wpAny_callSpecial?_slot (name := Str.ofString "__getitem__") ht.typeIs PyProof.Rows.slot_tuple_getitem
    (wpAny_call_entry PyProof.Rows.slot_tuple_getitem ht.typeIs entry_tuple_getitem ?_ (args_tuple_getitem _ _)))
  show wpAny _ _ (Builtin.Tuple.tupleItemsOf (.ref t) >>= _) _ _ s
  refine wpAny_bind (tupleItemsOf_ ht ?_)
  refine wpAny_bind (wpAny_typeOf hTs ?_)
  rw [if_pos (by decide)]
  refine wpAny_bind (sliceApplied_gen hs pl pu ?_)
  have hno : ¬ ((((sIx items.size 0 lo : Nat) : Int) == 0 && (1 : Int) == 1 && (sIx items.size items.size hi - sIx items.size 0 lo) == items.size) = true) := by
    intro q
    rw [Bool.and_eq_true, Bool.and_eq_true] at q
    have q1 : ((sIx items.size 0 lo : Nat) : Int) = 0 := eq_of_beq q.1.1
    have q2 : sIx items.size items.size hi - sIx items.size 0 lo = items.size := eq_of_beq q.2
    exact hw ⟨by omega, by omega⟩
  show wpAny _ _ (if (((sIx items.size 0 lo : Nat) : Int) == 0 && (1 : Int) == 1 && (sIx items.size items.size hi - sIx items.size 0 lo) == items.size) = true then _ else _) _ _ s
  rw [if_neg hno, pick_gen]
  first
    | exact wpAny_bind (m := Builtin.Tuple.tupleExact _) (wpAny_newObj_type (wpAny_pure ⟨_, rfl, wpAny_pure h⟩) htake)
    | exact wpAny_bind (m := Builtin.Tuple.tupleExact _) (wpAny_newObj_type (wpAny_bind (wpAny_pure (wpAny_pure ⟨_, rfl, wpAny_pure h⟩))) htake)
    | exact wpAny_bind (wpAny_bind (m := Builtin.Tuple.tupleExact _) (wpAny_newObj_type (wpAny_pure (wpAny_pure ⟨_, rfl, wpAny_pure h⟩)) htake))
    | exact wpAny_bind (wpAny_bind (m := Builtin.Tuple.tupleExact _) (wpAny_newObj_type (wpAny_pure ⟨_, rfl, wpAny_pure h⟩) htake))
end
end HT
namespace L2
open PySem PySem.Spec PyProof.Rows
noncomputable abbrev TO := St → Hp → (Option Int → Hp → Prop) → Prop
noncomputable def PO (X : Cx) (e : Option Expr) (t : TO) : Prop :=
  ∀ (pins : List (Addr × Obj)) (s : Shared) (σ : St) (H : Hp) (Q : Option Int → Hp → Prop), Inv X pins σ H s → t σ H Q →
    wpAny (model X.prog X.w) X.A (evalPart e X.env) (fun u s' => ∃ o H', Inv X pins σ H' s' ∧ IsPart u o ∧ Q o H') X.xe s
noncomputable def tNoPart : TO := fun _ H Q => Q none H
noncomputable def tPart (t : TE) : TO := fun σ H Q => t σ H fun x H1 => ∃ i, x = .int i ∧ Q (some i) H1
theorem intsAre_of {ns : List Int} : ∀ {us : List Value}, Vals (ns.map V.int) us → IntsAre us ns := by
  induction ns with
  | nil => intro us r; rw [List.map_nil] at r; cases r; exact .nil
  | cons n ns ih =>
    intro us r
    rw [List.map_cons] at r
    cases r with
    | cons r1 r2 =>
      obtain ⟨t, e⟩ := r1
      subst e
      exact .cons n t (ih r2)
section
variable {X : Cx} {e : Expr} {te : TE} {lo hi : Option Expr} {tl th : TO} {pos p2 : Pos}
theorem po_none : PO X none tNoPart := by
  intro pins s σ H Q I h
  rw [evalPart_none]
  exact wpAny_pure ⟨none, H, I, .none, h⟩
theorem po_some (h : PE X e te) : PO X (some e) (tPart te) := by
  intro pins s σ H Q I hw
  rw [evalPart_some]
  refine thn (h pins s σ H _ I hw) fun u s1 ⟨x, H1, I1, r1, q1⟩ => ?_
  obtain ⟨i, rfl, q⟩ := q1
  obtain ⟨t, rfl⟩ := r1
  exact ⟨some i, H1, I1, .int i t, q⟩
noncomputable def SlR (X : Cx) (r : V → Option Int → Option Int → Hp → VK → Prop) : Prop :=
  ∀ (pins : List (Addr × Obj)) (s : Shared) (σ : St) (H : Hp) (x : V) (v vl vu : Value) (lo hi : Option Int) (sl : Addr) (Q : VK), Inv X pins σ H s → RelV x v → s.heap.IsSliceOf sl vl vu .none → IsPart vl lo → IsPart vu hi → r x lo hi H Q →
    ∃ T id, typeLookup (.type T) "__getitem__" = pure (some (.builtin id)) ∧ s.TypeIs v T ∧ wpAny (model X.prog X.w) X.A (getItem v (.ref sl)) (EP X pins σ Q) X.xe s
theorem SlR.or {r r' : V → Option Int → Option Int → Hp → VK → Prop} (h : SlR X r) (h' : SlR X r') : SlR X (fun x lo hi H Q => r x lo hi H Q ∨ r' x lo hi H Q) := by
  intro pins s σ H x v vl vu lo hi sl Q I rx hs pl pu q
  rcases q with q | q
  · exact h pins s σ H x v vl vu lo hi sl Q I rx hs pl pu q
  · exact h' pins s σ H x v vl vu lo hi sl Q I rx hs pl pu q
noncomputable def tSl (r : V → Option Int → Option Int → Hp → VK → Prop) (te : TE) (tl th : TO) : TE := fun σ H Q => te σ H fun x H1 => tl σ H1 fun l H2 => th σ H2 fun u H3 => r x l u H3 Q
theorem pe_slice {r : V → Option Int → Option Int → Hp → VK → Prop} (hr : SlR X r) (he : PE X e te) (hl : PO X lo tl) (hu : PO X hi th) : PE X (.Subscript e (.Slice lo hi none p2) pos) (tSl r te tl th) := by
  intro pins s σ H Q I h
  refine Subscript_ (thn (he pins s σ H _ I h) fun v s1 ⟨x, H1, I1, r1, q1⟩ => ?_)
  refine wpAny_Slice (thn (hl pins s1 σ H1 _ I1 q1) fun vl s2 ⟨l, H2, I2, pl, q2⟩ => thn (hu pins s2 σ H2 _ I2 q2) fun vu s3 ⟨u, H3, I3, pu, q3⟩ => ?_)
  rw [evalPart_none]
  refine wpAny_pure ?_
  have I4 : Inv X pins σ H3 { s3 with heap := s3.heap.push { cls := .type "slice", data := .fields #[vl, vu, .none] } } := I3.kept (t' := s3.toks) fun b ob q => Heap.get?_push_of_some _ q
  obtain ⟨T, id, hT, ht, hg⟩ := hr pins { s3 with heap := s3.heap.push { cls := .type "slice", data := .fields #[vl, vu, .none] } } σ H3 x v vl vu l u s3.heap.objs.size Q I4 r1 (Heap.IsSliceOf.new ..) pl pu q3
  show wpAny (model X.prog X.w) X.A (subscriptTail e (.Slice lo hi none p2) v (.ref s3.heap.objs.size)) (EP X pins σ Q) X.xe { s3 with heap := s3.heap.push { cls := .type "slice", data := .fields #[vl, vu, .none] } }
  exact tail_any (ops := [.ref s3.heap.objs.size, v]) ht hT hg (by with_unfolding_all rfl)
noncomputable def cutV (xs : List V) (lo hi : Option Int) : List V := (xs.drop (HT.sIx xs.length 0 lo)).take (HT.sIx xs.length xs.length hi - HT.sIx xs.length 0 lo)
theorem cutV_length (xs : List V) (lo hi : Option Int) : (cutV xs lo hi).length ≤ xs.length := by
  unfold cutV
  rw [List.length_take, List.length_drop]
  omega
noncomputable def rSlT (K : PySem.W.Frag) : V → Option Int → Option Int → Hp → VK → Prop := fun x lo hi H Q => ∃ a xs, x = .ref a ∧ SqT K H a xs ∧
  ¬ (HT.sIx xs.length 0 lo = 0 ∧ HT.sIx xs.length xs.length hi = xs.length) ∧ ∀ p, H p = none → Q (.ref p) (upd H p (.tup (cutV xs lo hi)))
theorem sl_tup : SlR X (rSlT X.K) := by
  intro pins s σ H x v vl vu lo hi sl Q I rx hs pl pu h
  obtain ⟨a, xs, rfl, hx, hw, q⟩ := h
  cases rx
  obtain ⟨its, r, ht, hz⟩ := I.tuple hx
  have hlen : its.toArray.size = xs.length := by rw [List.size_toArray]; exact r.length.symm
  refine ⟨"tuple", _, PyProof.Rows.slot_tuple_getitem.lookup, ht.typeIs, ?_⟩
  refine HT.getItem_tuple_cut ht hs pl pu (by rw [hlen]; exact hw) ?_ (by rw [hlen]; exact hz)
  rw [hlen]
  refine ⟨.ref s.heap.objs.size, _, I.laid (t' := s.toks) (o := .tup (cutV xs lo hi)) (fun b ob q => Heap.get?_push_of_some _ q) (Nat.le_refl _) ?_, rfl, q _ (I.hok.fresh (Nat.le_refl _))⟩
  exact ⟨Nat.le_trans (cutV_length xs lo hi) hz, _, (r.drop (HT.sIx xs.length 0 lo)).take (HT.sIx xs.length xs.length hi - HT.sIx xs.length 0 lo), _, Heap.get?_push_size _ rfl⟩
noncomputable def rCatT (K : PySem.W.Frag) : R2 := fun x y H Q => ∃ a b xs ys, x = .ref a ∧ y = .ref b ∧ SqT K H a xs ∧ SqT K H b ys ∧ xs ≠ [] ∧ xs.length + ys.length ≤ sizeLine ∧
  (ys = [] → Q (.ref a) H) ∧ (ys ≠ [] → ∀ p, H p = none → Q (.ref p) (upd H p (.tup (xs ++ ys))))
theorem Vals.nil_iff {xs : List V} {us : List Value} (r : Vals xs us) : us = [] ↔ xs = [] := by
  cases r with
  | nil => simp
  | cons _ _ => simp
theorem op_catT : OpR X (binaryOp .Add) (rCatT X.K) := by
  intro pins s σ H x y v u Q I rx ry h
  obtain ⟨a, b, xs, ys, rfl, rfl, ha, hb, hx, hz, q1, q2⟩ := h
  cases rx
  cases ry
  obtain ⟨its, r1, p1, _⟩ := I.tuple ha
  obtain ⟨its2, r2, p2, _⟩ := I.tuple hb
  refine HT.cat_tup p1 p2 (fun z => hx (r1.nil_iff.mp z)) (fun z => ⟨.ref a, H, I, rfl, q1 (r2.nil_iff.mp z)⟩) (fun z => ?_) (by rw [← r1.length, ← r2.length]; exact hz)
  refine ⟨.ref s.heap.objs.size, _, I.laid (t' := s.toks) (o := .tup (xs ++ ys)) (fun b ob q => Heap.get?_push_of_some _ q) (Nat.le_refl _) ?_, rfl, q2 (fun w => z (r2.nil_iff.mpr w)) _ (I.hok.fresh (Nat.le_refl _))⟩
  exact ⟨by rw [List.length_append]; exact hz, _, r1.append r2, _, Heap.get?_push_size _ rfl⟩
end
end L2
namespace L2
open PySem PySem.Spec PyProof.Rows
noncomputable def ixN (n : Nat) (i : Int) : Option Nat := if 0 ≤ i then (if i < n then some i.toNat else none) else if -(n : Int) ≤ i then some (i + n).toNat else none
noncomputable def atI {α : Type} (xs : List α) (i : Int) : Option α := (ixN xs.length i).bind fun j => xs[j]?
theorem ixN_seq {n : Nat} {i : Int} {j : Nat} (h : ixN n i = some j) : seqIndex? i n = some j ∧ j < n ∧ -(n : Int) ≤ i ∧ i < n := by
  unfold ixN at h
  by_cases h0 : 0 ≤ i
  · rw [if_pos h0] at h
    by_cases h1 : i < n
    · rw [if_pos h1] at h
      have e : i.toNat = j := Option.some.inj h
      exact ⟨by rw [seqIndex_of h0 h1, e], by omega, by omega, h1⟩
    · rw [if_neg h1] at h; cases h
  · rw [if_neg h0] at h
    by_cases h1 : -(n : Int) ≤ i
    · rw [if_pos h1] at h
      have e : (i + n).toNat = j := Option.some.inj h
      exact ⟨by rw [seqIndex_neg (by omega) h1, e], by omega, h1, by omega⟩
    · rw [if_neg h1] at h; cases h
theorem atI_get {α : Type} {xs : List α} {i : Int} {v : α} (h : atI xs i = some v) : ∃ j, seqIndex? i xs.length = some j ∧ xs[j]? = some v ∧ j < xs.length ∧ -(xs.length : Int) ≤ i ∧ i < xs.length := by
  unfold atI at h
  cases e : ixN xs.length i with
  | none => rw [e] at h; cases h
  | some j =>
    rw [e] at h
    obtain ⟨h1, h2, h3, h4⟩ := ixN_seq e
    exact ⟨j, h1, h, h2, h3, h4⟩
theorem atI_nat {α : Type} {xs : List α} {j : Nat} {v : α} (h : xs[j]? = some v) : atI xs (j : Int) = some v := by
  have hj : j < xs.length := (List.getElem?_eq_some_iff.mp h).1
  have e : ixN xs.length (j : Int) = some j := by
    unfold ixN
    rw [if_pos (by omega), if_pos (by omega)]; simp
  unfold atI; rw [e]; exact h
noncomputable def PlainIx (b : Expr) : Prop := ∀ o i, subscripted b false o i = operate [o, i] (getItem o i)
noncomputable def IxR (X : Cx) (r : R2) : Prop :=
  ∀ (value slice : Expr) (pins : List (Addr × Obj)) (s : Shared) (σ : St) (H : Hp) (x y : V) (v u : Value) (Q : VK), Inv X pins σ H s → RelV x v → RelV y u → r x y H Q →
    subscripted slice false v u = operate [v, u] (getItem v u) → wpAny (model X.prog X.w) X.A (subscriptTail value slice v u) (EP X pins σ Q) X.xe s
noncomputable def MtR (X : Cx) (id : String) (r : V → List V → Hp → VK → Prop) : Prop :=
  ∀ (pins : List (Addr × Obj)) (s : Shared) (σ : St) (H : Hp) (x : V) (xs : List V) (v : Value) (us : List Value) (Q : VK), Inv X pins σ H s → RelV x v → Vals xs us → r x xs H Q →
    wpAny (model X.prog X.w) X.A (call (.builtin id) (v :: us)) (EP X pins σ Q) X.xe s
section
variable {X : Cx} {a b : Expr} {ta tb : TE} {pos : Pos}
theorem IxR.or {r r' : R2} (h : IxR X r) (h' : IxR X r') : IxR X (fun x y H Q => r x y H Q ∨ r' x y H Q) := by
  intro value slice pins s σ H x y v u Q I rx ry q hs
  rcases q with q | q
  · exact h value slice pins s σ H x y v u Q I rx ry q hs
  · exact h' value slice pins s σ H x y v u Q I rx ry q hs
theorem MtR.or {id : String} {r r' : V → List V → Hp → VK → Prop} (h : MtR X id r) (h' : MtR X id r') : MtR X id (fun x xs H Q => r x xs H Q ∨ r' x xs H Q) := by
  intro pins s σ H x xs v us Q I rx rs q
  rcases q with q | q
  · exact h pins s σ H x xs v us Q I rx rs q
  · exact h' pins s σ H x xs v us Q I rx rs q
theorem pe_ix {r : R2} (hr : IxR X r) (ha : PE X a ta) (hb : PE X b tb) (hs : PlainIx b) : PE X (.Subscript a b pos) (tOp r ta tb) := by
  intro pins s σ H Q I h
  exact Subscript_ (binT ha hb I h fun v u s2 x y H2 I2 rx ry q => hr a b pins s2 σ H2 x y v u Q I2 rx ry q (hs _ _))
noncomputable def rIxL (K : PySem.W.Frag) : R2 := fun x y H Q => ∃ p xs i v, x = .ref p ∧ y = .int i ∧ SqL K H p xs ∧ atI xs i = some v ∧ Q v H
noncomputable def rIxT (K : PySem.W.Frag) : R2 := fun x y H Q => ∃ p xs i v, x = .ref p ∧ y = .int i ∧ SqT K H p xs ∧ atI xs i = some v ∧ Q v H
theorem ix_list : IxR X (rIxL X.K) := by
  intro value slice pins s σ H x y v u Q I rx ry h hs
  obtain ⟨p, xs, i, z, rfl, rfl, hq, he, q⟩ := h
  cases rx
  obtain ⟨t, rfl⟩ := ry
  obtain ⟨its, r, pl, hz⟩ := I.list hq
  obtain ⟨j, h1, h2, h3, h4, h5⟩ := atI_get he
  obtain ⟨w, ew, rw'⟩ := r.get h2
  have hl := r.length
  have hn := line63
  have fin : EP X pins σ Q w s := ⟨z, H, I, rw', q⟩
  by_cases h0 : 0 ≤ i
  · have hj : i.toNat = j := by
      rw [seqIndex_of h0 h5] at h1
      exact Option.some.inj h1
    exact item_listR pl.isList h0 (by omega) (by rw [hj]; simpa using ew) fin hs
  · have hj : (i + (its.toArray.size : Int)).toNat = j := by
      rw [seqIndex_neg (by omega) h4] at h1
      rw [List.size_toArray, ← hl]
      exact Option.some.inj h1
    exact subscriptTail_builtinR (x := w) pl.isList.typeIs slot_list_getitem.lookup
      (wpAny_getItem_list_neg (Q := fun r s' => r = w ∧ EP X pins σ Q r s') pl.isList (by omega) (by rw [List.size_toArray] <;> omega) (by omega) (by rw [hj]; simpa using ew) ⟨rfl, fin⟩) hs
theorem ix_tup : IxR X (rIxT X.K) := by
  intro value slice pins s σ H x y v u Q I rx ry h hs
  obtain ⟨p, xs, i, z, rfl, rfl, hq, he, q⟩ := h
  cases rx
  obtain ⟨t, rfl⟩ := ry
  obtain ⟨its, r, pl, hz⟩ := I.tuple hq
  obtain ⟨j, h1, h2, h3, h4, h5⟩ := atI_get he
  obtain ⟨w, ew, rw'⟩ := r.get h2
  have hl := r.length
  have hn := line63
  have fin : EP X pins σ Q w s := ⟨z, H, I, rw', q⟩
  exact subscriptTail_builtinR (x := w) pl.typeIs slot_tuple_getitem.lookup
    (getItem_tuple (j := j) (Q := fun r s' => r = w ∧ EP X pins σ Q r s') pl (by omega) (by omega) (by rw [List.size_toArray, ← hl]; exact h1) (by simpa using ew) ⟨rfl, fin⟩) hs
theorem mapSeq_set (its : List Value) (n j : Nat) (u : Value) : Obj.mapSeq (·.setIfInBounds j u) { cls := .type "list", data := .seq its.toArray n } = { cls := .type "list", data := .seq (its.set j u).toArray n } := by
  simp [Obj.mapSeq]
theorem Inv.lst {pins : List (Addr × Obj)} {σ : St} {H : Hp} {s : Shared} {p : Addr} {xs : List V} (I : Inv X pins σ H s) (h : H p = some (.lst xs)) :
    ∃ (its : List Value) (n : Nat), Vals xs its ∧ s.heap.get? p = some { cls := .type "list", data := .seq its.toArray n } ∧ xs.length ≤ sizeLine := by
  obtain ⟨z, its, n, r, e⟩ := I.hok p _ h
  exact ⟨its, n, r, e, z⟩
theorem Inv.lstUpd {pins : List (Addr × Obj)} {σ : St} {H : Hp} {s : Shared} {p : Addr} {xs ys : List V} {its its' : List Value} {n n' : Nat} {f : Obj → Obj} (I : Inv X pins σ H s) (h : H p = some (.lst xs))
    (ho : s.heap.get? p = some { cls := .type "list", data := .seq its.toArray n }) (hf : f { cls := .type "list", data := .seq its.toArray n } = { cls := .type "list", data := .seq its'.toArray n' }) (r : Vals ys its') (hz : ys.length ≤ sizeLine) (t : Nat) :
    Inv X pins σ (upd H p (.lst ys)) { s with heap := s.heap.update p f, toks := t } := by
  have e : (s.heap.update p f).get? p = some { cls := .type "list", data := .seq its'.toArray n' } := by
    rw [Heap.get?_update_self f ho (by rw [hf] <;> rfl), hf]
  refine I.write (x := p) (e := p) (by rw [h]; trivial) (.inl rfl) (fun b u hb q => (Heap.get?_update_other _ _ (Ne.symm hb)).trans q) ⟨_, e⟩ ?_
  exact ⟨hz, its', n', r, e⟩
noncomputable def rSetL : V → V → V → Hp → (Hp → Prop) → Prop := fun o i v H Q => ∃ p xs k j, o = .ref p ∧ i = .int k ∧ H p = some (.lst xs) ∧ ixN xs.length k = some j ∧ Q (upd H p (.lst (xs.set j v)))
theorem set_list : PSet X rSetL := by
  intro pins s σ H o i v ov iv u Q I ro ri rv h
  obtain ⟨p, xs, k, j, rfl, rfl, hp, hj, q⟩ := h
  cases ro
  obtain ⟨t, rfl⟩ := ri
  obtain ⟨its, n, r, ho, hz⟩ := I.lst hp
  obtain ⟨h1, h2, h3, h4⟩ := ixN_seq hj
  have hl := r.length
  have hn := line63
  have I' : Inv X pins σ (upd H p (.lst (xs.set j v))) { s with heap := s.heap.update p (Obj.mapSeq (·.setIfInBounds j u)) } :=
    I.lstUpd hp ho (mapSeq_set its n j u) (r.set rv j) (by rw [List.length_set]; exact hz) s.toks
  by_cases h0 : 0 ≤ k
  · have hk : k.toNat = j := by
      rw [seqIndex_of h0 h4] at h1
      exact Option.some.inj h1
    exact PySem.W.ki_setAt ho h0 (by omega) (by rw [List.size_toArray, ← hl]; exact h4) (by rw [hk]; exact ⟨_, I', q⟩)
  · have hk : (k + (its.toArray.size : Int)).toNat = j := by
      rw [seqIndex_neg (by omega) h3] at h1
      rw [List.size_toArray, ← hl]
      exact Option.some.inj h1
    exact PySem.W.ki_setBack ho (by omega) (by rw [List.size_toArray, ← hl]; exact h3) (by omega) (by rw [hk]; exact ⟨_, I', q⟩)
theorem slice_bounds (lo hi : Option Int) (n : Nat) : (sliceBounds lo hi none n).1 = ((HT.sIx n 0 lo : Nat) : Int) ∧ (sliceBounds lo hi none n).2.1 = ((HT.sIx n n hi : Nat) : Int) ∧ (sliceBounds lo hi none n).2.2 = 1 := by
  refine ⟨?_, ?_, rfl⟩
  · cases lo with
    | none => simp [sliceBounds, HT.sIx]
    | some i =>
      simp only [sliceBounds, HT.sIx, Option.getD_none, show (1 : Int) > 0 by decide, if_true]
      by_cases h : i < 0
      · simp only [h, if_true] <;> omega
      · simp only [h, if_false] <;> omega
  · cases hi with
    | none => simp [sliceBounds, HT.sIx]
    | some i =>
      simp only [sliceBounds, HT.sIx, Option.getD_none, show (1 : Int) > 0 by decide, if_true]
      by_cases h : i < 0
      · simp only [h, if_true] <;> omega
      · simp only [h, if_false] <;> omega
theorem slicePick_cut (its : List Value) (lo hi : Option Int) : slicePick its.toArray lo hi none = ((its.drop (HT.sIx its.length 0 lo)).take (HT.sIx its.length its.length hi - HT.sIx its.length 0 lo)).toArray := by
  obtain ⟨h1, h2, h3⟩ := slice_bounds lo hi its.toArray.size
  unfold slicePick
  rw [h1, h2, h3]
  simp only [sliceRange_one, pick_run, List.size_toArray] <;> rfl
noncomputable def rSlL (K : PySem.W.Frag) : V → Option Int → Option Int → Hp → VK → Prop := fun x lo hi H Q => ∃ a xs, x = .ref a ∧ SqL K H a xs ∧ ∀ p, H p = none → Q (.ref p) (upd H p (.lst (cutV xs lo hi)))
theorem sl_list : SlR X (rSlL X.K) := by
  intro pins s σ H x v vl vu lo hi sl Q I rx hs pl pu h
  obtain ⟨a, xs, rfl, hx, q⟩ := h
  cases rx
  obtain ⟨its, r, ht, hz⟩ := I.list hx
  have hlen := r.length
  refine ⟨"list", _, slot_list_getitem.lookup, ht.isList.typeIs, ?_⟩
  refine wpAny_getItem_list_slice ht.isList hs pl pu .none (by simp) ?_ (by rw [List.size_toArray] <;> omega)
  rw [slicePick_cut, ← hlen]
  refine ⟨.ref s.heap.objs.size, _, I.laid (t' := s.toks) (o := .lst (cutV xs lo hi)) (fun b ob q => Heap.get?_push_of_some _ q) (Nat.le_refl _) ?_, rfl, q _ (I.hok.fresh (Nat.le_refl _))⟩
  exact ⟨Nat.le_trans (cutV_length xs lo hi) hz, _, 0, (r.drop (HT.sIx xs.length 0 lo)).take (HT.sIx xs.length xs.length hi - HT.sIx xs.length 0 lo), Heap.get?_push_size _ rfl⟩
theorem call_len_seq : CallR X (.builtin "len") (fun xs H Q => ∃ p ys, xs = [.ref p] ∧ (SqL X.K H p ys ∨ SqT X.K H p ys) ∧ Q (.int ys.length) H) := by
  intro pins s σ H xs us Q I r h
  obtain ⟨p, ys, rfl, hq, q⟩ := h
  obtain ⟨u, rfl, rx⟩ := vals1 r
  cases rx
  have hn := line63
  rcases hq with hq | hq
  · obtain ⟨its, r', pl, hz⟩ := I.list hq
    have hlen := r'.length
    exact Calls.call_len_list pl.isList (by simp only [List.size_toArray] <;> omega) ⟨.int ys.length, H, I.tok _, ⟨s.toks + 1, by rw [List.size_toArray, hlen]⟩, q⟩
  · obtain ⟨its, r', pl, hz⟩ := I.tuple hq
    have hlen := r'.length
    exact len_tuple pl (by simp only [List.size_toArray] <;> omega) ⟨.int ys.length, H, I.tok _, ⟨s.toks + 1, by rw [List.size_toArray, hlen]⟩, q⟩
theorem call_len_str : CallR X (.builtin "len") (fun xs H Q => ∃ z, xs = [.str z] ∧ z.length ≤ sizeLine ∧ Q (.int z.length) H) := by
  intro pins s σ H xs us Q I r h
  obtain ⟨z, rfl, hz, q⟩ := h
  obtain ⟨u, rfl, t, rfl⟩ := vals1 r
  have hn := line63
  exact len_str (by omega) ⟨.int z.length, H, I.tok _, ⟨_, rfl⟩, q⟩
theorem CallR.or {f : Value} {r r' : List V → Hp → VK → Prop} (h : CallR X f r) (h' : CallR X f r') : CallR X f (fun xs H Q => r xs H Q ∨ r' xs H Q) := by
  intro pins s σ H xs us Q I rs q
  rcases q with q | q
  · exact h pins s σ H xs us Q I rs q
  · exact h' pins s σ H xs us Q I rs q
theorem call_list_of : CallR X (.type "list") (fun xs H Q => ∃ p ys, xs = [.ref p] ∧ (SqL X.K H p ys ∨ SqT X.K H p ys) ∧ ∀ l, H l = none → Q (.ref l) (upd H l (.lst ys))) := by
  intro pins s σ H xs us Q I r h
  obtain ⟨p, ys, rfl, hq, q⟩ := h
  obtain ⟨u, rfl, rx⟩ := vals1 r
  cases rx
  have fin : ∀ (its : List Value), Vals ys its → ys.length ≤ sizeLine → ∀ (h' : Heap) (c' : Nat), (∀ b o', s.heap.get? b = some o' → h'.get? b = some o') →
      h'.get? s.heap.objs.size = some { cls := .type "list", dict := none, data := .seq its.toArray c', slots := #[] } → EP X pins σ Q (.ref s.heap.objs.size) { s with heap := h' } := fun its r' hz h' c' kp e =>
    ⟨.ref s.heap.objs.size, _, I.laid (t' := s.toks) kp (Nat.le_refl _) (show ObjOk X.prog X.w _ h' _ (.lst ys) from ⟨hz, its, c', r', e⟩), rfl, q _ (I.hok.fresh (Nat.le_refl _))⟩
  rcases hq with hq | hq
  · obtain ⟨its, r', pl, hz⟩ := I.list hq
    have hlen := r'.length
    obtain ⟨o, ho, hc, n, hd⟩ := pl.isList
    exact call_list_seq p (.inl rfl) ho hc hd (fun h' c' kp e => fin its r' hz h' c' kp e) (by simp only [List.size_toArray] <;> omega)
  · obtain ⟨its, r', pl, hz⟩ := I.tuple hq
    have hlen := r'.length
    obtain ⟨o, ho, hc, n, hd⟩ := pl
    exact call_list_seq p (.inr rfl) ho hc hd (fun h' c' kp e => fin its r' hz h' c' kp e) (by simp only [List.size_toArray] <;> omega)
theorem call_tuple_of : CallR X (.type "tuple") (fun xs H Q => ∃ p ys, xs = [.ref p] ∧ ((SqL X.K H p ys ∧ ∀ l, H l = none → Q (.ref l) (upd H l (.tup ys))) ∨ (SqT X.K H p ys ∧ Q (.ref p) H))) := by
  intro pins s σ H xs us Q I r h
  obtain ⟨p, ys, rfl, h⟩ := h
  obtain ⟨u, rfl, rx⟩ := vals1 r
  cases rx
  rcases h with ⟨hq, q⟩ | ⟨hq, q⟩
  · obtain ⟨its, r', pl, hz⟩ := I.list hq
    have hlen := r'.length
    refine call_tuple_list pl.isList (fun h' kp => ?_) (by simp only [List.size_toArray] <;> omega)
    have I1 : Inv X pins σ H { s with heap := h' } := I.kept (t' := s.toks) kp
    have I2 : Inv X pins σ (upd H h'.objs.size (.tup ys)) { s with heap := h'.push { cls := .type "tuple", data := .seq its.toArray } } :=
      I1.laid (t' := s.toks) (fun b o e => Heap.get?_push_of_some _ e) (Nat.le_refl _) (show ObjOk X.prog X.w _ _ _ (.tup ys) from ⟨hz, its, r', _, Heap.get?_push_size _ rfl⟩)
    exact ⟨.ref h'.objs.size, _, I2, rfl, q _ (I1.hok.fresh (Nat.le_refl _))⟩
  · obtain ⟨its, r', pl, hz⟩ := I.tuple hq
    exact call_tuple_same pl ⟨.ref p, H, I, rfl, q⟩
noncomputable def tyV (K : PySem.W.Frag) (T : String) (x : V) (H : Hp) : Prop := match x with
  | .str _ => T = "str"
  | .int _ => T = "int"
  | .ref p => (T = "list" ∧ ∃ xs, SqL K H p xs) ∨ (T = "tuple" ∧ ∃ o, K.lookup p = some o ∧ o.cls = .type "tuple" ∧ o.dict = none) ∨
      (T = "dict" ∧ ((∃ kvs, H p = some (.dK kvs)) ∨ ∃ kvs, H p = some (.dT kvs))) ∨ (T = "set" ∧ ∃ S n, H p = some (.set S n))
  | _ => False
theorem tyV_is {pins : List (Addr × Obj)} {σ : St} {H : Hp} {s : Shared} {T : String} {x : V} {v : Value} (I : Inv X pins σ H s) (r : RelV x v) (ty : tyV X.K T x H) :
    s.TypeIs v T ∧ ∀ a, v = .ref a → ∃ ob, s.heap.get? a = some ob ∧ ob.dict = none := by
  cases x with
  | str z =>
    obtain ⟨t, rfl⟩ := r
    cases (show T = "str" from ty)
    exact ⟨typeIs_str s z t, fun _ e => nomatch e⟩
  | int i =>
    obtain ⟨t, rfl⟩ := r
    cases (show T = "int" from ty)
    exact ⟨typeIs_int s i t, fun _ e => nomatch e⟩
  | ref p =>
    cases r
    rcases ty with ⟨rfl, xs, hq⟩ | ⟨rfl, o, hk, hc, hd⟩ | ⟨rfl, hk⟩ | ⟨rfl, S, n, hk⟩
    · obtain ⟨its, _, pl, _⟩ := I.list hq
      refine ⟨pl.isList.typeIs, fun a e => ?_⟩
      cases e
      obtain ⟨o, n, e, c, hd, _⟩ := pl
      exact ⟨o, e, hd⟩
    · refine ⟨⟨o, I.kIn p o hk, hc⟩, fun a e => ?_⟩
      cases e
      exact ⟨o, I.kIn _ o hk, hd⟩
    · have z : ∃ o, s.heap.get? p = some o ∧ o.ExactDict := by
        rcases hk with ⟨kvs, hk⟩ | ⟨kvs, hk⟩
        · obtain ⟨_, _, _, _, o, _, _, e, ex, _⟩ := I.hok p _ hk
          exact ⟨o, e, ex⟩
        · obtain ⟨_, _, _, _, o, _, _, e, ex, _⟩ := I.hok p _ hk
          exact ⟨o, e, ex⟩
      obtain ⟨o, e, ex⟩ := z
      refine ⟨⟨o, e, ex.1⟩, fun a e2 => ?_⟩
      cases e2
      exact ⟨o, e, ex.2.1⟩
    · obtain ⟨o, _, _, _, e, ex, _⟩ := I.hok p _ hk
      refine ⟨⟨o, e, ex.1⟩, fun a e2 => ?_⟩
      cases e2
      exact ⟨o, e, ex.2.1⟩
  | _ => exact False.elim ty
noncomputable def tBM (K : PySem.W.Frag) (T : String) (r : V → List V → Hp → VK → Prop) (to : TE) (t : TA) : TE := fun σ H Q => to σ H fun x H1 => tyV K T x H1 ∧ t σ H1 fun xs H2 => r x xs H2 Q
variable {o e : Expr} {es : List Expr} {to : TE} {t : TA} {name : Str} {apos cpos : Pos} {T id : String} {r : V → List V → Hp → VK → Prop}
theorem pe_bm (pa : PlainAttrs T) (slot : Slot T name id) (hty : typeOf (.builtin id) = pure (.type "method_descriptor")) (hm : MtR X id r) (ho : PE X o to) (ha : PA X (e :: es) t)
    (hbase : attributeBase o name X.env (eval o X.env) = eval o X.env := by rfl)
    (hfew : ((backTo cpos (starEach (e :: es) X.env)).all (fun x => !x.1) && (backToKw cpos (keywordEach [] X.env)).all (fun x => x.1.isSome)
      && decide ((e :: es).length + ([] : List Keyword).length + (if ([] : List Keyword).isEmpty then 0 else 1) < 30)) = true := by rfl)
    (hline : (apos.endLine == cpos.line) = true := by rfl) (hs : starEach (e :: es) X.env = (false, eval e X.env) :: starEach es X.env := by rfl) (hplain : (backTo cpos (starEach es X.env)).any (·.1) = false := by rfl) :
    PE X (.Call (.Attribute o name apos) (e :: es) [] cpos) (tBM X.K T r to t) := by
  intro pins s σ H Q I h
  refine wpAny_Call_method_late hbase hfew hline rfl (thn (ho pins s σ H _ I h) fun v s1 ⟨x, H1, I1, r1, ty, q1⟩ => ?_)
  obtain ⟨h1, h2⟩ := tyV_is I1 r1 ty
  refine ⟨T, id, pa, slot, hty, h1, h2, ?_⟩
  have hA := ha cpos pins s1 σ H1 _ I1 q1
  rw [hs] at hA ⊢
  refine Calls.callWith_builtin (by show (false || (backTo cpos (starEach es X.env)).any (·.1)) = false; rw [hplain] <;> rfl) (Calls.evalArgs_plain ?_)
  exact thn hA fun us s2 ⟨vs, H2, I2, r2, q2⟩ => hm pins s2 σ H2 x vs v us Q I2 r1 r2 q2
end
end L2
namespace L2
open PySem PySem.Spec PyProof.Rows
noncomputable def MtM (X : Cx) (id : String) (r : V → List V → Hp → VK → Prop) : Prop :=
  ∀ (pins : List (Addr × Obj)) (s : Shared) (σ : St) (H : Hp) (x : V) (xs : List V) (v : Value) (us : List Value) (Q : VK), Inv X pins σ H s → RelV x v → Vals xs us → r x xs H Q →
    wpAny (model X.prog X.w) X.A (call (.builtin id) (v :: us)) (EP X pins σ Q) X.xe s
theorem Vals.one : ∀ {x : V} {us : List Value}, Vals [x] us → ∃ u, us = [u] ∧ RelV x u
  | _, _, .cons r .nil => ⟨_, rfl, r⟩
theorem Vals.two : ∀ {x y : V} {us : List Value}, Vals [x, y] us → ∃ u v, us = [u, v] ∧ RelV x u ∧ RelV y v
  | _, _, _, .cons r (.cons q .nil) => ⟨_, _, rfl, r, q⟩
theorem Vals.zero : ∀ {us : List Value}, Vals [] us → us = []
  | _, .nil => rfl
theorem Vals.dropLast {xs : List V} {us : List Value} (h : Vals xs us) : Vals xs.dropLast us.dropLast := by
  induction h with
  | nil => exact .nil
  | cons r t ih =>
    cases t with
    | nil => exact .nil
    | cons q t' => exact .cons r ih
theorem Vals.eraseIdx : ∀ {xs : List V} {us : List Value} (i : Nat), Vals xs us → Vals (xs.eraseIdx i) (us.eraseIdx i)
  | _, _, _, .nil => .nil
  | _, _, 0, .cons _ t => t
  | _, _, i + 1, .cons r t => .cons r (Vals.eraseIdx i t)
theorem Vals.reverse {xs : List V} {us : List Value} (h : Vals xs us) : Vals xs.reverse us.reverse := by
  induction h with
  | nil => exact .nil
  | cons r t ih => rw [List.reverse_cons, List.reverse_cons]; exact Vals.append ih (.cons r .nil)
theorem Vals.rep {xs : List V} {us : List Value} (h : Vals xs us) : ∀ k : Nat, Vals (List.replicate k xs).flatten (List.replicate k us).flatten
  | 0 => .nil
  | k + 1 => by
    rw [List.replicate_succ, List.replicate_succ, List.flatten_cons, List.flatten_cons]
    exact Vals.append h (Vals.rep h k)
theorem len_erase {α : Type} : ∀ (l : List α) (i : Nat), (l.eraseIdx i).length ≤ l.length
  | [], _ => Nat.le_refl _
  | _ :: _, 0 => Nat.le_succ _
  | _ :: r, i + 1 => Nat.succ_le_succ (len_erase r i)
theorem foldl_rep (its : List Value) : ∀ (k : Nat) (acc : List Value),
    List.foldl (fun x1 x2 => x1 ++ x2) acc.toArray (List.replicate k its.toArray) = (acc ++ (List.replicate k its).flatten).toArray
  | 0, acc => by simp
  | k + 1, acc => by
    have e : acc.toArray ++ its.toArray = (acc ++ its).toArray := by simp
    have e2 : (acc ++ its) ++ (List.replicate k its).flatten = acc ++ (List.replicate (k + 1) its).flatten := by
      rw [List.replicate_succ, List.flatten_cons, List.append_assoc]
    rw [← e2, ← foldl_rep its k (acc ++ its), ← e, List.replicate_succ, List.foldl_cons]
section
variable {X : Cx} {pins : List (Addr × Obj)} {σ : St} {H : Hp} {s : Shared} {l b : Addr} {xs ys zs : List V}
theorem Inv.lset {its its' : List Value} {n : Nat} {f : Array Value → Array Value} {t' : Nat} (I : Inv X pins σ H s) (hH : H l = some (.lst xs))
    (e : s.heap.get? l = some { cls := .type "list", data := .seq its.toArray n }) (hf : f its.toArray = its'.toArray) (hv : Vals ys its') (hz : ys.length ≤ sizeLine) :
    Inv X pins σ (upd H l (.lst ys)) { s with heap := s.heap.update l (Obj.mapSeq f), toks := t' } := by
  have q := PySem.IsL.update e f
  rw [hf] at q
  refine I.write (x := l) (e := l) (by rw [hH]; exact trivial) (.inl rfl) (fun b' u hb hu => (Heap.get?_update_other s.heap (Obj.mapSeq f) (Ne.symm hb)).trans hu) ⟨_, q⟩ ?_
  exact ⟨hz, its', _, hv, q⟩
theorem Inv.lnew {its : List Value} {t' : Nat} (I : Inv X pins σ H s) (hv : Vals ys its) (hz : ys.length ≤ sizeLine) :
    Inv X pins σ (upd H s.heap.objs.size (.lst ys)) { s with heap := s.heap.push { cls := .type "list", data := .seq its.toArray }, toks := t' } :=
  I.laid (fun _ _ q => Heap.get?_push_of_some _ q) (Nat.le_refl _) ⟨hz, its, 0, hv, Heap.get?_push_size _ rfl⟩
theorem Inv.fresh (I : Inv X pins σ H s) : H s.heap.objs.size = none := I.hok.fresh (Nat.le_refl _)
theorem Inv.lstM (I : Inv X pins σ H s) (hH : H l = some (.lst xs)) : xs.length ≤ sizeLine ∧ ∃ (its : List Value) (n : Nat), Vals xs its ∧ xs.length = its.length ∧ s.heap.get? l = some { cls := .type "list", data := .seq its.toArray n } := by
  obtain ⟨z, its, n, r, e⟩ := I.hok l _ hH
  exact ⟨z, its, n, r, r.length, e⟩
theorem notLongL {n : Nat} (h : n ≤ sizeLine) : Builtin.List.listTooLong n = false := by
  unfold Builtin.List.listTooLong
  exact decide_eq_false (by omega)
end
section
variable {X : Cx}
noncomputable def rAppend : V → List V → Hp → VK → Prop := fun x vs H Q => ∃ l xs y, x = .ref l ∧ vs = [y] ∧ H l = some (.lst xs) ∧ xs.length < sizeLine ∧ Q .non (upd H l (.lst (xs ++ [y])))
theorem mt_append : MtM X "list.append" rAppend := by
  intro pins s σ H x vs v us Q I rx rv h
  obtain ⟨l, xs, y, rfl, rfl, hH, hz, q⟩ := h
  cases rx
  obtain ⟨u, rfl, ru⟩ := rv.one
  obtain ⟨z, its, n, r, hl, e⟩ := I.lstM hH
  refine call_meets F.slot_list_append ⟨_, e, rfl⟩ F.entry_list_append (F.args_list_append_2 _ _) (PySem.list_append l its.toArray n u (by rw [List.size_toArray]; omega)) ⟨e, ?_⟩
  refine ⟨.non, _, I.lset (its' := its ++ [u]) hH e (by simp) (r.append (.cons ru .nil)) ?_, rfl, q⟩
  rw [List.length_append, List.length_singleton]
  omega
noncomputable def rPopAt : V → List V → Hp → VK → Prop := fun x vs H Q => ∃ l xs i k y, x = .ref l ∧ vs = [.int i] ∧ H l = some (.lst xs) ∧ -(2 ^ 63) ≤ i ∧ i < 2 ^ 63 ∧ seqIndex? i xs.length = some k ∧ xs[k]? = some y ∧ Q y (upd H l (.lst (xs.eraseIdx k)))
theorem mt_popAt : MtM X "list.pop" rPopAt := by
  intro pins s σ H x vs v us Q I rx rv h
  obtain ⟨l, xs, i, k, y, rfl, rfl, hH, h1, h2, hk, hy, q⟩ := h
  cases rx
  obtain ⟨u, rfl, ru⟩ := rv.one
  obtain ⟨t, rfl⟩ := ru
  obtain ⟨z, its, n, r, hl, e⟩ := I.lstM hH
  obtain ⟨w, hw, rw'⟩ := r.get hy
  refine call_meets F.slot_list_pop ⟨_, e, rfl⟩ F.entry_list_pop (F.args_list_pop_2 _ _)
    (MeetsSeq.list_pop_at l its.toArray n i t k w (fitsIndex_both h1 h2) (by rw [List.size_toArray, ← hl]; exact hk) (by rw [← Array.getElem?_toList]; exact hw) (by rw [List.size_toArray]; omega)) ⟨e, ?_⟩
  refine ⟨y, _, I.lset (its' := its.eraseIdx k) hH e ?_ (r.eraseIdx k) ?_, rw', q⟩
  · show its.toArray.eraseIdxIfInBounds k = (its.eraseIdx k).toArray
    rw [List.eraseIdxIfInBounds_toArray]
  · have := len_erase xs k
    omega
noncomputable def rCat : R2 := fun x y H Q => ∃ l b xs zs, x = .ref l ∧ y = .ref b ∧ H l = some (.lst xs) ∧ H b = some (.lst zs) ∧ xs.length + zs.length ≤ sizeLine ∧ ∀ p, H p = none → Q (.ref p) (upd H p (.lst (xs ++ zs)))
theorem op_cat : OpR X (binaryOp .Add) rCat := by
  intro pins s σ H x y v u Q I rx ry h
  obtain ⟨l, b, xs, zs, rfl, rfl, hH, hB, hz, q⟩ := h
  cases rx
  cases ry
  obtain ⟨z, its, n, r, hl, e⟩ := I.lstM hH
  obtain ⟨z2, its2, n2, r2, hl2, e2⟩ := I.lstM hB
  refine PySem.P.add_list e e2 ?_ (by rw [List.size_toArray, List.size_toArray]; omega)
  have ea : its.toArray ++ its2.toArray = (its ++ its2).toArray := by simp
  rw [ea]
  exact ⟨.ref _, _, I.lnew (t' := s.toks) (r.append r2) (by rw [List.length_append]; omega), rfl, q _ I.fresh⟩
noncomputable def rRep : R2 := fun x y H Q => ∃ l k xs, x = .ref l ∧ y = .int k ∧ H l = some (.lst xs) ∧ -(2 ^ 63) ≤ k ∧ k < 2 ^ 63 ∧ xs.length * k.toNat ≤ sizeLine ∧
  ∀ p, H p = none → Q (.ref p) (upd H p (.lst (List.replicate k.toNat xs).flatten))
theorem len_rep {α : Type} (xs : List α) (k : Nat) : (List.replicate k xs).flatten.length = k * xs.length := by
  induction k with
  | zero => simp
  | succ k ih => rw [List.replicate_succ, List.flatten_cons, List.length_append, ih, Nat.succ_mul, Nat.add_comm]
theorem op_rep : OpR X (binaryOp .Mult) rRep := by
  intro pins s σ H x y v u Q I rx ry h
  obtain ⟨l, k, xs, rfl, rfl, hH, h1, h2, hz, q⟩ := h
  cases rx
  obtain ⟨t, rfl⟩ := ry
  obtain ⟨z, its, n, r, hl, e⟩ := I.lstM hH
  have hlen : its.toArray.size * k.toNat ≤ sizeLine := by rw [List.size_toArray, ← hl]; exact hz
  have hcap : ¬ its.toArray.size * k.toNat > (2 ^ 63 - 1) / 8 := by
    have : (sizeLine : Nat) ≤ (2 ^ 63 - 1) / 8 := by decide
    omega
  have hfit : ¬ (!Builtin.List.listFitsIndex k) = true := by
    rw [fitsIndex_both h1 h2]
    exact Bool.false_ne_true
  have hlong : ¬ Builtin.List.listTooLong (its.toArray.size * k.toNat) = true := by
    rw [notLongL hlen]
    exact Bool.false_ne_true
  have hnew : List.foldl (fun x1 x2 => x1 ++ x2) #[] (List.replicate (if its.toArray.isEmpty = true then 0 else k.toNat) its.toArray) = (List.replicate k.toNat its).flatten.toArray := by
    have f0 : ∀ m : Nat, List.foldl (fun x1 x2 => x1 ++ x2) #[] (List.replicate m its.toArray) = (List.replicate m its).flatten.toArray := fun m => by
      have := foldl_rep its m []
      rw [List.nil_append] at this
      exact this
    rw [f0]
    cases its with
    | nil => simp
    | cons a r' => rw [if_neg (by simp)]
  refine wpAny_binaryOp_repeat_ref (T := "list") (U := "int") (by decide) ⟨_, e, rfl⟩ (fun s' => typeIs_int s' k t) noFill_list_mul F.fills_int_mul F.slot_int_rmul repeat_list F.slot_int_index.lookup
    (call_meets F.slot_int_rmul (typeIs_int s k t) F.entry_int_rmul (F.args_int_rmul_2 _ _) (int___rmul___int_list k t l its.toArray n)
      ⟨e, rfl, ⟨_, e, rfl⟩, call_meets F.slot_list_mul ⟨_, e, rfl⟩ F.entry_list_mul (F.args_list_mul_2 _ _) (AutoListH.list___mul___list_int_3 l its.toArray n k t hfit hcap hlong) ⟨e, ?_⟩⟩)
  rw [hnew]
  exact ⟨.ref _, _, I.lnew (t' := s.toks) (r.rep k.toNat) (by rw [len_rep, Nat.mul_comm]; exact hz), rfl, q _ I.fresh⟩
end
section
variable {prog : Program} {w : World} {A : Around} {E : Value → Shared → Prop} {s : Shared}
set_option maxRecDepth 100000 in
end
section
variable {X : Cx}
end
end L2
namespace Att
open PySem PySem.W PySem.Calls PyProof.Rows
theorem ints_of_wellAll {P : Params} {h : Heap} : ∀ (ns : List Int) (vs : List Value), WellAll P h vs (ns.map WData.int) → IntsAre vs ns := by
  intro ns
  induction ns with
  | nil =>
    intro vs w
    rw [List.map_nil] at w
    cases w
    exact .nil
  | cons n ns ih =>
    intro vs w
    rw [List.map_cons] at w
    cases w with
    | cons a b =>
      cases a
      exact .cons _ _ (ih _ b)
theorem script_of {l : OpenLaw} {n : Nat} (hn : l.most = some n) {P : Params} {h : Heap} {args : List WData} {vals : List Value}
    (hpre : l.row.toRowW.claim.pre args = true) (hwl : WellAll P h vals args) :
    ∃ a vs ns, vals = [Value.ref a] ∧ args = [WData.list (ns.map WData.int)] ∧ h.get? a = some { cls := .type "list", data := .seq vs.toArray } ∧ IntsAre vs ns ∧ ns.length ≤ n := by
  have hsh : WShape.hasAll [] args [.list .int] = true := (pre_splitW hpre).1
  have hc : l.pre.holds [] { args := args } = true := (pre_splitW hpre).2
  obtain ⟨d, r, rfl, h1, h2⟩ := hasAllW_cons hsh
  obtain rfl := hasAllW_nil h2
  obtain ⟨xs, rfl, h3⟩ := hasW_list h1
  obtain ⟨ns, rfl⟩ := items_int h3
  have hlen : ns.length ≤ n := by
    unfold OpenLaw.pre at hc
    have h4 : (WTm.not (.lt (.lit (.int (n : Int))) (.len (.arg 0)))).holds [] { args := [.list (ns.map .int)] } = true := by
      have h4 := (holds_andW hc).1
      rw [hn] at h4
      exact h4
    have h5 := condW_of h4 (w_not (w_lt w_lit (w_len_list (w_arg rfl))))
    rw [List.length_map] at h5
    refine Nat.le_of_not_lt fun q => ?_
    have q' : (n : Int) < ((ns.length : Nat) : Int) := by omega
    first
      | (rw [decide_eq_true q'] at h5; exact absurd h5 (by decide))
      | (simp at h5; omega)
  cases hwl with
  | cons w1 w2 =>
    cases w2
    cases w1 with
    | list ho hall => exact ⟨_, _, ns, rfl, rfl, ho, ints_of_wellAll ns _ hall, hlen⟩
theorem post_true (l : OpenLaw) (args : List WData) : l.row.toRowW.claim.post args (.bool true) args = true :=
  postW_of (r := l.row.toRowW) (X := (true == true))
    (show WShape.has [] (.bool true) .bool = true by first | rfl | decide | simp [WShape.has, WShape.arms, WShape.armsAll])
    (show (WTm.eq .res (.lit (.bool true))).value [] { args := args, res := some (.bool true), after := args } = some (.bool (true == true)) from w_eq_bool (w_res rfl) w_lit) rfl
theorem attach_call {l : OpenLaw} {n : Nat} {q : Program} {loose : List Str} {XP : (Str → Option Value) → Heap → Prop} {YP : World → Heap → Prop} {d : DefRec}
    (hn : l.most = some n) (hdf : d.params.defaults = [])
    (call : ∀ (w : World) (s₀ s₁ : Shared) (mg mb : Str → Option Value) (fa : Addr) (o : Obj) (pm cd doc : Value) (a : Addr) (vs : List Value) (ns : List Int),
      Ground q loose [] XP w s₀ mg mb s₁.heap → YP w s₁.heap →
      s₁.heap.get? fa = some o → o.data = .func (docDef d.name d.params d.body d.scope pm cd doc) → s₁.heap.CodeRec cd d.name → mg d.name = some (.ref fa) →
      s₁.heap.get? a = some { cls := .type "list", data := .seq vs.toArray } → IntsAre vs ns → ns.length ≤ n → s₁.gens = #[] →
      codeAny (model l.prog w) callerA (.call (.ref fa) ⟨[.ref a], []⟩) (fun r s' => r = .ok (.ret (.bool true)) ∧ OldK s₁.heap s'.heap ∧ s'.os = s₁.os ∧ AllBare s'.gens) s₁) :
    WalkO q loose XP YP l.row.toRowW d [] (fun f vs => PySem.call f vs) := by
  intro w s₀ s₁ mg mb G Y fa o pm cd doc dV kV ho hd hcd hD hmg hg args vals as hpre hlay hrd hwl hlo
  obtain rfl : dV = .none := Dflts.none hD hdf
  obtain rfl : kV = .none := Dflts.noKw hD
  obtain ⟨a, vs, ns, rfl, rfl, hobj, hints, hlen⟩ := script_of hn hpre hwl
  refine enter_call (codeAny_mono (call w s₀ s₁ mg mb fa o pm cd doc a vs ns G Y ho (fd_plain hd) hcd hmg hobj hints hlen hg) fun r s' hq => ?_)
  obtain ⟨rfl, h2, h3, h4⟩ := hq
  exact ⟨.inl ⟨.bool true, .bool true, [], rfl, fun _ => rfl, .bool true, post_true l _, fun _ => ⟨List.Pairwise.nil, fun _ hm => (nomatch hm)⟩⟩, h2, h3, h4⟩
section
variable {prog : Program} {w : World} {A : Around} {E : Value → Shared → Prop} {s : Shared} {K : Frag}
end
end Att
namespace L2
open PySem PySem.Spec PyProof.Rows
theorem vals_ints : ∀ {vs : List Value} {ns : List Int}, IntsAre vs ns → Vals (ns.map V.int) vs
  | _, _, .nil => .nil
  | _, _, .cons n t h => .cons ⟨t, rfl⟩ (vals_ints h)
end L2
namespace L2
open PySem PySem.Spec PyProof.Rows
end L2
namespace L2
open PySem PySem.Spec PyProof.Rows
noncomputable def defArgs (s : Stmt) : Arguments := match s with
  | .FunctionDef _ a _ _ _ _ _ _ _ _ => a
  | _ => { posonlyargs := [], args := [], vararg := none, kwonlyargs := [], kw_defaults := [], kwarg := none, defaults := [] }
noncomputable def defBody (s : Stmt) : List Stmt := match s with
  | .FunctionDef _ _ b _ _ _ _ _ _ _ => b
  | _ => []
noncomputable def defScope (s : Stmt) : Scope := match s with
  | .FunctionDef _ _ _ _ _ _ sc _ _ _ => sc
  | _ => { kind := .function, names := [], isGenerator := false, isCoroutine := false }
noncomputable abbrev CX0 : CXT := fun _ _ _ _ _ _ => False
structure Fun (K : PySem.W.Frag) (x qual : Str) (st : Stmt) (f : Addr) (fd : FuncData) : Prop where
  ex : ∃ (oc : Value) (od : Option Addr) (kV doc pm : Value) (an : Option Addr) (cdv ct : Value) (osl : Array (Option Value)),
    fd = PySem.W.fnOf x qual (defArgs st) (defBody st) (defScope st) .none kV doc pm an cdv ct ∧ K.lookup f = some ⟨oc, od, .func fd, osl⟩ ∧ PySem.W.codeIn K cdv qual = true
  kp : PySem.W.keepIn K (.ref f) = true
section
variable {P : Program} {w : World} {K : PySem.W.Frag} {mg : Str → Option Value} {base : Heap}
theorem Fun.ok {x qual : Str} {st : Stmt} {f : Addr} {fd : FuncData} {N ps : List Str} {k : Nat} {sp : Sp} (F : Fun K x qual st f fd) (S : FnScope N ps (defScope st)) (len : ∀ vs H Q E, sp vs H Q E → vs.length = ps.length)
    (hbody : ∀ (cdv : Value) (A : Around) (outer : List Env) (s : Shared) (H : Hp) (vs : List V) (Q : VK) (E : XK), Room k (A.deeper (envOfC qual (defScope st) s.heap.objs.size f cdv)) → sp vs H Q E →
      ∃ t, PSs (cxOf CX0 P w K mg base N qual (defScope st) f cdv A outer s H E).nox (defBody st) t ∧ t { nx := fun _ H' => Q .non H', rt := Q } (start N vs) H) : FnOk P w K mg base CX0 (k + 1) f fd ps sp := by
  obtain ⟨oc, od, kV, doc, pm, an, cdv, ct, osl, rfl, lk, hcd⟩ := F.ex
  refine fn_of lk hcd S len fun A outer s H vs Q E hr hsp => ?_
  obtain ⟨t, h, q⟩ := hbody cdv A outer s H vs Q E hr hsp
  exact ⟨t, h.nox, q⟩
theorem Fun.binds {x qual : Str} {st : Stmt} {f : Addr} {fd : FuncData} {ps : List Str} (F : Fun K x qual st f fd)
    (h : ∀ (kV doc pm : Value) (an : Option Addr) (cdv ct : Value) (us : List Value), us.length = ps.length → bindArgs (PySem.W.fnOf x qual (defArgs st) (defBody st) (defScope st) .none kV doc pm an cdv ct) ⟨us, []⟩ = pure (ps.zip us)) : Binds K fd ps [] := by
  obtain ⟨oc, od, kV, doc, pm, an, cdv, ct, osl, rfl, lk, hcd⟩ := F.ex
  exact .all (h kV doc pm an cdv ct)
theorem fun_mk {x qual : Str} {st : Stmt} {f : Addr} {oc : Value} {od an : Option Addr} {osl : Array (Option Value)} {kV doc pm cdv ct : Value} (l : K.lookup f = some ⟨oc, od, .func (PySem.W.fnOf x qual (defArgs st) (defBody st) (defScope st) .none kV doc pm an cdv ct), osl⟩)
    (c : PySem.W.codeIn K cdv qual = true) (k : PySem.W.keepIn K (.ref f) = true) : Fun K x qual st f (PySem.W.fnOf x qual (defArgs st) (defBody st) (defScope st) .none kV doc pm an cdv ct) := ⟨⟨oc, od, kV, doc, pm, an, cdv, ct, osl, rfl, l, c⟩, k⟩
end
section
variable {X : Cx}
end
theorem iteF {A B : Prop} (h : B) : if false = true then A else B := by
  rw [if_neg Bool.false_ne_true]
  exact h
theorem iteT {A B : Prop} (h : A) : if true = true then A else B := by
  rw [if_pos rfl]
  exact h
noncomputable def Same (H H' : Hp) : Prop := ∀ b o, H b = some o → H' b = some o
theorem Same.refl (H : Hp) : Same H H := fun _ _ h => h
theorem Same.trans {H H1 H2 : Hp} (a : Same H H1) (b : Same H1 H2) : Same H H2 := fun c o h => b c o (a c o h)
theorem Same.free {H H' : Hp} (e : Same H H') {l : Addr} (h : H' l = Option.none) : H l = Option.none := by
  cases q : H l with
  | none => rfl
  | some o =>
    rw [e l o q] at h
    cases h
theorem Same.seq {K : PySem.W.Frag} {H H' : Hp} {a : Addr} {xs : List V} (e : Same H H') (h : SqL K H a xs) : SqL K H' a xs := by
  rcases h with (h | ⟨o, h⟩) | h
  · exact .inl (.inl (e _ _ h))
  · exact .inl (.inr ⟨o, e _ _ h⟩)
  · exact .inr h
end L2
end
section
set_option Elab.async false
set_option linter.all false
set_option maxRecDepth 100000
/-! PURE VALUES over the hand layer: what a def does, as a function of plain data. -/
namespace PV
open PySem PySem.Spec L2
/-- plain data -/
inductive Dt where
  | non | bl (b : Bool) | int (i : Int) | str (x : Str) | tup (l : List Dt) | lst (l : List Dt) | dct | scr (ns : List Int)
/-- what a name holds: data that nobody changes, a list of one's own, a list of lists of one's own; (no name:) the table of the codes of the lambdas, whose full name is q; a thing of which nothing is known; an error of the class at C -/
inductive B where
  | val (d : Dt) | own (l : List Dt) | own2 (l : List (List Dt)) | tab (q : Str) | opq | exc (C : Addr)
noncomputable abbrev Ev := List (Option B)
/-- an answer, an error by its number, or nothing said -/
inductive R (α : Type) where
  | ok (a : α) | er (n : Nat) | no
noncomputable def R.bind {α β : Type} (r : R α) (f : α → R β) : R β := match r with
  | .ok a => f a
  | .er n => .er n
  | .no => .no
@[simp] theorem R.bind_ok {α β : Type} (a : α) (f : α → R β) : (R.ok a).bind f = f a := rfl
@[simp] theorem R.bind_er {α β : Type} (n : Nat) (f : α → R β) : (R.er n).bind f = .er n := rfl
@[simp] theorem R.bind_no {α β : Type} (f : α → R β) : (R.no).bind f = .no := rfl
theorem R.bind_assoc {α β γ : Type} (r : R α) (f : α → R β) (g : β → R γ) : (r.bind f).bind g = r.bind fun a => (f a).bind g := by
  cases r <;> rfl
/-- a tuple that is tracked, or one of the module's -/
noncomputable def SqTP (K : PySem.W.Frag) (H : Hp) (a : Addr) (xs : List V) : Prop :=
  H a = some (.tup xs) ∨ ∃ (its : Array Value) (n : Nat), K.lookup a = some { cls := .type "tuple", data := .seq its n } ∧ its.size ≤ sizeLine ∧ Vals xs its.toList
theorem SqTP.of {K : PySem.W.Frag} {H : Hp} {a : Addr} {xs : List V} (h : H a = some (.tup xs)) : SqTP K H a xs := .inl h
theorem SqTP.sq {K : PySem.W.Frag} {H : Hp} {a : Addr} {xs : List V} (h : SqTP K H a xs) : SqT K H a xs := by
  rcases h with h | ⟨its, n, h1, h2, h3⟩
  · exact .inl (.inl h)
  · exact .inr ⟨_, its, n, h1, rfl, rfl, h2, h3⟩
theorem SqTP.same {K : PySem.W.Frag} {H H' : Hp} {a : Addr} {xs : List V} (e : Same H H') (h : SqTP K H a xs) : SqTP K H' a xs := h.elim (fun z => .inl (e _ _ z)) .inr
mutual
noncomputable def Rep (K : PySem.W.Frag) (G : Hp) : Dt → V → Prop
  | .non, v => v = .non
  | .bl b, v => v = .bl b
  | .int i, v => v = .int i
  | .str x, v => v = .str x
  | .tup l, v => ∃ a vs, v = .ref a ∧ SqTP K G a vs ∧ Reps K G l vs
  | .lst l, v => ∃ a vs, v = .ref a ∧ G a = some (.lst vs) ∧ Reps K G l vs
  | .dct, v => ∃ a, v = .ref a ∧ G a = some (.dK [])
  | .scr ns, v => ∃ a, v = .ref a ∧ SqL K G a (ns.map V.int)
noncomputable def Reps (K : PySem.W.Frag) (G : Hp) : List Dt → List V → Prop
  | [], vs => vs = []
  | d :: ds, vs => ∃ v r, vs = v :: r ∧ Rep K G d v ∧ Reps K G ds r
end
theorem sqT_same {K : PySem.W.Frag} {H H' : Hp} {a : Addr} {xs : List V} (e : Same H H') (h : SqT K H a xs) : SqT K H' a xs := by
  rcases h with (h | ⟨o, h⟩) | h
  · exact .inl (.inl (e _ _ h))
  · exact .inl (.inr ⟨o, e _ _ h⟩)
  · exact .inr h
mutual
theorem Rep.same {K : PySem.W.Frag} {G G' : Hp} (e : Same G G') : ∀ {d : Dt} {v : V}, Rep K G d v → Rep K G' d v
  | .non, _, h => by unfold Rep at h ⊢; exact h
  | .bl _, _, h => by unfold Rep at h ⊢; exact h
  | .int _, _, h => by unfold Rep at h ⊢; exact h
  | .str _, _, h => by unfold Rep at h ⊢; exact h
  | .tup l, _, h => by
    unfold Rep at h ⊢
    obtain ⟨a, vs, h1, h2, h3⟩ := h
    exact ⟨a, vs, h1, h2.same e, Reps.same e h3⟩
  | .lst l, _, h => by
    unfold Rep at h ⊢
    obtain ⟨a, vs, h1, h2, h3⟩ := h
    exact ⟨a, vs, h1, e _ _ h2, Reps.same e h3⟩
  | .dct, _, h => by
    unfold Rep at h ⊢
    obtain ⟨a, h1, h2⟩ := h
    exact ⟨a, h1, e _ _ h2⟩
  | .scr ns, _, h => by
    unfold Rep at h ⊢
    obtain ⟨a, h1, h2⟩ := h
    exact ⟨a, h1, e.seq h2⟩
theorem Reps.same {K : PySem.W.Frag} {G G' : Hp} (e : Same G G') : ∀ {ds : List Dt} {vs : List V}, Reps K G ds vs → Reps K G' ds vs
  | [], _, h => by unfold Reps at h ⊢; exact h
  | d :: ds, _, h => by
    unfold Reps at h ⊢
    obtain ⟨v, r, h1, h2, h3⟩ := h
    exact ⟨v, r, h1, Rep.same e h2, Reps.same e h3⟩
end
theorem Reps.nil {K : PySem.W.Frag} {G : Hp} : Reps K G [] [] := by unfold Reps; rfl
theorem Reps.cons {K : PySem.W.Frag} {G : Hp} {d : Dt} {ds : List Dt} {v : V} {vs : List V} (h : Rep K G d v) (t : Reps K G ds vs) : Reps K G (d :: ds) (v :: vs) := by
  unfold Reps; exact ⟨v, vs, rfl, h, t⟩
theorem Reps.nil_inv {K : PySem.W.Frag} {G : Hp} {vs : List V} (h : Reps K G [] vs) : vs = [] := by unfold Reps at h; exact h
theorem Reps.cons_inv {K : PySem.W.Frag} {G : Hp} {d : Dt} {ds : List Dt} {vs : List V} (h : Reps K G (d :: ds) vs) : ∃ v r, vs = v :: r ∧ Rep K G d v ∧ Reps K G ds r := by unfold Reps at h; exact h
theorem Reps.length {K : PySem.W.Frag} {G : Hp} : ∀ {ds : List Dt} {vs : List V}, Reps K G ds vs → ds.length = vs.length
  | [], _, h => by rw [h.nil_inv]; rfl
  | d :: ds, _, h => by
    obtain ⟨v, r, rfl, _, h3⟩ := h.cons_inv
    simp [Reps.length h3]
theorem Reps.get {K : PySem.W.Frag} {G : Hp} : ∀ {ds : List Dt} {vs : List V} {i : Nat} {d : Dt}, Reps K G ds vs → ds[i]? = some d → ∃ v, vs[i]? = some v ∧ Rep K G d v
  | [], _, _, _, _, e => by simp at e
  | d :: ds, _, 0, _, h, e => by
    obtain ⟨v, r, rfl, h2, h3⟩ := h.cons_inv
    simp at e; subst e
    exact ⟨v, rfl, h2⟩
  | d :: ds, _, i + 1, _, h, e => by
    obtain ⟨v, r, rfl, h2, h3⟩ := h.cons_inv
    obtain ⟨u, e1, e2⟩ := Reps.get (i := i) h3 (by simpa using e)
    exact ⟨u, by simpa using e1, e2⟩
theorem Reps.append {K : PySem.W.Frag} {G : Hp} : ∀ {ds es : List Dt} {vs us : List V}, Reps K G ds vs → Reps K G es us → Reps K G (ds ++ es) (vs ++ us)
  | [], _, _, _, h, t => by rw [h.nil_inv]; exact t
  | d :: ds, _, _, _, h, t => by
    obtain ⟨v, r, rfl, h2, h3⟩ := h.cons_inv
    exact Reps.cons h2 (Reps.append h3 t)
theorem Reps.take {K : PySem.W.Frag} {G : Hp} : ∀ (n : Nat) {ds : List Dt} {vs : List V}, Reps K G ds vs → Reps K G (ds.take n) (vs.take n)
  | 0, _, _, _ => by simpa using Reps.nil
  | n + 1, [], _, h => by rw [h.nil_inv]; simpa using Reps.nil
  | n + 1, d :: ds, _, h => by
    obtain ⟨v, r, rfl, h2, h3⟩ := h.cons_inv
    exact Reps.cons h2 (Reps.take n h3)
theorem Reps.drop {K : PySem.W.Frag} {G : Hp} : ∀ (n : Nat) {ds : List Dt} {vs : List V}, Reps K G ds vs → Reps K G (ds.drop n) (vs.drop n)
  | 0, _, _, h => h
  | n + 1, [], _, h => by rw [h.nil_inv]; simpa using Reps.nil
  | n + 1, d :: ds, _, h => by
    obtain ⟨v, r, rfl, h2, h3⟩ := h.cons_inv
    exact Reps.drop n h3
theorem Reps.reverse {K : PySem.W.Frag} {G : Hp} : ∀ {ds : List Dt} {vs : List V}, Reps K G ds vs → Reps K G ds.reverse vs.reverse
  | [], _, h => by rw [h.nil_inv]; exact Reps.nil
  | d :: ds, _, h => by
    obtain ⟨v, r, rfl, h2, h3⟩ := h.cons_inv
    rw [List.reverse_cons, List.reverse_cons]
    exact (Reps.reverse h3).append (Reps.cons h2 Reps.nil)
theorem Reps.set {K : PySem.W.Frag} {G : Hp} {d : Dt} {v : V} (hv : Rep K G d v) : ∀ (i : Nat) {ds : List Dt} {vs : List V}, Reps K G ds vs → Reps K G (ds.set i d) (vs.set i v)
  | _, [], _, h => by rw [h.nil_inv]; exact Reps.nil
  | 0, d' :: ds, _, h => by
    obtain ⟨v, r, rfl, h2, h3⟩ := h.cons_inv
    exact Reps.cons hv h3
  | i + 1, d' :: ds, _, h => by
    obtain ⟨v, r, rfl, h2, h3⟩ := h.cons_inv
    exact Reps.cons h2 (Reps.set hv i h3)
theorem Reps.eraseIdx {K : PySem.W.Frag} {G : Hp} : ∀ (i : Nat) {ds : List Dt} {vs : List V}, Reps K G ds vs → Reps K G (ds.eraseIdx i) (vs.eraseIdx i)
  | _, [], _, h => by rw [h.nil_inv]; exact Reps.nil
  | 0, d' :: ds, _, h => by
    obtain ⟨v, r, rfl, h2, h3⟩ := h.cons_inv
    exact h3
  | i + 1, d' :: ds, _, h => by
    obtain ⟨v, r, rfl, h2, h3⟩ := h.cons_inv
    exact Reps.cons h2 (Reps.eraseIdx i h3)
theorem Reps.dropLast {K : PySem.W.Frag} {G : Hp} {ds : List Dt} {vs : List V} (h : Reps K G ds vs) : Reps K G ds.dropLast vs.dropLast := by
  rw [List.dropLast_eq_take, List.dropLast_eq_take, h.length]; exact h.take _
/-! ### whose an address is -/
noncomputable abbrev Wn := Addr → Option Nat
structure Step (G H : Hp) (w : Wn) (G' H' : Hp) (w' : Wn) : Prop where
  g : Same G G'
  fr : ∀ b o, G' b = some o → G b ≠ none ∨ H b = none ∨ w b ≠ none
  h : ∀ b o, H b = some o → w b = none → H' b = some o
  w : ∀ b, w' b ≠ none → w b ≠ none ∨ H b = none
  k : ∀ b, H' b = none → H b = none
theorem Step.refl (G H : Hp) (w : Wn) : Step G H w G H w :=
  ⟨Same.refl G, fun b o e => .inl (by rw [e]; simp), fun _ _ e _ => e, fun _ e => .inl e, fun _ e => e⟩
theorem Step.trans {G H G1 H1 G2 H2 : Hp} {w w1 w2 : Wn} (a : Step G H w G1 H1 w1) (b : Step G1 H1 w1 G2 H2 w2) : Step G H w G2 H2 w2 := by
  have hn := a.k
  refine ⟨a.g.trans b.g, fun c o e => ?_, fun c o e z => ?_, fun c e => ?_, fun c e => a.k c (b.k c e)⟩
  · rcases b.fr c o e with q | q | q
    · cases q' : G1 c with
      | none => exact absurd q' q
      | some u => exact a.fr c u q'
    · exact .inr (.inl (hn c q))
    · rcases a.w c q with z | z
      · exact .inr (.inr z)
      · exact .inr (.inl z)
  · have e1 := a.h c o e z
    refine b.h c o e1 ?_
    cases q : w1 c with
    | none => rfl
    | some k =>
      rcases a.w c (by rw [q]; simp) with r | r
      · exact absurd z r
      · rw [e] at r; cases r
  · rcases b.w c e with q | q
    · exact a.w c q
    · exact .inr (hn c q)
/-- a context: the entry; names that are not stored anew; the errors that may leave, and their classes -/
structure Cn where
  G₀ : Hp
  H₀ : Hp
  w₀ : Wn
  pp : List Nat
  σ₀ : St
  ex : Nat → Prop
  xv : Nat → Value
  nw : Bool
/-- what comes back: data, or a list that nobody else has -/
noncomputable def RtG (nw : Bool) (K : PySem.W.Frag) (H0 G H : Hp) (w : Wn) (d : Dt) (v : V) : Prop := match nw with
  | false => Rep K G d v
  | true => ∃ l p vs, d = .lst l ∧ v = .ref p ∧ H0 p = none ∧ H p = some (.lst vs) ∧ G p = none ∧ w p = none ∧ Reps K G l vs
/-- a lambda's code; an error that was caught -/
noncomputable def cHO (c : Addr) (q : Str) : HO := .ext fun h => h.CodeRec (.ref c) q
noncomputable def xHO (l C : Addr) : HO := .ext fun h => ∃ o vs, h.get? l = some o ∧ o.cls = .ref C ∧ o.data = .fields vs
noncomputable def RB (K : PySem.W.Frag) (G H : Hp) (w : Wn) (i : Nat) (v : V) : B → Prop
  | .val d => Rep K G d v
  | .own ds => ∃ a vs, v = .ref a ∧ w a = some i ∧ H a = some (.lst vs) ∧ Reps K G ds vs
  | .own2 dss => ∃ a as, v = .ref a ∧ w a = some i ∧ H a = some (.lst (as.map V.ref)) ∧ (a :: as).Nodup ∧ Paired (fun b ds => w b = some i ∧ ∃ vs, H b = some (.lst vs) ∧ Reps K G ds vs) as dss
  | .tab q => ∃ P ps, v = .ref P ∧ w P = some i ∧ H P = some (.tbl ps) ∧ TriplesOk ps.toList ∧ ∀ pos cv, codeAmong pos ps.toList = some cv → ∃ c, cv = .ref c ∧ G c = some (cHO c q)
  | .opq => True
  | .exc C => ∃ l, v = .ref l ∧ G l = some (xHO l C)
structure Rel (K : PySem.W.Frag) (C : Cn) (G : Hp) (w : Wn) (ρ : Ev) (σ : St) (H : Hp) : Prop where
  gh : Same G H
  wg : ∀ b, w b ≠ none → G b = none
  wh : ∀ b, w b ≠ none → H b ≠ none
  len : ρ.length = σ.length
  sl : ∀ i b, ρ[i]? = some (some b) → ∃ v, σ[i]? = some (some v) ∧ RB K G H w i v b
  en : Step C.G₀ C.H₀ C.w₀ G H w
  pin : ∀ i ∈ C.pp, σ[i]? = C.σ₀[i]?
/-- nothing but new things -/
structure Grow (G H G' H' : Hp) : Prop where
  g : Same G G'
  h : Same H H'
  gh : Same G' H'
  fr : ∀ b o, G' b = some o → G b ≠ none ∨ H b = none
theorem Grow.refl {G H : Hp} (e : Same G H) : Grow G H G H := ⟨.refl _, .refl _, e, fun b o q => .inl (by rw [q]; simp)⟩
theorem Grow.trans {G H G1 H1 G2 H2 : Hp} (a : Grow G H G1 H1) (b : Grow G1 H1 G2 H2) : Grow G H G2 H2 :=
  ⟨a.g.trans b.g, a.h.trans b.h, b.gh, fun c o e => by
    rcases b.fr c o e with q | q
    · cases q' : G1 c with
      | none => exact absurd q' q
      | some u => exact a.fr c u q'
    · exact .inr (a.h.free q)⟩
theorem Grow.step {G H G' H' : Hp} {w : Wn} (a : Grow G H G' H') : Step G H w G' H' w :=
  ⟨a.g, fun b o e => (a.fr b o e).elim .inl fun z => .inr (.inl z), fun b o e _ => a.h b o e, fun _ e => .inl e, fun _ e => a.h.free e⟩
theorem paired_imp {α β : Type} {F F' : α → β → Prop} (f : ∀ a b, F a b → F' a b) : ∀ {l₁ : List α} {l₂ : List β}, Paired F l₁ l₂ → Paired F' l₁ l₂
  | _, _, .nil => .nil
  | _, _, .cons r t => .cons (f _ _ r) (paired_imp f t)
theorem RB.grow {K : PySem.W.Frag} {G H G' H' : Hp} {w w' : Wn} {i j : Nat} {v : V} {b : B} (g : Same G G') (h : ∀ a o, w a = some i → H a = some o → H' a = some o ∧ w' a = some j) (r : RB K G H w i v b) : RB K G' H' w' j v b := by
  cases b with
  | val d => exact Rep.same g r
  | own ds =>
    obtain ⟨a, vs, h1, h2, h3, h4⟩ := r
    obtain ⟨e1, e2⟩ := h a _ h2 h3
    exact ⟨a, vs, h1, e2, e1, Reps.same g h4⟩
  | own2 dss =>
    obtain ⟨a, as, h1, h2, h3, h4, h5⟩ := r
    obtain ⟨e1, e2⟩ := h a _ h2 h3
    refine ⟨a, as, h1, e2, e1, h4, paired_imp (fun b ds ⟨q1, vs, q2, q3⟩ => ?_) h5⟩
    obtain ⟨e1, e2⟩ := h b _ q1 q2
    exact ⟨e2, vs, e1, Reps.same g q3⟩
  | tab q =>
    obtain ⟨P, ps, h1, h2, h3, h4, h5⟩ := r
    obtain ⟨e1, e2⟩ := h P _ h2 h3
    exact ⟨P, ps, h1, e2, e1, h4, fun pos cv e => let ⟨c, q1, q2⟩ := h5 pos cv e; ⟨c, q1, g _ _ q2⟩⟩
  | opq => exact trivial
  | exc C =>
    obtain ⟨l, h1, h2⟩ := r
    exact ⟨l, h1, g _ _ h2⟩
theorem Rel.grow {K : PySem.W.Frag} {C : Cn} {G H G' H' : Hp} {w : Wn} {ρ : Ev} {σ : St} (r : Rel K C G w ρ σ H) (a : Grow G H G' H') : Rel K C G' w ρ σ H' := by
  refine ⟨a.gh, fun b e => ?_, fun b e z => r.wh b e (a.h.free z), r.len, fun i b e => ?_, r.en.trans a.step, r.pin⟩
  · cases q : G' b with
    | none => rfl
    | some o =>
      rcases a.fr b o q with z | z
      · exact absurd (r.wg b e) z
      · exact absurd z (r.wh b e)
  · obtain ⟨v, h1, h2⟩ := r.sl i b e
    exact ⟨v, h1, h2.grow a.g fun a' o e1 e2 => ⟨a.h _ _ e2, e1⟩⟩
/-- a new tracked object, known to all -/
theorem Grow.new {G H : Hp} {p : Addr} {o : HO} (gh : Same G H) (hp : H p = none) : Grow G H (upd G p o) (upd H p o) := by
  refine ⟨fun b u e => ?_, fun b u e => ?_, fun b u e => ?_, fun b u e => ?_⟩
  · rw [upd_ne (ne_of_none (gh b u e) hp)]; exact e
  · rw [upd_ne (ne_of_none e hp)]; exact e
  · by_cases hb : b = p
    · subst hb; rw [upd_same] at e ⊢; exact e
    · rw [upd_ne hb] at e ⊢; exact gh b u e
  · by_cases hb : b = p
    · subst hb; exact .inr hp
    · rw [upd_ne hb] at e; exact .inl (by rw [e]; simp)
/-- a new tracked object, known to nobody yet -/
theorem Grow.newH {G H : Hp} {p : Addr} {o : HO} (gh : Same G H) (hp : H p = none) : Grow G H G (upd H p o) := by
  refine ⟨.refl _, fun b u e => ?_, fun b u e => ?_, fun b u e => .inl (by rw [e]; simp)⟩
  · rw [upd_ne (ne_of_none e hp)]; exact e
  · rw [upd_ne (ne_of_none (gh b u e) hp)]; exact gh b u e
/-! ### readings -/
/-- what is wanted of an answer -/
noncomputable def Post {α : Type} (ex : Nat → Prop) (κ : α → Prop) : R α → Prop
  | .ok a => κ a
  | .er n => ex n
  | .no => False
noncomputable def kE (K : PySem.W.Frag) (C : Cn) (σ : St) (Q : VK) (G H : Hp) (w : Wn) (a : Dt × Ev) : Prop :=
  ∀ v G' H' w', Step G H w G' H' w' → Rel K C G' w' a.2 σ H' → Rep K G' a.1 v → Q v H'
noncomputable def kT (K : PySem.W.Frag) (C : Cn) (σ : St) (Q : Bool → Hp → Prop) (G H : Hp) (w : Wn) (a : Bool × Ev) : Prop :=
  ∀ G' H' w', Step G H w G' H' w' → Rel K C G' w' a.2 σ H' → Q a.1 H'
/-- a list that nobody else has -/
noncomputable def kN (K : PySem.W.Frag) (C : Cn) (σ : St) (Q : VK) (G H : Hp) (w : Wn) (a : List Dt × Ev) : Prop :=
  ∀ p vs G' H' w', Step G H w G' H' w' → Rel K C G' w' a.2 σ H' → H p = none → H' p = some (.lst vs) → G' p = none → w' p = none → Reps K G' a.1 vs → Q (.ref p) H'
inductive Fl where
  | nx | bk | ct | rt (d : Dt)
noncomputable def kS (K : PySem.W.Frag) (C : Cn) (D : Ends) (G H : Hp) (w : Wn) (a : Fl × Ev) : Prop :=
  match a.1 with
  | .nx => ∀ σ' G' H' w', Step G H w G' H' w' → Rel K C G' w' a.2 σ' H' → D.nx σ' H'
  | .bk => ∀ σ' G' H' w', Step G H w G' H' w' → Rel K C G' w' a.2 σ' H' → D.bk σ' H'
  | .ct => ∀ σ' G' H' w', Step G H w G' H' w' → Rel K C G' w' a.2 σ' H' → D.ct σ' H'
  | .rt d => ∀ v σ' G' H' w', Step G H w G' H' w' → Rel K C G' w' a.2 σ' H' → RtG C.nw K C.H₀ G' H' w' d v → D.rt v H'
noncomputable abbrev De := Ev → R (Dt × Ev)
noncomputable abbrev DT := Ev → R (Bool × Ev)
noncomputable abbrev DN := Ev → R (List Dt × Ev)
noncomputable abbrev DS := Ev → R (Fl × Ev)
noncomputable def tE (K : PySem.W.Frag) (C : Cn) (f : De) : TE := fun σ H Q => ∃ G w ρ, Rel K C G w ρ σ H ∧ Post C.ex (kE K C σ Q G H w) (f ρ)
noncomputable def tT (K : PySem.W.Frag) (C : Cn) (f : DT) : TT := fun σ H Q => ∃ G w ρ, Rel K C G w ρ σ H ∧ Post C.ex (kT K C σ Q G H w) (f ρ)
noncomputable def tN (K : PySem.W.Frag) (C : Cn) (f : DN) : TE := fun σ H Q => ∃ G w ρ, Rel K C G w ρ σ H ∧ Post C.ex (kN K C σ Q G H w) (f ρ)
noncomputable def tS (K : PySem.W.Frag) (C : Cn) (f : DS) : TS := fun D σ H => ∃ G w ρ, Rel K C G w ρ σ H ∧ Post C.ex (kS K C D G H w) (f ρ)
noncomputable abbrev JE (X : Cx) (C : Cn) (e : Expr) (f : De) : Prop := PE X e (tE X.K C f)
noncomputable abbrev JT (X : Cx) (C : Cn) (e : Expr) (f : DT) : Prop := PT X e (tT X.K C f)
noncomputable abbrev JW (X : Cx) (C : Cn) (e : Expr) (f : DT) : Prop := PW X e (tT X.K C f)
noncomputable abbrev JN (X : Cx) (C : Cn) (e : Expr) (f : DN) : Prop := PE X e (tN X.K C f)
noncomputable abbrev JS (X : Cx) (C : Cn) (st : Stmt) (f : DS) : Prop := PS X st (tS X.K C f)
noncomputable abbrev JSs (X : Cx) (C : Cn) (st : List Stmt) (f : DS) : Prop := PSs X st (tS X.K C f)
noncomputable abbrev Kont (α : Type) := Hp → Hp → Wn → α → Prop
noncomputable def Stp {α : Type} (κ : Kont α) : Prop := ∀ G H w G1 H1 w1 a, Step G H w G1 H1 w1 → κ G H w a → κ G1 H1 w1 a
section
variable {K : PySem.W.Frag} {C : Cn} {σ : St}
theorem stp_E {Q : VK} : Stp (fun G H w => kE K C σ Q G H w) := fun _ _ _ _ _ _ _ s k v G' H' w' s' => k v G' H' w' (s.trans s')
theorem stp_T {Q : Bool → Hp → Prop} : Stp (fun G H w => kT K C σ Q G H w) := fun _ _ _ _ _ _ _ s k G' H' w' s' => k G' H' w' (s.trans s')
theorem stp_N {Q : VK} : Stp (fun G H w => kN K C σ Q G H w) := fun G H w G1 H1 w1 _ s k p vs G' H' w' s' r q1 q2 q3 q4 q5 =>
  k p vs G' H' w' (s.trans s') r (s.k p q1) q2 q3 q4 q5
theorem stp_S {D : Ends} : Stp (fun G H w => kS K C D G H w) := fun G H w G1 H1 w1 a s k => by
  obtain ⟨f, ρ⟩ := a
  cases f with
  | nx => exact fun σ' G' H' w' s' => k σ' G' H' w' (s.trans s')
  | bk => exact fun σ' G' H' w' s' => k σ' G' H' w' (s.trans s')
  | ct => exact fun σ' G' H' w' s' => k σ' G' H' w' (s.trans s')
  | rt d => exact fun v σ' G' H' w' s' => k v σ' G' H' w' (s.trans s')
theorem Post.step {α : Type} {ex : Nat → Prop} {κ : Kont α} (st : Stp κ) {G H G1 H1 : Hp} {w w1 : Wn} (s : Step G H w G1 H1 w1) : ∀ {r : R α}, Post ex (κ G H w) r → Post ex (κ G1 H1 w1) r
  | .ok _, p => st _ _ _ _ _ _ _ s p
  | .er _, p => p
  | .no, p => p
/-- a part of an expression, then the rest -/
theorem seqE {α : Type} {κ : Kont α} (st : Stp κ) {G H : Hp} {w : Wn} {ρ : Ev} {fa : De} {g : Dt × Ev → R α} {Q : VK} (r : Rel K C G w ρ σ H) (p : Post C.ex (κ G H w) ((fa ρ).bind g))
    (k : ∀ d ρ1 v G1 H1 w1, Rel K C G1 w1 ρ1 σ H1 → Step G H w G1 H1 w1 → Rep K G1 d v → Post C.ex (κ G1 H1 w1) (g (d, ρ1)) → Q v H1) : tE K C fa σ H Q := by
  refine ⟨G, w, ρ, r, ?_⟩
  cases e : fa ρ with
  | ok a =>
    rw [e] at p
    intro v G' H' w' s' r' q
    exact k a.1 a.2 v G' H' w' r' s' q (Post.step st s' p)
  | er n => rw [e] at p; exact p
  | no => rw [e] at p; exact p
theorem seqT {α : Type} {κ : Kont α} (st : Stp κ) {G H : Hp} {w : Wn} {ρ : Ev} {fa : DT} {g : Bool × Ev → R α} {Q : Bool → Hp → Prop} (r : Rel K C G w ρ σ H) (p : Post C.ex (κ G H w) ((fa ρ).bind g))
    (k : ∀ b ρ1 G1 H1 w1, Rel K C G1 w1 ρ1 σ H1 → Step G H w G1 H1 w1 → Post C.ex (κ G1 H1 w1) (g (b, ρ1)) → Q b H1) : tT K C fa σ H Q := by
  refine ⟨G, w, ρ, r, ?_⟩
  cases e : fa ρ with
  | ok a =>
    rw [e] at p
    intro G' H' w' s' r'
    exact k a.1 a.2 G' H' w' r' s' (Post.step st s' p)
  | er n => rw [e] at p; exact p
  | no => rw [e] at p; exact p
theorem seqN {α : Type} {κ : Kont α} {G H : Hp} {w : Wn} {ρ : Ev} {fa : DN} {g : List Dt × Ev → R α} {Q : VK} (r : Rel K C G w ρ σ H) (p : Post C.ex (κ G H w) ((fa ρ).bind g))
    (k : ∀ ds ρ1 a vs G1 H1 w1, Rel K C G1 w1 ρ1 σ H1 → Step G H w G1 H1 w1 → H a = none → H1 a = some (.lst vs) → G1 a = none → w1 a = none → Reps K G1 ds vs → Post C.ex (κ G H w) (g (ds, ρ1)) → Q (.ref a) H1) : tN K C fa σ H Q := by
  refine ⟨G, w, ρ, r, ?_⟩
  cases e : fa ρ with
  | ok a =>
    rw [e] at p
    intro v vs G' H' w' s' r' q1 q2 q3 q4 q5
    exact k a.1 a.2 v vs G' H' w' r' s' q1 q2 q3 q4 q5 p
  | er n => rw [e] at p; exact p
  | no => rw [e] at p; exact p
end
section
variable {X : Cx}
theorem _root_.L2.PE.weak {e : Expr} {t t' : TE} (h : PE X e t) (k : ∀ σ H Q, t' σ H Q → t σ H Q) : PE X e t' := fun pins s σ H Q I q => h pins s σ H Q I (k σ H Q q)
theorem _root_.L2.PT.weak {e : Expr} {t t' : TT} (h : PT X e t) (k : ∀ σ H Q, t' σ H Q → t σ H Q) : PT X e t' := fun pins s σ H Q I q => h pins s σ H Q I (k σ H Q q)
theorem _root_.L2.PW.weak {e : Expr} {t t' : TT} (h : PW X e t) (k : ∀ σ H Q, t' σ H Q → t σ H Q) : PW X e t' := fun wh pins s σ H Q I q => h wh pins s σ H Q I (k σ H Q q)
theorem _root_.L2.PA.weak {e : List Expr} {t t' : TA} (h : PA X e t) (k : ∀ σ H Q, t' σ H Q → t σ H Q) : PA X e t' := fun pos pins s σ H Q I q => h pos pins s σ H Q I (k σ H Q q)
theorem _root_.L2.PS.weak {e : Stmt} {t t' : TS} (h : PS X e t) (k : ∀ D σ H, t' D σ H → t D σ H) : PS X e t' := fun pins s σ H D I q => h pins s σ H D I (k D σ H q)
theorem _root_.L2.PSs.weak {e : List Stmt} {t t' : TS} (h : PSs X e t) (k : ∀ D σ H, t' D σ H → t D σ H) : PSs X e t' := fun pins s σ H D I q => h pins s σ H D I (k D σ H q)
end
end PV
end
section
set_option Elab.async false
set_option linter.all false
set_option maxRecDepth 100000
namespace PV
open PySem PySem.Spec L2
/-! ### names -/
section
variable {K : PySem.W.Frag} {C : Cn} {σ : L2.St} {G H : Hp} {w : Wn} {ρ : Ev} {i : Nat} {v : V}
/-- what slot i owns at the addresses S is known to all from now on -/
theorem Rel.freeze {d : Dt} {b0 : B} (r : Rel K C G w ρ σ H) (S : List Addr) (hS : ∀ b ∈ S, w b = some i) (hi : ρ[i]? = some (some b0)) (hv : σ[i]? = some (some v))
    (hr : Rep K (fun b => if b ∈ S then H b else G b) d v) :
    Rel K C (fun b => if b ∈ S then H b else G b) (fun b => if b ∈ S then none else w b) (ρ.set i (some (.val d))) σ H ∧
      Step G H w (fun b => if b ∈ S then H b else G b) H (fun b => if b ∈ S then none else w b) := by
  have gS : ∀ b ∈ S, G b = none := fun b hb => r.wg b (by rw [hS b hb]; simp)
  have st : Step G H w (fun b => if b ∈ S then H b else G b) H (fun b => if b ∈ S then none else w b) := by
    refine ⟨fun b o e => ?_, fun b o e => ?_, fun b o e _ => e, fun b e => ?_, fun _ e => e⟩
    · have : b ∉ S := fun z => by rw [gS b z] at e; cases e
      simp [this, e]
    · by_cases hb : b ∈ S
      · exact .inr (.inr (by rw [hS b hb]; simp))
      · simp [hb] at e; exact .inl (by rw [e]; simp)
    · by_cases hb : b ∈ S
      · simp [hb] at e
      · simp [hb] at e; exact .inl e
  refine ⟨⟨fun b o e => ?_, fun b e => ?_, fun b e => ?_, by simpa using r.len, fun j b e => ?_, r.en.trans st, r.pin⟩, st⟩
  · by_cases hb : b ∈ S
    · simp [hb] at e; exact e
    · simp [hb] at e; exact r.gh b o e
  · by_cases hb : b ∈ S
    · simp [hb] at e
    · simp [hb] at e ⊢; exact r.wg b e
  · by_cases hb : b ∈ S
    · simp [hb] at e
    · simp [hb] at e; exact r.wh b e
  · by_cases hj : j = i
    · subst hj
      rw [List.getElem?_set_self (List.getElem?_eq_some_iff.mp hi).1] at e
      cases e
      exact ⟨v, hv, hr⟩
    · rw [List.getElem?_set_ne (Ne.symm hj)] at e
      obtain ⟨v', h1, h2⟩ := r.sl j b e
      refine ⟨v', h1, h2.grow st.g fun a o e1 e2 => ⟨e2, ?_⟩⟩
      have : a ∉ S := fun z => by rw [hS a z] at e1; exact hj (Option.some.inj e1).symm
      simp [this, e1]
end
noncomputable def dVar (i : Nat) : De := fun ρ => match ρ[i]? with
  | some (some (.val d)) => .ok (d, ρ)
  | _ => .no
/-- a list of one's own is handed on as it is, and stays so -/
noncomputable def dUse (i : Nat) : De := fun ρ => match ρ[i]? with
  | some (some (.val d)) => .ok (d, ρ)
  | some (some (.own ds)) => .ok (.lst ds, ρ.set i (some (.val (.lst ds))))
  | some (some (.own2 dss)) => .ok (.lst (dss.map .lst), ρ.set i (some (.val (.lst (dss.map .lst)))))
  | _ => .no
theorem paired_reps {K : PySem.W.Frag} {G : Hp} : ∀ {as : List Addr} {dss : List (List Dt)}, Paired (fun b ds => ∃ vs, G b = some (.lst vs) ∧ Reps K G ds vs) as dss → Reps K G (dss.map .lst) (as.map V.ref)
  | _, _, .nil => Reps.nil
  | a :: as, ds :: dss, .cons ⟨vs, h1, h2⟩ t => Reps.cons (by unfold Rep; exact ⟨a, vs, rfl, h1, h2⟩) (paired_reps t)
theorem paired_mem {α β : Type} {F : α → β → Prop} : ∀ {l₁ : List α} {l₂ : List β}, Paired F l₁ l₂ → ∀ a ∈ l₁, ∃ b, F a b
  | _, _, .cons r t, a, h => by
    rcases List.mem_cons.mp h with rfl | h
    · exact ⟨_, r⟩
    · exact paired_mem t a h
theorem paired_imp_mem {α β : Type} {F F' : α → β → Prop} : ∀ {l₁ : List α} {l₂ : List β}, Paired F l₁ l₂ → (∀ a b, a ∈ l₁ → F a b → F' a b) → Paired F' l₁ l₂
  | _, _, .nil, _ => .nil
  | _, _, .cons r t, f => .cons (f _ _ List.mem_cons_self r) (paired_imp_mem t fun a b h => f a b (List.mem_cons_of_mem _ h))
section
variable {X : Cx} {C : Cn}
theorem je_var (i : Nat) {x : Str} {pos : Pos} (hN : X.N[i]? = some x := by rfl) (hv : Vis X.env.scope x := by first | exact Or.inl rfl | exact Or.inr (Or.inl rfl) | exact Or.inr (Or.inr rfl)) (hd : (x == ("__debug__" : Str)) = false := by decide)
    (hcd : (x == ("__classdict__" : Str)) = false := by decide) : JE X C (.Name x pos) (dVar i) := (pe_var hN hv hd hcd).weak fun σ H Q ⟨G, w, ρ, r, p⟩ => by
  unfold dVar at p
  split at p
  · rename_i d e
    obtain ⟨v, h1, h2⟩ := r.sl i _ e
    exact ⟨v, h1, p v G H w (.refl _ _ _) r h2⟩
  · exact p.elim
theorem je_use (i : Nat) {x : Str} {pos : Pos} (hN : X.N[i]? = some x := by rfl) (hv : Vis X.env.scope x := by first | exact Or.inl rfl | exact Or.inr (Or.inl rfl) | exact Or.inr (Or.inr rfl)) (hd : (x == ("__debug__" : Str)) = false := by decide)
    (hcd : (x == ("__classdict__" : Str)) = false := by decide) : JE X C (.Name x pos) (dUse i) := (pe_var hN hv hd hcd).weak fun σ H Q ⟨G, w, ρ, r, p⟩ => by
  unfold dUse at p
  split at p
  · rename_i d e
    obtain ⟨v, h1, h2⟩ := r.sl i _ e
    exact ⟨v, h1, p v G H w (.refl _ _ _) r h2⟩
  · rename_i ds e
    obtain ⟨v, h1, a, vs, rfl, h2, h3, h4⟩ := r.sl i _ e
    have hr : Rep X.K (fun b => if b ∈ [a] then H b else G b) (.lst ds) (.ref a) := by
      unfold Rep
      refine ⟨a, vs, rfl, (by simp [h3]), Reps.same (fun b o e => ?_) h4⟩
      have : b ≠ a := fun z => by subst z; rw [r.wg b (by rw [h2]; simp)] at e; cases e
      simp [this, e]
    obtain ⟨r', s'⟩ := r.freeze [a] (fun b hb => by simp at hb; subst hb; exact h2) e h1 hr
    exact ⟨_, h1, p _ _ _ _ s' r' hr⟩
  · rename_i dss e
    obtain ⟨v, h1, a, as, rfl, h2, h3, h4, h5⟩ := r.sl i _ e
    have hS : ∀ b ∈ a :: as, w b = some i := fun b hb => by
      rcases List.mem_cons.mp hb with rfl | hb
      · exact h2
      · obtain ⟨_, z, _⟩ := paired_mem h5 b hb
        exact z
    have sg : Same G (fun b => if b ∈ a :: as then H b else G b) := fun b o e => by
      have : b ∉ a :: as := fun z => by rw [r.wg b (by rw [hS b z]; simp)] at e; cases e
      simp only [this, if_false]; exact e
    have hr : Rep X.K (fun b => if b ∈ a :: as then H b else G b) (.lst (dss.map .lst)) (.ref a) := by
      unfold Rep
      refine ⟨a, as.map V.ref, rfl, (by simp [h3]), paired_reps (paired_imp_mem h5 fun b ds hb ⟨q1, vs, q2, q3⟩ => ⟨vs, ?_, Reps.same sg q3⟩)⟩
      simp [hb, q2]
    obtain ⟨r', s'⟩ := r.freeze (a :: as) hS e h1 hr
    exact ⟨_, h1, p _ _ _ _ s' r' hr⟩
  · exact p.elim
/-! ### constants -/
noncomputable def dC (d : Dt) : De := fun ρ => .ok (d, ρ)
theorem je_int {i j pos} : JE X C (.Constant (.int i) j pos) (dC (.int i)) := PE.weak pe_int fun σ H Q ⟨G, w, ρ, r, p⟩ => p _ G H w (.refl _ _ _) r (by unfold Rep; rfl)
theorem je_bl {b j pos} : JE X C (.Constant (.bool b) j pos) (dC (.bl b)) := PE.weak pe_bl fun σ H Q ⟨G, w, ρ, r, p⟩ => p _ G H w (.refl _ _ _) r (by unfold Rep; rfl)
theorem je_non {j pos} : JE X C (.Constant .none j pos) (dC .non) := PE.weak pe_non fun σ H Q ⟨G, w, ρ, r, p⟩ => p _ G H w (.refl _ _ _) r (by unfold Rep; rfl)
theorem je_str {x j pos} : JE X C (.Constant (.str x) j pos) (dC (.str x)) := PE.weak pe_str fun σ H Q ⟨G, w, ρ, r, p⟩ => p _ G H w (.refl _ _ _) r (by unfold Rep; rfl)
/-- a module's constant int -/
theorem je_glob {x : Str} {i : Int} {t : Tok} {pos : Pos} (hg : Gl X x) (hm : X.mg x = some (.int i t)) (hd : (x == ("__debug__" : Str)) = false := by decide) : JE X C (.Name x pos) (dC (.int i)) :=
  (pe_glob (v := .int i) hg hm ⟨t, rfl⟩ hd).weak fun σ H Q ⟨G, w, ρ, r, p⟩ => p _ G H w (.refl _ _ _) r (by unfold Rep; rfl)
/-! ### two operands -/
noncomputable def dOp (g : Dt → Dt → R Dt) (fa fb : De) : De := fun ρ => (fa ρ).bind fun a => (fb a.2).bind fun b => (g a.1 b.1).bind fun z => .ok (z, b.2)
/-- the rule r does what g says -/
noncomputable def Op2 (K : PySem.W.Frag) (r : R2) (g : Dt → Dt → R Dt) : Prop := ∀ (G H : Hp) (x y : V) (dx dy z : Dt) (Q : VK), Same G H → Rep K G dx x → Rep K G dy y → g dx dy = .ok z →
  (∀ v G' H', Grow G H G' H' → Rep K G' z v → Q v H') → r x y H Q
/-- g makes no errors -/
noncomputable def NoEr (g : Dt → Dt → R Dt) : Prop := ∀ x y n, g x y ≠ .er n
variable {a b : Expr} {fa fb : De} {pos : Pos}
theorem op_read {r : R2} {g : Dt → Dt → R Dt} {σ : L2.St} {H : Hp} {Q : VK} (h2 : Op2 X.K r g) (he : NoEr g) (h : tE X.K C (dOp g fa fb) σ H Q) : tOp r (tE X.K C fa) (tE X.K C fb) σ H Q := by
  obtain ⟨G, w, ρ, rr, p⟩ := h
  refine seqE (κ := fun G H w => kE X.K C σ Q G H w) stp_E rr p fun d ρ1 v G1 H1 w1 r1 s1 q1 p1 => ?_
  refine seqE (κ := fun G H w => kE X.K C σ Q G H w) stp_E r1 p1 fun d2 ρ2 v2 G2 H2 w2 r2 s2 q2 p2 => ?_
  cases e : g d d2 with
  | ok z =>
    simp only [e, R.bind_ok] at p2
    refine h2 G2 H2 v v2 d d2 z Q r2.gh (q1.same s2.g) q2 e fun v3 G3 H3 gr q3 => ?_
    exact p2 v3 G3 H3 w2 gr.step (r2.grow gr) q3
  | er n => exact absurd e (he _ _ _)
  | no => simp only [e, R.bind_no] at p2; exact p2.elim
theorem je_op {op : Operator} {r : R2} {g : Dt → Dt → R Dt} (ho : OpR X (binaryOp op) r) (h2 : Op2 X.K r g) (he : NoEr g) (ha : JE X C a fa) (hb : JE X C b fb) : JE X C (.BinOp a op b pos) (dOp g fa fb) :=
  (pe_op ho ha hb).weak fun σ H Q h => op_read h2 he h
theorem je_cmp {op : CmpOp} {r : R2} {g : Dt → Dt → R Dt} (ho : OpR X (compareOp op) r) (h2 : Op2 X.K r g) (he : NoEr g) (ha : JE X C a fa) (hb : JE X C b fb) (hm : behindInMarks op b = false) : JE X C (.Compare a [op] [b] pos) (dOp g fa fb) :=
  (pe_cmpR ho ha hb hm).weak fun σ H Q h => op_read h2 he h
/-- a test by a bool -/
noncomputable def dTB (f : De) : DT := fun ρ => (f ρ).bind fun a => match a.1 with
  | .bl b => .ok (b, a.2)
  | _ => .no
theorem rep_bl {K : PySem.W.Frag} {G : Hp} {b : Bool} {v : V} (h : Rep K G (.bl b) v) : v = .bl b := by unfold Rep at h; exact h
theorem rep_int {K : PySem.W.Frag} {G : Hp} {b : Int} {v : V} (h : Rep K G (.int b) v) : v = .int b := by unfold Rep at h; exact h
theorem rep_str {K : PySem.W.Frag} {G : Hp} {b : Str} {v : V} (h : Rep K G (.str b) v) : v = .str b := by unfold Rep at h; exact h
theorem rep_non {K : PySem.W.Frag} {G : Hp} {v : V} (h : Rep K G .non v) : v = .non := by unfold Rep at h; exact h
theorem rep_tupP {K : PySem.W.Frag} {G : Hp} {l : List Dt} {v : V} (h : Rep K G (.tup l) v) : ∃ a vs, v = .ref a ∧ SqTP K G a vs ∧ Reps K G l vs := by unfold Rep at h; exact h
theorem rep_tup {K : PySem.W.Frag} {G : Hp} {l : List Dt} {v : V} (h : Rep K G (.tup l) v) : ∃ a vs, v = .ref a ∧ SqT K G a vs ∧ Reps K G l vs := by
  obtain ⟨a, vs, h1, h2, h3⟩ := rep_tupP h
  exact ⟨a, vs, h1, h2.sq, h3⟩
theorem rep_lst {K : PySem.W.Frag} {G : Hp} {l : List Dt} {v : V} (h : Rep K G (.lst l) v) : ∃ a vs, v = .ref a ∧ G a = some (.lst vs) ∧ Reps K G l vs := by unfold Rep at h; exact h
theorem tb_read {f : De} {σ : L2.St} {H : Hp} {Q : Bool → Hp → Prop} (h : tT X.K C (dTB f) σ H Q) : tE X.K C f σ H fun x H' => ∃ k, x = .bl k ∧ Q k H' := by
  obtain ⟨G, w, ρ, r, p⟩ := h
  refine seqE (κ := fun G H w => kT X.K C σ Q G H w) stp_T r p fun d ρ1 v G1 H1 w1 r1 s1 q1 p1 => ?_
  cases d with
  | bl b => exact ⟨b, rep_bl q1, p1 G1 H1 w1 (.refl _ _ _) r1⟩
  | _ => exact p1.elim
theorem jt_cmp {op : CmpOp} {r : R2} {g : Dt → Dt → R Dt} (ho : OpR X (compareOp op) r) (h2 : Op2 X.K r g) (he : NoEr g) (ha : JE X C a fa) (hb : JE X C b fb) (hm : behindInMarks op b = false) : JT X C (.Compare a [op] [b] pos) (dTB (dOp g fa fb)) :=
  (pt_cmpR ho ha hb hm).weak fun σ H Q h => by
    have h' := tb_read h
    exact op_read h2 he h'
theorem jt_val {e : Expr} {f : De} (h : JE X C e f) (he : ∀ whole, isTrue e X.env whole = (do let v ← whole; standAt e.pos; holding [v] (truthy v)) := by intro _; rfl) : JT X C e (dTB f) :=
  (pt_val h he).weak fun σ H Q h => tb_read h
noncomputable def dTNot (f : DT) : DT := fun ρ => (f ρ).bind fun a => .ok (!a.1, a.2)
noncomputable def dTAnd (f g : DT) : DT := fun ρ => (f ρ).bind fun a => if a.1 = true then g a.2 else .ok (false, a.2)
noncomputable def dTOr (f g : DT) : DT := fun ρ => (f ρ).bind fun a => if a.1 = true then .ok (true, a.2) else g a.2
variable {tA tB' : DT} {rest : List Expr}
theorem jt_not (ha : JT X C a tA) : JT X C (.UnaryOp .Not a pos) (dTNot tA) := (pt_not ha).weak fun σ H Q ⟨G, w, ρ, r, p⟩ =>
  seqT (κ := fun G H w => kT X.K C σ Q G H w) stp_T r p fun b ρ1 G1 H1 w1 r1 s1 p1 => p1 G1 H1 w1 (.refl _ _ _) r1
theorem jw_and1 (ha : JT X C a tA) : JW X C (.BoolOp .And [a] pos) tA := pw_and1 ha
theorem jw_or1 (ha : JT X C a tA) : JW X C (.BoolOp .Or [a] pos) tA := pw_or1 ha
theorem jw_and (ha : JT X C a tA) (hb : JW X C (.BoolOp .And (b :: rest) pos) tB') : JW X C (.BoolOp .And (a :: b :: rest) pos) (dTAnd tA tB') := (pw_and ha hb).weak fun σ H Q ⟨G, w, ρ, r, p⟩ => by
  refine seqT (κ := fun G H w => kT X.K C σ Q G H w) stp_T r p fun b ρ1 G1 H1 w1 r1 s1 p1 => ?_
  cases b with
  | true => exact ⟨G1, w1, ρ1, r1, p1⟩
  | false => exact p1 G1 H1 w1 (.refl _ _ _) r1
theorem jw_or (ha : JT X C a tA) (hb : JW X C (.BoolOp .Or (b :: rest) pos) tB') : JW X C (.BoolOp .Or (a :: b :: rest) pos) (dTOr tA tB') := (pw_or ha hb).weak fun σ H Q ⟨G, w, ρ, r, p⟩ => by
  refine seqT (κ := fun G H w => kT X.K C σ Q G H w) stp_T r p fun b ρ1 G1 H1 w1 r1 s1 p1 => ?_
  cases b with
  | true => exact p1 G1 H1 w1 (.refl _ _ _) r1
  | false => exact ⟨G1, w1, ρ1, r1, p1⟩
theorem JW.jt {e : Expr} {f : DT} (h : JW X C e f) : JT X C e f := PW.pt h
noncomputable def dAnd (fa fb : De) : De := fun ρ => (fa ρ).bind fun a => match a.1 with
  | .bl true => fb a.2
  | .bl false => .ok (.bl false, a.2)
  | _ => .no
noncomputable def dNot (fa : De) : De := fun ρ => (fa ρ).bind fun a => match a.1 with
  | .bl b => .ok (.bl (!b), a.2)
  | _ => .no
theorem je_one {op} {f : De} (h : JE X C a f) : JE X C (.BoolOp op [a] pos) f := pe_one h
theorem je_and (ha : JE X C a fa) (hb : JE X C (.BoolOp .And (b :: rest) pos) fb) : JE X C (.BoolOp .And (a :: b :: rest) pos) (dAnd fa fb) := (pe_and ha hb).weak fun σ H Q ⟨G, w, ρ, r, p⟩ => by
  refine seqE (κ := fun G H w => kE X.K C σ Q G H w) stp_E r p fun d ρ1 v G1 H1 w1 r1 s1 q1 p1 => ?_
  cases d with
  | bl b =>
    refine ⟨b, rep_bl q1, ?_⟩
    cases b with
    | true => exact ⟨G1, w1, ρ1, r1, p1⟩
    | false => exact p1 _ G1 H1 w1 (.refl _ _ _) r1 (by unfold Rep; rfl)
  | _ => exact p1.elim
theorem je_not (ha : JE X C a fa) : JE X C (.UnaryOp .Not a pos) (dNot fa) := (pe_not ha).weak fun σ H Q ⟨G, w, ρ, r, p⟩ => by
  refine seqE (κ := fun G H w => kE X.K C σ Q G H w) stp_E r p fun d ρ1 v G1 H1 w1 r1 s1 q1 p1 => ?_
  cases d with
  | bl b => exact ⟨b, rep_bl q1, p1 _ G1 H1 w1 (.refl _ _ _) r1 (by unfold Rep; rfl)⟩
  | _ => exact p1.elim
/-! ### lists of parts; tuples, lists -/
noncomputable abbrev DA := Ev → R (List Dt × Ev)
noncomputable def kA (K : PySem.W.Frag) (C : Cn) (σ : L2.St) (Q : List V → Hp → Prop) (G H : Hp) (w : Wn) (a : List Dt × Ev) : Prop :=
  ∀ vs G' H' w', Step G H w G' H' w' → Rel K C G' w' a.2 σ H' → Reps K G' a.1 vs → Q vs H'
theorem stp_A {K : PySem.W.Frag} {σ : L2.St} {Q : List V → Hp → Prop} : Stp (fun G H w => kA K C σ Q G H w) := fun _ _ _ _ _ _ _ s k v G' H' w' s' => k v G' H' w' (s.trans s')
noncomputable def tAd (K : PySem.W.Frag) (C : Cn) (f : DA) : TA := fun σ H Q => ∃ G w ρ, Rel K C G w ρ σ H ∧ Post C.ex (kA K C σ Q G H w) (f ρ)
noncomputable abbrev JA (X : Cx) (C : Cn) (es : List Expr) (f : DA) : Prop := PA X es (tAd X.K C f)
noncomputable def dA0 : DA := fun ρ => .ok ([], ρ)
noncomputable def dA (fa : De) (fr : DA) : DA := fun ρ => (fa ρ).bind fun a => (fr a.2).bind fun b => .ok (a.1 :: b.1, b.2)
theorem seqA {K : PySem.W.Frag} {σ : L2.St} {α : Type} {κ : Kont α} (st : Stp κ) {G H : Hp} {w : Wn} {ρ : Ev} {fa : DA} {g : List Dt × Ev → R α} {Q : List V → Hp → Prop} (r : Rel K C G w ρ σ H) (p : Post C.ex (κ G H w) ((fa ρ).bind g))
    (k : ∀ ds ρ1 vs G1 H1 w1, Rel K C G1 w1 ρ1 σ H1 → Step G H w G1 H1 w1 → Reps K G1 ds vs → Post C.ex (κ G1 H1 w1) (g (ds, ρ1)) → Q vs H1) : tAd K C fa σ H Q := by
  refine ⟨G, w, ρ, r, ?_⟩
  cases e : fa ρ with
  | ok a =>
    rw [e] at p
    intro v G' H' w' s' r' q
    exact k a.1 a.2 v G' H' w' r' s' q (Post.step st s' p)
  | er n => rw [e] at p; exact p
  | no => rw [e] at p; exact p
theorem ja_nil : JA X C [] dA0 := PA.weak pa_nil fun σ H Q ⟨G, w, ρ, r, p⟩ => p _ G H w (.refl _ _ _) r Reps.nil
theorem ja_cons {e : Expr} {es : List Expr} {fr : DA} (ha : JE X C e fa) (hr : JA X C es fr) (hs : starEach (e :: es) X.env = (false, eval e X.env) :: starEach es X.env := by rfl) : JA X C (e :: es) (dA fa fr) :=
  (pa_cons ha hr hs).weak fun σ H Q ⟨G, w, ρ, r, p⟩ => by
    refine seqE (κ := fun G H w => kA X.K C σ Q G H w) stp_A r p fun d ρ1 v G1 H1 w1 r1 s1 q1 p1 => ?_
    refine seqA (κ := fun G H w => kA X.K C σ Q G H w) stp_A r1 p1 fun ds ρ2 vs G2 H2 w2 r2 s2 q2 p2 => ?_
    exact p2 _ G2 H2 w2 (.refl _ _ _) r2 (Reps.cons (q1.same s2.g) q2)
noncomputable def fits {α : Type} (l : List α) : Bool := decide (l.length ≤ 16777216)
noncomputable def dTup (f : DA) : De := fun ρ => (f ρ).bind fun a => if fits a.1 = true then .ok (.tup a.1, a.2) else .no
noncomputable def dLst (f : DA) : DN := fun ρ => (f ρ).bind fun a => if fits a.1 = true then .ok (a.1, a.2) else .no
theorem fits_le {α : Type} {l : List α} (h : fits l = true) : l.length ≤ sizeLine := by
  have := of_decide_eq_true h
  rw [show sizeLine = 16777216 from by decide]; exact this
theorem je_tup {x1} {es : List Expr} {f : DA} (h : JA X C es f) : JE X C (.Tuple es x1 pos) (dTup f) := (pe_tup h).weak fun σ H Q ⟨G, w, ρ, r, p⟩ => by
  refine seqA (κ := fun G H w => kE X.K C σ Q G H w) stp_E r p fun ds ρ1 vs G1 H1 w1 r1 s1 q1 p1 => ?_
  by_cases hf : fits ds = true
  · simp only [hf, if_true] at p1
    refine ⟨by rw [← q1.length]; exact fits_le hf, fun a ha => ?_⟩
    have gr : Grow G1 H1 (upd G1 a (.tup vs)) (upd H1 a (.tup vs)) := .new r1.gh ha
    exact p1 _ _ _ w1 gr.step (r1.grow gr) (by unfold Rep; exact ⟨a, vs, rfl, SqTP.of upd_same, q1.same gr.g⟩)
  · simp only [hf] at p1; exact p1.elim
theorem jn_lst {es : List Expr} {f : DA} (h : JA X C es f) : JN X C (.List es pos) (dLst f) := (pe_lst h).weak fun σ H Q ⟨G, w, ρ, r, p⟩ => by
  refine seqA (κ := fun G H w => kN X.K C σ Q G H w) stp_N r p fun ds ρ1 vs G1 H1 w1 r1 s1 q1 p1 => ?_
  by_cases hf : fits ds = true
  · simp only [hf, if_true] at p1
    refine ⟨by rw [← q1.length]; exact fits_le hf, fun a ha => ?_⟩
    have gr : Grow G1 H1 G1 (upd H1 a (.lst vs)) := .newH r1.gh ha
    exact p1 a vs _ _ w1 gr.step (r1.grow gr) ha upd_same (r1.gh.free ha) (by
      cases z : w1 a with
      | none => rfl
      | some k => exact absurd ha (r1.wh a (by rw [z]; simp))) q1
  · simp only [hf] at p1; exact p1.elim
/-- a new list is handed on -/
noncomputable def dFz (f : DN) : De := fun ρ => (f ρ).bind fun a => .ok (.lst a.1, a.2)
theorem Rel.know {K : PySem.W.Frag} {σ : L2.St} {G H : Hp} {w : Wn} {ρ : Ev} {p : Addr} {o : HO} (r : Rel K C G w ρ σ H) (hp : H p = some o) (hg : G p = none) (hw : w p = none) (H0 : Hp) (G0 : Hp) (w0 : Wn) (s : Step G0 H0 w0 G H w) (h0 : H0 p = none)
    (e0 : C.H₀ p = none ∨ C.w₀ p ≠ none ∨ C.G₀ p ≠ none) : Rel K C (upd G p o) w ρ σ H ∧ Step G0 H0 w0 (upd G p o) H w := by
  have sg : Same G (upd G p o) := fun b u e => by rw [upd_ne (ne_of_none e hg)]; exact e
  have s1 : ∀ {G1 H1 : Hp} {w1 : Wn}, Step G1 H1 w1 G H w → (H1 p = none ∨ w1 p ≠ none ∨ G1 p ≠ none) → Step G1 H1 w1 (upd G p o) H w := fun s z => by
    refine ⟨s.g.trans sg, fun b u e => ?_, s.h, s.w, s.k⟩
    by_cases hb : b = p
    · subst hb
      rcases z with z | z | z
      · exact .inr (.inl z)
      · exact .inr (.inr z)
      · exact .inl z
    · rw [upd_ne hb] at e; exact s.fr b u e
  refine ⟨⟨fun b u e => ?_, fun b e => ?_, r.wh, r.len, fun i b e => ?_, s1 r.en e0, r.pin⟩, s1 s (.inl h0)⟩
  · by_cases hb : b = p
    · subst hb; rw [upd_same] at e; cases e; exact hp
    · rw [upd_ne hb] at e; exact r.gh b u e
  · by_cases hb : b = p
    · subst hb; rw [hw] at e; exact absurd rfl e
    · rw [upd_ne hb]; exact r.wg b e
  · obtain ⟨v, h1, h2⟩ := r.sl i b e
    exact ⟨v, h1, h2.grow sg fun _ _ e1 e2 => ⟨e2, e1⟩⟩
end
end PV
end
section
set_option Elab.async false
set_option linter.all false
set_option maxRecDepth 100000
namespace PV
open PySem PySem.Spec L2
section
variable {X : Cx} {C : Cn} {a b e : Expr} {fa fb : De} {pos : Pos}
theorem je_new {f : DN} (h : JN X C e f) : JE X C e (dFz f) := PE.weak h fun σ H Q ⟨G, w, ρ, r, p⟩ => by
  refine seqN (κ := fun G H w => kE X.K C σ Q G H w) r p fun ds ρ1 a vs G1 H1 w1 r1 s1 h0 h1 h2 h3 q1 p1 => ?_
  obtain ⟨r', s'⟩ := r1.know h1 h2 h3 H G w s1 h0 (.inl (r.en.k a h0))
  have sg : Same G1 (upd G1 a (.lst vs)) := fun b u e => by rw [upd_ne (ne_of_none e h2)]; exact e
  exact p1 _ _ _ _ s' r' (by unfold Rep; exact ⟨a, vs, rfl, upd_same, q1.same sg⟩)
/-! ### statements -/
noncomputable def dSeq (f g : DS) : DS := fun ρ => (f ρ).bind fun a => match a.1 with
  | .nx => g a.2
  | fl => .ok (fl, a.2)
noncomputable def dNx : DS := fun ρ => .ok (.nx, ρ)
variable {st : Stmt} {rest : List Stmt} {fs gs : DS}
theorem jss_nil : JSs X C [] dNx := PSs.weak pss_nil fun D σ H ⟨G, w, ρ, r, p⟩ => p σ G H w (.refl _ _ _) r
theorem jss_cons (h1 : JS X C st fs) (h2 : JSs X C rest gs) : JSs X C (st :: rest) (dSeq fs gs) := PSs.weak (pss_cons h1 h2) fun D σ H ⟨G, w, ρ, r, p⟩ => by
  refine ⟨G, w, ρ, r, ?_⟩
  unfold dSeq at p
  cases e : fs ρ with
  | ok x =>
    rw [e] at p
    obtain ⟨fl, ρ1⟩ := x
    cases fl with
    | nx => exact fun σ' G' H' w' s' r' => ⟨G', w', ρ1, r', Post.step stp_S s' p⟩
    | bk => exact p
    | ct => exact p
    | rt d => exact p
  | er n => rw [e] at p; exact p
  | no => rw [e] at p; exact p
theorem jss_one (h1 : JS X C st fs) : JSs X C [st] fs := pss_one h1
noncomputable def dEx (f : De) : DS := fun ρ => (f ρ).bind fun a => .ok (.nx, a.2)
theorem js_expr (he : JE X C e fa) (hs : swapsWith e none pos.line X.env = pure false := by rfl) : JS X C (.Expr e pos) (dEx fa) := PS.weak (ps_expr he hs) fun D σ H ⟨G, w, ρ, r, p⟩ =>
  seqE (κ := fun G H w => kS X.K C D G H w) stp_S r p fun d ρ1 v G1 H1 w1 r1 s1 q1 p1 => p1 σ G1 H1 w1 (.refl _ _ _) r1
noncomputable def dRet (f : De) : DS := fun ρ => (f ρ).bind fun a => .ok (.rt a.1, a.2)
theorem js_ret (hn : C.nw = false) (he : JE X C e fa) : JS X C (.Return (some e) pos) (dRet fa) := PS.weak (ps_ret he) fun D σ H ⟨G, w, ρ, r, p⟩ =>
  seqE (κ := fun G H w => kS X.K C D G H w) stp_S r p fun d ρ1 v G1 H1 w1 r1 s1 q1 p1 => p1 v σ G1 H1 w1 (.refl _ _ _) r1 (by rw [hn]; exact q1)
noncomputable def dRetL (f : DN) : DS := fun ρ => (f ρ).bind fun a => .ok (.rt (.lst a.1), a.2)
theorem js_retL {f : DN} (hn : C.nw = true) (he : JN X C e f) : JS X C (.Return (some e) pos) (dRetL f) := PS.weak (ps_ret he) fun D σ H ⟨G, w, ρ, r, p⟩ =>
  seqN (κ := fun G H w => kS X.K C D G H w) r p fun ds ρ1 a vs G1 H1 w1 r1 s1 h0 h1 h2 h3 q1 p1 => p1 _ σ G1 H1 w1 s1 r1 (by rw [hn]; exact ⟨ds, a, vs, rfl, rfl, r.en.k a h0, h1, h2, h3, q1⟩)
noncomputable def dIf (c : DT) (f g : DS) : DS := fun ρ => (c ρ).bind fun b => if b.1 = true then f b.2 else g b.2
theorem js_if {c : Expr} {A B : List Stmt} {tc : DT} (hc : JT X C c tc) (ha : JSs X C A fs) (hb : JSs X C B gs) : JS X C (.If c A B pos) (dIf tc fs gs) := PS.weak (ps_if hc ha hb) fun D σ H ⟨G, w, ρ, r, p⟩ => by
  refine seqT (κ := fun G H w => kS X.K C D G H w) stp_S r p fun b ρ1 G1 H1 w1 r1 s1 p1 => ?_
  cases b with
  | true => exact ⟨G1, w1, ρ1, r1, p1⟩
  | false => exact ⟨G1, w1, ρ1, r1, p1⟩
/-! ### names stored -/
theorem Rel.setVal {K : PySem.W.Frag} {σ : L2.St} {G H : Hp} {w : Wn} {ρ : Ev} {i : Nat} {d : Dt} {v : V} (r : Rel K C G w ρ σ H) (hi : i < ρ.length) (hp : i ∉ C.pp) (h : Rep K G d v) : Rel K C G w (ρ.set i (some (.val d))) (σ.set i (some v)) H := by
  refine ⟨r.gh, r.wg, r.wh, by simpa using r.len, fun j b e => ?_, r.en, fun j hj => ?_⟩
  · by_cases hj : j = i
    · subst hj
      rw [List.getElem?_set_self hi] at e
      cases e
      exact ⟨v, List.getElem?_set_self (by rw [← r.len]; exact hi), h⟩
    · rw [List.getElem?_set_ne (Ne.symm hj)] at e
      obtain ⟨v', h1, h2⟩ := r.sl j b e
      exact ⟨v', by rw [List.getElem?_set_ne (Ne.symm hj)]; exact h1, h2⟩
  · have : i ≠ j := fun z => hp (z ▸ hj)
    rw [List.getElem?_set_ne this]; exact r.pin j hj
/-- a list becomes slot i's own -/
theorem Rel.setOwn {K : PySem.W.Frag} {σ : L2.St} {G0 H0 : Hp} {w0 : Wn} {G H : Hp} {w : Wn} {ρ : Ev} {i : Nat} {ds : List Dt} {p : Addr} {vs : List V} (r : Rel K C G w ρ σ H) (hi : i < ρ.length) (hpp : i ∉ C.pp) (hp : H p = some (.lst vs)) (hg : G p = none) (hw : w p = none)
    (q : Reps K G ds vs) (s : Step G0 H0 w0 G H w) (h0 : H0 p = none) (en0 : C.H₀ p = none) :
    Rel K C G (fun b => if b = p then some i else w b) (ρ.set i (some (.own ds))) (σ.set i (some (.ref p))) H ∧ Step G0 H0 w0 G H (fun b => if b = p then some i else w b) := by
  have s1 : ∀ {G1 H1 : Hp} {w1 : Wn}, Step G1 H1 w1 G H w → H1 p = none → Step G1 H1 w1 G H (fun b => if b = p then some i else w b) := fun s z => by
    refine ⟨s.g, s.fr, s.h, fun b e => ?_, s.k⟩
    by_cases hb : b = p
    · subst hb; exact .inr z
    · simp [hb] at e; exact s.w b e
  refine ⟨⟨r.gh, fun b e => ?_, fun b e => ?_, by simpa using r.len, fun j b e => ?_, s1 r.en en0, fun j hj => ?_⟩, s1 s h0⟩
  · by_cases hb : b = p
    · subst hb; exact hg
    · simp [hb] at e; exact r.wg b e
  · by_cases hb : b = p
    · subst hb; rw [hp]; simp
    · simp [hb] at e; exact r.wh b e
  · by_cases hj : j = i
    · subst hj
      rw [List.getElem?_set_self hi] at e
      cases e
      exact ⟨_, List.getElem?_set_self (by rw [← r.len]; exact hi), p, vs, rfl, by simp, hp, q⟩
    · rw [List.getElem?_set_ne (Ne.symm hj)] at e
      obtain ⟨v', h1, h2⟩ := r.sl j b e
      refine ⟨v', by rw [List.getElem?_set_ne (Ne.symm hj)]; exact h1, h2.grow (.refl _) fun a o e1 e2 => ⟨e2, ?_⟩⟩
      have : a ≠ p := fun z => by subst z; rw [hw] at e1; cases e1
      simp [this, e1]
  · have : i ≠ j := fun z => hpp (z ▸ hj)
    rw [List.getElem?_set_ne this]; exact r.pin j hj
noncomputable def dSet (i : Nat) (f : De) : DS := fun ρ => (f ρ).bind fun a => if i < a.2.length then .ok (.nx, a.2.set i (some (.val a.1))) else .no
theorem js_set {i : Nat} {x : Str} {pos' : Pos} (hN : X.N.Nodup) (hi : X.N[i]? = some x) (hx : Loc X.env.scope x) (hp : i ∉ C.pp) (he : JE X C e fa) (hs : swapsWith e (some (.Name x pos')) pos.line X.env = pure false := by rfl)
    (hf : X.fn x = true ∨ X.env.scope.names.lookup x = some .local := by first | exact .inl rfl | exact .inr rfl | assumption) : JS X C (.Assign [.Name x pos'] e pos) (dSet i fa) :=
  PS.weak (ps_set hN hi hx he hs) fun D σ H ⟨G, w, ρ, r, p⟩ => by
    refine seqE (κ := fun G H w => kS X.K C D G H w) stp_S r p fun d ρ1 v G1 H1 w1 r1 s1 q1 p1 => ?_
    by_cases hl : i < ρ1.length
    · simp only [hl, if_true] at p1
      exact p1 _ G1 H1 w1 (.refl _ _ _) (r1.setVal hl hp q1)
    · simp only [hl, if_false] at p1
      exact p1.elim
noncomputable def dSetN (i : Nat) (f : DN) : DS := fun ρ => (f ρ).bind fun a => if i < a.2.length then .ok (.nx, a.2.set i (some (.own a.1))) else .no
theorem js_setN {i : Nat} {x : Str} {pos' : Pos} {f : DN} (hN : X.N.Nodup) (hi : X.N[i]? = some x) (hx : Loc X.env.scope x) (hp : i ∉ C.pp) (he : JN X C e f) (hs : swapsWith e (some (.Name x pos')) pos.line X.env = pure false := by rfl)
    (hf : X.fn x = true ∨ X.env.scope.names.lookup x = some .local := by first | exact .inl rfl | exact .inr rfl | assumption) : JS X C (.Assign [.Name x pos'] e pos) (dSetN i f) :=
  PS.weak (ps_set hN hi hx he hs) fun D σ H ⟨G, w, ρ, r, p⟩ => by
    refine seqN (κ := fun G H w => kS X.K C D G H w) r p fun ds ρ1 a vs G1 H1 w1 r1 s1 h0 h1 h2 h3 q1 p1 => ?_
    by_cases hl : i < ρ1.length
    · simp only [hl, if_true] at p1
      obtain ⟨r', s'⟩ := r1.setOwn hl hp h1 h2 h3 q1 s1 h0 (r.en.k a h0)
      exact p1 _ _ _ _ s' r'
    · simp only [hl, if_false] at p1
      exact p1.elim
/-! ### a list of one's own: read -/
/-- x[e], x a list of one's own -/
noncomputable def dIxO (i : Nat) (fb : De) : De := fun ρ => match ρ[i]? with
  | some (some _) => (fb ρ).bind fun b => match b.2[i]?, b.1 with
    | some (some (.own ds)), .int k => match atI ds k with
      | some d => .ok (d, b.2)
      | none => .no
    | _, _ => .no
  | _ => .no
theorem reps_atI {K : PySem.W.Frag} {G : Hp} {ds : List Dt} {vs : List V} {k : Int} {d : Dt} (h : Reps K G ds vs) (e : atI ds k = some d) : ∃ v, atI vs k = some v ∧ Rep K G d v := by
  unfold atI at e ⊢
  rw [← h.length]
  cases q : ixN ds.length k with
  | none => rw [q] at e; cases e
  | some j =>
    rw [q] at e
    exact h.get e
theorem je_ixO (i : Nat) {x : Str} {ps : Pos} (hN : X.N[i]? = some x := by rfl) (hb : JE X C b fb) (hv : Vis X.env.scope x := by first | exact Or.inl rfl | exact Or.inr (Or.inl rfl) | exact Or.inr (Or.inr rfl)) (hd : (x == ("__debug__" : Str)) = false := by decide)
    (hcd : (x == ("__classdict__" : Str)) = false := by decide) (hs : PlainIx b := by exact fun _ _ => rfl) : JE X C (.Subscript (.Name x ps) b pos) (dIxO i fb) :=
  PE.weak (pe_ix ix_list (pe_var hN hv hd hcd) hb hs) fun σ H Q ⟨G, w, ρ, r, p⟩ => by
    unfold dIxO at p
    split at p
    · rename_i b0 e0
      obtain ⟨v0, h0, _⟩ := r.sl i b0 e0
      refine ⟨v0, h0, ?_⟩
      refine seqE (κ := fun G H w => kE X.K C σ Q G H w) stp_E r p fun d ρ1 v G1 H1 w1 r1 s1 q1 p1 => ?_
      dsimp only at p1
      split at p1
      · rename_i ds k e1 
        obtain ⟨v1, h1, a, vs, rfl, h2, h3, h4⟩ := r1.sl i _ e1
        rw [h0] at h1; cases h1
        split at p1
        · rename_i d' e2
          obtain ⟨v2, h5, h6⟩ := reps_atI h4 e2
          exact ⟨a, vs, k, v2, rfl, rep_int q1, SqL.of h3, h5, p1 v2 G1 H1 w1 (.refl _ _ _) r1 h6⟩
        · exact p1.elim
      · exact p1.elim
    · exact p.elim
end
end PV
end
section
set_option Elab.async false
set_option linter.all false
set_option maxRecDepth 100000
namespace PV
open PySem PySem.Spec L2
/-! ### what is walked -/
noncomputable def ItOk (K : PySem.W.Frag) (J : It) (G : Hp) (ds : List Dt) : Prop := ∀ (i : Nat) (G1 H : Hp), Same G G1 → Same G1 H →
  (∀ d, ds[i]? = some d → J.go i H ∧ ∀ x H', J.yld i H x H' → ∃ G2, Grow G1 H G2 H' ∧ Rep K G2 d x) ∧ (ds.length ≤ i → J.stop i H)
noncomputable def kI (K : PySem.W.Frag) (C : Cn) (σ : L2.St) (Q : It → Hp → Prop) (G H : Hp) (w : Wn) (a : List Dt × Ev) : Prop :=
  ∀ J G' H' w', Step G H w G' H' w' → Rel K C G' w' a.2 σ H' → ItOk K J G' a.1 → Q J H'
noncomputable def tI (K : PySem.W.Frag) (C : Cn) (f : DA) : TI := fun σ H Q => ∃ G w ρ, Rel K C G w ρ σ H ∧ Post C.ex (kI K C σ Q G H w) (f ρ)
noncomputable abbrev JI (X : Cx) (C : Cn) (tg iter : Expr) (f : DA) : Prop := PI X tg iter (tI X.K C f)
section
variable {X : Cx} {C : Cn} {tg iter : Expr} {fa : De} {pos : Pos}
theorem seqI {K : PySem.W.Frag} {σ : L2.St} {α : Type} {κ : Kont α} (st : Stp κ) {G H : Hp} {w : Wn} {ρ : Ev} {fa : DA} {g : List Dt × Ev → R α} {Q : It → Hp → Prop} (r : Rel K C G w ρ σ H) (p : Post C.ex (κ G H w) ((fa ρ).bind g))
    (k : ∀ ds ρ1 J G1 H1 w1, Rel K C G1 w1 ρ1 σ H1 → Step G H w G1 H1 w1 → ItOk K J G1 ds → Post C.ex (κ G1 H1 w1) (g (ds, ρ1)) → Q J H1) : tI K C fa σ H Q := by
  refine ⟨G, w, ρ, r, ?_⟩
  cases e : fa ρ with
  | ok a =>
    rw [e] at p
    intro v G' H' w' s' r' q
    exact k a.1 a.2 v G' H' w' r' s' q (Post.step st s' p)
  | er n => rw [e] at p; exact p
  | no => rw [e] at p; exact p
theorem PI.or {t t' : TI} (h : PI X tg iter t) (h' : PI X tg iter t') : PI X tg iter (fun σ H Q => t σ H Q ∨ t' σ H Q) := fun pins s σ H Q I q => q.elim (h pins s σ H Q I) (h' pins s σ H Q I)
theorem PI.weak {t t' : TI} (h : PI X tg iter t) (k : ∀ σ H Q, t' σ H Q → t σ H Q) : PI X tg iter t' := fun pins s σ H Q I q => h pins s σ H Q I (k σ H Q q)
noncomputable def dIt (f : De) : DA := fun ρ => (f ρ).bind fun a => match a.1 with
  | .lst l => .ok (l, a.2)
  | .tup l => .ok (l, a.2)
  | _ => .no
theorem itt_ok {K : PySem.W.Frag} {G : Hp} {a : Addr} {vs : List V} {ds : List Dt} (hs : SqT K G a vs) (q : Reps K G ds vs) : ItOk K (Itt K a) G ds := fun i G1 H s1 s2 => by
  refine ⟨fun d e => ?_, fun h => ⟨vs, sqT_same s2 (sqT_same s1 hs), by rw [← q.length]; exact h⟩⟩
  obtain ⟨v, e1, e2⟩ := q.get e
  refine ⟨⟨vs, v, sqT_same s2 (sqT_same s1 hs), e1⟩, fun x H' y => ?_⟩
  obtain ⟨rfl, y⟩ := y
  have := y vs (sqT_same s2 (sqT_same s1 hs))
  rw [e1] at this; cases this
  exact ⟨G1, .refl s2, e2.same s1⟩
theorem itl_ok' {K : PySem.W.Frag} {G : Hp} {a : Addr} {vs : List V} {ds : List Dt} (hs : SqL K G a vs) (q : Reps K G ds vs) : ItOk K (Itl K a) G ds := fun i G1 H s1 s2 => by
  refine ⟨fun d e => ?_, fun h => ⟨vs, s2.seq (s1.seq hs), by rw [← q.length]; exact h⟩⟩
  obtain ⟨v, e1, e2⟩ := q.get e
  refine ⟨⟨vs, v, s2.seq (s1.seq hs), e1⟩, fun x H' y => ?_⟩
  obtain ⟨rfl, y⟩ := y
  have := y vs (s2.seq (s1.seq hs))
  rw [e1] at this; cases this
  exact ⟨G1, .refl s2, e2.same s1⟩
theorem ji_seq (h : JE X C iter fa) : JI X C tg iter (dIt fa) := PI.weak (PI.or (pi_list h) (pi_tup h)) fun σ H Q ⟨G, w, ρ, r, p⟩ => by
  unfold dIt at p
  cases e : fa ρ with
  | ok x =>
    obtain ⟨d, ρ1⟩ := x
    cases d with
    | lst l =>
      rw [e] at p
      refine .inl ⟨G, w, ρ, r, ?_⟩
      rw [e]
      intro v G' H' w' s' r' q
      obtain ⟨a, vs, rfl, h1, h2⟩ := rep_lst q
      exact ⟨a, rfl, ⟨vs, SqL.of (r'.gh _ _ h1)⟩, p _ G' H' w' s' r' (itl_ok' (SqL.of h1) h2)⟩
    | tup l =>
      rw [e] at p
      refine .inr ⟨G, w, ρ, r, ?_⟩
      rw [e]
      intro v G' H' w' s' r' q
      obtain ⟨a, vs, rfl, h1, h2⟩ := rep_tup q
      exact ⟨a, rfl, ⟨vs, sqT_same r'.gh h1⟩, p _ G' H' w' s' r' (itt_ok h1 h2)⟩
    | _ => rw [e] at p; exact p.elim
  | er n => rw [e] at p; exact .inl ⟨G, w, ρ, r, by rw [e]; exact p⟩
  | no => rw [e] at p; exact p.elim
noncomputable def rangeD (lo : Int) (n : Nat) : List Dt := (List.range n).map fun k => .int (lo + (k : Nat))
theorem itr_ok {K : PySem.W.Frag} {G : Hp} {lo : Int} {n : Nat} : ItOk K (Itr lo n) G (rangeD lo n) := fun i G1 H s1 s2 => by
  refine ⟨fun d e => ?_, fun h => show n ≤ i by simpa [rangeD] using h⟩
  unfold rangeD at e
  rw [List.getElem?_map] at e
  by_cases hi : i < n
  · rw [List.getElem?_range hi] at e
    cases e
    refine ⟨hi, fun x H' y => ?_⟩
    obtain ⟨rfl, rfl⟩ := y
    exact ⟨G1, .refl s2, by unfold Rep; rfl⟩
  · rw [List.getElem?_eq_none (by simpa using hi)] at e
    cases e
noncomputable def mid62 (j : Int) : Bool := decide (-4611686018427387904 ≤ j) && decide (j < 4611686018427387904)
theorem mid62_ok {j : Int} (h : mid62 j = true) : -(2 ^ 62) ≤ j ∧ j < 2 ^ 62 := by
  unfold mid62 at h
  rw [Bool.and_eq_true] at h
  have h1 := of_decide_eq_true h.1
  have h2 := of_decide_eq_true h.2
  omega
noncomputable def dRng1 (fa : De) : DA := fun ρ => (fa ρ).bind fun a => match a.1 with
  | .int j => if mid62 j = true then .ok (rangeD 0 j.toNat, a.2) else .no
  | _ => .no
theorem ji_range1 {e : Expr} {p ps : Pos} (hg : Gl X "range") (hm : X.mg "range" = none) (he : JE X C e fa) (hs : starEach [e] X.env = [(false, eval e X.env)] := by rfl) : JI X C tg (.Call (.Name "range" p) [e] [] ps) (dRng1 fa) :=
  PI.weak (pi_range1 hg hm (ja_cons he ja_nil (by rw [hs]; rfl)) hs) fun σ H Q ⟨G, w, ρ, r, p⟩ => by
    unfold dRng1 at p
    refine ⟨G, w, ρ, r, ?_⟩
    unfold dA dA0
    cases e : fa ρ with
    | ok x =>
      obtain ⟨d, ρ1⟩ := x
      rw [e] at p
      intro vs G' H' w' s' r' q
      obtain ⟨v, t, rfl, q1, q2⟩ := q.cons_inv
      rw [q2.nil_inv]
      cases d with
      | int j =>
        simp only [R.bind_ok] at p
        by_cases hj : mid62 j = true
        · simp only [hj, if_true] at p
          exact ⟨j, by rw [rep_int q1], (mid62_ok hj).1, (mid62_ok hj).2, p _ G' H' w' s' r' itr_ok⟩
        · simp only [hj] at p; exact p.elim
      | _ => exact p.elim
    | er n => rw [e] at p; exact p
    | no => rw [e] at p; exact p
/-! ### targets -/
noncomputable abbrev DG := Dt → Ev → R Ev
noncomputable def kG (K : PySem.W.Frag) (C : Cn) (Q : L2.St → Hp → Prop) (G H : Hp) (w : Wn) (ρ : Ev) : Prop :=
  ∀ σ' G' H' w', Step G H w G' H' w' → Rel K C G' w' ρ σ' H' → Q σ' H'
noncomputable def tG (K : PySem.W.Frag) (C : Cn) (g : DG) : TG := fun v σ H Q => ∃ G w ρ d, Rel K C G w ρ σ H ∧ Rep K G d v ∧ Post C.ex (kG K C Q G H w) (g d ρ)
noncomputable abbrev JG (X : Cx) (C : Cn) (tg : Expr) (g : DG) : Prop := PG X tg (tG X.K C g)
theorem PG.weak {t t' : TG} (h : PG X tg t) (k : ∀ v σ H Q, t' v σ H Q → t v σ H Q) : PG X tg t' := fun pins s σ H v u Q I r q => h pins s σ H v u Q I r (k v σ H Q q)
noncomputable def gSet (i : Nat) : DG := fun d ρ => if i < ρ.length then .ok (ρ.set i (some (.val d))) else .no
theorem jg_name {i : Nat} {x : Str} (hN : X.N.Nodup) (hi : X.N[i]? = some x) (hx : Loc X.env.scope x) (hp : i ∉ C.pp) (hf : X.fn x = true ∨ X.env.scope.names.lookup x = some .local := by first | exact .inl rfl | exact .inr rfl | assumption) : JG X C (.Name x pos) (gSet i) :=
  PG.weak (pg_name hN hi hx hf) fun v σ H Q ⟨G, w, ρ, d, r, q, p⟩ => by
    unfold gSet at p
    by_cases hl : i < ρ.length
    · simp only [hl, if_true] at p
      exact p _ G H w (.refl _ _ _) (r.setVal hl hp q)
    · simp only [hl, if_false] at p; exact p.elim
noncomputable def gSet2 (i j : Nat) : DG := fun d ρ => match d with
  | .tup [a, b] => if i < ρ.length ∧ j < ρ.length then .ok ((ρ.set i (some (.val a))).set j (some (.val b))) else .no
  | _ => .no
theorem jg_pair {i j k : Nat} {x y : Str} {p1 p2 : Pos} (hc : X.calm = true) (hN : X.N.Nodup) (hi : X.N[i]? = some x) (hj : X.N[j]? = some y) (hx : Loc X.env.scope x) (hy : Loc X.env.scope y) (hp : i ∉ C.pp) (hq : j ∉ C.pp)
    (hf : X.fn x = true ∨ X.env.scope.names.lookup x = some .local := by first | exact .inl rfl | exact .inr rfl | assumption) (hf2 : X.fn y = true ∨ X.env.scope.names.lookup y = some .local := by first | exact .inl rfl | exact .inr rfl | assumption)
    (hs1 : (assignEach [.Name x p1, .Name y p2] X.env).map (·.2) = assign (.Name x p1) X.env :: (assignEach [.Name y p2] X.env).map (·.2) := by rfl) (hs2 : (assignEach [.Name y p2] X.env).map (·.2) = assign (.Name y p2) X.env :: (assignEach [] X.env).map (·.2) := by rfl)
    (hn : (assignEach [.Name x p1, .Name y p2] X.env).length = 2 := by rfl) (hst : (assignEach [.Name x p1, .Name y p2] X.env).findIdx? (·.1) = none := by rfl) : JG X C (.Tuple [.Name x p1, .Name y p2] k pos) (gSet2 i j) :=
  PG.weak (pg_tup hc (pgs_cons (pg_name hN hi hx hf) (pgs_cons (pg_name hN hj hy hf2) pgs_nil hs2) hs1) hn hst) fun v σ H Q ⟨G, w, ρ, d, r, q, p⟩ => by
    unfold gSet2 at p
    split at p
    · rename_i a b
      obtain ⟨ad, vs, rfl, h1, h2⟩ := rep_tup q
      obtain ⟨v1, t, rfl, q1, q2⟩ := h2.cons_inv
      obtain ⟨v2, t2, rfl, q3, q4⟩ := q2.cons_inv
      rw [q4.nil_inv] at h1
      by_cases hl : i < ρ.length ∧ j < ρ.length
      · simp only [hl, and_self, if_true] at p
        have r1 := r.setVal hl.1 hp q1
        have r2 := r1.setVal (i := j) (by simpa using hl.2) hq q3
        exact ⟨ad, _, rfl, sqT_same r.gh h1, rfl, v1, _, rfl, v2, _, rfl, rfl, p _ G H w (.refl _ _ _) r2⟩
      · simp only [hl, if_false] at p; exact p.elim
    · exact p.elim
/-! ### loops -/
noncomputable def forD (g : DG) (body : DS) : List Dt → DS
  | [], ρ => .ok (.nx, ρ)
  | d :: r, ρ => (g d ρ).bind fun ρ1 => (body ρ1).bind fun a => match a.1 with
    | .nx => forD g body r a.2
    | .ct => forD g body r a.2
    | .bk => .ok (.nx, a.2)
    | .rt v => .ok (.rt v, a.2)
noncomputable def dFor (fi : DA) (g : DG) (body : DS) : DS := fun ρ => (fi ρ).bind fun a => forD g body a.1 a.2
theorem js_for {body : List Stmt} {fi : DA} {g : DG} {fb : DS} (hp : PassesOwn (model X.prog X.w) X.A X.env X.xe) (hc : X.calm = true) (hi : JI X C tg iter fi) (hg : JG X C tg g) (hb : JSs X C body fb)
    (hs : ∀ x, foldedSetIterable iter X.env x = pure x := by intro _; rfl) : JS X C (.For tg iter body [] pos) (dFor fi g fb) :=
  PS.weak (ps_for hp hc hi hg hb hs) fun D σ H ⟨G, w, ρ, r, p⟩ => by
    refine seqI (κ := fun G H w => kS X.K C D G H w) stp_S r p fun ds ρ1 J G1 H1 w1 r1 s1 it p1 => ?_
    refine ⟨fun i m σ' H' => m = ds.length - i ∧ i ≤ ds.length ∧ ∃ G' w' ρ', Same G1 G' ∧ Rel X.K C G' w' ρ' σ' H' ∧ Post C.ex (kS X.K C D G' H' w') (forD g fb (ds.drop i) ρ'),
      ⟨ds.length, by simp, Nat.zero_le _, G1, w1, ρ1, .refl _, r1, by simpa using p1⟩, ?_⟩
    rintro i m σ2 H2 ⟨rfl, hi, G2, w2, ρ2, s2, r2, p2⟩
    obtain ⟨it1, it2⟩ := it i G2 H2 s2 r2.gh
    by_cases hlt : i < ds.length
    · have ed : ds.drop i = ds[i] :: ds.drop (i + 1) := List.drop_eq_getElem_cons hlt
      obtain ⟨go, yl⟩ := it1 ds[i] (by simp [hlt])
      rw [ed] at p2
      refine .inr ⟨go, fun σ' H' => (ds.length - (i + 1)) = ds.length - (i + 1) ∧ i + 1 ≤ ds.length ∧ ∃ G' w' ρ', Same G1 G' ∧ Rel X.K C G' w' ρ' σ' H' ∧ Post C.ex (kS X.K C D G' H' w') (forD g fb (ds.drop (i + 1)) ρ'),
        fun σ' H' h => ⟨ds.length - (i + 1), by omega, h⟩, fun x H' y => ?_⟩
      obtain ⟨G3, gr, q3⟩ := yl x H' y
      have r3 := r2.grow gr
      have p3 := Post.step (κ := fun G H w => kS X.K C D G H w) stp_S gr.step (w1 := w2) p2
      refine ⟨G3, w2, ρ2, ds[i], r3, q3, ?_⟩
      unfold forD at p3
      cases eg : g ds[i] ρ2 with
      | ok ρ3 =>
        rw [eg] at p3
        intro σ4 G4 H4 w4 s4 r4
        have p4 := Post.step (κ := fun G H w => kS X.K C D G H w) stp_S s4 p3
        refine ⟨G4, w4, ρ3, r4, ?_⟩
        cases eb : fb ρ3 with
        | ok z =>
          obtain ⟨fl, ρ5⟩ := z
          rw [R.bind_ok, eb] at p4
          have sG : Same G1 G4 := (s2.trans gr.g).trans s4.g
          cases fl with
          | nx => exact fun σ6 G6 H6 w6 s6 r6 => ⟨rfl, hlt, G6, w6, ρ5, sG.trans s6.g, r6, Post.step (κ := fun G H w => kS X.K C D G H w) stp_S s6 p4⟩
          | ct => exact fun σ6 G6 H6 w6 s6 r6 => ⟨rfl, hlt, G6, w6, ρ5, sG.trans s6.g, r6, Post.step (κ := fun G H w => kS X.K C D G H w) stp_S s6 p4⟩
          | bk => exact p4
          | rt v => exact p4
        | er n => rw [R.bind_ok, eb] at p4; exact p4
        | no => rw [R.bind_ok, eb] at p4; exact p4
      | er n => rw [eg] at p3; exact p3
      | no => rw [eg] at p3; exact p3
    · have e : i = ds.length := by omega
      subst e
      simp only [List.drop_length] at p2
      exact .inl ⟨it2 (Nat.le_refl _), p2 σ2 G2 H2 w2 (.refl _ _ _) r2⟩
noncomputable def whileD (c : DT) (body : DS) : Nat → DS
  | 0, _ => .no
  | n + 1, ρ => (c ρ).bind fun t => if t.1 = true then (body t.2).bind fun a => match a.1 with
      | .nx => whileD c body n a.2
      | .ct => whileD c body n a.2
      | .bk => .ok (.nx, a.2)
      | .rt v => .ok (.rt v, a.2)
    else .ok (.nx, t.2)
theorem js_while (n : Nat) {c : Expr} {body : List Stmt} {tc : DT} {fb : DS} (hp : PassesOwn (model X.prog X.w) X.A X.env X.xe) (hc : JT X C c tc) (hb : JSs X C body fb) : JS X C (.While c body [] pos) (whileD tc fb n) :=
  PS.weak (ps_while hp hc hb) fun D σ H ⟨G, w, ρ, r, p⟩ => by
    refine ⟨fun m σ' H' => ∃ G' w' ρ', Rel X.K C G' w' ρ' σ' H' ∧ Post C.ex (kS X.K C D G' H' w') (whileD tc fb m ρ'), ⟨n, G, w, ρ, r, p⟩, ?_⟩
    rintro m σ1 H1 ⟨G1, w1, ρ1, r1, p1⟩
    cases m with
    | zero => exact p1.elim
    | succ m =>
      unfold whileD at p1
      refine seqT (κ := fun G H w => kS X.K C D G H w) stp_S r1 p1 fun b ρ2 G2 H2 w2 r2 s2 p2 => ?_
      cases b with
      | false => exact p2 σ1 G2 H2 w2 (.refl _ _ _) r2
      | true =>
        refine ⟨fun σ' H' => ∃ G' w' ρ', Rel X.K C G' w' ρ' σ' H' ∧ Post C.ex (kS X.K C D G' H' w') (whileD tc fb m ρ'), fun σ' H' h => ⟨m, Nat.lt_succ_self _, h⟩, G2, w2, ρ2, r2, ?_⟩
        have p2 : Post C.ex (kS X.K C D G2 H2 w2) ((fb ρ2).bind fun a => match a.1 with
          | .nx => whileD tc fb m a.2
          | .ct => whileD tc fb m a.2
          | .bk => .ok (.nx, a.2)
          | .rt v => .ok (.rt v, a.2)) := p2
        cases eb : fb ρ2 with
        | ok z =>
          obtain ⟨fl, ρ5⟩ := z
          rw [eb] at p2
          cases fl with
          | nx => exact fun σ6 G6 H6 w6 s6 r6 => ⟨G6, w6, ρ5, r6, Post.step (κ := fun G H w => kS X.K C D G H w) stp_S s6 p2⟩
          | ct => exact fun σ6 G6 H6 w6 s6 r6 => ⟨G6, w6, ρ5, r6, Post.step (κ := fun G H w => kS X.K C D G H w) stp_S s6 p2⟩
          | bk => exact p2
          | rt v => exact p2
        | er n => rw [eb] at p2; exact p2
        | no => rw [eb] at p2; exact p2
end
end PV
end
section
set_option Elab.async false
set_option linter.all false
set_option maxRecDepth 100000
namespace PV
open PySem PySem.Spec L2
/-! ### calls of the program's own defs -/
noncomputable abbrev FD := List B → R (Dt × List B)
noncomputable def ownB : B → Bool
  | .val _ => false
  | _ => true
noncomputable def kinds (bs : List B) : List Bool := bs.map ownB
structure PRel (K : PySem.W.Frag) (G H : Hp) (w : Wn) (bs : List B) (vs : List V) : Prop where
  gh : Same G H
  wg : ∀ b, w b ≠ none → G b = none
  wh : ∀ b, w b ≠ none → H b ≠ none
  len : bs.length = vs.length
  sl : ∀ (j : Nat) (b : B) (v : V), bs[j]? = some b → vs[j]? = some v → RB K G H w j v b
structure PBack (K : PySem.W.Frag) (G H : Hp) (w : Wn) (ks : List Bool) (bs : List B) (vs : List V) : Prop where
  gh : Same G H
  wg : ∀ b, w b ≠ none → G b = none
  wh : ∀ b, w b ≠ none → H b ≠ none
  sl : ∀ (j : Nat) (v : V), ks[j]? = some true → vs[j]? = some v → ∃ b, bs[j]? = some b ∧ RB K G H w j v b
noncomputable def spOf (nw : Bool) (K : PySem.W.Frag) (xv : Nat → Value) (ks : List Bool) (F : FD) : Sp := fun vs H Q E => ∃ G w bs, vs.length = ks.length ∧ kinds bs = ks ∧ PRel K G H w bs vs ∧
  match F bs with
  | .ok a => ∀ v G' H' w', Step G H w G' H' w' → PBack K G' H' w' ks a.2 vs → RtG nw K H G' H' w' a.1 v → Q v H'
  | .er n => ∀ G' H' w', Step G H w G' H' w' → E (xv n) none H'
  | .no => False
/-- the wish about errors that leave -/
noncomputable def EXc (C : Cn) : XK := fun u a H' => a = none ∧ ∃ n, u = C.xv n ∧ C.ex n ∧ ∃ G' w', Step C.G₀ C.H₀ C.w₀ G' H' w'
inductive Arg where
  | d (x : Dt) | s (i : Nat)
noncomputable def ArgsOk (K : PySem.W.Frag) (G : Hp) (σ : L2.St) : List Arg → List V → Prop
  | [], vs => vs = []
  | .d x :: r, vs => ∃ v t, vs = v :: t ∧ Rep K G x v ∧ ArgsOk K G σ r t
  | .s i :: r, vs => ∃ v t, vs = v :: t ∧ σ[i]? = some (some v) ∧ ArgsOk K G σ r t
theorem ArgsOk.same {K : PySem.W.Frag} {G G' : Hp} {σ : L2.St} (e : Same G G') : ∀ {as : List Arg} {vs : List V}, ArgsOk K G σ as vs → ArgsOk K G' σ as vs
  | [], _, h => h
  | .d _ :: _, _, ⟨v, t, h1, h2, h3⟩ => ⟨v, t, h1, h2.same e, ArgsOk.same e h3⟩
  | .s _ :: _, _, ⟨v, t, h1, h2, h3⟩ => ⟨v, t, h1, h2, ArgsOk.same e h3⟩
noncomputable abbrev DAr := Ev → R (List Arg × Ev)
noncomputable def kAr (K : PySem.W.Frag) (C : Cn) (σ : L2.St) (Q : List V → Hp → Prop) (G H : Hp) (w : Wn) (a : List Arg × Ev) : Prop :=
  ∀ vs G' H' w', Step G H w G' H' w' → Rel K C G' w' a.2 σ H' → ArgsOk K G' σ a.1 vs → Q vs H'
noncomputable def tAr (K : PySem.W.Frag) (C : Cn) (f : DAr) : TA := fun σ H Q => ∃ G w ρ, Rel K C G w ρ σ H ∧ Post C.ex (kAr K C σ Q G H w) (f ρ)
noncomputable abbrev JAr (X : Cx) (C : Cn) (es : List Expr) (f : DAr) : Prop := PA X es (tAr X.K C f)
theorem stp_Ar {K : PySem.W.Frag} {C : Cn} {σ : L2.St} {Q : List V → Hp → Prop} : Stp (fun G H w => kAr K C σ Q G H w) := fun _ _ _ _ _ _ _ s k v G' H' w' s' => k v G' H' w' (s.trans s')
theorem seqAr {K : PySem.W.Frag} {C : Cn} {σ : L2.St} {α : Type} {κ : Kont α} (st : Stp κ) {G H : Hp} {w : Wn} {ρ : Ev} {fa : DAr} {g : List Arg × Ev → R α} {Q : List V → Hp → Prop} (r : Rel K C G w ρ σ H) (p : Post C.ex (κ G H w) ((fa ρ).bind g))
    (k : ∀ as ρ1 vs G1 H1 w1, Rel K C G1 w1 ρ1 σ H1 → Step G H w G1 H1 w1 → ArgsOk K G1 σ as vs → Post C.ex (κ G1 H1 w1) (g (as, ρ1)) → Q vs H1) : tAr K C fa σ H Q := by
  refine ⟨G, w, ρ, r, ?_⟩
  cases e : fa ρ with
  | ok a =>
    rw [e] at p
    intro v G' H' w' s' r' q
    exact k a.1 a.2 v G' H' w' r' s' q (Post.step st s' p)
  | er n => rw [e] at p; exact p
  | no => rw [e] at p; exact p
noncomputable def dR0 : DAr := fun ρ => .ok ([], ρ)
noncomputable def dR (fa : De) (fr : DAr) : DAr := fun ρ => (fa ρ).bind fun a => (fr a.2).bind fun b => .ok (.d a.1 :: b.1, b.2)
noncomputable def dRO (i : Nat) (fr : DAr) : DAr := fun ρ => match ρ[i]? with
  | some (some _) => (fr ρ).bind fun b => .ok (.s i :: b.1, b.2)
  | _ => .no
section
variable {X : Cx} {C : Cn} {fa : De} {fr : DAr} {pos : Pos}
theorem jr_nil : JAr X C [] dR0 := PA.weak pa_nil fun σ H Q ⟨G, w, ρ, r, p⟩ => p _ G H w (.refl _ _ _) r rfl
theorem jr_cons {e : Expr} {es : List Expr} (ha : JE X C e fa) (hr : JAr X C es fr) (hs : starEach (e :: es) X.env = (false, eval e X.env) :: starEach es X.env := by rfl) : JAr X C (e :: es) (dR fa fr) :=
  PA.weak (pa_cons ha hr hs) fun σ H Q ⟨G, w, ρ, r, p⟩ => by
    refine seqE (κ := fun G H w => kAr X.K C σ Q G H w) stp_Ar r p fun d ρ1 v G1 H1 w1 r1 s1 q1 p1 => ?_
    refine seqAr (κ := fun G H w => kAr X.K C σ Q G H w) stp_Ar r1 p1 fun as ρ2 vs G2 H2 w2 r2 s2 q2 p2 => ?_
    exact p2 _ G2 H2 w2 (.refl _ _ _) r2 ⟨v, vs, rfl, q1.same s2.g, q2⟩
theorem jr_own (i : Nat) {x : Str} {ps : Pos} {es : List Expr} (hr : JAr X C es fr) (hN : X.N[i]? = some x := by rfl) (hv : Vis X.env.scope x := by first | exact Or.inl rfl | exact Or.inr (Or.inl rfl) | exact Or.inr (Or.inr rfl)) (hd : (x == ("__debug__" : Str)) = false := by decide)
    (hcd : (x == ("__classdict__" : Str)) = false := by decide) (hs : starEach (.Name x ps :: es) X.env = (false, eval (.Name x ps) X.env) :: starEach es X.env := by rfl) : JAr X C (.Name x ps :: es) (dRO i fr) :=
  PA.weak (pa_cons (pe_var hN hv hd hcd) hr hs) fun σ H Q ⟨G, w, ρ, r, p⟩ => by
    unfold dRO at p
    split at p
    · rename_i b e
      obtain ⟨v, h1, _⟩ := r.sl i b e
      refine ⟨v, h1, ?_⟩
      refine seqAr (κ := fun G H w => kAr X.K C σ Q G H w) stp_Ar r p fun as ρ2 vs G2 H2 w2 r2 s2 q2 p2 => ?_
      exact p2 _ G2 H2 w2 (.refl _ _ _) r2 ⟨v, vs, rfl, h1, q2⟩
    · exact p.elim
end
noncomputable def slotAt (as : List Arg) (j : Nat) : Option Nat := match as[j]? with
  | some (.s i) => some i
  | _ => none
noncomputable def posFrom (i : Nat) : Nat → List Arg → Option Nat
  | _, [] => none
  | j, .s i' :: r => if i' = i then some j else posFrom i (j + 1) r
  | j, .d _ :: r => posFrom i (j + 1) r
noncomputable def posOf (as : List Arg) (i : Nat) : Option Nat := posFrom i 0 as
noncomputable def uniqFrom (as : List Arg) : Nat → List Arg → Bool
  | _, [] => true
  | j, .s i :: r => (posOf as i == some j) && uniqFrom as (j + 1) r
  | j, .d _ :: r => uniqFrom as (j + 1) r
noncomputable def uniq (as : List Arg) : Bool := uniqFrom as 0 as
theorem uniqFrom_at {as : List Arg} : ∀ {l : List Arg} {j k : Nat} {i : Nat}, uniqFrom as j l = true → l[k]? = some (.s i) → posOf as i = some (j + k)
  | [], _, _, _, _, e => by simp at e
  | .s i' :: r, j, 0, i, h, e => by
    simp at e; subst e
    unfold uniqFrom at h
    rw [Bool.and_eq_true] at h
    simpa using h.1
  | .s i' :: r, j, k + 1, i, h, e => by
    unfold uniqFrom at h
    rw [Bool.and_eq_true] at h
    have := uniqFrom_at (k := k) h.2 (by simpa using e)
    rw [this]; congr 1; omega
  | .d x :: r, j, 0, i, h, e => by simp at e
  | .d x :: r, j, k + 1, i, h, e => by
    unfold uniqFrom at h
    have := uniqFrom_at (k := k) h (by simpa using e)
    rw [this]; congr 1; omega
theorem posFrom_at {i : Nat} : ∀ {l : List Arg} {j m : Nat}, posFrom i j l = some m → ∃ k, m = j + k ∧ l[k]? = some (.s i)
  | [], _, _, h => by simp [posFrom] at h
  | .s i' :: r, j, m, h => by
    unfold posFrom at h
    split at h
    · rename_i e; subst e; cases h; exact ⟨0, rfl, rfl⟩
    · obtain ⟨k, h1, h2⟩ := posFrom_at h
      exact ⟨k + 1, by omega, by simpa using h2⟩
  | .d x :: r, j, m, h => by
    unfold posFrom at h
    obtain ⟨k, h1, h2⟩ := posFrom_at h
    exact ⟨k + 1, by omega, by simpa using h2⟩
theorem posOf_at {as : List Arg} {i j : Nat} (h : posOf as i = some j) : as[j]? = some (.s i) := by
  obtain ⟨k, h1, h2⟩ := posFrom_at h
  have : j = k := by omega
  subst this; exact h2
theorem posOf_of {as : List Arg} {i j : Nat} (u : uniq as = true) (h : as[j]? = some (.s i)) : posOf as i = some j := by
  have := uniqFrom_at (j := 0) u h
  simpa using this
noncomputable def resolve (ρ : Ev) : List Arg → R (List B)
  | [] => .ok []
  | .d x :: r => (resolve ρ r).bind fun bs => .ok (.val x :: bs)
  | .s i :: r => match ρ[i]? with
    | some (some b) => if ownB b = true then (resolve ρ r).bind fun bs => .ok (b :: bs) else .no
    | _ => .no
noncomputable def putB (as : List Arg) (bs : List B) : Nat → Ev → Ev
  | _, [] => []
  | i, o :: r => (match posOf as i with | some j => bs[j]? | none => o) :: putB as bs (i + 1) r
theorem putB_get {as : List Arg} {bs : List B} : ∀ {ρ : Ev} {k i : Nat}, (putB as bs k ρ)[i]? = ρ[i]?.map fun o => match posOf as (k + i) with | some j => bs[j]? | none => o
  | [], _, _ => by simp [putB]
  | o :: r, k, 0 => by simp [putB]
  | o :: r, k, i + 1 => by
    have := putB_get (as := as) (bs := bs) (ρ := r) (k := k + 1) (i := i)
    simp only [putB, List.getElem?_cons_succ]
    rw [this]
    have e : k + 1 + i = k + (i + 1) := by omega
    rw [e]
theorem putB_len {as : List Arg} {bs : List B} : ∀ {ρ : Ev} {k : Nat}, (putB as bs k ρ).length = ρ.length
  | [], _ => rfl
  | o :: r, k => by simp [putB, putB_len (ρ := r)]
noncomputable def dCall (F : FD) (fa : DAr) : De := fun ρ => (fa ρ).bind fun a => if uniq a.1 = true then (resolve a.2 a.1).bind fun bs => (F bs).bind fun z => .ok (z.1, putB a.1 z.2 0 a.2) else .no
theorem resolve_slot {ρ : Ev} : ∀ {as : List Arg} {bs : List B} {j i : Nat}, resolve ρ as = .ok bs → as[j]? = some (.s i) → ∃ b, ρ[i]? = some (some b) ∧ bs[j]? = some b ∧ ownB b = true
  | [], bs, j, i, h, e => by simp at e
  | .d x :: r, bs, j, i, h, e => by
    unfold resolve at h
    cases q : resolve ρ r with
    | ok l =>
      rw [q] at h; simp only [R.bind_ok, R.ok.injEq] at h; subst h
      cases j with
      | zero => simp at e
      | succ j =>
        obtain ⟨b, h1, h2, h3⟩ := resolve_slot (j := j) q (by simpa using e)
        exact ⟨b, h1, by simpa using h2, h3⟩
    | er n => rw [q] at h; simp at h
    | no => rw [q] at h; simp at h
  | .s i' :: r, bs, j, i, h, e => by
    unfold resolve at h
    split at h
    · rename_i b eb
      split at h
      · rename_i ob
        cases q : resolve ρ r with
        | ok l =>
          rw [q] at h; simp only [R.bind_ok, R.ok.injEq] at h; subst h
          cases j with
          | zero => simp at e; subst e; exact ⟨b, eb, rfl, ob⟩
          | succ j =>
            obtain ⟨b, h1, h2, h3⟩ := resolve_slot (j := j) q (by simpa using e)
            exact ⟨b, h1, by simpa using h2, h3⟩
        | er n => rw [q] at h; simp at h
        | no => rw [q] at h; simp at h
      · cases h
    · cases h
theorem resolve_er {ρ : Ev} : ∀ {as : List Arg} {n : Nat}, resolve ρ as ≠ .er n
  | [], n, h => by simp [resolve] at h
  | .d x :: r, n, h => by
    unfold resolve at h
    cases q : resolve ρ r with
    | ok l => rw [q] at h; simp at h
    | er m => exact resolve_er q
    | no => rw [q] at h; simp at h
  | .s i :: r, n, h => by
    unfold resolve at h
    split at h
    · split at h
      · cases q : resolve ρ r with
        | ok l => rw [q] at h; simp at h
        | er m => exact resolve_er q
        | no => rw [q] at h; simp at h
      · cases h
    · cases h
/-- the callee's owners -/
noncomputable def wIn (w : Wn) (as : List Arg) : Wn := fun b => (w b).bind (posOf as)
/-- the caller's, behind the call -/
noncomputable def wOut (w w' : Wn) (as : List Arg) : Wn := fun b => match w' b with
  | some j => slotAt as j
  | none => if (w b).bind (posOf as) = none then w b else none
section
variable {K : PySem.W.Frag} {C : Cn} {σ : L2.St} {G H : Hp} {w : Wn} {ρ : Ev}
theorem args_sl (r : Rel K C G w ρ σ H) : ∀ {as l : List Arg} {vs : List V} {bs : List B} {k j : Nat} {b : B} {v : V}, (∀ m i, l[m]? = some (.s i) → posOf as i = some (k + m)) → ArgsOk K G σ l vs → resolve ρ l = .ok bs → bs[j]? = some b → vs[j]? = some v → RB K G H (wIn w as) (k + j) v b
  | as, [], vs, bs, k, j, b, v, hu, ha, hr, hb, hv => by simp [resolve] at hr; subst hr; simp at hb
  | as, .d x :: l, vs, bs, k, j, b, v, hu, ha, hr, hb, hv => by
    obtain ⟨v0, t, rfl, h2, h3⟩ := ha
    unfold resolve at hr
    cases q : resolve ρ l with
    | ok l' =>
      rw [q] at hr; simp only [R.bind_ok, R.ok.injEq] at hr; subst hr
      cases j with
      | zero => simp at hb hv; subst hb; subst hv; exact h2
      | succ j =>
        have := args_sl r (as := as) (k := k + 1) (j := j) (fun m i e => by rw [hu (m + 1) i (by simpa using e)]; congr 1; omega) h3 q (by simpa using hb) (by simpa using hv)
        have e : k + 1 + j = k + (j + 1) := by omega
        rw [e] at this; exact this
    | er n => rw [q] at hr; simp at hr
    | no => rw [q] at hr; simp at hr
  | as, .s i :: l, vs, bs, k, j, b, v, hu, ha, hr, hb, hv => by
    obtain ⟨v0, t, rfl, h2, h3⟩ := ha
    unfold resolve at hr
    split at hr
    · rename_i b0 eb
      split at hr
      · rename_i ob
        cases q : resolve ρ l with
        | ok l' =>
          rw [q] at hr; simp only [R.bind_ok, R.ok.injEq] at hr; subst hr
          cases j with
          | zero =>
            simp at hb hv; subst hb; subst hv
            obtain ⟨v1, h4, h5⟩ := r.sl i _ eb
            rw [h2] at h4; cases h4
            exact h5.grow (.refl _) fun a o e1 e2 => ⟨e2, by unfold wIn; rw [e1]; exact hu 0 i rfl⟩
          | succ j =>
            have := args_sl r (as := as) (k := k + 1) (j := j) (fun m i e => by rw [hu (m + 1) i (by simpa using e)]; congr 1; omega) h3 q (by simpa using hb) (by simpa using hv)
            have e : k + 1 + j = k + (j + 1) := by omega
            rw [e] at this; exact this
        | er n => rw [q] at hr; simp at hr
        | no => rw [q] at hr; simp at hr
      · cases hr
    · cases hr
theorem args_len : ∀ {as : List Arg} {vs : List V} {bs : List B}, ArgsOk K G σ as vs → resolve ρ as = .ok bs → bs.length = vs.length
  | [], vs, bs, ha, hr => by simp [resolve] at hr; subst hr; cases ha; rfl
  | .d x :: l, vs, bs, ha, hr => by
    obtain ⟨v0, t, rfl, h2, h3⟩ := ha
    unfold resolve at hr
    cases q : resolve ρ l with
    | ok l' => rw [q] at hr; simp only [R.bind_ok, R.ok.injEq] at hr; subst hr; simp [args_len h3 q]
    | er n => rw [q] at hr; simp at hr
    | no => rw [q] at hr; simp at hr
  | .s i :: l, vs, bs, ha, hr => by
    obtain ⟨v0, t, rfl, h2, h3⟩ := ha
    unfold resolve at hr
    split at hr
    · split at hr
      · cases q : resolve ρ l with
        | ok l' => rw [q] at hr; simp only [R.bind_ok, R.ok.injEq] at hr; subst hr; simp [args_len h3 q]
        | er n => rw [q] at hr; simp at hr
        | no => rw [q] at hr; simp at hr
      · cases hr
    · cases hr
theorem args_slot : ∀ {as : List Arg} {vs : List V} {j i : Nat}, ArgsOk K G σ as vs → as[j]? = some (.s i) → ∃ v, vs[j]? = some v ∧ σ[i]? = some (some v)
  | [], _, _, _, _, e => by simp at e
  | .d x :: l, vs, j, i, ha, e => by
    obtain ⟨v0, t, rfl, h2, h3⟩ := ha
    cases j with
    | zero => simp at e
    | succ j => obtain ⟨v, e1, e2⟩ := args_slot (j := j) h3 (by simpa using e); exact ⟨v, by simpa using e1, e2⟩
  | .s i' :: l, vs, j, i, ha, e => by
    obtain ⟨v0, t, rfl, h2, h3⟩ := ha
    cases j with
    | zero => simp at e; subst e; exact ⟨v0, rfl, h2⟩
    | succ j => obtain ⟨v, e1, e2⟩ := args_slot (j := j) h3 (by simpa using e); exact ⟨v, by simpa using e1, e2⟩
/-- behind a call -/
theorem Rel.back {as : List Arg} {vs : List V} {bs bs' : List B} {ks : List Bool} {G' H' : Hp} {w' : Wn} (r : Rel K C G w ρ σ H) (u : uniq as = true) (ha : ArgsOk K G σ as vs) (hr : resolve ρ as = .ok bs) (hk : kinds bs = ks)
    (s : Step G H (wIn w as) G' H' w') (pb : PBack K G' H' w' ks bs' vs) : Rel K C G' (wOut w w' as) (putB as bs' 0 ρ) σ H' ∧ Step G H w G' H' (wOut w w' as) := by
  have wi : ∀ b, wIn w as b ≠ none → w b ≠ none := fun b e z => e (by unfold wIn; rw [z]; rfl)
  have wi2 : ∀ b, w b = none → wIn w as b = none := fun b z => by unfold wIn; rw [z]; rfl
  have st : Step G H w G' H' (wOut w w' as) := by
    refine ⟨s.g, fun b o e => ?_, fun b o e z => s.h b o e (wi2 b z), fun b e => ?_, s.k⟩
    · rcases s.fr b o e with q | q | q
      · exact .inl q
      · exact .inr (.inl q)
      · exact .inr (.inr (wi b q))
    · unfold wOut at e
      split at e
      · rename_i j ej
        rcases s.w b (by rw [ej]; simp) with q | q
        · exact .inl (wi b q)
        · exact .inr q
      · split at e
        · exact .inl e
        · exact absurd rfl e
  -- an address of the caller's that was not handed on
  have keep : ∀ a o, w a ≠ none → (w a).bind (posOf as) = none → H a = some o → H' a = some o ∧ w' a = none ∧ G' a = none := fun a o e1 e2 e3 => by
    have e4 : wIn w as a = none := e2
    have e5 := s.h a o e3 e4
    have e6 : w' a = none := by
      cases q : w' a with
      | none => rfl
      | some j =>
        rcases s.w a (by rw [q]; simp) with z | z
        · exact absurd e4 z
        · rw [e3] at z; cases z
    refine ⟨e5, e6, ?_⟩
    cases q : G' a with
    | none => rfl
    | some o' =>
      rcases s.fr a o' q with z | z | z
      · exact absurd (r.wg a e1) z
      · rw [e3] at z; cases z
      · exact absurd e4 z
  refine ⟨⟨pb.gh, fun b e => ?_, fun b e => ?_, by rw [putB_len]; exact r.len, fun i b e => ?_, r.en.trans st, r.pin⟩, st⟩
  · unfold wOut at e
    split at e
    · rename_i j ej
      exact pb.wg b (by rw [ej]; simp)
    · split at e
      · rename_i e2
        cases q : H b with
        | none => exact absurd q (r.wh b e)
        | some o => exact (keep b o e e2 q).2.2
      · exact absurd rfl e
  · unfold wOut at e
    split at e
    · rename_i j ej
      exact pb.wh b (by rw [ej]; simp)
    · split at e
      · rename_i e2
        cases q : H b with
        | none => exact absurd q (r.wh b e)
        | some o => rw [(keep b o e e2 q).1]; simp
      · exact absurd rfl e
  · rw [putB_get, Nat.zero_add] at e
    cases q : posOf as i with
    | some j =>
      have ej := posOf_at q
      obtain ⟨v, e1, e2⟩ := args_slot ha ej
      obtain ⟨b0, h1, h2, h3⟩ := resolve_slot hr ej
      have hkj : ks[j]? = some true := by rw [← hk]; unfold kinds; rw [List.getElem?_map, h2]; simp [h3]
      obtain ⟨b', h4, h5⟩ := pb.sl j v hkj e1
      rw [h1] at e
      simp only [q, Option.map_some] at e
      rw [h4] at e
      have e' : b' = b := by simpa using e
      subst e'
      refine ⟨v, e2, h5.grow (.refl _) fun a o q1 q2 => ⟨q2, ?_⟩⟩
      unfold wOut slotAt
      rw [q1]; simp only; rw [ej]
    | none =>
      cases e1 : ρ[i]? with
      | none => rw [e1] at e; simp at e
      | some o0 =>
        rw [e1] at e
        simp only [q, Option.map_some, Option.some.injEq] at e
        subst e
        obtain ⟨v, h1, h2⟩ := r.sl i b e1
        refine ⟨v, h1, h2.grow s.g fun a o q1 q2 => ?_⟩
        have z : (w a).bind (posOf as) = none := by rw [q1]; exact q
        obtain ⟨k1, k2, _⟩ := keep a o (by rw [q1]; simp) z q2
        refine ⟨k1, ?_⟩
        unfold wOut
        rw [k2]; simp only; rw [if_pos z]; exact q1
end
section
variable {X : Cx} {C : Cn} {CX : CXT} {k : Nat} {f : Addr} {fd : FuncData} {ps : List Str} {ks : List Bool} {Fd : FD} {x : Str} {p pos : Pos} {e : Expr} {es : List Expr} {far : DAr}
theorem call_read {σ : L2.St} {H : Hp} {Q : VK} (h : tE X.K C (dCall Fd far) σ H Q) (hks : ∀ bs, Fd bs ≠ .no → kinds bs = ks) : tCall (spOf false X.K C.xv ks Fd) [] (EXc C) (tAr X.K C far) σ H Q := by
  obtain ⟨G, w, ρ, r, p⟩ := h
  refine seqAr (κ := fun G H w => kE X.K C σ Q G H w) stp_E r p fun as ρ1 vs G1 H1 w1 r1 s1 q1 p1 => ?_
  rw [List.append_nil]
  by_cases hu : uniq as = true
  · simp only [hu, if_true] at p1
    cases er : resolve ρ1 as with
    | ok bs =>
      rw [er, R.bind_ok] at p1
      have hk : kinds bs = ks := by
        refine hks bs fun z => ?_
        rw [z] at p1; exact p1
      have hl : bs.length = vs.length := args_len q1 er
      refine ⟨G1, wIn w1 as, bs, by rw [← hk, ← hl]; simp [kinds], hk, ⟨r1.gh, fun b e => r1.wg b fun z => e (by unfold wIn; rw [z]; rfl), fun b e => r1.wh b fun z => e (by unfold wIn; rw [z]; rfl), hl, fun j b v e1 e2 => ?_⟩, ?_⟩
      · have := args_sl r1 (as := as) (k := 0) (j := j) (fun m i e => by rw [Nat.zero_add]; exact posOf_of hu e) q1 er e1 e2
        rw [Nat.zero_add] at this; exact this
      · cases ef : Fd bs with
        | ok z =>
          rw [ef, R.bind_ok] at p1
          intro v G' H' w' s' pb q
          obtain ⟨r', st⟩ := r1.back hu q1 er hk s' pb
          exact p1 v G' H' _ st r' q
        | er n =>
          rw [ef] at p1
          intro G' H' w' s'
          refine ⟨rfl, n, rfl, p1, G', fun _ => none, r1.en.trans ⟨s'.g, fun b o e => ?_, fun b o e z => s'.h b o e (by unfold wIn; rw [z]; rfl), fun b e => absurd rfl e, s'.k⟩⟩
          rcases s'.fr b o e with q | q | q
          · exact .inl q
          · exact .inr (.inl q)
          · exact .inr (.inr fun z => q (by unfold wIn; rw [z]; rfl))
        | no => rw [ef] at p1; exact p1.elim
    | er n => exact absurd er resolve_er
    | no => rw [er] at p1; exact p1.elim
  · simp only [hu] at p1; exact p1.elim
theorem je_call (F : FnOk X.prog X.w X.K X.mg X.base CX k f fd ps (spOf false X.K C.xv ks Fd)) (hr : Room k X.A) (hg : Gl X x) (hm : X.mg x = some (.ref f)) (hk : PySem.W.keepIn X.K (.ref f) = true) (hb : Binds X.K fd ps []) (hx : Passes CX X (EXc C)) (hks : ∀ bs, Fd bs ≠ .no → kinds bs = ks)
    (ha : JAr X C (e :: es) far) (hdb : (x == ("__debug__" : Str)) = false := by decide) (he : starEach (e :: es) X.env = (false, eval e X.env) :: starEach es X.env := by rfl) (hpl : (backTo pos (starEach es X.env)).any (·.1) = false := by rfl) :
    JE X C (.Call (.Name x p) (e :: es) [] pos) (dCall Fd far) :=
  PE.weak (pe_call F hr hg hm hk hb .nil hx ha hdb he hpl) fun σ H Q h => call_read h hks
/-- a call that brings a list that nobody else has -/
noncomputable def dCallN (F : FD) (fa : DAr) : DN := fun ρ => (fa ρ).bind fun a => if uniq a.1 = true then (resolve a.2 a.1).bind fun bs => (F bs).bind fun z => match z.1 with
    | .lst l => .ok (l, putB a.1 z.2 0 a.2)
    | _ => .no
  else .no
theorem call_readN {σ : L2.St} {H : Hp} {Q : VK} (h : tN X.K C (dCallN Fd far) σ H Q) (hks : ∀ bs, Fd bs ≠ .no → kinds bs = ks) : tCall (spOf true X.K C.xv ks Fd) [] (EXc C) (tAr X.K C far) σ H Q := by
  obtain ⟨G, w, ρ, r, p⟩ := h
  refine seqAr (κ := fun G H w => kN X.K C σ Q G H w) stp_N r p fun as ρ1 vs G1 H1 w1 r1 s1 q1 p1 => ?_
  rw [List.append_nil]
  by_cases hu : uniq as = true
  · simp only [hu, if_true] at p1
    cases er : resolve ρ1 as with
    | ok bs =>
      rw [er, R.bind_ok] at p1
      have hk : kinds bs = ks := by
        refine hks bs fun z => ?_
        rw [z] at p1; exact p1
      have hl : bs.length = vs.length := args_len q1 er
      refine ⟨G1, wIn w1 as, bs, by rw [← hk, ← hl]; simp [kinds], hk, ⟨r1.gh, fun b e => r1.wg b fun z => e (by unfold wIn; rw [z]; rfl), fun b e => r1.wh b fun z => e (by unfold wIn; rw [z]; rfl), hl, fun j b v e1 e2 => ?_⟩, ?_⟩
      · have := args_sl r1 (as := as) (k := 0) (j := j) (fun m i e => by rw [Nat.zero_add]; exact posOf_of hu e) q1 er e1 e2
        rw [Nat.zero_add] at this; exact this
      · cases ef : Fd bs with
        | ok z =>
          rw [ef, R.bind_ok] at p1
          intro v G' H' w' s' pb q
          obtain ⟨r', st⟩ := r1.back hu q1 er hk s' pb
          obtain ⟨l, pp, us, e1, e2, e3, e4, e5, e6, e7⟩ := q
          subst e2
          rw [e1] at p1
          refine p1 pp us G' H' _ st r' e3 e4 e5 ?_ e7
          have w1p : w1 pp = none := by
            cases zz : w1 pp with
            | none => rfl
            | some k => exact absurd e3 (r1.wh pp (by rw [zz]; simp))
          unfold wOut
          rw [e6, w1p]; rfl
        | er n =>
          rw [ef] at p1
          intro G' H' w' s'
          refine ⟨rfl, n, rfl, p1, G', fun _ => none, r1.en.trans ⟨s'.g, fun b o e => ?_, fun b o e z => s'.h b o e (by unfold wIn; rw [z]; rfl), fun b e => absurd rfl e, s'.k⟩⟩
          rcases s'.fr b o e with q | q | q
          · exact .inl q
          · exact .inr (.inl q)
          · exact .inr (.inr fun z => q (by unfold wIn; rw [z]; rfl))
        | no => rw [ef] at p1; exact p1.elim
    | er n => exact absurd er resolve_er
    | no => rw [er] at p1; exact p1.elim
  · simp only [hu] at p1; exact p1.elim
theorem jn_call (F : FnOk X.prog X.w X.K X.mg X.base CX k f fd ps (spOf true X.K C.xv ks Fd)) (hr : Room k X.A) (hg : Gl X x) (hm : X.mg x = some (.ref f)) (hk : PySem.W.keepIn X.K (.ref f) = true) (hb : Binds X.K fd ps []) (hx : Passes CX X (EXc C)) (hks : ∀ bs, Fd bs ≠ .no → kinds bs = ks)
    (ha : JAr X C (e :: es) far) (hdb : (x == ("__debug__" : Str)) = false := by decide) (he : starEach (e :: es) X.env = (false, eval e X.env) :: starEach es X.env := by rfl) (hpl : (backTo pos (starEach es X.env)).any (·.1) = false := by rfl) :
    JN X C (.Call (.Name x p) (e :: es) [] pos) (dCallN Fd far) :=
  PE.weak (pe_call F hr hg hm hk hb .nil hx ha hdb he hpl) fun σ H Q h => call_readN h hks
/-! ### a def keeps its promise -/
noncomputable def backAll : List Bool → Ev → R (List B)
  | [], _ => .ok []
  | false :: ks, _ :: ρ => (backAll ks ρ).bind fun l => .ok (.val .non :: l)
  | true :: ks, some b :: ρ => (backAll ks ρ).bind fun l => .ok (b :: l)
  | _, _ => .no
noncomputable def runDef (nw : Bool) (ks : List Bool) (m : Nat) (body : DS) : FD := fun bs => if kinds bs = ks then (body (bs.map some ++ List.replicate m none)).bind fun a => match a.1 with
    | .nx => if nw = true then .no else (backAll ks a.2).bind fun l => .ok (.non, l)
    | .rt d => (backAll ks a.2).bind fun l => .ok (d, l)
    | _ => .no
  else .no
theorem runDef_ks {nw : Bool} {ks : List Bool} {m : Nat} {body : DS} : ∀ bs, runDef nw ks m body bs ≠ .no → kinds bs = ks := fun bs h => by
  unfold runDef at h
  by_cases e : kinds bs = ks
  · exact e
  · rw [if_neg e] at h; exact absurd rfl h
theorem backAll_get : ∀ {ks : List Bool} {ρ : Ev} {l : List B} {j : Nat}, backAll ks ρ = .ok l → ks[j]? = some true → ∃ b, l[j]? = some b ∧ ρ[j]? = some (some b)
  | [], _, _, _, _, e => by simp at e
  | false :: ks, [], l, j, h, e => by simp [backAll] at h
  | true :: ks, [], l, j, h, e => by simp [backAll] at h
  | false :: ks, o :: ρ, l, j, h, e => by
    unfold backAll at h
    cases q : backAll ks ρ with
    | ok l' =>
      rw [q] at h; simp only [R.bind_ok, R.ok.injEq] at h; subst h
      cases j with
      | zero => simp at e
      | succ j => obtain ⟨b, h1, h2⟩ := backAll_get (j := j) q (by simpa using e); exact ⟨b, by simpa using h1, by simpa using h2⟩
    | er n => rw [q] at h; simp at h
    | no => rw [q] at h; simp at h
  | true :: ks, none :: ρ, l, j, h, e => by simp [backAll] at h
  | true :: ks, some b :: ρ, l, j, h, e => by
    unfold backAll at h
    cases q : backAll ks ρ with
    | ok l' =>
      rw [q] at h; simp only [R.bind_ok, R.ok.injEq] at h; subst h
      cases j with
      | zero => exact ⟨b, rfl, rfl⟩
      | succ j => obtain ⟨b, h1, h2⟩ := backAll_get (j := j) q (by simpa using e); exact ⟨b, by simpa using h1, by simpa using h2⟩
    | er n => rw [q] at h; simp at h
    | no => rw [q] at h; simp at h
theorem backAll_er : ∀ {ks : List Bool} {ρ : Ev} {n : Nat}, backAll ks ρ ≠ .er n
  | [], _, _, h => by simp [backAll] at h
  | false :: ks, [], n, h => by simp [backAll] at h
  | true :: ks, [], n, h => by simp [backAll] at h
  | false :: ks, o :: ρ, n, h => by
    unfold backAll at h
    cases q : backAll ks ρ with
    | ok l' => rw [q] at h; simp at h
    | er m => exact backAll_er q
    | no => rw [q] at h; simp at h
  | true :: ks, none :: ρ, n, h => by simp [backAll] at h
  | true :: ks, some b :: ρ, n, h => by
    unfold backAll at h
    cases q : backAll ks ρ with
    | ok l' => rw [q] at h; simp at h
    | er m => exact backAll_er q
    | no => rw [q] at h; simp at h
/-- the places of the lists of one's own among the parameters -/
noncomputable def ownIx (ks : List Bool) : List Nat := (List.range ks.length).filter fun j => ks[j]? == some true
/-- errors that leave a frame -/
noncomputable def Leaves (CX : CXT) (P : Program) (w : World) (K : PySem.W.Frag) (mg : Str → Option Value) (base : Heap) : Prop :=
  ∀ (N : List Str) (qual : Str) (scope : Scope) (f : Addr) (cdv : Value) (A : Around) (outer : List Env) (s : Shared) (H : Hp) (E E' : XK), scope.kind = .function → (∀ u a H', E' u a H' → E u a H') →
    Passes CX (cxOf CX P w K mg base N qual scope f cdv A outer s H E) E'
theorem fn_pure {P : Program} {w : World} {K : PySem.W.Frag} {mg : Str → Option Value} {base : Heap} {xq qual : Str} {st : Stmt} {N : List Str} {xv : Nat → Value} {m : Nat} {fb : DS} (nw : Bool) (lv : Leaves CX P w K mg base) (F : Fun K xq qual st f fd) (S : FnScope N ps (defScope st)) (hl : ps.length = ks.length) (hm : N.length = ks.length + m)
    (hbody : ∀ (X : Cx) (C : Cn), (∃ cdv A outer s H E, X = cxOf CX P w K mg base N qual (defScope st) f cdv A outer s H E) → C.pp = ownIx ks → C.xv = xv → C.nw = nw → Room k X.A → Passes CX X (EXc C) → PassesOwn (model X.prog X.w) X.A X.env X.xe → JSs X C (defBody st) fb) :
    FnOk P w K mg base CX (k + 1) f fd ps (spOf nw K xv ks (runDef nw ks m fb)) := by
  obtain ⟨oc, od, kV, doc, pm, an, cdv, ct, osl, rfl, lk, hcd⟩ := F.ex
  refine fn_of lk hcd S (fun vs H Q E ⟨_, _, _, h, _⟩ => h.trans hl.symm) fun A outer s H vs Q E hr hsp => ?_
  obtain ⟨G, w0, bs, hv, hk, pr, hF⟩ := hsp
  let X := cxOf CX P w K mg base N qual (defScope st) f cdv A outer s H E
  let C : Cn := ⟨G, H, w0, ownIx ks, L2.start N vs, fun n => runDef nw ks m fb bs = .er n, xv, nw⟩
  have hE : ∀ u a H', EXc C u a H' → E u a H' := fun u a H' ⟨ea, n, eu, en, G', w', s'⟩ => by
    subst ea; subst eu
    have en' : runDef nw ks m fb bs = .er n := en
    rw [en'] at hF
    exact hF G' H' w' s'
  have hb := hbody X C ⟨cdv, A, outer, s, H, E, rfl⟩ rfl rfl rfl hr (lv N qual (defScope st) f cdv A outer s H E (EXc C) S.kind hE) PassesOwn.leaving
  refine ⟨_, hb, G, w0, bs.map some ++ List.replicate m none, ?_, ?_⟩
  · refine ⟨pr.gh, pr.wg, pr.wh, ?_, fun i b e => ?_, .refl _ _ _, fun i _ => rfl⟩
    · unfold L2.start
      simp only [List.length_append, List.length_map, List.length_replicate]
      have := pr.len
      omega
    · have hi : i < bs.length := by
        by_cases hi : i < bs.length
        · exact hi
        · rw [List.getElem?_append_right (by simpa using hi), List.getElem?_replicate] at e
          split at e <;> cases e
      rw [List.getElem?_append_left (by simpa using hi), List.getElem?_map] at e
      have eb : bs[i]? = some b := by
        cases q : bs[i]? with
        | none => rw [q] at e; cases e
        | some z => rw [q] at e; cases e; rfl
      have hiv : i < vs.length := by rw [← pr.len]; exact hi
      refine ⟨vs[i], ?_, pr.sl i b vs[i] eb (by simp [hiv])⟩
      unfold L2.start
      rw [List.getElem?_append_left (by simpa using hiv), List.getElem?_map]
      simp [hiv]
  · have hF' : match runDef nw ks m fb bs with
      | .ok a => ∀ v G' H' w', Step G H w0 G' H' w' → PBack K G' H' w' ks a.2 vs → RtG nw K H G' H' w' a.1 v → Q v H'
      | .er n => ∀ G' H' w', Step G H w0 G' H' w' → E (xv n) none H'
      | .no => False := hF
    have er : runDef nw ks m fb bs = (fb (bs.map some ++ List.replicate m none)).bind fun a => match a.1 with
      | .nx => if nw = true then .no else (backAll ks a.2).bind fun l => .ok (.non, l)
      | .rt d => (backAll ks a.2).bind fun l => .ok (d, l)
      | _ => .no := by unfold runDef; rw [if_pos hk]
    have back : ∀ {ρ' : Ev} {l : List B} {σ' : L2.St} {G' H' : Hp} {w' : Wn}, backAll ks ρ' = .ok l → Rel K C G' w' ρ' σ' H' → PBack K G' H' w' ks l vs := fun {ρ' l σ' G' H' w'} eb r' => by
      refine ⟨r'.gh, r'.wg, r'.wh, fun j v e1 e2 => ?_⟩
      obtain ⟨b, h1, h2⟩ := backAll_get eb e1
      obtain ⟨v', h3, h4⟩ := r'.sl j b h2
      have hj : j < ks.length := (List.getElem?_eq_some_iff.mp e1).1
      have hp : σ'[j]? = (L2.start N vs)[j]? := r'.pin j (by
        show j ∈ ownIx ks
        unfold ownIx
        rw [List.mem_filter]
        exact ⟨List.mem_range.mpr hj, by simp [e1]⟩)
      have hs : (L2.start N vs)[j]? = some (some v) := by
        unfold L2.start
        rw [List.getElem?_append_left (by simpa using (List.getElem?_eq_some_iff.mp e2).1), List.getElem?_map, e2]; rfl
      rw [hp, hs] at h3; cases h3
      exact ⟨b, h1, h4⟩
    cases ef : fb (bs.map some ++ List.replicate m none) with
    | ok z =>
      obtain ⟨fl, ρ'⟩ := z
      rw [ef, R.bind_ok] at er
      cases fl with
      | nx =>
        cases nw with
        | true => rw [er] at hF'; exact hF'.elim
        | false =>
          intro σ' G' H' w' s' r'
          have er : runDef false ks m fb bs = (backAll ks ρ').bind fun l => .ok (.non, l) := er
          cases eb : backAll ks ρ' with
          | ok l =>
            rw [er] at hF'; simp only [eb, R.bind_ok] at hF'
            exact hF' _ G' H' w' s' (back eb r') (by unfold RtG Rep; rfl)
          | er n => exact absurd eb backAll_er
          | no => rw [er] at hF'; simp only [eb, R.bind_no] at hF'
      | rt d =>
        intro v σ' G' H' w' s' r' q
        cases eb : backAll ks ρ' with
        | ok l =>
          rw [er] at hF'; simp only [eb, R.bind_ok] at hF'
          exact hF' _ G' H' w' s' (back eb r') q
        | er n => exact absurd eb backAll_er
        | no => rw [er] at hF'; simp only [eb, R.bind_no] at hF'
      | bk => rw [er] at hF'; exact hF'.elim
      | ct => rw [er] at hF'; exact hF'.elim
    | er n =>
      show runDef nw ks m fb bs = .er n
      rw [er, ef]; rfl
    | no => rw [er, ef] at hF'; exact hF'.elim
end
end PV
end
section
set_option Elab.async false
set_option linter.all false
set_option maxRecDepth 100000
namespace PV
open PySem PySem.Spec L2
/-! ### equality of data -/
mutual
noncomputable def toPy : Dt → PyData
  | .non => .none
  | .bl b => .bool b
  | .int i => .int i
  | .str x => .str x
  | .tup l => .tuple (toPys l)
  | .lst l => .list (toPys l)
  | .dct => .dict []
  | .scr ns => .list (ns.map .int)
noncomputable def toPys : List Dt → List PyData
  | [] => []
  | d :: ds => toPy d :: toPys ds
end
/-- no dict in it, not too deep -/
noncomputable def okN : Nat → Dt → Bool
  | _, .non => true
  | _, .bl _ => true
  | _, .int _ => true
  | _, .str x => PySem.PyData.strOk x
  | 0, .tup _ => false
  | 0, .lst _ => false
  | n + 1, .tup l => l.all (okN n)
  | n + 1, .lst l => l.all (okN n)
  | _, .dct => false
  | _, .scr _ => false
mutual
noncomputable def eqD : Dt → Dt → Bool
  | .non, .non => true
  | .bl a, .bl b => a == b
  | .bl a, .int j => (if a then 1 else 0) == j
  | .int i, .bl b => i == (if b then 1 else 0)
  | .int i, .int j => i == j
  | .str x, .str y => x == y
  | .lst xs, .lst ys => eqDs xs ys
  | .tup xs, .tup ys => eqDs xs ys
  | _, _ => false
noncomputable def eqDs : List Dt → List Dt → Bool
  | [], [] => true
  | x :: xs, y :: ys => eqD x y && eqDs xs ys
  | _, _ => false
end
theorem toPys_ok {n : Nat} (ih : ∀ d, okN n d = true → (toPy d).canLay0 = true ∧ (toPy d).depth ≤ n) : ∀ l : List Dt, l.all (okN n) = true → PyData.canLayAll0 (toPys l) = true ∧ PyData.depthAll (toPys l) ≤ n
  | [], _ => by simp [toPys, PyData.canLayAll0, PyData.depthAll]
  | d :: ds, h => by
    simp only [List.all_cons, Bool.and_eq_true] at h
    obtain ⟨h1, h2⟩ := ih d h.1
    obtain ⟨h3, h4⟩ := toPys_ok ih ds h.2
    simp only [toPys, PyData.canLayAll0, PyData.depthAll, h1, h3, Bool.and_self, true_and]
    omega
theorem okN_ok : ∀ (n : Nat) (d : Dt), okN n d = true → (toPy d).canLay0 = true ∧ (toPy d).depth ≤ n
  | n, .non, _ => by simp [toPy, PyData.canLay0, PyData.depth]
  | n, .bl _, _ => by simp [toPy, PyData.canLay0, PyData.depth]
  | n, .int _, _ => by simp [toPy, PyData.canLay0, PyData.depth]
  | n, .str x, h => by
    have h : PySem.PyData.strOk x = true := by cases n <;> simpa [okN] using h
    simp [toPy, PyData.canLay0, PyData.depth, h]
  | 0, .tup _, h => by simp [okN] at h
  | 0, .lst _, h => by simp [okN] at h
  | n + 1, .tup l, h => by
    obtain ⟨h1, h2⟩ := toPys_ok (okN_ok n) l (by simpa [okN] using h)
    simp only [toPy, PyData.canLay0, PyData.depth, h1, true_and]; omega
  | n + 1, .lst l, h => by
    obtain ⟨h1, h2⟩ := toPys_ok (okN_ok n) l (by simpa [okN] using h)
    simp only [toPy, PyData.canLay0, PyData.depth, h1, true_and]; omega
  | n, .dct, h => by cases n <;> simp [okN] at h
  | n, .scr _, h => by cases n <;> simp [okN] at h
mutual
theorem eqD_py : ∀ (n : Nat) (x y : Dt), okN n x = true → okN n y = true → PyData.eqv (toPy x) (toPy y) = eqD x y
  | n, .non, y, h, h' => by cases y <;> first | (cases n <;> simp [okN] at h'; done) | simp [toPy, PyData.eqv, eqD]
  | n, .bl _, y, h, h' => by cases y <;> first | (cases n <;> simp [okN] at h'; done) | simp [toPy, PyData.eqv, eqD]
  | n, .int _, y, h, h' => by cases y <;> first | (cases n <;> simp [okN] at h'; done) | simp [toPy, PyData.eqv, eqD]
  | n, .str _, y, h, h' => by cases y <;> first | (cases n <;> simp [okN] at h'; done) | simp [toPy, PyData.eqv, eqD]
  | 0, .tup _, y, h, h' => by simp [okN] at h
  | 0, .lst _, y, h, h' => by simp [okN] at h
  | n + 1, .tup l, y, h, h' => by
    cases y with
    | tup l' => simp only [toPy, PyData.eqv, eqD]; exact eqDs_py n l l' (by simpa [okN] using h) (by simpa [okN] using h')
    | dct => simp [okN] at h'
    | scr _ => simp [okN] at h'
    | _ => simp [toPy, PyData.eqv, eqD]
  | n + 1, .lst l, y, h, h' => by
    cases y with
    | lst l' => simp only [toPy, PyData.eqv, eqD]; exact eqDs_py n l l' (by simpa [okN] using h) (by simpa [okN] using h')
    | dct => simp [okN] at h'
    | scr _ => simp [okN] at h'
    | _ => simp [toPy, PyData.eqv, eqD]
  | n, .dct, y, h, h' => by cases n <;> simp [okN] at h
  | n, .scr _, y, h, h' => by cases n <;> simp [okN] at h
theorem eqDs_py : ∀ (n : Nat) (x y : List Dt), x.all (okN n) = true → y.all (okN n) = true → PyData.eqvAll (toPys x) (toPys y) = eqDs x y
  | n, [], [], _, _ => by simp [toPys, PyData.eqvAll, eqDs]
  | n, [], _ :: _, _, _ => by simp [toPys, PyData.eqvAll, eqDs]
  | n, _ :: _, [], _, _ => by simp [toPys, PyData.eqvAll, eqDs]
  | n, a :: as, b :: bs, h, h' => by
    simp only [List.all_cons, Bool.and_eq_true] at h h'
    simp only [toPys, PyData.eqvAll, eqDs]
    rw [eqD_py n a b h.1 h'.1, eqDs_py n as bs h.2 h'.2]
end
section
variable {X : Cx} {pins : List (Addr × Obj)} {σ : L2.St} {H : Hp} {s : Shared}
mutual
theorem reads_of (I : L2.Inv X pins σ H s) : ∀ (n : Nat) (d : Dt) (v : V) (u : Value), okN n d = true → Rep X.K H d v → RelV v u → ∃ as, Reads s.heap u (toPy d) as
  | n, .non, v, u, _, h, r => by rw [rep_non h] at r; cases r; exact ⟨[], by simp only [toPy]; exact .none⟩
  | n, .bl b, v, u, _, h, r => by rw [rep_bl h] at r; cases r; exact ⟨[], by simp only [toPy]; exact .bool _⟩
  | n, .int b, v, u, _, h, r => by rw [rep_int h] at r; obtain ⟨t, rfl⟩ := r; exact ⟨[], by simp only [toPy]; exact .int _ _⟩
  | n, .str b, v, u, _, h, r => by rw [rep_str h] at r; obtain ⟨t, rfl⟩ := r; exact ⟨[], by simp only [toPy]; exact .str _ _⟩
  | 0, .tup l, v, u, hk, h, r => by simp [okN] at hk
  | 0, .lst l, v, u, hk, h, r => by simp [okN] at hk
  | n + 1, .tup l, v, u, hk, h, r => by
    obtain ⟨a, vs, rfl, h1, h2⟩ := rep_tup h
    cases r
    obtain ⟨its, rv, ⟨o, e, c, k, dd⟩, _⟩ := I.tuple h1
    obtain ⟨as, q⟩ := readsAll_of I n l vs its (by simpa [okN] using hk) h2 rv
    exact ⟨as, by simp only [toPy]; exact .tuple e c dd (by simpa using q)⟩
  | n + 1, .lst l, v, u, hk, h, r => by
    obtain ⟨a, vs, rfl, h1, h2⟩ := rep_lst h
    cases r
    obtain ⟨its, rv, ⟨o, k, e, c, _, dd⟩, _⟩ := I.list (SqL.of h1)
    obtain ⟨as, q⟩ := readsAll_of I n l vs its (by simpa [okN] using hk) h2 rv
    exact ⟨a :: as, by simp only [toPy]; exact .list e c dd (by simpa using q)⟩
  | n, .dct, v, u, hk, h, r => by cases n <;> simp [okN] at hk
  | n, .scr _, v, u, hk, h, r => by cases n <;> simp [okN] at hk
theorem readsAll_of (I : L2.Inv X pins σ H s) : ∀ (n : Nat) (ds : List Dt) (vs : List V) (us : List Value), ds.all (okN n) = true → Reps X.K H ds vs → Vals vs us → ∃ as, ReadsAll s.heap us (toPys ds) as
  | n, [], vs, us, _, h, r => by
    rw [h.nil_inv] at r
    cases r
    exact ⟨[], by simp only [toPys]; exact .nil⟩
  | n, d :: ds, vs, us, hk, h, r => by
    obtain ⟨v, t, rfl, h1, h2⟩ := h.cons_inv
    cases r with
    | cons r1 r2 =>
      simp only [List.all_cons, Bool.and_eq_true] at hk
      obtain ⟨as, q1⟩ := reads_of I n d v _ hk.1 h1 r1
      obtain ⟨bs, q2⟩ := readsAll_of I n ds t _ hk.2 h2 r2
      exact ⟨as ++ bs, by simp only [toPys]; exact .cons q1 q2⟩
end
mutual
theorem rep_inj (I : L2.Inv X pins σ H s) : ∀ (n : Nat) (d d' : Dt) (v : V), okN n d = true → okN n d' = true → Rep X.K H d v → Rep X.K H d' v → d = d'
  | n, .non, d', v, hk, hk', h, h' => by
    rw [rep_non h] at h'
    cases d' <;> unfold Rep at h' <;> first | (obtain ⟨a, vs, z, _⟩ := h'; cases z; done) | (obtain ⟨a, z, _⟩ := h'; cases z; done) | (cases h'; rfl) | (cases h'; done) | rfl
  | n, .bl b, d', v, hk, hk', h, h' => by
    rw [rep_bl h] at h'
    cases d' <;> unfold Rep at h' <;> first | (obtain ⟨a, vs, z, _⟩ := h'; cases z; done) | (obtain ⟨a, z, _⟩ := h'; cases z; done) | (cases h'; rfl) | (cases h'; done) | rfl
  | n, .int b, d', v, hk, hk', h, h' => by
    rw [rep_int h] at h'
    cases d' <;> unfold Rep at h' <;> first | (obtain ⟨a, vs, z, _⟩ := h'; cases z; done) | (obtain ⟨a, z, _⟩ := h'; cases z; done) | (cases h'; rfl) | (cases h'; done) | rfl
  | n, .str b, d', v, hk, hk', h, h' => by
    rw [rep_str h] at h'
    cases d' <;> unfold Rep at h' <;> first | (obtain ⟨a, vs, z, _⟩ := h'; cases z; done) | (obtain ⟨a, z, _⟩ := h'; cases z; done) | (cases h'; rfl) | (cases h'; done) | rfl
  | 0, .tup l, d', v, hk, _, h, h' => by simp [okN] at hk
  | 0, .lst l, d', v, hk, _, h, h' => by simp [okN] at hk
  | n + 1, .tup l, d', v, hk, hk', h, h' => by
    obtain ⟨a, vs, rfl, h1, h2⟩ := rep_tup h
    cases d' with
    | tup l' =>
      obtain ⟨a', vs', e, h3, h4⟩ := rep_tup h'
      cases e
      rw [I.tuple_inj h3 h1] at h4
      rw [reps_inj I n l l' vs (by simpa [okN] using hk) (by simpa [okN] using hk') h2 h4]
    | lst l' =>
      obtain ⟨a', vs', e, h3, h4⟩ := rep_lst h'
      cases e
      obtain ⟨its, rv, ⟨o, e, c, k, dd⟩, _⟩ := I.tuple h1
      obtain ⟨its', rv', ⟨o', k', e', c', _, dd'⟩, _⟩ := I.list (SqL.of h3)
      rw [e] at e'; cases e'
      rw [c] at c'; exact absurd c' (by decide)
    | dct => simp [okN] at hk'
    | scr _ => simp [okN] at hk'
    | non => cases rep_non h'
    | bl _ => cases rep_bl h'
    | int _ => cases rep_int h'
    | str _ => cases rep_str h'
  | n + 1, .lst l, d', v, hk, hk', h, h' => by
    obtain ⟨a, vs, rfl, h1, h2⟩ := rep_lst h
    cases d' with
    | lst l' =>
      obtain ⟨a', vs', e, h3, h4⟩ := rep_lst h'
      cases e
      rw [h1] at h3; cases h3
      rw [reps_inj I n l l' vs (by simpa [okN] using hk) (by simpa [okN] using hk') h2 h4]
    | tup l' =>
      obtain ⟨a', vs', e, h3, h4⟩ := rep_tup h'
      cases e
      obtain ⟨its, rv, ⟨o, e, c, k, dd⟩, _⟩ := I.tuple h3
      obtain ⟨its', rv', ⟨o', k', e', c', _, dd'⟩, _⟩ := I.list (SqL.of h1)
      rw [e] at e'; cases e'
      rw [c] at c'; exact absurd c' (by decide)
    | dct => simp [okN] at hk'
    | scr _ => simp [okN] at hk'
    | non => cases rep_non h'
    | bl _ => cases rep_bl h'
    | int _ => cases rep_int h'
    | str _ => cases rep_str h'
  | n, .dct, d', v, hk, _, h, h' => by cases n <;> simp [okN] at hk
  | n, .scr _, d', v, hk, _, h, h' => by cases n <;> simp [okN] at hk
theorem reps_inj (I : L2.Inv X pins σ H s) : ∀ (n : Nat) (ds ds' : List Dt) (vs : List V), ds.all (okN n) = true → ds'.all (okN n) = true → Reps X.K H ds vs → Reps X.K H ds' vs → ds = ds'
  | n, [], ds', vs, _, _, h, h' => by
    rw [h.nil_inv] at h'
    cases ds' with
    | nil => rfl
    | cons d t => obtain ⟨v, r, z, _⟩ := h'.cons_inv; cases z
  | n, d :: ds, ds', vs, hk, hk', h, h' => by
    obtain ⟨v, t, rfl, h1, h2⟩ := h.cons_inv
    cases ds' with
    | nil => cases h'.nil_inv
    | cons d' t' =>
      obtain ⟨v', r', z, h3, h4⟩ := h'.cons_inv
      cases z
      simp only [List.all_cons, Bool.and_eq_true] at hk hk'
      rw [rep_inj I n d d' v hk.1 hk'.1 h1 h3, reps_inj I n ds t' t hk.2 hk'.2 h2 h4]
end
end
noncomputable def rEqD (K : PySem.W.Frag) (neg : Bool) : R2 := fun x y H Q => ∃ dx dy, Rep K H dx x ∧ Rep K H dy y ∧ okN 60 dx = true ∧ okN 60 dy = true ∧ Q (.bl (if neg then !eqD dx dy else eqD dx dy)) H
theorem shaped_of {d : Dt} (h : okN 60 d = true) : SeqAt.shaped (toPy d) = true := by
  obtain ⟨h1, h2⟩ := okN_ok 60 d h
  unfold SeqAt.shaped
  rw [h1, Bool.true_and]
  exact decide_eq_true (by omega)
section
variable {X : Cx}
theorem op_eqD (hu : X.A.units + 64 < cLine) : OpR X (compareOp .Eq) (rEqD X.K false) := by
  intro pins s σ H x y v u Q I rx ry h
  obtain ⟨dx, dy, h1, h2, h3, h4, q⟩ := h
  obtain ⟨as, ra⟩ := reads_of I 60 dx x v h3 h1 rx
  obtain ⟨bs, rb⟩ := reads_of I 60 dy y u h4 h2 ry
  exact PyProof.Rows.eq_dataH ra rb (shaped_of h3) (shaped_of h4) hu ⟨.bl (eqD dx dy), H, I, (by rw [eqD_py 60 dx dy h3 h4]; rfl), q⟩
theorem op_neD (hu : X.A.units + 64 < cLine) : OpR X (compareOp .NotEq) (rEqD X.K true) := by
  intro pins s σ H x y v u Q I rx ry h
  obtain ⟨dx, dy, h1, h2, h3, h4, q⟩ := h
  obtain ⟨as, ra⟩ := reads_of I 60 dx x v h3 h1 rx
  obtain ⟨bs, rb⟩ := reads_of I 60 dy y u h4 h2 ry
  exact PyProof.Rows.ne_dataH ra rb (shaped_of h3) (shaped_of h4) hu ⟨.bl (!eqD dx dy), H, I, (by rw [eqD_py 60 dx dy h3 h4]; rfl), q⟩
noncomputable def gEq (neg : Bool) : Dt → Dt → R Dt := fun x y => if (okN 60 x && okN 60 y) = true then .ok (.bl (if neg then !eqD x y else eqD x y)) else .no
theorem noEr_eq (neg : Bool) : NoEr (gEq neg) := fun x y n h => by unfold gEq at h; split at h <;> cases h
theorem op2_eq {K : PySem.W.Frag} (neg : Bool) : Op2 K (rEqD K neg) (gEq neg) := fun G H x y dx dy z Q gh hx hy e k => by
  unfold gEq at e
  split at e
  · rename_i h
    rw [Bool.and_eq_true] at h
    cases e
    exact ⟨dx, dy, hx.same gh, hy.same gh, h.1, h.2, k _ G H (.refl gh) (by unfold Rep; rfl)⟩
  · cases e
/-! ### in -/
theorem eqAt_of {pins : List (Addr × Obj)} {σ : L2.St} {H : Hp} {s : Shared} (I : L2.Inv X pins σ H s) {A : Around} (hu : A.units + 64 < cLine) {dx dy : Dt} {x y : V} {v u : Value} (h3 : okN 60 dx = true) (h4 : okN 60 dy = true) (h1 : Rep X.K H dx x) (h2 : Rep X.K H dy y) (rx : RelV x v) (ry : RelV y u) :
    SeqAt.EqAt A s v u (eqD dx dy) := by
  obtain ⟨as, ra⟩ := reads_of I 60 dx x v h3 h1 rx
  obtain ⟨bs, rb⟩ := reads_of I 60 dy y u h4 h2 ry
  obtain ⟨k1, k2⟩ := okN_ok 60 dx h3
  obtain ⟨k3, k4⟩ := okN_ok 60 dy h4
  have := SeqAt.eqAt_reads (toPy dx) (toPy dy) A s v u as bs ra rb k1 k3 (by omega)
  rw [eqD_py 60 dx dy h3 h4] at this
  exact this
open Classical in
/-- what an item's value is worth beside x -/
noncomputable def eqOf (K : PySem.W.Frag) (H : Hp) (dx : Dt) (u : Value) : Bool := if ∃ d v, okN 60 d = true ∧ Rep K H d v ∧ RelV v u ∧ eqD d dx = true then true else false
theorem eqOf_is {pins : List (Addr × Obj)} {σ : L2.St} {H : Hp} {s : Shared} (I : L2.Inv X pins σ H s) {d dx : Dt} {v : V} {u : Value} (hk : okN 60 d = true) (h : Rep X.K H d v) (r : RelV v u) : eqOf X.K H dx u = eqD d dx := by
  unfold eqOf
  split
  · rename_i q
    obtain ⟨d', v', k', h', r', e'⟩ := q
    have ev : v' = v := r'.inj r
    subst ev
    rw [rep_inj I 60 d d' v' hk k' h h']; exact e'.symm
  · rename_i q
    cases e : eqD d dx with
    | false => rfl
    | true => exact absurd ⟨d, v, hk, h, r, e⟩ q
theorem any_eqOf {pins : List (Addr × Obj)} {σ : L2.St} {H : Hp} {s : Shared} (I : L2.Inv X pins σ H s) {dx : Dt} : ∀ {ds : List Dt} {vs : List V} {us : List Value}, ds.all (okN 60) = true → Reps X.K H ds vs → Vals vs us → us.any (eqOf X.K H dx) = ds.any fun d => eqD d dx
  | [], vs, us, _, h, r => by rw [h.nil_inv] at r; cases r; rfl
  | d :: ds, vs, us, hk, h, r => by
    obtain ⟨v, t, rfl, h1, h2⟩ := h.cons_inv
    cases r with
    | cons r1 r2 =>
      simp only [List.all_cons, Bool.and_eq_true] at hk
      simp only [List.any_cons]
      rw [eqOf_is I hk.1 h1 r1, any_eqOf I hk.2 h2 r2]
theorem each_eqOf {pins : List (Addr × Obj)} {σ : L2.St} {H : Hp} {s : Shared} (I : L2.Inv X pins σ H s) {A : Around} (hu : A.units + 64 < cLine) {dx : Dt} {x : V} {v : Value} (hk : okN 60 dx = true) (hx : Rep X.K H dx x) (rx : RelV x v) : ∀ {ds : List Dt} {vs : List V} {us : List Value}, ds.all (okN 60) = true → Reps X.K H ds vs → Vals vs us → ∀ u ∈ us, SeqAt.EqAt A s u v (eqOf X.K H dx u)
  | [], vs, us, _, h, r, u, hu => by rw [h.nil_inv] at r; cases r; cases hu
  | d :: ds, vs, us, hks, h, r, u, hm => by
    obtain ⟨v, t, rfl, h1, h2⟩ := h.cons_inv
    cases r with
    | cons r1 r2 =>
      simp only [List.all_cons, Bool.and_eq_true] at hks
      rcases List.mem_cons.mp hm with rfl | hm
      · rw [eqOf_is I hks.1 h1 r1]
        exact eqAt_of I hu hks.1 hk h1 hx r1 rx
      · exact each_eqOf I hu hk hx rx hks.2 h2 r2 u hm
noncomputable def inD (x : Dt) (l : List Dt) : Bool := l.any fun d => eqD d x
noncomputable def rInD (K : PySem.W.Frag) (neg : Bool) : R2 := fun x y H Q => ∃ dx ds, Rep K H dx x ∧ (Rep K H (.lst ds) y ∨ Rep K H (.tup ds) y) ∧ okN 60 dx = true ∧ ds.all (okN 60) = true ∧ Q (.bl (if neg then !inD dx ds else inD dx ds)) H
theorem in1_units (A : Around) : A.in1.units = A.units + 1 := rfl
theorem op_inD (hu : X.A.units + 65 < cLine) : OpR X (compareOp .In) (rInD X.K false) := by
  intro pins s σ H x y v u Q I rx ry h
  obtain ⟨dx, ds, h1, h2, h3, h4, q⟩ := h
  have hu1 : X.A.in1.units + 64 < cLine := by rw [in1_units]; omega
  rcases h2 with h2 | h2
  · obtain ⟨a, vs, rfl, k1, k2⟩ := rep_lst h2
    cases ry
    obtain ⟨its, r, pl, hz⟩ := I.list (SqL.of k1)
    refine SeqAt.in_listAt (eqOf X.K H dx) pl.isList (fun w hw => each_eqOf I hu1 h3 h1 rx h4 k2 r w (by simpa using hw)) ⟨.bl _, H, I, rfl, ?_⟩
    rw [show its.toArray.any (eqOf X.K H dx) = its.any (eqOf X.K H dx) by simp, any_eqOf I h4 k2 r]
    exact q
  · obtain ⟨a, vs, rfl, k1, k2⟩ := rep_tup h2
    cases ry
    obtain ⟨its, r, pl, hz⟩ := I.tuple k1
    refine SeqAt.in_tupleAt (eqOf X.K H dx) pl (fun w hw => each_eqOf I hu1 h3 h1 rx h4 k2 r w (by simpa using hw)) ⟨.bl _, H, I, rfl, ?_⟩
    rw [show its.toArray.any (eqOf X.K H dx) = its.any (eqOf X.K H dx) by simp, any_eqOf I h4 k2 r]
    exact q
theorem op_notInD (hu : X.A.units + 65 < cLine) : OpR X (compareOp .NotIn) (rInD X.K true) := by
  intro pins s σ H x y v u Q I rx ry h
  obtain ⟨dx, ds, h1, h2, h3, h4, q⟩ := h
  have hu1 : X.A.in1.units + 64 < cLine := by rw [in1_units]; omega
  rcases h2 with h2 | h2
  · obtain ⟨a, vs, rfl, k1, k2⟩ := rep_lst h2
    cases ry
    obtain ⟨its, r, pl, hz⟩ := I.list (SqL.of k1)
    refine SeqAt.notIn_listAt (eqOf X.K H dx) pl.isList (fun w hw => each_eqOf I hu1 h3 h1 rx h4 k2 r w (by simpa using hw)) ⟨.bl _, H, I, rfl, ?_⟩
    rw [show its.toArray.any (eqOf X.K H dx) = its.any (eqOf X.K H dx) by simp, any_eqOf I h4 k2 r]
    exact q
  · obtain ⟨a, vs, rfl, k1, k2⟩ := rep_tup h2
    cases ry
    obtain ⟨its, r, pl, hz⟩ := I.tuple k1
    refine SeqAt.notIn_tupleAt (eqOf X.K H dx) pl (fun w hw => each_eqOf I hu1 h3 h1 rx h4 k2 r w (by simpa using hw)) ⟨.bl _, H, I, rfl, ?_⟩
    rw [show its.toArray.any (eqOf X.K H dx) = its.any (eqOf X.K H dx) by simp, any_eqOf I h4 k2 r]
    exact q
noncomputable def gIn (neg : Bool) : Dt → Dt → R Dt := fun x y => match y with
  | .lst ds => if (okN 60 x && ds.all (okN 60)) = true then .ok (.bl (if neg then !inD x ds else inD x ds)) else .no
  | .tup ds => if (okN 60 x && ds.all (okN 60)) = true then .ok (.bl (if neg then !inD x ds else inD x ds)) else .no
  | _ => .no
theorem noEr_in (neg : Bool) : NoEr (gIn neg) := fun x y n h => by
  unfold gIn at h
  split at h
  · split at h <;> cases h
  · split at h <;> cases h
  · cases h
theorem op2_in {K : PySem.W.Frag} (neg : Bool) : Op2 K (rInD K neg) (gIn neg) := fun G H x y dx dy z Q gh hx hy e k => by
  unfold gIn at e
  split at e
  · split at e
    · rename_i h
      rw [Bool.and_eq_true] at h
      cases e
      exact ⟨dx, _, hx.same gh, .inl (hy.same gh), h.1, h.2, k _ G H (.refl gh) (by unfold Rep; rfl)⟩
    · cases e
  · split at e
    · rename_i h
      rw [Bool.and_eq_true] at h
      cases e
      exact ⟨dx, _, hx.same gh, .inr (hy.same gh), h.1, h.2, k _ G H (.refl gh) (by unfold Rep; rfl)⟩
    · cases e
  · cases e
end
end PV
end
section
set_option Elab.async false
set_option linter.all false
set_option maxRecDepth 100000
namespace PV
open PySem PySem.Spec L2
/-! ### arithmetic -/
noncomputable def small64 (i : Int) : Bool := decide (-18446744073709551616 < i) && decide (i < 18446744073709551616)
theorem small64_ok {i : Int} (h : small64 i = true) : -(2 ^ 64) < i ∧ i < 2 ^ 64 := by
  unfold small64 at h
  rw [Bool.and_eq_true] at h
  have h1 := of_decide_eq_true h.1
  have h2 := of_decide_eq_true h.2
  omega
noncomputable def gAddI : Dt → Dt → R Dt
  | .int i, .int j => .ok (.int (i + j))
  | _, _ => .no
noncomputable def gSub : Dt → Dt → R Dt
  | .int i, .int j => .ok (.int (i - j))
  | _, _ => .no
noncomputable def gMul : Dt → Dt → R Dt
  | .int i, .int j => if (small64 i || small64 j) = true then .ok (.int (i * j)) else .no
  | _, _ => .no
noncomputable def gDiv : Dt → Dt → R Dt
  | .int i, .int j => if 0 < j ∧ j < 1073741824 then .ok (.int (i / j)) else .no
  | _, _ => .no
noncomputable def gMod : Dt → Dt → R Dt
  | .int i, .int j => if 0 < j then .ok (.int (i % j)) else .no
  | _, _ => .no
noncomputable def gPow : Dt → Dt → R Dt
  | .int i, .int j => if 0 ≤ j ∧ j ≤ 1000 ∧ i.natAbs < 18446744073709551616 then .ok (.int (i ^ j.toNat)) else .no
  | _, _ => .no
noncomputable def gCmp (f : Int → Int → Bool) : Dt → Dt → R Dt
  | .int i, .int j => .ok (.bl (f i j))
  | _, _ => .no
section
variable {K : PySem.W.Frag}
theorem rep_is_int {G : Hp} (i : Int) : Rep K G (.int i) (.int i) := by unfold Rep; rfl
theorem rep_is_bl {G : Hp} (b : Bool) : Rep K G (.bl b) (.bl b) := by unfold Rep; rfl
theorem op2_addI : Op2 K (rI0 fun i j => .int (i + j)) gAddI := fun G H x y dx dy z Q gh hx hy e k => by
  unfold gAddI at e
  split at e
  · cases e; exact ⟨_, _, rep_int hx, rep_int hy, k _ G H (.refl gh) (rep_is_int _)⟩
  · cases e
theorem op2_sub : Op2 K (rI0 fun i j => .int (i - j)) gSub := fun G H x y dx dy z Q gh hx hy e k => by
  unfold gSub at e
  split at e
  · cases e; exact ⟨_, _, rep_int hx, rep_int hy, k _ G H (.refl gh) (rep_is_int _)⟩
  · cases e
theorem op2_mul : Op2 K (rI CMul fun i j => .int (i * j)) gMul := fun G H x y dx dy z Q gh hx hy e k => by
  unfold gMul at e
  split at e
  · split at e
    · rename_i h
      cases e
      rw [Bool.or_eq_true] at h
      exact ⟨_, _, rep_int hx, rep_int hy, h.elim (fun z => .inl (small64_ok z)) (fun z => .inr (small64_ok z)), k _ G H (.refl gh) (rep_is_int _)⟩
    · cases e
  · cases e
theorem op2_div : Op2 K (rI CDiv fun i j => .int (i / j)) gDiv := fun G H x y dx dy z Q gh hx hy e k => by
  unfold gDiv at e
  split at e
  · split at e
    · rename_i h
      cases e
      exact ⟨_, _, rep_int hx, rep_int hy, h, k _ G H (.refl gh) (rep_is_int _)⟩
    · cases e
  · cases e
theorem op2_mod : Op2 K (rI (fun _ j => 0 < j) fun i j => .int (i % j)) gMod := fun G H x y dx dy z Q gh hx hy e k => by
  unfold gMod at e
  split at e
  · split at e
    · rename_i h
      cases e
      exact ⟨_, _, rep_int hx, rep_int hy, h, k _ G H (.refl gh) (rep_is_int _)⟩
    · cases e
  · cases e
theorem op2_pow : Op2 K (rI CPow fun i j => .int (i ^ j.toNat)) gPow := fun G H x y dx dy z Q gh hx hy e k => by
  unfold gPow at e
  split at e
  · split at e
    · rename_i h
      cases e
      exact ⟨_, _, rep_int hx, rep_int hy, ⟨h.1, by omega, by have := h.2.2; omega⟩, k _ G H (.refl gh) (rep_is_int _)⟩
    · cases e
  · cases e
theorem op2_cmp {f : Int → Int → Bool} : Op2 K (rI0 fun i j => .bl (f i j)) (gCmp f) := fun G H x y dx dy z Q gh hx hy e k => by
  unfold gCmp at e
  split at e
  · cases e; exact ⟨_, _, rep_int hx, rep_int hy, k _ G H (.refl gh) (rep_is_bl _)⟩
  · cases e
theorem noEr_addI : NoEr gAddI := fun x y n h => by unfold gAddI at h; split at h <;> cases h
theorem noEr_sub : NoEr gSub := fun x y n h => by unfold gSub at h; split at h <;> cases h
theorem noEr_mul : NoEr gMul := fun x y n h => by unfold gMul at h; split at h <;> first | cases h | (split at h <;> cases h)
theorem noEr_div : NoEr gDiv := fun x y n h => by unfold gDiv at h; split at h <;> first | cases h | (split at h <;> cases h)
theorem noEr_mod : NoEr gMod := fun x y n h => by unfold gMod at h; split at h <;> first | cases h | (split at h <;> cases h)
theorem noEr_pow : NoEr gPow := fun x y n h => by unfold gPow at h; split at h <;> first | cases h | (split at h <;> cases h)
theorem noEr_cmp {f : Int → Int → Bool} : NoEr (gCmp f) := fun x y n h => by unfold gCmp at h; split at h <;> cases h
end
section
variable {X : Cx} {C : Cn} {a b : Expr} {fa fb : De} {pos : Pos}
theorem je_addI (ha : JE X C a fa) (hb : JE X C b fb) : JE X C (.BinOp a .Add b pos) (dOp gAddI fa fb) := je_op op_add op2_addI noEr_addI ha hb
theorem je_sub (ha : JE X C a fa) (hb : JE X C b fb) : JE X C (.BinOp a .Sub b pos) (dOp gSub fa fb) := je_op op_sub op2_sub noEr_sub ha hb
theorem je_mul (ha : JE X C a fa) (hb : JE X C b fb) : JE X C (.BinOp a .Mult b pos) (dOp gMul fa fb) := je_op op_mul op2_mul noEr_mul ha hb
theorem je_div (ha : JE X C a fa) (hb : JE X C b fb) : JE X C (.BinOp a .FloorDiv b pos) (dOp gDiv fa fb) := je_op op_fdiv op2_div noEr_div ha hb
theorem je_mod (ha : JE X C a fa) (hb : JE X C b fb) : JE X C (.BinOp a .Mod b pos) (dOp gMod fa fb) := je_op op_mod op2_mod noEr_mod ha hb
theorem je_pow (ha : JE X C a fa) (hb : JE X C b fb) : JE X C (.BinOp a .Pow b pos) (dOp gPow fa fb) := je_op op_pow op2_pow noEr_pow ha hb
noncomputable abbrev gLt := gCmp fun i j => decide (i < j)
noncomputable abbrev gLe := gCmp fun i j => decide (i ≤ j)
noncomputable abbrev gGt := gCmp fun i j => decide (j < i)
noncomputable abbrev gGe := gCmp fun i j => decide (j ≤ i)
theorem je_lt (ha : JE X C a fa) (hb : JE X C b fb) : JE X C (.Compare a [.Lt] [b] pos) (dOp gLt fa fb) := je_cmp op_lt op2_cmp noEr_cmp ha hb (nomark _)
theorem je_le (ha : JE X C a fa) (hb : JE X C b fb) : JE X C (.Compare a [.LtE] [b] pos) (dOp gLe fa fb) := je_cmp op_le op2_cmp noEr_cmp ha hb (nomark _)
theorem je_gt (ha : JE X C a fa) (hb : JE X C b fb) : JE X C (.Compare a [.Gt] [b] pos) (dOp gGt fa fb) := je_cmp op_gt op2_cmp noEr_cmp ha hb (nomark _)
theorem je_eq (hu : X.A.units + 64 < cLine) (ha : JE X C a fa) (hb : JE X C b fb) : JE X C (.Compare a [.Eq] [b] pos) (dOp (gEq false) fa fb) := je_cmp (op_eqD hu) (op2_eq false) (noEr_eq false) ha hb (nomark _)
theorem je_in (hu : X.A.units + 65 < cLine) (ha : JE X C a fa) (hb : JE X C b fb) (hm : behindInMarks .In b = false := by rfl) : JE X C (.Compare a [.In] [b] pos) (dOp (gIn false) fa fb) := je_cmp (op_inD hu) (op2_in false) (noEr_in false) ha hb hm
theorem jt_lt (ha : JE X C a fa) (hb : JE X C b fb) : JT X C (.Compare a [.Lt] [b] pos) (dTB (dOp gLt fa fb)) := jt_cmp op_lt op2_cmp noEr_cmp ha hb (nomark _)
theorem jt_gt (ha : JE X C a fa) (hb : JE X C b fb) : JT X C (.Compare a [.Gt] [b] pos) (dTB (dOp gGt fa fb)) := jt_cmp op_gt op2_cmp noEr_cmp ha hb (nomark _)
theorem jt_ge (ha : JE X C a fa) (hb : JE X C b fb) : JT X C (.Compare a [.GtE] [b] pos) (dTB (dOp gGe fa fb)) := jt_cmp op_ge op2_cmp noEr_cmp ha hb (nomark _)
theorem jt_eq (hu : X.A.units + 64 < cLine) (ha : JE X C a fa) (hb : JE X C b fb) : JT X C (.Compare a [.Eq] [b] pos) (dTB (dOp (gEq false) fa fb)) := jt_cmp (op_eqD hu) (op2_eq false) (noEr_eq false) ha hb (nomark _)
theorem jt_ne (hu : X.A.units + 64 < cLine) (ha : JE X C a fa) (hb : JE X C b fb) : JT X C (.Compare a [.NotEq] [b] pos) (dTB (dOp (gEq true) fa fb)) := jt_cmp (op_neD hu) (op2_eq true) (noEr_eq true) ha hb (nomark _)
theorem jt_in (hu : X.A.units + 65 < cLine) (ha : JE X C a fa) (hb : JE X C b fb) (hm : behindInMarks .In b = false := by rfl) : JT X C (.Compare a [.In] [b] pos) (dTB (dOp (gIn false) fa fb)) := jt_cmp (op_inD hu) (op2_in false) (noEr_in false) ha hb hm
theorem jt_notIn (hu : X.A.units + 65 < cLine) (ha : JE X C a fa) (hb : JE X C b fb) (hm : behindInMarks .NotIn b = false := by rfl) : JT X C (.Compare a [.NotIn] [b] pos) (dTB (dOp (gIn true) fa fb)) := jt_cmp (op_notInD hu) (op2_in true) (noEr_in true) ha hb hm
/-- -3 -/
noncomputable def dNeg (fa : De) : De := fun ρ => (fa ρ).bind fun a => match a.1 with
  | .int i => .ok (.int (-i), a.2)
  | _ => .no
theorem je_neg (ha : JE X C a fa) : JE X C (.UnaryOp .USub a pos) (dNeg fa) := PE.weak (pe_un un_neg ha) fun σ H Q ⟨G, w, ρ, r, p⟩ => by
  refine seqE (κ := fun G H w => kE X.K C σ Q G H w) stp_E r p fun d ρ1 v G1 H1 w1 r1 s1 q1 p1 => ?_
  cases d with
  | int i => exact ⟨i, rep_int q1, p1 _ G1 H1 w1 (.refl _ _ _) r1 (rep_is_int _)⟩
  | _ => exact p1.elim
/-- a <= b < c -/
noncomputable def dChain (g g' : Dt → Dt → R Dt) (fa fb fc : De) : De := fun ρ => (fa ρ).bind fun a => (fb a.2).bind fun b => (g a.1 b.1).bind fun z => match z with
  | .bl true => (fc b.2).bind fun c => (g' b.1 c.1).bind fun z' => .ok (z', c.2)
  | .bl false => .ok (.bl false, b.2)
  | _ => .no
end
/-! ### what a rule of a built-in does -/
noncomputable def FnR (K : PySem.W.Frag) (r : List V → Hp → VK → Prop) (g : List Dt → R Dt) : Prop := ∀ (G H : Hp) (vs : List V) (ds : List Dt) (z : Dt) (Q : VK), Same G H → Reps K G ds vs → g ds = .ok z →
  (∀ v G' H', Grow G H G' H' → Rep K G' z v → Q v H') → r vs H Q
noncomputable def FnN (K : PySem.W.Frag) (r : List V → Hp → VK → Prop) (g : List Dt → R (List Dt)) : Prop := ∀ (G H : Hp) (vs : List V) (ds : List Dt) (z : List Dt) (Q : VK), Same G H → Reps K G ds vs → g ds = .ok z →
  (∀ p zs, H p = none → Reps K G z zs → Q (.ref p) (upd H p (.lst zs))) → r vs H Q
noncomputable def NoE1 {α : Type} (g : List Dt → R α) : Prop := ∀ x n, g x ≠ .er n
noncomputable def dFn (g : List Dt → R Dt) (fa : DA) : De := fun ρ => (fa ρ).bind fun a => (g a.1).bind fun z => .ok (z, a.2)
noncomputable def dFnN (g : List Dt → R (List Dt)) (fa : DA) : DN := fun ρ => (fa ρ).bind fun a => (g a.1).bind fun z => .ok (z, a.2)
section
variable {X : Cx} {C : Cn} {e : Expr} {es : List Expr} {fa : DA} {p pos : Pos} {x : Str} {id T : String} {r : List V → Hp → VK → Prop}
theorem fn_read {g : List Dt → R Dt} {σ : L2.St} {H : Hp} {Q : VK} (h : FnR X.K r g) (he : NoE1 g) (t : tE X.K C (dFn g fa) σ H Q) : tCB r (tAd X.K C fa) σ H Q := by
  obtain ⟨G, w, ρ, rr, p⟩ := t
  refine seqA (κ := fun G H w => kE X.K C σ Q G H w) stp_E rr p fun ds ρ1 vs G1 H1 w1 r1 s1 q1 p1 => ?_
  cases e : g ds with
  | ok z =>
    simp only [e, R.bind_ok] at p1
    exact h G1 H1 vs ds z Q r1.gh q1 e fun v G' H' gr q => p1 v G' H' w1 gr.step (r1.grow gr) q
  | er n => exact absurd e (he _ _)
  | no => simp only [e, R.bind_no] at p1; exact p1.elim
theorem fnN_read {g : List Dt → R (List Dt)} {σ : L2.St} {H : Hp} {Q : VK} (h : FnN X.K r g) (he : NoE1 g) (t : tN X.K C (dFnN g fa) σ H Q) : tCB r (tAd X.K C fa) σ H Q := by
  obtain ⟨G, w, ρ, rr, p⟩ := t
  refine seqA (κ := fun G H w => kN X.K C σ Q G H w) stp_N rr p fun ds ρ1 vs G1 H1 w1 r1 s1 q1 p1 => ?_
  cases e : g ds with
  | ok z =>
    simp only [e, R.bind_ok] at p1
    refine h G1 H1 vs ds z Q r1.gh q1 e fun a zs ha q => ?_
    have gr : Grow G1 H1 G1 (upd H1 a (.lst zs)) := .newH r1.gh ha
    exact p1 a zs G1 _ w1 gr.step (r1.grow gr) ha upd_same (r1.gh.free ha) (by
      cases z : w1 a with
      | none => rfl
      | some k => exact absurd ha (r1.wh a (by rw [z]; simp))) q
  | er n => exact absurd e (he _ _)
  | no => simp only [e, R.bind_no] at p1; exact p1.elim
theorem je_callB {g : List Dt → R Dt} (h : FnR X.K r g) (he : NoE1 g) (hc : CallR X (.builtin id) r) (hg : Gl X x) (hm : X.mg x = none) (hv : bootBuiltins x = some (.builtin id)) (ha : JA X C (e :: es) fa) (hn : x ≠ "__name__" := by decide) (hdb : (x == ("__debug__" : Str)) = false := by decide)
    (hs : starEach (e :: es) X.env = (false, eval e X.env) :: starEach es X.env := by rfl) (hpl : (backTo pos (starEach es X.env)).any (·.1) = false := by rfl) : JE X C (.Call (.Name x p) (e :: es) [] pos) (dFn g fa) :=
  PE.weak (pe_callB hc hg hm hv ha hn hdb hs hpl) fun σ H Q t => fn_read h he t
theorem je_callTy {g : List Dt → R Dt} (h : FnR X.K r g) (he : NoE1 g) (hc : CallR X (.type T) r) (hg : Gl X x) (hm : X.mg x = none) (hv : bootBuiltins x = some (.type T)) (ha : JA X C (e :: es) fa) (hn : x ≠ "__name__" := by decide) (hdb : (x == ("__debug__" : Str)) = false := by decide)
    (hs : starEach (e :: es) X.env = (false, eval e X.env) :: starEach es X.env := by rfl) (hpl : (backTo pos (starEach es X.env)).any (·.1) = false := by rfl) : JE X C (.Call (.Name x p) (e :: es) [] pos) (dFn g fa) :=
  PE.weak (pe_callTy hc hg hm hv ha hn hdb hs hpl) fun σ H Q t => fn_read h he t
theorem jn_callB {g : List Dt → R (List Dt)} (h : FnN X.K r g) (he : NoE1 g) (hc : CallR X (.builtin id) r) (hg : Gl X x) (hm : X.mg x = none) (hv : bootBuiltins x = some (.builtin id)) (ha : JA X C (e :: es) fa) (hn : x ≠ "__name__" := by decide) (hdb : (x == ("__debug__" : Str)) = false := by decide)
    (hs : starEach (e :: es) X.env = (false, eval e X.env) :: starEach es X.env := by rfl) (hpl : (backTo pos (starEach es X.env)).any (·.1) = false := by rfl) : JN X C (.Call (.Name x p) (e :: es) [] pos) (dFnN g fa) :=
  PE.weak (pe_callB hc hg hm hv ha hn hdb hs hpl) fun σ H Q t => fnN_read h he t
theorem jn_callTy {g : List Dt → R (List Dt)} (h : FnN X.K r g) (he : NoE1 g) (hc : CallR X (.type T) r) (hg : Gl X x) (hm : X.mg x = none) (hv : bootBuiltins x = some (.type T)) (ha : JA X C (e :: es) fa) (hn : x ≠ "__name__" := by decide) (hdb : (x == ("__debug__" : Str)) = false := by decide)
    (hs : starEach (e :: es) X.env = (false, eval e X.env) :: starEach es X.env := by rfl) (hpl : (backTo pos (starEach es X.env)).any (·.1) = false := by rfl) : JN X C (.Call (.Name x p) (e :: es) [] pos) (dFnN g fa) :=
  PE.weak (pe_callTy hc hg hm hv ha hn hdb hs hpl) fun σ H Q t => fnN_read h he t
end
end PV
end
section
set_option Elab.async false
set_option linter.all false
set_option maxRecDepth 100000
namespace PV
open PySem PySem.Spec L2
/-! ### len, list, tuple, max, min -/
noncomputable def gLen : List Dt → R Dt
  | [.lst l] => .ok (.int l.length)
  | [.tup l] => .ok (.int l.length)
  | [.scr l] => .ok (.int l.length)
  | [.str x] => if x.length ≤ 16777216 then .ok (.int x.length) else .no
  | _ => .no
noncomputable def rLen (K : PySem.W.Frag) : List V → Hp → VK → Prop := fun xs H Q => (∃ p ys, xs = [.ref p] ∧ (SqL K H p ys ∨ SqT K H p ys) ∧ Q (.int ys.length) H) ∨ ∃ z, xs = [.str z] ∧ z.length ≤ sizeLine ∧ Q (.int z.length) H
theorem reps1 {K : PySem.W.Frag} {G : Hp} {d : Dt} {vs : List V} (h : Reps K G [d] vs) : ∃ v, vs = [v] ∧ Rep K G d v := by
  obtain ⟨v, r, rfl, h1, h2⟩ := h.cons_inv
  rw [h2.nil_inv]; exact ⟨v, rfl, h1⟩
theorem reps2 {K : PySem.W.Frag} {G : Hp} {d e : Dt} {vs : List V} (h : Reps K G [d, e] vs) : ∃ v u, vs = [v, u] ∧ Rep K G d v ∧ Rep K G e u := by
  obtain ⟨v, r, rfl, h1, h2⟩ := h.cons_inv
  obtain ⟨u, rfl, h3⟩ := reps1 h2
  exact ⟨v, u, rfl, h1, h3⟩
theorem rep_scr {K : PySem.W.Frag} {G : Hp} {l : List Int} {v : V} (h : Rep K G (.scr l) v) : ∃ a, v = .ref a ∧ SqL K G a (l.map V.int) := by unfold Rep at h; exact h
section
variable {K : PySem.W.Frag}
theorem fn_len : FnR K (rLen K) gLen := fun G H vs ds z Q gh hr e k => by
  unfold gLen at e
  split at e
  · obtain ⟨v, rfl, h1⟩ := reps1 hr
    obtain ⟨a, us, rfl, h2, h3⟩ := rep_lst h1
    cases e
    exact .inl ⟨a, us, rfl, .inl (SqL.of (gh _ _ h2)), by rw [← h3.length]; exact k _ G H (.refl gh) (rep_is_int _)⟩
  · obtain ⟨v, rfl, h1⟩ := reps1 hr
    obtain ⟨a, us, rfl, h2, h3⟩ := rep_tup h1
    cases e
    exact .inl ⟨a, us, rfl, .inr (sqT_same gh h2), by rw [← h3.length]; exact k _ G H (.refl gh) (rep_is_int _)⟩
  · obtain ⟨v, rfl, h1⟩ := reps1 hr
    obtain ⟨a, rfl, h2⟩ := rep_scr h1
    cases e
    exact .inl ⟨a, _, rfl, .inl (gh.seq h2), by rw [List.length_map]; exact k _ G H (.refl gh) (rep_is_int _)⟩
  · split at e
    · rename_i hx
      obtain ⟨v, rfl, h1⟩ := reps1 hr
      cases e
      exact .inr ⟨_, by rw [rep_str h1], by rw [show sizeLine = 16777216 from by decide]; exact hx, k _ G H (.refl gh) (rep_is_int _)⟩
    · cases e
  · cases e
theorem ne_len : NoE1 gLen := fun x n h => by unfold gLen at h; split at h <;> first | cases h | (split at h <;> cases h)
noncomputable def gList : List Dt → R (List Dt)
  | [.lst l] => .ok l
  | [.tup l] => .ok l
  | _ => .no
theorem fn_list : FnN K (fun xs H Q => ∃ p ys, xs = [.ref p] ∧ (SqL K H p ys ∨ SqT K H p ys) ∧ ∀ l, H l = none → Q (.ref l) (upd H l (.lst ys))) gList := fun G H vs ds z Q gh hr e k => by
  unfold gList at e
  split at e
  · obtain ⟨v, rfl, h1⟩ := reps1 hr
    obtain ⟨a, us, rfl, h2, h3⟩ := rep_lst h1
    cases e
    exact ⟨a, us, rfl, .inl (SqL.of (gh _ _ h2)), fun l hl => k l us hl h3⟩
  · obtain ⟨v, rfl, h1⟩ := reps1 hr
    obtain ⟨a, us, rfl, h2, h3⟩ := rep_tup h1
    cases e
    exact ⟨a, us, rfl, .inr (sqT_same gh h2), fun l hl => k l us hl h3⟩
  · cases e
theorem ne_list : NoE1 gList := fun x n h => by unfold gList at h; split at h <;> cases h
noncomputable def gTuple : List Dt → R Dt
  | [.lst l] => .ok (.tup l)
  | [.tup l] => .ok (.tup l)
  | _ => .no
theorem fn_tuple : FnR K (fun xs H Q => ∃ p ys, xs = [.ref p] ∧ ((SqL K H p ys ∧ ∀ l, H l = none → Q (.ref l) (upd H l (.tup ys))) ∨ (SqT K H p ys ∧ Q (.ref p) H))) gTuple := fun G H vs ds z Q gh hr e k => by
  unfold gTuple at e
  split at e
  · obtain ⟨v, rfl, h1⟩ := reps1 hr
    obtain ⟨a, us, rfl, h2, h3⟩ := rep_lst h1
    cases e
    refine ⟨a, us, rfl, .inl ⟨SqL.of (gh _ _ h2), fun l hl => ?_⟩⟩
    have gr : Grow G H (upd G l (.tup us)) (upd H l (.tup us)) := .new gh hl
    exact k _ _ _ gr (by unfold Rep; exact ⟨l, us, rfl, SqTP.of upd_same, h3.same gr.g⟩)
  · obtain ⟨v, rfl, h1⟩ := reps1 hr
    obtain ⟨a, us, rfl, h2, h3⟩ := rep_tupP h1
    cases e
    exact ⟨a, us, rfl, .inr ⟨sqT_same gh h2.sq, k _ G H (.refl gh) (by unfold Rep; exact ⟨a, us, rfl, h2, h3⟩)⟩⟩
  · cases e
theorem ne_tuple : NoE1 gTuple := fun x n h => by unfold gTuple at h; split at h <;> cases h
noncomputable def gMax2 : List Dt → R Dt
  | [.int i, .int j] => .ok (.int (if j > i then j else i))
  | _ => .no
noncomputable def gMin2 : List Dt → R Dt
  | [.int i, .int j] => .ok (.int (if j < i then j else i))
  | _ => .no
theorem fn_max2 : FnR K (fun xs H Q => ∃ i j, xs = [.int i, .int j] ∧ Q (.int (if j > i then j else i)) H) gMax2 := fun G H vs ds z Q gh hr e k => by
  unfold gMax2 at e
  split at e
  · obtain ⟨v, u, rfl, h1, h2⟩ := reps2 hr
    cases e
    exact ⟨_, _, by rw [rep_int h1, rep_int h2], k _ G H (.refl gh) (rep_is_int _)⟩
  · cases e
theorem fn_min2 : FnR K (fun xs H Q => ∃ i j, xs = [.int i, .int j] ∧ Q (.int (if j < i then j else i)) H) gMin2 := fun G H vs ds z Q gh hr e k => by
  unfold gMin2 at e
  split at e
  · obtain ⟨v, u, rfl, h1, h2⟩ := reps2 hr
    cases e
    exact ⟨_, _, by rw [rep_int h1, rep_int h2], k _ G H (.refl gh) (rep_is_int _)⟩
  · cases e
theorem ne_max2 : NoE1 gMax2 := fun x n h => by unfold gMax2 at h; split at h <;> cases h
theorem ne_min2 : NoE1 gMin2 := fun x n h => by unfold gMin2 at h; split at h <;> cases h
end
section
variable {X : Cx}
/-! ### all, of a list of truths -/
theorem vals_map {α : Type} {f : α → V} {g : α → Value → Prop} (h : ∀ a u, RelV (f a) u → g a u) : ∀ {as : List α} {us : List Value} {i : Nat} {u : Value}, Vals (as.map f) us → us[i]? = some u → ∃ a, as[i]? = some a ∧ g a u
  | [], _, _, _, r, e => by cases r; simp at e
  | a :: as, _, 0, u, .cons r t, e => by simp at e; subst e; exact ⟨a, rfl, h a _ r⟩
  | a :: as, _, i + 1, u, .cons r t, e => by
    obtain ⟨b, h1, h2⟩ := vals_map h (i := i) t (by simpa using e)
    exact ⟨b, by simpa using h1, h2⟩
theorem range_all_get : ∀ (bs : List Bool), ((List.range bs.length).all fun i => (bs[i]?).getD true) = bs.all id := fun bs => by
  rw [Bool.eq_iff_iff, List.all_eq_true, List.all_eq_true]
  constructor
  · intro h b hb
    obtain ⟨i, hi, rfl⟩ := List.mem_iff_getElem.mp hb
    have := h i (List.mem_range.mpr hi)
    simpa [hi] using this
  · intro h i hi
    have hi' := List.mem_range.mp hi
    simpa [hi'] using h bs[i] (List.getElem_mem hi')
theorem call_allL (hc : X.calm = true) : CallR X (.builtin "all") (fun xs H Q => ∃ (p : Addr) (bs : List Bool), xs = [.ref p] ∧ SqL X.K H p (bs.map V.bl) ∧ Q (.bl (bs.all id)) H) := by
  intro pins s σ H xs us Q I r h
  obtain ⟨p, bs, rfl, hq, q⟩ := h
  obtain ⟨u, rfl, ru⟩ := vals1 r
  cases ru
  obtain ⟨its, rv, pl, hz⟩ := I.list hq
  have hlt : p ≠ s.heap.objs.size := by
    obtain ⟨o, n, e, _⟩ := id pl
    exact Nat.ne_of_lt (Heap.lt_size e)
  have hlen : its.length = bs.length := by rw [← rv.length]; simp
  refine call_all_walk (wpAny_pyIter_list pl.isList ?_)
  refine ⟨s.heap.objs.size, _, _, _, _, _, fun i => (bs[i]?).getD true, rfl, Walks.list (A := X.A.in1) (I.ok.hd hc) s.heap.objs.size p hlt its.toArray, ⟨⟨_, Heap.get?_push_size _ rfl, rfl, rfl⟩, ?_⟩, ?_, fun h' tk hk => ?_⟩
  · obtain ⟨o, ho, hc', n, hd⟩ := pl.isList
    exact ⟨o, Heap.get?_push_of_some _ ho, hc', n, hd⟩
  · intro i v s' Q' E' hP hQ
    obtain ⟨b, h1, h2⟩ := vals_map (f := V.bl) (g := fun b u => u = Value.bool b) (fun a u z => z) rv (i := i) (u := v) (by simpa using hP)
    subst h2
    simp only [h1, Option.getD_some] at hQ
    exact wpAny_truthy_bool hQ
  · refine ⟨.bl (bs.all id), H, I.kept (t' := tk) fun b o e => hk b o (fun z => ?_) (Heap.get?_push_of_some _ e), ?_, q⟩
    · simp at z; exact absurd (z ▸ Heap.lt_size e) (Nat.lt_irrefl _)
    · show Value.bool _ = _
      rw [List.size_toArray, hlen, range_all_get]
noncomputable def bools : List Dt → Option (List Bool)
  | [] => some []
  | .bl b :: r => (bools r).map (b :: ·)
  | _ => none
theorem bools_reps {K : PySem.W.Frag} {G : Hp} : ∀ {ds : List Dt} {vs : List V} {bs : List Bool}, Reps K G ds vs → bools ds = some bs → vs = bs.map V.bl
  | [], _, _, h, e => by rw [h.nil_inv]; simp [bools] at e; subst e; rfl
  | .bl b :: r, _, bs, h, e => by
    obtain ⟨v, t, rfl, h1, h2⟩ := h.cons_inv
    simp only [bools, Option.map_eq_some_iff] at e
    obtain ⟨bs', e1, rfl⟩ := e
    rw [rep_bl h1, bools_reps h2 e1]; rfl
  | .non :: _, _, _, _, e => by simp [bools] at e
  | .int _ :: _, _, _, _, e => by simp [bools] at e
  | .str _ :: _, _, _, _, e => by simp [bools] at e
  | .tup _ :: _, _, _, _, e => by simp [bools] at e
  | .lst _ :: _, _, _, _, e => by simp [bools] at e
  | .dct :: _, _, _, _, e => by simp [bools] at e
  | .scr _ :: _, _, _, _, e => by simp [bools] at e
noncomputable def gAll : List Dt → R Dt
  | [.lst l] => match bools l with
    | some bs => .ok (.bl (bs.all id))
    | none => .no
  | _ => .no
theorem fn_all {K : PySem.W.Frag} : FnR K (fun xs H Q => ∃ (p : Addr) (bs : List Bool), xs = [.ref p] ∧ SqL K H p (bs.map V.bl) ∧ Q (.bl (bs.all id)) H) gAll := fun G H vs ds z Q gh hr e k => by
  unfold gAll at e
  split at e
  · split at e
    · rename_i bs eb
      obtain ⟨v, rfl, h1⟩ := reps1 hr
      obtain ⟨a, us, rfl, h2, h3⟩ := rep_lst h1
      cases e
      rw [bools_reps h3 eb] at h2
      exact ⟨a, bs, rfl, SqL.of (gh _ _ h2), k _ G H (.refl gh) (rep_is_bl _)⟩
    · cases e
  · cases e
theorem ne_all : NoE1 gAll := fun x n h => by unfold gAll at h; split at h <;> first | cases h | (split at h <;> cases h)
/-! ### the greatest, the least of a list of ints -/
noncomputable def zsOf : List Dt → Option (List Int)
  | [] => some []
  | .int b :: r => (zsOf r).map (b :: ·)
  | _ => none
theorem zs_reps {K : PySem.W.Frag} {G : Hp} : ∀ {ds : List Dt} {vs : List V} {bs : List Int}, Reps K G ds vs → zsOf ds = some bs → vs = bs.map V.int
  | [], _, _, h, e => by rw [h.nil_inv]; simp [zsOf] at e; subst e; rfl
  | .int b :: r, _, bs, h, e => by
    obtain ⟨v, t, rfl, h1, h2⟩ := h.cons_inv
    simp only [zsOf, Option.map_eq_some_iff] at e
    obtain ⟨bs', e1, rfl⟩ := e
    rw [rep_int h1, zs_reps h2 e1]; rfl
  | .non :: _, _, _, _, e => by simp [zsOf] at e
  | .bl _ :: _, _, _, _, e => by simp [zsOf] at e
  | .str _ :: _, _, _, _, e => by simp [zsOf] at e
  | .tup _ :: _, _, _, _, e => by simp [zsOf] at e
  | .lst _ :: _, _, _, _, e => by simp [zsOf] at e
  | .dct :: _, _, _, _, e => by simp [zsOf] at e
  | .scr _ :: _, _, _, _, e => by simp [zsOf] at e
theorem zs_map (ns : List Int) : zsOf (ns.map .int) = some ns := by
  induction ns with
  | nil => rfl
  | cons n r ih => simp [zsOf, ih]
end
end PV
end
section
set_option Elab.async false
set_option linter.all false
set_option maxRecDepth 100000
namespace PV
open PySem PySem.Spec L2
section
variable {X : Cx}
end
/-! ### isinstance -/
noncomputable def tyD : Dt → String
  | .non => "NoneType"
  | .bl _ => "bool"
  | .int _ => "int"
  | .str _ => "str"
  | .tup _ => "tuple"
  | .lst _ => "list"
  | .dct => "dict"
  | .scr _ => "list"
noncomputable def subT (t T : String) : Bool := (t == T) || (t == "bool" && T == "int")
section
variable {X : Cx} {pins : List (Addr × Obj)} {σ : L2.St} {H : Hp} {s : Shared}
/-- the type of a value, as the library's deciders take it -/
theorem kit_of (I : L2.Inv X pins σ H s) : ∀ {d : Dt} {v : V} {u : Value}, Rep X.K H d v → RelV v u → ∃ P : Heap → Prop, PySem.W.KitX X.K u (.type (tyD d)) P ∧ P s.heap ∧ u ≠ .builtin "__main__.__loader__#opaque"
  | .non, v, u, h, r => by rw [rep_non h] at r; cases r; exact ⟨_, PySem.W.kitx_none, True.intro, by simp⟩
  | .bl b, v, u, h, r => by rw [rep_bl h] at r; cases r; exact ⟨_, PySem.W.kitx_bool, True.intro, by simp⟩
  | .int b, v, u, h, r => by rw [rep_int h] at r; obtain ⟨t, rfl⟩ := r; exact ⟨_, PySem.W.kitx_int, True.intro, by simp⟩
  | .str b, v, u, h, r => by rw [rep_str h] at r; obtain ⟨t, rfl⟩ := r; exact ⟨_, PySem.W.kitx_str, True.intro, by simp⟩
  | .tup l, v, u, h, r => by
    obtain ⟨a, vs, rfl, h1, h2⟩ := rep_tup h
    cases r
    obtain ⟨its, rv, ⟨o, e, c, k, dd⟩, _⟩ := I.tuple h1
    exact ⟨_, PySem.W.kitx_tuple, ⟨o, e, c⟩, by simp⟩
  | .lst l, v, u, h, r => by
    obtain ⟨a, vs, rfl, h1, h2⟩ := rep_lst h
    cases r
    obtain ⟨its, rv, ⟨o, k, e, c, _, dd⟩, _⟩ := I.list (SqL.of h1)
    exact ⟨_, PySem.W.kitx_list, ⟨o, e, c⟩, by simp⟩
  | .dct, v, u, h, r => by
    unfold Rep at h
    obtain ⟨a, rfl, h1⟩ := h
    cases r
    obtain ⟨_, _, vs, _, o, es, ep, e1, e2, _⟩ := (show ObjOk X.prog X.w H s.heap a (.dK []) from I.hok a _ h1)
    exact ⟨_, PySem.W.kitx_dict, ⟨o, e1, e2.1⟩, by simp⟩
  | .scr l, v, u, h, r => by
    obtain ⟨a, rfl, h1⟩ := rep_scr h
    cases r
    obtain ⟨its, rv, ⟨o, k, e, c, _, dd⟩, _⟩ := I.list h1
    exact ⟨_, PySem.W.kitx_list, ⟨o, e, c⟩, by simp⟩
end
/-- the answers of the library for a built-in class -/
noncomputable def IsiOk (T : String) : Prop := ∀ (K : PySem.W.Frag) (t : String), t ∈ ["NoneType", "bool", "int", "str", "tuple", "list", "dict"] → PySem.W.kitOne K (.type t) (.type T) = some (subT t T)
theorem tyD_mem (d : Dt) : tyD d ∈ ["NoneType", "bool", "int", "str", "tuple", "list", "dict"] := by cases d <;> simp [tyD]
theorem isi_int : IsiOk "int" := fun K t h => by
  simp only [List.mem_cons, List.not_mem_nil, or_false] at h
  rcases h with rfl | rfl | rfl | rfl | rfl | rfl | rfl <;> rfl
theorem isi_bool : IsiOk "bool" := fun K t h => by
  simp only [List.mem_cons, List.not_mem_nil, or_false] at h
  rcases h with rfl | rfl | rfl | rfl | rfl | rfl | rfl <;> rfl
theorem isi_tuple : IsiOk "tuple" := fun K t h => by
  simp only [List.mem_cons, List.not_mem_nil, or_false] at h
  rcases h with rfl | rfl | rfl | rfl | rfl | rfl | rfl <;> rfl
theorem isi_list : IsiOk "list" := fun K t h => by
  simp only [List.mem_cons, List.not_mem_nil, or_false] at h
  rcases h with rfl | rfl | rfl | rfl | rfl | rfl | rfl <;> rfl
noncomputable def dIsi (T : String) (fa : De) : De := fun ρ => (fa ρ).bind fun a => .ok (.bl (subT (tyD a.1) T), a.2)
noncomputable def dIsi2 (T U : String) (fa : De) : De := fun ρ => (fa ρ).bind fun a => .ok (.bl (subT (tyD a.1) T || subT (tyD a.1) U), a.2)
section
variable {X : Cx} {C : Cn} {e : Expr} {fa : De} {p p2 pos : Pos}
theorem call_isi {T : String} (ok : IsiOk T) : CallR X (.builtin "isinstance") (fun xs H Q => ∃ d v, xs = [v, .ty T] ∧ Rep X.K H d v ∧ Q (.bl (subT (tyD d) T)) H) := by
  intro pins s σ H xs us Q I r h
  obtain ⟨d, v, rfl, h1, q⟩ := h
  obtain ⟨u, w', rfl, r1, r2⟩ := vals2 r
  cases r2
  obtain ⟨P, Z, hp, hx⟩ := kit_of I h1 r1
  exact PySem.W.kia_one Z I.kIn hp (ok X.K (tyD d) (tyD_mem d)) hx fun tk => ⟨.bl _, H, I.tok tk, rfl, q⟩
theorem call_isi2 {T U : String} (ok : IsiOk T) (ok2 : IsiOk U) : CallR X (.builtin "isinstance") (fun xs H Q => ∃ d v a, xs = [v, .ref a] ∧ Rep X.K H d v ∧ SqT X.K H a [.ty T, .ty U] ∧ Q (.bl (subT (tyD d) T || subT (tyD d) U)) H) := by
  intro pins s σ H xs us Q I r h
  obtain ⟨d, v, a, rfl, h1, ha, q⟩ := h
  obtain ⟨u, w', rfl, r1, r2⟩ := vals2 r
  cases r2
  obtain ⟨P, Z, hp, hx⟩ := kit_of I h1 r1
  obtain ⟨its, rv, ⟨o, e, c, k, dd⟩, _⟩ := I.tuple ha
  obtain ⟨x1, x2, rfl, q1, q2⟩ := vals2 rv
  cases q1
  cases q2
  obtain ⟨oc, od, odt, osl⟩ := o
  simp only at c dd
  subst c dd
  refine PySem.W.kia_tup (its := [Value.type T, Value.type U]) (b := subT (tyD d) T || subT (tyD d) U) Z I.kIn hp e ?_ hx fun tk => ⟨.bl _, H, I.tok tk, rfl, q⟩
  unfold PySem.W.kitAny
  rw [ok X.K (tyD d) (tyD_mem d)]
  cases subT (tyD d) T with
  | true => rfl
  | false =>
    simp only [PySem.W.kitAny, ok2 X.K (tyD d) (tyD_mem d)]
    cases subT (tyD d) U <;> rfl
theorem je_isi {T : String} {x2 : Str} (ok : IsiOk T) (hg : Gl X "isinstance") (hm : X.mg "isinstance" = none) (hv : bootBuiltins "isinstance" = some (.builtin "isinstance")) (hg2 : Gl X x2) (hm2 : X.mg x2 = none) (hv2 : bootBuiltins x2 = some (.type T)) (ha : JE X C e fa)
    (hn : ("isinstance" : Str) ≠ "__name__" := by decide) (hdb : (("isinstance" : Str) == ("__debug__" : Str)) = false := by decide) (hn2 : x2 ≠ "__name__" := by decide) (hdb2 : (x2 == ("__debug__" : Str)) = false := by decide)
    (hs : starEach [e, .Name x2 p2] X.env = (false, eval e X.env) :: starEach [.Name x2 p2] X.env := by rfl) (hs2 : starEach [.Name x2 p2] X.env = (false, eval (.Name x2 p2) X.env) :: starEach [] X.env := by rfl) (hpl : (backTo pos (starEach [.Name x2 p2] X.env)).any (·.1) = false := by rfl) :
    JE X C (.Call (.Name "isinstance" p) [e, .Name x2 p2] [] pos) (dIsi T fa) :=
  PE.weak (pe_callB (call_isi ok) hg hm hv (pa_cons ha (pa_cons (pe_bltn (v := .ty T) hg2 hm2 hv2 rfl hn2 hdb2) pa_nil hs2) hs) hn hdb hs hpl) fun σ H Q ⟨G, w, ρ, r, p⟩ => by
    refine seqE (κ := fun G H w => kE X.K C σ Q G H w) stp_E r p fun d ρ1 v G1 H1 w1 r1 s1 q1 p1 => ?_
    exact ⟨d, v, rfl, q1.same r1.gh, p1 _ G1 H1 w1 (.refl _ _ _) r1 (rep_is_bl _)⟩
theorem je_isi2 {T U : String} {x2 x3 : Str} {p3 pt : Pos} {kt} (ok : IsiOk T) (ok2 : IsiOk U) (hg : Gl X "isinstance") (hm : X.mg "isinstance" = none) (hv : bootBuiltins "isinstance" = some (.builtin "isinstance")) (hg2 : Gl X x2) (hm2 : X.mg x2 = none) (hv2 : bootBuiltins x2 = some (.type T)) (hg3 : Gl X x3) (hm3 : X.mg x3 = none) (hv3 : bootBuiltins x3 = some (.type U)) (ha : JE X C e fa)
    (hn : ("isinstance" : Str) ≠ "__name__" := by decide) (hdb : (("isinstance" : Str) == ("__debug__" : Str)) = false := by decide) (hn2 : x2 ≠ "__name__" := by decide) (hdb2 : (x2 == ("__debug__" : Str)) = false := by decide) (hn3 : x3 ≠ "__name__" := by decide) (hdb3 : (x3 == ("__debug__" : Str)) = false := by decide)
    (hs : starEach [e, .Tuple [.Name x2 p2, .Name x3 p3] kt pt] X.env = (false, eval e X.env) :: starEach [.Tuple [.Name x2 p2, .Name x3 p3] kt pt] X.env := by rfl) (hs2 : starEach [.Tuple [.Name x2 p2, .Name x3 p3] kt pt] X.env = (false, eval (.Tuple [.Name x2 p2, .Name x3 p3] kt pt) X.env) :: starEach [] X.env := by rfl) (hpl : (backTo pos (starEach [.Tuple [.Name x2 p2, .Name x3 p3] kt pt] X.env)).any (·.1) = false := by rfl)
    (hs3 : starEach [.Name x2 p2, .Name x3 p3] X.env = (false, eval (.Name x2 p2) X.env) :: starEach [.Name x3 p3] X.env := by rfl) (hs4 : starEach [.Name x3 p3] X.env = (false, eval (.Name x3 p3) X.env) :: starEach [] X.env := by rfl) :
    JE X C (.Call (.Name "isinstance" p) [e, .Tuple [.Name x2 p2, .Name x3 p3] kt pt] [] pos) (dIsi2 T U fa) :=
  PE.weak (pe_callB (call_isi2 ok ok2) hg hm hv (pa_cons ha (pa_cons (pe_tup (pa_cons (pe_bltn (v := .ty T) hg2 hm2 hv2 rfl hn2 hdb2) (pa_cons (pe_bltn (v := .ty U) hg3 hm3 hv3 rfl hn3 hdb3) pa_nil hs4) hs3)) pa_nil hs2) hs) hn hdb hs hpl) fun σ H Q ⟨G, w, ρ, r, p⟩ => by
    refine seqE (κ := fun G H w => kE X.K C σ Q G H w) stp_E r p fun d ρ1 v G1 H1 w1 r1 s1 q1 p1 => ?_
    refine ⟨by show 2 ≤ sizeLine; decide, fun a ha => ?_⟩
    have gr : Grow G1 H1 G1 (upd H1 a (.tup [.ty T, .ty U])) := .newH r1.gh ha
    exact ⟨d, v, a, rfl, (q1.same r1.gh).same gr.h, SqT.of upd_same, p1 _ G1 _ w1 gr.step (r1.grow gr) (rep_is_bl _)⟩
/-! ### places -/
noncomputable def gIx : Dt → Dt → R Dt
  | .lst l, .int i => match atI l i with
    | some d => .ok d
    | none => .no
  | .tup l, .int i => match atI l i with
    | some d => .ok d
    | none => .no
  | .scr l, .int i => match atI l i with
    | some d => .ok (.int d)
    | none => .no
  | _, _ => .no
theorem atI_map {α β : Type} {f : α → β} {l : List α} {i : Int} {d : α} (ed : atI l i = some d) : atI (l.map f) i = some (f d) := by
  unfold atI at ed ⊢
  rw [List.length_map]
  cases q : ixN l.length i with
  | none => rw [q] at ed; cases ed
  | some j =>
    rw [q] at ed
    simp only [Option.bind_some] at ed ⊢
    rw [List.getElem?_map, ed]; rfl
theorem op2_ix {K : PySem.W.Frag} : Op2 K (fun x y H Q => rIxL K x y H Q ∨ rIxT K x y H Q) gIx := fun G H x y dx dy z Q gh hx hy e k => by
  unfold gIx at e
  split at e
  · split at e
    · rename_i d ed
      cases e
      obtain ⟨a, vs, rfl, h1, h2⟩ := rep_lst hx
      obtain ⟨v, e1, e2⟩ := reps_atI h2 ed
      exact .inl ⟨a, vs, _, v, rfl, rep_int hy, SqL.of (gh _ _ h1), e1, k v G H (.refl gh) e2⟩
    · cases e
  · split at e
    · rename_i d ed
      cases e
      obtain ⟨a, vs, rfl, h1, h2⟩ := rep_tup hx
      obtain ⟨v, e1, e2⟩ := reps_atI h2 ed
      exact .inr ⟨a, vs, _, v, rfl, rep_int hy, sqT_same gh h1, e1, k v G H (.refl gh) e2⟩
    · cases e
  · split at e
    · rename_i d ed
      cases e
      obtain ⟨a, rfl, h1⟩ := rep_scr hx
      exact .inl ⟨a, _, _, .int d, rfl, rep_int hy, gh.seq h1, atI_map ed, k _ G H (.refl gh) (rep_is_int _)⟩
    · cases e
  · cases e
theorem noEr_ix : NoEr gIx := fun x y n h => by unfold gIx at h; split at h <;> first | cases h | (split at h <;> cases h)
theorem je_ix {a b : Expr} {fa fb : De} (ha : JE X C a fa) (hb : JE X C b fb) (hs : PlainIx b := by exact fun _ _ => rfl) : JE X C (.Subscript a b pos) (dOp gIx fa fb) :=
  PE.weak (pe_ix (ix_list.or ix_tup) ha hb hs) fun σ H Q h => op_read op2_ix noEr_ix h
/-! ### x is None, x is not True -/
end
end PV
end
section
set_option Elab.async false
set_option linter.all false
set_option maxRecDepth 100000
namespace PV
open PySem PySem.Spec L2
/-! ### a list of one's own, changed -/
theorem Rel.mutate {K : PySem.W.Frag} {C : Cn} {σ : L2.St} {G H : Hp} {w : Wn} {ρ : Ev} {i : Nat} {ds ds' : List Dt} {a : Addr} {vs' : List V} (r : Rel K C G w ρ σ H) (hi : ρ[i]? = some (some (.own ds))) (hv : σ[i]? = some (some (.ref a))) (hw : w a = some i) (h' : Reps K G ds' vs') :
    Rel K C G w (ρ.set i (some (.own ds'))) σ (upd H a (.lst vs')) ∧ Step G H w G (upd H a (.lst vs')) w := by
  have ga : G a = none := r.wg a (by rw [hw]; simp)
  have st : Step G H w G (upd H a (.lst vs')) w := by
    refine ⟨.refl _, fun b o e => .inl (by rw [e]; simp), fun b o e z => ?_, fun _ e => .inl e, fun b e => ?_⟩
    · have : b ≠ a := fun q => by subst q; rw [hw] at z; cases z
      rw [upd_ne this]; exact e
    · by_cases hb : b = a
      · subst hb; rw [upd_same] at e; cases e
      · rw [upd_ne hb] at e; exact e
  refine ⟨⟨fun b o e => ?_, r.wg, fun b e => ?_, by simpa using r.len, fun j b e => ?_, r.en.trans st, r.pin⟩, st⟩
  · rw [upd_ne (ne_of_none e ga)]; exact r.gh b o e
  · by_cases hb : b = a
    · subst hb; rw [upd_same]; simp
    · rw [upd_ne hb]; exact r.wh b e
  · by_cases hj : j = i
    · subst hj
      rw [List.getElem?_set_self (List.getElem?_eq_some_iff.mp hi).1] at e
      cases e
      exact ⟨_, hv, a, vs', rfl, hw, upd_same, h'⟩
    · rw [List.getElem?_set_ne (Ne.symm hj)] at e
      obtain ⟨v', h1, h2⟩ := r.sl j b e
      refine ⟨v', h1, h2.grow (.refl _) fun b' o e1 e2 => ⟨?_, e1⟩⟩
      have : b' ≠ a := fun z => by subst z; rw [hw] at e1; exact hj (Option.some.inj e1).symm
      rw [upd_ne this]; exact e2
section
variable {X : Cx} {C : Cn} {e : Expr} {fa : De} {pos ps apos : Pos} {x : Str}
/-- a list of one's own by its name: its address, as it is -/
theorem own_at {K : PySem.W.Frag} {σ : L2.St} {G H : Hp} {w : Wn} {ρ : Ev} {i : Nat} {ds : List Dt} (r : Rel K C G w ρ σ H) (e : ρ[i]? = some (some (.own ds))) : ∃ a vs, σ[i]? = some (some (.ref a)) ∧ w a = some i ∧ H a = some (.lst vs) ∧ Reps K G ds vs := by
  obtain ⟨v, h1, a, vs, rfl, h2, h3, h4⟩ := r.sl i _ e
  exact ⟨a, vs, h1, h2, h3, h4⟩
noncomputable def dAppO (i : Nat) (fa : De) : De := fun ρ => match ρ[i]? with
  | some (some (.own _)) => (fa ρ).bind fun a => match a.2[i]? with
    | some (some (.own ds)) => if ds.length < 16777216 then .ok (.non, a.2.set i (some (.own (ds ++ [a.1])))) else .no
    | _ => .no
  | _ => .no
theorem line24 : sizeLine = 16777216 := by decide
theorem je_appO (i : Nat) (ha : JE X C e fa) (hN : X.N[i]? = some x := by rfl) (hv : Vis X.env.scope x := by first | exact Or.inl rfl | exact Or.inr (Or.inl rfl) | exact Or.inr (Or.inr rfl)) (hd : (x == ("__debug__" : Str)) = false := by decide) (hcd : (x == ("__classdict__" : Str)) = false := by decide)
    (hbase : attributeBase (.Name x ps) "append" X.env (eval (.Name x ps) X.env) = eval (.Name x ps) X.env := by rfl)
    (hfew : ((backTo pos (starEach [e] X.env)).all (fun x => !x.1) && (backToKw pos (keywordEach [] X.env)).all (fun x => x.1.isSome) && decide ([e].length + ([] : List Keyword).length + (if ([] : List Keyword).isEmpty then 0 else 1) < 30)) = true := by rfl)
    (hline : (apos.endLine == pos.line) = true := by rfl) (hs : starEach [e] X.env = (false, eval e X.env) :: starEach [] X.env := by rfl) (hplain : (backTo pos (starEach [] X.env)).any (·.1) = false := by rfl) :
    JE X C (.Call (.Attribute (.Name x ps) "append" apos) [e] [] pos) (dAppO i fa) :=
  PE.weak (pe_bm PySem.F.plainAttrs_list PySem.F.slot_list_append PySem.F.type_list_append mt_append (pe_var hN hv hd hcd) (pa_cons ha pa_nil hs) hbase hfew hline hs hplain) fun σ H Q ⟨G, w, ρ, r, p⟩ => by
    unfold dAppO at p
    split at p
    · rename_i ds0 e0
      obtain ⟨a, vs, h1, h2, h3, h4⟩ := own_at r e0
      refine ⟨.ref a, h1, .inl ⟨rfl, vs, SqL.of h3⟩, ?_⟩
      refine seqE (κ := fun G H w => kE X.K C σ Q G H w) stp_E r p fun d ρ1 v G1 H1 w1 r1 s1 q1 p1 => ?_
      dsimp only at p1
      split at p1
      · rename_i ds e1
        obtain ⟨a', vs', k1, k2, k3, k4⟩ := own_at r1 e1
        rw [h1] at k1; cases k1
        split at p1
        · rename_i hl
          obtain ⟨r', s'⟩ := r1.mutate e1 h1 k2 (k4.append (Reps.cons q1 Reps.nil))
          exact ⟨a, vs', v, rfl, rfl, k3, by rw [← k4.length, line24]; exact hl, p1 _ _ _ _ s' r' (by unfold Rep; rfl)⟩
        · exact p1.elim
      · exact p1.elim
    · exact p.elim
noncomputable def popAt (ds : List Dt) (k : Int) : Option (Dt × List Dt) := if mid62 k = true then match ixN ds.length k with
    | some j => match ds[j]? with
      | some d => some (d, ds.eraseIdx j)
      | none => none
    | none => none
  else none
noncomputable def dPopAt (i : Nat) (fa : De) : De := fun ρ => match ρ[i]? with
  | some (some (.own _)) => (fa ρ).bind fun a => match a.2[i]?, a.1 with
    | some (some (.own ds)), .int k => match popAt ds k with
      | some z => .ok (z.1, a.2.set i (some (.own z.2)))
      | none => .no
    | _, _ => .no
  | _ => .no
theorem je_popAt (i : Nat) (ha : JE X C e fa) (hN : X.N[i]? = some x := by rfl) (hv : Vis X.env.scope x := by first | exact Or.inl rfl | exact Or.inr (Or.inl rfl) | exact Or.inr (Or.inr rfl)) (hd : (x == ("__debug__" : Str)) = false := by decide) (hcd : (x == ("__classdict__" : Str)) = false := by decide)
    (hbase : attributeBase (.Name x ps) "pop" X.env (eval (.Name x ps) X.env) = eval (.Name x ps) X.env := by rfl)
    (hfew : ((backTo pos (starEach [e] X.env)).all (fun x => !x.1) && (backToKw pos (keywordEach [] X.env)).all (fun x => x.1.isSome) && decide ([e].length + ([] : List Keyword).length + (if ([] : List Keyword).isEmpty then 0 else 1) < 30)) = true := by rfl)
    (hline : (apos.endLine == pos.line) = true := by rfl) (hs : starEach [e] X.env = (false, eval e X.env) :: starEach [] X.env := by rfl) (hplain : (backTo pos (starEach [] X.env)).any (·.1) = false := by rfl) :
    JE X C (.Call (.Attribute (.Name x ps) "pop" apos) [e] [] pos) (dPopAt i fa) :=
  PE.weak (pe_bm PySem.F.plainAttrs_list PySem.F.slot_list_pop PySem.F.type_list_pop mt_popAt (pe_var hN hv hd hcd) (pa_cons ha pa_nil hs) hbase hfew hline hs hplain) fun σ H Q ⟨G, w, ρ, r, p⟩ => by
    unfold dPopAt at p
    split at p
    · rename_i ds0 e0
      obtain ⟨a, vs, h1, h2, h3, h4⟩ := own_at r e0
      refine ⟨.ref a, h1, .inl ⟨rfl, vs, SqL.of h3⟩, ?_⟩
      refine seqE (κ := fun G H w => kE X.K C σ Q G H w) stp_E r p fun d ρ1 v G1 H1 w1 r1 s1 q1 p1 => ?_
      dsimp only at p1
      split at p1
      · rename_i ds k e1
        obtain ⟨a', vs', k1, k2, k3, k4⟩ := own_at r1 e1
        rw [h1] at k1; cases k1
        split at p1
        · rename_i z ez
          unfold popAt at ez
          split at ez
          · rename_i hb
            split at ez
            · rename_i j ej
              split at ez
              · rename_i d ed
                cases ez
                obtain ⟨j1, j2, j3, j4⟩ := ixN_seq ej
                obtain ⟨y, y1, y2⟩ := k4.get ed
                obtain ⟨r', s'⟩ := r1.mutate e1 h1 k2 (k4.eraseIdx j)
                have hl := k4.length
                obtain ⟨b1, b2⟩ := mid62_ok hb
                exact ⟨a, vs', k, j, y, rfl, by rw [rep_int q1], k3, by omega, by omega, by rw [← hl]; exact j1, y1, p1 _ _ _ _ s' r' y2⟩
              · cases ez
            · cases ez
          · cases ez
        · exact p1.elim
      · exact p1.elim
    · exact p.elim
/-! extend by a list or a tuple -/
end
end PV
end
section
set_option Elab.async false
set_option linter.all false
set_option maxRecDepth 100000
namespace PV
open PySem PySem.Spec L2
section
variable {X : Cx}
theorem MtM.or {id : String} {r r' : V → List V → Hp → VK → Prop} (h : MtM X id r) (h' : MtM X id r') : MtM X id (fun x xs H Q => r x xs H Q ∨ r' x xs H Q) := by
  intro pins s σ H x xs v us Q I rx rs q
  rcases q with q | q
  · exact h pins s σ H x xs v us Q I rx rs q
  · exact h' pins s σ H x xs v us Q I rx rs q
variable {C : Cn} {e : Expr} {fa fb : De} {pos ps apos : Pos} {x : Str}
/-- len(x) of a list of one's own -/
noncomputable def dLenO (i : Nat) : De := fun ρ => match ρ[i]? with
  | some (some (.own ds)) => .ok (.int ds.length, ρ)
  | _ => .no
theorem je_lenO (i : Nat) {p : Pos} (hg : Gl X "len") (hm : X.mg "len" = none) (hN : X.N[i]? = some x := by rfl) (hv : Vis X.env.scope x := by first | exact Or.inl rfl | exact Or.inr (Or.inl rfl) | exact Or.inr (Or.inr rfl)) (hd : (x == ("__debug__" : Str)) = false := by decide) (hcd : (x == ("__classdict__" : Str)) = false := by decide)
    (hs : starEach [.Name x ps] X.env = (false, eval (.Name x ps) X.env) :: starEach [] X.env := by rfl) (hpl : (backTo pos (starEach [] X.env)).any (·.1) = false := by rfl) : JE X C (.Call (.Name "len" p) [.Name x ps] [] pos) (dLenO i) :=
  PE.weak (pe_callB call_len_seq hg hm PySem.boot_len (pa_cons (pe_var hN hv hd hcd) pa_nil hs) (by decide) (by decide) hs hpl) fun σ H Q ⟨G, w, ρ, r, p⟩ => by
    unfold dLenO at p
    split at p
    · rename_i ds e0
      obtain ⟨a, vs, h1, h2, h3, h4⟩ := own_at r e0
      exact ⟨.ref a, h1, a, vs, rfl, .inl (SqL.of h3), by rw [← h4.length]; exact p _ G H w (.refl _ _ _) r (rep_is_int _)⟩
    · exact p.elim
/-- x == e, x != e -/
noncomputable def dEqO (neg : Bool) (i : Nat) (fb : De) : De := fun ρ => match ρ[i]? with
  | some (some (.own _)) => (fb ρ).bind fun b => match b.2[i]? with
    | some (some (.own ds)) => (gEq neg (.lst ds) b.1).bind fun z => .ok (z, b.2)
    | _ => .no
  | _ => .no
theorem eqO_read {neg : Bool} {i : Nat} {σ : L2.St} {H : Hp} {Q : VK} (h : tE X.K C (dEqO neg i fb) σ H Q) : tOp (rEqD X.K neg) (tVar i) (tE X.K C fb) σ H Q := by
  obtain ⟨G, w, ρ, r, p⟩ := h
  unfold dEqO at p
  split at p
  · rename_i ds0 e0
    obtain ⟨a, vs, h1, h2, h3, h4⟩ := own_at r e0
    refine ⟨.ref a, h1, ?_⟩
    refine seqE (κ := fun G H w => kE X.K C σ Q G H w) stp_E r p fun d ρ1 v G1 H1 w1 r1 s1 q1 p1 => ?_
    dsimp only at p1
    split at p1
    · rename_i ds e1
      obtain ⟨a', vs', k1, k2, k3, k4⟩ := own_at r1 e1
      rw [h1] at k1; cases k1
      unfold gEq at p1
      split at p1
      · rename_i hk
        rw [Bool.and_eq_true] at hk
        exact ⟨.lst ds, d, by unfold Rep; exact ⟨a, vs', rfl, k3, k4.same r1.gh⟩, q1.same r1.gh, hk.1, hk.2, p1 _ G1 H1 w1 (.refl _ _ _) r1 (rep_is_bl _)⟩
      · exact p1.elim
    · exact p1.elim
  · exact p.elim
variable {b : Expr}
theorem jt_neO (i : Nat) (hu : X.A.units + 64 < cLine) (hb : JE X C b fb) (hN : X.N[i]? = some x := by rfl) (hv : Vis X.env.scope x := by first | exact Or.inl rfl | exact Or.inr (Or.inl rfl) | exact Or.inr (Or.inr rfl)) (hd : (x == ("__debug__" : Str)) = false := by decide) (hcd : (x == ("__classdict__" : Str)) = false := by decide) :
    JT X C (.Compare (.Name x ps) [.NotEq] [b] pos) (dTB (dEqO true i fb)) := PT.weak (pt_cmpR (op_neD hu) (pe_var hN hv hd hcd) hb (nomark _)) fun σ H Q h => eqO_read (tb_read h)
/-- x[k] = e -/
noncomputable def dPutO (i : Nat) (fv fk : De) : DS := fun ρ => (fv ρ).bind fun v => match v.2[i]? with
  | some (some (.own _)) => (fk v.2).bind fun k => match k.2[i]?, k.1 with
    | some (some (.own ds)), .int n => match ixN ds.length n with
      | some j => .ok (.nx, k.2.set i (some (.own (ds.set j v.1))))
      | none => .no
    | _, _ => .no
  | _ => .no
theorem js_putO (i : Nat) {k : Expr} {fk : De} {tp : Pos} (hv : JE X C e fa) (hk : JE X C k fk) (hN : X.N[i]? = some x := by rfl) (hvi : Vis X.env.scope x := by first | exact Or.inl rfl | exact Or.inr (Or.inl rfl) | exact Or.inr (Or.inr rfl)) (hd : (x == ("__debug__" : Str)) = false := by decide) (hcd : (x == ("__classdict__" : Str)) = false := by decide)
    (ha : ∀ v, assign (.Subscript (.Name x ps) k tp) X.env v = (do
      let ov ← holding [v] (eval (.Name x ps) X.env)
      let iv ← holding [v, ov] (eval k X.env)
      standAt tp
      holding [v, ov, iv] (setItem ov iv v)
      release [v, ov, iv] []) := by intro _; rfl)
    (hs : swapsWithSole [.Subscript (.Name x ps) k tp] e pos.line X.env = pure false := by rfl) (hw : swappedStores [.Subscript (.Name x ps) k tp] e X.env = pure none := by rfl)
    (h1 : (assignEach [.Subscript (.Name x ps) k tp] X.env).map (·.2) = [assign (.Subscript (.Name x ps) k tp) X.env] := by rfl) : JS X C (.Assign [.Subscript (.Name x ps) k tp] e pos) (dPutO i fa fk) :=
  PS.weak (ps_asg hv (pg_sub (pe_var hN hvi hd hcd) hk set_list ha) hs hw h1) fun D σ H ⟨G, w, ρ, r, p⟩ => by
    refine seqE (κ := fun G H w => kS X.K C D G H w) stp_S r p fun d ρ1 v G1 H1 w1 r1 s1 q1 p1 => ?_
    dsimp only at p1
    split at p1
    · rename_i ds0 e0
      obtain ⟨a, vs, k1, k2, k3, k4⟩ := own_at r1 e0
      refine ⟨.ref a, k1, ?_⟩
      refine seqE (κ := fun G H w => kS X.K C D G H w) stp_S r1 p1 fun d2 ρ2 v2 G2 H2 w2 r2 s2 q2 p2 => ?_
      dsimp only at p2
      split at p2
      · rename_i ds n e2
        obtain ⟨a', vs', m1, m2, m3, m4⟩ := own_at r2 e2
        rw [k1] at m1; cases m1
        split at p2
        · rename_i j ej
          obtain ⟨r', s'⟩ := r2.mutate e2 k1 m2 (Reps.set (q1.same s2.g) j m4)
          exact ⟨a, vs', n, j, rfl, rep_int q2, m3, by rw [← m4.length]; exact ej, p2 _ _ _ _ s' r'⟩
        · exact False.elim p2
      · exact False.elim p2
    · exact False.elim p1
end
end PV
end
section
set_option Elab.async false
set_option linter.all false
set_option maxRecDepth 100000
namespace PV
open PySem PySem.Spec L2
/-! ### a comprehension's block -/
theorem closure_loop {env : Env} : ∀ (names : List (Str × NameKind)) (cs : List (Str × Addr)), (∀ y ∈ names, y.2 = .free → ∃ c, env.cells.lookup y.1 = some c) → (∀ x c, cs.lookup x = some c → env.cells.lookup x = some c) →
    ∃ cl, (forIn names cs fun (y : Str × NameKind) (r : List (Str × Addr)) => (if (y.2 == NameKind.free) = true then do let a ← cellOf env y.1; pure (ForInStep.yield ((y.1, a) :: r)) else pure (ForInStep.yield r) : Sem (ForInStep (List (Str × Addr))))) = pure cl ∧
      (∀ x c, cl.lookup x = some c → env.cells.lookup x = some c) ∧ (∀ x c, cs.lookup x = some c → ∃ c', cl.lookup x = some c') ∧ ∀ y ∈ names, y.2 = .free → ∃ c, cl.lookup y.1 = some c
  | [], cs, _, h2 => ⟨cs, rfl, h2, fun x c e => ⟨c, e⟩, fun y hy => by cases hy⟩
  | (n, k) :: r, cs, h1, h2 => by
    rw [List.forIn_cons]
    by_cases hk : k = .free
    · subst hk
      obtain ⟨c, hc⟩ := h1 (n, .free) List.mem_cons_self rfl
      obtain ⟨cl, e1, e2, e3, e4⟩ := closure_loop r ((n, c) :: cs) (fun y hy => h1 y (List.mem_cons_of_mem _ hy)) (fun x c' e => by
        rw [List.lookup_cons] at e
        cases hx : x == n with
        | true => rw [hx] at e; simp only [Option.some.injEq] at e; subst e; rw [beq_iff_eq.mp hx]; exact hc
        | false => rw [hx] at e; exact h2 x c' e)
      refine ⟨cl, ?_, e2, fun x c' e => ?_, fun y hy hf => ?_⟩
      · simp only [beq_self_eq_true, if_true]
        have : cellOf env n = pure c := by unfold cellOf; rw [hc]
        rw [this]
        exact e1
      · refine (e3 x (if x == n then c else c') ?_)
        rw [List.lookup_cons]
        cases hx : x == n with
        | true => rfl
        | false => exact e
      · rcases List.mem_cons.mp hy with rfl | hy
        · exact e3 n c (by simp [List.lookup_cons])
        · exact e4 y hy hf
    · obtain ⟨cl, e1, e2, e3, e4⟩ := closure_loop r cs (fun y hy => h1 y (List.mem_cons_of_mem _ hy)) h2
      refine ⟨cl, ?_, e2, e3, fun y hy hf => ?_⟩
      · have : (k == NameKind.free) = false := by simpa using hk
        simp only [this, Bool.false_eq_true, if_false]
        exact e1
      · rcases List.mem_cons.mp hy with rfl | hy
        · exact absurd hf hk
        · exact e4 y hy hf
theorem closure_ok {scope : Scope} {env : Env} (h : ∀ y ∈ scope.names, y.2 = .free → ∃ c, env.cells.lookup y.1 = some c) : ∃ cl, closureFor scope env = pure cl ∧ (∀ x c, cl.lookup x = some c → env.cells.lookup x = some c) ∧ ∀ y ∈ scope.names, y.2 = .free → ∃ c, cl.lookup y.1 = some c := by
  obtain ⟨cl, e1, e2, _, e4⟩ := closure_loop (env := env) scope.names [] h (fun x c e => by simp at e)
  refine ⟨cl, ?_, e2, e4⟩
  unfold closureFor
  exact (congrArg (fun z : Sem (List (Str × Addr)) => z >>= fun cs => pure cs) e1).trans rfl
section
variable {prog : Program} {w : World} {A : Around} {R : Result → Shared → Prop} {s : Shared}
/-- the loop of a list comprehension, whatever its target -/
theorem compLoop_gen {elt target iter : Expr} {ifs : List Expr} {scope : Scope} {pos : Pos} {it acc : Value} {env : Env} (I : Nat → Shared → Prop)
    (turn : ∀ n s, I n s → wpAny (model prog w) A (pyNext it) (fun r s₁ => match r with
      | none => R (.ok .next) s₁
      | some v => wpAny (model prog w) A (letOwnedTupleGo target it v) (fun _ s₁' => wpAny (model prog w) A (assign target env v) (fun _ s₂ =>
          wpAny (model prog w) A (forIn ifs true fun c r => if r = true then do let ok ← isTrue c env (eval c env); pure (ForInStep.yield ok) else pure (ForInStep.yield r)) (fun ok s₃ =>
            if ok = true then wpAny (model prog w) A (eval elt env) (fun x s₄ =>
              wpAny (model prog w) A (call (.builtin "list.append") [acc, x]) (fun _ s₅ => ∃ m, m < n ∧ I m s₅) (fun _ _ => False) s₄) (fun _ _ => False) s₃
            else ∃ m, m < n ∧ I m s₃) (fun _ _ => False) s₂) (fun _ _ => False) s₁') (fun _ _ => False) s₁) (fun _ _ => False) s)
    (n : Nat) (h : I n s) :
    codeAny (model prog w) A (.compLoop (.ListComp elt [⟨target, iter, ifs, 0⟩] scope pos) 0 it acc env) R s := by
  refine codeAny_loop rfl I (fun n s hI => ?_) n h
  show wpAny _ A ((compTurn (.ListComp elt [⟨target, iter, ifs, 0⟩] scope pos) 0 it acc env).onRaise (fun x => do noteFrame x env; theTreesLotGoes x)) _ _ s
  refine wpAny_noted ?_
  rw [compTurn_list]
  refine wpAny_bind (wpAny_standAt (wpAny_bind (wpAny_mono (turn n s hI) (fun r s₁ h₁ => ?_) fun _ _ h' => h'.elim)))
  cases r with
  | none => exact wpAny_pure h₁
  | some v =>
    refine wpAny_bind (wpAny_mono h₁ (fun _ s₁' h₁' => ?_) fun _ _ h' => h'.elim)
    refine wpAny_bind (wpAny_mono h₁' (fun _ s₂ h₂ => wpAny_bind (wpAny_mono h₂ (fun ok s₃ h₃ => ?_) fun _ _ h' => h'.elim)) fun _ _ h' => h'.elim)
    cases ok with
    | false => exact wpAny_pure ⟨rfl, h₃⟩
    | true =>
      exact wpAny_bind (wpAny_bind (wpAny_mono h₃ (fun x s₄ h₄ => wpAny_bind (wpAny_mono h₄ (fun _ s₅ h₅ => wpAny_pure (wpAny_pure ⟨rfl, h₅⟩)) fun _ _ h' => h'.elim)) fun _ _ h' => h'.elim))
end
/-- the block's context -/
noncomputable def blkCx (X : Cx) (N' : List Str) (scope : Scope) (cl : List (Str × Addr)) (L : Addr) (s : Shared) (H : Hp) (fp : List Addr) : Cx where
  prog := X.prog
  w := X.w
  K := X.K
  mg := X.mg
  base := X.base
  A := X.A
  N := N'
  s₀ := s
  H₀ := H
  env := compEnvC scope cl L X.env
  outer := X.stack
  stack := X.stack
  ex := fp
  fn := fun _ => false
  calm := X.calm
  pn := []
  xe := fun _ _ => False
noncomputable def blkCn (C : Cn) (n : Nat) (G H : Hp) (w : Wn) (σ : L2.St) : Cn := ⟨G, H, w, List.range n, σ, fun _ => False, C.xv, false⟩
/-- the names of a block: those around it that it reads, by their places; then its own -/
noncomputable def blkOk (N N' : List Str) (names : List (Str × NameKind)) (m : Nat) : Bool := decide (N'.length = N.length + m) && (List.range N.length).all fun i => match N'[i]? with
  | some x => match names.lookup x with
    | some .free => N[i]? == some x
    | some .local => false
    | some .cell => false
    | _ => true
  | none => false
theorem lookup_relabel {env : Env} {x : Str} : ∀ {names : List (Str × NameKind)}, (names.map fun (n, k) => if (k == NameKind.free && env.scope.kind == .function && env.kindOf n == some .cell) then (n, NameKind.cell) else (n, k)).lookup x = (names.lookup x).map fun k => if (k == NameKind.free && env.scope.kind == .function && env.kindOf x == some .cell) = true then .cell else k
  | [] => rfl
  | (n, k) :: r => by
    have ih := lookup_relabel (env := env) (x := x) (names := r)
    show List.lookup x ((if (k == NameKind.free && env.scope.kind == .function && env.kindOf n == some .cell) = true then (n, NameKind.cell) else (n, k)) :: _) = _
    cases hx : x == n with
    | true =>
      have e := beq_iff_eq.mp hx
      subst e
      simp only [List.lookup_cons, beq_self_eq_true, Option.map_some]
      split <;> simp [List.lookup_cons]
    | false =>
      simp only [List.lookup_cons, hx]
      split
      · simp only [List.lookup_cons, hx]; exact ih
      · simp only [List.lookup_cons, hx]; exact ih
theorem mem_of_lookup' {α β : Type} [BEq α] [LawfulBEq α] {x : α} {b : β} : ∀ {l : List (α × β)}, l.lookup x = some b → (x, b) ∈ l
  | [], h => by simp at h
  | (n, k) :: r, h => by
    rw [List.lookup_cons] at h
    cases hx : x == n with
    | true => rw [hx] at h; simp at h; subst h; rw [beq_iff_eq.mp hx]; exact List.mem_cons_self
    | false => rw [hx] at h; exact List.mem_cons_of_mem _ (mem_of_lookup' h)
theorem vis_relabel {scope : Scope} {env : Env} {x : Str} (h : Vis (relabel scope env) x) : scope.names.lookup x = some .local ∨ scope.names.lookup x = some .cell ∨ scope.names.lookup x = some .free := by
  have e : (relabel scope env).names.lookup x = _ := lookup_relabel (env := env) (x := x) (names := scope.names)
  unfold Vis at h
  rw [e] at h
  cases q : scope.names.lookup x with
  | none => rw [q] at h; simp at h
  | some k =>
    rw [q] at h
    cases k <;> simp_all
section
variable {X : Cx} {C : Cn}
/-- the block's state at its entry -/
theorem blk_start {pins : List (Addr × Obj)} {σ : L2.St} {H : Hp} {s : Shared} {N' : List Str} {scope : Scope} {cl : List (Str × Addr)} {m : Nat} {fp : List Addr} {h₁ : Heap} {tk : Nat} {mm : Str → Option Value} (I : L2.Inv X pins σ H s) (hf : ∀ b ∈ fp, FpOk X pins H b) (ho : ∀ b ∈ fp, ∃ o, s.heap.get? b = some o)
    (hb : blkOk X.N N' scope.names m = true) (hkind : scope.kind = .function) (hcell : ∀ y ∈ scope.names, y.2 ≠ .cell) (hfr : ∀ y ∈ scope.names, y.2 = .free → X.env.kindOf y.1 = some .cell ∨ X.env.kindOf y.1 = some .free)
    (hcl : ∀ x c, cl.lookup x = some c → X.env.cells.lookup x = some c) (hcf : ∀ y ∈ scope.names, y.2 = .free → ∃ c, cl.lookup y.1 = some c)
    (hns : h₁.Ns s.heap.objs.size mm) (hk : ∀ b o, s.heap.get? b = some o → h₁.get? b = some o) :
    L2.Inv (blkCx X N' scope cl s.heap.objs.size s H fp) [] (σ ++ List.replicate m none) H { s with heap := h₁, toks := tk } := by
  have hb1 : N'.length = X.N.length + m := by
    unfold blkOk at hb; rw [Bool.and_eq_true] at hb; exact of_decide_eq_true hb.1
  have hb2 : ∀ i x, i < X.N.length → N'[i]? = some x → Vis (relabel scope X.env) x → X.N[i]? = some x ∧ scope.names.lookup x = some .free := fun i x hi e v => by
    unfold blkOk at hb; rw [Bool.and_eq_true, List.all_eq_true] at hb
    have q := hb.2 i (List.mem_range.mpr hi)
    simp only [e] at q
    rcases vis_relabel v with z | z | z
    · simp [z] at q
    · simp [z] at q
    · simp [z] at q; exact ⟨q, z⟩
  have cellK : ∀ c v, s.heap.IsCell c v → h₁.IsCell c v := fun c v ⟨o, e1, e2⟩ => ⟨o, hk c o e1, e2⟩
  refine ⟨⟨I.ok.mod, hkind, I.ok.glob, I.ok.blt, Nat.le_refl _, fun x y c h1 h2 => I.ok.inj x y c (hcl x c h1) (hcl y c h2), fun x hx => ?_, fun x c h _ => absurd h (by simp [blkCx]), I.ok.hd, I.ok.frames, .inl rfl, fun b hb => ⟨?_, fun x c e => (hf b hb).2.2.2.2.1 x c (hcl x c e)⟩, I.bs, Nat.le_trans I.ok.bsz I.sz, fun b o e hb => ?_, fun b hb z => ?_, I.stack, I.stkFree⟩,
    rfl, I.bare, Un.kept hk, ⟨mm, hns, fun i x v e1 e2 e3 => ?_⟩, fun x c e => ?_, I.hok.fresh (Nat.le_refl _), fun x c e => I.freeC x c (hcl x c e), fun p hp => absurd hp (by simp [blkCx]), I.hok.kept hk, ?_⟩
  · -- a cell for each name
    have e : (relabel scope X.env).names.lookup x = _ := lookup_relabel (env := X.env) (x := x) (names := scope.names)
    have hx' : Vis (relabel scope X.env) x := hx.elim (fun z => .inr (.inl z)) fun z => .inr (.inr z)
    rcases vis_relabel hx' with z | z | z
    · rw [z] at e
      have hx2 : (relabel scope X.env).names.lookup x = some .cell ∨ (relabel scope X.env).names.lookup x = some .free := hx
      rw [e] at hx2; simp at hx2
    · exact absurd rfl (hcell _ (mem_of_lookup' z))
    · exact hcf _ (mem_of_lookup' z) rfl
  · intro z
    obtain ⟨o, e⟩ := ho b hb
    exact absurd (Heap.lt_size e) (by rw [z]; exact Nat.lt_irrefl _)
  · rcases (hf b hb).2.2.2.1 with z | z
    · exact I.ok.noex b o e z
    · exact absurd (Nat.lt_of_lt_of_le (Heap.lt_size e) (Nat.le_trans I.ok.bsz z)) (Nat.lt_irrefl _)
  · rcases List.mem_cons.mp (I.stkSub b z) with z | z
    · exact (hf b hb).2.1 z
    · exact (hf b hb).2.2.1 z
  · have hi : i < X.N.length := by
      by_cases hi : i < X.N.length
      · exact hi
      · rw [List.getElem?_append_right (by rw [I.len]; omega), List.getElem?_replicate] at e2
        split at e2 <;> cases e2
    rw [List.getElem?_append_left (by rw [I.len]; exact hi)] at e2
    obtain ⟨q1, q2⟩ := hb2 i x hi e1 e3
    have hm := mem_of_lookup' q2
    obtain ⟨m0, hn0, hl0⟩ := I.loc
    have kc := hfr _ hm rfl
    obtain ⟨u, ru, lk⟩ := hl0 i x v q1 e2 (kc.elim (fun z => .inr (.inl z)) fun z => .inr (.inr z))
    refine ⟨u, ru, .inr ⟨?_, ?_⟩⟩
    · have e : (relabel scope X.env).names.lookup x = _ := lookup_relabel (env := X.env) (x := x) (names := scope.names)
      show (relabel scope X.env).names.lookup x = some .cell ∨ (relabel scope X.env).names.lookup x = some .free
      rw [e, q2]
      simp only [Option.map_some]
      split
      · exact .inl rfl
      · exact .inr rfl
    · obtain ⟨c, hc⟩ := hcf _ hm rfl
      refine ⟨c, hc, ?_⟩
      rcases lk with ⟨z, _⟩ | ⟨_, c', e', ic⟩
      · rcases kc with y | y <;> (rw [y] at z; cases z)
      · rw [hcl _ _ hc] at e'; cases e'
        exact cellK _ _ ic
  · obtain ⟨v, ic⟩ := I.cell x c (hcl x c e)
    exact ⟨v, cellK _ _ ic⟩
  · show _ = N'.length
    rw [List.length_append, List.length_replicate, I.len, hb1]
/-- behind the block -/
theorem blk_end {pins : List (Addr × Obj)} {σ σ' : L2.St} {H H' : Hp} {s s' : Shared} {N' : List Str} {scope : Scope} {cl : List (Str × Addr)} {fp : List Addr} {L : Addr} {h' : Heap} {ps : List (Addr × Obj)} (I : L2.Inv X pins σ H s) (hf : ∀ b ∈ fp, FpOk X pins H b) (hL : s.heap.objs.size ≤ L)
    (J : L2.Inv (blkCx X N' scope cl L s H fp) ps σ' H' s') (hs : Heap.SameBut L s'.heap h') : L2.Inv X pins σ H' { s' with heap := h' } := by
  have hne : ∀ b o, s.heap.get? b = some o → b ≠ L := fun b o e z => by subst z; exact absurd (Nat.lt_of_lt_of_le (Heap.lt_size e) hL) (Nat.lt_irrefl _)
  have hfree : H' L = none := J.free
  have un : Un (frs X.stack) fp H H' s.heap s'.heap := J.base
  refine I.call' (s' := { s' with heap := h' }) (ch := fp) J.os ⟨fun b o e n h1 h2 => ?_, fun b o e n h1 h2 => ?_, un.free, fun b o e h2 => ?_, un.tups, un.frzs, un.tbls⟩ (fun b o e => ?_) J.bare fun b hb => ⟨(hf b hb).2.2.2.1, (hf b hb).2.1, (hf b hb).2.2.2.2.1, (hf b hb).2.2.2.2.2⟩
  · exact (hs.2 b (hne b o e)).trans (un.keep b o e n h1 h2)
  · obtain ⟨sl, q⟩ := un.slot b o e n h1 h2
    exact ⟨sl, (hs.2 b (hne b o e)).trans q⟩
  · obtain ⟨o', q⟩ := un.there b o e h2
    exact ⟨o', (hs.2 b (hne b o e)).trans q⟩
  · refine (J.hok b o e).stay (fun c v hc q => (hs.2 c ?_).trans q) (fun _ q => q) fun _ _ q => q
    intro z
    subst z
    rcases hc with z | z
    · subst z; rw [hfree] at e; cases e
    · rw [hfree] at z; cases z
end
end PV
end
section
set_option Elab.async false
set_option linter.all false
set_option maxRecDepth 100000
namespace PV
open PySem PySem.Spec L2
noncomputable def compD (g : DG) (ft : DT) (fe : De) : List Dt → Ev → R (List Dt × Ev)
  | [], ρ => .ok ([], ρ)
  | d :: r, ρ => (g d ρ).bind fun ρ1 => (ft ρ1).bind fun t => if t.1 = true then (fe t.2).bind fun y => (compD g ft fe r y.2).bind fun z => .ok (y.1 :: z.1, z.2) else compD g ft fe r t.2
noncomputable def dComp (fi : DA) (g : DG) (ft : DT) (fe : De) (m : Nat) : DN := fun ρ => (fi ρ).bind fun a => if fits a.1 = true then match compD g ft fe a.1 (a.2 ++ List.replicate m none) with
    | .ok z => .ok (z.1, z.2.take a.2.length)
    | _ => .no
  else .no
theorem bind_inv {α β : Type} {r : R α} {f : α → R β} {b : β} (h : r.bind f = .ok b) : ∃ a, r = .ok a ∧ f a = .ok b := by
  cases r with
  | ok a => exact ⟨a, rfl, h⟩
  | er n => cases h
  | no => cases h
noncomputable def JTs (X : Cx) (C : Cn) (ifs : List Expr) (ft : DT) : Prop :=
  ∀ (pins : List (Addr × Obj)) (s : Shared) (σ : L2.St) (H : Hp) (Q : Bool → Hp → Prop), L2.Inv X pins σ H s → tT X.K C ft σ H Q →
    wpAny (model X.prog X.w) X.A (forIn ifs true fun c r => if r = true then do let ok ← isTrue c X.env (eval c X.env); pure (ForInStep.yield ok) else pure (ForInStep.yield r)) (TP X pins σ Q) X.xe s
noncomputable def dTT : DT := fun ρ => .ok (true, ρ)
section
variable {X : Cx} {C : Cn}
theorem jts_nil : JTs X C [] dTT := fun pins s σ H Q I ⟨G, w, ρ, r, p⟩ => wpAny_tests_nil ⟨H, I, p G H w (.refl _ _ _) r⟩
theorem jts_one {c : Expr} {ft : DT} (h : JT X C c ft) : JTs X C [c] ft := fun pins s σ H Q I t => wpAny_tests_one (h pins s σ H Q I t)
/-- the list that grows in the block -/
theorem Rel.upd_new {K : PySem.W.Frag} {σ : L2.St} {G H : Hp} {w : Wn} {ρ : Ev} {p : Addr} {o : HO} (r : Rel K C G w ρ σ H) (hg : G p = none) (hw : w p = none) (h0 : C.H₀ p = none) : Rel K C G w ρ σ (upd H p o) := by
  refine ⟨fun b u e => ?_, r.wg, fun b e => ?_, r.len, fun i b e => ?_, ⟨r.en.g, r.en.fr, fun b u e z => ?_, r.en.w, fun b e => ?_⟩, r.pin⟩
  · rw [upd_ne (ne_of_none e hg)]; exact r.gh b u e
  · by_cases hb : b = p
    · subst hb; rw [upd_same]; simp
    · rw [upd_ne hb]; exact r.wh b e
  · obtain ⟨v, h1, h2⟩ := r.sl i b e
    refine ⟨v, h1, h2.grow (.refl _) fun a u e1 e2 => ⟨?_, e1⟩⟩
    have : a ≠ p := fun z => by subst z; rw [hw] at e1; cases e1
    rw [upd_ne this]; exact e2
  · rw [upd_ne (ne_of_none e h0)]; exact r.en.h b u e z
  · by_cases hb : b = p
    · subst hb; exact h0
    · rw [upd_ne hb] at e; exact r.en.k b e
theorem Step.keep {G H G' H' : Hp} {w w' : Wn} {p : Addr} {o : HO} (s : Step G H w G' H' w') (hg : G p = none) (hw : w p = none) (hp : H p = some o) : G' p = none ∧ w' p = none ∧ H' p = some o := by
  refine ⟨?_, ?_, s.h p o hp hw⟩
  · cases q : G' p with
    | none => rfl
    | some u =>
      rcases s.fr p u q with z | z | z
      · exact absurd hg z
      · rw [hp] at z; cases z
      · exact absurd hw z
  · cases q : w' p with
    | none => rfl
    | some k =>
      rcases s.w p (by rw [q]; simp) with z | z
      · exact absurd hw z
      · rw [hp] at z; cases z
structure LetOk (X : Cx) (pins : List (Addr × Obj)) (H : Hp) (L : Addr) (s : Shared) : Prop where
  fr : H L = none
  nl : L ≠ X.env.locals
  nw : L ∈ X.ex ∨ X.s₀.heap.objs.size ≤ L
  nc : ∀ x c, X.env.cells.lookup x = some c → c ≠ L
  np : ∀ p ∈ X.pn ++ pins, p.1 ≠ L
  ns : ∃ m, s.heap.Ns L m
/-- the block runs: what stands ahead of the end of its names -/
theorem comp_core {tg iter elt : Expr} {ifs : List Expr} {scope : Scope} {pos : Pos} {N' : List Str} {m : Nat} {g : DG} {ft : DT} {fe : De} (hc : X.calm = true) (hb : blkOk X.N N' scope.names m = true)
    (hkind : scope.kind = .function) (hcell : ∀ y ∈ scope.names, y.2 ≠ .cell) (hfr : ∀ y ∈ scope.names, y.2 = .free → X.env.kindOf y.1 = some .cell ∨ X.env.kindOf y.1 = some .free)
    (hblk : ∀ cl L s H fp G H' w σ, JG (blkCx X N' scope cl L s H fp) (blkCn C X.N.length G H' w σ) tg g ∧ JTs (blkCx X N' scope cl L s H fp) (blkCn C X.N.length G H' w σ) ifs ft ∧ JE (blkCx X N' scope cl L s H fp) (blkCn C X.N.length G H' w σ) elt fe)
    {pins : List (Addr × Obj)} {σ : L2.St} {s2 : Shared} {cl : List (Str × Addr)} {RR : Value → Addr → Result → Shared → Prop} {E : Value → Shared → Prop}
    (hcl : ∀ x c, cl.lookup x = some c → X.env.cells.lookup x = some c) (hcf : ∀ y ∈ scope.names, y.2 = .free → ∃ c, cl.lookup y.1 = some c)
    {it : Addr} {fp : List Addr} {tn : Nat → Heap → Prop} {J : It} {H2 : Hp} (I2 : L2.Inv X pins σ H2 s2) (T : Turn X.prog X.w X.K tg J fp it tn) (st2 : tn 0 s2.heap) (f2 : ∀ b ∈ fp, FpOk X pins H2 b)
    {ds zs : List Dt} {ρ1 ρf : Ev} {G1 : Hp} {w1 : Wn} (r1 : Rel X.K C G1 w1 ρ1 σ H2) (it1 : ItOk X.K J G1 ds) (hfi : fits ds = true) (ec : compD g ft fe ds (ρ1 ++ List.replicate m none) = .ok (zs, ρf))
    (fin : ∀ (D L : Addr) (s' : Shared) (vs : List V) (G' H' : Hp) (w' : Wn), L2.Inv X pins σ H' s' → LetOk X pins H' L s' → Step G1 H2 w1 G' H' w' → Rel X.K C G' w' (ρf.take ρ1.length) σ H' → H2 D = none → H' D = some (.lst vs) → G' D = none → w' D = none → Reps X.K G' zs vs → RR (.ref D) L (.ok .next) s') :
    wpAny (model X.prog X.w) X.A (newList []) (fun acc s₃ => wpAny (model X.prog X.w) X.A (newFunctionEnv scope X.env.globals cl [] X.env.qual none .none (some X.env)) (fun cenv s₄ =>
      codeAny (model X.prog X.w) X.A (.compStart (.ListComp elt [⟨tg, iter, ifs, 0⟩] scope pos) 0 (.ref it) acc { cenv with scope := relabel scope X.env }) (RR acc cenv.locals) s₄) E s₃) E s2 := by
  have hD : H2 s2.heap.objs.size = none := I2.hok.fresh (Nat.le_refl _)
  refine wpAny_newObj_type (wpAny_newFunctionEnv hcell (by intro y hy; simp at hy) (fun h₁ hns₁ hsb₁ => ?_) hkind)
  dsimp only at hns₁ hsb₁ ⊢
  -- the list
  have I3 : L2.Inv X pins σ (upd H2 s2.heap.objs.size (.lst [])) { s2 with heap := s2.heap.push { cls := .type "list", dict := none, data := .seq ([] : List Value).toArray } } :=
    I2.laid (t' := s2.toks) (fun b u e => Heap.get?_push_of_some _ e) (Nat.le_refl _) ⟨Nat.zero_le _, [], 0, .nil, Heap.get?_push_size _ rfl⟩
  have hob : ∀ b ∈ fp, ∃ o, s2.heap.get? b = some o := fun b hb => let ⟨o, e, _⟩ := T.obj 0 _ st2 b hb; ⟨o, e⟩
  have hbD : ∀ b ∈ fp, b ≠ s2.heap.objs.size := fun b hb z => by obtain ⟨o, e⟩ := hob b hb; exact absurd (Heap.lt_size e) (by rw [z]; exact Nat.lt_irrefl _)
  have f3 : ∀ b ∈ fp, FpOk X pins (upd H2 s2.heap.objs.size (.lst [])) b := fun b hb => ⟨by rw [upd_ne (hbD b hb)]; exact (f2 b hb).1, (f2 b hb).2⟩
  have hk3 : ∀ b o, (s2.heap.push { cls := .type "list", dict := none, data := .seq ([] : List Value).toArray }).get? b = some o → h₁.get? b = some o := fun b o e =>
    (hsb₁.2 b (Nat.ne_of_lt (Heap.lt_size e))).trans (Heap.get?_push_of_some _ e)
  have J4 := blk_start (N' := N') (scope := scope) (cl := cl) (m := m) (fp := fp) (tk := s2.toks + ([] : List (Str × Value)).length) I3 f3 (fun b hb => by obtain ⟨o, e⟩ := hob b hb; exact ⟨o, Heap.get?_push_of_some _ e⟩) hb hkind hcell hfr hcl hcf hns₁ hk3
  have st4 : tn 0 h₁ := T.keep _ _ _ st2 fun b hb o e => hk3 b o (Heap.get?_push_of_some _ e)
  generalize hX' : blkCx X N' scope cl (s2.heap.push { cls := .type "list", dict := none, data := .seq ([] : List Value).toArray }).objs.size { s2 with heap := s2.heap.push { cls := .type "list", dict := none, data := .seq ([] : List Value).toArray } } (upd H2 s2.heap.objs.size (.lst [])) fp = X' at J4
  have eP : X'.prog = X.prog := by rw [← hX']; rfl
  have eW : X'.w = X.w := by rw [← hX']; rfl
  have eK : X'.K = X.K := by rw [← hX']; rfl
  have eA : X'.A = X.A := by rw [← hX']; rfl
  have eC : X'.calm = true := by rw [← hX']; exact hc
  have eE : X'.xe = fun _ _ => False := by rw [← hX']; rfl
  have ePn : X'.pn = [] := by rw [← hX']; rfl
  have eN : X'.N.length = X.N.length + m := by
    rw [← hX']; show N'.length = _
    unfold blkOk at hb; rw [Bool.and_eq_true] at hb; exact of_decide_eq_true hb.1
  have eEx : X'.ex = fp := by rw [← hX']; rfl
  have hlenσ : σ.length = X.N.length := I2.len
  -- the block's data
  obtain ⟨hg, hts, he⟩ := hblk cl (s2.heap.push { cls := .type "list", dict := none, data := .seq ([] : List Value).toArray }).objs.size { s2 with heap := s2.heap.push { cls := .type "list", dict := none, data := .seq ([] : List Value).toArray } } (upd H2 s2.heap.objs.size (.lst [])) fp G1 H2 w1 (σ ++ List.replicate m none)
  rw [hX'] at hg hts he
  generalize hC' : blkCn C X.N.length G1 H2 w1 (σ ++ List.replicate m none) = C' at hg hts he
  have c0 : C'.H₀ = H2 := by rw [← hC']; rfl
  have rel0 : Rel X.K C' G1 w1 (ρ1 ++ List.replicate m none) (σ ++ List.replicate m none) (upd H2 s2.heap.objs.size (.lst [])) := by
    have w0 : w1 s2.heap.objs.size = none := by
      cases q : w1 s2.heap.objs.size with
      | none => rfl
      | some k => exact absurd hD (r1.wh _ (by rw [q]; simp))
    have base : Rel X.K C' G1 w1 (ρ1 ++ List.replicate m none) (σ ++ List.replicate m none) H2 := by
      refine ⟨r1.gh, r1.wg, r1.wh, by simp [r1.len], fun i b e => ?_, by rw [← hC']; exact .refl _ _ _, fun i _ => by rw [← hC']; rfl⟩
      have hi' : i < ρ1.length := by
        by_cases hi' : i < ρ1.length
        · exact hi'
        · rw [List.getElem?_append_right (by omega), List.getElem?_replicate] at e
          split at e <;> cases e
      rw [List.getElem?_append_left hi'] at e
      obtain ⟨v, h1, h2⟩ := r1.sl i b e
      exact ⟨v, by rw [List.getElem?_append_left (by rw [← r1.len]; exact hi')]; exact h1, h2⟩
    exact base.upd_new (r1.gh.free hD) w0 (by rw [c0]; exact hD)
  have stat : ∀ {H' : Hp}, (∀ b ∈ fp, H' b = none) → ∀ b ∈ fp, FpOk X' [] H' b := fun hn b hb => by
    have q := J4.ok.exf b (by rw [eEx]; exact hb)
    exact ⟨hn b hb, q.1, J4.ok.exfs b (by rw [eEx]; exact hb), .inl (by rw [eEx]; exact hb), q.2, fun p hp => by rw [ePn] at hp; simp at hp⟩
  -- the loop
  have loop : ∀ s₃ : Shared, s₃ = { s2 with heap := h₁, toks := s2.toks + ([] : List (Str × Value)).length } →
      codeAny (model X.prog X.w) X.A (.compLoop (.ListComp elt [⟨tg, iter, ifs, 0⟩] scope pos) 0 (.ref it) (.ref s2.heap.objs.size) X'.env) (RR (.ref s2.heap.objs.size) (s2.heap.push { cls := .type "list", dict := none, data := .seq ([] : List Value).toArray }).objs.size) s₃ := by
    rintro s₃ rfl
    refine compLoop_gen (fun n s' => ∃ i σ' H' ρ' G' w' ac vs, L2.Inv X' [] σ' H' s' ∧ tn i s'.heap ∧ (∀ b ∈ fp, H' b = none) ∧ n = ds.length - i ∧ i ≤ ds.length ∧ Rel X.K C' G' w' ρ' σ' H' ∧ Same G1 G' ∧
      H' s2.heap.objs.size = some (.lst vs) ∧ G' s2.heap.objs.size = none ∧ w' s2.heap.objs.size = none ∧ Reps X.K G' ac vs ∧ ac.length ≤ i ∧ ∃ z, compD g ft fe (ds.drop i) ρ' = .ok z ∧ ac ++ z.1 = zs ∧ z.2 = ρf) ?_ ds.length
      ⟨0, σ ++ List.replicate m none, _, ρ1 ++ List.replicate m none, G1, w1, [], [], J4, st4, fun b hb => (f3 b hb).1, by simp, Nat.zero_le _, rel0, .refl _, upd_same, r1.gh.free hD, (by
        cases q : w1 s2.heap.objs.size with
        | none => rfl
        | some k => exact absurd hD (r1.wh _ (by rw [q]; simp))), Reps.nil, Nat.zero_le _, (zs, ρf), by simpa using ec, by simp, rfl⟩
    rintro n s' ⟨i, σ', H', ρ', G', w', ac, vs, J5, st5, fr5, rfl, hil, r5, sg5, hd5, gd5, wd5, q5, hac, z, ez, ez1, ez2⟩
    obtain ⟨itgo, itstop⟩ := it1 i G' H' sg5 r5.gh
    by_cases hlt : i < ds.length
    · have ed : ds.drop i = ds[i] :: ds.drop (i + 1) := List.drop_eq_getElem_cons hlt
      obtain ⟨go, yl⟩ := itgo ds[i] (by simp [hlt])
      have hIt := T.item X' eP eW eK eC i [] s' σ' H' (fun _ _ => False) J5 (stat fr5) st5 go
      rw [eA] at hIt
      refine thn hIt fun rr s6 ⟨u, hr, h6⟩ => ?_
      subst hr
      refine thn h6 fun _ s7 ⟨x, H7, J7, rx7, y7, st7, fr7⟩ => ?_
      obtain ⟨G7, gr, rep7⟩ := yl x H7 y7
      have rel7 := r5.grow gr
      have keep7 : G7 s2.heap.objs.size = none ∧ w' s2.heap.objs.size = none ∧ H7 s2.heap.objs.size = some (.lst vs) := (gr.step (w := w')).keep gd5 wd5 hd5
      have J7' := J7.pinned (stat fr7) (T.obj _ _ st7)
      rw [ed] at ez
      unfold compD at ez
      obtain ⟨ρ3, e3, ez⟩ := bind_inv ez
      obtain ⟨t4, e4, ez⟩ := bind_inv ez
      obtain ⟨b4, ρ4⟩ := t4
      have hG := hg ([] ++ pinsAt fp s7.heap) s7 σ' H7 x u (fun σ8 H8 => ∃ G8 w8, Step G7 H7 w' G8 H8 w8 ∧ Rel X'.K C' G8 w8 ρ3 σ8 H8) J7' rx7 ⟨G7, w', ρ', ds[i], by rw [eK]; exact rel7, by rw [eK]; exact rep7, by rw [e3]; exact fun σ8 G8 H8 w8 s8 r8 => ⟨G8, w8, s8, r8⟩⟩
      rw [eP, eW, eA, eE] at hG
      refine thn hG fun _ s8 ⟨σ8, H8, J8, G8, w8, s8s, r8⟩ => ?_
      have keep8 := s8s.keep keep7.1 keep7.2.1 keep7.2.2
      have hT := hts ([] ++ pinsAt fp s7.heap) s8 σ8 H8 (fun b H9 => b = b4 ∧ ∃ G9 w9, Step G8 H8 w8 G9 H9 w9 ∧ Rel X'.K C' G9 w9 ρ4 σ8 H9) J8 ⟨G8, w8, ρ3, r8, by rw [e4]; exact fun G9 H9 w9 s9 r9 => ⟨rfl, G9, w9, s9, r9⟩⟩
      rw [eP, eW, eA, eE] at hT
      refine thn hT fun ok s9 ⟨H9, J9, eok, G9, w9, s9s, r9⟩ => ?_
      subst eok
      have keep9 := s9s.keep keep8.1 keep8.2.1 keep8.2.2
      have sG9 : Same G1 G9 := ((sg5.trans gr.g).trans s8s.g).trans s9s.g
      -- what stays of the iterator
      have after : ∀ {σa : L2.St} {Ha : Hp} {sa : Shared}, L2.Inv X' ([] ++ pinsAt fp s7.heap) σa Ha sa → tn (i + 1) sa.heap ∧ ∀ b ∈ fp, Ha b = none := fun {σa Ha sa} Ja =>
        ⟨T.keep _ _ _ st7 fun b hb o e => (Ja.pin (b, o) (List.mem_append_right _ (List.mem_append_right _ (mem_pinsAt hb e)))).1, fun b hb => by
          obtain ⟨o, e, _⟩ := T.obj _ _ st7 b hb
          exact (Ja.pin (b, o) (List.mem_append_right _ (List.mem_append_right _ (mem_pinsAt hb e)))).2.1⟩
      cases ok with
      | false =>
        rw [if_neg Bool.false_ne_true]
        simp only [Bool.false_eq_true, if_false] at ez
        obtain ⟨k1, k2⟩ := after J9
        exact ⟨ds.length - (i + 1), by omega, i + 1, σ8, H9, ρ4, G9, w9, ac, vs, J9.unpinned, k1, k2, rfl, hlt, by rw [← eK]; exact r9, sG9, keep9.2.2, keep9.1, keep9.2.1, q5.same (((gr.g).trans s8s.g).trans s9s.g), by omega, z, ez, ez1, ez2⟩
      | true =>
        rw [if_pos rfl]
        simp only [if_true] at ez
        obtain ⟨y10, e10, ez⟩ := bind_inv ez
        obtain ⟨yd, ρ10⟩ := y10
        obtain ⟨z', ez', ez3⟩ := bind_inv ez
        have hEl := he ([] ++ pinsAt fp s7.heap) s9 σ8 H9 (fun v H10 => ∃ G10 w10, Step G9 H9 w9 G10 H10 w10 ∧ Rel X'.K C' G10 w10 ρ10 σ8 H10 ∧ Rep X'.K G10 yd v) J9 ⟨G9, w9, ρ4, r9, by rw [e10]; exact fun v G10 H10 w10 s10 r10 q10 => ⟨G10, w10, s10, r10, q10⟩⟩
        rw [eP, eW, eA, eE] at hEl
        refine thn hEl fun xv s10 ⟨vy, H10, J10, ry, G10, w10, s10s, r10, q10⟩ => ?_
        have keep10 := s10s.keep keep9.1 keep9.2.1 keep9.2.2
        have hAp := mt_append (X := X') ([] ++ pinsAt fp s7.heap) s10 σ8 H10 (.ref s2.heap.objs.size) [vy] (.ref s2.heap.objs.size) [xv] (fun v H11 => H11 = upd H10 s2.heap.objs.size (.lst (vs ++ [vy]))) J10 rfl (.cons ry .nil)
          ⟨s2.heap.objs.size, vs, vy, rfl, rfl, keep10.2.2, by
            have := q5.length
            have := fits_le hfi
            omega, rfl⟩
        rw [eP, eW, eA, eE] at hAp
        refine thn hAp fun _ s11 ⟨v11, H11, J11, _, e11⟩ => ?_
        subst e11
        obtain ⟨k1, k2⟩ := after J11
        have rel11 : Rel X.K C' G10 w10 ρ10 σ8 (upd H10 s2.heap.objs.size (.lst (vs ++ [vy]))) := by
          rw [← eK]
          exact r10.upd_new keep10.1 keep10.2.1 (by rw [c0]; exact hD)
        cases ez3
        refine ⟨ds.length - (i + 1), by omega, i + 1, σ8, _, ρ10, G10, w10, ac ++ [yd], vs ++ [vy], J11.unpinned, k1, k2, rfl, hlt, rel11, sG9.trans s10s.g, upd_same, keep10.1, keep10.2.1, (q5.same ((((gr.g).trans s8s.g).trans s9s.g).trans s10s.g)).append (Reps.cons (by rw [← eK]; exact q10) Reps.nil), by simp; omega, z', ez', by rw [← ez1]; simp, ez2⟩
    · have e : i = ds.length := by omega
      subst e
      have hDn := T.done X' eP eW eK eC ds.length [] s' σ' H' (fun _ _ => False) J5 (stat fr5) st5 (itstop (Nat.le_refl _))
      rw [eA] at hDn
      refine thn hDn fun rr s6 ⟨hr, J6⟩ => ?_
      subst hr
      simp only [List.drop_length] at ez
      unfold compD at ez
      cases ez
      obtain ⟨m6, hn6, _⟩ := id J6.loc
      have eL : X'.env.locals = (s2.heap.push { cls := .type "list", dict := none, data := .seq ([] : List Value).toArray }).objs.size := by rw [← hX']; rfl
      rw [eL] at hn6
      have frL : H' (s2.heap.push { cls := .type "list", dict := none, data := .seq ([] : List Value).toArray }).objs.size = none := by rw [← eL]; exact J6.free
      rw [← hX'] at J6
      have IX : L2.Inv X pins σ H' s6 := blk_end (h' := s6.heap) I3 f3 (Nat.le_refl _) J6 ⟨rfl, fun _ _ => rfl⟩
      simp only [List.append_nil] at ez1
      subst ez1
      subst ez2
      have hLs : ∀ b o, (s2.heap.push { cls := .type "list", dict := none, data := .seq ([] : List Value).toArray }).get? b = some o → (s2.heap.push { cls := .type "list", dict := none, data := .seq ([] : List Value).toArray }).objs.size ≠ b := fun b o e z => absurd (Heap.lt_size e) (by rw [z]; exact Nat.lt_irrefl _)
      have lo : LetOk X pins H' (s2.heap.push { cls := .type "list", dict := none, data := .seq ([] : List Value).toArray }).objs.size s6 := by
        refine ⟨frL, fun z => ?_, .inr I3.sz, fun x c e z => ?_, fun p hp z => ?_, m6, hn6⟩
        · exact absurd I3.lt (by rw [← z]; exact Nat.lt_irrefl _)
        · obtain ⟨v, q⟩ := I3.cell x c e
          exact absurd q.lt (by rw [z]; exact Nat.lt_irrefl _)
        · exact hLs p.1 p.2 (I3.pin p hp).1 z.symm
      have cG : C'.G₀ = G1 := by rw [← hC']; rfl
      have cw : C'.w₀ = w1 := by rw [← hC']; rfl
      have en' : Step G1 H2 w1 G' H' w' := by have := r5.en; rw [cG, c0, cw] at this; exact this
      have hρlen : ρ'.length = X.N.length + m := by
        rw [r5.len, J5.len, eN]
      refine fin _ _ s6 vs G' H' w' IX lo en' ⟨r5.gh, r5.wg, r5.wh, ?_, fun i b e => ?_, r1.en.trans en', r1.pin⟩ hD hd5 gd5 wd5 q5
      · rw [List.length_take, hρlen, r1.len, hlenσ]; omega
      · have hi' : i < ρ1.length := by
          by_cases hi' : i < ρ1.length
          · exact hi'
          · rw [List.getElem?_eq_none (by rw [List.length_take]; omega)] at e; cases e
        rw [List.getElem?_take_of_lt hi'] at e
        obtain ⟨v, h1, h2⟩ := r5.sl i b e
        refine ⟨v, ?_, h2⟩
        have hpi := r5.pin i (by rw [← hC']; exact List.mem_range.mpr (by rw [← hlenσ, ← r1.len]; exact hi'))
        rw [h1] at hpi
        rw [← hC'] at hpi
        have hpi' : some (some v) = (σ ++ List.replicate m none)[i]? := hpi
        rw [List.getElem?_append_left (by rw [← r1.len]; exact hi')] at hpi'
        exact hpi'.symm
  have envEq : X'.env = compEnvC scope cl (s2.heap.push { cls := .type "list", dict := none, data := .seq ([] : List Value).toArray }).objs.size X.env := by rw [← hX']; rfl
  rw [envEq] at loop
  exact codeAny_compStart_list (loop _ rfl) (T.self X.A 0 _ _ _ st4 (loop _ rfl))
theorem jn_comp {tg iter elt : Expr} {ifs : List Expr} {scope : Scope} {pos : Pos} {N' : List Str} {m : Nat} {fi : DA} {g : DG} {ft : DT} {fe : De} (hi : JI X C tg iter fi) (hc : X.calm = true) (hb : blkOk X.N N' scope.names m = true)
    (hkind : scope.kind = .function) (hcell : ∀ y ∈ scope.names, y.2 ≠ .cell) (hfr : ∀ y ∈ scope.names, y.2 = .free → X.env.kindOf y.1 = some .cell ∨ X.env.kindOf y.1 = some .free) (hnames : ∀ y ∈ scope.names, y.2 = .local → scope.names.lookup y.1 = some .local)
    (hblk : ∀ cl L s H fp G H' w σ, JG (blkCx X N' scope cl L s H fp) (blkCn C X.N.length G H' w σ) tg g ∧ JTs (blkCx X N' scope cl L s H fp) (blkCn C X.N.length G H' w σ) ifs ft ∧ JE (blkCx X N' scope cl L s H fp) (blkCn C X.N.length G H' w σ) elt fe)
    (hs : ∀ x, foldedSetIterable iter X.env x = pure x := by intro _; rfl) : JN X C (.ListComp elt [⟨tg, iter, ifs, 0⟩] scope pos) (dComp fi g ft fe m) := by
  intro pins s σ H Q I ⟨G, w, ρ, r, p⟩
  rw [eval_ListComp]
  obtain ⟨cl, hclos, hcl, hcf⟩ := closure_ok (scope := scope) (env := X.env) fun y hy hf => I.ok.has y.1 (hfr y hy hf)
  refine wpAny_comprehension_free (use := none) rfl hs hclos hkind hnames ?_
  refine thn (hi pins s σ H (fun J H2 => ∃ ds ρ1 G1 w1 zs ρf, Rel X.K C G1 w1 ρ1 σ H2 ∧ ItOk X.K J G1 ds ∧ fits ds = true ∧ compD g ft fe ds (ρ1 ++ List.replicate m none) = .ok (zs, ρf) ∧ kN X.K C σ Q G1 H2 w1 (zs, ρf.take ρ1.length)) I ?_) fun v s1 h1 => thn h1 fun itv s2 h2 => ?_
  · refine seqI (κ := fun G H w => kN X.K C σ Q G H w) stp_N r p fun ds ρ1 J G1 H1 w1 r1 st1 it1 p1 => ?_
    dsimp only at p1
    split at p1
    · rename_i hfi
      split at p1
      · rename_i z ez
        exact ⟨ds, ρ1, G1, w1, z.1, z.2, r1, it1, hfi, ez, p1⟩
      · exact p1.elim
    · exact p1.elim
  obtain ⟨it, fp, tn, J, H2, rfl, I2, T, st2, f2, ds, ρ1, G1, w1, zs, ρf, r1, it1, hfi, ec, kk⟩ := h2
  refine comp_core (RR := fun acc C => compPost (model X.prog X.w) X.A X.xe none (EP X pins σ Q) acc C) hc hb hkind hcell hfr hblk hcl hcf I2 T st2 f2 r1 it1 hfi ec fun D L s' vs G' H' w' I' lo st rel h0 h1 h2 h3 q => ?_
  obtain ⟨mm, hn⟩ := lo.ns
  refine ⟨mm, hn, fun h' hsb => ⟨.ref D, H', ?_, rfl, kk D vs G' H' w' st rel h0 h1 h2 h3 q⟩⟩
  exact I'.turned (t' := s'.toks) (fun b o hb e => (hsb.2 b hb).trans e) lo.fr lo.nl lo.nw lo.nc lo.np
/-- x = [ .. ] -/
theorem set_comp {tg iter elt : Expr} {ifs : List Expr} {scope : Scope} {pos spos : Pos} {N' : List Str} {m i : Nat} {x : Str} {px : Pos} {fi : DA} {g : DG} {ft : DT} {fe : De} {fs : List Dt × Ev → R (Fl × Ev)} (hi : JI X C tg iter fi) (hc : X.calm = true) (hb : blkOk X.N N' scope.names m = true)
    (hkind : scope.kind = .function) (hcell : ∀ y ∈ scope.names, y.2 ≠ .cell) (hfr : ∀ y ∈ scope.names, y.2 = .free → X.env.kindOf y.1 = some .cell ∨ X.env.kindOf y.1 = some .free) (hnames : ∀ y ∈ scope.names, y.2 = .local → scope.names.lookup y.1 = some .local)
    (hblk : ∀ cl L s H fp G H' w σ, JG (blkCx X N' scope cl L s H fp) (blkCn C X.N.length G H' w σ) tg g ∧ JTs (blkCx X N' scope cl L s H fp) (blkCn C X.N.length G H' w σ) ifs ft ∧ JE (blkCx X N' scope cl L s H fp) (blkCn C X.N.length G H' w σ) elt fe)
    (hN : X.N.Nodup) (hix : X.N[i]? = some x) (hx : Loc X.env.scope x) (hsw : swapsWith (.ListComp elt [⟨tg, iter, ifs, 0⟩] scope pos) (some (.Name x px)) spos.line X.env = pure true) (hf : X.fn x = true ∨ X.env.scope.names.lookup x = some .local)
    (hfs : ∀ (D : Ends) (G1 H2 G' H' : Hp) (w1 w' : Wn) (σ : L2.St) (p : Addr) (zs : List Dt) (vs : List V) (ρf : Ev), Post C.ex (kS X.K C D G1 H2 w1) (fs (zs, ρf)) → Step G1 H2 w1 G' H' w' → Rel X.K C G' w' ρf σ H' → H2 p = none → H' p = some (.lst vs) → G' p = none → w' p = none → Reps X.K G' zs vs → C.H₀ p = none → D.nx (σ.set i (some (.ref p))) H')
    (hs : ∀ x, foldedSetIterable iter X.env x = pure x := by intro _; rfl) : JS X C (.Assign [.Name x px] (.ListComp elt [⟨tg, iter, ifs, 0⟩] scope pos) spos) (fun ρ => (dComp fi g ft fe m ρ).bind fs) := by
  intro pins s σ H D I ⟨G, w, ρ, r, p⟩
  obtain ⟨cl, hclos, hcl, hcf⟩ := closure_ok (scope := scope) (env := X.env) fun y hy hf => I.ok.has y.1 (hfr y hy hf)
  rw [exec_Assign_Name_used _ _ _ _ hsw]
  refine wpAny_bind (wpAny_standAt (wpAny_bind ?_))
  show wpAny _ X.A (do let _ ← comprehension (.ListComp elt [⟨tg, iter, ifs, 0⟩] scope pos) scope X.env _ (newList []) false (eval iter X.env) (some (assign (.Name x px) X.env))) _ _ s
  refine wpAny_bind (wpAny_mono (wpAny_comprehension_free (use := some (assign (.Name x px) X.env)) (Q := fun _ s' => SP X pins D .next s') rfl hs hclos hkind hnames ?_) (fun _ s' hq => wpAny_pure (wpAny_pure hq)) fun _ _ e => e)
  refine thn (hi pins s σ H (fun J H2 => ∃ ds ρ1 G1 w1 zs ρf, Rel X.K C G1 w1 ρ1 σ H2 ∧ ItOk X.K J G1 ds ∧ fits ds = true ∧ compD g ft fe ds (ρ1 ++ List.replicate m none) = .ok (zs, ρf) ∧ Post C.ex (kS X.K C D G1 H2 w1) (fs (zs, ρf.take ρ1.length))) I ?_) fun v s1 h1 => thn h1 fun itv s2 h2 => ?_
  · have p' : Post C.ex (kS X.K C D G H w) ((fi ρ).bind fun a => ((if fits a.1 = true then match compD g ft fe a.1 (a.2 ++ List.replicate m none) with
      | .ok z => .ok (z.1, z.2.take a.2.length)
      | _ => .no
      else .no : R (List Dt × Ev))).bind fs) := by
      rw [← R.bind_assoc]
      exact p
    refine seqI (κ := fun G H w => kS X.K C D G H w) stp_S r p' fun ds ρ1 J G1 H1 w1 r1 st1 it1 p1 => ?_
    dsimp only at p1
    split at p1
    · rename_i hfi
      split at p1
      · rename_i z ez
        exact ⟨ds, ρ1, G1, w1, z.1, z.2, r1, it1, hfi, ez, p1⟩
      · exact False.elim p1
    · exact False.elim p1
  obtain ⟨it, fp, tn, J, H2, rfl, I2, T, st2, f2, ds, ρ1, G1, w1, zs, ρf, r1, it1, hfi, ec, kk⟩ := h2
  refine comp_core (RR := fun acc C => compPost (model X.prog X.w) X.A X.xe (some (assign (.Name x px) X.env)) (fun _ s' => SP X pins D .next s') acc C) hc hb hkind hcell hfr hblk hcl hcf I2 T st2 f2 r1 it1 hfi ec fun Da L s' vs G' H' w' I' lo st rel h0 h1 h2 h3 q => ?_
  show wpAny _ X.A (assign (.Name x px) X.env (.ref Da)) _ _ _
  refine wpAny_assign_Name (store_ok2 I' hN hix hx (v := .ref Da) rfl (fun s'' I'' hch => ?_) hf)
  obtain ⟨mm, hn⟩ := lo.ns
  obtain ⟨a, sb, ha⟩ := hch
  have hLa : L ≠ a := by
    rcases ha with z | z
    · rw [z]; exact lo.nl
    · exact fun y => lo.nc x a z y.symm
  refine ⟨mm, hn.sameBut sb hLa, fun h' hsb => ⟨σ.set i (some (.ref Da)), H', ?_, hfs D G1 H2 G' H' w1 w' σ Da zs vs _ kk st rel h0 h1 h2 h3 q (r1.en.k Da h0)⟩⟩
  exact I''.turned (t' := s''.toks) (fun b o hb e => (hsb.2 b hb).trans e) lo.fr lo.nl lo.nw lo.nc lo.np
theorem js_setComp {tg iter elt : Expr} {ifs : List Expr} {scope : Scope} {pos spos : Pos} {N' : List Str} {m i : Nat} {x : Str} {px : Pos} {fi : DA} {g : DG} {ft : DT} {fe : De} (hN : X.N.Nodup) (hix : X.N[i]? = some x) (hx : Loc X.env.scope x) (hp : i ∉ C.pp) (hi : JI X C tg iter fi) (hc : X.calm = true) (hb : blkOk X.N N' scope.names m = true)
    (hkind : scope.kind = .function) (hcell : ∀ y ∈ scope.names, y.2 ≠ .cell) (hfr : ∀ y ∈ scope.names, y.2 = .free → X.env.kindOf y.1 = some .cell ∨ X.env.kindOf y.1 = some .free) (hnames : ∀ y ∈ scope.names, y.2 = .local → scope.names.lookup y.1 = some .local)
    (hblk : ∀ cl L s H fp G H' w σ, JG (blkCx X N' scope cl L s H fp) (blkCn C X.N.length G H' w σ) tg g ∧ JTs (blkCx X N' scope cl L s H fp) (blkCn C X.N.length G H' w σ) ifs ft ∧ JE (blkCx X N' scope cl L s H fp) (blkCn C X.N.length G H' w σ) elt fe)
    (hsw : swapsWith (.ListComp elt [⟨tg, iter, ifs, 0⟩] scope pos) (some (.Name x px)) spos.line X.env = pure true := by rfl) (hf : X.fn x = true ∨ X.env.scope.names.lookup x = some .local := by first | exact .inl rfl | exact .inr rfl | assumption)
    (hs : ∀ x, foldedSetIterable iter X.env x = pure x := by intro _; rfl) : JS X C (.Assign [.Name x px] (.ListComp elt [⟨tg, iter, ifs, 0⟩] scope pos) spos) (dSet i (dFz (dComp fi g ft fe m))) := by
  have h := set_comp (fs := fun a => if i < a.2.length then .ok (.nx, a.2.set i (some (.val (.lst a.1)))) else .no) hi hc hb hkind hcell hfr hnames hblk hN hix hx hsw hf (fun D G1 H2 G' H' w1 w' σ p zs vs ρf po st rel h0 h1 h2 h3 q h4 => ?_) hs
  · refine PS.weak h fun D σ H t => ?_
    obtain ⟨G, w, ρ, r, p⟩ := t
    refine ⟨G, w, ρ, r, ?_⟩
    unfold dSet dFz at p
    rw [R.bind_assoc] at p
    exact p
  · by_cases hl : i < ρf.length
    · simp only [hl, if_true] at po
      obtain ⟨r', s'⟩ := rel.know h1 h2 h3 H2 G1 w1 st h0 (.inl h4)
      have sg : Same G' (upd G' p (.lst vs)) := fun b u e => by rw [upd_ne (ne_of_none e h2)]; exact e
      exact po _ _ _ _ s' (r'.setVal hl hp (by unfold Rep; exact ⟨p, vs, rfl, upd_same, q.same sg⟩))
    · simp only [hl, if_false] at po; exact False.elim po
end
end PV
end
section
set_option Elab.async false
set_option linter.all false
set_option maxRecDepth 100000
namespace PV
open PySem PySem.Spec L2
section
variable {X : Cx} {C : Cn} {a b c e : Expr} {fa fb fc : De} {pos : Pos}
/-! ### a op b op c -/
theorem chain_read {r r' : R2} {g g' : Dt → Dt → R Dt} {σ : L2.St} {H : Hp} {Q : VK} (h2 : Op2 X.K r g) (he : NoEr g) (h2' : Op2 X.K r' g') (he' : NoEr g') (h : tE X.K C (dChain g g' fa fb fc) σ H Q) : tChain r r' (tE X.K C fa) (tE X.K C fb) (tE X.K C fc) σ H Q := by
  obtain ⟨G, w, ρ, rr, p⟩ := h
  refine seqE (κ := fun G H w => kE X.K C σ Q G H w) stp_E rr p fun d ρ1 v G1 H1 w1 r1 s1 q1 p1 => ?_
  refine seqE (κ := fun G H w => kE X.K C σ Q G H w) stp_E r1 p1 fun d2 ρ2 v2 G2 H2 w2 r2 s2 q2 p2 => ?_
  dsimp only at p2
  cases e : g d d2 with
  | ok z =>
    simp only [e, R.bind_ok] at p2
    refine h2 G2 H2 v v2 d d2 z _ r2.gh (q1.same s2.g) q2 e fun v3 G3 H3 gr q3 => ?_
    have p3 := Post.step (κ := fun G H w => kE X.K C σ Q G H w) stp_E gr.step (w1 := w2) p2
    have r3 := r2.grow gr
    cases z with
    | bl k =>
      refine ⟨k, rep_bl q3, ?_⟩
      cases k with
      | false => exact iteF (p3 _ G3 H3 w2 (.refl _ _ _) r3 (rep_is_bl _))
      | true =>
        refine iteT ?_
        refine seqE (κ := fun G H w => kE X.K C σ Q G H w) stp_E r3 p3 fun d4 ρ4 v4 G4 H4 w4 r4 s4 q4 p4 => ?_
        dsimp only at p4
        cases e' : g' d2 d4 with
        | ok z' =>
          simp only [e', R.bind_ok] at p4
          exact h2' G4 H4 v2 v4 d2 d4 z' Q r4.gh ((q2.same gr.g).same s4.g) q4 e' fun v5 G5 H5 gr5 q5 => p4 v5 G5 H5 w4 gr5.step (r4.grow gr5) q5
        | er n => exact absurd e' (he' _ _ _)
        | no => simp only [e', R.bind_no] at p4; exact p4.elim
    | _ => exact False.elim p3
  | er n => exact absurd e (he _ _ _)
  | no => simp only [e, R.bind_no] at p2; exact p2.elim
theorem je_chain {op op' : CmpOp} {r r' : R2} {g g' : Dt → Dt → R Dt} (ho : OpR X (compareOp op) r) (h2 : Op2 X.K r g) (hn : NoEr g) (ho' : OpR X (compareOp op') r') (h2' : Op2 X.K r' g') (hn' : NoEr g') (ha : JE X C a fa) (hb : JE X C b fb) (hc : JE X C c fc)
    (hm : lastMarks [op, op'] [b, c] = false := by with_unfolding_all rfl) : JE X C (.Compare a [op, op'] [b, c] pos) (dChain g g' fa fb fc) := PE.weak (pe_chain ho ho' ha hb hc hm) fun σ H Q h => chain_read h2 hn h2' hn' h
/-! ### cuts -/
noncomputable def kO (K : PySem.W.Frag) (C : Cn) (σ : L2.St) (Q : Option Int → Hp → Prop) (G H : Hp) (w : Wn) (a : Option Int × Ev) : Prop :=
  ∀ G' H' w', Step G H w G' H' w' → Rel K C G' w' a.2 σ H' → Q a.1 H'
noncomputable abbrev DO := Ev → R (Option Int × Ev)
noncomputable def tOd (K : PySem.W.Frag) (C : Cn) (f : DO) : TO := fun σ H Q => ∃ G w ρ, Rel K C G w ρ σ H ∧ Post C.ex (kO K C σ Q G H w) (f ρ)
noncomputable abbrev JO (X : Cx) (C : Cn) (e : Option Expr) (f : DO) : Prop := PO X e (tOd X.K C f)
theorem PO.weak {e : Option Expr} {t t' : TO} (h : PO X e t) (k : ∀ σ H Q, t' σ H Q → t σ H Q) : PO X e t' := fun pins s σ H Q I q => h pins s σ H Q I (k σ H Q q)
noncomputable def dO0 : DO := fun ρ => .ok (none, ρ)
noncomputable def dO1 (fa : De) : DO := fun ρ => (fa ρ).bind fun a => match a.1 with
  | .int i => .ok (some i, a.2)
  | _ => .no
theorem stp_O {K : PySem.W.Frag} {σ : L2.St} {Q : Option Int → Hp → Prop} : Stp (fun G H w => kO K C σ Q G H w) := fun _ _ _ _ _ _ _ s k G' H' w' s' => k G' H' w' (s.trans s')
theorem jo_none : JO X C none dO0 := PO.weak po_none fun σ H Q ⟨G, w, ρ, r, p⟩ => p G H w (.refl _ _ _) r
theorem jo_some (h : JE X C a fa) : JO X C (some a) (dO1 fa) := PO.weak (po_some h) fun σ H Q ⟨G, w, ρ, r, p⟩ => by
  refine seqE (κ := fun G H w => kO X.K C σ Q G H w) stp_O r p fun d ρ1 v G1 H1 w1 r1 s1 q1 p1 => ?_
  cases d with
  | int i => exact ⟨i, rep_int q1, p1 G1 H1 w1 (.refl _ _ _) r1⟩
  | _ => exact p1.elim
theorem seqO {K : PySem.W.Frag} {σ : L2.St} {α : Type} {κ : Kont α} (st : Stp κ) {G H : Hp} {w : Wn} {ρ : Ev} {fa : DO} {g : Option Int × Ev → R α} {Q : Option Int → Hp → Prop} (r : Rel K C G w ρ σ H) (p : Post C.ex (κ G H w) ((fa ρ).bind g))
    (k : ∀ o ρ1 G1 H1 w1, Rel K C G1 w1 ρ1 σ H1 → Step G H w G1 H1 w1 → Post C.ex (κ G1 H1 w1) (g (o, ρ1)) → Q o H1) : tOd K C fa σ H Q := by
  refine ⟨G, w, ρ, r, ?_⟩
  cases e : fa ρ with
  | ok a =>
    rw [e] at p
    intro G' H' w' s' r'
    exact k a.1 a.2 G' H' w' r' s' (Post.step st s' p)
  | er n => rw [e] at p; exact p
  | no => rw [e] at p; exact p
noncomputable def cutD {α : Type} (xs : List α) (lo hi : Option Int) : List α := (xs.drop (HT.sIx xs.length 0 lo)).take (HT.sIx xs.length xs.length hi - HT.sIx xs.length 0 lo)
theorem reps_cut {K : PySem.W.Frag} {G : Hp} {ds : List Dt} {vs : List V} (h : Reps K G ds vs) (lo hi : Option Int) : Reps K G (cutD ds lo hi) (cutV vs lo hi) := by
  unfold cutD cutV
  rw [← h.length]
  exact (h.drop _).take _
noncomputable def dCut (fa : De) (fl fh : DO) : DN := fun ρ => (fa ρ).bind fun a => (fl a.2).bind fun l => (fh l.2).bind fun h => match a.1 with
  | .lst ds => .ok (cutD ds l.1 h.1, h.2)
  | _ => .no
theorem w_fresh {K : PySem.W.Frag} {σ : L2.St} {G H : Hp} {w : Wn} {ρ : Ev} {p : Addr} (r : Rel K C G w ρ σ H) (hp : H p = none) : w p = none := by
  cases z : w p with
  | none => rfl
  | some k => exact absurd hp (r.wh p (by rw [z]; simp))
theorem jn_cut {lo hi : Option Expr} {fl fh : DO} {p2 : Pos} (ha : JE X C a fa) (hl : JO X C lo fl) (hh : JO X C hi fh) : JN X C (.Subscript a (.Slice lo hi none p2) pos) (dCut fa fl fh) :=
  PE.weak (pe_slice sl_list ha hl hh) fun σ H Q ⟨G, w, ρ, r, p⟩ => by
    refine seqE (κ := fun G H w => kN X.K C σ Q G H w) stp_N r p fun d ρ1 v G1 H1 w1 r1 s1 q1 p1 => ?_
    refine seqO (κ := fun G H w => kN X.K C σ Q G H w) stp_N r1 p1 fun l ρ2 G2 H2 w2 r2 s2 p2 => ?_
    refine seqO (κ := fun G H w => kN X.K C σ Q G H w) stp_N r2 p2 fun h ρ3 G3 H3 w3 r3 s3 p3 => ?_
    cases d with
    | lst ds =>
      obtain ⟨ad, vs, rfl, h1, h2⟩ := rep_lst (q1.same (s2.g.trans s3.g))
      refine ⟨ad, vs, rfl, SqL.of (r3.gh _ _ h1), fun p hp => ?_⟩
      have gr : Grow G3 H3 G3 (upd H3 p (.lst (cutV vs l h))) := .newH r3.gh hp
      exact p3 p _ G3 _ w3 gr.step (r3.grow gr) hp upd_same (r3.gh.free hp) (w_fresh r3 hp) (reps_cut h2 l h)
    | _ => exact p3.elim
/-! ### xs[::-1] -/
end
end PV
end
section
set_option Elab.async false
set_option linter.all false
set_option maxRecDepth 100000
namespace PV
open PySem PySem.Spec L2
/-- a def of the text, by what it does -/
structure Dfn (nw : Bool) (P : Program) (w : World) (K : PySem.W.Frag) (mg : Str → Option Value) (base : Heap) (CX : CXT) (xv : Nat → Value) (k : Nat) (x : Str) (ks : List Bool) (F : FD) : Prop where
  ex : ∃ (f : Addr) (fd : FuncData) (ps : List Str), FnOk P w K mg base CX k f fd ps (spOf nw K xv ks F) ∧ mg x = some (.ref f) ∧ PySem.W.keepIn K (.ref f) = true ∧ Binds K fd ps [] ∧ ∀ bs, F bs ≠ .no → kinds bs = ks
theorem Dfn.mono {nw : Bool} {P : Program} {w : World} {K : PySem.W.Frag} {mg : Str → Option Value} {base : Heap} {CX : CXT} {xv : Nat → Value} {k k' : Nat} {x : Str} {ks : List Bool} {F : FD} (D : Dfn nw P w K mg base CX xv k x ks F) (h : k ≤ k') : Dfn nw P w K mg base CX xv k' x ks F := by
  obtain ⟨f, fd, ps, h1, h2⟩ := D.ex
  exact ⟨f, fd, ps, h1.mono h, h2⟩
section
variable {X : Cx} {C : Cn} {CX : CXT} {k k' : Nat} {ks : List Bool} {Fd : FD} {x : Str} {p pos : Pos} {e : Expr} {es : List Expr} {far : DAr}
theorem je_fn (D : Dfn false X.prog X.w X.K X.mg X.base CX C.xv k x ks Fd) (hr : Room k' X.A) (hk : k ≤ k') (hx : Passes CX X (EXc C)) (ha : JAr X C (e :: es) far) (hg : Gl X x := by rfl) (hdb : (x == ("__debug__" : Str)) = false := by decide) (he : starEach (e :: es) X.env = (false, eval e X.env) :: starEach es X.env := by rfl)
    (hpl : (backTo pos (starEach es X.env)).any (·.1) = false := by rfl) : JE X C (.Call (.Name x p) (e :: es) [] pos) (dCall Fd far) := by
  obtain ⟨f, fd, ps, h1, h2, h3, h4, h5⟩ := D.ex
  exact je_call h1 (hr.mono hk) hg h2 h3 h4 hx h5 ha hdb he hpl
end
section
variable {X : Cx} {C : Cn} {CX : CXT} {k k' : Nat} {ks : List Bool} {Fd : FD} {x : Str} {p pos : Pos} {e : Expr} {es : List Expr} {far : DAr}
theorem jn_fn (D : Dfn true X.prog X.w X.K X.mg X.base CX C.xv k x ks Fd) (hr : Room k' X.A) (hk : k ≤ k') (hx : Passes CX X (EXc C)) (ha : JAr X C (e :: es) far) (hg : Gl X x := by rfl) (hdb : (x == ("__debug__" : Str)) = false := by decide) (he : starEach (e :: es) X.env = (false, eval e X.env) :: starEach es X.env := by rfl)
    (hpl : (backTo pos (starEach es X.env)).any (·.1) = false := by rfl) : JN X C (.Call (.Name x p) (e :: es) [] pos) (dCallN Fd far) := by
  obtain ⟨f, fd, ps, h1, h2, h3, h4, h5⟩ := D.ex
  exact jn_call h1 (hr.mono hk) hg h2 h3 h4 hx h5 ha hdb he hpl
end
noncomputable def dNo : DS := fun _ => .no
theorem js_never {X : Cx} {C : Cn} {st : Stmt} : JS X C st dNo := fun _ _ _ _ _ _ ⟨_, _, _, _, p⟩ => p.elim
end PV
end
section
set_option Elab.async false
set_option linter.all false
set_option maxRecDepth 100000
namespace PV
open PySem PySem.Spec L2
section
variable {X : Cx} {C : Cn} {a b c e : Expr} {fa fb fc : De} {pos : Pos}
/-! ### a + b of lists, a list of one's own -/
noncomputable def dCat (fa fb : De) : DN := fun ρ => (fa ρ).bind fun a => (fb a.2).bind fun b => match a.1, b.1 with
  | .lst x, .lst y => if x.length + y.length ≤ 16777216 then .ok (x ++ y, b.2) else .no
  | _, _ => .no
theorem jn_cat (ha : JE X C a fa) (hb : JE X C b fb) : JN X C (.BinOp a .Add b pos) (dCat fa fb) := PE.weak (pe_op op_cat ha hb) fun σ H Q ⟨G, w, ρ, r, p⟩ => by
  refine seqE (κ := fun G H w => kN X.K C σ Q G H w) stp_N r p fun d ρ1 v G1 H1 w1 r1 s1 q1 p1 => ?_
  refine seqE (κ := fun G H w => kN X.K C σ Q G H w) stp_N r1 p1 fun d2 ρ2 v2 G2 H2 w2 r2 s2 q2 p2 => ?_
  dsimp only at p2
  split at p2
  · rename_i x y
    split at p2
    · rename_i hl
      obtain ⟨ad, vs, rfl, h1, h2⟩ := rep_lst (q1.same s2.g)
      obtain ⟨bd, us, rfl, h3, h4⟩ := rep_lst q2
      refine ⟨ad, bd, vs, us, rfl, rfl, r2.gh _ _ h1, r2.gh _ _ h3, by rw [← h2.length, ← h4.length, line24]; exact hl, fun p hp => ?_⟩
      have gr : Grow G2 H2 G2 (upd H2 p (.lst (vs ++ us))) := .newH r2.gh hp
      exact p2 p _ G2 _ w2 gr.step (r2.grow gr) hp upd_same (r2.gh.free hp) (w_fresh r2 hp) (h2.append h4)
    · exact p2.elim
  · exact p2.elim
/-- [x] * n -/
noncomputable def dRep (fa fb : De) : DN := fun ρ => (fa ρ).bind fun a => (fb a.2).bind fun b => match a.1, b.1 with
  | .lst x, .int k => if mid62 k = true ∧ x.length * k.toNat ≤ 16777216 then .ok ((List.replicate k.toNat x).flatten, b.2) else .no
  | _, _ => .no
theorem reps_rep {K : PySem.W.Frag} {G : Hp} {ds : List Dt} {vs : List V} (h : Reps K G ds vs) : ∀ k : Nat, Reps K G (List.replicate k ds).flatten (List.replicate k vs).flatten
  | 0 => by simpa using Reps.nil
  | k + 1 => by
    rw [List.replicate_succ, List.replicate_succ, List.flatten_cons, List.flatten_cons]
    exact h.append (reps_rep h k)
theorem jn_rep (ha : JE X C a fa) (hb : JE X C b fb) : JN X C (.BinOp a .Mult b pos) (dRep fa fb) := PE.weak (pe_op op_rep ha hb) fun σ H Q ⟨G, w, ρ, r, p⟩ => by
  refine seqE (κ := fun G H w => kN X.K C σ Q G H w) stp_N r p fun d ρ1 v G1 H1 w1 r1 s1 q1 p1 => ?_
  refine seqE (κ := fun G H w => kN X.K C σ Q G H w) stp_N r1 p1 fun d2 ρ2 v2 G2 H2 w2 r2 s2 q2 p2 => ?_
  dsimp only at p2
  split at p2
  · rename_i x k
    split at p2
    · rename_i hl
      obtain ⟨ad, vs, rfl, h1, h2⟩ := rep_lst (q1.same s2.g)
      obtain ⟨b1, b2⟩ := mid62_ok hl.1
      refine ⟨ad, k, vs, rfl, rep_int q2, r2.gh _ _ h1, by omega, by omega, by rw [← h2.length, line24]; exact hl.2, fun p hp => ?_⟩
      have gr : Grow G2 H2 G2 (upd H2 p (.lst (List.replicate k.toNat vs).flatten)) := .newH r2.gh hp
      exact p2 p _ G2 _ w2 gr.step (r2.grow gr) hp upd_same (r2.gh.free hp) (w_fresh r2 hp) (reps_rep h2 k.toNat)
    · exact p2.elim
  · exact p2.elim
/-! ### list(range(n)) -/
noncomputable def tRngO (ta : TA) : TE := fun σ H Q => ta σ H fun vs H1 => ∃ j : Int, vs = [.int j] ∧ ∀ p, H1 p = none → Q (.ref p) (upd H1 p (.rng 0 j))
theorem pe_rng {p : Pos} {ta : TA} (hg : Gl X "range") (hm : X.mg "range" = none) (ha : PA X [e] ta) (hs : starEach [e] X.env = [(false, eval e X.env)] := by rfl) : PE X (.Call (.Name "range" p) [e] [] pos) (tRngO ta) := by
  intro pins s σ H Q I h
  refine PyProof.Rows.Call_ (ld_blt I hg hm PyProof.Rows.boot_range (PyProof.Rows.callWith_type1 (thn (ha pos pins s σ H _ I h) fun us s1 ⟨vs, H1, I1, r1, q1⟩ => ?_) hs rfl))
  obtain ⟨j, e1, q⟩ := q1
  subst e1
  obtain ⟨u, rfl, t, rfl⟩ := vals1 r1
  exact call_range_1 ⟨.ref s1.heap.objs.size, _, I1.laid (o := .rng 0 j) (fun b u e => Heap.get?_push_of_some _ e) (Nat.le_refl _) ⟨_, _, _, Heap.get?_push_size _ rfl⟩, rfl, q _ (I1.hok.fresh (Nat.le_refl _))⟩
theorem vals_range {lo : Int} : ∀ (n : Nat) (acc : List Value), acc.length = n → (∀ (j : Nat) v, acc[j]? = some v → ∃ t, v = Value.int (lo + j) t) → Vals ((List.range n).map fun k => V.int (lo + (k : Nat))) acc
  | 0, [], _, _ => .nil
  | 0, _ :: _, h, _ => by simp at h
  | n + 1, [], h, _ => by simp at h
  | n + 1, v :: r, h, hv => by
    rw [List.range_succ_eq_map, List.map_cons, List.map_map]
    obtain ⟨t, ht⟩ := hv 0 v rfl
    refine .cons ⟨t, by simpa using ht⟩ ?_
    have := vals_range (lo := lo + 1) n r (by simpa using h) fun j v' e => by
      obtain ⟨t', ht'⟩ := hv (j + 1) v' (by simpa using e)
      refine ⟨t', ht'.trans ?_⟩
      congr 1
      omega
    have e : (fun k => V.int (lo + 1 + (k : Nat))) = ((fun k : Nat => V.int (lo + (k : Nat))) ∘ Nat.succ) := by
      funext k
      show V.int _ = V.int _
      congr 1
      simp only [Nat.succ_eq_add_one]
      omega
    rw [e] at this
    exact this
theorem call_list_rng (hc : X.calm = true) : CallR X (.type "list") (fun xs H Q => ∃ (p : Addr) (j : Int), xs = [.ref p] ∧ H p = some (.rng 0 j) ∧ 0 ≤ j ∧ j ≤ 16777216 ∧ ∀ l, H l = none → Q (.ref l) (upd H l (.lst ((List.range j.toNat).map fun k => V.int (0 + (k : Nat)))))) := by
  intro pins s σ H xs us Q I r h
  obtain ⟨p, j, rfl, hp, j0, j1, q⟩ := h
  obtain ⟨u, rfl, ru⟩ := vals1 r
  cases ru
  obtain ⟨t, u, v, e⟩ := (show ObjOk X.prog X.w H s.heap p (.rng 0 j) from I.hok p _ hp)
  refine call_list_range (n := j.toNat) (I.ok.hd hc) e (small_one (by omega) (by omega) (by omega) (by omega)) (by rw [rangeSize_one]; split <;> omega) (by omega) fun h' tk acc' c' hk hS hacc => ?_
  refine ⟨.ref s.heap.objs.size, _, I.laid (t' := tk) hk (Nat.le_refl _) (o := .lst ((List.range j.toNat).map fun k => V.int (0 + (k : Nat)))) ⟨?_, acc'.toList, c', ?_, by simpa using hS⟩, rfl, q _ (I.hok.fresh (Nat.le_refl _))⟩
  · rw [List.length_map, List.length_range, line24]; omega
  · refine vals_range j.toNat acc'.toList (by rw [Array.length_toList]; exact hacc.1) fun i v' ev => ?_
    obtain ⟨t', ht'⟩ := hacc.2 i v' (by simpa using ev)
    exact ⟨t', by rw [ht', Int.mul_one]⟩
noncomputable def dLRng (fa : De) : DN := fun ρ => (fa ρ).bind fun a => match a.1 with
  | .int j => if 0 ≤ j ∧ j ≤ 16777216 then .ok (rangeD 0 j.toNat, a.2) else .no
  | _ => .no
theorem reps_range {K : PySem.W.Frag} {G : Hp} {lo : Int} : ∀ (l : List Nat), Reps K G (l.map fun k => .int (lo + (k : Nat))) (l.map fun k => V.int (lo + (k : Nat)))
  | [] => Reps.nil
  | k :: r => Reps.cons (rep_is_int _) (reps_range r)
theorem jn_lrng {p1 p2 pos2 : Pos} (hc : X.calm = true) (hg : Gl X "list") (hm : X.mg "list" = none) (hg2 : Gl X "range") (hm2 : X.mg "range" = none) (ha : JE X C e fa) (hs : starEach [e] X.env = [(false, eval e X.env)] := by rfl)
    (hs2 : starEach [.Call (.Name "range" p2) [e] [] pos2] X.env = (false, eval (.Call (.Name "range" p2) [e] [] pos2) X.env) :: starEach [] X.env := by rfl) (hpl : (backTo pos (starEach [] X.env)).any (·.1) = false := by rfl) :
    JN X C (.Call (.Name "list" p1) [.Call (.Name "range" p2) [e] [] pos2] [] pos) (dLRng fa) :=
  PE.weak (pe_callTy (call_list_rng hc) hg hm PyProof.Rows.boot_list (pa_cons (pe_rng hg2 hm2 (ja_cons ha ja_nil (by rw [hs]; rfl)) hs) pa_nil hs2) (by decide) (by decide) hs2 hpl) fun σ H Q ⟨G, w, ρ, r, p⟩ => by
    unfold dLRng at p
    refine ⟨G, w, ρ, r, ?_⟩
    unfold dA dA0
    cases e : fa ρ with
    | ok x =>
      obtain ⟨d, ρ1⟩ := x
      rw [e] at p
      intro vs G1 H1 w1 s1 r1 q
      obtain ⟨v, t, rfl, q1, q2⟩ := q.cons_inv
      rw [q2.nil_inv]
      have p1 := Post.step (κ := fun G H w => kN X.K C σ Q G H w) stp_N s1 p
      cases d with
      | int j =>
        refine ⟨j, by rw [rep_int q1], fun p hp => ?_⟩
        have p1 : Post C.ex (kN X.K C σ Q G1 H1 w1) (if 0 ≤ j ∧ j ≤ 16777216 then .ok (rangeD 0 j.toNat, ρ1) else .no) := p1
        by_cases hj : 0 ≤ j ∧ j ≤ 16777216
        · rw [if_pos hj] at p1
          refine ⟨p, j, rfl, upd_same, hj.1, hj.2, fun l hl => ?_⟩
          have gr : Grow G1 H1 G1 (upd H1 p (.rng 0 j)) := .newH r1.gh hp
          have r2 := r1.grow gr
          have gr2 : Grow G1 (upd H1 p (.rng 0 j)) G1 (upd (upd H1 p (.rng 0 j)) l (.lst ((List.range j.toNat).map fun k => V.int (0 + (k : Nat))))) := .newH r2.gh hl
          have hl1 : H1 l = none := gr.h.free hl
          exact p1 l _ G1 _ w1 (gr.step.trans gr2.step) (r2.grow gr2) hl1 upd_same (r1.gh.free hl1) (w_fresh r1 hl1) (reps_range _)
        · rw [if_neg hj] at p1; exact p1.elim
      | _ => exact False.elim p1
    | er n => rw [e] at p; exact p
    | no => rw [e] at p; exact p
end
end PV
end
section
set_option Elab.async false
set_option linter.all false
set_option maxRecDepth 100000
namespace PV
open PySem PySem.Spec L2
section
variable {X : Cx} {C : Cn} {a b c e : Expr} {fa fb fc : De} {pos : Pos}
/-! ### is, of a truth -/
/-! ### sorted, of ints -/
noncomputable def insZ (a : Int) : List Int → List Int
  | [] => [a]
  | b :: r => if a ≤ b then a :: b :: r else b :: insZ a r
noncomputable def sortZ : List Int → List Int
  | [] => []
  | a :: r => insZ a (sortZ r)
theorem insZ_perm (a : Int) : ∀ l : List Int, (insZ a l).Perm (a :: l)
  | [] => .refl _
  | b :: r => by
    unfold insZ
    split
    · exact .refl _
    · exact ((insZ_perm a r).cons b).trans (.swap a b r)
theorem sortZ_perm : ∀ l : List Int, (sortZ l).Perm l
  | [] => .refl _
  | a :: r => (insZ_perm a _).trans ((sortZ_perm r).cons a)
theorem insZ_asc (a : Int) : ∀ l : List Int, l.Pairwise (· ≤ ·) → (insZ a l).Pairwise (· ≤ ·)
  | [], _ => by simp [insZ]
  | b :: r, h => by
    unfold insZ
    rw [List.pairwise_cons] at h
    split
    · rename_i z
      refine List.pairwise_cons.mpr ⟨fun x hx => ?_, List.pairwise_cons.mpr h⟩
      rcases List.mem_cons.mp hx with rfl | hx
      · exact z
      · exact Int.le_trans z (h.1 x hx)
    · rename_i z
      refine List.pairwise_cons.mpr ⟨fun x hx => ?_, insZ_asc a r h.2⟩
      rcases List.mem_cons.mp ((insZ_perm a r).mem_iff.mp hx) with rfl | hx
      · omega
      · exact h.1 x hx
theorem sortZ_asc : ∀ l : List Int, (sortZ l).Pairwise (· ≤ ·)
  | [] => .nil
  | a :: r => insZ_asc a _ (sortZ_asc r)
theorem intsAre_of : ∀ {ns : List Int} {us : List Value}, Vals (ns.map V.int) us → PyProof.Rows.IntsAre us ns
  | [], _, .nil => .nil
  | n :: ns, _, .cons ⟨t, h⟩ r => by subst h; exact .cons n t (intsAre_of r)
theorem vals_ints : ∀ {ns : List Int} {us : List Value}, PyProof.Rows.IntsAre us ns → Vals (ns.map V.int) us
  | _, _, .nil => .nil
  | _, _, .cons n t h => .cons ⟨t, rfl⟩ (vals_ints h)
theorem reps_ints {K : PySem.W.Frag} {G : Hp} : ∀ (ns : List Int), Reps K G (ns.map .int) (ns.map V.int)
  | [] => Reps.nil
  | n :: r => Reps.cons (rep_is_int n) (reps_ints r)
/-! ### xs.index(x) -/
noncomputable def idxD (x : Dt) : List Dt → Option Nat
  | [] => none
  | d :: r => if eqD d x = true then some 0 else (idxD x r).map (· + 1)
theorem idxD_spec {x : Dt} : ∀ {l : List Dt} {j : Nat}, idxD x l = some j → ∃ h : j < l.length, eqD l[j] x = true ∧ ∀ m (hm : m < l.length), m < j → eqD l[m] x = false
  | [], _, h => by simp [idxD] at h
  | d :: r, j, h => by
    unfold idxD at h
    split at h
    · rename_i e
      cases h
      exact ⟨by simp, e, fun m _ h => absurd h (Nat.not_lt_zero _)⟩
    · rename_i e
      cases q : idxD x r with
      | none => rw [q] at h; cases h
      | some i =>
        rw [q] at h
        cases h
        obtain ⟨h1, h2, h3⟩ := idxD_spec q
        refine ⟨by simpa using h1, by simpa using h2, fun m hm hlt => ?_⟩
        cases m with
        | zero => simpa using e
        | succ m => simpa using h3 m (by simpa using hm) (Nat.lt_of_succ_lt_succ hlt)
theorem eqOf_get {pins : List (Addr × Obj)} {σ : L2.St} {H : Hp} {s : Shared} (I : L2.Inv X pins σ H s) {dx : Dt} : ∀ {ds : List Dt} {vs : List V} {us : List Value} {i : Nat} (h1 : i < ds.length) (h2 : i < us.length), ds.all (okN 60) = true → Reps X.K H ds vs → Vals vs us → eqOf X.K H dx us[i] = eqD ds[i] dx
  | [], _, _, _, h1, _, _, _, _ => by simp at h1
  | d :: ds, vs, us, i, h1, h2, hk, h, r => by
    obtain ⟨v, t, rfl, k1, k2⟩ := h.cons_inv
    cases r with
    | cons r1 r2 =>
      simp only [List.all_cons, Bool.and_eq_true] at hk
      cases i with
      | zero => exact eqOf_is I hk.1 k1 r1
      | succ i => exact eqOf_get I (i := i) (by simpa using h1) (by simpa using h2) hk.2 k2 r2
noncomputable def rIdx (K : PySem.W.Frag) : V → List V → Hp → VK → Prop := fun x vs H Q => ∃ a zs dx ds j y, x = .ref a ∧ vs = [y] ∧ H a = some (.lst zs) ∧ Reps K H ds zs ∧ Rep K H dx y ∧ okN 60 dx = true ∧ ds.all (okN 60) = true ∧ idxD dx ds = some j ∧ Q (.int j) H
theorem mt_index (hu : X.A.units + 65 < cLine) : MtR X "list.index" (rIdx X.K) := by
  intro pins s σ H x vs v us Q I rx rv h
  obtain ⟨a, zs, dx, ds, j, y, rfl, rfl, hH, h1, h2, h3, h4, h5, q⟩ := h
  cases rx
  obtain ⟨u, rfl, ru⟩ := Vals.one rv
  have hu1 : X.A.in1.units + 64 < cLine := by rw [in1_units]; omega
  obtain ⟨z, its, n, r, hl, e⟩ := I.lstM hH
  obtain ⟨k1, k2, k3⟩ := idxD_spec h5
  have hlen : ds.length = its.length := by rw [h1.length, r.length]
  have hj : (j : Int) < 2 ^ 63 - 1 := by
    have : zs.length ≤ 16777216 := by rw [← line24]; exact z
    omega
  refine PySem.call_meets F.slot_list_index ⟨_, e, rfl⟩ F.entry_list_index (F.args_list_index_2 _ _)
    (SeqAt.list_indexAt a its.toArray n none #[] u (eqOf X.K H dx) j (by rw [List.size_toArray]; omega) hj ?_ ?_) ⟨e, fun w hw => each_eqOf I hu1 h3 h2 ru h4 h1 r w (by simpa using hw), ?_⟩
  · have := eqOf_get I (dx := dx) (i := j) k1 (by omega) h4 h1 r
    simpa [this] using k2
  · intro m hm hlt
    have hm' : m < its.length := by simpa using hm
    have := eqOf_get I (dx := dx) (i := m) (by omega) hm' h4 h1 r
    have e3 := k3 m (by omega) hlt
    simpa [this] using e3
  · exact ⟨.int j, H, I.kept (t' := s.toks + 1) (fun _ _ q => q), ⟨_, rfl⟩, q⟩
noncomputable def dIdx (fa fb : De) : De := fun ρ => (fa ρ).bind fun a => match a.1 with
  | .lst ds => (fb a.2).bind fun b => if (okN 60 b.1 && ds.all (okN 60)) = true then match idxD b.1 ds with
      | some j => .ok (.int j, b.2)
      | none => .no
    else .no
  | _ => .no
theorem je_idx {apos : Pos} (hu : X.A.units + 65 < cLine) (ha : JE X C a fa) (hb : JE X C b fb) (hbase : attributeBase a "index" X.env (eval a X.env) = eval a X.env := by rfl)
    (hfew : ((backTo pos (starEach [b] X.env)).all (fun x => !x.1) && (backToKw pos (keywordEach [] X.env)).all (fun x => x.1.isSome) && decide ([b].length + ([] : List Keyword).length + (if ([] : List Keyword).isEmpty then 0 else 1) < 30)) = true := by rfl)
    (hline : (apos.endLine == pos.line) = true := by rfl) (hs : starEach [b] X.env = (false, eval b X.env) :: starEach [] X.env := by rfl) (hplain : (backTo pos (starEach [] X.env)).any (·.1) = false := by rfl) :
    JE X C (.Call (.Attribute a "index" apos) [b] [] pos) (dIdx fa fb) :=
  PE.weak (pe_bm PySem.F.plainAttrs_list PySem.F.slot_list_index PySem.F.type_list_index (mt_index hu) ha (pa_cons hb pa_nil hs) hbase hfew hline hs hplain) fun σ H Q ⟨G, w, ρ, r, p⟩ => by
    refine seqE (κ := fun G H w => kE X.K C σ Q G H w) stp_E r p fun d ρ1 v G1 H1 w1 r1 s1 q1 p1 => ?_
    cases d with
    | lst ds =>
      obtain ⟨ad, vs, rfl, h1, h2⟩ := rep_lst q1
      refine ⟨.inl ⟨rfl, vs, SqL.of (r1.gh _ _ h1)⟩, ?_⟩
      refine seqE (κ := fun G H w => kE X.K C σ Q G H w) stp_E r1 p1 fun d2 ρ2 v2 G2 H2 w2 r2 s2 q2 p2 => ?_
      dsimp only at p2
      split at p2
      · rename_i hk
        rw [Bool.and_eq_true] at hk
        split at p2
        · rename_i j ej
          exact ⟨ad, vs, d2, ds, j, v2, rfl, rfl, r2.gh _ _ (s2.g _ _ h1), (h2.same s2.g).same r2.gh, q2.same r2.gh, hk.1, hk.2, ej, p2 _ G2 H2 w2 (.refl _ _ _) r2 (rep_is_int _)⟩
        · exact False.elim p2
      · exact False.elim p2
    | _ => exact False.elim p1
end
end PV
end
section
set_option Elab.async false
set_option linter.all false
set_option maxRecDepth 100000
namespace PV
open PySem PySem.Spec L2
/-! ### list(reversed(xs)) -/
section
variable {prog : Program} {w : World} {A : Around} {E : Value → Shared → Prop} {s : Shared}
end
section
variable {X : Cx} {C : Cn} {a : Expr} {fa : De} {pos : Pos}
end
end PV
end
section
set_option Elab.async false
set_option linter.all false
set_option maxRecDepth 100000
namespace PV
open PySem PySem.Spec L2
/-! ### zip of two tuples -/
section
variable {prog : Program} {w : World} {A : Around} {E : Value → Shared → Prop} {s : Shared}
theorem bnd : type_of% @wpAny_bind := @wpAny_bind
theorem nxT_item {it t : Addr} {i : Nat} {its : Array Value} {x : Value} {Q : Value → Shared → Prop} (k1 : s.heap.IsTupleIter it t i) (k2 : s.heap.IsTuple t its) (kx : its[i]? = some x)
    (kQ : ∀ h', h'.IsTupleIter it t (i + 1) → Heap.SameBut it s.heap h' → Q x { s with heap := h' }) : wpAny (model prog w) A (Builtin.SmallTypes.nextOf (.ref it)) Q E s := by
  obtain ⟨o, e1, e2, e3⟩ := id k1
  obtain ⟨o', e4, _, n', e5⟩ := k2
  unfold Builtin.SmallTypes.nextOf
  refine bnd (wpAny_callSpecial?_slot (name := Str.ofString "__next__") k1.typeIs F.slot_tuple_iterator_next (wpAny_call_entry F.slot_tuple_iterator_next k1.typeIs F.entry_tuple_iterator_next ?_ (F.args_tuple_iterator_next_1 _)))
  show wpAny _ _ (field (.ref it) 0 >>= _) _ _ _
  refine bnd (wpAny_field e1 e3 (x := .ref t) rfl ?_)
  show wpAny _ _ (if (Value.ref t == Value.none) = true then _ else _) _ _ _
  have nn : ¬ ((Value.ref t == Value.none) = true) := Bool.false_ne_true
  rw [if_neg nn]
  show wpAny _ _ (field (.ref it) 1 >>= _) _ _ _
  refine bnd (wpAny_field e1 e3 (x := .int i 0) rfl ?_)
  show wpAny _ _ (seqItems? (.ref t) >>= _) _ _ _
  refine bnd (wpAny_seqItems e4 e5 ?_)
  simp only [Int.toNat_natCast, kx]
  refine bnd (wpAny_setField e1 e3 (by simp) (wpAny_pure ⟨x, rfl, wpAny_pure (kQ _ ⟨_, Heap.get?_update_self _ e1 (Obj.isFreed_of_fields (Obj.data_mapFields e3 _)), (Obj.cls_mapFields ..).trans e2, ?_⟩ (Heap.SameBut.update ..))⟩))
  rw [Obj.data_mapFields e3]; simp [rawInt]
theorem nxT_end {it t : Addr} {i : Nat} {its : Array Value} {Q : Value → Shared → Prop} (hh : A.handled = none) (k1 : s.heap.IsTupleIter it t i) (k2 : s.heap.IsTuple t its) (kx : its[i]? = none)
    (kE : ∀ h' e, Heap.ExtBut it s.heap h' → (∃ o, h'.get? e = some o ∧ o.cls = .type "StopIteration") → E (.ref e) { s with heap := h' }) : wpAny (model prog w) A (Builtin.SmallTypes.nextOf (.ref it)) Q E s := by
  obtain ⟨o, e1, e2, e3⟩ := id k1
  obtain ⟨o', e4, _, n', e5⟩ := k2
  unfold Builtin.SmallTypes.nextOf
  refine bnd (wpAny_callSpecial?_slot (name := Str.ofString "__next__") k1.typeIs F.slot_tuple_iterator_next (wpAny_call_entry F.slot_tuple_iterator_next k1.typeIs F.entry_tuple_iterator_next ?_ (F.args_tuple_iterator_next_1 _)))
  show wpAny _ _ (field (.ref it) 0 >>= _) _ _ _
  refine bnd (wpAny_field e1 e3 (x := .ref t) rfl ?_)
  show wpAny _ _ (if (Value.ref t == Value.none) = true then _ else _) _ _ _
  have nn : ¬ ((Value.ref t == Value.none) = true) := Bool.false_ne_true
  rw [if_neg nn]
  show wpAny _ _ (field (.ref it) 1 >>= _) _ _ _
  refine bnd (wpAny_field e1 e3 (x := .int i 0) rfl ?_)
  show wpAny _ _ (seqItems? (.ref t) >>= _) _ _ _
  refine bnd (wpAny_seqItems e4 e5 ?_)
  simp only [Int.toNat_natCast, kx]
  refine bnd (wpAny_rule (wpAny_bind (wpAny_setField e1 e3 (by simp) ?_)))
  show wpAny _ _ (newExc (.type "StopIteration") [] >>= _) _ _ _
  refine bnd ?_
  simp only [newExc, newTuple]
  refine bnd (wpAny_newObj_type ?_ (by size_fits))
  refine (wpAny_bind (m := firstArgMember _ _)) (wpAny_of_eq (a := Value.none) (by first | rfl | (simp only [firstArgMember]; rfl)) ?_)
  refine wpAny_newObj_type ?_ (by size_fits); simp only [raiseNew]
  refine bnd (wpAny_handled ?_)
  first | rw [show A.in1.handled = none from hh] | rw [hh]
  refine bnd (wpAny_pure (wpAny_throw ?_))
  exact kE _ _ (((Heap.SameBut.update ..).extBut.push _).push _) ⟨_, Heap.get?_push_size _ rfl, rfl⟩
/-- the parts of a walk of two tuples; the addresses that it writes are off the tuples and off each other -/
structure Zp (h : Heap) (z TI TO i1 i2 l1 l2 : Addr) (f0 : Value) (k : Nat) : Prop where
  z : IsZip h z TI TO f0
  ti : IsPair h TI (.ref i1) (.ref i2)
  to : ∃ a b, IsPair h TO a b
  a1 : h.IsTupleIter i1 l1 k
  a2 : h.IsTupleIter i2 l2 k
structure ZpD (z TI TO i1 i2 : Addr) : Prop where
  d1 : TI ≠ z
  d2 : TO ≠ z
  d3 : i1 ≠ z
  d4 : i2 ≠ z
  d5 : TI ≠ TO
  d6 : TI ≠ i1
  d7 : TI ≠ i2
  d8 : TO ≠ i1
  d9 : TO ≠ i2
  d0 : i1 ≠ i2
theorem Zp.keep {h h' : Heap} {z TI TO i1 i2 l1 l2 : Addr} {f0 : Value} {k : Nat} (p : Zp h z TI TO i1 i2 l1 l2 f0 k) (e : ∀ b ∈ [z, TI, TO, i1, i2], ∀ o, h.get? b = some o → h'.get? b = some o) : Zp h' z TI TO i1 i2 l1 l2 f0 k :=
  ⟨e z (by simp) _ p.z, e TI (by simp) _ p.ti, let ⟨a, b, q⟩ := p.to; ⟨a, b, e TO (by simp) _ q⟩, p.a1.at fun o q => e i1 (by simp) o q, p.a2.at fun o q => e i2 (by simp) o q⟩
variable {z TI TO i1 i2 l1 l2 : Addr} {k : Nat} {xs ys : Array Value}
theorem zpNext_item {x y : Value} {Q : Value → Shared → Prop} (D : ZpD z TI TO i1 i2) (p : Zp s.heap z TI TO i1 i2 l1 l2 .none k) (q1 : s.heap.IsTuple l1 xs) (q2 : s.heap.IsTuple l2 ys) (n1 : ∀ b ∈ [z, TI, TO, i1, i2], b ≠ l1) (n2 : ∀ b ∈ [z, TI, TO, i1, i2], b ≠ l2)
    (hx : xs[k]? = some x) (hy : ys[k]? = some y)
    (hQ : ∀ h', Zp h' z TI TO i1 i2 l1 l2 (rawInt s.heap.objs.size) (k + 1) → h'.get? s.heap.objs.size = some { cls := .type "tuple", data := .seq #[x, y] } → (∀ c o, c ≠ z → c ≠ TO → c ≠ i1 → c ≠ i2 → s.heap.get? c = some o → h'.get? c = some o) → Q (.ref s.heap.objs.size) { s with heap := h' }) :
    wpAny (model prog w) A (Builtin.«zip.__next__» ⟨[.ref z], []⟩) (fun fin s' => ∃ v, fin = .done (.ret v) ∧ Q v s') E s := by
  obtain ⟨pz, pti, ⟨oa, ob, pto⟩, pa1, pa2⟩ := p
  show wpAny _ _ (field (.ref z) 2 >>= _) _ _ _
  refine bnd (wpAny_field pz rfl (x := .bool false) rfl ?_)
  show wpAny _ _ (field (.ref z) 3 >>= _) _ _ _
  refine bnd (wpAny_field pz rfl (x := .ref TI) rfl ?_)
  refine bnd (wpAny_seqItems pti rfl ?_)
  show wpAny _ _ (Builtin.SmallTypes.ownedTupleIsFree (.ref z) >>= _) _ _ _
  refine bnd ?_
  unfold Builtin.SmallTypes.ownedTupleIsFree
  refine bnd (wpAny_field pz rfl (x := .none) rfl (wpAny_pure ?_))
  simp only [if_true]
  refine bnd (wpAny_rule ?_)
  refine bnd (wpAny_field pz rfl (x := .ref TO) rfl ?_)
  refine bnd (wpAny_setField_rec pz (by simp) fun g1 pz1 sb1 => ?_)
  have pz1 : IsZip g1 z TI TO .ellipsis := pz1
  refine bnd ?_
  simp only [List.zipIdx_cons, List.zipIdx_nil, List.forIn_cons, List.forIn_nil]
  refine bnd (wpAny_bind (wpAny_onRaise ?_))
  show wpAny _ _ (Builtin.SmallTypes.nextOf (.ref i1) >>= _) _ _ _
  refine bnd (nxT_item (pa1.extBut sb1.extBut D.d3) (q1.extBut sb1.extBut (Ne.symm (n1 z (by simp)))) hx fun g2 pa1' sb2 => wpAny_pure ?_)
  have t2 : IsPair g2 TO oa ob := sb2.extBut _ _ D.d8 (sb1.extBut _ _ D.d2 pto)
  refine bnd (wpAny_seqItems t2 rfl ?_)
  refine bnd (wpAny_updateSeq_pair t2 fun g3 t3 sb3 => ?_)
  have t3 : IsPair g3 TO x ob := t3
  refine bnd (wpAny_letGo (wpAny_pure ?_))
  refine bnd (wpAny_bind (wpAny_onRaise ?_))
  show wpAny _ _ (Builtin.SmallTypes.nextOf (.ref i2) >>= _) _ _ _
  refine bnd (nxT_item (((pa2.extBut sb1.extBut D.d4).extBut sb2.extBut D.d0.symm).extBut sb3.extBut D.d9.symm)
    (((q2.extBut sb1.extBut (Ne.symm (n2 z (by simp)))).extBut sb2.extBut (Ne.symm (n2 i1 (by simp)))).extBut sb3.extBut (Ne.symm (n2 TO (by simp)))) hy fun g4 pa2' sb4 => wpAny_pure ?_)
  have t4 : IsPair g4 TO x ob := sb4.extBut _ _ D.d9 t3
  refine bnd (wpAny_seqItems t4 rfl ?_)
  refine bnd (wpAny_updateSeq_pair t4 fun g5 t5 sb5 => ?_)
  have t5 : IsPair g5 TO x y := t5
  refine bnd (wpAny_letGo (wpAny_pure (wpAny_pure ?_)))
  refine bnd (wpAny_seqItems t5 rfl ?_)
  refine bnd (wpAny_newTuple ?_)
  have sz : g5.objs.size = s.heap.objs.size := by rw [sb5.1, sb4.1, sb3.1, sb2.1, sb1.1]
  have z5 : IsZip g5 z TI TO .ellipsis := sb5.extBut _ _ D.d2.symm (sb4.extBut _ _ D.d4.symm (sb3.extBut _ _ D.d2.symm (sb2.extBut _ _ D.d3.symm pz1)))
  have k5 : ∀ c o, c ≠ z → c ≠ TO → c ≠ i1 → c ≠ i2 → s.heap.get? c = some o → g5.get? c = some o := fun c o c1 c2 c3 c4 e =>
    sb5.extBut _ _ c2 (sb4.extBut _ _ c4 (sb3.extBut _ _ c2 (sb2.extBut _ _ c3 (sb1.extBut _ _ c1 e))))
  have p1 : g5.IsTupleIter i1 l1 (k + 1) := ((pa1'.extBut sb3.extBut D.d8.symm).extBut sb4.extBut D.d0).extBut sb5.extBut D.d8.symm
  have p2 : g5.IsTupleIter i2 l2 (k + 1) := pa2'.extBut sb5.extBut D.d9.symm
  have ltz : z < g5.objs.size := Heap.lt_size z5
  show wpAny _ _ (Builtin.SmallTypes.ownedTupleHandOut (.ref z) (.ref g5.objs.size) >>= _) _ _ _
  refine bnd ?_
  unfold Builtin.SmallTypes.ownedTupleHandOut
  have z6 : IsZip (g5.push { cls := .type "tuple", data := .seq #[x, y] }) z TI TO .ellipsis := Heap.get?_push_of_some _ z5
  refine bnd (wpAny_setField_rec z6 (by simp) fun g7 z7 sb7 => ?_)
  have z7 : IsZip g7 z TI TO (rawInt g5.objs.size) := z7
  refine wpAny_setField_rec z7 (by simp) fun g8 z8 sb8 => ?_
  have z8 : IsZip g8 z TI TO (rawInt g5.objs.size) := z8
  have up : ∀ c o, c ≠ z → g5.get? c = some o → g8.get? c = some o := fun c o c1 e => sb8.extBut _ _ c1 (sb7.extBut _ _ c1 (Heap.get?_push_of_some _ e))
  have t8 : g8.get? g5.objs.size = some { cls := .type "tuple", data := .seq #[x, y] } := sb8.extBut _ _ (Nat.ne_of_gt ltz) (sb7.extBut _ _ (Nat.ne_of_gt ltz) (Heap.get?_push_size _ rfl))
  rw [sz] at z8 t8
  refine wpAny_pure ⟨_, rfl, ?_⟩
  show Q (.ref g5.objs.size) _
  rw [sz]
  exact hQ g8 ⟨z8, up _ _ D.d1 (k5 _ _ D.d1 D.d5 D.d6 D.d7 pti), ⟨x, y, up _ _ D.d2 t5⟩, p1.at fun o e => up _ o D.d3 e, p2.at fun o e => up _ o D.d4 e⟩ t8 fun c o c1 c2 c3 c4 e => up c o c1 (k5 c o c1 c2 c3 c4 e)
theorem zpNext_end {Q : PySem.Fin → Shared → Prop} (hh : A.handled = none) (D : ZpD z TI TO i1 i2) (p : Zp s.heap z TI TO i1 i2 l1 l2 .none k) (q1 : s.heap.IsTuple l1 xs) (n1 : ∀ b ∈ [z, TI, TO, i1, i2], b ≠ l1)
    (hx : xs[k]? = none)
    (hE : ∀ h' e, (∀ c o, c ≠ z → c ≠ TO → c ≠ i1 → c ≠ i2 → s.heap.get? c = some o → h'.get? c = some o) → (∃ o, h'.get? e = some o ∧ o.cls = .type "StopIteration") → E (.ref e) { s with heap := h' }) :
    wpAny (model prog w) A (Builtin.«zip.__next__» ⟨[.ref z], []⟩) Q E s := by
  obtain ⟨pz, pti, ⟨oa, ob, pto⟩, pa1, pa2⟩ := p
  show wpAny _ _ (field (.ref z) 2 >>= _) _ _ _
  refine bnd (wpAny_field pz rfl (x := .bool false) rfl ?_)
  show wpAny _ _ (field (.ref z) 3 >>= _) _ _ _
  refine bnd (wpAny_field pz rfl (x := .ref TI) rfl ?_)
  refine bnd (wpAny_seqItems pti rfl ?_)
  show wpAny _ _ (Builtin.SmallTypes.ownedTupleIsFree (.ref z) >>= _) _ _ _
  refine bnd ?_
  unfold Builtin.SmallTypes.ownedTupleIsFree
  refine bnd (wpAny_field pz rfl (x := .none) rfl (wpAny_pure ?_))
  simp only [if_true]
  refine bnd (wpAny_rule ?_)
  refine bnd (wpAny_field pz rfl (x := .ref TO) rfl ?_)
  refine bnd (wpAny_setField_rec pz (by simp) fun g1 pz1 sb1 => ?_)
  have pz1 : IsZip g1 z TI TO .ellipsis := pz1
  refine bnd ?_
  simp only [List.zipIdx_cons, List.zipIdx_nil, List.forIn_cons, List.forIn_nil]
  refine bnd (wpAny_bind (wpAny_onRaise ?_))
  show wpAny _ _ (Builtin.SmallTypes.nextOf (.ref i1) >>= _) _ _ _
  refine bnd (nxT_end hh (pa1.extBut sb1.extBut D.d3) (q1.extBut sb1.extBut (Ne.symm (n1 z (by simp)))) hx fun g2 e sb2 he => ?_)
  obtain ⟨oe, e1, e2⟩ := he
  have z2 : IsZip g2 z TI TO .ellipsis := sb2 _ _ D.d3.symm pz1
  have ez : e ≠ z := fun q => by subst q; rw [z2] at e1; cases e1; simp at e2
  exact wpAny_setField_rec z2 (by simp) fun g3 _ sb3 => hE g3 e (fun c o c1 _ c3 _ q => sb3.extBut _ _ c1 (sb2 _ _ c3 (sb1.extBut _ _ c1 q))) ⟨oe, sb3.extBut _ _ ez e1, e2⟩
end
end PV
end
section
set_option Elab.async false
set_option linter.all false
set_option maxRecDepth 100000
namespace PV
open PySem PySem.Spec L2
section
variable {X : Cx} {pins : List (Addr × Obj)} {σ : L2.St} {H : Hp} {s : Shared}
theorem fp_ne {a b : Addr} {xs : List V} (I : L2.Inv X pins σ H s) (hf : FpOk X pins H b) (hs : SqT X.K H a xs) : b ≠ a := by
  rintro rfl
  rcases hs with (h | ⟨o, h⟩) | ⟨o, its, n, h, _⟩
  · rw [hf.1] at h; cases h
  · rw [hf.1] at h; cases h
  · have hb := I.mod.kin b o h
    rcases hf.2.2.2.1 with z | z
    · exact I.ok.noex b o hb z
    · exact absurd (Nat.lt_of_lt_of_le (Heap.lt_size hb) (Nat.le_trans I.ok.bsz z)) (Nat.lt_irrefl _)
/-- records of ours have turned, a new object is there -/
theorem Inv_turnedL {fp : List Addr} {h' : Heap} {o : HO} {a : Addr} {t' : Nat} (I : L2.Inv X pins σ H s) (hf : ∀ b ∈ fp, FpOk X pins H b) (k : ∀ b ob, b ∉ fp → s.heap.get? b = some ob → h'.get? b = some ob) (hp : s.heap.objs.size ≤ a) (ht : ∀ b ob, s.heap.get? b = some ob → ∃ ob', h'.get? b = some ob')
    (new : ObjOk X.prog X.w (upd H a o) h' a o) : L2.Inv X pins σ (upd H a o) { s with heap := h', toks := t' } := by
  have hn := I.hok.fresh hp
  have nf : ∀ b u, H b = some u → b ∉ fp := fun b u e z => by rw [(hf b z).1] at e; cases e
  refine I.call (g' := s.gens) (d' := s.drawn) (ch := fp) ⟨fun b u q _ _ hx => k b u hx q, fun b u q _ _ hx => ⟨u.slots, k b u hx q⟩, fun b u q n _ => ?_, fun b u q hx => ⟨u, k b u hx q⟩, fun b xs q => ?_, fun b u xs q => ?_, fun b ps q => ⟨#[], ?_⟩⟩ (fun b u e => ?_) I.bare
    fun b hb => ⟨(hf b hb).2.2.2.1, (hf b hb).2.1, (hf b hb).2.2.2.2.1, (hf b hb).2.2.2.2.2⟩
  · rw [upd_ne (Nat.ne_of_lt (Nat.lt_of_lt_of_le (Heap.lt_size q) hp))]; exact n
  · rw [upd_ne (ne_of_none q hn)]; exact q
  · rw [upd_ne (ne_of_none q hn)]; exact q
  · rw [upd_ne (ne_of_none q hn), q]; simp
  · by_cases hb : b = a
    · subst hb; rw [upd_same] at e; cases e; exact new
    · rw [upd_ne hb] at e
      refine (I.hok b u e).stay (fun c v hc q => k c v ?_ q) (fun c q => by rw [upd_ne (ne_of_none q hn)]; exact q) fun c xs q => by rw [upd_ne (ne_of_none q hn)]; exact q
      rcases hc with z | z
      · rw [z]; exact nf b u e
      · exact nf c _ z
theorem Inv_turned0 {fp : List Addr} {h' : Heap} {t' : Nat} (I : L2.Inv X pins σ H s) (hf : ∀ b ∈ fp, FpOk X pins H b) (k : ∀ b ob, b ∉ fp → s.heap.get? b = some ob → h'.get? b = some ob) : L2.Inv X pins σ H { s with heap := h', toks := t' } := by
  have nf : ∀ b u, H b = some u → b ∉ fp := fun b u e z => by rw [(hf b z).1] at e; cases e
  refine I.call (g' := s.gens) (d' := s.drawn) (ch := fp) ⟨fun b u q _ _ hx => k b u hx q, fun b u q _ _ hx => ⟨u.slots, k b u hx q⟩, fun b u q n _ => n, fun b u q hx => ⟨u, k b u hx q⟩, fun b xs q => q, fun b u xs q => q, fun b ps q => ⟨#[], by rw [q]; simp⟩⟩ (fun b u e => ?_) I.bare
    fun b hb => ⟨(hf b hb).2.2.2.1, (hf b hb).2.1, (hf b hb).2.2.2.2.1, (hf b hb).2.2.2.2.2⟩
  refine (I.hok b u e).stay (fun c v hc q => k c v ?_ q) (fun _ q => q) fun _ _ q => q
  rcases hc with z | z
  · rw [z]; exact nf b u e
  · exact nf c _ z
end
/-- two tuples at once -/
noncomputable def Itz (K : PySem.W.Frag) (a b : Addr) : It :=
  ⟨fun i H => ∃ xs ys x y, SqT K H a xs ∧ SqT K H b ys ∧ xs[i]? = some x ∧ ys[i]? = some y,
   fun i H v H' => ∃ p x y, v = .ref p ∧ H p = none ∧ H' = upd H p (.tup [x, y]) ∧ (∀ xs, SqT K H a xs → xs[i]? = some x) ∧ ∀ ys, SqT K H b ys → ys[i]? = some y,
   fun i H => ∃ xs, SqT K H a xs ∧ xs.length ≤ i⟩
theorem turn_zip {P : Program} {w : World} {K : PySem.W.Frag} {elts : List Expr} {x1} {ps : Pos} {a b z TI TO i1 i2 : Addr} (D : ZpD z TI TO i1 i2) : Turn P w K (.Tuple elts x1 ps) (Itz K a b) [z, TI, TO, i1, i2] z (fun i h => Zp h z TI TO i1 i2 a b .none i) where
  mem := by simp
  obj := fun i h st c hc => by
    obtain ⟨s1, s2, ⟨oa, ob, s3⟩, ⟨o4, s4, _, d4⟩, ⟨o5, s5, _, d5⟩⟩ := st
    simp only [List.mem_cons, List.not_mem_nil, or_false] at hc
    rcases hc with rfl | rfl | rfl | rfl | rfl
    · exact ⟨_, s1, fun v q => by cases q⟩
    · exact ⟨_, s2, fun v q => by cases q⟩
    · exact ⟨_, s3, fun v q => by cases q⟩
    · exact ⟨_, s4, fun v q => by rw [d4] at q; cases q⟩
    · exact ⟨_, s5, fun v q => by rw [d5] at q; cases q⟩
  keep := fun i h h' st k => st.keep k
  item := by
    intro X hP hw hK hc i pins s σ H E I hf st hg
    subst hP hw hK
    obtain ⟨xs, ys, x, y, q1, q2, hx, hy⟩ := hg
    obtain ⟨its, rv, p, hz⟩ := I.tuple q1
    obtain ⟨jts, rw', p', hz'⟩ := I.tuple q2
    obtain ⟨u, hu, ru⟩ := rv.get hx
    obtain ⟨v, hv, rv'⟩ := rw'.get hy
    have hT : s.TypeIs (.ref z) "zip" := ⟨_, st.z, rfl⟩
    unfold pyNext
    refine wpAny_bind (wpAny_attempt (wpAny_callSpecial?_slot (name := Str.ofString "__next__") hT F.slot_zip_next (wpAny_call_entry F.slot_zip_next hT F.entry_zip_next
      (zpNext_item (l1 := a) (l2 := b) (k := i) (x := u) (y := v) D st (show s.heap.IsTuple a its.toArray from p) (show s.heap.IsTuple b jts.toArray from p') (fun c hc => fp_ne I (hf c hc) q1) (fun c hc => fp_ne I (hf c hc) q2) (by simpa using hu) (by simpa using hv) fun h' st' ht hk => wpAny_pure ?_) (F.args_zip_next_1 _))))
    refine ⟨_, rfl, wpAny_letOwnedTupleGo_zip st'.z fun h2 hz2 sb => ?_⟩
    have hzp : ∀ c ∈ [z, TI, TO, i1, i2], c ≠ s.heap.objs.size := fun c hc q => by
      obtain ⟨s1, s2, ⟨oa, ob, s3⟩, ⟨o4, s4, _⟩, ⟨o5, s5, _⟩⟩ := st
      simp only [List.mem_cons, List.not_mem_nil, or_false] at hc
      subst q
      rcases hc with rfl | rfl | rfl | rfl | rfl
      · exact absurd (Heap.lt_size s1) (Nat.lt_irrefl _)
      · exact absurd (Heap.lt_size s2) (Nat.lt_irrefl _)
      · exact absurd (Heap.lt_size s3) (Nat.lt_irrefl _)
      · exact absurd (Heap.lt_size s4) (Nat.lt_irrefl _)
      · exact absurd (Heap.lt_size s5) (Nat.lt_irrefl _)
    have st2 : Zp h2 z TI TO i1 i2 a b .none (i + 1) := by
      refine ⟨hz2, sb.extBut _ _ D.d1 st'.ti, ?_, st'.a1.extBut sb.extBut D.d3, st'.a2.extBut sb.extBut D.d4⟩
      obtain ⟨oa, ob, q⟩ := st'.to
      exact ⟨oa, ob, sb.extBut _ _ D.d2 q⟩
    have hk2 : ∀ c ob, c ∉ [z, TI, TO, i1, i2] → s.heap.get? c = some ob → h2.get? c = some ob := fun c ob nc e => by
      simp only [List.mem_cons, List.not_mem_nil, or_false, not_or] at nc
      exact sb.extBut _ _ nc.1 (hk c ob nc.1 nc.2.2.1 nc.2.2.2.1 nc.2.2.2.2 e)
    have hth : ∀ c ob, s.heap.get? c = some ob → ∃ ob', h2.get? c = some ob' := fun c ob e => by
      by_cases nc : c ∈ [z, TI, TO, i1, i2]
      · obtain ⟨s1, s2, ⟨oa, ob, s3⟩, ⟨o4, s4, _⟩, ⟨o5, s5, _⟩⟩ := st2
        simp only [List.mem_cons, List.not_mem_nil, or_false] at nc
        rcases nc with rfl | rfl | rfl | rfl | rfl
        · exact ⟨_, s1⟩
        · exact ⟨_, s2⟩
        · exact ⟨_, s3⟩
        · exact ⟨_, s4⟩
        · exact ⟨_, s5⟩
      · exact ⟨ob, hk2 c ob nc e⟩
    have hnew : h2.get? s.heap.objs.size = some { cls := .type "tuple", data := .seq #[u, v] } := sb.extBut _ _ (Ne.symm (hzp z (by simp))) ht
    have IN : L2.Inv X pins σ (upd H s.heap.objs.size (.tup [x, y])) { s with heap := h2 } := Inv_turnedL (s := s) (t' := s.toks) (o := .tup [x, y]) I hf hk2 (Nat.le_refl _) hth ⟨by show 2 ≤ sizeLine; decide, [u, v], .cons ru (.cons rv' .nil), 0, hnew⟩
    exact ⟨.ref s.heap.objs.size, _, IN, rfl,
      ⟨_, x, y, rfl, I.hok.fresh (Nat.le_refl _), rfl, fun zs q => by rw [I.tuple_inj q q1]; exact hx, fun zs q => by rw [I.tuple_inj q q2]; exact hy⟩, st2, fun c hc => by rw [upd_ne (hzp c hc)]; exact (hf c hc).1⟩
  done := by
    intro X hP hw hK hc i pins s σ H E I hf st hg
    subst hP hw hK
    obtain ⟨xs, q1, hx⟩ := hg
    obtain ⟨its, rv, p, hz⟩ := I.tuple q1
    have hl := rv.length
    have hT : s.TypeIs (.ref z) "zip" := ⟨_, st.z, rfl⟩
    unfold pyNext
    refine wpAny_bind (wpAny_attempt (wpAny_callSpecial?_slot (name := Str.ofString "__next__") hT F.slot_zip_next (wpAny_call_entry F.slot_zip_next hT F.entry_zip_next
      (zpNext_end (l1 := a) (l2 := b) (k := i) (xs := its.toArray) (I.ok.hd hc) D st (show s.heap.IsTuple a its.toArray from p) (fun c hc => fp_ne I (hf c hc) q1) (by simp; omega) fun h' e hk he => ?_) (F.args_zip_next_1 _))))
    obtain ⟨o, ho, hcl⟩ := he
    refine wpAny_bind (wpAny_isInstance (T := "StopIteration") (b := true) ⟨o, ho, hcl⟩ isSubtype_stop (wpAny_pure ⟨rfl, ?_⟩))
    refine Inv_turned0 (t' := s.toks) I hf fun c ob nc e => ?_
    simp only [List.mem_cons, List.not_mem_nil, or_false, not_or] at nc
    exact hk c ob nc.1 nc.2.2.1 nc.2.2.2.1 nc.2.2.2.2 e
  self := fun _ _ _ _ _ st h => wpAny_pyIter_zip st.z h
/-! the call -/
section
variable {prog : Program} {w : World} {A : Around} {E : Value → Shared → Prop} {s : Shared}
noncomputable abbrev zt1 (h : Heap) (a : Addr) : Heap := h.push { cls := .type "tuple_iterator", data := .fields #[.ref a, .int 0 0] }
noncomputable abbrev zt2 (h : Heap) (a b : Addr) : Heap := (zt1 h a).push { cls := .type "tuple_iterator", data := .fields #[.ref b, .int 0 0] }
noncomputable abbrev zt3 (h : Heap) (a b : Addr) : Heap := (zt2 h a b).push { cls := .type "tuple", data := .seq #[.ref h.objs.size, .ref (zt1 h a).objs.size] }
noncomputable abbrev zt4 (h : Heap) (a b : Addr) : Heap := (zt3 h a b).push { cls := .type "tuple", data := .seq #[.none, .none] }
noncomputable abbrev zt5 (h : Heap) (a b : Addr) : Heap := (zt4 h a b).push { cls := .type "zip", data := .fields #[.none, .bool false, .bool false, .ref (zt2 h a b).objs.size, .ref (zt3 h a b).objs.size] }
theorem zt_new (a b : Addr) (xs ys : Array Value) : Meets (Builtin.«zip.__new__» ⟨[.type "zip", .ref a, .ref b], []⟩) (fun _ R s => s.heap.IsTuple a xs ∧ s.heap.IsTuple b ys ∧ R (.ok (.ret (.ref (zt4 s.heap a b).objs.size))) { s with heap := zt5 s.heap a b }) :=
  .of_wp fun prog w A R s h => by
    obtain ⟨hp, g, d, tk, os⟩ := s
    obtain ⟨k1, k2, h⟩ := h
    have hsub := sub_zip
    have t1 : Heap.IsTuple (Shared.heap ⟨hp, g, d, tk, os⟩) a xs := k1
    have t2 : Heap.IsTuple (Shared.heap ⟨hp.push { cls := .type "tuple_iterator", data := .fields #[.ref a, .int 0 0] }, g, d, tk, os⟩) b ys := Heap.IsTuple.push k2 _
    wp_walk using wpAny_pyIter_tuple t1, wpAny_pyIter_tuple t2
    exact ⟨_, rfl, h⟩
theorem zt_call {a b : Addr} {xs ys : Array Value} {Q : Value → Shared → Prop} (k1 : s.heap.IsTuple a xs) (k2 : s.heap.IsTuple b ys)
    (h : ∀ h', Zp h' (s.heap.objs.size + 4) (s.heap.objs.size + 2) (s.heap.objs.size + 3) s.heap.objs.size (s.heap.objs.size + 1) a b .none 0 → (∀ c o, s.heap.get? c = some o → h'.get? c = some o) → Q (.ref (s.heap.objs.size + 4)) { s with heap := h' }) :
    wpAny (model prog w) A (call (.type "zip") [.ref a, .ref b]) Q E s := by
  refine callType_new F.called_zip (by decide) (F.typeCall_zip_2 _ _) (F.newCall_zip_2 _ _) (fun obj => F.args_object_init_3 obj _ _) F.entry_zip_new (zt_new a b xs ys) ⟨k1, k2, ?_⟩
  have e1 : (zt1 s.heap a).objs.size = s.heap.objs.size + 1 := Heap.size_push ..
  have e2 : (zt2 s.heap a b).objs.size = s.heap.objs.size + 2 := by rw [Heap.size_push, e1]
  have e3 : (zt3 s.heap a b).objs.size = s.heap.objs.size + 3 := by rw [Heap.size_push, e2]
  have e4 : (zt4 s.heap a b).objs.size = s.heap.objs.size + 4 := by rw [Heap.size_push, e3]
  have g5 : (zt5 s.heap a b).get? (zt4 s.heap a b).objs.size = some _ := Heap.get?_push_size _ rfl
  have g4 : (zt5 s.heap a b).get? (zt3 s.heap a b).objs.size = some _ := Heap.get?_push_of_some _ (Heap.get?_push_size _ rfl)
  have g3 : (zt5 s.heap a b).get? (zt2 s.heap a b).objs.size = some _ := Heap.get?_push_of_some _ (Heap.get?_push_of_some _ (Heap.get?_push_size _ rfl))
  have g2 : (zt5 s.heap a b).get? (zt1 s.heap a).objs.size = some _ := Heap.get?_push_of_some _ (Heap.get?_push_of_some _ (Heap.get?_push_of_some _ (Heap.get?_push_size _ rfl)))
  have g1 : (zt5 s.heap a b).get? s.heap.objs.size = some _ := Heap.get?_push_of_some _ (Heap.get?_push_of_some _ (Heap.get?_push_of_some _ (Heap.get?_push_of_some _ (Heap.get?_push_size _ rfl))))
  show _ ∧ _
  rw [e2, e3, e4] at g5
  rw [e1, e2] at g3
  rw [e3] at g4
  rw [e1] at g2
  rw [e4]
  exact ⟨⟨_, g5, rfl⟩, h _ ⟨g5, g3, ⟨_, _, g4⟩, ⟨_, g1, rfl, rfl⟩, ⟨_, g2, rfl, rfl⟩⟩ fun c o q => Heap.get?_push_of_some _ (Heap.get?_push_of_some _ (Heap.get?_push_of_some _ (Heap.get?_push_of_some _ (Heap.get?_push_of_some _ q))))⟩
end
theorem zpD_of (n : Nat) : ZpD (n + 4) (n + 2) (n + 3) n (n + 1) := by
  constructor <;> (intro h; have h : (_ : Nat) = (_ : Nat) := h; omega)
theorem itz_ok {K : PySem.W.Frag} {G : Hp} {a b : Addr} {vs us : List V} {ds es : List Dt} (hs : SqT K G a vs) (ht : SqT K G b us) (q : Reps K G ds vs) (q' : Reps K G es us) (hl : ds.length = es.length) : ItOk K (Itz K a b) G ((ds.zip es).map fun z => .tup [z.1, z.2]) := fun i G1 H s1 s2 => by
  have h1 := sqT_same s2 (sqT_same s1 hs)
  have h2 := sqT_same s2 (sqT_same s1 ht)
  refine ⟨fun d e => ?_, fun h => ⟨vs, h1, ?_⟩⟩
  · rw [List.getElem?_map] at e
    have hi : i < ds.length := by
      by_cases hi : i < ds.length
      · exact hi
      · rw [List.getElem?_eq_none (by rw [List.length_zip]; omega)] at e; cases e
    have z1 : ds[i]? = some ds[i] := by simp [hi]
    have z2 : es[i]? = some (es[i]'(by omega)) := by simp [show i < es.length by omega]
    obtain ⟨v, e1, e2⟩ := q.get z1
    obtain ⟨u, e3, e4⟩ := q'.get z2
    have ed : d = .tup [ds[i], es[i]'(by omega)] := by
      rw [(List.getElem?_zip_eq_some (z := (ds[i], es[i]'(by omega)))).mpr ⟨z1, z2⟩] at e
      exact (Option.some.inj e).symm
    refine ⟨⟨vs, us, v, u, h1, h2, e1, e3⟩, fun x H' y => ?_⟩
    obtain ⟨p, x', y', rfl, hp, rfl, k1, k2⟩ := y
    have kx := k1 vs h1
    have ky := k2 us h2
    rw [e1] at kx; rw [e3] at ky
    cases kx; cases ky
    have gr : Grow G1 H (upd G1 p (.tup [v, u])) (upd H p (.tup [v, u])) := .new s2 hp
    refine ⟨_, gr, ?_⟩
    rw [ed]
    unfold Rep
    exact ⟨p, [v, u], rfl, SqTP.of upd_same, Reps.cons ((e2.same s1).same gr.g) (Reps.cons ((e4.same s1).same gr.g) Reps.nil)⟩
  · rw [← q.length]
    simpa [hl] using h
section
variable {X : Cx} {C : Cn} {elts : List Expr} {x1 : Nat} {pt : Pos} {a b : Expr} {fa fb : De} {p pos : Pos}
end
end PV
end
section
set_option Elab.async false
set_option linter.all false
set_option maxRecDepth 100000
namespace PV
open PySem PySem.Spec L2
/-! ### sorted by a key, the keys ints and no two alike -/
section
variable {X : Cx} {pins : List (Addr × Obj)} {σ : L2.St} {H : Hp} {s : Shared}
end
end PV
end
section
set_option Elab.async false
set_option linter.all false
set_option maxRecDepth 100000
set_option maxHeartbeats 4000000
namespace PV
open PySem PySem.Spec L2 PyProof.Rows
section
variable {X : Cx} {pins : List (Addr × Obj)} {σ : L2.St} {H : Hp} {s : Shared}
variable {kS a : Addr} {kz : List Int} {vs : List Value} {xs : List V} {Θ : Hp → Prop} {e1 : Nat} {A : Around} {E : Value → Shared → Prop} {P : PySem.Fin → Shared → Prop}
noncomputable abbrev lo (ys : Array Value) (n : Nat) : Obj := seqObj "list" ys n
end
end PV
end
section
set_option Elab.async false
set_option linter.all false
set_option maxRecDepth 100000
set_option maxHeartbeats 4000000
namespace PV
open PySem PySem.Spec L2 PyProof.Rows
section
variable {X : Cx} {pins : List (Addr × Obj)} {σ : L2.St} {H : Hp} {s : Shared}
end
theorem putB_d {d : Dt} {bs : List B} : ∀ {ρ : Ev} {k : Nat}, putB [.d d] bs k ρ = ρ
  | [], _ => rfl
  | o :: r, k => by
    show (match posOf [.d d] k with | some j => bs[j]? | none => o) :: putB [.d d] bs (k + 1) r = _
    rw [putB_d (ρ := r)]; rfl
section
variable {X : Cx} {C : Cn} {CX : CXT} {k k' : Nat} {Fd : FD} {x : Str} {p pf kp pos : Pos} {a : Expr} {fa : De}
end
end PV
end
section
set_option Elab.async false
set_option linter.all false
set_option maxRecDepth 100000
namespace PV
open PySem PySem.Spec L2
/-! ### lists of lists of one's own -/
noncomputable def Acc2 (K : PySem.W.Frag) (H0 : Hp) (D : Addr) (G H : Hp) (w : Wn) (dss : List (List Dt)) (as : List Addr) : Prop :=
  (D :: as).Nodup ∧ Paired (fun b ds => H0 b = none ∧ G b = none ∧ w b = none ∧ ∃ us, H b = some (.lst us) ∧ Reps K G ds us) as dss
theorem Acc2.step {K : PySem.W.Frag} {H0 G H G' H' : Hp} {w w' : Wn} {D : Addr} {dss : List (List Dt)} {as : List Addr} (q : Acc2 K H0 D G H w dss as) (s : Step G H w G' H' w') : Acc2 K H0 D G' H' w' dss as :=
  ⟨q.1, paired_imp (fun b ds ⟨h1, h2, h3, us, h4, h5⟩ => by
    obtain ⟨k1, k2, k3⟩ := s.keep h2 h3 h4
    exact ⟨h1, k1, k2, us, k3, h5.same s.g⟩) q.2⟩
theorem paired_len {α β : Type} {F : α → β → Prop} : ∀ {l : List α} {r : List β}, Paired F l r → l.length = r.length
  | _, _, .nil => rfl
  | _, _, .cons _ t => by simp [paired_len t]
theorem Acc2.len {K : PySem.W.Frag} {H0 G H : Hp} {w : Wn} {D : Addr} {dss : List (List Dt)} {as : List Addr} (q : Acc2 K H0 D G H w dss as) : as.length = dss.length := paired_len q.2
section
variable {X : Cx} {C : Cn}
end
end PV
end
section
set_option Elab.async false
set_option linter.all false
set_option maxRecDepth 100000
namespace PV
open PySem PySem.Spec L2
section
variable {X : Cx} {C : Cn} {k : Expr} {fk : De} {pos ps py sp apos : Pos} {x y : Str}
end
end PV
end
section
set_option Elab.async false
set_option linter.all false
set_option maxRecDepth 100000
namespace PV
open PySem PySem.Spec L2
theorem bt_len : bootBuiltins "len" = some (.builtin "len") := PySem.boot_len
theorem bt_max : bootBuiltins "max" = some (.builtin "max") := PyProof.Rows.boot_max
theorem bt_min : bootBuiltins "min" = some (.builtin "min") := PyProof.Rows.boot_min
theorem bt_all : bootBuiltins "all" = some (.builtin "all") := PyProof.Rows.boot_all
theorem bt_isi : bootBuiltins "isinstance" = some (.builtin "isinstance") := PyProof.Rows.boot_isinstance
theorem bt_tuple : bootBuiltins "tuple" = some (.type "tuple") := by decide +kernel
theorem bt_list : bootBuiltins "list" = some (.type "list") := by decide +kernel
theorem bt_int : bootBuiltins "int" = some (.type "int") := by decide +kernel
theorem bt_bool : bootBuiltins "bool" = some (.type "bool") := by decide +kernel
section
variable {X : Cx} {C : Cn} {a b e : Expr} {fa fb : De} {p pos : Pos}
theorem c_len (hm : X.mg "len" = none) (ha : JE X C e fa) (hg : Gl X "len" := by rfl) (hs : starEach [e] X.env = (false, eval e X.env) :: starEach [] X.env := by rfl) (hpl : (backTo pos (starEach [] X.env)).any (·.1) = false := by rfl) : JE X C (.Call (.Name "len" p) [e] [] pos) (dFn gLen (dA fa dA0)) :=
  je_callB fn_len ne_len (call_len_seq.or call_len_str) hg hm bt_len (ja_cons ha ja_nil hs) (by decide) (by decide) hs hpl
theorem c_max2 (hc : X.calm = true) (hm : X.mg "max" = none) (ha : JE X C a fa) (hb : JE X C b fb) (hg : Gl X "max" := by rfl) (hs : starEach [a, b] X.env = (false, eval a X.env) :: starEach [b] X.env := by rfl) (hs2 : starEach [b] X.env = (false, eval b X.env) :: starEach [] X.env := by rfl) (hpl : (backTo pos (starEach [b] X.env)).any (·.1) = false := by rfl) : JE X C (.Call (.Name "max" p) [a, b] [] pos) (dFn gMax2 (dA fa (dA fb dA0))) :=
  je_callB fn_max2 ne_max2 (call_max2 hc) hg hm bt_max (ja_cons ha (ja_cons hb ja_nil hs2) hs) (by decide) (by decide) hs hpl
theorem c_min2 (hc : X.calm = true) (hm : X.mg "min" = none) (ha : JE X C a fa) (hb : JE X C b fb) (hg : Gl X "min" := by rfl) (hs : starEach [a, b] X.env = (false, eval a X.env) :: starEach [b] X.env := by rfl) (hs2 : starEach [b] X.env = (false, eval b X.env) :: starEach [] X.env := by rfl) (hpl : (backTo pos (starEach [b] X.env)).any (·.1) = false := by rfl) : JE X C (.Call (.Name "min" p) [a, b] [] pos) (dFn gMin2 (dA fa (dA fb dA0))) :=
  je_callB fn_min2 ne_min2 (call_min2 hc) hg hm bt_min (ja_cons ha (ja_cons hb ja_nil hs2) hs) (by decide) (by decide) hs hpl
theorem c_all (hc : X.calm = true) (hm : X.mg "all" = none) (ha : JE X C e fa) (hg : Gl X "all" := by rfl) (hs : starEach [e] X.env = (false, eval e X.env) :: starEach [] X.env := by rfl) (hpl : (backTo pos (starEach [] X.env)).any (·.1) = false := by rfl) : JE X C (.Call (.Name "all" p) [e] [] pos) (dFn gAll (dA fa dA0)) :=
  je_callB fn_all ne_all (call_allL hc) hg hm bt_all (ja_cons ha ja_nil hs) (by decide) (by decide) hs hpl
theorem c_tuple (hm : X.mg "tuple" = none) (ha : JE X C e fa) (hg : Gl X "tuple" := by rfl) (hs : starEach [e] X.env = (false, eval e X.env) :: starEach [] X.env := by rfl) (hpl : (backTo pos (starEach [] X.env)).any (·.1) = false := by rfl) : JE X C (.Call (.Name "tuple" p) [e] [] pos) (dFn gTuple (dA fa dA0)) :=
  je_callTy fn_tuple ne_tuple call_tuple_of hg hm bt_tuple (ja_cons ha ja_nil hs) (by decide) (by decide) hs hpl
theorem c_list (hm : X.mg "list" = none) (ha : JE X C e fa) (hg : Gl X "list" := by rfl) (hs : starEach [e] X.env = (false, eval e X.env) :: starEach [] X.env := by rfl) (hpl : (backTo pos (starEach [] X.env)).any (·.1) = false := by rfl) : JN X C (.Call (.Name "list" p) [e] [] pos) (dFnN gList (dA fa dA0)) :=
  jn_callTy fn_list ne_list call_list_of hg hm bt_list (ja_cons ha ja_nil hs) (by decide) (by decide) hs hpl
end
/-- a def that says nothing -/
theorem dfn_zero {nw : Bool} {P : Program} {w : World} {K : PySem.W.Frag} {mg : Str → Option Value} {base : Heap} {CX : CXT} {xv : Nat → Value} {k : Nat} {x qual : Str} {st : Stmt} {f : Addr} {fd : FuncData} {ps : List Str} {ks : List Bool} (hl : ps.length = ks.length) (U : Fun K x qual st f fd) (hm : mg x = some (.ref f)) (hb : Binds K fd ps []) :
    Dfn nw P w K mg base CX xv k x ks (fun _ => .no) :=
  ⟨f, fd, ps, ⟨fun vs H Q E ⟨_, _, _, h, _⟩ => h.trans hl.symm, fun _ _ _ _ _ _ _ _ _ _ _ _ _ ⟨_, _, _, _, _, _, h⟩ => False.elim h⟩, hm, U.kp, hb, fun bs h => absurd rfl h⟩
end PV
end
section
set_option Elab.async false
set_option linter.all false
set_option maxRecDepth 100000
namespace PV
open PySem PySem.Spec L2
theorem hu64 {k : Nat} {A : Around} (hr : Room k A) : A.units + 64 < cLine := by have := hr.un; omega
theorem hu65 {k : Nat} {A : Around} (hr : Room k A) : A.units + 65 < cLine := by have := hr.un; omega
theorem cellOk_of {names : List (Str × NameKind)} (h : (names.all fun y => y.2 != .cell) = true) : ∀ y ∈ names, y.2 ≠ .cell := fun y hy z => by
  rw [List.all_eq_true] at h
  have := h y hy
  rw [z] at this; simp at this
theorem nmOk_of {names : List (Str × NameKind)} (h : (names.all fun y => y.2 != .local || (names.lookup y.1 == some .local)) = true) : ∀ y ∈ names, y.2 = .local → names.lookup y.1 = some .local := fun y hy z => by
  rw [List.all_eq_true] at h
  have := h y hy
  rw [z] at this; simpa using this
theorem frOk_of {names : List (Str × NameKind)} {env : Env} (h : (names.all fun y => y.2 != .free || (env.kindOf y.1 == some .cell || env.kindOf y.1 == some .free)) = true) : ∀ y ∈ names, y.2 = .free → env.kindOf y.1 = some .cell ∨ env.kindOf y.1 = some .free := fun y hy z => by
  rw [List.all_eq_true] at h
  have := h y hy
  rw [z] at this; simpa using this
end PV
end
section
set_option Elab.async false
set_option linter.all false
set_option maxRecDepth 100000
namespace PV
open PySem PySem.Spec L2 PyProof.Rows
/-! ### errors: in the air behind a frame that was left, or just made -/
theorem hok_at {P : Program} {w : World} {H : Hp} {h h' : Heap} (x : HOk P w H h) (k : ∀ b u o, H b = some u → h.get? b = some o → h'.get? b = some o) : HOk P w H h' := fun a o e =>
  (x a o e).stay (fun b u hb q => by
    rcases hb with rfl | hb
    · exact k _ _ _ e q
    · exact k _ _ _ hb q) (fun _ z => z) fun _ _ z => z
theorem obj_at {P : Program} {w : World} {H : Hp} {h : Heap} {a : Addr} {o : HO} (x : ObjOk P w H h a o) : ∃ u, h.get? a = some u := by
  induction o with
  | lst xs => obtain ⟨_, _, _, _, e⟩ := x; exact ⟨_, e⟩
  | tup xs => obtain ⟨_, _, _, _, e⟩ := x; exact ⟨_, e⟩
  | dK kvs => obtain ⟨_, _, _, _, _, _, _, e, _⟩ := x; exact ⟨_, e⟩
  | dT kvs => obtain ⟨_, _, _, _, _, _, _, e, _⟩ := x; exact ⟨_, e⟩
  | set S n => obtain ⟨_, _, _, _, e, _⟩ := x; exact ⟨_, e⟩
  | ins C dx fs => obtain ⟨_, _, _, e, _⟩ := x; exact ⟨_, e⟩
  | own y => exact x
  | xd fs => obtain ⟨_, ⟨_, _, _, e, _⟩, _⟩ := x; exact ⟨_, e⟩
  | met f y => exact ⟨_, x⟩
  | rng lo hi => obtain ⟨_, _, _, e⟩ := x; exact ⟨_, e⟩
  | frz ob u ih => exact ⟨_, x.1⟩
  | tbl ps => exact ⟨_, x⟩
  | ext φ => exact x.2.1
/-- in the air: B is what is kept while it flies -/
noncomputable def CXf (P : Program) (w : World) : CXT := fun outer H s E e s' =>
  ∃ (l : Addr) (cls a0 : Value) (B : Heap) (H' : Hp), e = .ref l ∧ s'.os = s.os ∧ AllBare s'.gens ∧ Un (frs outer) [] H H' s.heap s'.heap ∧ HOk P w H' s'.heap ∧ Heap.FlyingW B outer l cls a0 s'.heap ∧
    (∀ b o, s.heap.get? b = some o → b ∉ frs outer → ∃ u, B.get? b = some u) ∧ (∀ b u, H' b = some u → ∃ o, B.get? b = some o) ∧ s.heap.get? l = none ∧ E cls none H'
/-- just made -/
noncomputable def CXm : CXT := fun _ H s E e s' => ∃ (l : Addr) (cls : Value) (args : List Value) (h' : Heap), e = .ref l ∧ s' = { s with heap := h' } ∧ Heap.MadeExcOf s.heap h' l cls args ∧ E cls none H
noncomputable def CXe (P : Program) (w : World) : CXT := fun outer H s E e s' => CXf P w outer H s E e s' ∨ CXm outer H s E e s'
theorem CXf.imp {P : Program} {w : World} {outer : List Env} {H : Hp} {s s' : Shared} {E E' : XK} {e : Value} (h : CXf P w outer H s E e s') (k : ∀ u a H', E u a H' → E' u a H') : CXf P w outer H s E' e s' := by
  obtain ⟨l, cls, a0, B, H', h1, h2, h3, h4, h5, h6, h7, h8, h9, h10⟩ := h
  exact ⟨l, cls, a0, B, H', h1, h2, h3, h4, h5, h6, h7, h8, h9, k _ _ _ h10⟩
theorem CXe.none {P : Program} {w : World} {outer : List Env} {H : Hp} {s s' : Shared} {e : Value} (h : CXe P w outer H s (fun _ _ _ => False) e s') : False := by
  rcases h with ⟨_, _, _, _, _, _, _, _, _, _, _, _, _, _, z⟩ | ⟨_, _, _, _, _, _, _, z⟩ <;> exact z
theorem frs_cons {env : Env} {outer : List Env} {L : Addr} (h : env.frame = some L) : frs (env :: outer) = L :: frs outer := by
  unfold frs; rw [List.filterMap_cons, h]
/-- an error leaves a frame: the frame of a def (or of a lambda) whose locals were made at the entry -/
theorem leave_air {P : Program} {w : World} {base : Heap} {A : Around} {env : Env} {outer : List Env} {s0 s1 s2 : Shared} {H0 H1 : Hp} {E E' : XK} {e : Value}
    (hf : env.frame = some env.locals) (hfr : A.frames = some (env :: outer)) (hL : s0.heap.objs.size ≤ env.locals) (os1 : s1.os = s0.os) (bare1 : AllBare s1.gens) (u01 : Un (frs outer) [] H0 H1 s0.heap s1.heap) (frf : ∀ b ∈ frs outer, H0 b = none)
    (fun1 : s1.heap.FunFrames base (env :: outer)) (hok1 : HOk P w H1 s1.heap) (fr1 : ∀ b ∈ frs (env :: outer), H1 b = none) (hx : CXe P w (env :: outer) H1 s1 E' e s2) (hE : ∀ u a H', E' u a H' → E u a H') {M : Model} {EE : Value → Shared → Prop} :
    wpAny M A (leaving env e) (fun _ s3 => CXf P w outer H0 s0 E e s3) EE s2 := by
  have inS : ∀ {b : Addr} {o : Obj}, s0.heap.get? b = some o → b ∉ frs outer → b ∉ frs (env :: outer) := fun {b o} e1 h1 h2 => by
    rw [frs_cons hf] at h2
    rcases List.mem_cons.mp h2 with z | z
    · have := Heap.lt_size e1
      rw [z] at this
      exact absurd (Nat.lt_of_lt_of_le this hL) (Nat.lt_irrefl _)
    · exact h1 z
  have newS : ∀ {b : Addr}, s1.heap.get? b = none → s0.heap.get? b = none := fun {b} e1 => by
    cases q : s0.heap.get? b with
    | none => rfl
    | some o => obtain ⟨o', e2⟩ := u01.there b o q (by simp); rw [e1] at e2; cases e2
  have outS : ∀ {b : Addr}, b ∈ frs outer → b ∈ frs (env :: outer) := fun {b} h => by rw [frs_cons hf]; exact List.mem_cons_of_mem _ h
  rcases hx with ⟨l, cls, a0, B, H', rfl, os, bare, un, hok, fl, hb1, hb2, hnw, he⟩ | ⟨l, cls, args, h', rfl, rfl, hm, he⟩
  · refine wpAny_leaves_onW (base := B) hfr hf fl fun h3 fl3 up => ?_
    have at3 : ∀ {b : Addr} {u : Obj}, B.get? b = some u → s2.heap.get? b = some u ∧ h3.get? b = some u := fun {b u} e => ⟨fl.1 b u e, fl3.1 b u e⟩
    have slot : ∀ b o, s0.heap.get? b = some o → b ∈ frs outer → ∃ sl, h3.get? b = some { o with slots := sl } := fun b o e1 hb => by
      obtain ⟨sl1, e2⟩ := u01.slot b o e1 (frf b hb) hb (by simp)
      obtain ⟨sl2, e3⟩ := un.slot b _ e2 (u01.free b o e1 (frf b hb) (by simp)) (outS hb) (by simp)
      obtain ⟨_, o4, e4, d4⟩ := fl.2.2.1.mem (b := b) (outS hb)
      rw [e3] at e4; cases e4
      obtain ⟨sl3, e5⟩ := up b _ e3 d4
      exact ⟨sl3, e5⟩
    have hb1' : ∀ b o, s0.heap.get? b = some o → b ∉ frs outer → ∃ u, B.get? b = some u := fun b o e1 hb => by
      obtain ⟨o1, e2⟩ := u01.there b o e1 (by simp)
      exact hb1 b o1 e2 (inS e1 hb)
    refine ⟨l, cls, a0, B, H', rfl, os.trans os1, bare, ⟨fun b o e1 n hb _ => ?_, fun b o e1 n hb _ => slot b o e1 hb, fun b o e1 n _ => ?_, fun b o e1 _ => ?_, fun b xs q => un.tups b xs (u01.tups b xs q), fun b o u q => un.frzs b o u (u01.frzs b o u q), fun b ps q => ?_⟩, hok_at hok fun b u o q1 q2 => ?_, fl3, hb1', hb2, newS hnw, hE _ _ _ he⟩
    · have e2 := u01.keep b o e1 n hb (by simp)
      have n2 := u01.free b o e1 n (by simp)
      have e3 := un.keep b o e2 n2 (inS e1 hb) (by simp)
      obtain ⟨u, hu⟩ := hb1' b o e1 hb
      obtain ⟨q1, q2⟩ := at3 hu
      rw [e3] at q1; cases q1; exact q2
    · obtain ⟨o1, e2⟩ := u01.there b o e1 (by simp)
      exact un.free b o1 e2 (u01.free b o e1 n (by simp)) (by simp)
    · by_cases hb : b ∈ frs outer
      · obtain ⟨sl, e2⟩ := slot b o e1 hb; exact ⟨_, e2⟩
      · obtain ⟨u, hu⟩ := hb1' b o e1 hb; exact ⟨u, (at3 hu).2⟩
    · obtain ⟨m1, e1⟩ := u01.tbls b ps q
      obtain ⟨m2, e2⟩ := un.tbls b _ e1
      exact ⟨m1 ++ m2, by rw [e2, Array.append_assoc]⟩
    · obtain ⟨o', ho'⟩ := hb2 b u q1
      obtain ⟨z1, z2⟩ := at3 ho'
      rw [q2] at z1; cases z1; exact z2
  · -- just made
    let fs := frs (env :: outer)
    have hin : ∀ x ∈ env :: outer, ∀ a, x.frame = some a → a ∈ fs := fun x hx a ha => List.mem_filterMap.mpr ⟨x, hx, ha⟩
    refine wpAny_leaves_madeW (base := PySem.W.hideAll s1.heap fs) (h := s1.heap) hfr hf (fun b o q => PySem.W.of_hideAll _ q) (PySem.W.funFrames_hide fun1 hin) hm fun h3 t fl3 _ _ up => ?_
    have at3 : ∀ {b : Addr} {u : Obj}, s1.heap.get? b = some u → b ∉ fs → h3.get? b = some u := fun {b u} e n => fl3.1 b u (PySem.W.hideAll_get _ e n)
    have slot : ∀ b o, s0.heap.get? b = some o → b ∈ frs outer → ∃ sl, h3.get? b = some { o with slots := sl } := fun b o e1 hb => by
      obtain ⟨sl1, e2⟩ := u01.slot b o e1 (frf b hb) hb (by simp)
      obtain ⟨_, o4, e4, d4⟩ := fun1.mem (b := b) (outS hb)
      rw [e2] at e4; cases e4
      obtain ⟨sl3, e5⟩ := up b _ (hm.keeps _ _ e2) d4
      exact ⟨sl3, e5⟩
    have hb1' : ∀ b o, s0.heap.get? b = some o → b ∉ frs outer → ∃ u, (PySem.W.hideAll s1.heap fs).get? b = some u := fun b o e1 hb => by
      obtain ⟨o1, e2⟩ := u01.there b o e1 (by simp)
      exact ⟨o1, PySem.W.hideAll_get _ e2 (inS e1 hb)⟩
    have tr : ∀ b u, H1 b = some u → b ∉ fs := fun b u e z => by rw [fr1 b z] at e; cases e
    refine ⟨l, cls, .ref t, PySem.W.hideAll s1.heap fs, H1, rfl, os1, bare1, ⟨fun b o e1 n hb _ => at3 (u01.keep b o e1 n hb (by simp)) (inS e1 hb), fun b o e1 n hb _ => slot b o e1 hb, fun b o e1 n _ => u01.free b o e1 n (by simp), fun b o e1 _ => ?_, u01.tups, u01.frzs, u01.tbls⟩, hok_at hok1 fun b u o q1 q2 => at3 q2 (tr b u q1), fl3, hb1', fun b u q => ?_, newS hm.new, hE _ _ _ he⟩
    · by_cases hb : b ∈ frs outer
      · obtain ⟨sl, e2⟩ := slot b o e1 hb; exact ⟨_, e2⟩
      · obtain ⟨u, hu⟩ := hb1' b o e1 hb; exact ⟨u, fl3.1 b u hu⟩
    · obtain ⟨o, ho⟩ := obj_at (hok1 b u q)
      exact ⟨o, PySem.W.hideAll_get _ ho (tr b u q)⟩
/-- errors of callees, and those that are made here, leave the frame of a def -/
theorem leavesE {P : Program} {w : World} {K : PySem.W.Frag} {mg : Str → Option Value} {base : Heap} : Leaves (CXe P w) P w K mg base := fun N qual scope f cdv A outer s H E E' hk hE pins σ H1 s1 e s2 I hx => by
  have I' := I
  refine wpAny_mono (leave_air (base := base) (s0 := s) (H0 := H) (E := E) rfl I.ok.frames (Nat.le_refl _) I.os I.bare I.base I.ok.frf I.stack I.hok I.stkFree hx hE) (fun _ s3 h => .inl h) fun _ _ h => h
/-! ### raise -/
noncomputable def dRaise (n : Nat) (f : DA) : DS := fun ρ => (f ρ).bind fun a => if fits a.1 = true then .er n else .no
/-- a class of errors of one's own, in the module -/
structure Xcls (K : PySem.W.Frag) (C : Addr) : Prop where
  ex : ∃ bm N nm q bs hdct sn sub ab col dd k0 k1 k2 k3 k5, K.lookup C = some (excClassObj nm q C N bs bm hdct sn sub ab col dd k0 k1 k2 k3 k5 "ValueError.__new__") ∧ (∀ h : Heap, K.In h → ∃ mN, h.Ns N mN ∧ mN "__init__" = none) ∧ (∀ h : Heap, K.In h → OwnTail h [.type "ValueError", .type "Exception", .type "BaseException", .type "object"] bm)
section
variable {X : Cx} {C : Cn} {x : Str} {Cc : Addr} {np cpos pos : Pos} {e : Expr} {es : List Expr} {fa : DA} {n : Nat} {P : Program} {w : World}
theorem js_raise (hx : Passes (CXe P w) X (EXc C)) (hc : X.calm = true) (hcl : Xcls X.K Cc) (hm : X.mg x = some (.ref Cc)) (hxv : C.xv n = .ref Cc) (ha : JA X C (e :: es) fa) (hg : Gl X x := by rfl) (hd : (x == ("__debug__" : Str)) = false := by decide)
    (he : starEach (e :: es) X.env = (false, eval e X.env) :: starEach es X.env := by rfl) (hpl : (backTo cpos (starEach es X.env)).any (·.1) = false := by rfl) : JS X C (.Raise (some (.Call (.Name x np) (e :: es) [] cpos)) none pos) (dRaise n fa) := by
  intro pins s σ H D I ⟨G, w1, ρ, r, p⟩
  obtain ⟨tl, N, nm, q, bs, hdct, sn, sub, ab, col, dd, k0, k1, k2, k3, k5, lk, hN, hT⟩ := hcl.ex
  obtain ⟨mN, hNs, hni⟩ := hN _ I.mod.kin
  refine wpAny_Raise_call_subT (C := Cc) (nm := nm) (q := q) (N := N) (bs := bs) (bm := tl) (hdct := hdct) (sn := sn) (sub := sub) (ab := ab) (col := col) (dd := dd) (k0 := k0) (k1 := k1) (k2 := k2) (k3 := k3) (k5 := k5)
    F.excBase_ValueError (mN := mN) ((hT _ I.kIn).hasType F.excBase_ValueError.hasBase) (I.ok.hd hc) (by rw [he]; show (false || (backTo cpos (starEach es X.env)).any (·.1)) = false; rw [hpl]; rfl) hni (ld_glob I hg hm ⟨rfl, ?_⟩ hd)
  suffices hh : wpAny (model X.prog X.w) X.A (spliced (backTo cpos (starEach (e :: es) X.env))) (fun vs s₂ => ([] : List (Str × Value)) = [] ∧ vs.length ≤ sizeLine ∧ s₂.heap.get? Cc = some (excClassObj nm q Cc N bs tl hdct sn sub ab col dd k0 k1 k2 k3 k5 "ValueError.__new__") ∧ s₂.heap.Ns N mN ∧ OwnTail s₂.heap [.type "ValueError", .type "Exception", .type "BaseException", .type "object"] tl ∧
      ∀ h' a, Heap.MadeExcOf s₂.heap h' a (.ref Cc) vs → X.xe (.ref a) { s₂ with heap := h' }) X.xe s by
    rw [he] at hh ⊢
    exact Calls.evalArgs_plain hh
  refine thn (ha cpos pins s σ H (fun vs H2 => vs.length ≤ sizeLine ∧ EXc C (.ref Cc) none H2) I ?_) fun us s2 ⟨vs, H2, I2, rv, hz, hE⟩ => ⟨rfl, by rw [← rv.length]; exact hz, I2.kIn _ _ lk, hNs.keeps I2.bk, hT _ I2.kIn, fun h' a hm' => ?_⟩
  · refine ⟨G, w1, ρ, r, ?_⟩
    have p' : Post C.ex (kS X.K C D G H w1) ((fa ρ).bind fun a => if fits a.1 = true then R.er n else .no) := p
    cases ef : fa ρ with
    | ok z =>
      rw [ef, R.bind_ok] at p'
      intro vs G' H' w' st rel q1
      by_cases hf : fits z.1 = true
      · rw [if_pos hf] at p'
        exact ⟨by rw [← q1.length]; exact fits_le hf, rfl, n, hxv.symm, p', G', w', r.en.trans st⟩
      · rw [if_neg hf] at p'; exact p'.elim
    | er m => rw [ef] at p'; exact p'
    | no => rw [ef] at p'; exact p'.elim
  · exact hx pins σ H2 s2 (.ref a) _ I2 (.inr ⟨a, .ref Cc, us, h', rfl, rfl, hm', hE⟩)
end
end PV
end
section
set_option Elab.async false
set_option linter.all false
set_option maxRecDepth 100000
namespace PV
open PySem PySem.Spec L2 PyProof.Rows
/-! ### the class of an error that was caught -/
noncomputable abbrev bmV : List Value := [.type "ValueError", .type "Exception", .type "BaseException", .type "object"]
/-- what is asked of a class of errors -/
structure Xin (K : PySem.W.Frag) (D : Addr) : Prop where
  exc : PySem.W.excIn K D bmV "ValueError.__new__" = true
  ga : PySem.W.findIn K (.ref D) "__getattribute__" = some (some (.builtin "BaseException.__getattribute__"))
  gh : PySem.W.findIn K (.ref D) "__getattr__" = some none
  gc : PySem.W.findIn K (.ref D) "__class__" = some (some (.builtin "object.__class__"))
  mb : PySem.W.subIn K (.ref D) (.type "BaseException") = some true
theorem exc_parts {K : PySem.W.Frag} {C : Addr} (q : PySem.W.excIn K C bmV "ValueError.__new__" = true) : ∃ bm N nm qn bs hd sn sub ab col dd k0 k1 k2 k3 k5,
    K.lookup C = some (excClassObj nm qn C N bs bm hd sn sub ab col dd k0 k1 k2 k3 k5 "ValueError.__new__") ∧ PySem.W.tailIn K bmV bm = true ∧ PySem.W.nsOkIn K N = true ∧ PySem.W.nsIn K N "__init__" = some none := by
  unfold PySem.W.excIn at q
  split at q
  · rename_i dd cd sl lk
    split at q
    · rename_i C2 bm k0 k1 k2 k3 mk k5 em es
      simp only [Bool.and_eq_true, beq_iff_eq, Bool.not_eq_true'] at q
      obtain ⟨⟨⟨⟨⟨e1, e2⟩, e3⟩, e4⟩, e5⟩, e6⟩ := q
      subst e1 e2
      obtain ⟨nm, bs, mro, ns, qn, hd, sn, sub, ab, col, del⟩ := cd
      obtain ⟨sll⟩ := sl
      dsimp only at em es e3 e5 e6
      subst em e3 es
      exact ⟨bm, ns, nm, qn, bs, hd, sn, sub, ab, col, dd, k0, k1, k2, k3, k5, lk, e4, e5, e6⟩
    · cases q
  · cases q
theorem Xin.cls {K : PySem.W.Frag} {C : Addr} (x : Xin K C) : Xcls K C := by
  obtain ⟨bm, N, nm, qn, bs, hd, sn, sub, ab, col, dd, k0, k1, k2, k3, k5, lk, e4, e5, e6⟩ := exc_parts x.exc
  exact ⟨bm, N, nm, qn, bs, hd, sn, sub, ab, col, dd, k0, k1, k2, k3, k5, lk, fun h X => ⟨_, .of_isNs (PySem.W.isNs_of_in X e5), PySem.W.nsMap_none_of_in X e5 e6⟩, fun h X => PySem.W.tail_of_in X e4⟩
section
variable {prog : Program} {w : World} {A : Around} {E : Value → Shared → Prop} {hh : Heap} {gg : Array GenState} {dr : Drawn} {tt : Nat} {os : OsState} {l C : Addr} {ob : Obj} {K : PySem.W.Frag}
/-- the getter of __class__ -/
theorem xc_get {R : Result → Shared → Prop} (x : Xin K C) (X : K.In hh) (hl : hh.get? l = some ob) (hcl : ob.cls = .ref C) (hR : R (.ok (.ret (.ref C))) ⟨hh, gg, dr, tt, os⟩) :
    codeAny (model prog w) A (.call (.builtin "getset_descriptor.__get__") ⟨[.builtin "object.__class__", .ref l, .ref C], []⟩) R ⟨hh, gg, dr, tt, os⟩ := by
  obtain ⟨bm, N, nm, qn, bs, hd, sn, sub, ab, col, dd, k0, k1, k2, k3, k5, lk, e4, e5, e6⟩ := exc_parts x.exc
  have hCl := X _ _ lk
  have TL := PySem.W.tail_of_in X e4
  have ty5 : (⟨hh, gg, dr, tt, os⟩ : Shared).TypeIs (.builtin "object.__class__") "getset_descriptor" := F.typeOf_object_class
  have inO : (Value.ref C :: bm).contains (.type (".".intercalate ("object.__class__".cutAt '.').dropLast)) = true := by
    rw [F.owner_object_class, List.contains_cons, TL.hasType (b := true) (by decide)]; rfl
  refine codeAny_call_builtin F.slot_gs_get.plain F.entry_gs_get (F.slot_gs_get.check _ _ _ _ _ _ _ _ ty5 (F.args_gs_get _ _ _) ?_)
  repeat (any_goals (first | (with_reducible refine wpAny_loadPart_at hl ?_; rw [hcl]) | (with_reducible refine wpAny_isSubtype_exc hCl ?_; rw [inO]) | assumption | wp_step))
  refine ⟨Code.quiet_builtin _ (by decide +kernel), codeAny_builtin F.entry_object_class ?_⟩
  repeat (any_goals (first | (with_reducible refine wpAny_loadPart_at hl ?_; rw [hcl]) | assumption | wp_step))
theorem xc_entry {tk : Tok} {Q : Fin → Shared → Prop} (x : Xin K C) (X : K.In hh) (hl : hh.get? l = some ob) (hcl : ob.cls = .ref C) (hQ : Q (.done (.ret (.ref C))) ⟨hh, gg, dr, tt, os⟩) :
    wpAny (model prog w) A (Builtin.«object.__getattribute__» ⟨[.ref l, .str "__class__" tk], []⟩) Q E ⟨hh, gg, dr, tt, os⟩ := by
  have ty5 : (⟨hh, gg, dr, tt, os⟩ : Shared).TypeIs (.builtin "object.__class__") "getset_descriptor" := F.typeOf_object_class
  have to5 := F.typeOf_object_class
  have lk6 := F.slot_gs_get.lookup
  have lk7 := F.slot_gs_set.lookup
  have L1 := PySem.W.looks_findIn (M := model prog w) X x.gc
  repeat (any_goals (first | (with_reducible refine wpAny_loadPart_at hl ?_; rw [hcl]) | (with_reducible refine L1.at ?_) | assumption | wp_step))
  refine xc_get x X hl hcl ?_
  repeat (any_goals (first | assumption | wp_step))
theorem xc_type {M : Model} (hl : hh.get? l = some ob) (hcl : ob.cls = .ref C) : PySem.W.Looks M hh (typeOf (.ref l)) (.ref C) := hcl ▸ (PySem.W.Looks.ld hl).andThen .now
theorem xc_check {M : Model} {nameV : Value} {Q : Unit → Shared → Prop} (x : Xin K C) (X : K.In hh) (hl : hh.get? l = some ob) (hcl : ob.cls = .ref C) (hQ : Q () ⟨hh, gg, dr, tt, os⟩) :
    wpAny M A (checkBuiltinCall "BaseException.__getattribute__" ⟨[.ref l, nameV], []⟩) Q E ⟨hh, gg, dr, tt, os⟩ := by
  have e1 : builtinKind "BaseException.__getattribute__" = some .slot := by decide +kernel
  have e2 : splitId "BaseException.__getattribute__" = some ("BaseException", "__getattribute__") := by decide +kernel
  have e3 := F.args_bexc_ga (.ref l) nameV
  have e4 : PySem.W.Looks M hh (isInstance (.ref l) (.type "BaseException")) true := by
    unfold isInstance
    exact (xc_type hl hcl).andThen (PySem.W.looks_subIn X x.mb)
  simp only [checkBuiltinCall, e1, e2]
  refine wpAny_bind (PySem.W.Looks.at e4 ?_)
  repeat (first | exact hQ | wp_step)
theorem xc_by {tk : Tok} {Q : Value → Shared → Prop} (x : Xin K C) (X : K.In hh) (hl : hh.get? l = some ob) (hcl : ob.cls = .ref C) (hQ : Q (.ref C) ⟨hh, gg, dr, tt, os⟩) :
    wpAny (model prog w) A (getAttrBy (.ref l) (.str "__class__" tk) false false) Q E ⟨hh, gg, dr, tt, os⟩ := by
  have fb := F.attrBase_ValueError.ga.bind (.ref l)
  have n0 : (false && onTheHeap (Value.builtin "BaseException.__getattribute__")) = false := rfl
  have n2 : (Value.builtin "BaseException.__getattribute__" == Value.builtin "object.__getattribute__") = false := by decide +kernel
  have n1 : (onTheHeap (Value.ref C) && Value.builtin "BaseException.__getattribute__" == Value.builtin "object.__getattribute__") = false := by rw [n2]; rfl
  have L1 := PySem.W.looks_findIn (M := model prog w) X x.ga
  have L2 := PySem.W.looks_findIn (M := model prog w) X x.gh
  repeat (any_goals (first | (with_reducible refine wpAny_loadPart_at hl ?_; rw [hcl]) | (with_reducible refine PySem.W.Looks.at L1 ?_) | (with_reducible refine PySem.W.Looks.at L2 ?_) | assumption | wp_step))
  refine codeAny_call_builtin F.attrBase_ValueError.ga.plain F.entry_bexc_ga (xc_check x X hl hcl (xc_entry x X hl hcl ?_))
  repeat (any_goals (first | assumption | wp_step))
theorem xc_attr {Q : Option Value → Shared → Prop} (x : Xin K C) (X : K.In hh) (hl : hh.get? l = some ob) (hcl : ob.cls = .ref C) (hQ : Q (some (.ref C)) ⟨hh, gg, dr, tt + 1, os⟩) :
    wpAny (model prog w) A (getAttr? (.ref l) "__class__") Q E ⟨hh, gg, dr, tt, os⟩ := by
  unfold getAttr? getAttrBy?
  repeat (any_goals (first | (with_reducible apply xc_by x X hl hcl) | assumption | wp_step))
end
noncomputable def XAt (l C : Addr) (h : Heap) : Prop := ∃ o vs, h.get? l = some o ∧ o.cls = .ref C ∧ o.data = .fields vs
theorem kitx_exc {K : PySem.W.Frag} {l C : Addr} (x : Xin K C) : PySem.W.KitX K (.ref l) (.ref C) (XAt l C) where
  ty := fun M h X ⟨o, vs, h1, h2, h3⟩ => xc_type h1 h2
  it := fun M h X _ => by
    obtain ⟨bm, N, nm, qn, bs, hd, sn, sub, ab, col, dd, k0, k1, k2, k3, k5, lk, e4, e5, e6⟩ := exc_parts x.exc
    intro A' Q' E' s' k q
    unfold isType loadHead
    exact wpAny_bind (wpAny_loadPart (k _ _ (X _ _ lk)) (wpAny_pure q))
  ne := fun h tp dd its n sl X htp => by
    obtain ⟨bm, N, nm, qn, bs, hd, sn, sub, ab, col, dd', k0, k1, k2, k3, k5, lk, e4, e5, e6⟩ := exc_parts x.exc
    refine Bool.eq_false_iff.mpr fun q => ?_
    obtain rfl : C = tp := Value.ref.inj (beq_iff_eq.mp q)
    have z := congrArg Obj.cls (Option.some.inj ((X _ _ lk).symm.trans htp))
    simp [excClassObj] at z
  ca := fun {prog w A E Q s} X ⟨o, vs, h1, h2, h3⟩ k => by
    obtain ⟨hh, gg, dr, tt, os⟩ := s
    exact xc_attr x X h1 h2 k
/-! ### isinstance(error, C) -/
noncomputable def dXis (i : Nat) (C : Addr) (b : Bool) : De := fun ρ => match ρ[i]? with
  | some (some (.exc C')) => if C' = C then .ok (.bl b, ρ) else .no
  | _ => .no
section
variable {X : Cx} {C : Cn} {i : Nat} {Cc C2 : Addr} {b : Bool} {x x2 : Str} {p px p2 pos : Pos}
theorem call_xis {v2 : V} {u2 : Value} (hxi : Xin X.K Cc) (hu : ∀ u, RelV v2 u → u = u2) (hq : PySem.W.kitOne X.K (.ref Cc) u2 = some b) : CallR X (.builtin "isinstance") (fun xs H Q => ∃ l, xs = [.ref l, v2] ∧ H l = some (xHO l Cc) ∧ Q (.bl b) H) := by
  intro pins s σ H xs us Q I r h
  obtain ⟨l, rfl, hl, q⟩ := h
  obtain ⟨u, u', rfl, r1, r2⟩ := vals2 r
  cases r1
  obtain rfl := hu u' r2
  have ok : ObjOk X.prog X.w H s.heap l (xHO l Cc) := I.hok l _ hl
  exact PySem.W.kia_one (kitx_exc hxi) I.kIn ok.1 hq (by simp) fun tk => ⟨.bl b, H, I.tok tk, rfl, q⟩
theorem xis_read {σ : L2.St} {H : Hp} {Q : VK} {v2 : V} (h : tE X.K C (dXis i Cc b) σ H Q) : ∃ v, σ[i]? = some (some v) ∧ ∃ l, v = .ref l ∧ H l = some (xHO l Cc) ∧ Q (.bl b) H := by
  obtain ⟨G, w, ρ, r, p⟩ := h
  unfold dXis at p
  split at p
  · rename_i C' e
    split at p
    · rename_i hC
      subst hC
      obtain ⟨v, h1, l, h2, h3⟩ := r.sl i _ e
      exact ⟨v, h1, l, h2, r.gh _ _ h3, p _ G H w (.refl _ _ _) r (rep_is_bl _)⟩
    · exact p.elim
  · exact p.elim
/-- of a class of one's own -/
theorem je_xis (i : Nat) (hxi : Xin X.K Cc) (hq : PySem.W.kitOne X.K (.ref Cc) (.ref C2) = some b) (hg : Gl X "isinstance") (hm : X.mg "isinstance" = none) (hg2 : Gl X x2) (hm2 : X.mg x2 = some (.ref C2)) (hN : X.N[i]? = some x := by rfl) (hvs : Vis X.env.scope x := by first | exact Or.inl rfl | exact Or.inr (Or.inl rfl) | exact Or.inr (Or.inr rfl))
    (hd : (x == ("__debug__" : Str)) = false := by decide) (hcd : (x == ("__classdict__" : Str)) = false := by decide) (hv : bootBuiltins "isinstance" = some (.builtin "isinstance") := by rfl) (hn : ("isinstance" : Str) ≠ "__name__" := by decide) (hdb : (("isinstance" : Str) == ("__debug__" : Str)) = false := by decide) (hdb2 : (x2 == ("__debug__" : Str)) = false := by decide)
    (hs : starEach [.Name x px, .Name x2 p2] X.env = (false, eval (.Name x px) X.env) :: starEach [.Name x2 p2] X.env := by rfl) (hs2 : starEach [.Name x2 p2] X.env = (false, eval (.Name x2 p2) X.env) :: starEach [] X.env := by rfl) (hpl : (backTo pos (starEach [.Name x2 p2] X.env)).any (·.1) = false := by rfl) :
    JE X C (.Call (.Name "isinstance" p) [.Name x px, .Name x2 p2] [] pos) (dXis i Cc b) :=
  PE.weak (pe_callB (call_xis (v2 := .ref C2) hxi (fun u h => h) hq) hg hm hv (pa_cons (pe_var hN hvs hd hcd) (pa_cons (pe_glob (v := .ref C2) hg2 hm2 rfl hdb2) pa_nil hs2) hs) hn hdb hs hpl) fun σ H Q h => by
    obtain ⟨v, h1, l, rfl, h2, h3⟩ := xis_read (v2 := .ref C2) h
    exact ⟨_, h1, l, rfl, h2, h3⟩
/-- of a built-in class -/
theorem je_xisT {T : String} (i : Nat) (hxi : Xin X.K Cc) (hq : PySem.W.kitOne X.K (.ref Cc) (.type T) = some b) (hg : Gl X "isinstance") (hm : X.mg "isinstance" = none) (hg2 : Gl X x2) (hm2 : X.mg x2 = none) (hv2 : bootBuiltins x2 = some (.type T)) (hN : X.N[i]? = some x := by rfl) (hvs : Vis X.env.scope x := by first | exact Or.inl rfl | exact Or.inr (Or.inl rfl) | exact Or.inr (Or.inr rfl))
    (hd : (x == ("__debug__" : Str)) = false := by decide) (hcd : (x == ("__classdict__" : Str)) = false := by decide) (hv : bootBuiltins "isinstance" = some (.builtin "isinstance") := by rfl) (hn : ("isinstance" : Str) ≠ "__name__" := by decide) (hdb : (("isinstance" : Str) == ("__debug__" : Str)) = false := by decide) (hn2 : x2 ≠ "__name__" := by decide) (hdb2 : (x2 == ("__debug__" : Str)) = false := by decide)
    (hs : starEach [.Name x px, .Name x2 p2] X.env = (false, eval (.Name x px) X.env) :: starEach [.Name x2 p2] X.env := by rfl) (hs2 : starEach [.Name x2 p2] X.env = (false, eval (.Name x2 p2) X.env) :: starEach [] X.env := by rfl) (hpl : (backTo pos (starEach [.Name x2 p2] X.env)).any (·.1) = false := by rfl) :
    JE X C (.Call (.Name "isinstance" p) [.Name x px, .Name x2 p2] [] pos) (dXis i Cc b) :=
  PE.weak (pe_callB (call_xis (v2 := .ty T) hxi (fun u h => h) hq) hg hm hv (pa_cons (pe_var hN hvs hd hcd) (pa_cons (pe_bltn (v := .ty T) hg2 hm2 hv2 rfl hn2 hdb2) pa_nil hs2) hs) hn hdb hs hpl) fun σ H Q h => by
    obtain ⟨v, h1, l, rfl, h2, h3⟩ := xis_read (v2 := .ty T) h
    exact ⟨_, h1, l, rfl, h2, h3⟩
end
end PV
end
section
set_option Elab.async false
set_option linter.all false
set_option maxRecDepth 100000
namespace PV
open PySem PySem.Spec L2 PyProof.Rows
/-! ### a lambda without parameters: its body runs among the names of the def around it -/
/-- XR: where it is called; N: the names around its text -/
noncomputable def lamCx (XR : Cx) (N : List Str) (scope : Scope) (cl : List (Str × Addr)) (qual : Str) (Fa : Addr) (cdv : Value) (s : Shared) (H : Hp) (E : XK) : Cx where
  prog := XR.prog
  w := XR.w
  K := XR.K
  mg := XR.mg
  base := XR.base
  A := XR.A.deeper (PySem.W.envX qual scope s.heap.objs.size Fa cdv cl)
  N := N
  s₀ := s
  H₀ := H
  env := PySem.W.envX qual scope s.heap.objs.size Fa cdv cl
  outer := XR.stack
  stack := PySem.W.envX qual scope s.heap.objs.size Fa cdv cl :: XR.stack
  ex := []
  fn := fun _ => false
  calm := true
  pn := []
  xe := fun e s' => wpAny (model XR.prog XR.w) (XR.A.deeper (PySem.W.envX qual scope s.heap.objs.size Fa cdv cl)) (leaving (PySem.W.envX qual scope s.heap.objs.size Fa cdv cl) e) (fun _ s'' => CXf XR.prog XR.w XR.stack H s E e s'') (fun _ _ => False) s'
/-- its names are names around it, or of the module -/
noncomputable def lamOk (names : List (Str × NameKind)) : Bool := names.all fun y => match y.2 with
  | .free => true
  | .globalImplicit => true
  | _ => false
theorem lamOk_kind {names : List (Str × NameKind)} (h : lamOk names = true) {x : Str} {k : NameKind} (e : names.lookup x = some k) : k = .free ∨ k = .globalImplicit := by
  have q := List.all_eq_true.mp h (x, k) (mem_of_lookup' e)
  cases k <;> simp at q <;> simp
/-- what is known of the cells around it -/
structure LamCells (N : List Str) (names : List (Str × NameKind)) (cl : List (Str × Addr)) (σ : L2.St) (H : Hp) (h : Heap) : Prop where
  inj : ∀ x y c, cl.lookup x = some c → cl.lookup y = some c → x = y
  has : ∀ x, names.lookup x = some .free → ∃ c, cl.lookup x = some c
  is : ∀ x c, cl.lookup x = some c → (∃ v, h.IsCell c v) ∧ H c = none
  val : ∀ (i : Nat) (x : Str) (v : V), N[i]? = some x → σ[i]? = some (some v) → names.lookup x = some .free → ∃ u c, RelV v u ∧ cl.lookup x = some c ∧ h.IsCell c (some u)
section
variable {XR : Cx} {pins : List (Addr × Obj)} {σR σ : L2.St} {H : Hp} {s : Shared} {N : List Str} {scope : Scope} {cl : List (Str × Addr)} {qual name : Str} {Fa c' : Addr} {params : Arguments} {body : Expr} {pm ctv : Value} {E : XK}
theorem lam_start {cdv : Value} {h₁ : Heap} {tk : Nat} {mm : Str → Option Value} (J : L2.Inv XR pins σR H s) (hc : XR.calm = true) (hk : scope.kind = .function) (ho : lamOk scope.names = true) (L : LamCells N scope.names cl σ H s.heap) (hl : σ.length = N.length)
    (hns : h₁.Ns s.heap.objs.size mm) (hkp : ∀ b o, s.heap.get? b = some o → h₁.get? b = some o) : L2.Inv (lamCx XR N scope cl qual Fa cdv s H E) [] σ H { s with heap := h₁, toks := tk } := by
  have cellK : ∀ c v, s.heap.IsCell c v → h₁.IsCell c v := fun c v ⟨o, e1, e2⟩ => ⟨o, hkp c o e1, e2⟩
  refine ⟨⟨J.ok.mod, hk, rfl, rfl, Nat.le_refl _, L.inj, fun x hx => ?_, fun x c h _ => absurd h (by simp [lamCx]), fun _ => J.ok.hd hc, Around.frames_deeper J.ok.frames, .inr ⟨rfl, rfl⟩, fun b hb => absurd hb (by simp [lamCx]), J.bs, Nat.le_trans J.ok.bsz J.sz, fun b o e z => absurd z (by simp [lamCx]), fun b z => absurd z (by simp [lamCx]), J.stack, J.stkFree⟩,
    rfl, J.bare, Un.kept hkp, ⟨mm, hns, fun i x v e1 e2 e3 => ?_⟩, fun x c e => ?_, J.hok.fresh (Nat.le_refl _), fun x c e => (L.is x c e).2, fun p hp => absurd hp (by simp [lamCx]), J.hok.kept hkp, hl⟩
  · have hx' : scope.names.lookup x = some .cell ∨ scope.names.lookup x = some .free := hx
    rcases hx' with z | z
    · rcases lamOk_kind ho z with q | q <;> cases q
    · exact L.has x z
  · have e3' : scope.names.lookup x = some .local ∨ scope.names.lookup x = some .cell ∨ scope.names.lookup x = some .free := e3
    rcases e3' with z | z | z
    · rcases lamOk_kind ho z with q | q <;> cases q
    · rcases lamOk_kind ho z with q | q <;> cases q
    · obtain ⟨u, c, r, hcl, ic⟩ := L.val i x v e1 e2 z
      exact ⟨u, r, .inr ⟨.inr z, c, hcl, cellK _ _ ic⟩⟩
  · obtain ⟨⟨v, ic⟩, _⟩ := L.is x c e
    exact ⟨v, cellK _ _ ic⟩
/-- it is called, and raises -/
theorem lam_call {t : TE} (J : L2.Inv XR pins σR H s) (hc : XR.calm = true) (hroom : XR.A.depth < recursionLimit) (hk : scope.kind = .function) (ho : lamOk scope.names = true) (L : LamCells N scope.names cl σ H s.heap) (hl : σ.length = N.length)
    (hF : s.heap.get? Fa = some (PySem.W.kla_obj name qual params body scope cl pm c' ctv)) (hcd : s.heap.CodeRec (.ref c') qual) (hbind : bindArgs (PySem.W.kla_fn name qual params body scope cl pm (.ref c') ctv) ⟨[], []⟩ = pure [])
    (hco : scope.isCoroutine = false) (hgen : scope.isGenerator = false) (hE : PE (lamCx XR N scope cl qual Fa (.ref c') s H E) body t) (ht : t σ H fun _ _ => False) :
    codeAny (model XR.prog XR.w) XR.A (.call (.ref Fa) ⟨[], []⟩) (fun r s' => ∃ e, r = .error e ∧ CXf XR.prog XR.w XR.stack H s E e s') s := by
  have hcell : ∀ y ∈ scope.names, y.2 ≠ .cell := fun y hy z => by
    have q := List.all_eq_true.mp ho y hy
    rw [z] at q; simp at q
  refine PySem.W.kla_callFunE hroom hF rfl hco hgen rfl hcd ?_
  rw [hbind]
  refine wpAny_pure (wpAny_newFunctionEnv hcell (by intro y hy; simp at hy) (fun h₁ hns hsb => ?_) hk)
  have hkp : ∀ b o, s.heap.get? b = some o → h₁.get? b = some o := fun b o e => (hsb.2 b (Nat.ne_of_lt (Heap.lt_size e))).trans (Heap.get?_push_of_some _ e)
  refine ⟨J.nolimit.keeps hkp, ?_⟩
  show codeAny _ _ (.expr body (PySem.W.envX qual scope s.heap.objs.size Fa (.ref c') cl)) _ _
  refine PySem.W.kla_codeExpr (wpAny_mono (hE [] _ σ H (fun _ _ => False) (lam_start (tk := s.toks + ([] : List (Str × Value)).length) J hc hk ho L hl hns hkp) ht) (fun v s' ⟨_, _, _, _, z⟩ => z.elim) fun e s' h => ?_)
  exact wpAny_mono h (fun _ s'' q => ⟨e, rfl, q⟩) fun _ _ z => z.elim
/-- errors of what the body calls leave it -/
theorem lam_passes {cdv : Value} {C : Cn} (hE : ∀ u a H', EXc C u a H' → E u a H') : Passes (CXe XR.prog XR.w) (lamCx XR N scope cl qual Fa cdv s H E) (EXc C) := fun pins σ H1 s1 e s2 I hx =>
  leave_air (base := XR.base) (s0 := s) (H0 := H) rfl I.ok.frames (Nat.le_refl _) I.os I.bare I.base I.ok.frf I.stack I.hok I.stkFree hx hE
end
/-- of the names around, those that hold plain data -/
noncomputable def valOnly (ρ : Ev) : Ev := ρ.map fun o => match o with
  | some (.val d) => some (.val d)
  | _ => none
theorem Rel.vals {K : PySem.W.Frag} {C C' : Cn} {G H : Hp} {w : Wn} {ρ : Ev} {σ : L2.St} (r : Rel K C G w ρ σ H) (h1 : C'.G₀ = G) (h2 : C'.H₀ = H) (h3 : C'.w₀ = fun _ => none) (h4 : C'.pp = []) : Rel K C' G (fun _ => none) (valOnly ρ) σ H := by
  refine ⟨r.gh, fun b e => absurd rfl e, fun b e => absurd rfl e, by unfold valOnly; rw [List.length_map]; exact r.len, fun i b e => ?_, by rw [h1, h2, h3]; exact .refl _ _ _, fun i hi => by rw [h4] at hi; simp at hi⟩
  unfold valOnly at e
  rw [List.getElem?_map] at e
  cases q : ρ[i]? with
  | none => rw [q] at e; cases e
  | some o =>
    rw [q] at e
    simp only [Option.map_some, Option.some.injEq] at e
    split at e
    · rename_i d
      cases e
      obtain ⟨v, e1, e2⟩ := r.sl i _ q
      exact ⟨v, e1, e2⟩
    · cases e
end PV
end
section
set_option Elab.async false
set_option linter.all false
set_option maxRecDepth 100000
namespace PV
open PySem PySem.Spec L2 PyProof.Rows
/-! ### try: call() except C as e: error = e -/
/-- whether an error is of a class of one's own -/
theorem xc_match {prog : Program} {w : World} {A : Around} {E : Value → Shared → Prop} {s : Shared} {K : PySem.W.Frag} {l C Cs : Addr} {Q : Bool → Shared → Prop} (X : K.In s.heap) (hx : XAt l C s.heap) (xs : Xin K Cs) (hsub : PySem.W.subIn K (.ref C) (.ref Cs) = some true) (hQ : Q true s) :
    wpAny (model prog w) A (excMatches (.ref l) (.ref Cs)) Q E s := by
  obtain ⟨hh, gg, dr, tt, os⟩ := s
  obtain ⟨ob, vs, h1, h2, h3⟩ := hx
  obtain ⟨bm, N, nm, qn, bs, hd, sn, sub, ab, col, dd, k0, k1, k2, k3, k5, lk, e4, e5, e6⟩ := exc_parts xs.exc
  have hCs := X _ _ lk
  have inB : (Value.ref Cs :: bm).contains (.type "BaseException") = true := by
    rw [List.contains_cons, (PySem.W.tail_of_in X e4).hasType (b := true) (by decide)]; rfl
  have nt := tc_notTuple
  have L1 := PySem.W.looks_subIn (M := model prog w) X hsub
  unfold excMatches
  repeat (first | (with_reducible refine wpAny_loadPart_at h1 ?_; rw [h2]) | (with_reducible refine PySem.W.Looks.at L1 ?_) | with_reducible refine wpAny_loadPart_at hCs ?_ | (with_reducible refine wpAny_isSubtype_exc hCs ?_; rw [inB]) | wp_step)
  exact hQ
section
variable {X : Cx} {pins : List (Addr × Obj)} {σ : L2.St} {H : Hp} {s : Shared}
/-- a local name goes -/
theorem inv_forget {x : Str} {i : Nat} {h' : Heap} {tk : Nat} {v : Option Value} (I : L2.Inv X pins σ H s) (hN : X.N.Nodup) (hi : X.N[i]? = some x)
    (hn : ∀ m, s.heap.Ns X.env.locals m → h'.Ns X.env.locals (fun y => if y = x then v else m y)) (hs : Heap.SameBut X.env.locals s.heap h') : L2.Inv X pins (σ.set i none) H { s with heap := h', toks := tk } := by
  obtain ⟨m, hm, hl⟩ := id I.loc
  have cne := I.cne
  have tr : HOk X.prog X.w H h' := hok_at I.hok fun b u o e q => (hs.2 b fun z => by subst z; rw [I.free] at e; cases e).trans q
  refine ⟨I.ok, I.os, I.bare, ⟨fun b o e n hb hx => ?_, fun b o e n hb hx => ?_, I.base.free, fun b o e hx => ?_, I.base.tups, I.base.frzs, I.base.tbls⟩, ⟨_, hn m hm, fun j y v' e1 e2 e3 => ?_⟩, fun y c e => ?_, I.free, I.freeC, fun p hp => ?_, tr, by simpa using I.len⟩
  · exact (hs.2 b (Nat.ne_of_lt (Nat.lt_of_lt_of_le (Heap.lt_size e) I.ok.above))).trans (I.base.keep b o e n hb hx)
  · obtain ⟨sl, e1⟩ := I.base.slot b o e n hb hx
    exact ⟨sl, (hs.2 b (Nat.ne_of_lt (Nat.lt_of_lt_of_le (Heap.lt_size e) I.ok.above))).trans e1⟩
  · obtain ⟨o', e1⟩ := I.base.there b o e hx
    exact ⟨o', (hs.2 b (Nat.ne_of_lt (Nat.lt_of_lt_of_le (Heap.lt_size e) I.ok.above))).trans e1⟩
  · by_cases hj : j = i
    · subst hj
      have hlt : j < σ.length := by rw [I.len]; exact (List.getElem?_eq_some_iff.mp hi).1
      rw [List.getElem?_set_self hlt] at e2
      cases e2
    · rw [List.getElem?_set_ne (Ne.symm hj)] at e2
      obtain ⟨u', r', q⟩ := hl j y v' e1 e2 e3
      refine ⟨u', r', ?_⟩
      rcases q with ⟨k, e⟩ | ⟨k, c, e, z⟩
      · refine .inl ⟨k, ?_⟩
        have : y ≠ x := fun e => hj (nodup_ix hN e1 (e ▸ hi))
        simp [this, e]
      · exact .inr ⟨k, c, e, z.sameBut hs (cne y c e)⟩
  · obtain ⟨w', z⟩ := I.cell y c e
    exact ⟨w', z.sameBut hs (cne y c e)⟩
  · obtain ⟨e, n, ne, nf, d⟩ := I.pin p hp
    exact ⟨(hs.2 p.1 ne).trans e, n, ne, nf, d⟩
/-- behind an error that was caught, the error being known from then on -/
theorem inv_caught {s1 : Shared} {h : Heap} {l C : Addr} {a0 : Value} {B : Heap} {H' : Hp} (I : L2.Inv X pins σ H s) (os : s1.os = s.os) (bare : AllBare s1.gens) (un : Un (frs X.stack) [] H H' s.heap s1.heap) (hok : HOk X.prog X.w H' s1.heap)
    (fl : Heap.FlyingW B X.stack l (.ref C) a0 s1.heap) (hb1 : ∀ b o, s.heap.get? b = some o → b ∉ frs X.stack → ∃ u, B.get? b = some u) (hb2 : ∀ b u, H' b = some u → ∃ o, B.get? b = some o) (hnw : s.heap.get? l = none)
    (fl3 : Heap.FlyingW B X.stack l (.ref C) a0 h) (up : s1.heap.UpToSlots h) : H' l = none ∧ L2.Inv X pins σ (upd H' l (xHO l C)) { s1 with heap := h } := by
  have hl : H' l = none := by
    cases q : H' l with
    | none => rfl
    | some u => obtain ⟨o, e⟩ := hb2 l u q; rw [fl.2.1] at e; cases e
  have at3 : ∀ {b : Addr} {u : Obj}, B.get? b = some u → s1.heap.get? b = some u ∧ h.get? b = some u := fun {b u} e => ⟨fl.1 b u e, fl3.1 b u e⟩
  have slot : ∀ b o, s.heap.get? b = some o → b ∈ frs X.stack → ∃ sl, h.get? b = some { o with slots := sl } := fun b o e1 hb => by
    obtain ⟨sl2, e3⟩ := un.slot b o e1 (I.stkFree b hb) hb (by simp)
    obtain ⟨_, o4, e4, d4⟩ := fl.2.2.1.mem (b := b) hb
    rw [e3] at e4; cases e4
    obtain ⟨sl3, e5⟩ := up b _ e3 d4
    exact ⟨sl3, e5⟩
  refine ⟨hl, I.call' (s' := { s1 with heap := h }) (ch := []) os ⟨fun b o e1 n hb _ => ?_, fun b o e1 n hb _ => slot b o e1 hb, fun b o e1 n _ => ?_, fun b o e1 _ => ?_, fun b xs q => ?_, fun b o u q => ?_, fun b ps q => ?_⟩ (fun b u e => ?_) bare fun b hb => absurd hb (by simp)⟩
  · have e3 := un.keep b o e1 n hb (by simp)
    obtain ⟨u, hu⟩ := hb1 b o e1 hb
    obtain ⟨q1, q2⟩ := at3 hu
    rw [e3] at q1; cases q1; exact q2
  · rw [upd_ne (fun z => by subst z; rw [hnw] at e1; cases e1)]; exact un.free b o e1 n (by simp)
  · by_cases hb : b ∈ frs X.stack
    · obtain ⟨sl, e2⟩ := slot b o e1 hb; exact ⟨_, e2⟩
    · obtain ⟨u, hu⟩ := hb1 b o e1 hb; exact ⟨u, (at3 hu).2⟩
  · have := un.tups b xs q
    rw [upd_ne (ne_of_none this hl)]; exact this
  · have := un.frzs b o u q
    rw [upd_ne (ne_of_none this hl)]; exact this
  · obtain ⟨m, e⟩ := un.tbls b ps q
    exact ⟨m, by rw [upd_ne (ne_of_none e hl)]; exact e⟩
  · by_cases hb : b = l
    · subst hb
      rw [upd_same] at e; cases e
      obtain ⟨oe, vs, e1, e2, e3, _⟩ := fl3.first
      exact ⟨⟨oe, vs, e1, e2, e3⟩, ⟨oe, e1⟩, fun h1 h2 ⟨o, ws, q1, q2, q3⟩ k => ⟨o, ws, k o q1, q2, q3⟩⟩
    · rw [upd_ne hb] at e
      refine (hok b u e).stay (fun c o hc q => ?_) (fun c z => ?_) fun c xs z => ?_
      · have hcu : ∃ u', H' c = some u' := by
          rcases hc with rfl | hc
          · exact ⟨_, e⟩
          · exact ⟨_, hc⟩
        obtain ⟨u', hu'⟩ := hcu
        obtain ⟨o', ho'⟩ := hb2 c u' hu'
        obtain ⟨q1, q2⟩ := at3 ho'
        rw [q] at q1; cases q1; exact q2
      · rw [upd_ne (ne_of_none z hl)]; exact z
      · rw [upd_ne (ne_of_none z hl)]; exact z
end
/-- the suite's context -/
noncomputable def sutCx (X : Cx) (e : Value) (E : Value → Shared → Prop) : Cx := { X with A := X.A.mark (some e), calm := false, xe := E }
theorem inv_sut {X : Cx} {pins : List (Addr × Obj)} {σ : L2.St} {H : Hp} {s : Shared} {e : Value} {E : Value → Shared → Prop} (I : L2.Inv X pins σ H s) : L2.Inv (sutCx X e E) pins σ H s := by
  have ok := I.ok
  exact ⟨⟨ok.mod, ok.kind, ok.glob, ok.blt, ok.above, ok.inj, ok.has, ok.cab, fun h => absurd h (by simp [sutCx]), ok.frames, ok.stk, ok.exf, ok.bs, ok.bsz, ok.noex, ok.exfs, ok.funs, ok.frf⟩, I.os, I.bare, I.base, I.loc, I.cell, I.free, I.freeC, I.pin, I.hok, I.len⟩
theorem inv_unsut {X : Cx} {pins : List (Addr × Obj)} {σ : L2.St} {H : Hp} {s : Shared} {e : Value} {E : Value → Shared → Prop} (hok : X.Ok) (I : L2.Inv (sutCx X e E) pins σ H s) : L2.Inv X pins σ H s :=
  ⟨hok, I.os, I.bare, I.base, I.loc, I.cell, I.free, I.freeC, I.pin, I.hok, I.len⟩
/-- what is known of the error of the call -/
noncomputable def EL (Cc : Addr) (H : Hp) : XK := fun u _ H' => u = .ref Cc ∧ Same H H'
section
variable {X : Cx} {p1 p2 p3 p4 p5 p6 p7 p8 p9 : Pos} {Cc Cs Fa : Addr} {H0 : Hp} {iF ierr ie : Nat} {xF xerr xe xS : Str}
theorem ps_tryRef (hc : X.calm = true) (hN : X.N.Nodup) (hst : X.stack = X.env :: X.outer) (hfrm : X.env.frame = some X.env.locals)
    (hF : ∀ pins σ H s, L2.Inv X pins σ H s → Same H0 H → codeAny (model X.prog X.w) X.A (.call (.ref Fa) ⟨[], []⟩) (fun r s' => ∃ e, r = .error e ∧ CXf X.prog X.w X.stack H s (EL Cc H) e s') s)
    (hFn : ∀ pins σ H s, L2.Inv X pins σ H s → Same H0 H → PySem.W.FnAt Fa s.heap)
    (xs : Xin X.K Cs) (hsub : PySem.W.subIn X.K (.ref Cc) (.ref Cs) = some true) (hmS : X.mg xS = some (.ref Cs)) (hgS : Gl X xS)
    (hNF : X.N[iF]? = some xF) (hNerr : X.N[ierr]? = some xerr) (hNe : X.N[ie]? = some xe) (hie : ie ≠ ierr) (kF : X.env.scope.names.lookup xF = some .local) (kerr : X.env.scope.names.lookup xerr = some .local) (ke : X.env.scope.names.lookup xe = some .local)
    (hd1 : (xF == ("__debug__" : Str)) = false := by decide) (hd2 : (xF == ("__classdict__" : Str)) = false := by decide) (hd3 : (xS == ("__debug__" : Str)) = false := by decide) (hd4 : (xe == ("__debug__" : Str)) = false := by decide) (hd5 : (xe == ("__classdict__" : Str)) = false := by decide)
    (hsw : swapsWith (.Call (.Name xF p1) [] [] p2) none p3.line X.env = pure false := by rfl) (hsw2 : swapsWith (.Name xe p6) (some (.Name xerr p5)) p7.line X.env = pure false := by rfl) :
    PS X (.Try [.Expr (.Call (.Name xF p1) [] [] p2) p3] [.ExceptHandler (some (.Name xS p4)) (some xe) [.Assign [.Name xerr p5] (.Name xe p6) p7] p8] [] [] p9)
      (fun D σ H => σ[iF]? = some (some (.ref Fa)) ∧ Same H0 H ∧ ∀ l H', Same H H' → H' l = none → D.nx (((σ.set ie (some (.ref l))).set ierr (some (.ref l))).set ie none) (upd H' l (xHO l Cc))) := by
  intro pins s σ H D I ⟨h0, eH, hD⟩
  refine wpAny_Try_except ?_
  -- the call
  refine wpAny_execs_cons ?_
  have hv : ∀ EE : Value → Shared → Prop, wpAny (model X.prog X.w) X.A (eval (.Name xF p1) X.env) (EP (X.wish EE) pins σ fun v H' => v = .ref Fa ∧ H' = H) EE s := fun EE =>
    pe_var (X := X.wish EE) (pos := p1) hNF (.inl kF) hd1 hd2 pins s σ H (fun v H' => v = .ref Fa ∧ H' = H) (I.wish EE) ⟨_, h0, rfl, rfl⟩
  refine wpAny_Expr_any (wpAny_Call_Name_kw (wpAny_mono (hv _) (fun u s1 ⟨v, H1, I1, r, e1, e2⟩ => ?_) fun _ _ z => z)) I.quiet hsw
  subst e1 e2
  cases r
  have I1 := I1.unwish
  refine PySem.W.callWith_F0 (hFn _ _ _ _ I1 eH) (wpAny_call (codeAny_mono (hF _ _ _ _ I1 eH) fun r s2 ⟨e, er, hx⟩ => ?_))
  subst er
  obtain ⟨l, cls, a0, B, H', rfl, os, bare, un, hok, fl, hb1, hb2, hnw, ecls, same⟩ := hx
  subst ecls
  show wpAny _ _ (noteFrame (.ref l) X.env) _ _ s2
  rw [hst] at fl
  refine wpAny_looks_onW (by rw [I1.ok.frames, hst]) hfrm fl fun h3 held3 up3 => ?_
  refine wpAny_landsW held3 fun h4 fl4 up4 => ?_
  rw [← hst] at fl fl4
  obtain ⟨hl, I4⟩ := inv_caught I1 os bare un hok fl hb1 hb2 hnw fl4 (up3.trans up4)
  refine wpAny_handleBy_cons (codeAny_handlers_test ?_) (by intro q; cases q)
  refine ld_glob (X := sutCx X (.ref l) fun _ _ => True) (inv_sut I4) hgS hmS ?_ hd3
  have xat : XAt l Cc h4 := by obtain ⟨oe, vs, q1, q2, q3, _⟩ := fl4.first; exact ⟨oe, vs, q1, q2, q3⟩
  refine xc_match (K := X.K) I4.kIn xat xs hsub ?_
  refine codeAny_handlers_suite_as ?_
  refine lands_againW fl4 fun h5 fl5 up5 => ?_
  obtain ⟨_, I5⟩ := inv_caught I1 os bare un hok fl hb1 hb2 hnw fl5 ((up3.trans up4).trans up5)
  refine store_ok I5 hN hNe (.inl ke) (v := .ref l) rfl (fun s6 I6 => ?_) (.inr ke)
  have hsuite := fun EE : Value → Shared → Prop => pss_one (X := sutCx X (.ref l) EE) (ps_set (pos := p7) (pos' := p5) hN hNerr (.inl kerr) (pe_var (pos := p6) hNe (.inl ke) hd4 hd5) hsw2 (.inr kerr)) pins s6 (σ.set ie (some (.ref l))) (upd H' l (xHO l Cc)) { nx := fun σ' H'' => σ' = (σ.set ie (some (.ref l))).set ierr (some (.ref l)) ∧ H'' = upd H' l (xHO l Cc), rt := fun _ _ => False } (inv_sut I6) ⟨.ref l, by
    rw [List.getElem?_set_self (by rw [I5.len]; exact (List.getElem?_eq_some_iff.mp hNe).1)], rfl, rfl⟩
  refine wpAny_mono (hsuite _) (fun f s7 h7 => ?_) fun _ _ z => z
  cases f with
  | next =>
    obtain ⟨σ', H'', I7, e1, e2⟩ := h7
    subst e1 e2
    have I7 := inv_unsut I4.ok I7
    obtain ⟨m7, hm7, _⟩ := I7.loc
    refine wpAny_nameGoes_keeps (env := X.env) ke hm7 (by rw [I7.ok.kind]; rfl) fun h8 v hn8 hs8 => ?_
    refine ⟨_, _, inv_forget (x := xe) (i := ie) (v := v) I7 hN hNe (fun m hm => ?_) hs8, hD l H' same hl⟩
    obtain ⟨o, es, ep, ho, hd, hk, hmm⟩ := hn8
    obtain ⟨o', es', ep', ho', hd', hk', hm'⟩ := hm
    obtain ⟨o7, es7, ep7, ho7, hd7, hk7, hm7'⟩ := hm7
    rw [ho'] at ho7; cases ho7
    rw [hd'] at hd7; cases hd7
    exact ⟨o, es, ep, ho, hd, hk, fun x => by rw [hmm x]; show (if x = xe then v else m7 x) = if x = xe then v else m x; rw [← hm7' x, hm' x]⟩
  | brk => obtain ⟨_, _, _, z⟩ := h7; exact z.elim
  | cont => obtain ⟨_, _, _, z⟩ := h7; exact z.elim
  | ret u => obtain ⟨_, _, _, _, _, z⟩ := h7; exact z.elim
end
end PV
end
section
set_option Elab.async false
set_option linter.all false
set_option maxRecDepth 100000
namespace PV
open PySem PySem.Spec L2 PyProof.Rows
/-! ### a lambda is made: its code stands in the table of the def's code from then on -/
noncomputable def fHO (a : Addr) (ob : Obj) : HO := .ext fun h => h.get? a = some ob
structure LamBase (X : Cx) (P : Addr) : Prop where
  code : ∃ c, X.env.code = .ref c ∧ PySem.W.CodeHd X.base c P
  blt : X.base.BuiltinsAt X.mg P
theorem ext_ok {P : Program} {w : World} {H : Hp} {h : Heap} {a : Addr} {φ : Heap → Prop} {o : Obj} (h1 : φ h) (h2 : h.get? a = some o) (h3 : ∀ x y : Heap, φ x → (∀ o, x.get? a = some o → y.get? a = some o) → φ y) : ObjOk P w H h a (.ext φ) := ⟨h1, ⟨o, h2⟩, h3⟩
theorem codeRec_ext {c : Addr} {q : Str} (x y : Heap) (h : x.CodeRec (.ref c) q) (k : ∀ o, x.get? c = some o → y.get? c = some o) : y.CodeRec (.ref c) q := by
  obtain ⟨c', o, vs, t, e, h1, h2, h3⟩ := h
  cases e
  exact ⟨c, o, vs, t, rfl, k o h1, h2, h3⟩
/-- the table of lambdas, at P, over the abstract heap -/
structure TabOk (P : Addr) (q : Str) (G H : Hp) (ps : Array Value) : Prop where
  at_ : H P = some (.tbl ps)
  tri : TriplesOk ps.toList
  cod : ∀ pos cv, codeAmong pos ps.toList = some cv → ∃ c, cv = .ref c ∧ G c = some (cHO c q)
section
variable {X : Cx} {pins : List (Addr × Obj)} {σ : L2.St} {H : Hp} {s : Shared} {P : Addr} {q : Str} {params : Arguments} {body : Expr} {scope : Scope} {pos : Pos} {cl : List (Str × Addr)} {ps : Array Value} {Q : VK}
theorem wp_lam (LB : LamBase X P) (I : L2.Inv X pins σ H s) (hdef : defaultsOf params X.env = ([], [])) (hcl : closureFor scope X.env = pure cl) (T : TabOk P (X.env.qual ++ "<lambda>") H H ps)
    (hA : ∀ c Fa ctv, codeAmong pos ps.toList = none → H c = none → H Fa = none → c ≠ Fa → Q (.ref Fa) (upd (upd (upd H P (.tbl (ps ++ #[rawInt pos.line, rawInt pos.col, .ref c]))) c (cHO c (X.env.qual ++ "<lambda>"))) Fa (fHO Fa (PySem.W.kla_obj "<lambda>" (X.env.qual ++ "<lambda>") params body scope cl ((X.mg "__name__").getD .none) c ctv))))
    (hB : ∀ c Fa ctv, codeAmong pos ps.toList = some (.ref c) → H Fa = none → Q (.ref Fa) (upd H Fa (fHO Fa (PySem.W.kla_obj "<lambda>" (X.env.qual ++ "<lambda>") params body scope cl ((X.mg "__name__").getD .none) c ctv)))) :
    wpAny (model X.prog X.w) X.A (eval (.Lambda params body scope pos) X.env) (EP X pins σ Q) X.xe s := by
  obtain ⟨c0, hc0, C0⟩ := LB.code
  have C0' := C0.keeps I.bk
  have hg := I.mod.glob.keeps I.bk
  have oP : s.heap.get? P = some (PySem.W.tabObj ps) := I.hok P _ T.at_
  have nP : ∀ b o, X.base.get? b = some o → b ≠ P := fun b o e z => by
    have := (I.bs b o e).2
    rw [z, T.at_] at this; cases this
  have hgP : mainGlobals ≠ P := by
    obtain ⟨o, es, ep, e, _⟩ := I.mod.glob
    exact nP _ _ e
  have hbl : s.heap.BuiltinsAt X.mg P := by
    obtain ⟨bm, o, b1, b2, b3, b4, b5, b6⟩ := LB.blt
    exact ⟨bm, o, b1, b2, b3, b4, I.bk _ _ b5, b6⟩
  refine PySem.W.kla_eval hdef ?_
  cases hk : codeAmong pos ps.toList with
  | none =>
    refine PySem.W.kla_makeFunction (mg := X.mg) hcl I.ok.glob hg hc0 C0' oP T.tri hk hgP hbl fun c' ctv h' tk hx hge hlt hrec htb => ?_
    have hcn : H c' = none := I.hok.fresh hge
    have hFn : H h'.objs.size = none := I.hok.fresh (Nat.le_trans hge (Nat.le_of_lt hlt))
    have hne : c' ≠ h'.objs.size := Nat.ne_of_lt hlt
    have cP : c' ≠ P := fun z => by rw [z, T.at_] at hcn; cases hcn
    have fP : h'.objs.size ≠ P := fun z => by rw [z, T.at_] at hFn; cases hFn
    have kp : ∀ b o, b ≠ P → s.heap.get? b = some o → (h'.push (PySem.W.kla_obj "<lambda>" (X.env.qual ++ "<lambda>") params body scope cl ((X.mg "__name__").getD .none) c' ctv)).get? b = some o := fun b o hb e => Heap.get?_push_of_some _ (hx b o hb e)
    have hq := hA c' h'.objs.size ctv hk hcn hFn hne
    refine ⟨.ref h'.objs.size, _, I.call' (s' := { s with heap := h'.push (PySem.W.kla_obj "<lambda>" (X.env.qual ++ "<lambda>") params body scope cl ((X.mg "__name__").getD .none) c' ctv), toks := tk }) (ch := []) rfl ⟨fun b o e n _ _ => ?_, fun b o e n _ _ => ?_, fun b o e n _ => ?_, fun b o e _ => ?_, fun b xs z => ?_, fun b o u z => ?_, fun b pz z => ?_⟩ (fun b u e => ?_) I.bare fun b hb => absurd hb (by simp), rfl, hq⟩
    · exact kp b o (fun z => by rw [z, T.at_] at n; cases n) e
    · exact ⟨o.slots, kp b o (fun z => by rw [z, T.at_] at n; cases n) e⟩
    · have l1 := Heap.lt_size e
      rw [upd_ne (Nat.ne_of_lt (Nat.lt_trans (Nat.lt_of_lt_of_le l1 hge) hlt)), upd_ne (Nat.ne_of_lt (Nat.lt_of_lt_of_le l1 hge)), upd_ne (fun z => by rw [z, T.at_] at n; cases n)]
      exact n
    · by_cases hb : b = P
      · subst hb; exact ⟨_, Heap.get?_push_of_some _ htb⟩
      · exact ⟨o, kp b o hb e⟩
    · rw [upd_ne (ne_of_none z hFn), upd_ne (ne_of_none z hcn), upd_ne (fun y => by rw [y, T.at_] at z; cases z)]; exact z
    · rw [upd_ne (ne_of_none z hFn), upd_ne (ne_of_none z hcn), upd_ne (fun y => by rw [y, T.at_] at z; cases z)]; exact z
    · by_cases hb : b = P
      · subst hb
        rw [T.at_] at z; cases z
        exact ⟨_, by rw [upd_ne (Ne.symm fP), upd_ne (Ne.symm cP), upd_same]⟩
      · exact ⟨#[], by rw [upd_ne (ne_of_none z hFn), upd_ne (ne_of_none z hcn), upd_ne hb, z]; simp⟩
    · by_cases hbF : b = h'.objs.size
      · rw [hbF, upd_same] at e; cases e
        rw [hbF]
        exact ext_ok (Heap.get?_push_size _ rfl) (Heap.get?_push_size _ rfl) fun x y h k => k _ h
      · rw [upd_ne hbF] at e
        by_cases hbc : b = c'
        · rw [hbc, upd_same] at e; cases e
          rw [hbc]
          have hr := hrec.push (PySem.W.kla_obj "<lambda>" (X.env.qual ++ "<lambda>") params body scope cl ((X.mg "__name__").getD .none) c' ctv)
          obtain ⟨c2, o2, _, _, e2, h2, _⟩ := id hr
          cases e2
          exact ext_ok hr h2 codeRec_ext
        · rw [upd_ne hbc] at e
          by_cases hbP : b = P
          · rw [hbP, upd_same] at e; cases e
            rw [hbP]
            exact Heap.get?_push_of_some _ htb
          · rw [upd_ne hbP] at e
            refine (I.hok b u e).stay (fun d o hd z => ?_) (fun d z => ?_) fun d xs z => ?_
            · refine kp d o (fun y => ?_) z
              rcases hd with hd | hd
              · exact hbP (hd.symm.trans y)
              · rw [y, T.at_] at hd; cases hd
            · rw [upd_ne (ne_of_none z hFn), upd_ne (ne_of_none z hcn), upd_ne (fun y => by rw [y, T.at_] at z; cases z)]; exact z
            · rw [upd_ne (ne_of_none z hFn), upd_ne (ne_of_none z hcn), upd_ne (fun y => by rw [y, T.at_] at z; cases z)]; exact z
  | some cv =>
    obtain ⟨c, rfl, hcG⟩ := T.cod pos cv hk
    refine PySem.W.kla_makeFunctionHit (mg := X.mg) hcl I.ok.glob hg hc0 C0' oP T.tri hk hbl fun ctv h' tk hkp hsz => ?_
    have hFn : H h'.objs.size = none := I.hok.fresh hsz
    exact ⟨.ref h'.objs.size, _, I.laid (t' := tk) (fun b u e => Heap.get?_push_of_some _ (hkp b u e)) hsz (ext_ok (Heap.get?_push_size _ rfl) (Heap.get?_push_size _ rfl) fun x y h k => k _ h), rfl, hB c h'.objs.size ctv hk hFn⟩
end
/-! ### the try, over data -/
noncomputable def dTry (iF ierr ie : Nat) (Cc : Addr) : DS := fun ρ => match ρ[iF]? with
  | some (some .opq) => if ierr < ρ.length ∧ ie < ρ.length then .ok (.nx, (ρ.set ierr (some (.exc Cc))).set ie none) else .no
  | _ => .no
section
variable {X : Cx} {C : Cn} {p1 p2 p3 p4 p5 p6 p7 p8 p9 : Pos} {Cc Cs Fa : Addr} {iF ierr ie : Nat} {xF xerr xe xS : Str}
theorem js_tryRef (hc : X.calm = true) (hN : X.N.Nodup) (hst : X.stack = X.env :: X.outer) (hfrm : X.env.frame = some X.env.locals) (hw0 : C.w₀ = fun _ => none) (hpp : C.pp = [iF]) (hσ0 : C.σ₀[iF]? = some (some (.ref Fa)))
    (hF : ∀ pins σ H s, L2.Inv X pins σ H s → Same C.H₀ H → codeAny (model X.prog X.w) X.A (.call (.ref Fa) ⟨[], []⟩) (fun r s' => ∃ e, r = .error e ∧ CXf X.prog X.w X.stack H s (EL Cc H) e s') s)
    (hFn : ∀ pins σ H s, L2.Inv X pins σ H s → Same C.H₀ H → PySem.W.FnAt Fa s.heap)
    (xs : Xin X.K Cs) (hsub : PySem.W.subIn X.K (.ref Cc) (.ref Cs) = some true) (hmS : X.mg xS = some (.ref Cs)) (hgS : Gl X xS)
    (hNF : X.N[iF]? = some xF) (hNerr : X.N[ierr]? = some xerr) (hNe : X.N[ie]? = some xe) (hie : ie ≠ ierr) (hF1 : ierr ≠ iF) (hF2 : ie ≠ iF) (kF : X.env.scope.names.lookup xF = some .local) (kerr : X.env.scope.names.lookup xerr = some .local) (ke : X.env.scope.names.lookup xe = some .local)
    (hd1 : (xF == ("__debug__" : Str)) = false := by decide) (hd2 : (xF == ("__classdict__" : Str)) = false := by decide) (hd3 : (xS == ("__debug__" : Str)) = false := by decide) (hd4 : (xe == ("__debug__" : Str)) = false := by decide) (hd5 : (xe == ("__classdict__" : Str)) = false := by decide)
    (hsw : swapsWith (.Call (.Name xF p1) [] [] p2) none p3.line X.env = pure false := by rfl) (hsw2 : swapsWith (.Name xe p6) (some (.Name xerr p5)) p7.line X.env = pure false := by rfl) :
    JS X C (.Try [.Expr (.Call (.Name xF p1) [] [] p2) p3] [.ExceptHandler (some (.Name xS p4)) (some xe) [.Assign [.Name xerr p5] (.Name xe p6) p7] p8] [] [] p9) (dTry iF ierr ie Cc) :=
  PS.weak (ps_tryRef hc hN hst hfrm hF hFn xs hsub hmS hgS hNF hNerr hNe hie kF kerr ke hd1 hd2 hd3 hd4 hd5 hsw hsw2) fun D σ H ⟨G, w, ρ, r, p⟩ => by
    unfold dTry at p
    split at p
    · split at p
      · rename_i hlen
        have sm : Same C.H₀ H := fun b o e => r.en.h b o e (by rw [hw0])
        refine ⟨by rw [r.pin iF (by rw [hpp]; simp)]; exact hσ0, sm, fun l H' same hl => ?_⟩
        have hHl : H l = none := by
          cases q : H l with
          | none => rfl
          | some u => rw [same l u q] at hl; cases hl
        have hGl : G l = none := by
          cases q : G l with
          | none => rfl
          | some u => rw [r.gh l u q] at hHl; cases hHl
        have wl : ∀ b, w b ≠ none → b ≠ l := fun b e z => by subst z; exact r.wh b e hHl
        have sG : Same G (upd G l (xHO l Cc)) := fun b u e => by rw [upd_ne (ne_of_none e hGl)]; exact e
        have sH : Same H (upd H' l (xHO l Cc)) := fun b u e => by rw [upd_ne (ne_of_none e hHl)]; exact same b u e
        have st : Step G H w (upd G l (xHO l Cc)) (upd H' l (xHO l Cc)) w := by
          refine ⟨sG, fun b o e => ?_, fun b o e _ => sH b o e, fun b e => .inl e, fun b e => ?_⟩
          · by_cases hb : b = l
            · subst hb; exact .inr (.inl hHl)
            · rw [upd_ne hb] at e; exact .inl (by rw [e]; simp)
          · cases q : H b with
            | none => rfl
            | some u => rw [sH b u q] at e; cases e
        refine p _ _ _ _ st ⟨fun b u e => ?_, fun b e => ?_, fun b e z => ?_, by simpa using r.len, fun i b e => ?_, r.en.trans st, fun i hi => ?_⟩
        · by_cases hb : b = l
          · subst hb; rw [upd_same] at e ⊢; exact e
          · rw [upd_ne hb] at e ⊢; exact same b u (r.gh b u e)
        · rw [upd_ne (wl b e)]; exact r.wg b e
        · cases q : H b with
          | none => exact r.wh b e q
          | some u => rw [sH b u q] at z; cases z
        · by_cases h2 : i = ie
          · subst h2; rw [List.getElem?_set_self (by simpa using hlen.2)] at e; cases e
          · rw [List.getElem?_set_ne (Ne.symm h2)] at e ⊢
            by_cases h1 : i = ierr
            · subst h1
              rw [List.getElem?_set_self hlen.1] at e; cases e
              refine ⟨.ref l, ?_, l, rfl, upd_same⟩
              rw [List.getElem?_set_self (by rw [List.length_set, ← r.len]; exact hlen.1)]
            · rw [List.getElem?_set_ne (Ne.symm h1)] at e ⊢
              rw [List.getElem?_set_ne (Ne.symm h2)]
              obtain ⟨v, q1, q2⟩ := r.sl i b e
              exact ⟨v, q1, q2.grow sG fun a o e1 e2 => ⟨sH a o e2, e1⟩⟩
        · rw [hpp] at hi
          have : i = iF := by simpa using hi
          subst this
          rw [List.getElem?_set_ne hF2, List.getElem?_set_ne hF1, List.getElem?_set_ne hF2]
          exact r.pin i (by rw [hpp]; simp)
      · exact p.elim
    · exact p.elim
end
end PV
end
section
set_option Elab.async false
set_option linter.all false
set_option maxRecDepth 100000
namespace PV
open PySem PySem.Spec L2 PyProof.Rows
/-! ### a def's body at one call -/
theorem fn_at {CX : CXT} {P : Program} {w : World} {K : PySem.W.Frag} {mg : Str → Option Value} {base : Heap} {k : Nat} {f : Addr} {name qual : Str} {params : Arguments} {body : List Stmt} {scope : Scope} {dV kV doc pm cdv ct oc : Value} {an od : Option Addr}
    {osl : Array (Option Value)} {N ps : List Str} {A : Around} {outer : List Env} {s : Shared} {H : Hp} {args : Args} {us : List Value} {vs : List V} {Q : VK} {E : XK} (lk : K.lookup f = some ⟨oc, od, .func (PySem.W.fnOf name qual params body scope dV kV doc pm an cdv ct), osl⟩) (hcd : PySem.W.codeIn K cdv qual = true) (S : FnScope N ps scope)
    (hr : Room (k + 1) A) (e0 : Env0 P w K mg base A outer s H) (hb : BindsTo s (PySem.W.fnOf name qual params body scope dV kV doc pm an cdv ct) args (ps.zip us)) (r : Vals vs us) (hl : vs.length = ps.length)
    (hbody : ∃ t, PSs (cxOf CX P w K mg base N qual scope f cdv A outer s H E) body t ∧ t { nx := fun _ H' => Q .non H', rt := Q } (start N vs) H) :
    codeAny (model P w) A (.call (.ref f) args) (CR CX outer P w H s Q E) s := by
  have hin : K.In s.heap := e0.mod.kin.keeps fun b o e => (e0.bs b o e).1
  have nolim : s.heap.NoLimit := e0.mod.nolimit.keeps fun b o e => (e0.bs b o e).1
  have kinds : ∀ y ∈ ps.zip us, scope.names.lookup y.1 = some .local ∨ (scope.names.lookup y.1 = some .cell ∧ ((cellsFrom (s.heap.objs.size + 1) scope.names []).lookup y.1).isSome = true) := fun ⟨n, v⟩ hy => by
    rcases S.par n (List.of_mem_zip hy).1 with q | q
    · exact .inl q
    · exact .inr ⟨q, PySem.W.cellsFrom_some _ _ _ (.inl q)⟩
  have dp : A.depth < recursionLimit := by have := hr.dp; omega
  refine codeAny_call_function dp (hin _ _ lk) rfl S.co S.gen rfl (PySem.W.codeRec_of hin hcd) (hb _ _ _ _ ?_)
  refine wpAny_newFunctionEnv_cells S.kind kinds fun env he s1 x => ?_
  subst he
  refine ⟨nolim.keeps x.toInCall.keep, codeAny_func ?_⟩
  obtain ⟨t, ht, hq⟩ := hbody
  have I := inv_start (CX := CX) (K := K) (mg := mg) (base := base) (E := E) (qual := qual) (f := f) (cd := cdv) S hr.hd e0 hl r x
  refine wpAny_mono (ht [] s1 (start N vs) H _ I hq) (fun fl s' hs => ?_) fun e s' hs => hs
  cases fl with
  | ret u => obtain ⟨v, σ', H', J, rv, q⟩ := hs; exact ⟨v, H', J.os, J.bare, J.base, J.hok, rv, q⟩
  | next => obtain ⟨σ', H', J, q⟩ := hs; exact ⟨V.non, H', J.os, J.bare, J.base, J.hok, rfl, q⟩
  | brk => obtain ⟨_, _, _, q⟩ := hs; exact q.elim
  | cont => obtain ⟨_, _, _, q⟩ := hs; exact q.elim
/-! ### the table grows -/
theorem triples_snoc {a b : Int} {t u : Tok} {c : Value} : ∀ {l : List Value}, TriplesOk l → TriplesOk (l ++ [.int a t, .int b u, c]) := by
  intro l h
  fun_induction TriplesOk l with
  | case1 => simp [TriplesOk]
  | case2 x1 x2 x3 x4 x5 rest ih => simpa [TriplesOk] using ih h
  | case3 => exact h.elim
theorem among_snoc {p : Pos} {a b : Int} {t u : Tok} {c cv : Value} : ∀ {l : List Value}, TriplesOk l → codeAmong p (l ++ [.int a t, .int b u, c]) = some cv → codeAmong p l = some cv ∨ cv = c := by
  intro l h e
  fun_induction TriplesOk l with
  | case1 =>
    simp only [List.nil_append, codeAmong] at e
    split at e
    · exact .inr (Option.some.inj e).symm
    · cases e
  | case2 x1 x2 x3 x4 x5 rest ih =>
    simp only [List.cons_append, codeAmong] at e ⊢
    split at e
    · rename_i hh; rw [if_pos hh]; exact .inl e
    · rename_i hh; rw [if_neg hh]; exact ih h e
  | case3 => exact h.elim
section
variable {K : PySem.W.Frag} {C : Cn} {G H : Hp} {w : Wn} {ρ : Ev} {σ : L2.St} {j : Nat} {q : Str} {P c Fa : Addr} {ps : Array Value} {a b : Int} {t u : Tok} {ob : Obj}
/-- a new code, a new function -/
theorem Rel.lamA (r : Rel K C G w ρ σ H) (hj : ρ[j]? = some (some (.tab q))) (hσ : σ[j]? = some (some (.ref P))) (hw : w P = some j) (T : TabOk P q G H ps) (hc : H c = none) (hF : H Fa = none) (hne : c ≠ Fa) :
    Rel K C (upd (upd G c (cHO c q)) Fa (fHO Fa ob)) w ρ σ (upd (upd (upd H P (.tbl (ps ++ #[.int a t, .int b u, .ref c]))) c (cHO c q)) Fa (fHO Fa ob)) ∧
      Step G H w (upd (upd G c (cHO c q)) Fa (fHO Fa ob)) (upd (upd (upd H P (.tbl (ps ++ #[.int a t, .int b u, .ref c]))) c (cHO c q)) Fa (fHO Fa ob)) w := by
  have gf : ∀ {x : Addr}, H x = none → G x = none := fun {x} e => r.gh.free e
  have cP : c ≠ P := fun z => by rw [z, T.at_] at hc; cases hc
  have fP : Fa ≠ P := fun z => by rw [z, T.at_] at hF; cases hF
  have gP : G P = none := r.wg P (by rw [hw]; simp)
  have sG : Same G (upd (upd G c (cHO c q)) Fa (fHO Fa ob)) := fun x o e => by rw [upd_ne (ne_of_none e (gf hF)), upd_ne (ne_of_none e (gf hc))]; exact e
  have oth : ∀ {x : Addr} {o : HO}, x ≠ P → H x = some o → upd (upd (upd H P (.tbl (ps ++ #[.int a t, .int b u, .ref c]))) c (cHO c q)) Fa (fHO Fa ob) x = some o := fun {x o} hx e => by
    rw [upd_ne (ne_of_none e hF), upd_ne (ne_of_none e hc), upd_ne hx]; exact e
  have dom : ∀ x, upd (upd (upd H P (.tbl (ps ++ #[.int a t, .int b u, .ref c]))) c (cHO c q)) Fa (fHO Fa ob) x = none → H x = none := fun x e => by
    by_cases h1 : x = Fa
    · rw [h1, upd_same] at e; cases e
    · rw [upd_ne h1] at e
      by_cases h2 : x = c
      · rw [h2, upd_same] at e; cases e
      · rw [upd_ne h2] at e
        by_cases h3 : x = P
        · rw [h3, upd_same] at e; cases e
        · rw [upd_ne h3] at e; exact e
  have st : Step G H w (upd (upd G c (cHO c q)) Fa (fHO Fa ob)) (upd (upd (upd H P (.tbl (ps ++ #[.int a t, .int b u, .ref c]))) c (cHO c q)) Fa (fHO Fa ob)) w := by
    refine ⟨sG, fun x o e => ?_, fun x o e z => oth (fun y => by rw [y, hw] at z; cases z) e, fun x e => .inl e, dom⟩
    by_cases h1 : x = Fa
    · rw [h1]; exact .inr (.inl hF)
    · rw [upd_ne h1] at e
      by_cases h2 : x = c
      · rw [h2]; exact .inr (.inl hc)
      · rw [upd_ne h2] at e; exact .inl (by rw [e]; simp)
  refine ⟨⟨fun x o e => ?_, fun x e => ?_, fun x e z => r.wh x e (dom x z), r.len, fun i bb e => ?_, r.en.trans st, r.pin⟩, st⟩
  · by_cases h1 : x = Fa
    · rw [h1, upd_same] at e ⊢; exact e
    · rw [upd_ne h1] at e ⊢
      by_cases h2 : x = c
      · rw [h2, upd_same] at e ⊢; exact e
      · rw [upd_ne h2] at e ⊢
        rw [upd_ne (fun y => by rw [y, gP] at e; cases e)]
        exact r.gh x o e
  · have := r.wh x e
    rw [upd_ne (fun y => this (by rw [y]; exact hF)), upd_ne (fun y => this (by rw [y]; exact hc))]
    exact r.wg x e
  · obtain ⟨v, e1, e2⟩ := r.sl i bb e
    by_cases hi : i = j
    · subst hi
      rw [hj] at e; cases e
      rw [hσ] at e1; cases e1
      refine ⟨_, hσ, P, ps ++ #[.int a t, .int b u, .ref c], rfl, hw, ?_, ?_, fun p cv hcv => ?_⟩
      · rw [upd_ne (Ne.symm fP), upd_ne (Ne.symm cP), upd_same]
      · rw [Array.toList_append]; exact triples_snoc T.tri
      · rw [Array.toList_append] at hcv
        rcases among_snoc T.tri hcv with z | z
        · obtain ⟨c2, q1, q2⟩ := T.cod p cv z
          exact ⟨c2, q1, sG _ _ q2⟩
        · exact ⟨c, z, by rw [upd_ne hne, upd_same]⟩
    · refine ⟨v, e1, e2.grow sG fun x o z1 z2 => ⟨oth (fun y => ?_) z2, z1⟩⟩
      rw [y, hw] at z1
      exact hi (Option.some.inj z1).symm
/-- a new function -/
theorem Rel.lamB (r : Rel K C G w ρ σ H) (hF : H Fa = none) : Rel K C (upd G Fa (fHO Fa ob)) w ρ σ (upd H Fa (fHO Fa ob)) ∧ Step G H w (upd G Fa (fHO Fa ob)) (upd H Fa (fHO Fa ob)) w :=
  let gr : Grow G H (upd G Fa (fHO Fa ob)) (upd H Fa (fHO Fa ob)) := .new r.gh hF
  ⟨r.grow gr, gr.step⟩
theorem Rel.valsAt {C' : Cn} {H' : Hp} (r : Rel K C G w ρ σ H) (sm : Same H H') (h1 : C'.G₀ = G) (h2 : C'.H₀ = H') (h3 : C'.w₀ = fun _ => none) (h4 : C'.pp = []) : Rel K C' G (fun _ => none) (valOnly ρ) σ H' := by
  refine ⟨r.gh.trans sm, fun b e => absurd rfl e, fun b e => absurd rfl e, by unfold valOnly; rw [List.length_map]; exact r.len, fun i b e => ?_, by rw [h1, h2, h3]; exact .refl _ _ _, fun i hi => by rw [h4] at hi; simp at hi⟩
  unfold valOnly at e
  rw [List.getElem?_map] at e
  cases q : ρ[i]? with
  | none => rw [q] at e; cases e
  | some o =>
    rw [q] at e
    simp only [Option.map_some, Option.some.injEq] at e
    split at e
    · rename_i d
      cases e
      obtain ⟨v, e1, e2⟩ := r.sl i _ q
      exact ⟨v, e1, e2⟩
    · cases e
theorem putB_nil {bs : List B} : ∀ {ρ : Ev} {k : Nat}, putB [] bs k ρ = ρ
  | [], _ => rfl
  | o :: r, k => by unfold putB; rw [putB_nil (ρ := r)]; rfl
end
end PV
end
section
set_option Elab.async false
set_option linter.all false
set_option maxRecDepth 100000
namespace PV
open PySem PySem.Spec L2 PyProof.Rows
/-! ### _law_refused(lambda: E): the number of the class of the error that E raises -/
noncomputable def dRef (j : Nat) (q : Str) (fE : De) : DN := fun ρ => match ρ[j]? with
  | some (some (.tab q')) => if q' = q then match fE (valOnly ρ) with
      | .er n => if n < 8 then .ok ([.int n], ρ) else .no
      | _ => .no
    else .no
  | _ => .no
/-- the context of the def that asks -/
noncomputable def refCn (C : Cn) (G H : Hp) (σ : L2.St) : Cn := ⟨G, H, fun _ => none, [0], σ, fun _ => False, C.xv, true⟩
noncomputable def lamCn (C : Cn) (G H : Hp) (σ : L2.St) (n : Nat) : Cn := ⟨G, H, fun _ => none, [], σ, fun m => m = n, C.xv, false⟩
section
variable {X : Cx} {C : Cn} {P f : Addr} {fd : FuncData} {st : Stmt} {xq xr : Str} {NR : List Str} {m k j : Nat} {p pos lpos : Pos} {params : Arguments} {body : Expr} {scope : Scope} {fE : De} {dB : Nat → Addr → DS}
theorem jn_ref (LB : LamBase X P) (hfn : X.fn = fun _ => true) (hpp : j ∈ C.pp) (hσ0 : C.σ₀[j]? = some (some (.ref P))) (cls : Nat → Addr) (hxv : ∀ n, n < 8 → C.xv n = .ref (cls n))
    (Fu : Fun X.K xq xr st f fd) (S : FnScope NR ["call"] (defScope st)) (hNR : NR.length = m + 1) (hb : Binds X.K fd ["call"] []) (hm : X.mg xr = some (.ref f)) (hr : Room (k + 2) X.A)
    (hB : ∀ (XR : Cx) (CR : Cn) (n : Nat) (Fa : Addr), n < 8 → (∃ cdv A outer s H E, XR = cxOf (CXe X.prog X.w) X.prog X.w X.K X.mg X.base NR xr (defScope st) f cdv A outer s H E) → (∃ G H, CR = refCn C G H (start NR [.ref Fa])) → Room (k + 1) XR.A →
      (∀ pins σ H s, L2.Inv XR pins σ H s → Same CR.H₀ H → codeAny (model XR.prog XR.w) XR.A (.call (.ref Fa) ⟨[], []⟩) (fun r s' => ∃ e, r = .error e ∧ CXf XR.prog XR.w XR.stack H s (EL (cls n) H) e s') s) →
      (∀ pins σ H s, L2.Inv XR pins σ H s → Same CR.H₀ H → PySem.W.FnAt Fa s.heap) → JSs XR CR (defBody st) (dB n (cls n)))
    (hden : ∀ n C', n < 8 → ∃ ρ', dB n C' (some .opq :: List.replicate m none) = .ok (.rt (.lst [.int n]), ρ'))
    (hE : ∀ (XL : Cx) (CL : Cn), (∃ XR cl Fa cdv s H E, XR.prog = X.prog ∧ XR.w = X.w ∧ XR.K = X.K ∧ XR.mg = X.mg ∧ XR.base = X.base ∧ XL = lamCx XR X.N scope cl (X.env.qual ++ "<lambda>") Fa cdv s H E) → CL.xv = C.xv → Room k XL.A → Passes (CXe X.prog X.w) XL (EXc CL) → JE XL CL body fE)
    (hdef : defaultsOf params X.env = ([], []) := by rfl) (hk : scope.kind = .function := by rfl) (ho : lamOk scope.names = true := by rfl) (hfr : ∀ y ∈ scope.names, y.2 = .free → X.env.kindOf y.1 = some .cell ∨ X.env.kindOf y.1 = some .free)
    (hbind : ∀ cl pm cdv ctv, bindArgs (PySem.W.kla_fn "<lambda>" (X.env.qual ++ "<lambda>") params body scope cl pm cdv ctv) ⟨[], []⟩ = pure []) (hco : scope.isCoroutine = false := by rfl) (hgen : scope.isGenerator = false := by rfl)
    (hg : Gl X xr := by rfl) (hdb : (xr == ("__debug__" : Str)) = false := by decide) (he : starEach [.Lambda params body scope lpos] X.env = (false, eval (.Lambda params body scope lpos) X.env) :: starEach [] X.env := by rfl) (hpl : (backTo pos (starEach [] X.env)).any (·.1) = false := by rfl) :
    JN X C (.Call (.Name xr p) [.Lambda params body scope lpos] [] pos) (dRef j (X.env.qual ++ "<lambda>") fE) := by
  intro pins s σ H Q I ⟨G, w, ρ, r, pst⟩
  unfold dRef at pst
  split at pst
  case h_2 => exact pst.elim
  rename_i q' hj
  split at pst
  case isFalse => exact pst.elim
  rename_i hq'
  subst hq'
  split at pst
  case h_2 => exact pst.elim
  rename_i n hfE
  split at pst
  case isFalse => exact pst.elim
  rename_i hn8
  have kn : kN X.K C σ Q G H w ([.int n], ρ) := pst
  obtain ⟨cl, hclos, hcl, hcf⟩ := closure_ok (scope := scope) (env := X.env) fun y hy hf => I.ok.has y.1 (hfr y hy hf)
  obtain ⟨vP, eP1, P', ps, rfl, hwP, hHP, htri, hcod⟩ := r.sl j _ hj
  have hσj : σ[j]? = some (some (.ref P)) := by rw [r.pin j hpp]; exact hσ0
  rw [hσj] at eP1
  obtain rfl : P = P' := by injection eP1 with e1; injection e1 with e2; injection e2
  have T : TabOk P (X.env.qual ++ "<lambda>") G H ps := ⟨hHP, htri, hcod⟩
  have TH : TabOk P (X.env.qual ++ "<lambda>") H H ps := ⟨hHP, htri, fun q cv z => let ⟨c, z1, z2⟩ := hcod q cv z; ⟨c, z1, r.gh _ _ z2⟩⟩
  refine wpAny_Call_Name_kw (ld_glob I hg hm ?_ hdb)
  -- what is known behind the making
  let Made : V → Hp → Prop := fun v H1 => ∃ Fa c ctv G1, v = .ref Fa ∧ Rel X.K C G1 w ρ σ H1 ∧ Step G H w G1 H1 w ∧ H1 Fa = some (fHO Fa (PySem.W.kla_obj "<lambda>" (X.env.qual ++ "<lambda>") params body scope cl ((X.mg "__name__").getD .none) c ctv)) ∧ H1 c = some (cHO c (X.env.qual ++ "<lambda>"))
  refine PySem.W.callWith_K (h₀ := X.base) I.ok.mod.kin Fu.kp ?_ he hpl
  rw [he]
  refine Calls.spliced_cons (thn (wp_lam (pos := lpos) (Q := Made) LB I hdef hclos TH (fun c Fa ctv _ hc hF hne => ?_) fun c Fa ctv hk' hF => ?_) fun u s1 hEP => ?_)
  · obtain ⟨rel1, st1⟩ := r.lamA (ob := PySem.W.kla_obj "<lambda>" (X.env.qual ++ "<lambda>") params body scope cl ((X.mg "__name__").getD .none) c ctv) (a := lpos.line) (b := lpos.col) (t := _) (u := _) hj hσj hwP T hc hF hne
    exact ⟨Fa, c, ctv, _, rfl, rel1, st1, upd_same, by rw [upd_ne hne, upd_same]⟩
  · obtain ⟨rel1, st1⟩ := r.lamB (ob := PySem.W.kla_obj "<lambda>" (X.env.qual ++ "<lambda>") params body scope cl ((X.mg "__name__").getD .none) c ctv) hF
    obtain ⟨c2, e1, e2⟩ := hcod _ _ hk'
    cases e1
    have hcH := r.gh _ _ e2
    exact ⟨Fa, c, ctv, _, rfl, rel1, st1, upd_same, by rw [upd_ne (ne_of_none hcH hF)]; exact hcH⟩
  obtain ⟨v, H1, I1, rv, Fa, c, ctv, G1, rfl, rel1, st1, hHF, hHc⟩ := hEP
  cases rv
  show wpAny _ _ (spliced []) _ _ s1
  refine Calls.spliced_nil ⟨I1.kIn, ?_⟩
  obtain ⟨oc, od, kV, doc, pm, an, cdv, ct, osl, rfl, lk, hcd⟩ := Fu.ex
  refine wpAny_call (codeAny_mono (fn_at (CX := CXe X.prog X.w) (k := k + 1) (E := fun _ _ _ => False) (us := [.ref Fa]) (vs := [.ref Fa]) (N := NR) (Q := Q) lk hcd S hr I1.env0 (by simpa using hb s1 [.ref Fa] I1.kIn rfl) (.cons rfl .nil) rfl ?_) fun rr s2 hq => ?_)
  · -- the body
    let XR := cxOf (CXe X.prog X.w) X.prog X.w X.K X.mg X.base NR xr (defScope st) f cdv X.A X.stack s1 H1 (fun _ _ _ => False)
    let CR := refCn C G1 H1 (start NR [.ref Fa])
    have frs0 : ∀ x cc, cl.lookup x = some cc → cc ∉ frs X.stack := fun x cc e hmem => by
      rcases List.mem_cons.mp (I1.stkSub cc hmem) with z | z
      · exact I1.cne x cc (hcl x cc e) z
      · obtain ⟨_, o, ho', _⟩ := I1.ok.funs.mem z
        exact absurd (Heap.lt_size ho') (Nat.not_lt.mpr (I1.ok.cab x cc (by rw [hfn]) (hcl x cc e)))
    have cells : ∀ pinsR σR H2 s2, L2.Inv XR pinsR σR H2 s2 → LamCells X.N scope.names cl σ H2 s2.heap := fun pinsR σR H2 s2 J => by
      have mv : ∀ x cc v, cl.lookup x = some cc → s1.heap.IsCell cc v → s2.heap.IsCell cc v := fun x cc v e ⟨o, e1, e2⟩ =>
        ⟨o, J.base.keep cc o e1 (I1.freeC x cc (hcl x cc e)) (frs0 x cc e) (by show cc ∉ ([] : List Addr); simp), e2⟩
      refine ⟨fun x y cc h1 h2 => I1.ok.inj x y cc (hcl x cc h1) (hcl y cc h2), fun x e => hcf _ (mem_of_lookup' e) rfl, fun x cc e => ?_, fun i x v e1 e2 e3 => ?_⟩
      · obtain ⟨v, ic⟩ := I1.cell x cc (hcl x cc e)
        obtain ⟨o, e1, _⟩ := id ic
        exact ⟨⟨v, mv x cc v e ic⟩, J.base.free cc o e1 (I1.freeC x cc (hcl x cc e)) (by show cc ∉ ([] : List Addr); simp)⟩
      · have hmem := mem_of_lookup' e3
        have kc := hfr _ hmem rfl
        obtain ⟨m0, hn0, hl0⟩ := I1.loc
        obtain ⟨u, ru, lk'⟩ := hl0 i x v e1 e2 (kc.elim (fun z => .inr (.inl z)) fun z => .inr (.inr z))
        obtain ⟨cc, hcc⟩ := hcf _ hmem rfl
        refine ⟨u, cc, ru, hcc, ?_⟩
        rcases lk' with ⟨z, _⟩ | ⟨_, c', e', ic⟩
        · rcases kc with y | y <;> (rw [y] at z; cases z)
        · rw [hcl _ _ hcc] at e'; cases e'
          exact mv x cc _ hcc ic
    have objs : ∀ pinsR σR H2 s2, L2.Inv XR pinsR σR H2 s2 → Same H1 H2 → s2.heap.get? Fa = some (PySem.W.kla_obj "<lambda>" (X.env.qual ++ "<lambda>") params body scope cl ((X.mg "__name__").getD .none) c ctv) ∧ s2.heap.CodeRec (.ref c) (X.env.qual ++ "<lambda>") := fun pinsR σR H2 s2 J sm => by
      have o1 : ObjOk XR.prog XR.w H2 s2.heap Fa (fHO Fa _) := J.hok Fa _ (sm _ _ hHF)
      have o2 : ObjOk XR.prog XR.w H2 s2.heap c (cHO c _) := J.hok c _ (sm _ _ hHc)
      exact ⟨o1.1, o2.1⟩
    have hrR : Room (k + 1) XR.A := hr.deeper _
    have hjs := hB XR CR n Fa hn8 ⟨cdv, X.A, X.stack, s1, H1, fun _ _ _ => False, rfl⟩ ⟨G1, H1, rfl⟩ hrR (fun pinsR σR H2 s2 J sm => ?_) fun pinsR σR H2 s2 J sm => ?_
    · refine ⟨_, hjs, G1, fun _ => none, some .opq :: List.replicate m none, ?_, ?_⟩
      · refine ⟨rel1.gh, fun b e => absurd rfl e, fun b e => absurd rfl e, ?_, fun i b e => ?_, .refl _ _ _, fun i _ => rfl⟩
        · unfold L2.start; simp [hNR]
        · cases i with
          | zero =>
            simp at e; subst e
            exact ⟨.ref Fa, rfl, trivial⟩
          | succ i =>
            rw [List.getElem?_cons_succ, List.getElem?_replicate] at e
            split at e <;> cases e
      · obtain ⟨ρ', e⟩ := hden n (cls n) hn8
        rw [e]
        intro v σ' G' H' w' st' rel' rt
        obtain ⟨l, pp, us, e1, rfl, e3, e4, e5, e6, e7⟩ := rt
        injection e1 with e1
        subst e1
        have win : wIn w [] = fun _ => none := by
          funext b; unfold wIn; cases w b <;> rfl
        obtain ⟨r2, st2⟩ := rel1.back (as := []) (vs := []) (bs := []) (bs' := []) (ks := []) rfl rfl rfl rfl (by rw [win]; exact st') ⟨rel'.gh, rel'.wg, rel'.wh, fun j' v' z => by simp at z⟩
        rw [putB_nil] at r2
        have w1p : w pp = none := by
          cases zz : w pp with
          | none => rfl
          | some kk => exact absurd e3 (rel1.wh pp (by rw [zz]; simp))
        exact kn pp us G' H' _ (st1.trans st2) r2 (st1.k pp e3) e4 e5 (by unfold wOut; rw [e6, w1p]; rfl) e7
    · -- the lambda raises
      obtain ⟨o1, o2⟩ := objs _ _ _ _ J sm
      have CLx := lamCn C G1 H2 σ n
      refine lam_call (σ := σ) (N := X.N) (t := tE X.K (lamCn C G1 H2 σ n) fE) J rfl (by have := hrR.dp; omega) hk ho (cells _ _ _ _ J) I1.len o1 o2 (hbind _ _ _ _) hco hgen ?_ ?_
      · refine hE _ (lamCn C G1 H2 σ n) ⟨XR, cl, Fa, .ref c, s2, H2, EL (cls n) H2, rfl, rfl, rfl, rfl, rfl, rfl⟩ rfl (hrR.deeper _) (lam_passes fun u a H' ⟨ea, n', eu, en, G', w', s'⟩ => ?_)
        have en' : n' = n := en
        subst en'
        exact ⟨eu.trans (hxv n' hn8), fun b o e => s'.h b o e rfl⟩
      · refine ⟨G1, fun _ => none, valOnly ρ, rel1.valsAt sm rfl rfl rfl rfl, ?_⟩
        rw [hfE]
        rfl
    · obtain ⟨o1, _⟩ := objs _ _ _ _ J sm
      exact ⟨_, _, _, _, o1⟩
  · cases rr with
    | error e => exact (CXe.none hq).elim
    | ok fl =>
      cases fl with
      | ret u => exact I1.after hq
      | next => exact False.elim hq
      | brk => exact False.elim hq
      | cont => exact False.elim hq
end
end PV
end
section
set_option Elab.async false
set_option linter.all false
set_option maxRecDepth 100000
namespace PV
open PySem PySem.Spec L2 PyProof.Rows
/-! ### the law's entry, where the law makes lambdas: the table of its code is tracked -/
theorem law_callT {P : Program} {w : World} {K : PySem.W.Frag} {mg mb : Str → Option Value} {CX : CXT} {k : Nat} {fa a PT cL : Addr} {fd : FuncData} {x : Str} {sp : Sp} {s₁ : Shared} {vs : List Value} {ns : List Int}
    (KX : K.In s₁.heap) (hns : s₁.heap.Ns mainGlobals mg) (hb : s₁.heap.Ns builtinsNs mb) (hbb : ∀ x : Str, x ≠ "__name__" → mb x = bootBuiltins x) (hlim : s₁.heap.NoLimit) (hg : s₁.gens = #[])
    (ha : s₁.heap.get? a = some { cls := .type "list", data := .seq vs.toArray }) (hi : IntsAre vs ns) (hl : ns.length ≤ sizeLine) (hr : Room k callerA)
    (hPT : s₁.heap.get? PT = some (PySem.W.tabObj #[])) (hnt : PySem.W.noTabs K = true) (hcode : PySem.W.codeHdIn K cL PT = true) (hbm : s₁.heap.BuiltinsAt mg PT)
    (F : ∀ base : Heap, K.In base → base.Ns mainGlobals mg → base.BuiltinsAt mg PT → FnOk P w K mg base CX k fa fd [x] sp) (hbind : ∀ (s : Shared) (u : Value), BindsTo s fd ⟨[u], []⟩ [(x, u)])
    (hsp : ∀ H : Hp, H PT = some (.tbl #[]) → SqL K H a (ns.map V.int) → sp [.ref a] H (fun v _ => v = .bl true) fun _ _ _ => False)
    (hCX : ∀ H e s', CX [] H s₁ (fun _ _ _ => False) e s' → False) :
    codeAny (model P w) callerA (.call (.ref fa) ⟨[.ref a], []⟩) (fun r s' => r = .ok (.ret (.bool true)) ∧ OldK s₁.heap s'.heap ∧ s'.os = s₁.os ∧ AllBare s'.gens) s₁ := by
  have rv := vals_ints hi
  have lenV := hi.length
  have aP : a ≠ PT := fun z => by
    rw [z, hPT] at ha
    have := congrArg Obj.cls (Option.some.inj ha)
    cases this
  have kP : K.lookup PT = none := by
    cases q : K.lookup PT with
    | none => rfl
    | some o =>
      have e := KX _ _ q
      rw [hPT] at e
      have h2 := List.all_eq_true.mp hnt (PT, o) (PySem.W.mem_of_lookupK q)
      cases e
      exact absurd (show false = true from h2) Bool.false_ne_true
  have core : ∀ H : Hp, (∀ b, b ≠ PT → H b = none ∨ ∃ o xs, H b = some (.frz o (.lst xs))) → H PT = some (.tbl #[]) → SqL K H a (ns.map V.int) → HOk P w H s₁.heap → (∀ b, H b ≠ none → b = a ∨ b = PT) → (H a ≠ none → K.lookup a = none) →
      codeAny (model P w) callerA (.call (.ref fa) ⟨[.ref a], []⟩) (fun r s' => r = .ok (.ret (.bool true)) ∧ OldK s₁.heap s'.heap ∧ s'.os = s₁.os ∧ AllBare s'.gens) s₁ := by
    intro H hO hP hS hok hA hK
    have base_of : ∀ {b : Addr} {o : Obj}, s₁.heap.get? b = some o → H b = none → (hidT s₁.heap H).get? b = some o := fun e n => hidT_get e n
    have other : ∀ {b : Addr} {o : Obj}, s₁.heap.get? b = some o → o.cls ≠ .type "list" → o.cls ≠ .none → H b = none := fun {b o} e d1 d2 => by
      cases q : H b with
      | none => rfl
      | some u =>
        rcases hA b (by rw [q]; simp) with z | z
        · rw [z, ha] at e; cases e; exact absurd rfl d1
        · rw [z, hPT] at e; cases e; exact absurd rfl d2
    have noA : ∀ {b : Addr} {o : Obj} {es : Array DictEntry} {ep : Nat}, s₁.heap.get? b = some o → o.data = .dict es ep → H b = none := fun {b o es ep} e d => by
      cases q : H b with
      | none => rfl
      | some u =>
        rcases hA b (by rw [q]; simp) with z | z
        · rw [z, ha] at e; cases e; cases d
        · rw [z, hPT] at e; cases e; cases d
    have nsK : ∀ {b : Addr} {m : Str → Option Value}, s₁.heap.Ns b m → (hidT s₁.heap H).Ns b m := fun {b m} ⟨o, es, ep, e, d, r⟩ => ⟨o, es, ep, base_of e (noA e d), d, r⟩
    have hKb : K.In (hidT s₁.heap H) := fun b o e => base_of (KX b o e) (by
      cases q : H b with
      | none => rfl
      | some u =>
        rcases hA b (by rw [q]; simp) with z | z
        · subst z
          rw [hK (by rw [q]; simp)] at e; cases e
        · rw [z, kP] at e; cases e)
    have hM : Mod K mg (hidT s₁.heap H) := ⟨hKb, nsK hns, ⟨mb, nsK hb, hbb⟩, let ⟨mc, h1, h2⟩ := hlim; ⟨mc, nsK h1, h2⟩⟩
    have hbm' : (hidT s₁.heap H).BuiltinsAt mg PT := by
      obtain ⟨bm, o, b1, b2, b3, b4, b5, b6, b7⟩ := hbm
      exact ⟨bm, o, b1, b2, b3, b4, base_of b5 (other b5 (by rw [b6]; decide) (by rw [b6]; intro z; cases z)), b6, b7⟩
    have e0 : Env0 P w K mg (hidT s₁.heap H) callerA [] s₁ H := ⟨rfl, hM, fun b o e => of_hidT e, Nat.le_of_eq (hidT_size _ _), trivial, fun b hb => absurd (show b ∈ ([] : List Addr) from hb) (by simp), hok, .of_eq hg⟩
    refine codeAny_mono ((F _ hKb (nsK hns) hbm').run callerA [] s₁ H ⟨[.ref a], []⟩ [.ref a] [.ref a] _ _ hr e0 (hbind s₁ (.ref a)) (.cons rfl .nil) (hsp H hP hS)) fun r s' h => ?_
    cases r with
    | error e => exact (hCX H e s' h).elim
    | ok fl =>
      cases fl with
      | next => exact False.elim h
      | brk => exact False.elim h
      | cont => exact False.elim h
      | ret u =>
        obtain ⟨v, H', os, bare, un, hok', r', q⟩ := h
        have q' : v = .bl true := q
        subst q'
        obtain rfl : u = Value.bool true := r'
        have kept : ∀ b o, b ≠ PT → s₁.heap.get? b = some o → s'.heap.get? b = some o := fun b o hb e => by
          cases q : H b with
          | none => exact un.keep b o e q (by intro z; exact absurd (show b ∈ ([] : List Addr) from z) (by simp)) (by simp)
          | some u =>
            rcases hO b hb with z | ⟨ob, xs, z⟩
            · rw [q] at z; cases z
            · have z2 := un.frzs b ob _ z
              obtain ⟨e1, _⟩ := hok b _ z
              obtain ⟨e2, _⟩ := hok' b _ z2
              rw [e] at e1; cases e1
              exact e2
        obtain ⟨more, hm⟩ := un.tbls PT #[] hP
        have hPT' : s'.heap.get? PT = some (PySem.W.tabObj (#[] ++ more)) := hok' PT _ hm
        have tab := (PySem.W.codeHd_of_K KX hcode).tab hPT
        refine ⟨rfl, ⟨fun b o e => ?_, fun b o e => ?_⟩, os, bare⟩
        · by_cases hb : b = PT
          · subst hb
            rw [hPT] at e; cases e
            exact .inr (.inl ⟨tab.isCodeTable, rfl, #[], more, rfl, hPT'⟩)
          · exact .inl (kept b o hb e)
        · by_cases hb : b = PT
          · subst hb; exact ⟨_, hPT'⟩
          · exact ⟨o, kept b o hb e⟩
  cases hk : K.lookup a with
  | some o =>
    have e := KX a o hk
    rw [ha] at e
    cases e
    refine core (fun b => if b = PT then some (.tbl #[]) else none) (fun b hb => .inl (if_neg hb)) (if_pos rfl) (.inr ⟨_, vs.toArray, _, hk, rfl, rfl, rfl, by rw [List.size_toArray, lenV]; exact hl, by simpa using rv⟩) (fun b u z => ?_) (fun b z => ?_) fun z => absurd (if_neg aP) z
    · by_cases hb : b = PT
      · have z' := (if_pos hb).symm.trans z
        cases z'
        subst hb
        exact hPT
      · have z' := (if_neg hb).symm.trans z
        cases z'
    · by_cases hb : b = PT
      · exact .inr hb
      · exact absurd (if_neg hb) z
  | none =>
    refine core (fun b => if b = PT then some (.tbl #[]) else if b = a then some (.frz { cls := .type "list", data := .seq vs.toArray } (.lst (ns.map V.int))) else none) (fun b hb => ?_) (if_pos rfl) (.inl (.inr ⟨{ cls := .type "list", data := .seq vs.toArray }, (if_neg aP).trans (if_pos rfl)⟩)) (fun b u z => ?_) (fun b z => ?_) fun _ => hk
    · by_cases hba : b = a
      · exact .inr ⟨_, _, (if_neg hb).trans (if_pos hba)⟩
      · exact .inl ((if_neg hb).trans (if_neg hba))
    · by_cases hb : b = PT
      · have z' := (if_pos hb).symm.trans z
        cases z'
        subst hb
        exact hPT
      · have z := (if_neg hb).symm.trans z
        by_cases hba : b = a
        · have z' := (if_pos hba).symm.trans z
          cases z'
          subst hba
          exact ⟨ha, by rw [List.length_map]; exact hl, vs, _, rv, ha⟩
        · have z' := (if_neg hba).symm.trans z
          cases z'
    · by_cases hb : b = PT
      · exact .inr hb
      · by_cases hba : b = a
        · exact .inl hba
        · exact absurd ((if_neg hb).trans (if_neg hba)) z
theorem walk_ofT {l : PySem.W.OpenLaw} {n k : Nat} {q : Program} {loose : List Str} {XP : (Str → Option Value) → Heap → Prop} {YP : World → Heap → Prop} {d : DefRec} {K : Params → PySem.W.Frag} {CX : World → CXT} {sp : World → Sp} {x : Str} {PT : Addr}
    (hn : l.most = some n) (hn2 : n ≤ sizeLine) (hdf : d.params.defaults = []) (hr : Room k callerA)
    (hY : ∀ (w : World) (h : Heap), YP w h → (K w.params).In h) (hYT : ∀ (w : World) (h : Heap), YP w h → h.get? PT = some (PySem.W.tabObj #[])) (hnt : ∀ w : World, PySem.W.noTabs (K w.params) = true)
    (F : ∀ (w : World) (mg : Str → Option Value) (fa : Addr) (h : Heap), (K w.params).In h → h.Ns mainGlobals mg → mg d.name = some (.ref fa) →
      ∃ (fd : FuncData) (cL : Addr), (∀ (s : Shared) (u : Value), BindsTo s fd ⟨[u], []⟩ [(x, u)]) ∧ PySem.W.codeHdIn (K w.params) cL PT = true ∧
        ∀ base : Heap, (K w.params).In base → base.Ns mainGlobals mg → base.BuiltinsAt mg PT → FnOk l.prog w (K w.params) mg base (CX w) k fa fd [x] (sp w))
    (hsp : ∀ (w : World) (H : Hp) (a : Addr) (ns : List Int), ns.length ≤ n → H PT = some (.tbl #[]) → SqL (K w.params) H a (ns.map V.int) → sp w [.ref a] H (fun v _ => v = .bl true) fun _ _ _ => False)
    (hCX : ∀ (w : World) (H : Hp) (s : Shared) (e : Value) (s' : Shared), CX w [] H s (fun _ _ _ => False) e s' → False) :
    PySem.W.WalkO q loose XP YP l.row.toRowW d [] (fun f vs => PySem.call f vs) := by
  refine Att.attach_call hn hdf fun w s₀ s₁ mg mb fa o pm cd doc a vs ns G Y ho hd hcd hmg hobj hints hlen hg => ?_
  have KX := hY w _ Y
  have hPT := hYT w _ Y
  obtain ⟨fd, cL, hb, hcode, hF⟩ := F w mg fa _ KX G.T.g hmg
  have hbm : s₁.heap.BuiltinsAt mg PT := by
    obtain ⟨bm, ob, b1, b2, b3, b4, b5, b6⟩ := G.T.bmain
    refine ⟨bm, ob, b1, b2, fun z => ?_, fun z => ?_, b3, b4, b5, b6⟩
    · obtain ⟨o', es, ep, e, hd', _⟩ := G.T.g
      rw [z, e] at b3; cases b3; rw [hd'] at b6; cases b6
    · rw [z, hPT] at b3; cases b3; cases b4
  exact law_callT KX G.T.g G.T.b G.T.builtins G.T.nolimit hg hobj hints (Nat.le_trans hlen hn2) hr hPT (hnt w) hcode hbm hF hb (fun H hP hS => hsp w H a ns hlen hP hS) fun H e s' => hCX w H s₁ e s'
/-! ### the law's def: its names, and behind them the table -/
theorem inv_dummy {X : Cx} {pins : List (Addr × Obj)} {σ : L2.St} {H : Hp} {s : Shared} {j : Nat} {x : Str} {o : Option V} (I : L2.Inv X pins σ H s) (hj : X.N[j]? = some x) (hv : ¬ Vis X.env.scope x) : L2.Inv X pins (σ.set j o) H s := by
  refine ⟨I.ok, I.os, I.bare, I.base, ?_, I.cell, I.free, I.freeC, I.pin, I.hok, by simpa using I.len⟩
  obtain ⟨m, hn, hl⟩ := I.loc
  refine ⟨m, hn, fun i y v e1 e2 e3 => ?_⟩
  by_cases hi : i = j
  · subst hi
    rw [hj] at e1; cases e1
    exact absurd e3 hv
  · rw [List.getElem?_set_ne (Ne.symm hi)] at e2
    exact hl i y v e1 e2 e3
noncomputable def spT (K : PySem.W.Frag) (PT : Addr) (ok : List Int → Prop) : Sp := fun vs H Q _ => ∃ a ns, vs = [.ref a] ∧ SqL K H a (ns.map V.int) ∧ H PT = some (.tbl #[]) ∧ ok ns ∧ ∀ H', Q (.bl true) H'
/-- what the law's body says of a script -/
noncomputable def lawD (m : Nat) (q : Str) (fb : DS) (ns : List Int) : Prop := ∃ ρ', fb (some (.val (.scr ns)) :: (List.replicate m none ++ [some (.tab q)])) = .ok (.rt (.bl true), ρ')
end PV
end
section
set_option Elab.async false
set_option linter.all false
set_option maxRecDepth 100000
namespace PV
open PySem PySem.Spec L2 PyProof.Rows
/-- where no error is wished -/
theorem psNo {P : Program} {w : World} {X : Cx} {C : Cn} (h : ∀ n, ¬ C.ex n) : Passes (CXe P w) X (EXc C) := fun _ _ _ _ _ _ _ hx => by
  rcases hx with ⟨_, _, _, _, _, _, _, _, _, _, _, _, _, _, _, n, _, z, _⟩ | ⟨_, _, _, _, _, _, _, _, n, _, z, _⟩ <;> exact (h n z).elim
section
variable {X : Cx} {C : Cn} {a b : Expr} {fa fb : De} {pos : Pos}
/-- two tuples, one behind the other -/
noncomputable def gCatT : Dt → Dt → R Dt
  | .tup x, .tup y => if x.length + y.length ≤ 16777216 then .ok (.tup (x ++ y)) else .no
  | _, _ => .no
/-- one of them may be empty: then the other one is what comes -/
noncomputable def rCatU (K : PySem.W.Frag) : R2 := fun x y H Q => ∃ a b xs ys, x = .ref a ∧ y = .ref b ∧ SqT K H a xs ∧ SqT K H b ys ∧ xs.length + ys.length ≤ sizeLine ∧
  (xs = [] → Q (.ref b) H) ∧ (xs ≠ [] → ys = [] → Q (.ref a) H) ∧ (xs ≠ [] → ys ≠ [] → ∀ p, H p = none → Q (.ref p) (upd H p (.tup (xs ++ ys))))
theorem cat_left {prog : Program} {w : World} {A : Around} {E : Value → Shared → Prop} {s : Shared} {t b : Addr} {ws : List Value} {Q : Value → Shared → Prop} (ht : IsTup s.heap t ([] : List Value).toArray) (hb : IsTup s.heap b ws.toArray) (h : Q (.ref b) s) :
    wpAny (model prog w) A (binaryOp .Add (.ref t) (.ref b)) Q E s := by
  obtain ⟨⟨c1, d1, dt1, sl1⟩, e1, q1, n1, r1⟩ := id ht
  obtain ⟨⟨c2, d2, dt2, sl2⟩, e2, q2, n2, r2⟩ := id hb
  simp only at q1 r1 q2 r2
  subst q1 r1 q2 r2
  exact concat_meets ⟨_, e1, rfl⟩ ⟨_, e2, rfl⟩ noFill_tuple_add seq_tuple_add F.slot_tuple_add F.entry_tuple_add (F.args_tuple_add_2 _ _) (tuple_addW0 t b ([] : List Value).toArray ws.toArray n1 n2 d1 d2 sl1 sl2 rfl) ⟨e1, e2, h⟩
theorem op_catU : OpR X (binaryOp .Add) (rCatU X.K) := by
  intro pins s σ H x y v u Q I rx ry h
  obtain ⟨a, b, xs, ys, rfl, rfl, ha, hb, hz, q0, q1, q2⟩ := h
  by_cases hx : xs = []
  · subst hx
    cases rx
    cases ry
    obtain ⟨its, r1, p1, _⟩ := I.tuple ha
    obtain ⟨its2, r2, p2, _⟩ := I.tuple hb
    obtain rfl : its = [] := by cases r1; rfl
    exact cat_left p1 p2 ⟨.ref b, H, I, rfl, q0 rfl⟩
  · exact op_catT pins s σ H _ _ v u Q I rx ry ⟨a, b, xs, ys, rfl, rfl, ha, hb, hx, hz, q1 hx, q2 hx⟩
theorem op2_catT : Op2 X.K (rCatU X.K) gCatT := fun G H x y dx dy z Q sm hx hy e k => by
  unfold gCatT at e
  split at e
  · rename_i l l'
    split at e
    · rename_i hl
      cases e
      obtain ⟨a, vs, rfl, h1, h2⟩ := rep_tup hx
      obtain ⟨b, us, rfl, h3, h4⟩ := rep_tup hy
      have nil_of : ∀ {m : List Dt} {ws : List V}, Reps X.K G m ws → ws = [] → m = [] := fun {m ws} r z => by
        have := r.length; rw [z] at this; exact List.length_eq_zero_iff.mp this
      refine ⟨a, b, vs, us, rfl, rfl, sqT_same sm h1, sqT_same sm h3, by rw [← h2.length, ← h4.length, line24]; exact hl, fun z => ?_, fun _ z => ?_, fun _ _ p hp => ?_⟩
      · rw [nil_of h2 z] at k; exact k _ G H (.refl sm) hy
      · rw [nil_of h4 z, List.append_nil] at k; exact k _ G H (.refl sm) hx
      · have gr : Grow G H (upd G p (.tup (vs ++ us))) (upd H p (.tup (vs ++ us))) := .new sm hp
        exact k _ _ _ gr (by unfold Rep; exact ⟨p, _, rfl, SqTP.of upd_same, (h2.same gr.g).append (h4.same gr.g)⟩)
    · cases e
  · cases e
theorem noEr_catT : NoEr gCatT := fun x y n h => by
  unfold gCatT at h
  split at h
  · split at h <;> cases h
  · cases h
theorem je_catT (ha : JE X C a fa) (hb : JE X C b fb) : JE X C (.BinOp a .Add b pos) (dOp gCatT fa fb) := je_op op_catU op2_catT noEr_catT ha hb
/-- {} -/
theorem je_dict {p : Pos} : JE X C (.Dict [] [] p) (dC .dct) := fun pins s σ H Q I ⟨G, w, ρ, r, q⟩ => by
  have big : sysModules < s.heap.objs.size := Nat.lt_trans (by decide) (I.mod.glob.keeps I.bk).lt
  have hf : H s.heap.objs.size = none := I.hok.fresh (Nat.le_refl _)
  have ok : ObjOk X.prog X.w (upd H s.heap.objs.size (.dK [])) (s.heap.push { cls := .type "dict", data := .dict #[] }) s.heap.objs.size (.dK []) := ⟨Nat.zero_le _, beq_eq_false_iff_ne.mpr (Ne.symm (Nat.ne_of_lt big)), [], .nil, Heap.DictOf.new s.heap⟩
  refine wpAny_Dict_empty ⟨.ref s.heap.objs.size, _, I.laid (t' := s.toks) (fun _ _ z => Heap.get?_push_of_some _ z) (Nat.le_refl _) ok, rfl, ?_⟩
  have gr : Grow G H (upd G s.heap.objs.size (.dK [])) (upd H s.heap.objs.size (.dK [])) := .new r.gh hf
  exact q _ _ _ w gr.step (r.grow gr) (by unfold Rep; exact ⟨_, rfl, upd_same⟩)
end
end PV
end
section
set_option Elab.async false
set_option linter.all false
set_option maxRecDepth 100000
namespace PV
open PySem PySem.Spec L2 PyProof.Rows
/-! ### written data: constants, tuples and lists of them, {} -/
noncomputable def dAC (ds : List Dt) : DA := fun ρ => .ok (ds, ρ)
mutual
noncomputable def dataOf : Nat → Expr → Option Dt
  | 0, _ => none
  | k + 1, e => match e with
    | .Constant (.int i) _ _ => some (.int i)
    | .Constant (.bool b) _ _ => some (.bl b)
    | .Constant .none _ _ => some .non
    | .Constant (.str x) _ _ => some (.str x)
    | .UnaryOp .USub (.Constant (.int i) _ _) _ => some (.int (-i))
    | .Tuple es _ _ => (datasOf k es).bind fun ds => if fits ds = true then some (.tup ds) else none
    | .List es _ => (datasOf k es).bind fun ds => if fits ds = true then some (.lst ds) else none
    | .Dict [] [] _ => some .dct
    | _ => none
noncomputable def datasOf : Nat → List Expr → Option (List Dt)
  | _, [] => some []
  | 0, _ :: _ => none
  | k + 1, e :: es => (dataOf k e).bind fun d => (datasOf k es).bind fun ds => some (d :: ds)
end
section
variable {X : Cx} {C : Cn}
theorem JE.eq {e : Expr} {f g : De} (h : JE X C e f) (q : f = g) : JE X C e g := q ▸ h
theorem JA.eq {e : List Expr} {f g : DA} (h : JA X C e f) (q : f = g) : JA X C e g := q ▸ h
mutual
theorem je_data : ∀ (k : Nat) {e : Expr} {d : Dt}, dataOf k e = some d → JE X C e (dC d) ∧ ∀ es, starEach (e :: es) X.env = (false, eval e X.env) :: starEach es X.env
  | 0, e, d, h => by simp [dataOf] at h
  | k + 1, e, d, h => by
    unfold dataOf at h
    split at h
    · cases h; exact ⟨je_int, fun _ => rfl⟩
    · cases h; exact ⟨je_bl, fun _ => rfl⟩
    · cases h; exact ⟨je_non, fun _ => rfl⟩
    · cases h; exact ⟨je_str, fun _ => rfl⟩
    · cases h; exact ⟨(je_neg je_int).eq rfl, fun _ => rfl⟩
    · rename_i es x1 pos
      obtain ⟨ds, hds, h⟩ := Option.bind_eq_some_iff.mp h
      split at h
      · rename_i hf
        cases h
        refine ⟨(je_tup (ja_data k hds)).eq ?_, fun _ => rfl⟩
        funext ρ
        show (if fits ds = true then _ else _) = _
        rw [if_pos hf]; rfl
      · cases h
    · rename_i es pos
      obtain ⟨ds, hds, h⟩ := Option.bind_eq_some_iff.mp h
      split at h
      · rename_i hf
        cases h
        refine ⟨(je_new (jn_lst (ja_data k hds))).eq ?_, fun _ => rfl⟩
        funext ρ
        show (R.bind (if fits ds = true then _ else _) _) = _
        rw [if_pos hf]; rfl
      · cases h
    · cases h; exact ⟨je_dict, fun _ => rfl⟩
    · cases h
theorem ja_data : ∀ (k : Nat) {es : List Expr} {ds : List Dt}, datasOf k es = some ds → JA X C es (dAC ds)
  | k, [], ds, h => by
    unfold datasOf at h
    cases h
    exact ja_nil
  | 0, _ :: _, ds, h => by simp [datasOf] at h
  | k + 1, e :: es, ds, h => by
    unfold datasOf at h
    obtain ⟨d, h1, h⟩ := Option.bind_eq_some_iff.mp h
    obtain ⟨ds', h2, h⟩ := Option.bind_eq_some_iff.mp h
    cases h
    obtain ⟨j1, j2⟩ := je_data k h1
    exact (ja_cons j1 (ja_data k h2) (j2 es)).eq rfl
end
theorem jd (k : Nat) {e : Expr} {d : Dt} (h : dataOf k e = some d) : JE X C e (dC d) := (je_data k h).1
end
end PV
end
section
set_option Elab.async false
set_option linter.all false
set_option maxRecDepth 100000
namespace PV
open PySem PySem.Spec L2 PyProof.Rows
/-! ### x == []: whatever stands in x -/
section
variable {X : Cx} {C : Cn} {a b : Expr} {fa fb : De} {pos : Pos}
end
end PV
end
section
set_option Elab.async false
set_option linter.all false
set_option maxRecDepth 100000
namespace PV
open PySem PySem.Spec L2
open AutoSeq1 (wpAny_loadPart')
/-! ### t.index(x) of a tuple -/
theorem tuple_indexAt (l : Addr) (items : Array Value) (n : Nat) (dd : Option Addr) (sl : Array (Option Value)) (x : Value) (e : Value → Bool) (j : Nat) (hj : j < items.size)
    (hit : e items[j] = true) (hno : ∀ m (hm : m < items.size), m < j → e items[m] = false) :
    Meets (Builtin.«tuple.index» ⟨[.ref l, x], []⟩)
      (fun A R s => s.heap.get? l = some { cls := .type "tuple", dict := dd, data := .seq items n, slots := sl } ∧ (∀ y, y ∈ items → SeqAt.EqAt A.in1 s y x (e y)) ∧ R (.ok (.ret (.int j s.toks))) { s with toks := s.toks + 1 }) :=
  .of_wp fun prog w A R s h => by
    obtain ⟨hp, g, d, tk, os⟩ := s; obtain ⟨hl, he, h⟩ := h
    wp_walk using wpAny_loadPart' hl
    change wpAny _ _ (forIn (m := Sem) (Std.Legacy.Range.mk 0 (min items.size items.size) 1 (by decide)) (none, ()) (fun (i : Nat) (__s : Option _ × Unit) => match items[i]? with
            | some y => (do
              let b ← eqBool y x
              if b = true then do
                  let r ← retInt i
                  pure (ForInStep.done (some r, ()))
                else pure (ForInStep.yield (none, ())))
            | _ => pure (ForInStep.yield (none, ())))) _ _ _
    rw [Std.Legacy.Range.forIn_eq_forIn_range']
    simp only [Std.Legacy.Range.size, Nat.sub_zero, Nat.add_sub_cancel, Nat.div_one, Nat.min_self]
    refine wpAny_forIn_list _ (fun rest b s' => b.1 = none ∧ s' = ⟨hp, g, d, tk, os⟩ ∧ ∃ i, rest = List.range' i (items.size - i) ∧ i ≤ j) _ ?_ ?_ _ _ ⟨rfl, rfl, 0, rfl, Nat.zero_le _⟩
    · rintro i rest b s' ⟨hb, rfl, k, hr, hk⟩
      have hlt : k < items.size := by omega
      obtain ⟨rfl, hrest⟩ : i = k ∧ rest = List.range' (k + 1) (items.size - (k + 1)) := by
        have e : items.size - k = (items.size - (k + 1)) + 1 := by omega
        rw [e, List.range'_succ] at hr
        injection hr with h1 h2
        exact ⟨h1, h2⟩
      rw [Array.getElem?_eq_getElem hlt]
      refine wpAny_bind (he _ (Array.getElem_mem hlt) prog w _ _ ?_)
      by_cases hij : i = j
      · subst hij
        rw [hit]
        wp_walk
        exact ⟨_, rfl, h⟩
      · rw [hno i hlt (by omega)]
        wp_walk
        exact ⟨rfl, rfl, i + 1, hrest, by omega⟩
    · rintro b s' ⟨hb, rfl, i, hr, hi⟩
      have : items.size - i = 0 := by
        cases e : items.size - i with
        | zero => rfl
        | succ m => rw [e, List.range'_succ] at hr; cases hr
      omega
section
variable {X : Cx} {C : Cn} {a b o e : Expr} {es : List Expr} {fa fb : De} {pos apos cpos : Pos} {name : Str} {id : String} {to : TE} {t : TA} {r : V → List V → Hp → VK → Prop}
theorem tup_is {pins : List (Addr × Obj)} {σ : L2.St} {H : Hp} {s : Shared} {ad : Addr} {xs : List V} (I : L2.Inv X pins σ H s) (h : SqTP X.K H ad xs) : s.TypeIs (.ref ad) "tuple" ∧ ∀ b, Value.ref ad = .ref b → ∃ ob, s.heap.get? b = some ob ∧ ob.dict = none := by
  rcases h with h | ⟨its, n, h, _⟩
  · obtain ⟨z, its, r, n, e⟩ := I.hok ad _ h
    exact ⟨⟨_, e, rfl⟩, fun b q => by cases q; exact ⟨_, e, rfl⟩⟩
  · have e := I.kIn ad _ h
    exact ⟨⟨_, e, rfl⟩, fun b q => by cases q; exact ⟨_, e, rfl⟩⟩
noncomputable def tBT (K : PySem.W.Frag) (r : V → List V → Hp → VK → Prop) (to : TE) (t : TA) : TE := fun σ H Q => to σ H fun x H1 => (∃ ad xs, x = .ref ad ∧ SqTP K H1 ad xs) ∧ t σ H1 fun xs H2 => r x xs H2 Q
theorem pe_bmT (slot : Slot "tuple" name id) (hty : typeOf (.builtin id) = pure (.type "method_descriptor")) (hm : MtR X id r) (ho : PE X o to) (ha : PA X (e :: es) t)
    (hbase : attributeBase o name X.env (eval o X.env) = eval o X.env := by rfl)
    (hfew : ((backTo cpos (starEach (e :: es) X.env)).all (fun x => !x.1) && (backToKw cpos (keywordEach [] X.env)).all (fun x => x.1.isSome)
      && decide ((e :: es).length + ([] : List Keyword).length + (if ([] : List Keyword).isEmpty then 0 else 1) < 30)) = true := by rfl)
    (hline : (apos.endLine == cpos.line) = true := by rfl) (hs : starEach (e :: es) X.env = (false, eval e X.env) :: starEach es X.env := by rfl) (hplain : (backTo cpos (starEach es X.env)).any (·.1) = false := by rfl) :
    PE X (.Call (.Attribute o name apos) (e :: es) [] cpos) (tBT X.K r to t) := by
  intro pins s σ H Q I h
  refine wpAny_Call_method_late hbase hfew hline rfl (thn (ho pins s σ H _ I h) fun v s1 ⟨x, H1, I1, r1, ⟨ad, xs, ex, hx⟩, q1⟩ => ?_)
  subst ex
  cases r1
  obtain ⟨h1, h2⟩ := tup_is I1 hx
  refine ⟨"tuple", id, PySem.F.plainAttrs_tuple, slot, hty, h1, h2, ?_⟩
  have hA := ha cpos pins s1 σ H1 _ I1 q1
  rw [hs] at hA ⊢
  refine Calls.callWith_builtin (by show (false || (backTo cpos (starEach es X.env)).any (·.1)) = false; rw [hplain] <;> rfl) (Calls.evalArgs_plain ?_)
  exact thn hA fun us s2 ⟨vs, H2, I2, r2, q2⟩ => hm pins s2 σ H2 (.ref ad) vs (.ref ad) us Q I2 rfl r2 q2
noncomputable def rIdxT (K : PySem.W.Frag) : V → List V → Hp → VK → Prop := fun x vs H Q => ∃ ad zs dx ds j y, x = .ref ad ∧ vs = [y] ∧ SqT K H ad zs ∧ Reps K H ds zs ∧ Rep K H dx y ∧ okN 60 dx = true ∧ ds.all (okN 60) = true ∧ idxD dx ds = some j ∧ Q (.int j) H
theorem mt_indexT (hu : X.A.units + 65 < cLine) : MtR X "tuple.index" (rIdxT X.K) := by
  intro pins s σ H x vs v us Q I rx rv h
  obtain ⟨ad, zs, dx, ds, j, y, rfl, rfl, hH, h1, h2, h3, h4, h5, q⟩ := h
  cases rx
  obtain ⟨u, rfl, ru⟩ := Vals.one rv
  have hu1 : X.A.in1.units + 64 < cLine := by rw [in1_units]; omega
  obtain ⟨its, rr, ht, hz⟩ := I.tuple hH
  obtain ⟨⟨oc, od, odt, osl⟩, e, hc, n, hd⟩ := ht
  dsimp only at hc hd
  subst hc hd
  obtain ⟨k1, k2, k3⟩ := idxD_spec h5
  have hlen : ds.length = its.length := by rw [h1.length, rr.length]
  refine PySem.call_meets F.slot_tuple_index ⟨_, e, rfl⟩ F.entry_tuple_index (F.args_tuple_index_2 _ _)
    (tuple_indexAt ad its.toArray n od osl u (eqOf X.K H dx) j (by rw [List.size_toArray]; omega) ?_ ?_) ⟨e, fun w hw => each_eqOf I hu1 h3 h2 ru h4 h1 rr w (by simpa using hw), ?_⟩
  · have := eqOf_get I (dx := dx) (i := j) k1 (by omega) h4 h1 rr
    simpa [this] using k2
  · intro m hm hlt
    have hm' : m < its.length := by simpa using hm
    have := eqOf_get I (dx := dx) (i := m) (by omega) hm' h4 h1 rr
    have e3 := k3 m (by omega) hlt
    simpa [this] using e3
  · exact ⟨.int j, H, I.kept (t' := s.toks + 1) (fun _ _ q => q), ⟨_, rfl⟩, q⟩
noncomputable def dIdxT (fa fb : De) : De := fun ρ => (fa ρ).bind fun a => match a.1 with
  | .tup ds => (fb a.2).bind fun b => if (okN 60 b.1 && ds.all (okN 60)) = true then match idxD b.1 ds with
      | some j => .ok (.int j, b.2)
      | none => .no
    else .no
  | _ => .no
theorem je_idxT (hu : X.A.units + 65 < cLine) (ha : JE X C a fa) (hb : JE X C b fb) (hbase : attributeBase a "index" X.env (eval a X.env) = eval a X.env := by rfl)
    (hfew : ((backTo pos (starEach [b] X.env)).all (fun x => !x.1) && (backToKw pos (keywordEach [] X.env)).all (fun x => x.1.isSome) && decide ([b].length + ([] : List Keyword).length + (if ([] : List Keyword).isEmpty then 0 else 1) < 30)) = true := by rfl)
    (hline : (apos.endLine == pos.line) = true := by rfl) (hs : starEach [b] X.env = (false, eval b X.env) :: starEach [] X.env := by rfl) (hplain : (backTo pos (starEach [] X.env)).any (·.1) = false := by rfl) :
    JE X C (.Call (.Attribute a "index" apos) [b] [] pos) (dIdxT fa fb) :=
  PE.weak (pe_bmT PySem.F.slot_tuple_index PySem.F.type_tuple_index (mt_indexT hu) ha (pa_cons hb pa_nil hs) hbase hfew hline hs hplain) fun σ H Q ⟨G, w, ρ, r, p⟩ => by
    refine seqE (κ := fun G H w => kE X.K C σ Q G H w) stp_E r p fun d ρ1 v G1 H1 w1 r1 s1 q1 p1 => ?_
    cases d with
    | tup ds =>
      obtain ⟨ad, vs, rfl, h1, h2⟩ := rep_tupP q1
      refine ⟨⟨ad, vs, rfl, h1.same r1.gh⟩, ?_⟩
      refine seqE (κ := fun G H w => kE X.K C σ Q G H w) stp_E r1 p1 fun d2 ρ2 v2 G2 H2 w2 r2 s2 q2 p2 => ?_
      dsimp only at p2
      split at p2
      · rename_i hk
        rw [Bool.and_eq_true] at hk
        split at p2
        · rename_i j ej
          exact ⟨ad, vs, d2, ds, j, v2, rfl, rfl, sqT_same r2.gh (sqT_same s2.g h1.sq), (h2.same s2.g).same r2.gh, q2.same r2.gh, hk.1, hk.2, ej, p2 _ G2 H2 w2 (.refl _ _ _) r2 (rep_is_int _)⟩
        · exact False.elim p2
      · exact False.elim p2
    | _ => exact False.elim p1
end
/-! ### xs.insert(k, x), a list of one's own -/
section
variable {X : Cx} {C : Cn} {e1 e2 : Expr} {fk fv : De} {pos ps apos : Pos} {x : Str}
theorem vals2 {y1 y2 : V} {us : List Value} (h : Vals [y1, y2] us) : ∃ u1 u2, us = [u1, u2] ∧ RelV y1 u1 ∧ RelV y2 u2 := by
  cases h with
  | cons h1 t => cases t with
    | cons h2 t2 => cases t2; exact ⟨_, _, rfl, h1, h2⟩
end
/-! ### enumerate(xs), a list -/
/-- the items of a list with their numbers -/
noncomputable def Ite (K : PySem.W.Frag) (a : Addr) : It :=
  ⟨fun i H => ∃ xs x, SqL K H a xs ∧ xs[i]? = some x,
   fun i H v H' => ∃ p x, v = .ref p ∧ H p = none ∧ H' = upd H p (.tup [.int (i : Nat), x]) ∧ ∀ xs, SqL K H a xs → xs[i]? = some x,
   fun i H => ∃ xs, SqL K H a xs ∧ xs.length ≤ i⟩
structure Ep (h : Heap) (e it l : Addr) (i : Nat) : Prop where
  e : ∃ old, IsEnum h e it i old
  a : h.IsListIter it l i
theorem Ep.keep {h h' : Heap} {e it l : Addr} {i : Nat} (p : Ep h e it l i) (k : ∀ b ∈ [e, it], ∀ o, h.get? b = some o → h'.get? b = some o) : Ep h' e it l i :=
  ⟨let ⟨old, q⟩ := p.e; ⟨old, k e (by simp) _ q⟩, p.a.at fun o q => k it (by simp) o q⟩
theorem fpL_ne {X : Cx} {pins : List (Addr × Obj)} {σ : L2.St} {H : Hp} {s : Shared} {a b : Addr} {xs : List V} (I : L2.Inv X pins σ H s) (hf : FpOk X pins H b) (hs : SqL X.K H a xs) : b ≠ a := by
  rintro rfl
  rcases hs with (h | ⟨o, h⟩) | ⟨o, its, n, h, _⟩
  · rw [hf.1] at h; cases h
  · rw [hf.1] at h; cases h
  · have hb := I.mod.kin b o h
    rcases hf.2.2.2.1 with z | z
    · exact I.ok.noex b o hb z
    · exact absurd (Nat.lt_of_lt_of_le (Heap.lt_size hb) (Nat.le_trans I.ok.bsz z)) (Nat.lt_irrefl _)
theorem turn_enum {P : Program} {w : World} {K : PySem.W.Frag} {elts : List Expr} {x1} {ps : Pos} {a e it : Addr} (hne : e ≠ it) : Turn P w K (.Tuple elts x1 ps) (Ite K a) [e, it] e (fun i h => Ep h e it a i) where
  mem := by simp
  obj := fun i h st c hc => by
    obtain ⟨⟨old, s1⟩, ⟨o4, s4, _, d4⟩⟩ := st
    simp only [List.mem_cons, List.not_mem_nil, or_false] at hc
    rcases hc with rfl | rfl
    · exact ⟨_, s1, fun v q => by cases q⟩
    · exact ⟨_, s4, fun v q => by rw [d4] at q; cases q⟩
  keep := fun i h h' st k => st.keep k
  item := by
    intro X hP hw hK hc i pins s σ H E I hf st hg
    subst hP hw hK
    obtain ⟨xs, x, q1, hx⟩ := hg
    obtain ⟨its, rv, p, hz⟩ := I.list q1
    obtain ⟨u, hu, ru⟩ := rv.get hx
    obtain ⟨old, he⟩ := st.e
    refine wpAny_pyNext_enum_item he st.a p.isList (x := u) (by simpa using hu) hne fun h' a1 a2 a3 a4 a5 => ?_
    refine ⟨_, rfl, wpAny_letOwnedTupleGo_enum a1 fun h2 he2 sb => ?_⟩
    have hel : e < s.heap.objs.size := Heap.lt_size he
    have hitl : it < s.heap.objs.size := by obtain ⟨o, ho, _⟩ := st.a; exact Heap.lt_size ho
    have hzp : ∀ c ∈ [e, it], c ≠ s.heap.objs.size := fun c hc q => by
      simp only [List.mem_cons, List.not_mem_nil, or_false] at hc
      rcases hc with rfl | rfl
      · exact absurd (q ▸ hel) (Nat.lt_irrefl _)
      · exact absurd (q ▸ hitl) (Nat.lt_irrefl _)
    have st2 : Ep h2 e it a (i + 1) := ⟨⟨_, he2⟩, a2.extBut sb.extBut (Ne.symm hne)⟩
    have hk2 : ∀ c ob, c ∉ [e, it] → s.heap.get? c = some ob → h2.get? c = some ob := fun c ob nc q => by
      simp only [List.mem_cons, List.not_mem_nil, or_false, not_or] at nc
      exact sb.extBut _ _ nc.1 (a5 c ob nc.1 nc.2 q)
    have hth : ∀ c ob, s.heap.get? c = some ob → ∃ ob', h2.get? c = some ob' := fun c ob q => by
      by_cases nc : c ∈ [e, it]
      · simp only [List.mem_cons, List.not_mem_nil, or_false] at nc
        obtain ⟨⟨o1, s1⟩, ⟨o4, s4, _⟩⟩ := st2
        rcases nc with rfl | rfl
        · exact ⟨_, s1⟩
        · exact ⟨_, s4⟩
      · exact ⟨ob, hk2 c ob nc q⟩
    have hnew : h2.get? s.heap.objs.size = some { cls := .type "tuple", data := .seq #[.int i s.toks, u] } := sb.extBut _ _ (Ne.symm (hzp e (by simp))) a3
    have IN : L2.Inv X pins σ (upd H s.heap.objs.size (.tup [.int (i : Nat), x])) { s with heap := h2, toks := s.toks + 1 } := Inv_turnedL (s := s) (t' := s.toks + 1) (o := .tup [.int (i : Nat), x]) I hf hk2 (Nat.le_refl _) hth ⟨by show 2 ≤ sizeLine; decide, [.int i s.toks, u], .cons ⟨_, rfl⟩ (.cons ru .nil), 0, hnew⟩
    exact ⟨.ref s.heap.objs.size, _, IN, rfl,
      ⟨_, x, rfl, I.hok.fresh (Nat.le_refl _), rfl, fun zs q => by rw [I.list_inj q q1]; exact hx⟩, st2, fun c hc => by rw [upd_ne (hzp c hc)]; exact (hf c hc).1⟩
  done := by
    intro X hP hw hK hc i pins s σ H E I hf st hg
    subst hP hw hK
    obtain ⟨xs, q1, hx⟩ := hg
    obtain ⟨its, rv, p, hz⟩ := I.list q1
    have hl := rv.length
    obtain ⟨old, he⟩ := st.e
    refine wpAny_pyNext_enum_end (I.ok.hd hc) he st.a p.isList (by simp; omega) fun h' hk => ⟨rfl, ?_⟩
    refine Inv_turned0 (t' := s.toks) I hf fun c ob nc q => ?_
    simp only [List.mem_cons, List.not_mem_nil, or_false, not_or] at nc
    exact hk c ob nc.2 q
  self := fun _ _ _ _ _ st h => let ⟨_, he⟩ := st.e; wpAny_pyIter_enum he h
noncomputable def enumD (l : List Dt) : List Dt := (List.range l.length).zip l |>.map fun z => .tup [.int (z.1 : Nat), z.2]
noncomputable def dEnum (fa : De) : DA := fun ρ => (fa ρ).bind fun a => match a.1 with
  | .lst l => .ok (enumD l, a.2)
  | _ => .no
theorem ite_ok {K : PySem.W.Frag} {G : Hp} {a : Addr} {vs : List V} {ds : List Dt} (hs : G a = some (.lst vs)) (q : Reps K G ds vs) : ItOk K (Ite K a) G (enumD ds) := fun i G1 H s1 s2 => by
  have h1 : SqL K H a vs := SqL.of (s2 _ _ (s1 _ _ hs))
  refine ⟨fun d e => ?_, fun h => ⟨vs, h1, ?_⟩⟩
  · unfold enumD at e
    rw [List.getElem?_map] at e
    have hi : i < ds.length := by
      by_cases hi : i < ds.length
      · exact hi
      · rw [List.getElem?_eq_none (by rw [List.length_zip, List.length_range]; omega)] at e; cases e
    have z1 : (List.range ds.length)[i]? = some i := by simp [hi]
    have z2 : ds[i]? = some ds[i] := by simp [hi]
    obtain ⟨v, e1, e2⟩ := q.get z2
    have ed : d = .tup [.int (i : Nat), ds[i]] := by
      rw [(List.getElem?_zip_eq_some (z := (i, ds[i]))).mpr ⟨z1, z2⟩] at e
      exact (Option.some.inj e).symm
    refine ⟨⟨vs, v, h1, e1⟩, fun x H' y => ?_⟩
    obtain ⟨p, x', rfl, hp, rfl, k1⟩ := y
    have kx := k1 vs h1
    rw [e1] at kx
    cases kx
    have gr : Grow G1 H (upd G1 p (.tup [.int (i : Nat), v])) (upd H p (.tup [.int (i : Nat), v])) := .new s2 hp
    refine ⟨_, gr, ?_⟩
    rw [ed]
    unfold Rep
    exact ⟨p, [.int (i : Nat), v], rfl, SqTP.of upd_same, Reps.cons (rep_is_int _) (Reps.cons ((e2.same s1).same gr.g) Reps.nil)⟩
  · rw [← q.length]
    unfold enumD at h
    simpa using h
section
variable {X : Cx} {C : Cn} {elts : List Expr} {x1 : Nat} {pt : Pos} {a : Expr} {fa : De} {p pos : Pos}
theorem ji_enum (hg : Gl X "enumerate") (hm : X.mg "enumerate" = none) (ha : JE X C a fa) (hs : starEach [a] X.env = (false, eval a X.env) :: starEach [] X.env := by rfl) (hpl : (backTo pos (starEach [] X.env)).any (·.1) = false := by rfl) :
    JI X C (.Tuple elts x1 pt) (.Call (.Name "enumerate" p) [a] [] pos) (dEnum fa) := by
  intro pins s σ H R I ⟨G, w, ρ, r, pp⟩
  refine PyProof.Rows.Call_ (ld_blt I hg hm PyProof.Rows.boot_enumerate (PyProof.Rows.callWith_type1 (thn (ja_cons ha ja_nil hs pos pins s σ H (fun vs H1 => ∃ (l1 : Addr) (xs : List V), vs = [.ref l1] ∧ SqL X.K H1 l1 xs ∧ R (Ite X.K l1) H1) I ?_) fun us s1 ⟨vs, H1, I1, r1, q1⟩ => ?_) hs hpl))
  · refine ⟨G, w, ρ, r, ?_⟩
    unfold dEnum at pp
    unfold dA dA0
    cases e : fa ρ with
    | ok x =>
      obtain ⟨d, ρ1⟩ := x
      rw [e] at pp
      simp only [PV.R.bind_ok] at pp ⊢
      intro vs G1 H1 w1 s1 r1 q
      obtain ⟨v, rfl, k1⟩ := reps1 q
      cases d with
      | lst l =>
        obtain ⟨a1, xs, rfl, m1, m2⟩ := rep_lst k1
        exact ⟨a1, xs, rfl, SqL.of (r1.gh _ _ m1), pp _ G1 H1 w1 s1 r1 (ite_ok m1 m2)⟩
      | _ => exact False.elim pp
    | er n => rw [e] at pp; exact pp
    | no => rw [e] at pp; exact pp
  · obtain ⟨l1, xs, rfl, k1, q⟩ := q1
    obtain ⟨u1, rfl, c1⟩ := vals1 r1
    cases c1
    obtain ⟨its, rv, p1, _⟩ := I1.list k1
    refine call_enumerate_list p1.isList fun h' he hit hz hk => ?_
    refine wpAny_pyIter_enum he ?_
    refine ⟨s1.heap.objs.size + 1, [s1.heap.objs.size + 1, s1.heap.objs.size], _, _, H1, rfl, I1.kept (t' := s1.toks) hk, turn_enum (by intro h; have h : (s1.heap.objs.size + 1 : Nat) = s1.heap.objs.size := h; omega), ⟨⟨_, he⟩, hit⟩, fun c hc => ?_, q⟩
    have hle : s1.heap.objs.size ≤ c := by
      simp only [List.mem_cons, List.not_mem_nil, or_false] at hc
      rcases hc with rfl | rfl
      · exact Nat.le_add_right ..
      · exact Nat.le_refl _
    exact I1.fpOk hle (I1.hok.fresh hle)
end
end PV
end
section
set_option Elab.async false
set_option linter.all false
set_option maxRecDepth 100000
namespace PV
open PySem PySem.Spec L2 PyProof.Rows
/-! ### x != []: whatever stands in x -/
section
variable {X : Cx} {C : Cn} {a b : Expr} {fa fb : De} {pos : Pos}
end
/-! ### t[lo:hi], perhaps the whole -/
section
variable {prog : Program} {w : World} {A : Around} {E : Value → Shared → Prop} {s : Shared}
theorem getItem_tuple_whole {t sl : Addr} {items : Array Value} {vl vu : Value} {lo hi : Option Int} {Q : Value → Shared → Prop} (ht : IsTup s.heap t items) (hs : s.heap.IsSliceOf sl vl vu .none) (pl : IsPart vl lo) (pu : IsPart vu hi)
    (hw : HT.sIx items.size 0 lo = 0 ∧ HT.sIx items.size items.size hi = items.size) (h : Q (.ref t) s) : wpAny (model prog w) A (getItem (.ref t) (.ref sl)) Q E s := by
  obtain ⟨os, hos, hcs, hds⟩ := id hs
  have hTs : s.TypeIs (.ref sl) "slice" := ⟨os, hos, hcs⟩
  unfold getItem
  try with_reducible refine wpAny_holding ?_
  first | refine wpAny_bind (wpAny_pure ?_) | skip
  refine wpAny_bind (wpAny_sequenceKey ht.typeIs (by decide) ?_)
  refine wpAny_bind (wpAny_callSpecial?_slot (name := Str.ofString "__getitem__") ht.typeIs PyProof.Rows.slot_tuple_getitem
    (wpAny_call_entry PyProof.Rows.slot_tuple_getitem ht.typeIs entry_tuple_getitem ?_ (args_tuple_getitem _ _)))
  show wpAny _ _ (Builtin.Tuple.tupleItemsOf (.ref t) >>= _) _ _ s
  refine wpAny_bind (tupleItemsOf_ ht ?_)
  refine wpAny_bind (wpAny_typeOf hTs ?_)
  rw [if_pos (by decide)]
  refine wpAny_bind (HT.sliceApplied_gen hs pl pu ?_)
  have hyes : (((HT.sIx items.size 0 lo : Nat) : Int) == 0 && (1 : Int) == 1 && (HT.sIx items.size items.size hi - HT.sIx items.size 0 lo) == items.size) = true := by
    rw [hw.1, hw.2]; simp
  show wpAny _ _ (if (((HT.sIx items.size 0 lo : Nat) : Int) == 0 && (1 : Int) == 1 && (HT.sIx items.size items.size hi - HT.sIx items.size 0 lo) == items.size) = true then _ else _) _ _ s
  rw [if_pos hyes]
  refine wpAny_bind ?_
  unfold Builtin.Tuple.tupleIsExact
  refine wpAny_bind (wpAny_typeOf ht.typeIs (wpAny_pure ?_))
  rw [if_pos (by decide)]
  refine wpAny_bind (wpAny_rule ?_)
  exact wpAny_pure ⟨_, rfl, wpAny_pure h⟩
/-! t[::-1] -/
theorem places_rev (n : Nat) : Builtin.Slice.sliceAdjust none none (-1) (n : Int) = ((n : Int) - 1, -1) ∧ Builtin.Slice.slicePlaces ((n : Int) - 1) (-1) (-1) = n := by
  constructor
  · unfold Builtin.Slice.sliceAdjust
    rfl
  · unfold Builtin.Slice.slicePlaces
    have h1 : ¬ ((-1 : Int) > 0) := by omega
    simp only [h1, if_false]
    split
    · have : ((n : Int) - 1 - -1 - 1) / (- -1) = (n : Int) - 1 := by
        rw [show (- -1 : Int) = 1 from rfl, Int.ediv_one]; omega
      rw [this]; omega
    · omega
theorem sliceApplied_rev {sl : Addr} {t : Tok} {n : Nat} {Q : Int × Int × Nat → Shared → Prop} (hs : s.heap.IsSliceOf sl .none .none (.int (-1) t)) (h : Q ((n : Int) - 1, -1, n) s) : wpAny (model prog w) A (Builtin.Slice.sliceApplied (.ref sl) (pure (n : Int))) Q E s := by
  obtain ⟨os, hos, hcs, hds⟩ := id hs
  unfold Builtin.Slice.sliceApplied Builtin.Slice.sliceFields
  refine wpAny_bind (wpAny_bind (wpAny_field hos hds (x := .none) rfl (wpAny_bind (wpAny_field hos hds (x := .none) rfl (wpAny_bind (wpAny_field hos hds (x := .int (-1) t) rfl (wpAny_pure ?_)))))))
  refine wpAny_bind (slicePart_int ?_)
  show wpAny _ _ (if ((-1 : Int) == 0) = true then _ else _) _ _ s
  rw [if_neg (by decide)]
  refine wpAny_bind (slicePart_none (wpAny_bind (slicePart_none (wpAny_bind (wpAny_pure ?_)))))
  show wpAny _ _ (match Builtin.Slice.sliceAdjust none none (-1) (n : Int) with | (lo, hi) => pure (lo, (-1 : Int), Builtin.Slice.slicePlaces lo hi (-1))) _ _ s
  rw [(places_rev n).1]
  show wpAny _ _ (pure ((n : Int) - 1, (-1 : Int), Builtin.Slice.slicePlaces ((n : Int) - 1) (-1) (-1))) _ _ s
  rw [(places_rev n).2]
  exact wpAny_pure h
theorem fm_map {α β : Type} {f : α → Option β} {g : α → β} : ∀ {l : List α}, (∀ m ∈ l, f m = some (g m)) → l.filterMap f = l.map g
  | [], _ => rfl
  | a :: r, h => by
    rw [List.filterMap_cons, h a (by simp), List.map_cons, fm_map (l := r) fun m hm => h m (List.mem_cons_of_mem _ hm)]
theorem pick_rev (xs : Array Value) : ((List.range xs.size).filterMap fun (m : Nat) => xs[(((xs.size : Int) - 1) + (m : Int) * (-1)).toNat]?).toArray = xs.toList.reverse.toArray := by
  congr 1
  apply List.ext_getElem?
  intro i
  have e : ∀ m ∈ List.range xs.size, (fun (m : Nat) => xs[(((xs.size : Int) - 1) + (m : Int) * (-1)).toNat]?) m = some (xs.toList.reverse.getD m .none) := by
    intro m hm
    have hm' := List.mem_range.mp hm
    have e1 : (((xs.size : Int) - 1) + (m : Int) * (-1)).toNat = xs.size - 1 - m := by omega
    show xs[(((xs.size : Int) - 1) + (m : Int) * (-1)).toNat]? = _
    rw [e1, List.getD_eq_getElem?_getD, List.getElem?_reverse (by simpa using hm'), Array.length_toList, Array.getElem?_toList]
    rw [Array.getElem?_eq_getElem (by omega)]
    rfl
  rw [show ((List.range xs.size).filterMap fun (m : Nat) => xs[(((xs.size : Int) - 1) + (m : Int) * (-1)).toNat]?) = (List.range xs.size).map (fun m => xs.toList.reverse.getD m .none) from fm_map e]
  by_cases hi : i < xs.size
  · rw [List.getElem?_map, List.getElem?_range hi]
    have hl : i < xs.toList.reverse.length := by simpa using hi
    rw [List.getElem?_eq_getElem hl, Option.map_some, List.getD_eq_getElem?_getD, List.getElem?_eq_getElem hl]
    rfl
  · rw [List.getElem?_eq_none (by simp; omega), List.getElem?_eq_none (by simp; omega)]
theorem getItem_tuple_rev {t sl : Addr} {items : Array Value} {tk : Tok} {Q : Value → Shared → Prop} (ht : IsTup s.heap t items) (hs : s.heap.IsSliceOf sl .none .none (.int (-1) tk))
    (h : Q (.ref s.heap.objs.size) { s with heap := s.heap.push { cls := .type "tuple", data := .seq items.toList.reverse.toArray } }) (hsz : items.size ≤ sizeLine) : wpAny (model prog w) A (getItem (.ref t) (.ref sl)) Q E s := by
  have htake : sizeOk (.seq items.toList.reverse.toArray) := by
    show items.toList.reverse.toArray.size ≤ sizeLine
    rw [List.size_toArray, List.length_reverse, Array.length_toList]
    exact hsz
  obtain ⟨os, hos, hcs, hds⟩ := id hs
  have hTs : s.TypeIs (.ref sl) "slice" := ⟨os, hos, hcs⟩
  unfold getItem
  try with_reducible refine wpAny_holding ?_
  first | refine wpAny_bind (wpAny_pure ?_) | skip
  refine wpAny_bind (wpAny_sequenceKey ht.typeIs (by decide) ?_)
  refine wpAny_bind (wpAny_callSpecial?_slot (name := Str.ofString "__getitem__") ht.typeIs PyProof.Rows.slot_tuple_getitem
    (wpAny_call_entry PyProof.Rows.slot_tuple_getitem ht.typeIs entry_tuple_getitem ?_ (args_tuple_getitem _ _)))
  show wpAny _ _ (Builtin.Tuple.tupleItemsOf (.ref t) >>= _) _ _ s
  refine wpAny_bind (tupleItemsOf_ ht ?_)
  refine wpAny_bind (wpAny_typeOf hTs ?_)
  rw [if_pos (by decide)]
  refine wpAny_bind (sliceApplied_rev hs ?_)
  have hno : ¬ ((((items.size : Int) - 1) == 0 && (-1 : Int) == 1 && items.size == items.size) = true) := by
    intro q
    rw [Bool.and_eq_true, Bool.and_eq_true] at q
    exact absurd q.1.2 (by decide)
  show wpAny _ _ (if (((items.size : Int) - 1) == 0 && (-1 : Int) == 1 && items.size == items.size) = true then _ else _) _ _ s
  rw [if_neg hno, pick_rev]
  first
    | exact wpAny_bind (m := Builtin.Tuple.tupleExact _) (wpAny_newObj_type (wpAny_pure ⟨_, rfl, wpAny_pure h⟩) htake)
    | exact wpAny_bind (m := Builtin.Tuple.tupleExact _) (wpAny_newObj_type (wpAny_bind (wpAny_pure (wpAny_pure ⟨_, rfl, wpAny_pure h⟩))) htake)
    | exact wpAny_bind (wpAny_bind (m := Builtin.Tuple.tupleExact _) (wpAny_newObj_type (wpAny_pure (wpAny_pure ⟨_, rfl, wpAny_pure h⟩)) htake))
    | exact wpAny_bind (wpAny_bind (m := Builtin.Tuple.tupleExact _) (wpAny_newObj_type (wpAny_pure ⟨_, rfl, wpAny_pure h⟩) htake))
end
section
variable {X : Cx} {C : Cn} {a b e : Expr} {fa fb : De} {pos : Pos}
noncomputable def rSlW (K : PySem.W.Frag) : V → Option Int → Option Int → Hp → VK → Prop := fun x lo hi H Q => ∃ a xs, x = .ref a ∧ SqT K H a xs ∧
  (HT.sIx xs.length 0 lo = 0 ∧ HT.sIx xs.length xs.length hi = xs.length) ∧ Q (.ref a) H
theorem sl_whole : SlR X (rSlW X.K) := by
  intro pins s σ H x v vl vu lo hi sl Q I rx hs pl pu h
  obtain ⟨a, xs, rfl, hx, hw, q⟩ := h
  cases rx
  obtain ⟨its, r, ht, hz⟩ := I.tuple hx
  have hlen : its.toArray.size = xs.length := by rw [List.size_toArray]; exact r.length.symm
  refine ⟨"tuple", _, PyProof.Rows.slot_tuple_getitem.lookup, ht.typeIs, ?_⟩
  exact getItem_tuple_whole ht hs pl pu (by rw [hlen]; exact hw) ⟨.ref a, H, I, rfl, q⟩
noncomputable def dCutW (fa : De) (fl fh : DO) : De := fun ρ => (fa ρ).bind fun a => (fl a.2).bind fun l => (fh l.2).bind fun h => match a.1 with
  | .tup ds => .ok (.tup (cutD ds l.1 h.1), h.2)
  | _ => .no
theorem je_cutW {lo hi : Option Expr} {fl fh : DO} {p2 : Pos} (ha : JE X C a fa) (hl : JO X C lo fl) (hh : JO X C hi fh) : JE X C (.Subscript a (.Slice lo hi none p2) pos) (dCutW fa fl fh) :=
  PE.weak (pe_slice (sl_tup.or sl_whole) ha hl hh) fun σ H Q ⟨G, w, ρ, r, p⟩ => by
    refine seqE (κ := fun G H w => kE X.K C σ Q G H w) stp_E r p fun d ρ1 v G1 H1 w1 r1 s1 q1 p1 => ?_
    refine seqO (κ := fun G H w => kE X.K C σ Q G H w) stp_E r1 p1 fun l ρ2 G2 H2 w2 r2 s2 p2 => ?_
    refine seqO (κ := fun G H w => kE X.K C σ Q G H w) stp_E r2 p2 fun h ρ3 G3 H3 w3 r3 s3 p3 => ?_
    cases d with
    | tup ds =>
      have q3 := q1.same (s2.g.trans s3.g)
      obtain ⟨ad, vs, rfl, h1, h2⟩ := rep_tupP q3
      dsimp only at p3
      by_cases hw : HT.sIx ds.length 0 l = 0 ∧ HT.sIx ds.length ds.length h = ds.length
      · refine .inr ⟨ad, vs, rfl, sqT_same r3.gh h1.sq, by rw [← h2.length]; exact hw, ?_⟩
        have e : cutD ds l h = ds := by
          unfold cutD
          rw [hw.1, hw.2, List.drop_zero, Nat.sub_zero, List.take_length]
        rw [e] at p3
        exact p3 _ G3 H3 w3 (.refl _ _ _) r3 q3
      · have fin : ∀ p, H3 p = none → Q (.ref p) (upd H3 p (.tup (cutV vs l h))) := fun p hp => by
          have gr : Grow G3 H3 (upd G3 p (.tup (cutV vs l h))) (upd H3 p (.tup (cutV vs l h))) := .new r3.gh hp
          exact p3 _ _ _ w3 gr.step (r3.grow gr) (by unfold Rep; exact ⟨p, _, rfl, SqTP.of upd_same, (reps_cut h2 l h).same gr.g⟩)
        exact .inl ⟨ad, vs, rfl, sqT_same r3.gh h1.sq, by rw [← h2.length]; exact hw, fin⟩
    | _ => exact p3.elim
noncomputable def dRevT (fa : De) : De := fun ρ => (fa ρ).bind fun a => match a.1 with
  | .tup ds => .ok (.tup ds.reverse, a.2)
  | _ => .no
theorem je_revT {k1 : Nat} {p1 p2 p3 : Pos} (ha : JE X C a fa) : JE X C (.Subscript a (.Slice none none (some (.UnaryOp .USub (.Constant (.int 1) k1 p1) p2)) p3) pos) (dRevT fa) := by
  intro pins s σ H Q I ⟨G, w, ρ, r, p⟩
  refine PyProof.Rows.Subscript_ (thn (ha pins s σ H (fun x H1 => ∃ ad vs, x = .ref ad ∧ SqT X.K H1 ad vs ∧ ∀ p, H1 p = none → Q (.ref p) (upd H1 p (.tup vs.reverse))) I ?_) fun v s1 ⟨x, H1, I1, r1, ad, vs, ex, hx, q1⟩ => ?_)
  · refine seqE (κ := fun G H w => kE X.K C σ Q G H w) stp_E r p fun d ρ1 v G1 H1 w1 r1 s1 q1 p1 => ?_
    cases d with
    | tup ds =>
      obtain ⟨ad, vs, rfl, h1, h2⟩ := rep_tupP q1
      refine ⟨ad, vs, rfl, sqT_same r1.gh h1.sq, fun p hp => ?_⟩
      have gr : Grow G1 H1 (upd G1 p (.tup vs.reverse)) (upd H1 p (.tup vs.reverse)) := .new r1.gh hp
      exact p1 _ _ _ w1 gr.step (r1.grow gr) (by unfold Rep; exact ⟨p, _, rfl, SqTP.of upd_same, h2.reverse.same gr.g⟩)
    | _ => exact p1.elim
  subst ex
  cases r1
  refine wpAny_Slice (evalPart_none_step (evalPart_none_step (evalPart_some_step (thn (pe_un (a := .Constant (.int 1) k1 p1) (pos := p2) un_neg pe_int pins s1 σ H1 (fun x H2 => x = .int (-1) ∧ H2 = H1) I1 ⟨1, rfl, rfl, rfl⟩) fun vk s2 ⟨y, H2, I2, r2, ey, eH⟩ => ?_))))
  subst ey
  subst eH
  obtain ⟨t, rfl⟩ := r2
  have I4 : L2.Inv X pins σ H2 { s2 with heap := s2.heap.push { cls := .type "slice", data := .fields #[.none, .none, .int (-1) t] } } := I2.kept (t' := s2.toks) fun b ob q => Heap.get?_push_of_some _ q
  obtain ⟨its4, rv4, ht4, hz4⟩ := I4.tuple hx
  have hlen4 := rv4.length
  show wpAny (model X.prog X.w) X.A (PyProof.Rows.subscriptTail a (.Slice none none (some (.UnaryOp .USub (.Constant (.int 1) k1 p1) p2)) p3) (.ref ad) (.ref s2.heap.objs.size)) (EP X pins σ Q) X.xe { s2 with heap := s2.heap.push { cls := .type "slice", data := .fields #[.none, .none, .int (-1) t] } }
  refine PyProof.Rows.tail_any (ops := [.ref ad, .ref s2.heap.objs.size]) ht4.typeIs PyProof.Rows.slot_tuple_getitem.lookup ?_ (by with_unfolding_all rfl)
  refine getItem_tuple_rev ht4 (Heap.IsSliceOf.new ..) ?_ (by rw [List.size_toArray] <;> omega)
  refine ⟨.ref _, _, I4.laid (t' := s2.toks) (o := .tup vs.reverse) (fun b ob q => Heap.get?_push_of_some _ q) (Nat.le_refl _) ?_, rfl, q1 _ (I4.hok.fresh (Nat.le_refl _))⟩
  exact ⟨by rw [List.length_reverse]; exact hz4, its4.reverse, rv4.reverse, 0, Heap.get?_push_size (o := { cls := .type "tuple", data := .seq its4.toArray.toList.reverse.toArray }) _ rfl⟩
end
section
variable {prog : Program} {w : World} {A : Around} {E : Value → Shared → Prop} {s : Shared}
/-! sorted of a tuple -/
theorem collect_tup {l : Addr} {vs : List Value} {Q : List Value → Shared → Prop} (hl : s.heap.IsTuple l vs.toArray)
    (h : Q vs { s with heap := (s.heap.push (seqObj "list" #[] 0)).update s.heap.objs.size (Obj.mapSeq (· ++ vs.toArray)) }) (hsz : vs.length ≤ sizeLine) :
    wpAny (model prog w) A (collect (.ref l)) Q E s := by
  obtain ⟨o, ho, hc, n, hd⟩ := id hl
  unfold collect
  refine wpAny_bind (wpAny_runValue (codeAny_builtin entry_proto_collect' ?_))
  show wpAny _ _ (do again (.builtin "list.__iadd__" ⟨[← newList [], .ref l], []⟩)) _ _ s
  refine wpAny_bind (wpAny_newList (wpAny_pure ⟨Code.quiet_builtin _ (by decide +kernel), codeAny_builtin entry_list_iadd' ?_⟩))
  show wpAny _ _ (Builtin.List.listExtendWith (.ref s.heap.objs.size) (.ref l) (.ref s.heap.objs.size)) _ _ { s with heap := s.heap.push (seqObj "list" #[] 0) }
  unfold Builtin.List.listExtendWith
  have ho' : (s.heap.push (seqObj "list" #[] 0)).get? l = some o := Heap.get?_push_of_some _ ho
  refine wpAny_bind (wpAny_typeOf (T := "tuple") ⟨o, ho', hc⟩ ?_)
  have ht : (Value.type "tuple" == Value.type "tuple") = true := by rfl
  rw [if_pos (by rw [ht]; simp)]
  refine wpAny_bind (listItems_at ho' hd ?_)
  refine wpAny_bind (listItems_at (xs := #[]) (n := 0) (Heap.get?_push_size _ rfl) rfl ?_)
  rw [if_neg (by simp)]
  refine wpAny_bind (listUpdate_at (xs := #[]) (n := 0) (Heap.get?_push_size _ rfl) rfl ?_ (Nat.zero_le _) (by show (#[] ++ vs.toArray).size ≤ sizeLine + 1; simp only [Array.size_append, List.size_toArray, List.length_nil]; omega))
  refine wpAny_pure ?_
  show wpAny (model prog w) A (do
      let o ← load s.heap.objs.size
      match o.data with
      | .seq xs _ => pure xs.toList
      | _ => unsupported "internal:collect") Q E { s with heap := (s.heap.push (seqObj "list" #[] 0)).update s.heap.objs.size (Obj.mapSeq (· ++ vs.toArray)) }
  refine wpAny_bind (wpAny_load (get?_update_seq (Heap.get?_push_size _ rfl) _) ?_)
  show wpAny _ _ (pure ((#[] : Array Value) ++ vs.toArray).toList) Q E _
  rw [show ((#[] : Array Value) ++ vs.toArray).toList = vs by simp]
  exact wpAny_pure h
theorem sorted_intsT {l : Addr} {vs : List Value} {ns : List Int} {Q : Value → Shared → Prop} (hl : s.heap.IsTuple l vs.toArray) (hI : IntsAre vs ns) (h64 : vs.length < 64)
    (h : ∀ (out : Array Value) (ns' : List Int), IntsAre out.toList ns' → ns'.Perm ns → ns'.Pairwise (· ≤ ·) → Q (.ref (s.heap.objs.size + 1)) { s with heap := sortedAll s.heap vs out }) :
    wpAny (model prog w) A (call (.builtin "sorted") [.ref l]) Q E s := by
  refine Calls.call_function_entry kind_sorted plain_sorted entry_sorted (args_sorted1 _) ?_
  unfold Builtin.«sorted»
  refine wpAny_bind (m := checkCount "sorted" 1 1 _) (wpAny_pure ?_)
  refine wpAny_bind (collect_tup hl ?_ (by rw [line24]; omega))
  refine wpAny_bind (wpAny_newList ?_)
  have hsz : ((s.heap.push (seqObj "list" #[] 0)).update s.heap.objs.size (Obj.mapSeq (· ++ vs.toArray))).objs.size = s.heap.objs.size + 1 := by
    rw [Heap.size_update, size_push']
  have hoL : (((s.heap.push (seqObj "list" #[] 0)).update s.heap.objs.size (Obj.mapSeq (· ++ vs.toArray))).push (seqObj "list" vs.toArray 0)).get? (s.heap.objs.size + 1) = some (seqObj "list" vs.toArray 0) := by
    rw [← hsz]; exact Heap.get?_push_size _ rfl
  show wpAny _ _ _ _ _ { s with heap := ((s.heap.push (seqObj "list" #[] 0)).update s.heap.objs.size (Obj.mapSeq (· ++ vs.toArray))).push (seqObj "list" vs.toArray 0) }
  rw [hsz]
  refine wpAny_bind (wpAny_holding (wpAny_call_entry slot_list_sort ⟨_, hoL, rfl⟩ entry_list_sort (list_sort_tree hoL hI h64 fun out ns' a1 a2 a3 => ⟨_, rfl, ?_⟩) (args_list_sort _)))
  exact wpAny_pure ⟨_, rfl, h out ns' a1 a2 a3⟩
end
section
variable {X : Cx} {C : Cn} {a b e : Expr} {fa fb : De} {pos : Pos}
theorem call_sortT : CallR X (.builtin "sorted") (fun xs H Q => ∃ (p : Addr) (ns : List Int), xs = [.ref p] ∧ SqT X.K H p (ns.map V.int) ∧ ns.length < 64 ∧ ∀ l, H l = none → Q (.ref l) (upd H l (.lst ((sortZ ns).map V.int)))) := by
  intro pins s σ H xs us Q I r h
  obtain ⟨p, ns, rfl, hq, hl, q⟩ := h
  obtain ⟨u, rfl, ru⟩ := vals1 r
  cases ru
  obtain ⟨its, rv, pl, hz⟩ := I.tuple hq
  have hlen : its.length = ns.length := by rw [← rv.length]; simp
  refine sorted_intsT (show s.heap.IsTuple p its.toArray from pl) (PV.intsAre_of rv) (by omega) fun out ns' a1 a2 a3 => ?_
  have e : ns' = sortZ ns := PySem.W.lks_uniq (a2.trans (sortZ_perm ns).symm) a3 (sortZ_asc ns)
  subst e
  obtain ⟨c, hc⟩ := PyProof.Rows.sortedAll_at s.heap its out
  refine ⟨.ref (s.heap.objs.size + 1), _, I.laid (t' := s.toks) (fun b o => PyProof.Rows.sortedAll_old) (Nat.le_succ _) (o := .lst ((sortZ ns).map V.int)) ⟨?_, out.toList, c, PV.vals_ints a1, ?_⟩, rfl, q _ (I.hok.fresh (Nat.le_succ _))⟩
  · rw [List.length_map, (sortZ_perm ns).length_eq, line24]; omega
  · simpa using hc
noncomputable def gSortT : List Dt → R (List Dt)
  | [.tup l] => match zsOf l with
    | some ns => if ns.length < 64 then .ok ((sortZ ns).map .int) else .no
    | none => .no
  | _ => .no
theorem fn_sortT {K : PySem.W.Frag} : FnN K (fun xs H Q => ∃ (p : Addr) (ns : List Int), xs = [.ref p] ∧ SqT K H p (ns.map V.int) ∧ ns.length < 64 ∧ ∀ l, H l = none → Q (.ref l) (upd H l (.lst ((sortZ ns).map V.int)))) gSortT := fun G H vs ds z Q gh hr e k => by
  unfold gSortT at e
  split at e
  · split at e
    · rename_i ns en
      split at e
      · rename_i hl
        obtain ⟨v, rfl, h1⟩ := reps1 hr
        obtain ⟨a, us, rfl, h2, h3⟩ := rep_tupP h1
        cases e
        rw [zs_reps h3 en] at h2
        exact ⟨a, ns, rfl, sqT_same gh h2.sq, hl, fun l hl => k l _ hl (reps_ints _)⟩
      · cases e
    · cases e
  · cases e
theorem ne_sortT : NoE1 gSortT := fun x n h => by
  unfold gSortT at h
  split at h
  · split at h
    · split at h <;> cases h
    · cases h
  · cases h
theorem jn_sortT {x : Expr} {p : Pos} (hg : Gl X "sorted") (hm : X.mg "sorted" = none) (ha : JE X C x fa) (hs : starEach [x] X.env = (false, eval x X.env) :: starEach [] X.env := by rfl) (hpl : (backTo pos (starEach [] X.env)).any (·.1) = false := by rfl) :
    JN X C (.Call (.Name "sorted" p) [x] [] pos) (dFnN gSortT (dA fa dA0)) :=
  jn_callB fn_sortT ne_sortT call_sortT hg hm PyProof.Rows.boot_sorted (ja_cons ha ja_nil hs) (by decide) (by decide) hs hpl
/-! tuple(range(n)) -/
end
end PV
end
section
set_option Elab.async false
set_option linter.all false
set_option maxRecDepth 100000
namespace PV
open PySem PySem.Spec L2 PyProof.Rows
/-! ### a def that makes lambdas, called from the law: the table of its code is an argument that nobody writes -/
noncomputable def spH (PT : Addr) (sp : Sp) : Sp := fun vs H Q E => sp (vs ++ [.ref PT]) H Q E
/-- the arguments, and behind them the table in slot j -/
noncomputable def dRT (j : Nat) (fr : DAr) : DAr := fun ρ => (fr ρ).bind fun b => .ok (b.1 ++ [.s j], b.2)
theorem argsOk_app {K : PySem.W.Frag} {G : Hp} {σ : L2.St} {i : Nat} {v : V} (hi : σ[i]? = some (some v)) : ∀ {as : List Arg} {vs : List V}, ArgsOk K G σ as vs → ArgsOk K G σ (as ++ [.s i]) (vs ++ [v])
  | [], vs, h => by cases h; exact ⟨v, [], rfl, hi, rfl⟩
  | .d x :: r, vs, ⟨v0, t, e, h2, h3⟩ => by subst e; exact ⟨v0, t ++ [v], rfl, h2, argsOk_app hi h3⟩
  | .s k :: r, vs, ⟨v0, t, e, h2, h3⟩ => by subst e; exact ⟨v0, t ++ [v], rfl, h2, argsOk_app hi h3⟩
section
variable {X : Cx} {C : Cn} {CX : CXT} {k k' : Nat} {ks : List Bool} {Fd : FD} {x : Str} {p pos : Pos} {e : Expr} {es : List Expr} {far : DAr} {j : Nat} {PT : Addr}
theorem call_readT {σ : L2.St} {H : Hp} {Q : VK} (hpp : j ∈ C.pp) (hσ0 : C.σ₀[j]? = some (some (.ref PT))) (h : tE X.K C (dCall Fd (dRT j far)) σ H Q) (hks : ∀ bs, Fd bs ≠ .no → kinds bs = ks) : tCall (spH PT (spOf false X.K C.xv ks Fd)) [] (EXc C) (tAr X.K C far) σ H Q := by
  obtain ⟨G, w, ρ, r, p⟩ := h
  unfold dCall dRT at p
  rw [R.bind_assoc] at p
  simp only [R.bind_ok] at p
  refine seqAr (κ := fun G H w => kE X.K C σ Q G H w) stp_E r p fun as0 ρ1 vs0 G1 H1 w1 r1 s1 q0 p1 => ?_
  rw [List.append_nil]
  have hσj : σ[j]? = some (some (.ref PT)) := by rw [r1.pin j hpp]; exact hσ0
  have q1 := argsOk_app hσj q0
  dsimp only at p1
  generalize as0 ++ [Arg.s j] = as at p1 q1
  unfold spH
  generalize vs0 ++ [V.ref PT] = vs at q1
  by_cases hu : uniq as = true
  · simp only [hu, if_true] at p1
    cases er : resolve ρ1 as with
    | ok bs =>
      rw [er, R.bind_ok] at p1
      have hk : kinds bs = ks := by
        refine hks bs fun z => ?_
        rw [z] at p1; exact p1
      have hl : bs.length = vs.length := args_len q1 er
      refine ⟨G1, wIn w1 as, bs, by rw [← hk, ← hl]; simp [kinds], hk, ⟨r1.gh, fun b e => r1.wg b fun z => e (by unfold wIn; rw [z]; rfl), fun b e => r1.wh b fun z => e (by unfold wIn; rw [z]; rfl), hl, fun j b v e1 e2 => ?_⟩, ?_⟩
      · have := args_sl r1 (as := as) (k := 0) (j := j) (fun m i e => by rw [Nat.zero_add]; exact posOf_of hu e) q1 er e1 e2
        rw [Nat.zero_add] at this; exact this
      · cases ef : Fd bs with
        | ok z =>
          rw [ef, R.bind_ok] at p1
          intro v G' H' w' s' pb q
          obtain ⟨r', st⟩ := r1.back hu q1 er hk s' pb
          exact p1 v G' H' _ st r' q
        | er n =>
          rw [ef] at p1
          intro G' H' w' s'
          refine ⟨rfl, n, rfl, p1, G', fun _ => none, r1.en.trans ⟨s'.g, fun b o e => ?_, fun b o e z => s'.h b o e (by unfold wIn; rw [z]; rfl), fun b e => absurd rfl e, s'.k⟩⟩
          rcases s'.fr b o e with q | q | q
          · exact .inl q
          · exact .inr (.inl q)
          · exact .inr (.inr fun z => q (by unfold wIn; rw [z]; rfl))
        | no => rw [ef] at p1; exact p1.elim
    | er n => exact absurd er resolve_er
    | no => rw [er] at p1; exact p1.elim
  · simp only [hu] at p1; exact p1.elim
/-- a def with its table -/
structure DfnT (P : Program) (w : World) (K : PySem.W.Frag) (mg : Str → Option Value) (base : Heap) (CX : CXT) (xv : Nat → Value) (k : Nat) (x : Str) (ks : List Bool) (PT : Addr) (F : FD) : Prop where
  ex : ∃ (f : Addr) (fd : FuncData) (ps : List Str), FnOk P w K mg base CX k f fd ps (spH PT (spOf false K xv ks F)) ∧ mg x = some (.ref f) ∧ PySem.W.keepIn K (.ref f) = true ∧ Binds K fd ps [] ∧ ∀ bs, F bs ≠ .no → kinds bs = ks
theorem je_fnT (D : DfnT X.prog X.w X.K X.mg X.base CX C.xv k x ks PT Fd) (hr : Room k' X.A) (hk : k ≤ k') (hx : Passes CX X (EXc C)) (hpp : j ∈ C.pp) (hσ0 : C.σ₀[j]? = some (some (.ref PT))) (ha : JAr X C (e :: es) far) (hg : Gl X x := by rfl) (hdb : (x == ("__debug__" : Str)) = false := by decide) (he : starEach (e :: es) X.env = (false, eval e X.env) :: starEach es X.env := by rfl)
    (hpl : (backTo pos (starEach es X.env)).any (·.1) = false := by rfl) : JE X C (.Call (.Name x p) (e :: es) [] pos) (dCall Fd (dRT j far)) := by
  obtain ⟨f, fd, ps, h1, h2, h3, h4, h5⟩ := D.ex
  exact PE.weak (pe_call h1 (hr.mono hk) hg h2 h3 h4 .nil hx ha hdb he hpl) fun σ H Q h => call_readT hpp hσ0 h h5
end
theorem start_set {N : List Str} {vs : List V} {v : V} (h : vs.length < N.length) : (L2.start N vs).set vs.length (some v) = L2.start N (vs ++ [v]) := by
  unfold L2.start
  obtain ⟨m, hm⟩ : ∃ m, N.length - vs.length = m + 1 := ⟨N.length - vs.length - 1, by omega⟩
  rw [hm, List.replicate_succ, List.length_append, List.length_singleton, show N.length - (vs.length + 1) = m by omega, List.map_append]
  rw [List.set_append_right _ _ (by simp)]
  simp
/-- a def keeps its promise, with a table in the slot behind its parameters -/
theorem fn_pureT {P : Program} {w : World} {K : PySem.W.Frag} {mg : Str → Option Value} {base : Heap} {xq qual xt : Str} {st : Stmt} {N ps : List Str} {xv : Nat → Value} {m k : Nat} {ks : List Bool} {fb : DS} {f PT cL : Addr} {fd : FuncData} (Fu : Fun K xq qual st f fd) (hcL : fd.code = .ref cL) (hch : PySem.W.codeHdIn K cL PT = true)
    (S : FnScope N ps (defScope st)) (hl : ps.length = ks.length) (hm : N.length = (ks ++ [true]).length + m) (hj : N[ks.length]? = some xt) (hv : ¬ Vis (defScope st) xt) (hbm : base.BuiltinsAt mg PT) (hKb : K.In base)
    (hbody : ∀ (X : Cx) (C : Cn), (∃ cdv A outer s H E, X = cxOf (CXe P w) P w K mg base N qual (defScope st) f cdv A outer s H E) → C.pp = ownIx (ks ++ [true]) → C.σ₀[ks.length]? = some (some (.ref PT)) → C.xv = xv → C.nw = false → Room k X.A → Passes (CXe P w) X (EXc C) → PassesOwn (model X.prog X.w) X.A X.env X.xe → LamBase X PT → JSs X C (defBody st) fb) :
    FnOk P w K mg base (CXe P w) (k + 1) f fd ps (spH PT (spOf false K xv (ks ++ [true]) (runDef false (ks ++ [true]) m fb))) := by
  obtain ⟨oc, od, kV, doc, pm, an, cdv, ct, osl, rfl, lk, hcd⟩ := Fu.ex
  obtain rfl : cdv = .ref cL := hcL
  refine fn_of lk hcd S (fun vs H Q E ⟨_, _, _, h, _⟩ => by simp at h; omega) fun A outer s H vs0 Q E hr hsp => ?_
  obtain ⟨G, w0, bs, hv', hk, pr, hF⟩ := hsp
  have hlen0 : vs0.length = ks.length := by simpa using hv'
  have hNl : vs0.length < N.length := by rw [hm, hlen0]; simp; omega
  have hset := start_set (N := N) (vs := vs0) (v := V.ref PT) hNl
  rw [hlen0] at hset
  generalize hvs : vs0 ++ [V.ref PT] = vs at hv' pr hF hset
  have hlast : vs[ks.length]? = some (.ref PT) := by rw [← hvs, ← hlen0]; simp
  generalize hks' : ks ++ [true] = ks' at *
  let X := cxOf (CXe P w) P w K mg base N qual (defScope st) f (.ref cL) A outer s H E
  let C : Cn := ⟨G, H, w0, ownIx ks', L2.start N vs, fun n => runDef false ks' m fb bs = .er n, xv, false⟩
  have hE : ∀ u a H', EXc C u a H' → E u a H' := fun u a H' ⟨ea, n, eu, en, G', w', s'⟩ => by
    subst ea; subst eu
    have en' : runDef false ks' m fb bs = .er n := en
    rw [en'] at hF
    exact hF G' H' w' s'
  have hσ : (L2.start N vs)[ks.length]? = some (some (.ref PT)) := by
    unfold L2.start
    rw [List.getElem?_append_left (by simpa using (List.getElem?_eq_some_iff.mp hlast).1), List.getElem?_map, hlast]; rfl
  have hb := hbody X C ⟨.ref cL, A, outer, s, H, E, rfl⟩ rfl hσ rfl rfl hr (leavesE N qual (defScope st) f (.ref cL) A outer s H E (EXc C) S.kind hE) PassesOwn.leaving ⟨⟨cL, rfl, PySem.W.codeHd_of_K hKb hch⟩, hbm⟩
  refine ⟨fun D σ H => tS K C fb D (σ.set ks.length (some (.ref PT))) H, fun pins s' σ H' D I h => hb pins s' _ H' D (inv_dummy I hj hv) h, ?_⟩
  show tS K C fb _ ((L2.start N vs0).set ks.length (some (V.ref PT))) H
  rw [hset]
  refine ⟨G, w0, bs.map some ++ List.replicate m none, ?_, ?_⟩
  · refine ⟨pr.gh, pr.wg, pr.wh, ?_, fun i b e => ?_, .refl _ _ _, fun i _ => rfl⟩
    · unfold L2.start
      simp only [List.length_append, List.length_map, List.length_replicate]
      have := pr.len
      omega
    · have hi : i < bs.length := by
        by_cases hi : i < bs.length
        · exact hi
        · rw [List.getElem?_append_right (by simpa using hi), List.getElem?_replicate] at e
          split at e <;> cases e
      rw [List.getElem?_append_left (by simpa using hi), List.getElem?_map] at e
      have eb : bs[i]? = some b := by
        cases q : bs[i]? with
        | none => rw [q] at e; cases e
        | some z => rw [q] at e; cases e; rfl
      have hiv : i < vs.length := by rw [← pr.len]; exact hi
      refine ⟨vs[i], ?_, pr.sl i b vs[i] eb (by simp [hiv])⟩
      unfold L2.start
      rw [List.getElem?_append_left (by simpa using hiv), List.getElem?_map]
      simp [hiv]
  · have hF' : match runDef false ks' m fb bs with
      | .ok a => ∀ v G' H' w', Step G H w0 G' H' w' → PBack K G' H' w' ks' a.2 vs → RtG false K H G' H' w' a.1 v → Q v H'
      | .er n => ∀ G' H' w', Step G H w0 G' H' w' → E (xv n) none H'
      | .no => False := hF
    have er : runDef false ks' m fb bs = (fb (bs.map some ++ List.replicate m none)).bind fun a => match a.1 with
      | .nx => if false = true then .no else (backAll ks' a.2).bind fun l => .ok (.non, l)
      | .rt d => (backAll ks' a.2).bind fun l => .ok (d, l)
      | _ => .no := by unfold runDef; exact if_pos hk
    have back : ∀ {ρ' : Ev} {l : List B} {σ' : L2.St} {G' H' : Hp} {w' : Wn}, backAll ks' ρ' = .ok l → Rel K C G' w' ρ' σ' H' → PBack K G' H' w' ks' l vs := fun {ρ' l σ' G' H' w'} eb r' => by
      refine ⟨r'.gh, r'.wg, r'.wh, fun j v e1 e2 => ?_⟩
      obtain ⟨b, h1, h2⟩ := backAll_get eb e1
      obtain ⟨v', h3, h4⟩ := r'.sl j b h2
      have hj : j < ks'.length := (List.getElem?_eq_some_iff.mp e1).1
      have hp : σ'[j]? = (L2.start N vs)[j]? := r'.pin j (by
        show j ∈ ownIx ks'
        unfold ownIx
        rw [List.mem_filter]
        exact ⟨List.mem_range.mpr hj, by simp [e1]⟩)
      have hs : (L2.start N vs)[j]? = some (some v) := by
        unfold L2.start
        rw [List.getElem?_append_left (by simpa using (List.getElem?_eq_some_iff.mp e2).1), List.getElem?_map, e2]; rfl
      rw [hp, hs] at h3; cases h3
      exact ⟨b, h1, h4⟩
    cases ef : fb (bs.map some ++ List.replicate m none) with
    | ok z =>
      obtain ⟨fl, ρ'⟩ := z
      rw [ef, R.bind_ok] at er
      cases fl with
      | nx =>
        intro σ' G' H' w' s' r'
        have er : runDef false ks' m fb bs = (backAll ks' ρ').bind fun l => .ok (.non, l) := er
        cases eb : backAll ks' ρ' with
        | ok l =>
          rw [er] at hF'; simp only [eb, R.bind_ok] at hF'
          exact hF' _ G' H' w' s' (back eb r') (by unfold RtG Rep; rfl)
        | er n => exact absurd eb backAll_er
        | no =>
          have er' : runDef false ks' m fb bs = .no := by rw [er]; show ((backAll ks' ρ').bind _) = _; rw [eb]; rfl
          rw [er'] at hF'; exact hF'.elim
      | rt d =>
        intro v σ' G' H' w' s' r' q
        cases eb : backAll ks' ρ' with
        | ok l =>
          rw [er] at hF'; simp only [eb, R.bind_ok] at hF'
          exact hF' _ G' H' w' s' (back eb r') q
        | er n => exact absurd eb backAll_er
        | no =>
          have er' : runDef false ks' m fb bs = .no := by rw [er]; show ((backAll ks' ρ').bind _) = _; rw [eb]; rfl
          rw [er'] at hF'; exact hF'.elim
      | bk => rw [er] at hF'; exact hF'.elim
      | ct => rw [er] at hF'; exact hF'.elim
    | er n =>
      show runDef false ks' m fb bs = .er n
      rw [er, ef]; rfl
    | no => rw [er, ef] at hF'; exact hF'.elim
end PV
end
section
set_option Elab.async false
set_option linter.all false
set_option maxRecDepth 100000
namespace PV
open PySem PySem.Spec L2 PyProof.Rows
/-! ### the law's def, where a def that it calls makes lambdas: that def's table stands behind its names -/
theorem fn_lawH {P : Program} {w : World} {K : PySem.W.Frag} {mg : Str → Option Value} {base : Heap} {xq qual xs xt q : Str} {st : Stmt} {N : List Str} {xv : Nat → Value} {m k : Nat} {fb : DS} {f PT : Addr} {fd : FuncData}
    (Fu : Fun K xq qual st f fd) (S : FnScope N [xs] (defScope st)) (hm : N.length = m + 2) (hj : N[m + 1]? = some xt) (hv : ¬ Vis (defScope st) xt)
    (hbody : ∀ (X : Cx) (C : Cn), (∃ cdv A outer s H E, X = cxOf (CXe P w) P w K mg base N qual (defScope st) f cdv A outer s H E) → C.pp = [m + 1] → C.σ₀[m + 1]? = some (some (.ref PT)) → C.xv = xv → C.nw = false → Room k X.A → Passes (CXe P w) X (EXc C) → PassesOwn (model X.prog X.w) X.A X.env X.xe → JSs X C (defBody st) fb) :
    FnOk P w K mg base (CXe P w) (k + 1) f fd [xs] (spT K PT (lawD m q fb)) := by
  obtain ⟨oc, od, kV, doc, pm, an, cdv, ct, osl, rfl, lk, hcd⟩ := Fu.ex
  refine fn_of lk hcd S (fun vs H Q E ⟨a, ns, h, _⟩ => by rw [h]; rfl) fun A outer s H vs Q E hr hsp => ?_
  obtain ⟨a, ns, rfl, hS, hP, ⟨ρ', hok⟩, hQ⟩ := hsp
  let X := cxOf (CXe P w) P w K mg base N qual (defScope st) f cdv A outer s H E
  let G : Hp := fun b => if b = PT then none else H b
  let w0 : Wn := fun b => if b = PT then some (m + 1) else none
  let σ1 : L2.St := (L2.start N [.ref a]).set (m + 1) (some (.ref PT))
  let C : Cn := ⟨G, H, w0, [m + 1], σ1, fun _ => False, xv, false⟩
  have lS : (L2.start N [V.ref a]).length = m + 2 := by unfold L2.start; simp [hm]
  have hb := hbody X C ⟨cdv, A, outer, s, H, E, rfl⟩ rfl (by show σ1[m + 1]? = _; rw [List.getElem?_set_self (by rw [lS]; omega)]) rfl rfl hr
    (leavesE N qual (defScope st) f cdv A outer s H E (EXc C) S.kind fun u b H' ⟨_, n, _, z, _⟩ => z.elim) PassesOwn.leaving
  refine ⟨fun D σ H => tS K C fb D (σ.set (m + 1) (some (.ref PT))) H, fun pins s' σ H' D I h => hb pins s' _ H' D (inv_dummy I hj hv) h, G, w0, some (.val (.scr ns)) :: (List.replicate m none ++ [some (.tab q)]), ?_, ?_⟩
  · have gP : G PT = none := if_pos rfl
    have gO : ∀ {b : Addr}, b ≠ PT → G b = H b := fun h => if_neg h
    have wP : w0 PT = some (m + 1) := if_pos rfl
    have wO : ∀ b, w0 b ≠ none → b = PT := fun b e => by
      by_cases hb : b = PT
      · exact hb
      · exact absurd (if_neg hb) e
    refine ⟨fun b o e => ?_, fun b e => by rw [wO b e]; exact gP, fun b e => by rw [wO b e, hP]; simp, by simp [lS], fun i b e => ?_, .refl _ _ _, fun i _ => rfl⟩
    · by_cases hb : b = PT
      · rw [hb, gP] at e; cases e
      · rw [gO hb] at e; exact e
    · cases i with
      | zero =>
        simp at e; subst e
        refine ⟨.ref a, ?_, ?_⟩
        · rw [List.getElem?_set_ne (by omega)]; unfold L2.start; simp
        · show Rep K G (.scr ns) (.ref a)
          unfold Rep
          refine ⟨a, rfl, ?_⟩
          rcases hS with (h | ⟨o, h⟩) | h
          · exact .inl (.inl ((gO fun z => by rw [z, hP] at h; cases h).trans h))
          · exact .inl (.inr ⟨o, (gO fun z => by rw [z, hP] at h; cases h).trans h⟩)
          · exact .inr h
      | succ i =>
        rw [List.getElem?_cons_succ] at e
        by_cases hi : i < m
        · rw [List.getElem?_append_left (by simpa using hi), List.getElem?_replicate] at e
          split at e <;> cases e
        · rw [List.getElem?_append_right (by simpa using hi)] at e
          simp only [List.length_replicate] at e
          have him : i = m := by
            by_cases h : i - m = 0
            · omega
            · obtain ⟨y, hy⟩ := Nat.exists_eq_succ_of_ne_zero h
              rw [hy] at e; simp at e
          subst him
          simp at e
          subst e
          refine ⟨.ref PT, by rw [List.getElem?_set_self (by rw [lS]; omega)], PT, #[], rfl, wP, hP, trivial, fun pos cv z => ?_⟩
          simp [codeAmong] at z
  · rw [hok]
    intro v σ' G' H' w' _ _ rt
    have : v = .bl true := rep_bl (K := K) (G := G') rt
    subst this
    exact hQ H'
/-! ### a or b, a a list -/
section
variable {X : Cx} {C : Cn} {a b e : Expr} {fa fb : De} {pos apos : Pos} {rest : List Expr}
noncomputable def tOrL (K : PySem.W.Frag) (ta tb : TE) : TE := fun σ H Q => ta σ H fun x H1 => ∃ ad xs, x = .ref ad ∧ SqL K H1 ad xs ∧ if xs.isEmpty = true then tb σ H1 Q else Q (.ref ad) H1
theorem pe_orL {ta tb : TE} (ha : PE X a ta) (hb : PE X (.BoolOp .Or (b :: rest) pos) tb) : PE X (.BoolOp .Or (a :: b :: rest) pos) (tOrL X.K ta tb) := by
  intro pins s σ H Q I h
  refine BoolOp_or (thn (ha pins s σ H _ I h) fun v s1 ⟨x, H1, I1, r1, q1⟩ => ?_)
  obtain ⟨ad, xs, rfl, hx, q1⟩ := q1
  cases r1
  obtain ⟨its, rv, pl, hz⟩ := I1.list hx
  have hlen := rv.length
  have hz' : xs.length ≤ 16777216 := by rw [← line24]; exact hz
  refine wpAny_truthy_list pl.isList (by simp only [List.size_toArray]; omega) ?_
  have I2 : L2.Inv X pins σ H1 { s1 with toks := s1.toks + 1 + 1 } := I1.kept (t' := s1.toks + 1 + 1) fun _ _ q => q
  cases rv with
  | nil => exact hb pins _ σ H1 Q I2 q1
  | cons h1 t => exact ⟨.ref ad, H1, I2, rfl, q1⟩
noncomputable def dOrL (fa fb : De) : De := fun ρ => (fa ρ).bind fun a => match a.1 with
  | .lst [] => fb a.2
  | .lst (x :: r) => .ok (.lst (x :: r), a.2)
  | _ => .no
theorem je_orL (ha : JE X C a fa) (hb : JE X C (.BoolOp .Or (b :: rest) pos) fb) : JE X C (.BoolOp .Or (a :: b :: rest) pos) (dOrL fa fb) := (pe_orL ha hb).weak fun σ H Q ⟨G, w, ρ, r, p⟩ => by
  refine seqE (κ := fun G H w => kE X.K C σ Q G H w) stp_E r p fun d ρ1 v G1 H1 w1 r1 s1 q1 p1 => ?_
  cases d with
  | lst l =>
    obtain ⟨ad, vs, rfl, h1, h2⟩ := rep_lst q1
    refine ⟨ad, vs, rfl, SqL.of (r1.gh _ _ h1), ?_⟩
    cases l with
    | nil =>
      rw [h2.nil_inv]
      exact ⟨G1, w1, ρ1, r1, p1⟩
    | cons x r =>
      obtain ⟨v, t, rfl, _, _⟩ := h2.cons_inv
      exact p1 _ G1 H1 w1 (.refl _ _ _) r1 q1
  | _ => exact p1.elim
/-! ### xs.count(x) -/
noncomputable def cntD (x : Dt) (l : List Dt) : Nat := l.countP fun d => eqD d x
theorem cnt_eqOf {pins : List (Addr × Obj)} {σ : L2.St} {H : Hp} {s : Shared} (I : L2.Inv X pins σ H s) {dx : Dt} : ∀ {ds : List Dt} {vs : List V} {us : List Value}, ds.all (okN 60) = true → Reps X.K H ds vs → Vals vs us → us.countP (eqOf X.K H dx) = cntD dx ds
  | [], vs, us, _, h, r => by rw [h.nil_inv] at r; cases r; rfl
  | d :: ds, vs, us, hk, h, r => by
    obtain ⟨v, t, rfl, k1, k2⟩ := h.cons_inv
    cases r with
    | cons r1 r2 =>
      simp only [List.all_cons, Bool.and_eq_true] at hk
      have ih := cnt_eqOf I (dx := dx) hk.2 k2 r2
      unfold cntD at ih ⊢
      rw [List.countP_cons, List.countP_cons, ih, eqOf_is I hk.1 k1 r1]
noncomputable def rCnt (K : PySem.W.Frag) : V → List V → Hp → VK → Prop := fun x vs H Q => ∃ a zs dx ds y, x = .ref a ∧ vs = [y] ∧ H a = some (.lst zs) ∧ Reps K H ds zs ∧ Rep K H dx y ∧ okN 60 dx = true ∧ ds.all (okN 60) = true ∧ Q (.int (cntD dx ds)) H
theorem mt_count (hu : X.A.units + 65 < cLine) : MtR X "list.count" (rCnt X.K) := by
  intro pins s σ H x vs v us Q I rx rv h
  obtain ⟨a, zs, dx, ds, y, rfl, rfl, hH, h1, h2, h3, h4, q⟩ := h
  cases rx
  obtain ⟨u, rfl, ru⟩ := Vals.one rv
  have hu1 : X.A.in1.units + 64 < cLine := by rw [in1_units]; omega
  obtain ⟨z, its, n, r, hl, e⟩ := I.lstM hH
  refine PySem.call_meets F.slot_list_count ⟨_, e, rfl⟩ F.entry_list_count (F.args_list_count_2 _ _)
    (SeqAt.list_countAt a its.toArray n none #[] u (eqOf X.K H dx)) ⟨e, fun w hw => each_eqOf I hu1 h3 h2 ru h4 h1 r w (by simpa using hw), ?_⟩
  have hc := cnt_eqOf I (dx := dx) h4 h1 r
  refine ⟨.int (cntD dx ds), H, I.kept (t' := s.toks + 1) (fun _ _ q => q), ⟨s.toks, ?_⟩, q⟩
  rw [← hc]
noncomputable def dCnt (fa fb : De) : De := fun ρ => (fa ρ).bind fun a => match a.1 with
  | .lst ds => (fb a.2).bind fun b => if (okN 60 b.1 && ds.all (okN 60)) = true then .ok (.int (cntD b.1 ds), b.2) else .no
  | _ => .no
theorem je_cnt (hu : X.A.units + 65 < cLine) (ha : JE X C a fa) (hb : JE X C b fb) (hbase : attributeBase a "count" X.env (eval a X.env) = eval a X.env := by rfl)
    (hfew : ((backTo pos (starEach [b] X.env)).all (fun x => !x.1) && (backToKw pos (keywordEach [] X.env)).all (fun x => x.1.isSome) && decide ([b].length + ([] : List Keyword).length + (if ([] : List Keyword).isEmpty then 0 else 1) < 30)) = true := by rfl)
    (hline : (apos.endLine == pos.line) = true := by rfl) (hs : starEach [b] X.env = (false, eval b X.env) :: starEach [] X.env := by rfl) (hplain : (backTo pos (starEach [] X.env)).any (·.1) = false := by rfl) :
    JE X C (.Call (.Attribute a "count" apos) [b] [] pos) (dCnt fa fb) :=
  PE.weak (pe_bm PySem.F.plainAttrs_list PySem.F.slot_list_count PySem.F.type_list_count (mt_count hu) ha (pa_cons hb pa_nil hs) hbase hfew hline hs hplain) fun σ H Q ⟨G, w, ρ, r, p⟩ => by
    refine seqE (κ := fun G H w => kE X.K C σ Q G H w) stp_E r p fun d ρ1 v G1 H1 w1 r1 s1 q1 p1 => ?_
    cases d with
    | lst ds =>
      obtain ⟨ad, vs, rfl, h1, h2⟩ := rep_lst q1
      refine ⟨.inl ⟨rfl, vs, SqL.of (r1.gh _ _ h1)⟩, ?_⟩
      refine seqE (κ := fun G H w => kE X.K C σ Q G H w) stp_E r1 p1 fun d2 ρ2 v2 G2 H2 w2 r2 s2 q2 p2 => ?_
      dsimp only at p2
      split at p2
      · rename_i hk
        rw [Bool.and_eq_true] at hk
        exact ⟨ad, vs, d2, ds, v2, rfl, rfl, r2.gh _ _ (s2.g _ _ h1), (h2.same s2.g).same r2.gh, q2.same r2.gh, hk.1, hk.2, p2 _ G2 H2 w2 (.refl _ _ _) r2 (rep_is_int _)⟩
      · exact False.elim p2
    | _ => exact False.elim p1
/-! ### int(b), b a truth -/
theorem call_intB : CallR X (.type "int") (fun xs H Q => ∃ b : Bool, xs = [.bl b] ∧ Q (.int (if b then 1 else 0)) H) := by
  intro pins s σ H xs us Q I r h
  obtain ⟨b, rfl, q⟩ := h
  obtain ⟨u, rfl, ru⟩ := vals1 r
  cases ru
  exact call_int_bool ⟨.int (if b then 1 else 0), H, I.kept (t' := s.toks + 1) (fun _ _ q => q), ⟨_, rfl⟩, q⟩
noncomputable def gIntB : List Dt → R Dt
  | [.bl b] => .ok (.int (if b then 1 else 0))
  | _ => .no
theorem fn_intB {K : PySem.W.Frag} : FnR K (fun xs H Q => ∃ b : Bool, xs = [.bl b] ∧ Q (.int (if b then 1 else 0)) H) gIntB := fun G H vs ds z Q gh hr e k => by
  unfold gIntB at e
  split at e
  · obtain ⟨v, rfl, h1⟩ := reps1 hr
    cases e
    exact ⟨_, by rw [rep_bl h1], k _ G H (.refl gh) (rep_is_int _)⟩
  · cases e
theorem ne_intB : NoE1 gIntB := fun x n h => by
  unfold gIntB at h
  split at h <;> cases h
theorem c_intB {p : Pos} (hg : Gl X "int") (hm : X.mg "int" = none) (ha : JE X C a fa) (hs : starEach [a] X.env = (false, eval a X.env) :: starEach [] X.env := by rfl) (hpl : (backTo pos (starEach [] X.env)).any (·.1) = false := by rfl) :
    JE X C (.Call (.Name "int" p) [a] [] pos) (dFn gIntB (dA fa dA0)) :=
  je_callTy fn_intB ne_intB call_intB hg hm PyProof.Rows.boot_int (ja_cons ha ja_nil hs) (by decide) (by decide) hs hpl
end
end PV
end
section
set_option Elab.async false
set_option linter.all false
set_option maxRecDepth 100000
namespace PV
open PySem PySem.Spec L2
/-! ### zip of two lists -/
structure ZpL (h : Heap) (z TI TO i1 i2 l1 l2 : Addr) (f0 : Value) (k : Nat) : Prop where
  z : IsZip h z TI TO f0
  ti : IsPair h TI (.ref i1) (.ref i2)
  to : ∃ a b, IsPair h TO a b
  a1 : h.IsListIter i1 l1 k
  a2 : h.IsListIter i2 l2 k
theorem ZpL.keep {h h' : Heap} {z TI TO i1 i2 l1 l2 : Addr} {f0 : Value} {k : Nat} (p : ZpL h z TI TO i1 i2 l1 l2 f0 k) (e : ∀ b ∈ [z, TI, TO, i1, i2], ∀ o, h.get? b = some o → h'.get? b = some o) : ZpL h' z TI TO i1 i2 l1 l2 f0 k :=
  ⟨e z (by simp) _ p.z, e TI (by simp) _ p.ti, let ⟨a, b, q⟩ := p.to; ⟨a, b, e TO (by simp) _ q⟩, p.a1.at fun o q => e i1 (by simp) o q, p.a2.at fun o q => e i2 (by simp) o q⟩
theorem apart_of {z TI TO i1 i2 l1 l2 : Addr} (D : ZpD z TI TO i1 i2) (n1 : ∀ b ∈ [z, TI, TO, i1, i2], b ≠ l1) (n2 : ∀ b ∈ [z, TI, TO, i1, i2], b ≠ l2) : ZipApart z TI TO i1 i2 l1 l2 :=
  ⟨D.d1, D.d2, D.d3, D.d4, D.d5, D.d6, D.d7, D.d8, D.d9, D.d0, (n1 z (by simp)).symm, (n1 TO (by simp)).symm, (n1 i1 (by simp)).symm, (n1 i2 (by simp)).symm, (n2 z (by simp)).symm, (n2 TO (by simp)).symm, (n2 i1 (by simp)).symm, (n2 i2 (by simp)).symm⟩
noncomputable def Itl (K : PySem.W.Frag) (a b : Addr) : It :=
  ⟨fun i H => ∃ xs ys x y, SqL K H a xs ∧ SqL K H b ys ∧ xs[i]? = some x ∧ ys[i]? = some y,
   fun i H v H' => ∃ p x y, v = .ref p ∧ H p = none ∧ H' = upd H p (.tup [x, y]) ∧ (∀ xs, SqL K H a xs → xs[i]? = some x) ∧ ∀ ys, SqL K H b ys → ys[i]? = some y,
   fun i H => ∃ xs ys, SqL K H a xs ∧ SqL K H b ys ∧ xs.length ≤ i⟩
theorem turn_zipL {P : Program} {w : World} {K : PySem.W.Frag} {elts : List Expr} {x1} {ps : Pos} {a b z TI TO i1 i2 : Addr} (D : ZpD z TI TO i1 i2) : Turn P w K (.Tuple elts x1 ps) (Itl K a b) [z, TI, TO, i1, i2] z (fun i h => ZpL h z TI TO i1 i2 a b .none i) where
  mem := by simp
  obj := fun i h st c hc => by
    obtain ⟨s1, s2, ⟨oa, ob, s3⟩, ⟨o4, s4, _, d4⟩, ⟨o5, s5, _, d5⟩⟩ := st
    simp only [List.mem_cons, List.not_mem_nil, or_false] at hc
    rcases hc with rfl | rfl | rfl | rfl | rfl
    · exact ⟨_, s1, fun v q => by cases q⟩
    · exact ⟨_, s2, fun v q => by cases q⟩
    · exact ⟨_, s3, fun v q => by cases q⟩
    · exact ⟨_, s4, fun v q => by rw [d4] at q; cases q⟩
    · exact ⟨_, s5, fun v q => by rw [d5] at q; cases q⟩
  keep := fun i h h' st k => st.keep k
  item := by
    intro X hP hw hK hc i pins s σ H E I hf st hg
    subst hP hw hK
    obtain ⟨xs, ys, x, y, q1, q2, hx, hy⟩ := hg
    obtain ⟨its, rv, p, hz⟩ := I.list q1
    obtain ⟨jts, rw', p', hz'⟩ := I.list q2
    obtain ⟨u, hu, ru⟩ := rv.get hx
    obtain ⟨v, hv, rv'⟩ := rw'.get hy
    obtain ⟨oa0, ob0, hto⟩ := st.to
    have AP := apart_of D (fun c hc => fpL_ne I (hf c hc) q1) (fun c hc => fpL_ne I (hf c hc) q2)
    refine wpAny_pyNext_zip_item (x := u) (y := v) AP st.z st.ti hto st.a1 st.a2 p.isList p'.isList (by simpa using hu) (by simpa using hv) fun h' b1 b2 b3 b4 ht b6 hk => ?_
    refine ⟨_, rfl, wpAny_letOwnedTupleGo_zip b1 fun h2 hz2 sb => ?_⟩
    have hzp : ∀ c ∈ [z, TI, TO, i1, i2], c ≠ s.heap.objs.size := fun c hc q => by
      obtain ⟨s1, s2, ⟨oa, ob, s3⟩, ⟨o4, s4, _⟩, ⟨o5, s5, _⟩⟩ := st
      simp only [List.mem_cons, List.not_mem_nil, or_false] at hc
      subst q
      rcases hc with rfl | rfl | rfl | rfl | rfl
      · exact absurd (Heap.lt_size s1) (Nat.lt_irrefl _)
      · exact absurd (Heap.lt_size s2) (Nat.lt_irrefl _)
      · exact absurd (Heap.lt_size s3) (Nat.lt_irrefl _)
      · exact absurd (Heap.lt_size s4) (Nat.lt_irrefl _)
      · exact absurd (Heap.lt_size s5) (Nat.lt_irrefl _)
    have st2 : ZpL h2 z TI TO i1 i2 a b .none (i + 1) :=
      ⟨hz2, sb.extBut _ _ D.d1 (hk TI _ D.d1 D.d5 D.d6 D.d7 st.ti), ⟨_, _, sb.extBut _ _ D.d2 b2⟩, b3.extBut sb.extBut D.d3, b4.extBut sb.extBut D.d4⟩
    have hk2 : ∀ c ob, c ∉ [z, TI, TO, i1, i2] → s.heap.get? c = some ob → h2.get? c = some ob := fun c ob nc e => by
      simp only [List.mem_cons, List.not_mem_nil, or_false, not_or] at nc
      exact sb.extBut _ _ nc.1 (hk c ob nc.1 nc.2.2.1 nc.2.2.2.1 nc.2.2.2.2 e)
    have hth : ∀ c ob, s.heap.get? c = some ob → ∃ ob', h2.get? c = some ob' := fun c ob e => by
      by_cases nc : c ∈ [z, TI, TO, i1, i2]
      · obtain ⟨s1, s2, ⟨oa, ob, s3⟩, ⟨o4, s4, _⟩, ⟨o5, s5, _⟩⟩ := st2
        simp only [List.mem_cons, List.not_mem_nil, or_false] at nc
        rcases nc with rfl | rfl | rfl | rfl | rfl
        · exact ⟨_, s1⟩
        · exact ⟨_, s2⟩
        · exact ⟨_, s3⟩
        · exact ⟨_, s4⟩
        · exact ⟨_, s5⟩
      · exact ⟨ob, hk2 c ob nc e⟩
    have hnew : h2.get? s.heap.objs.size = some { cls := .type "tuple", data := .seq #[u, v] } := sb.extBut _ _ (Ne.symm (hzp z (by simp))) ht
    have IN : L2.Inv X pins σ (upd H s.heap.objs.size (.tup [x, y])) { s with heap := h2 } := Inv_turnedL (s := s) (t' := s.toks) (o := .tup [x, y]) I hf hk2 (Nat.le_refl _) hth ⟨by show 2 ≤ sizeLine; decide, [u, v], .cons ru (.cons rv' .nil), 0, hnew⟩
    exact ⟨.ref s.heap.objs.size, _, IN, rfl,
      ⟨_, x, y, rfl, I.hok.fresh (Nat.le_refl _), rfl, fun zs q => by rw [I.list_inj q q1]; exact hx, fun zs q => by rw [I.list_inj q q2]; exact hy⟩, st2, fun c hc => by rw [upd_ne (hzp c hc)]; exact (hf c hc).1⟩
  done := by
    intro X hP hw hK hc i pins s σ H E I hf st hg
    subst hP hw hK
    obtain ⟨xs, ys, q1, q2, hx⟩ := hg
    obtain ⟨its, rv, p, hz⟩ := I.list q1
    obtain ⟨jts, rw', p', hz'⟩ := I.list q2
    have hl := rv.length
    obtain ⟨oa0, ob0, hto⟩ := st.to
    have AP := apart_of D (fun c hc => fpL_ne I (hf c hc) q1) (fun c hc => fpL_ne I (hf c hc) q2)
    refine wpAny_pyNext_zip_end (I.ok.hd hc) AP st.z st.ti hto st.a1 st.a2 p.isList p'.isList (.inl (by simp; omega)) fun h' hk => ⟨rfl, ?_⟩
    refine Inv_turned0 (t' := s.toks) I hf fun c ob nc e => ?_
    simp only [List.mem_cons, List.not_mem_nil, or_false, not_or] at nc
    exact hk c ob nc.1 nc.2.2.1 nc.2.2.2.1 nc.2.2.2.2 e
  self := fun _ _ _ _ _ st h => wpAny_pyIter_zip st.z h
theorem itl_ok {K : PySem.W.Frag} {G : Hp} {a b : Addr} {vs us : List V} {ds es : List Dt} (hs : G a = some (.lst vs)) (ht : G b = some (.lst us)) (q : Reps K G ds vs) (q' : Reps K G es us) (hl : ds.length = es.length) : ItOk K (Itl K a b) G ((ds.zip es).map fun z => .tup [z.1, z.2]) := fun i G1 H s1 s2 => by
  have h1 : SqL K H a vs := SqL.of (s2 _ _ (s1 _ _ hs))
  have h2 : SqL K H b us := SqL.of (s2 _ _ (s1 _ _ ht))
  refine ⟨fun d e => ?_, fun h => ⟨vs, us, h1, h2, ?_⟩⟩
  · rw [List.getElem?_map] at e
    have hi : i < ds.length := by
      by_cases hi : i < ds.length
      · exact hi
      · rw [List.getElem?_eq_none (by rw [List.length_zip]; omega)] at e; cases e
    have z1 : ds[i]? = some ds[i] := by simp [hi]
    have z2 : es[i]? = some (es[i]'(by omega)) := by simp [show i < es.length by omega]
    obtain ⟨v, e1, e2⟩ := q.get z1
    obtain ⟨u, e3, e4⟩ := q'.get z2
    have ed : d = .tup [ds[i], es[i]'(by omega)] := by
      rw [(List.getElem?_zip_eq_some (z := (ds[i], es[i]'(by omega)))).mpr ⟨z1, z2⟩] at e
      exact (Option.some.inj e).symm
    refine ⟨⟨vs, us, v, u, h1, h2, e1, e3⟩, fun x H' y => ?_⟩
    obtain ⟨p, x', y', rfl, hp, rfl, k1, k2⟩ := y
    have kx := k1 vs h1
    have ky := k2 us h2
    rw [e1] at kx; rw [e3] at ky
    cases kx; cases ky
    have gr : Grow G1 H (upd G1 p (.tup [v, u])) (upd H p (.tup [v, u])) := .new s2 hp
    refine ⟨_, gr, ?_⟩
    rw [ed]
    unfold Rep
    exact ⟨p, [v, u], rfl, SqTP.of upd_same, Reps.cons ((e2.same s1).same gr.g) (Reps.cons ((e4.same s1).same gr.g) Reps.nil)⟩
  · rw [← q.length]
    simpa [hl] using h
/-- two tuples or two lists at once -/
noncomputable def dZipA (fa fb : De) : DA := fun ρ => (fa ρ).bind fun a => (fb a.2).bind fun b => match a.1, b.1 with
  | .tup l, .tup r => if l.length = r.length then .ok ((l.zip r).map fun z => .tup [z.1, z.2], b.2) else .no
  | .lst l, .lst r => if l.length = r.length then .ok ((l.zip r).map fun z => .tup [z.1, z.2], b.2) else .no
  | _, _ => .no
section
variable {X : Cx} {C : Cn} {elts : List Expr} {x1 : Nat} {pt : Pos} {a b : Expr} {fa fb : De} {p pos : Pos}
theorem ji_zipA (hg : Gl X "zip") (hm : X.mg "zip" = none) (ha : JE X C a fa) (hb : JE X C b fb) (hs : starEach [a, b] X.env = (false, eval a X.env) :: starEach [b] X.env := by rfl) (hs2 : starEach [b] X.env = (false, eval b X.env) :: starEach [] X.env := by rfl) (hpl : (backTo pos (starEach [b] X.env)).any (·.1) = false := by rfl) :
    JI X C (.Tuple elts x1 pt) (.Call (.Name "zip" p) [a, b] [] pos) (dZipA fa fb) := by
  intro pins s σ H R I ⟨G, w, ρ, r, pp⟩
  refine PyProof.Rows.Call_ (ld_blt I hg hm PyProof.Rows.boot_zip (PyProof.Rows.callWith_type1 (thn (ja_cons ha (ja_cons hb ja_nil hs2) hs pos pins s σ H (fun vs H1 => ∃ (l1 l2 : Addr) (xs ys : List V), vs = [.ref l1, .ref l2] ∧ ((SqT X.K H1 l1 xs ∧ SqT X.K H1 l2 ys ∧ R (Itz X.K l1 l2) H1) ∨ (SqL X.K H1 l1 xs ∧ SqL X.K H1 l2 ys ∧ R (Itl X.K l1 l2) H1))) I ?_) fun us s1 ⟨vs, H1, I1, r1, q1⟩ => ?_) hs hpl))
  · refine ⟨G, w, ρ, r, ?_⟩
    unfold dZipA at pp
    unfold dA dA0
    cases e : fa ρ with
    | ok x =>
      obtain ⟨d, ρ1⟩ := x
      rw [e] at pp
      simp only [PV.R.bind_ok] at pp ⊢
      cases e2 : fb ρ1 with
      | ok y =>
        obtain ⟨d2, ρ2⟩ := y
        rw [e2] at pp
        simp only [PV.R.bind_ok] at pp ⊢
        intro vs G1 H1 w1 s1 r1 q
        obtain ⟨v, u, rfl, k1, k2⟩ := reps2 q
        cases d with
        | tup l =>
          cases d2 with
          | tup l' =>
            dsimp only at pp
            by_cases hl : l.length = l'.length
            · rw [if_pos hl] at pp
              obtain ⟨a1, xs, rfl, m1, m2⟩ := rep_tup k1
              obtain ⟨a2, ys, rfl, m3, m4⟩ := rep_tup k2
              exact ⟨a1, a2, xs, ys, rfl, .inl ⟨sqT_same r1.gh m1, sqT_same r1.gh m3, pp _ G1 H1 w1 s1 r1 (itz_ok m1 m3 m2 m4 hl)⟩⟩
            · rw [if_neg hl] at pp; exact pp.elim
          | _ => exact False.elim pp
        | lst l =>
          cases d2 with
          | lst l' =>
            dsimp only at pp
            by_cases hl : l.length = l'.length
            · rw [if_pos hl] at pp
              obtain ⟨a1, xs, rfl, m1, m2⟩ := rep_lst k1
              obtain ⟨a2, ys, rfl, m3, m4⟩ := rep_lst k2
              exact ⟨a1, a2, xs, ys, rfl, .inr ⟨SqL.of (r1.gh _ _ m1), SqL.of (r1.gh _ _ m3), pp _ G1 H1 w1 s1 r1 (itl_ok m1 m3 m2 m4 hl)⟩⟩
            · rw [if_neg hl] at pp; exact pp.elim
          | _ => exact False.elim pp
        | _ => exact False.elim pp
      | er n => rw [e2] at pp; exact pp
      | no => rw [e2] at pp; exact pp
    | er n => rw [e] at pp; exact pp
    | no => rw [e] at pp; exact pp
  · obtain ⟨l1, l2, xs, ys, rfl, q⟩ := q1
    obtain ⟨u1, u2, rfl, c1, c2⟩ : ∃ u1 u2, us = [u1, u2] ∧ RelV (.ref l1) u1 ∧ RelV (.ref l2) u2 := by
      cases r1 with
      | cons h1 t => cases t with
        | cons h2 t2 => cases t2; exact ⟨_, _, rfl, h1, h2⟩
    cases c1; cases c2
    have D : ZpD (s1.heap.objs.size + 4) (s1.heap.objs.size + 2) (s1.heap.objs.size + 3) s1.heap.objs.size (s1.heap.objs.size + 1) := zpD_of _
    have hfp : ∀ c ∈ [s1.heap.objs.size + 4, s1.heap.objs.size + 2, s1.heap.objs.size + 3, s1.heap.objs.size, s1.heap.objs.size + 1], FpOk X pins H1 c := fun c hc => by
      have hle : s1.heap.objs.size ≤ c := by
        simp only [List.mem_cons, List.not_mem_nil, or_false] at hc
        rcases hc with rfl | rfl | rfl | rfl | rfl
        · exact Nat.le_add_right ..
        · exact Nat.le_add_right ..
        · exact Nat.le_add_right ..
        · exact Nat.le_refl _
        · exact Nat.le_add_right ..
      exact I1.fpOk hle (I1.hok.fresh hle)
    rcases q with ⟨k1, k2, q⟩ | ⟨k1, k2, q⟩
    · obtain ⟨its, rv, p1, _⟩ := I1.tuple k1
      obtain ⟨jts, rw', p2, _⟩ := I1.tuple k2
      refine zt_call (show s1.heap.IsTuple l1 its.toArray from p1) (show s1.heap.IsTuple l2 jts.toArray from p2) fun h' zp hk => ?_
      refine wpAny_pyIter_zip zp.z ?_
      exact ⟨s1.heap.objs.size + 4, [s1.heap.objs.size + 4, s1.heap.objs.size + 2, s1.heap.objs.size + 3, s1.heap.objs.size, s1.heap.objs.size + 1], _, _, H1, rfl, I1.kept (t' := s1.toks) hk, turn_zip D, zp, hfp, q⟩
    · obtain ⟨its, rv, p1, _⟩ := I1.list k1
      obtain ⟨jts, rw', p2, _⟩ := I1.list k2
      refine call_zip_2 p1.isList p2.isList fun h' b1 b2 b3 b4 b5 b6 hk => ?_
      refine wpAny_pyIter_zip b1 ?_
      exact ⟨s1.heap.objs.size + 4, [s1.heap.objs.size + 4, s1.heap.objs.size + 2, s1.heap.objs.size + 3, s1.heap.objs.size, s1.heap.objs.size + 1], _, _, H1, rfl, I1.kept (t' := s1.toks) hk, turn_zipL D, ⟨b1, b2, ⟨_, _, b3⟩, b4, b5⟩, hfp, q⟩
end
end PV
end
section
set_option Elab.async false
set_option linter.all false
set_option maxRecDepth 100000
set_option maxHeartbeats 4000000
namespace Lw
open PySem PySem.Spec L2 PV
noncomputable def top (i : Nat) : Stmt := PySem.Challenge.pw_standtogether_k30_round_tables_known.main.body.getD i (.Pass ⟨0, 0, 0, 0⟩)
noncomputable def xvC (cls : Nat → Addr) : Nat → Value := fun n => .ref (cls n)
noncomputable abbrev lamQ : Str := ((Str.ofString "_law_refusals_right") ++ ".<locals>.") ++ "<lambda>"
structure Tx (K : PySem.W.Frag) (mg : Str → Option Value) (cls : Nat → Addr) : Prop where
  xc : ∀ n, n < 8 → Xin K (cls n)
  xm0 : mg (Str.ofString "NoGuests") = some (.ref (cls 0))
  xm1 : mg (Str.ofString "NoParties") = some (.ref (cls 1))
  xm2 : mg (Str.ofString "NoNumber") = some (.ref (cls 2))
  xm3 : mg (Str.ofString "NoText") = some (.ref (cls 3))
  xm4 : mg (Str.ofString "NoLine") = some (.ref (cls 4))
  xm5 : mg (Str.ofString "NoDeed") = some (.ref (cls 5))
  xm6 : mg (Str.ofString "NoWeb") = some (.ref (cls 6))
  xm7 : mg (Str.ofString "NoOrder") = some (.ref (cls 7))
  xS : ∃ Cs, Xin K Cs ∧ mg (Str.ofString "SeatError") = some (.ref Cs) ∧ ∀ n, n < 8 → PySem.W.subIn K (.ref (cls n)) (.ref Cs) = some true
  xi : ∀ n k, n < 8 → k < 8 → PySem.W.kitOne K (.ref (cls n)) (.ref (cls k)) = some (n == k)
  xV : ∀ n, n < 8 → PySem.W.kitOne K (.ref (cls n)) (.type "ValueError") = some true
  u_is_whole : ∃ f fd, Fun K (Str.ofString "is_whole") (Str.ofString "is_whole") (top 13) f fd ∧ mg (Str.ofString "is_whole") = some (.ref f)
  u_check_guests : ∃ f fd, Fun K (Str.ofString "check_guests") (Str.ofString "check_guests") (top 14) f fd ∧ mg (Str.ofString "check_guests") = some (.ref f)
  u_is_guest : ∃ f fd, Fun K (Str.ofString "is_guest") (Str.ofString "is_guest") (top 16) f fd ∧ mg (Str.ofString "is_guest") = some (.ref f)
  u_are_guests : ∃ f fd, Fun K (Str.ofString "are_guests") (Str.ofString "are_guests") (top 17) f fd ∧ mg (Str.ofString "are_guests") = some (.ref f)
  u_rises : ∃ f fd, Fun K (Str.ofString "rises") (Str.ofString "rises") (top 18) f fd ∧ mg (Str.ofString "rises") = some (.ref f)
  u_is_party : ∃ f fd, Fun K (Str.ofString "is_party") (Str.ofString "is_party") (top 19) f fd ∧ mg (Str.ofString "is_party") = some (.ref f)
  u_is_parties : ∃ f fd, Fun K (Str.ofString "is_parties") (Str.ofString "is_parties") (top 20) f fd ∧ mg (Str.ofString "is_parties") = some (.ref f)
  u_check_parties : ∃ f fd, Fun K (Str.ofString "check_parties") (Str.ofString "check_parties") (top 15) f fd ∧ mg (Str.ofString "check_parties") = some (.ref f)
  u_is_seating : ∃ f fd, Fun K (Str.ofString "is_seating") (Str.ofString "is_seating") (top 21) f fd ∧ mg (Str.ofString "is_seating") = some (.ref f)
  u_is_round : ∃ f fd, Fun K (Str.ofString "is_round") (Str.ofString "is_round") (top 23) f fd ∧ mg (Str.ofString "is_round") = some (.ref f)
  u_sits_round : ∃ f fd, Fun K (Str.ofString "sits_round") (Str.ofString "sits_round") (top 24) f fd ∧ mg (Str.ofString "sits_round") = some (.ref f)
  u_first_broken_round : ∃ f fd, Fun K (Str.ofString "first_broken_round") (Str.ofString "first_broken_round") (top 25) f fd ∧ mg (Str.ofString "first_broken_round") = some (.ref f)
  u__law_cell_at : ∃ f fd, Fun K (Str.ofString "_law_cell_at") (Str.ofString "_law_cell_at") (top 31) f fd ∧ mg (Str.ofString "_law_cell_at") = some (.ref f)
  u__law_state : ∃ f fd, Fun K (Str.ofString "_law_state") (Str.ofString "_law_state") (top 32) f fd ∧ mg (Str.ofString "_law_state") = some (.ref f)
  u__law_take : ∃ f fd, Fun K (Str.ofString "_law_take") (Str.ofString "_law_take") (top 27) f fd ∧ mg (Str.ofString "_law_take") = some (.ref f)
  u__law_whole : ∃ f fd, Fun K (Str.ofString "_law_whole") (Str.ofString "_law_whole") (top 28) f fd ∧ mg (Str.ofString "_law_whole") = some (.ref f)
  u__law_is_guest : ∃ f fd, Fun K (Str.ofString "_law_is_guest") (Str.ofString "_law_is_guest") (top 29) f fd ∧ mg (Str.ofString "_law_is_guest") = some (.ref f)
  u__law_refused : ∃ f fd, Fun K (Str.ofString "_law_refused") (Str.ofString "_law_refused") (top 30) f fd ∧ mg (Str.ofString "_law_refused") = some (.ref f)
  u__law_order : ∃ f fd, Fun K (Str.ofString "_law_order") (Str.ofString "_law_order") (top 33) f fd ∧ mg (Str.ofString "_law_order") = some (.ref f)
  u__law_parties : ∃ f fd, Fun K (Str.ofString "_law_parties") (Str.ofString "_law_parties") (top 34) f fd ∧ mg (Str.ofString "_law_parties") = some (.ref f)
  u__law_same : ∃ f fd, Fun K (Str.ofString "_law_same") (Str.ofString "_law_same") (top 35) f fd ∧ mg (Str.ofString "_law_same") = some (.ref f)
  u__law_round_together : ∃ f fd, Fun K (Str.ofString "_law_round_together") (Str.ofString "_law_round_together") (top 36) f fd ∧ mg (Str.ofString "_law_round_together") = some (.ref f)
  u__law_bent : ∃ f fd, Fun K (Str.ofString "_law_bent") (Str.ofString "_law_bent") (top 37) f fd ∧ mg (Str.ofString "_law_bent") = some (.ref f)
  u__law_is_round : ∃ f fd, Fun K (Str.ofString "_law_is_round") (Str.ofString "_law_is_round") (top 38) f fd ∧ mg (Str.ofString "_law_is_round") = some (.ref f)
  u__law_refusals_right : ∃ f fd, Fun K (Str.ofString "_law_refusals_right") (Str.ofString "_law_refusals_right") (top 39) f fd ∧ mg (Str.ofString "_law_refusals_right") = some (.ref f)
  u_law : ∃ f fd, Fun K (Str.ofString "law") (Str.ofString "law") (top 40) f fd ∧ mg (Str.ofString "law") = some (.ref f)
  b_ValueError : mg (Str.ofString "ValueError") = none
  b_all : mg (Str.ofString "all") = none
  b_bool : mg (Str.ofString "bool") = none
  b_enumerate : mg (Str.ofString "enumerate") = none
  b_int : mg (Str.ofString "int") = none
  b_isinstance : mg (Str.ofString "isinstance") = none
  b_len : mg (Str.ofString "len") = none
  b_list : mg (Str.ofString "list") = none
  b_max : mg (Str.ofString "max") = none
  b_min : mg (Str.ofString "min") = none
  b_range : mg (Str.ofString "range") = none
  b_sorted : mg (Str.ofString "sorted") = none
  b_tuple : mg (Str.ofString "tuple") = none
  b_zip : mg (Str.ofString "zip") = none
  g_MOST_GUESTS : ∃ t, mg (Str.ofString "MOST_GUESTS") = some (.int 7 t)
  g_MOST_PARTIES : ∃ t, mg (Str.ofString "MOST_PARTIES") = some (.int 8 t)
section
variable {P : Program} {w : World} {K : PySem.W.Frag} {mg : Str → Option Value} {base : Heap} {xv : Nat → Value} {cls : Nat → Addr}
noncomputable abbrev N_is_whole : List Str := ["thing"]
noncomputable abbrev P_is_whole : List Str := ["thing"]
theorem sc_is_whole : FnScope N_is_whole P_is_whole (defScope (top 13)) := ⟨rfl, rfl, rfl, by decide +kernel, rfl, by decide +kernel, by decide +kernel⟩
noncomputable def d_is_whole : DS := (dRet (dAnd (dIsi "int" (dVar 0)) (dNot (dIsi "bool" (dVar 0)))))
noncomputable def F_is_whole : FD := runDef false [false] 0 d_is_whole
theorem D_is_whole (T : Tx K mg cls) : Dfn false P w K mg base (CXe P w) (xvC cls) 3 (Str.ofString "is_whole") [false] F_is_whole := by
    obtain ⟨f, fd, U, hm⟩ := T.u_is_whole
    refine ⟨f, fd, P_is_whole, ?_, hm, U.kp, U.binds (ps := P_is_whole) fun _ _ _ _ _ _ us hl => match us, hl with | [_], _ => rfl, runDef_ks⟩
    refine fn_pure (k := 2) false leavesE U sc_is_whole rfl rfl fun X C hX hpp hxv hnw hr hx hpo => ?_
    obtain ⟨cG, cH, cw, cpp, cσ, cex, cxv, cnw⟩ := C
    dsimp only at hpp hxv hnw
    subst hpp hxv hnw
    have hnw : (false : Bool) = false := rfl
    obtain ⟨cdv, A, outer, s, H, E, rfl⟩ := hX
    exact (jss_one (by exact (js_ret hnw (je_and (je_isi isi_int rfl T.b_isinstance bt_isi rfl T.b_int bt_int (je_var 0)) (je_one (je_not (je_isi isi_bool rfl T.b_isinstance bt_isi rfl T.b_bool bt_bool (je_var 0))))))))
noncomputable abbrev N_check_guests : List Str := ["n"]
noncomputable abbrev P_check_guests : List Str := ["n"]
theorem sc_check_guests : FnScope N_check_guests P_check_guests (defScope (top 14)) := ⟨rfl, rfl, rfl, by decide +kernel, rfl, by decide +kernel, by decide +kernel⟩
noncomputable def d_check_guests : DS := (dIf (dTOr (dTNot (dTB (dCall F_is_whole (dR (dVar 0) dR0)))) (dTOr (dTB (dOp gLt (dVar 0) (dC (.int 1)))) (dTB (dOp gGt (dVar 0) (dC (.int 7)))))) (dRaise 0 (dA (dC (.str (Str.ofString "the guests are no whole number from 1 to 7"))) dA0)) dNx)
noncomputable def F_check_guests : FD := runDef false [false] 0 d_check_guests
theorem D_check_guests (T : Tx K mg cls) : Dfn false P w K mg base (CXe P w) (xvC cls) 6 (Str.ofString "check_guests") [false] F_check_guests := by
    obtain ⟨f, fd, U, hm⟩ := T.u_check_guests
    refine ⟨f, fd, P_check_guests, ?_, hm, U.kp, U.binds (ps := P_check_guests) fun _ _ _ _ _ _ us hl => match us, hl with | [_], _ => rfl, runDef_ks⟩
    refine fn_pure (k := 5) false leavesE U sc_check_guests rfl rfl fun X C hX hpp hxv hnw hr hx hpo => ?_
    obtain ⟨cG, cH, cw, cpp, cσ, cex, cxv, cnw⟩ := C
    dsimp only at hpp hxv hnw
    subst hpp hxv hnw
    have hnw : (false : Bool) = false := rfl
    obtain ⟨cdv, A, outer, s, H, E, rfl⟩ := hX
    exact (jss_one (by exact (js_if (JW.jt (jw_or (jt_not (jt_val (je_fn (D_is_whole T) hr (by omega) hx (jr_cons (je_var 0) jr_nil)))) (jw_or (jt_lt (je_var 0) je_int) (jw_or1 (jt_gt (je_var 0) (je_glob rfl T.g_MOST_GUESTS.choose_spec)))))) (jss_one (by exact (js_raise hx rfl (T.xc 0 (by decide)).cls T.xm0 rfl (ja_cons je_str ja_nil)))) jss_nil)))
noncomputable abbrev N_is_guest : List Str := ["n", "thing"]
noncomputable abbrev P_is_guest : List Str := ["n", "thing"]
theorem sc_is_guest : FnScope N_is_guest P_is_guest (defScope (top 16)) := ⟨rfl, rfl, rfl, by decide +kernel, rfl, by decide +kernel, by decide +kernel⟩
noncomputable def d_is_guest : DS := (dRet (dAnd (dCall F_is_whole (dR (dVar 1) dR0)) (dChain gLe gLt (dC (.int 0)) (dVar 1) (dVar 0))))
noncomputable def F_is_guest : FD := runDef false [false, false] 0 d_is_guest
theorem D_is_guest (T : Tx K mg cls) : Dfn false P w K mg base (CXe P w) (xvC cls) 6 (Str.ofString "is_guest") [false, false] F_is_guest := by
    obtain ⟨f, fd, U, hm⟩ := T.u_is_guest
    refine ⟨f, fd, P_is_guest, ?_, hm, U.kp, U.binds (ps := P_is_guest) fun _ _ _ _ _ _ us hl => match us, hl with | [_, _], _ => rfl, runDef_ks⟩
    refine fn_pure (k := 5) false leavesE U sc_is_guest rfl rfl fun X C hX hpp hxv hnw hr hx hpo => ?_
    obtain ⟨cG, cH, cw, cpp, cσ, cex, cxv, cnw⟩ := C
    dsimp only at hpp hxv hnw
    subst hpp hxv hnw
    have hnw : (false : Bool) = false := rfl
    obtain ⟨cdv, A, outer, s, H, E, rfl⟩ := hX
    exact (jss_one (by exact (js_ret hnw (je_and (je_fn (D_is_whole T) hr (by omega) hx (jr_cons (je_var 1) jr_nil)) (je_one (je_chain op_le op2_cmp noEr_cmp op_lt op2_cmp noEr_cmp je_int (je_var 1) (je_var 0)))))))
noncomputable abbrev N_are_guests : List Str := ["n", "thing"]
noncomputable abbrev P_are_guests : List Str := ["n", "thing"]
theorem sc_are_guests : FnScope N_are_guests P_are_guests (defScope (top 17)) := ⟨rfl, rfl, rfl, by decide +kernel, rfl, by decide +kernel, by decide +kernel⟩
noncomputable abbrev N_nd_are_guests_0 : List Str := ["n", "thing", "part"]
theorem nd_are_guests_0 : N_nd_are_guests_0.Nodup := by decide +kernel
noncomputable def d_are_guests : DS := (dRet (dAnd (dIsi "tuple" (dVar 1)) (dFn gAll (dA (dFz (dComp (dIt (dVar 1)) (gSet 2) dTT (dCall F_is_guest (dR (dVar 0) (dR (dVar 2) dR0))) 1)) dA0))))
noncomputable def F_are_guests : FD := runDef false [false, false] 0 d_are_guests
theorem D_are_guests (T : Tx K mg cls) : Dfn false P w K mg base (CXe P w) (xvC cls) 9 (Str.ofString "are_guests") [false, false] F_are_guests := by
    obtain ⟨f, fd, U, hm⟩ := T.u_are_guests
    refine ⟨f, fd, P_are_guests, ?_, hm, U.kp, U.binds (ps := P_are_guests) fun _ _ _ _ _ _ us hl => match us, hl with | [_, _], _ => rfl, runDef_ks⟩
    refine fn_pure (k := 8) false leavesE U sc_are_guests rfl rfl fun X C hX hpp hxv hnw hr hx hpo => ?_
    obtain ⟨cG, cH, cw, cpp, cσ, cex, cxv, cnw⟩ := C
    dsimp only at hpp hxv hnw
    subst hpp hxv hnw
    have hnw : (false : Bool) = false := rfl
    obtain ⟨cdv, A, outer, s, H, E, rfl⟩ := hX
    exact (jss_one (by exact (js_ret hnw (je_and (je_isi isi_tuple rfl T.b_isinstance bt_isi rfl T.b_tuple bt_tuple (je_var 1)) (je_one (c_all rfl T.b_all (je_new (jn_comp (ji_seq (je_var 1)) rfl (N' := N_nd_are_guests_0) (m := 1) (by kernel_rfl) rfl (cellOk_of (by kernel_rfl)) (frOk_of (by kernel_rfl)) (nmOk_of (by kernel_rfl)) (fun cl L s H fp G H' w σ => ⟨(jg_name (i := 2) nd_are_guests_0 rfl (by first | exact Or.inl rfl | exact Or.inr rfl) (show 2 ∉ List.range 2 by decide)), jts_nil, (je_fn (D_is_guest T) hr (by omega) (psNo fun _ z => z) (jr_cons (je_var 0) (jr_cons (je_var 2) jr_nil)))⟩)))))))))
noncomputable abbrev N_rises : List Str := ["numbers"]
noncomputable abbrev P_rises : List Str := ["numbers"]
theorem sc_rises : FnScope N_rises P_rises (defScope (top 18)) := ⟨rfl, rfl, rfl, by decide +kernel, rfl, by decide +kernel, by decide +kernel⟩
noncomputable abbrev N_nd_rises_0 : List Str := ["numbers", "k"]
theorem nd_rises_0 : N_nd_rises_0.Nodup := by decide +kernel
noncomputable def d_rises : DS := (dRet (dFn gAll (dA (dFz (dComp (dRng1 (dOp gSub (dFn gLen (dA (dVar 0) dA0)) (dC (.int 1)))) (gSet 1) dTT (dOp gLt (dOp gIx (dVar 0) (dVar 1)) (dOp gIx (dVar 0) (dOp gAddI (dVar 1) (dC (.int 1))))) 1)) dA0)))
noncomputable def F_rises : FD := runDef false [false] 0 d_rises
theorem D_rises (T : Tx K mg cls) : Dfn false P w K mg base (CXe P w) (xvC cls) 3 (Str.ofString "rises") [false] F_rises := by
    obtain ⟨f, fd, U, hm⟩ := T.u_rises
    refine ⟨f, fd, P_rises, ?_, hm, U.kp, U.binds (ps := P_rises) fun _ _ _ _ _ _ us hl => match us, hl with | [_], _ => rfl, runDef_ks⟩
    refine fn_pure (k := 2) false leavesE U sc_rises rfl rfl fun X C hX hpp hxv hnw hr hx hpo => ?_
    obtain ⟨cG, cH, cw, cpp, cσ, cex, cxv, cnw⟩ := C
    dsimp only at hpp hxv hnw
    subst hpp hxv hnw
    have hnw : (false : Bool) = false := rfl
    obtain ⟨cdv, A, outer, s, H, E, rfl⟩ := hX
    exact (jss_one (by exact (js_ret hnw (c_all rfl T.b_all (je_new (jn_comp (ji_range1 rfl T.b_range (je_sub (c_len T.b_len (je_var 0)) je_int)) rfl (N' := N_nd_rises_0) (m := 1) (by kernel_rfl) rfl (cellOk_of (by kernel_rfl)) (frOk_of (by kernel_rfl)) (nmOk_of (by kernel_rfl)) (fun cl L s H fp G H' w σ => ⟨(jg_name (i := 1) nd_rises_0 rfl (by first | exact Or.inl rfl | exact Or.inr rfl) (show 1 ∉ List.range 1 by decide)), jts_nil, (je_lt (je_ix (je_var 0) (je_var 1)) (je_ix (je_var 0) (je_addI (je_var 1) je_int)))⟩)))))))
noncomputable abbrev N_is_party : List Str := ["n", "thing"]
noncomputable abbrev P_is_party : List Str := ["n", "thing"]
theorem sc_is_party : FnScope N_is_party P_is_party (defScope (top 19)) := ⟨rfl, rfl, rfl, by decide +kernel, rfl, by decide +kernel, by decide +kernel⟩
noncomputable def d_is_party : DS := (dSeq (dEx (dCall F_check_guests (dR (dVar 0) dR0))) (dRet (dAnd (dCall F_are_guests (dR (dVar 0) (dR (dVar 1) dR0))) (dAnd (dOp gGt (dFn gLen (dA (dVar 1) dA0)) (dC (.int 0))) (dCall F_rises (dR (dVar 1) dR0))))))
noncomputable def F_is_party : FD := runDef false [false, false] 0 d_is_party
theorem D_is_party (T : Tx K mg cls) : Dfn false P w K mg base (CXe P w) (xvC cls) 12 (Str.ofString "is_party") [false, false] F_is_party := by
    obtain ⟨f, fd, U, hm⟩ := T.u_is_party
    refine ⟨f, fd, P_is_party, ?_, hm, U.kp, U.binds (ps := P_is_party) fun _ _ _ _ _ _ us hl => match us, hl with | [_, _], _ => rfl, runDef_ks⟩
    refine fn_pure (k := 11) false leavesE U sc_is_party rfl rfl fun X C hX hpp hxv hnw hr hx hpo => ?_
    obtain ⟨cG, cH, cw, cpp, cσ, cex, cxv, cnw⟩ := C
    dsimp only at hpp hxv hnw
    subst hpp hxv hnw
    have hnw : (false : Bool) = false := rfl
    obtain ⟨cdv, A, outer, s, H, E, rfl⟩ := hX
    exact (jss_cons (by exact (js_expr (je_fn (D_check_guests T) hr (by omega) hx (jr_cons (je_var 0) jr_nil)))) (jss_one (by exact (js_ret hnw (je_and (je_fn (D_are_guests T) hr (by omega) hx (jr_cons (je_var 0) (jr_cons (je_var 1) jr_nil))) (je_and (je_gt (c_len T.b_len (je_var 1)) je_int) (je_one (je_fn (D_rises T) hr (by omega) hx (jr_cons (je_var 1) jr_nil)))))))))
noncomputable abbrev N_is_parties : List Str := ["n", "thing"]
noncomputable abbrev P_is_parties : List Str := ["n", "thing"]
theorem sc_is_parties : FnScope N_is_parties P_is_parties (defScope (top 20)) := ⟨rfl, rfl, rfl, by decide +kernel, rfl, by decide +kernel, by decide +kernel⟩
noncomputable abbrev N_nd_is_parties_0 : List Str := ["n", "thing", "part"]
theorem nd_is_parties_0 : N_nd_is_parties_0.Nodup := by decide +kernel
noncomputable def d_is_parties : DS := (dSeq (dEx (dCall F_check_guests (dR (dVar 0) dR0))) (dSeq (dIf (dTOr (dTNot (dTB (dIsi "list" (dVar 1)))) (dTB (dOp gGt (dFn gLen (dA (dVar 1) dA0)) (dC (.int 8))))) (dRet (dC (.bl false))) dNx) (dRet (dFn gAll (dA (dFz (dComp (dIt (dVar 1)) (gSet 2) dTT (dCall F_is_party (dR (dVar 0) (dR (dVar 2) dR0))) 1)) dA0)))))
noncomputable def F_is_parties : FD := runDef false [false, false] 0 d_is_parties
theorem D_is_parties (T : Tx K mg cls) : Dfn false P w K mg base (CXe P w) (xvC cls) 15 (Str.ofString "is_parties") [false, false] F_is_parties := by
    obtain ⟨f, fd, U, hm⟩ := T.u_is_parties
    refine ⟨f, fd, P_is_parties, ?_, hm, U.kp, U.binds (ps := P_is_parties) fun _ _ _ _ _ _ us hl => match us, hl with | [_, _], _ => rfl, runDef_ks⟩
    refine fn_pure (k := 14) false leavesE U sc_is_parties rfl rfl fun X C hX hpp hxv hnw hr hx hpo => ?_
    obtain ⟨cG, cH, cw, cpp, cσ, cex, cxv, cnw⟩ := C
    dsimp only at hpp hxv hnw
    subst hpp hxv hnw
    have hnw : (false : Bool) = false := rfl
    obtain ⟨cdv, A, outer, s, H, E, rfl⟩ := hX
    exact (jss_cons (by exact (js_expr (je_fn (D_check_guests T) hr (by omega) hx (jr_cons (je_var 0) jr_nil)))) (jss_cons (by exact (js_if (JW.jt (jw_or (jt_not (jt_val (je_isi isi_list rfl T.b_isinstance bt_isi rfl T.b_list bt_list (je_var 1)))) (jw_or1 (jt_gt (c_len T.b_len (je_var 1)) (je_glob rfl T.g_MOST_PARTIES.choose_spec))))) (jss_one (by exact (js_ret hnw je_bl))) jss_nil)) (jss_one (by exact (js_ret hnw (c_all rfl T.b_all (je_new (jn_comp (ji_seq (je_var 1)) rfl (N' := N_nd_is_parties_0) (m := 1) (by kernel_rfl) rfl (cellOk_of (by kernel_rfl)) (frOk_of (by kernel_rfl)) (nmOk_of (by kernel_rfl)) (fun cl L s H fp G H' w σ => ⟨(jg_name (i := 2) nd_is_parties_0 rfl (by first | exact Or.inl rfl | exact Or.inr rfl) (show 2 ∉ List.range 2 by decide)), jts_nil, (je_fn (D_is_party T) hr (by omega) (psNo fun _ z => z) (jr_cons (je_var 0) (jr_cons (je_var 2) jr_nil)))⟩)))))))))
noncomputable abbrev N_check_parties : List Str := ["n", "thing"]
noncomputable abbrev P_check_parties : List Str := ["n", "thing"]
theorem sc_check_parties : FnScope N_check_parties P_check_parties (defScope (top 15)) := ⟨rfl, rfl, rfl, by decide +kernel, rfl, by decide +kernel, by decide +kernel⟩
noncomputable def d_check_parties : DS := (dIf (dTNot (dTB (dCall F_is_parties (dR (dVar 0) (dR (dVar 1) dR0))))) (dRaise 1 (dA (dC (.str (Str.ofString "these are no parties of so many guests"))) dA0)) dNx)
noncomputable def F_check_parties : FD := runDef false [false, false] 0 d_check_parties
theorem D_check_parties (T : Tx K mg cls) : Dfn false P w K mg base (CXe P w) (xvC cls) 18 (Str.ofString "check_parties") [false, false] F_check_parties := by
    obtain ⟨f, fd, U, hm⟩ := T.u_check_parties
    refine ⟨f, fd, P_check_parties, ?_, hm, U.kp, U.binds (ps := P_check_parties) fun _ _ _ _ _ _ us hl => match us, hl with | [_, _], _ => rfl, runDef_ks⟩
    refine fn_pure (k := 17) false leavesE U sc_check_parties rfl rfl fun X C hX hpp hxv hnw hr hx hpo => ?_
    obtain ⟨cG, cH, cw, cpp, cσ, cex, cxv, cnw⟩ := C
    dsimp only at hpp hxv hnw
    subst hpp hxv hnw
    have hnw : (false : Bool) = false := rfl
    obtain ⟨cdv, A, outer, s, H, E, rfl⟩ := hX
    exact (jss_one (by exact (js_if (jt_not (jt_val (je_fn (D_is_parties T) hr (by omega) hx (jr_cons (je_var 0) (jr_cons (je_var 1) jr_nil))))) (jss_one (by exact (js_raise hx rfl (T.xc 1 (by decide)).cls T.xm1 rfl (ja_cons je_str ja_nil)))) jss_nil)))
noncomputable abbrev N_is_seating : List Str := ["n", "thing"]
noncomputable abbrev P_is_seating : List Str := ["n", "thing"]
theorem sc_is_seating : FnScope N_is_seating P_is_seating (defScope (top 21)) := ⟨rfl, rfl, rfl, by decide +kernel, rfl, by decide +kernel, by decide +kernel⟩
noncomputable def d_is_seating : DS := (dSeq (dEx (dCall F_check_guests (dR (dVar 0) dR0))) (dRet (dAnd (dCall F_are_guests (dR (dVar 0) (dR (dVar 1) dR0))) (dOp (gEq false) (dFz (dFnN gSortT (dA (dVar 1) dA0))) (dFz (dLRng (dVar 0)))))))
noncomputable def F_is_seating : FD := runDef false [false, false] 0 d_is_seating
theorem D_is_seating (T : Tx K mg cls) : Dfn false P w K mg base (CXe P w) (xvC cls) 12 (Str.ofString "is_seating") [false, false] F_is_seating := by
    obtain ⟨f, fd, U, hm⟩ := T.u_is_seating
    refine ⟨f, fd, P_is_seating, ?_, hm, U.kp, U.binds (ps := P_is_seating) fun _ _ _ _ _ _ us hl => match us, hl with | [_, _], _ => rfl, runDef_ks⟩
    refine fn_pure (k := 11) false leavesE U sc_is_seating rfl rfl fun X C hX hpp hxv hnw hr hx hpo => ?_
    obtain ⟨cG, cH, cw, cpp, cσ, cex, cxv, cnw⟩ := C
    dsimp only at hpp hxv hnw
    subst hpp hxv hnw
    have hnw : (false : Bool) = false := rfl
    obtain ⟨cdv, A, outer, s, H, E, rfl⟩ := hX
    exact (jss_cons (by exact (js_expr (je_fn (D_check_guests T) hr (by omega) hx (jr_cons (je_var 0) jr_nil)))) (jss_one (by exact (js_ret hnw (je_and (je_fn (D_are_guests T) hr (by omega) hx (jr_cons (je_var 0) (jr_cons (je_var 1) jr_nil))) (je_one (je_eq (hu64 hr) (je_new (jn_sortT rfl T.b_sorted (je_var 1))) (je_new (jn_lrng rfl rfl T.b_list rfl T.b_range (je_var 0))))))))))
noncomputable abbrev N_is_round : List Str := ["n", "thing"]
noncomputable abbrev P_is_round : List Str := ["n", "thing"]
theorem sc_is_round : FnScope N_is_round P_is_round (defScope (top 23)) := ⟨rfl, rfl, rfl, by decide +kernel, rfl, by decide +kernel, by decide +kernel⟩
noncomputable def d_is_round : DS := (dRet (dAnd (dCall F_is_seating (dR (dVar 0) (dR (dVar 1) dR0))) (dOp (gEq false) (dOp gIx (dVar 1) (dC (.int 0))) (dC (.int 0)))))
noncomputable def F_is_round : FD := runDef false [false, false] 0 d_is_round
theorem D_is_round (T : Tx K mg cls) : Dfn false P w K mg base (CXe P w) (xvC cls) 15 (Str.ofString "is_round") [false, false] F_is_round := by
    obtain ⟨f, fd, U, hm⟩ := T.u_is_round
    refine ⟨f, fd, P_is_round, ?_, hm, U.kp, U.binds (ps := P_is_round) fun _ _ _ _ _ _ us hl => match us, hl with | [_, _], _ => rfl, runDef_ks⟩
    refine fn_pure (k := 14) false leavesE U sc_is_round rfl rfl fun X C hX hpp hxv hnw hr hx hpo => ?_
    obtain ⟨cG, cH, cw, cpp, cσ, cex, cxv, cnw⟩ := C
    dsimp only at hpp hxv hnw
    subst hpp hxv hnw
    have hnw : (false : Bool) = false := rfl
    obtain ⟨cdv, A, outer, s, H, E, rfl⟩ := hX
    exact (jss_one (by exact (js_ret hnw (je_and (je_fn (D_is_seating T) hr (by omega) hx (jr_cons (je_var 0) (jr_cons (je_var 1) jr_nil))) (je_one (je_eq (hu64 hr) (je_ix (je_var 1) je_int) je_int))))))
noncomputable abbrev N_sits_round : List Str := ["n", "seating", "party", "ends"]
noncomputable abbrev P_sits_round : List Str := ["n", "seating", "party"]
theorem sc_sits_round : FnScope N_sits_round P_sits_round (defScope (top 24)) := ⟨rfl, rfl, rfl, by decide +kernel, rfl, by decide +kernel, by decide +kernel⟩
noncomputable abbrev N_nd_sits_round_0 : List Str := ["n", "seating", "party", "ends", "k"]
theorem nd_sits_round_0 : N_nd_sits_round_0.Nodup := by decide +kernel
noncomputable def d_sits_round : DS := (dSeq (dEx (dCall F_check_guests (dR (dVar 0) dR0))) (dSeq (dSet 3 (dFz (dComp (dRng1 (dVar 0)) (gSet 4) (dTAnd (dTB (dOp (gIn false) (dOp gIx (dVar 1) (dOp gSub (dVar 4) (dC (.int 1)))) (dVar 2))) (dTB (dOp (gIn true) (dOp gIx (dVar 1) (dVar 4)) (dVar 2)))) (dVar 4) 1))) (dRet (dOp gLe (dFn gLen (dA (dVar 3) dA0)) (dC (.int 1))))))
noncomputable def F_sits_round : FD := runDef false [false, false, false] 1 d_sits_round
theorem D_sits_round (T : Tx K mg cls) : Dfn false P w K mg base (CXe P w) (xvC cls) 9 (Str.ofString "sits_round") [false, false, false] F_sits_round := by
    obtain ⟨f, fd, U, hm⟩ := T.u_sits_round
    refine ⟨f, fd, P_sits_round, ?_, hm, U.kp, U.binds (ps := P_sits_round) fun _ _ _ _ _ _ us hl => match us, hl with | [_, _, _], _ => rfl, runDef_ks⟩
    refine fn_pure (k := 8) false leavesE U sc_sits_round rfl rfl fun X C hX hpp hxv hnw hr hx hpo => ?_
    obtain ⟨cG, cH, cw, cpp, cσ, cex, cxv, cnw⟩ := C
    dsimp only at hpp hxv hnw
    subst hpp hxv hnw
    have hnw : (false : Bool) = false := rfl
    obtain ⟨cdv, A, outer, s, H, E, rfl⟩ := hX
    exact (jss_cons (by exact (js_expr (je_fn (D_check_guests T) hr (by omega) hx (jr_cons (je_var 0) jr_nil)))) (jss_cons (by exact (js_setComp (i := 3) sc_sits_round.nd rfl (by first | exact Or.inl rfl | exact Or.inr rfl) (show 3 ∉ ownIx [false, false, false] by decide) (ji_range1 rfl T.b_range (je_var 0)) rfl (N' := N_nd_sits_round_0) (m := 1) (by kernel_rfl) rfl (cellOk_of (by kernel_rfl)) (frOk_of (by kernel_rfl)) (nmOk_of (by kernel_rfl)) (fun cl L s H fp G H' w σ => ⟨(jg_name (i := 4) nd_sits_round_0 rfl (by first | exact Or.inl rfl | exact Or.inr rfl) (show 4 ∉ List.range 4 by decide)), (jts_one (JW.jt (jw_and (jt_in (hu65 hr) (je_ix (je_var 1) (je_sub (je_var 4) je_int)) (je_var 2)) (jw_and1 (jt_notIn (hu65 hr) (je_ix (je_var 1) (je_var 4)) (je_var 2)))))), (je_var 4)⟩))) (jss_one (by exact (js_ret hnw (je_le (c_len T.b_len (je_var 3)) je_int))))))
noncomputable abbrev N_first_broken_round : List Str := ["n", "seating", "parties", "number", "party"]
noncomputable abbrev P_first_broken_round : List Str := ["n", "seating", "parties"]
theorem sc_first_broken_round : FnScope N_first_broken_round P_first_broken_round (defScope (top 25)) := ⟨rfl, rfl, rfl, by decide +kernel, rfl, by decide +kernel, by decide +kernel⟩
noncomputable def d_first_broken_round : DS := (dSeq (dEx (dCall F_check_parties (dR (dVar 0) (dR (dVar 2) dR0)))) (dSeq (dFor (dEnum (dVar 2)) (gSet2 3 4) (dIf (dTNot (dTB (dCall F_sits_round (dR (dVar 0) (dR (dVar 1) (dR (dVar 4) dR0)))))) (dRet (dVar 3)) dNx)) (dRet (dC .non))))
noncomputable def F_first_broken_round : FD := runDef false [false, false, false] 2 d_first_broken_round
theorem D_first_broken_round (T : Tx K mg cls) : Dfn false P w K mg base (CXe P w) (xvC cls) 21 (Str.ofString "first_broken_round") [false, false, false] F_first_broken_round := by
    obtain ⟨f, fd, U, hm⟩ := T.u_first_broken_round
    refine ⟨f, fd, P_first_broken_round, ?_, hm, U.kp, U.binds (ps := P_first_broken_round) fun _ _ _ _ _ _ us hl => match us, hl with | [_, _, _], _ => rfl, runDef_ks⟩
    refine fn_pure (k := 20) false leavesE U sc_first_broken_round rfl rfl fun X C hX hpp hxv hnw hr hx hpo => ?_
    obtain ⟨cG, cH, cw, cpp, cσ, cex, cxv, cnw⟩ := C
    dsimp only at hpp hxv hnw
    subst hpp hxv hnw
    have hnw : (false : Bool) = false := rfl
    obtain ⟨cdv, A, outer, s, H, E, rfl⟩ := hX
    exact (jss_cons (by exact (js_expr (je_fn (D_check_parties T) hr (by omega) hx (jr_cons (je_var 0) (jr_cons (je_var 2) jr_nil))))) (jss_cons (by exact (js_for hpo rfl (ji_enum rfl T.b_enumerate (je_var 2)) (jg_pair (i := 3) (j := 4) rfl sc_first_broken_round.nd rfl rfl (by first | exact Or.inl rfl | exact Or.inr rfl) (by first | exact Or.inl rfl | exact Or.inr rfl) (show 3 ∉ ownIx [false, false, false] by decide) (show 4 ∉ ownIx [false, false, false] by decide)) (jss_one (by exact (js_if (jt_not (jt_val (je_fn (D_sits_round T) hr (by omega) hx (jr_cons (je_var 0) (jr_cons (je_var 1) (jr_cons (je_var 4) jr_nil)))))) (jss_one (by exact (js_ret hnw (je_var 3)))) jss_nil))))) (jss_one (by exact (js_ret hnw je_non)))))
end
end Lw
end
section
set_option Elab.async false
set_option linter.all false
set_option maxRecDepth 100000
set_option maxHeartbeats 4000000
namespace Lw
open PySem PySem.Spec L2 PV
section
variable {P : Program} {w : World} {K : PySem.W.Frag} {mg : Str → Option Value} {base : Heap} {xv : Nat → Value} {cls : Nat → Addr}
noncomputable abbrev N__law_cell_at : List Str := ["script", "k"]
noncomputable abbrev P__law_cell_at : List Str := ["script", "k"]
theorem sc__law_cell_at : FnScope N__law_cell_at P__law_cell_at (defScope (top 31)) := ⟨rfl, rfl, rfl, by decide +kernel, rfl, by decide +kernel, by decide +kernel⟩
noncomputable def d__law_cell_at : DS := (dSeq (dIf (dTB (dOp gLt (dVar 1) (dFn gLen (dA (dVar 0) dA0)))) (dRet (dOp gIx (dVar 0) (dVar 1))) dNx) (dRet (dC (.int 0))))
noncomputable def F__law_cell_at : FD := runDef false [false, false] 0 d__law_cell_at
theorem D__law_cell_at (T : Tx K mg cls) : Dfn false P w K mg base (CXe P w) (xvC cls) 3 (Str.ofString "_law_cell_at") [false, false] F__law_cell_at := by
    obtain ⟨f, fd, U, hm⟩ := T.u__law_cell_at
    refine ⟨f, fd, P__law_cell_at, ?_, hm, U.kp, U.binds (ps := P__law_cell_at) fun _ _ _ _ _ _ us hl => match us, hl with | [_, _], _ => rfl, runDef_ks⟩
    refine fn_pure (k := 2) false leavesE U sc__law_cell_at rfl rfl fun X C hX hpp hxv hnw hr hx hpo => ?_
    obtain ⟨cG, cH, cw, cpp, cσ, cex, cxv, cnw⟩ := C
    dsimp only at hpp hxv hnw
    subst hpp hxv hnw
    have hnw : (false : Bool) = false := rfl
    obtain ⟨cdv, A, outer, s, H, E, rfl⟩ := hX
    exact (jss_cons (by exact (js_if (jt_lt (je_var 1) (c_len T.b_len (je_var 0))) (jss_one (by exact (js_ret hnw (je_ix (je_var 0) (je_var 1))))) jss_nil)) (jss_one (by exact (js_ret hnw je_int))))
noncomputable abbrev N__law_state : List Str := ["script", "k", "cell"]
noncomputable abbrev P__law_state : List Str := ["script", "k"]
theorem sc__law_state : FnScope N__law_state P__law_state (defScope (top 32)) := ⟨rfl, rfl, rfl, by decide +kernel, rfl, by decide +kernel, by decide +kernel⟩
noncomputable def d__law_state : DS := (dSeq (dSet 2 (dCall F__law_cell_at (dR (dVar 0) (dR (dVar 1) dR0)))) (dSeq (dIf (dTB (dOp gGe (dVar 2) (dOp gPow (dC (.int 10)) (dC (.int 18))))) (dRetL (dLst (dA (dOp gSub (dVar 2) (dOp gPow (dC (.int 10)) (dC (.int 18)))) (dA (dC (.bl true)) dA0)))) dNx) (dRetL (dLst (dA (dOp gMod (dVar 2) (dC (.int 2147483647))) (dA (dC (.bl false)) dA0))))))
noncomputable def F__law_state : FD := runDef true [false, false] 1 d__law_state
theorem D__law_state (T : Tx K mg cls) : Dfn true P w K mg base (CXe P w) (xvC cls) 6 (Str.ofString "_law_state") [false, false] F__law_state := by
    obtain ⟨f, fd, U, hm⟩ := T.u__law_state
    refine ⟨f, fd, P__law_state, ?_, hm, U.kp, U.binds (ps := P__law_state) fun _ _ _ _ _ _ us hl => match us, hl with | [_, _], _ => rfl, runDef_ks⟩
    refine fn_pure (k := 5) true leavesE U sc__law_state rfl rfl fun X C hX hpp hxv hnw hr hx hpo => ?_
    obtain ⟨cG, cH, cw, cpp, cσ, cex, cxv, cnw⟩ := C
    dsimp only at hpp hxv hnw
    subst hpp hxv hnw
    have hnw : (true : Bool) = true := rfl
    obtain ⟨cdv, A, outer, s, H, E, rfl⟩ := hX
    exact (jss_cons (by exact (js_set (i := 2) sc__law_state.nd rfl (by first | exact Or.inl rfl | exact Or.inr rfl) (show 2 ∉ ownIx [false, false] by decide) (je_fn (D__law_cell_at T) hr (by omega) hx (jr_cons (je_var 0) (jr_cons (je_var 1) jr_nil))))) (jss_cons (by exact (js_if (jt_ge (je_var 2) (je_pow je_int je_int)) (jss_one (by exact (js_retL hnw (jn_lst (ja_cons (je_sub (je_var 2) (je_pow je_int je_int)) (ja_cons je_bl ja_nil)))))) jss_nil)) (jss_one (by exact (js_retL hnw (jn_lst (ja_cons (je_mod (je_var 2) je_int) (ja_cons je_bl ja_nil))))))))
noncomputable abbrev N__law_take : List Str := ["state", "many", "found", "stirred"]
noncomputable abbrev P__law_take : List Str := ["state", "many"]
theorem sc__law_take : FnScope N__law_take P__law_take (defScope (top 27)) := ⟨rfl, rfl, rfl, by decide +kernel, rfl, by decide +kernel, by decide +kernel⟩
noncomputable def d__law_take : DS := (dSeq (dIf (dTB (dIxO 0 (dC (.int 1)))) (dSeq (dSet 2 (dOp gMod (dIxO 0 (dC (.int 0))) (dVar 1))) (dSeq (dPutO 0 (dOp gDiv (dIxO 0 (dC (.int 0))) (dVar 1)) (dC (.int 0))) (dRet (dVar 2)))) dNx) (dSeq (dPutO 0 (dOp gMod (dOp gAddI (dOp gMul (dIxO 0 (dC (.int 0))) (dC (.int 48271))) (dC (.int 29))) (dC (.int 2147483647))) (dC (.int 0))) (dSeq (dSet 3 (dOp gMod (dOp gAddI (dOp gAddI (dOp gMul (dIxO 0 (dC (.int 0))) (dIxO 0 (dC (.int 0)))) (dOp gMul (dC (.int 39373)) (dIxO 0 (dC (.int 0))))) (dC (.int 7))) (dC (.int 2147483629)))) (dSeq (dSet 3 (dOp gMod (dOp gAddI (dOp gMul (dVar 3) (dVar 3)) (dOp gMul (dC (.int 16807)) (dVar 3))) (dC (.int 2147483587)))) (dRet (dOp gMod (dOp gDiv (dVar 3) (dC (.int 8))) (dVar 1)))))))
noncomputable def F__law_take : FD := runDef false [true, false] 2 d__law_take
theorem D__law_take (T : Tx K mg cls) : Dfn false P w K mg base (CXe P w) (xvC cls) 3 (Str.ofString "_law_take") [true, false] F__law_take := by
    obtain ⟨f, fd, U, hm⟩ := T.u__law_take
    refine ⟨f, fd, P__law_take, ?_, hm, U.kp, U.binds (ps := P__law_take) fun _ _ _ _ _ _ us hl => match us, hl with | [_, _], _ => rfl, runDef_ks⟩
    refine fn_pure (k := 2) false leavesE U sc__law_take rfl rfl fun X C hX hpp hxv hnw hr hx hpo => ?_
    obtain ⟨cG, cH, cw, cpp, cσ, cex, cxv, cnw⟩ := C
    dsimp only at hpp hxv hnw
    subst hpp hxv hnw
    have hnw : (false : Bool) = false := rfl
    obtain ⟨cdv, A, outer, s, H, E, rfl⟩ := hX
    exact (jss_cons (by exact (js_if (jt_val (je_ixO 0 (hb := je_int))) (jss_cons (by exact (js_set (i := 2) sc__law_take.nd rfl (by first | exact Or.inl rfl | exact Or.inr rfl) (show 2 ∉ ownIx [true, false] by decide) (je_mod (je_ixO 0 (hb := je_int)) (je_var 1)))) (jss_cons (by exact (js_putO 0 (je_div (je_ixO 0 (hb := je_int)) (je_var 1)) je_int)) (jss_one (by exact (js_ret hnw (je_var 2)))))) jss_nil)) (jss_cons (by exact (js_putO 0 (je_mod (je_addI (je_mul (je_ixO 0 (hb := je_int)) je_int) je_int) je_int) je_int)) (jss_cons (by exact (js_set (i := 3) sc__law_take.nd rfl (by first | exact Or.inl rfl | exact Or.inr rfl) (show 3 ∉ ownIx [true, false] by decide) (je_mod (je_addI (je_addI (je_mul (je_ixO 0 (hb := je_int)) (je_ixO 0 (hb := je_int))) (je_mul je_int (je_ixO 0 (hb := je_int)))) je_int) je_int))) (jss_cons (by exact (js_set (i := 3) sc__law_take.nd rfl (by first | exact Or.inl rfl | exact Or.inr rfl) (show 3 ∉ ownIx [true, false] by decide) (je_mod (je_addI (je_mul (je_var 3) (je_var 3)) (je_mul je_int (je_var 3))) je_int))) (jss_one (by exact (js_ret hnw (je_mod (je_div (je_var 3) je_int) (je_var 1)))))))))
noncomputable abbrev N__law_whole : List Str := ["thing"]
noncomputable abbrev P__law_whole : List Str := ["thing"]
theorem sc__law_whole : FnScope N__law_whole P__law_whole (defScope (top 28)) := ⟨rfl, rfl, rfl, by decide +kernel, rfl, by decide +kernel, by decide +kernel⟩
noncomputable def d__law_whole : DS := (dRet (dAnd (dIsi "int" (dVar 0)) (dNot (dIsi "bool" (dVar 0)))))
noncomputable def F__law_whole : FD := runDef false [false] 0 d__law_whole
theorem D__law_whole (T : Tx K mg cls) : Dfn false P w K mg base (CXe P w) (xvC cls) 3 (Str.ofString "_law_whole") [false] F__law_whole := by
    obtain ⟨f, fd, U, hm⟩ := T.u__law_whole
    refine ⟨f, fd, P__law_whole, ?_, hm, U.kp, U.binds (ps := P__law_whole) fun _ _ _ _ _ _ us hl => match us, hl with | [_], _ => rfl, runDef_ks⟩
    refine fn_pure (k := 2) false leavesE U sc__law_whole rfl rfl fun X C hX hpp hxv hnw hr hx hpo => ?_
    obtain ⟨cG, cH, cw, cpp, cσ, cex, cxv, cnw⟩ := C
    dsimp only at hpp hxv hnw
    subst hpp hxv hnw
    have hnw : (false : Bool) = false := rfl
    obtain ⟨cdv, A, outer, s, H, E, rfl⟩ := hX
    exact (jss_one (by exact (js_ret hnw (je_and (je_isi isi_int rfl T.b_isinstance bt_isi rfl T.b_int bt_int (je_var 0)) (je_one (je_not (je_isi isi_bool rfl T.b_isinstance bt_isi rfl T.b_bool bt_bool (je_var 0))))))))
noncomputable abbrev N__law_is_guest : List Str := ["n", "thing"]
noncomputable abbrev P__law_is_guest : List Str := ["n", "thing"]
theorem sc__law_is_guest : FnScope N__law_is_guest P__law_is_guest (defScope (top 29)) := ⟨rfl, rfl, rfl, by decide +kernel, rfl, by decide +kernel, by decide +kernel⟩
noncomputable def d__law_is_guest : DS := (dRet (dAnd (dCall F__law_whole (dR (dVar 1) dR0)) (dChain gLe gLt (dC (.int 0)) (dVar 1) (dVar 0))))
noncomputable def F__law_is_guest : FD := runDef false [false, false] 0 d__law_is_guest
theorem D__law_is_guest (T : Tx K mg cls) : Dfn false P w K mg base (CXe P w) (xvC cls) 6 (Str.ofString "_law_is_guest") [false, false] F__law_is_guest := by
    obtain ⟨f, fd, U, hm⟩ := T.u__law_is_guest
    refine ⟨f, fd, P__law_is_guest, ?_, hm, U.kp, U.binds (ps := P__law_is_guest) fun _ _ _ _ _ _ us hl => match us, hl with | [_, _], _ => rfl, runDef_ks⟩
    refine fn_pure (k := 5) false leavesE U sc__law_is_guest rfl rfl fun X C hX hpp hxv hnw hr hx hpo => ?_
    obtain ⟨cG, cH, cw, cpp, cσ, cex, cxv, cnw⟩ := C
    dsimp only at hpp hxv hnw
    subst hpp hxv hnw
    have hnw : (false : Bool) = false := rfl
    obtain ⟨cdv, A, outer, s, H, E, rfl⟩ := hX
    exact (jss_one (by exact (js_ret hnw (je_and (je_fn (D__law_whole T) hr (by omega) hx (jr_cons (je_var 1) jr_nil)) (je_one (je_chain op_le op2_cmp noEr_cmp op_lt op2_cmp noEr_cmp je_int (je_var 1) (je_var 0)))))))
noncomputable abbrev N__law_refused : List Str := ["call", "error", "e", "kinds"]
theorem sc__law_refused : FnScope N__law_refused ["call"] (defScope (top 30)) := ⟨rfl, rfl, rfl, by decide +kernel, rfl, by decide +kernel, by decide +kernel⟩
noncomputable abbrev N_nd__law_refused_0 : List Str := ["call", "error", "e", "kinds", "k"]
theorem nd__law_refused_0 : N_nd__law_refused_0.Nodup := by decide +kernel
noncomputable def d__law_refused (n : Nat) (Cc : Addr) : DS := (dSeq (dSet 1 (dC .non)) (dSeq (dTry 0 1 2 Cc) (dSeq (dSet 3 (dFz (dLst (dA (dXis 1 Cc (n == 0)) (dA (dXis 1 Cc (n == 1)) (dA (dXis 1 Cc (n == 2)) dA0)))))) (dSeq (dSet 3 (dFz (dCat (dVar 3) (dFz (dLst (dA (dXis 1 Cc (n == 3)) (dA (dXis 1 Cc (n == 4)) (dA (dXis 1 Cc (n == 5)) dA0)))))))) (dSeq (dSet 3 (dFz (dCat (dVar 3) (dFz (dLst (dA (dXis 1 Cc (n == 6)) (dA (dXis 1 Cc (n == 7)) dA0))))))) (dSeq (dIf (dTNot (dTB (dXis 1 Cc true))) dNo dNx) (dRetL (dComp (dRng1 (dC (.int 8))) (gSet 4) (dTB (dOp gIx (dVar 3) (dVar 4))) (dVar 4) 1))))))))
theorem B__law_refused (T : Tx K mg cls) {C : Cn} {k : Nat} {f : Addr} (XR : Cx) (CR : Cn) (n : Nat) (Fa : Addr) (hn : n < 8) (hX : ∃ cdv A outer s H E, XR = cxOf (CXe P w) P w K mg base N__law_refused (Str.ofString "_law_refused") (defScope (top 30)) f cdv A outer s H E) (hC : ∃ G H, CR = refCn C G H (L2.start N__law_refused [.ref Fa])) (hr : Room (k + 1) XR.A)
    (hF : ∀ pins σ H s, L2.Inv XR pins σ H s → Same CR.H₀ H → codeAny (model XR.prog XR.w) XR.A (.call (.ref Fa) ⟨[], []⟩) (fun r s' => ∃ e, r = .error e ∧ CXf XR.prog XR.w XR.stack H s (EL (cls n) H) e s') s)
    (hFn : ∀ pins σ H s, L2.Inv XR pins σ H s → Same CR.H₀ H → PySem.W.FnAt Fa s.heap) : JSs XR CR (defBody (top 30)) (d__law_refused n (cls n)) := by
    obtain ⟨cdv, A, outer, s, H, E, rfl⟩ := hX
    obtain ⟨G, H', rfl⟩ := hC
    obtain ⟨Cs, xs, hmS, hsub⟩ := T.xS
    have hnw : (refCn C G H' (L2.start N__law_refused [.ref Fa])).nw = true := rfl
    exact (jss_cons (by exact (js_set (i := 1) sc__law_refused.nd rfl (by first | exact Or.inl rfl | exact Or.inr rfl) (show 1 ∉ ([0] : List Nat) by decide) je_non)) (jss_cons (by exact (js_tryRef rfl sc__law_refused.nd rfl rfl rfl rfl rfl hF hFn xs (hsub n hn) hmS rfl rfl rfl rfl (by decide) (by decide) (by decide) rfl rfl rfl)) (jss_cons (by exact (js_set (i := 3) sc__law_refused.nd rfl (by first | exact Or.inl rfl | exact Or.inr rfl) (show 3 ∉ ([0] : List Nat) by decide) (je_new (jn_lst (ja_cons (je_xis 1 (T.xc n hn) (T.xi n 0 hn (by decide)) rfl T.b_isinstance rfl T.xm0) (ja_cons (je_xis 1 (T.xc n hn) (T.xi n 1 hn (by decide)) rfl T.b_isinstance rfl T.xm1) (ja_cons (je_xis 1 (T.xc n hn) (T.xi n 2 hn (by decide)) rfl T.b_isinstance rfl T.xm2) ja_nil))))))) (jss_cons (by exact (js_set (i := 3) sc__law_refused.nd rfl (by first | exact Or.inl rfl | exact Or.inr rfl) (show 3 ∉ ([0] : List Nat) by decide) (je_new (by refine jn_cat (je_var 3) ?_; exact (je_new (jn_lst (ja_cons (je_xis 1 (T.xc n hn) (T.xi n 3 hn (by decide)) rfl T.b_isinstance rfl T.xm3) (ja_cons (je_xis 1 (T.xc n hn) (T.xi n 4 hn (by decide)) rfl T.b_isinstance rfl T.xm4) (ja_cons (je_xis 1 (T.xc n hn) (T.xi n 5 hn (by decide)) rfl T.b_isinstance rfl T.xm5) ja_nil))))))))) (jss_cons (by exact (js_set (i := 3) sc__law_refused.nd rfl (by first | exact Or.inl rfl | exact Or.inr rfl) (show 3 ∉ ([0] : List Nat) by decide) (je_new (by refine jn_cat (je_var 3) ?_; exact (je_new (jn_lst (ja_cons (je_xis 1 (T.xc n hn) (T.xi n 6 hn (by decide)) rfl T.b_isinstance rfl T.xm6) (ja_cons (je_xis 1 (T.xc n hn) (T.xi n 7 hn (by decide)) rfl T.b_isinstance rfl T.xm7) ja_nil)))))))) (jss_cons (by exact (js_if (jt_not (jt_val (je_xisT 1 (T.xc n hn) (T.xV n hn) rfl T.b_isinstance rfl T.b_ValueError rfl))) (jss_one js_never) jss_nil)) (jss_one (by exact (js_retL hnw (jn_comp (ji_range1 rfl T.b_range je_int) rfl (N' := N_nd__law_refused_0) (m := 1) (by kernel_rfl) rfl (cellOk_of (by kernel_rfl)) (frOk_of (by kernel_rfl)) (nmOk_of (by kernel_rfl)) (fun cl L s H fp G H' w σ => ⟨(jg_name (i := 4) nd__law_refused_0 rfl (by first | exact Or.inl rfl | exact Or.inr rfl) (show 4 ∉ List.range 4 by decide)), (jts_one (jt_val (je_ix (je_var 3) (je_var 4)))), (je_var 4)⟩)))))))))))
theorem den__law_refused : ∀ (n : Nat) (Cc : Addr), n < 8 → ∃ ρ, d__law_refused n Cc (some .opq :: List.replicate 3 none) = .ok (.rt (.lst [.int n]), ρ) := by
  intro n Cc h
  match n, h with
  | 0, _ => exact ⟨_, by simp [d__law_refused, dSeq, dTry, dXis, dSet, dSetN, dFz, dLst, dA, dA0, dC, dCat, dVar, dUse, dIf, dTNot, dTB, dNx, dNo, dRetL, dComp, compD, dRng1, rangeD, gSet, dOp, gIx, ixN, fits, R.bind]; try rfl⟩
  | 1, _ => exact ⟨_, by simp [d__law_refused, dSeq, dTry, dXis, dSet, dSetN, dFz, dLst, dA, dA0, dC, dCat, dVar, dUse, dIf, dTNot, dTB, dNx, dNo, dRetL, dComp, compD, dRng1, rangeD, gSet, dOp, gIx, ixN, fits, R.bind]; try rfl⟩
  | 2, _ => exact ⟨_, by simp [d__law_refused, dSeq, dTry, dXis, dSet, dSetN, dFz, dLst, dA, dA0, dC, dCat, dVar, dUse, dIf, dTNot, dTB, dNx, dNo, dRetL, dComp, compD, dRng1, rangeD, gSet, dOp, gIx, ixN, fits, R.bind]; try rfl⟩
  | 3, _ => exact ⟨_, by simp [d__law_refused, dSeq, dTry, dXis, dSet, dSetN, dFz, dLst, dA, dA0, dC, dCat, dVar, dUse, dIf, dTNot, dTB, dNx, dNo, dRetL, dComp, compD, dRng1, rangeD, gSet, dOp, gIx, ixN, fits, R.bind]; try rfl⟩
  | 4, _ => exact ⟨_, by simp [d__law_refused, dSeq, dTry, dXis, dSet, dSetN, dFz, dLst, dA, dA0, dC, dCat, dVar, dUse, dIf, dTNot, dTB, dNx, dNo, dRetL, dComp, compD, dRng1, rangeD, gSet, dOp, gIx, ixN, fits, R.bind]; try rfl⟩
  | 5, _ => exact ⟨_, by simp [d__law_refused, dSeq, dTry, dXis, dSet, dSetN, dFz, dLst, dA, dA0, dC, dCat, dVar, dUse, dIf, dTNot, dTB, dNx, dNo, dRetL, dComp, compD, dRng1, rangeD, gSet, dOp, gIx, ixN, fits, R.bind]; try rfl⟩
  | 6, _ => exact ⟨_, by simp [d__law_refused, dSeq, dTry, dXis, dSet, dSetN, dFz, dLst, dA, dA0, dC, dCat, dVar, dUse, dIf, dTNot, dTB, dNx, dNo, dRetL, dComp, compD, dRng1, rangeD, gSet, dOp, gIx, ixN, fits, R.bind]; try rfl⟩
  | 7, _ => exact ⟨_, by simp [d__law_refused, dSeq, dTry, dXis, dSet, dSetN, dFz, dLst, dA, dA0, dC, dCat, dVar, dUse, dIf, dTNot, dTB, dNx, dNo, dRetL, dComp, compD, dRng1, rangeD, gSet, dOp, gIx, ixN, fits, R.bind]; try rfl⟩
noncomputable abbrev N__law_order : List Str := ["state", "n", "left", "found"]
noncomputable abbrev P__law_order : List Str := ["state", "n"]
theorem sc__law_order : FnScope N__law_order P__law_order (defScope (top 33)) := ⟨rfl, rfl, rfl, by decide +kernel, rfl, by decide +kernel, by decide +kernel⟩
noncomputable def d__law_order : DS := (dSeq (dSetN 2 (dLRng (dVar 1))) (dSeq (dSetN 3 (dLst dA0)) (dSeq (whileD (dTB (dEqO true 2 (dFz (dLst dA0)))) (dEx (dAppO 3 (dPopAt 2 (dCall F__law_take (dRO 0 (dR (dLenO 2) dR0)))))) 10) (dRet (dFn gTuple (dA (dUse 3) dA0))))))
noncomputable def F__law_order : FD := runDef false [true, false] 2 d__law_order
theorem D__law_order (T : Tx K mg cls) : Dfn false P w K mg base (CXe P w) (xvC cls) 6 (Str.ofString "_law_order") [true, false] F__law_order := by
    obtain ⟨f, fd, U, hm⟩ := T.u__law_order
    refine ⟨f, fd, P__law_order, ?_, hm, U.kp, U.binds (ps := P__law_order) fun _ _ _ _ _ _ us hl => match us, hl with | [_, _], _ => rfl, runDef_ks⟩
    refine fn_pure (k := 5) false leavesE U sc__law_order rfl rfl fun X C hX hpp hxv hnw hr hx hpo => ?_
    obtain ⟨cG, cH, cw, cpp, cσ, cex, cxv, cnw⟩ := C
    dsimp only at hpp hxv hnw
    subst hpp hxv hnw
    have hnw : (false : Bool) = false := rfl
    obtain ⟨cdv, A, outer, s, H, E, rfl⟩ := hX
    exact (jss_cons (by exact (js_setN (i := 2) sc__law_order.nd rfl (by first | exact Or.inl rfl | exact Or.inr rfl) (show 2 ∉ ownIx [true, false] by decide) (jn_lrng rfl rfl T.b_list rfl T.b_range (je_var 1)))) (jss_cons (by exact (js_setN (i := 3) sc__law_order.nd rfl (by first | exact Or.inl rfl | exact Or.inr rfl) (show 3 ∉ ownIx [true, false] by decide) (jn_lst ja_nil))) (jss_cons (by exact (js_while 10 hpo (jt_neO 2 (hu64 hr) (je_new (jn_lst ja_nil))) (jss_one (by exact (js_expr (je_appO 3 (je_popAt 2 (je_fn (D__law_take T) hr (by omega) hx (jr_own 0 (jr_cons (je_lenO 2 rfl T.b_len) jr_nil)))))))))) (jss_one (by exact (js_ret hnw (c_tuple T.b_tuple (je_use 3))))))))
end
end Lw
end
section
set_option Elab.async false
set_option linter.all false
set_option maxRecDepth 100000
set_option maxHeartbeats 4000000
namespace Lw
open PySem PySem.Spec L2 PV
section
variable {P : Program} {w : World} {K : PySem.W.Frag} {mg : Str → Option Value} {base : Heap} {xv : Nat → Value} {cls : Nat → Addr}
noncomputable abbrev N__law_parties : List Str := ["state", "n", "most", "row", "way", "found", "turn", "low", "party"]
noncomputable abbrev P__law_parties : List Str := ["state", "n", "most"]
theorem sc__law_parties : FnScope N__law_parties P__law_parties (defScope (top 34)) := ⟨rfl, rfl, rfl, by decide +kernel, rfl, by decide +kernel, by decide +kernel⟩
noncomputable abbrev N_nd__law_parties_0 : List Str := ["state", "n", "most", "row", "way", "found", "turn", "low", "party", "guest"]
theorem nd__law_parties_0 : N_nd__law_parties_0.Nodup := by decide +kernel
noncomputable def d__law_parties : DS := (dSeq (dSet 3 (dCall F__law_order (dRO 0 (dR (dVar 1) dR0)))) (dSeq (dSet 4 (dCall F__law_take (dRO 0 (dR (dC (.int 4)) dR0)))) (dSeq (dSetN 5 (dLst dA0)) (dSeq (dFor (dRng1 (dCall F__law_take (dRO 0 (dR (dOp gAddI (dVar 2) (dC (.int 1))) dR0)))) (gSet 6) (dSeq (dSet 7 (dCall F__law_take (dRO 0 (dR (dVar 1) dR0)))) (dSeq (dSet 8 (dFz (dFnN gSortT (dA (dCutW (dVar 3) (dO1 (dVar 7)) (dO1 (dOp gAddI (dOp gAddI (dVar 7) (dC (.int 1))) (dCall F__law_take (dRO 0 (dR (dOp gSub (dVar 1) (dVar 7)) dR0)))))) dA0)))) (dSeq (dIf (dTAnd (dTB (dOp gGt (dVar 4) (dC (.int 1)))) (dTB (dOp gLt (dCall F__law_take (dRO 0 (dR (dC (.int 3)) dR0))) (dOp gSub (dVar 4) (dC (.int 1)))))) (dSet 8 (dOrL (dFz (dComp (dRng1 (dVar 1)) (gSet 9) (dTB (dOp (gEq false) (dCall F__law_take (dRO 0 (dR (dC (.int 2)) dR0))) (dC (.int 1)))) (dVar 9) 1)) (dVar 8))) dNx) (dEx (dAppO 5 (dFn gTuple (dA (dVar 8) dA0)))))))) (dRet (dUse 5))))))
noncomputable def F__law_parties : FD := runDef false [true, false, false] 6 d__law_parties
theorem D__law_parties (T : Tx K mg cls) : Dfn false P w K mg base (CXe P w) (xvC cls) 9 (Str.ofString "_law_parties") [true, false, false] F__law_parties := by
    obtain ⟨f, fd, U, hm⟩ := T.u__law_parties
    refine ⟨f, fd, P__law_parties, ?_, hm, U.kp, U.binds (ps := P__law_parties) fun _ _ _ _ _ _ us hl => match us, hl with | [_, _, _], _ => rfl, runDef_ks⟩
    refine fn_pure (k := 8) false leavesE U sc__law_parties rfl rfl fun X C hX hpp hxv hnw hr hx hpo => ?_
    obtain ⟨cG, cH, cw, cpp, cσ, cex, cxv, cnw⟩ := C
    dsimp only at hpp hxv hnw
    subst hpp hxv hnw
    have hnw : (false : Bool) = false := rfl
    obtain ⟨cdv, A, outer, s, H, E, rfl⟩ := hX
    exact (jss_cons (by exact (js_set (i := 3) sc__law_parties.nd rfl (by first | exact Or.inl rfl | exact Or.inr rfl) (show 3 ∉ ownIx [true, false, false] by decide) (je_fn (D__law_order T) hr (by omega) hx (jr_own 0 (jr_cons (je_var 1) jr_nil))))) (jss_cons (by exact (js_set (i := 4) sc__law_parties.nd rfl (by first | exact Or.inl rfl | exact Or.inr rfl) (show 4 ∉ ownIx [true, false, false] by decide) (je_fn (D__law_take T) hr (by omega) hx (jr_own 0 (jr_cons je_int jr_nil))))) (jss_cons (by exact (js_setN (i := 5) sc__law_parties.nd rfl (by first | exact Or.inl rfl | exact Or.inr rfl) (show 5 ∉ ownIx [true, false, false] by decide) (jn_lst ja_nil))) (jss_cons (by exact (js_for hpo rfl (ji_range1 rfl T.b_range (je_fn (D__law_take T) hr (by omega) hx (jr_own 0 (jr_cons (je_addI (je_var 2) je_int) jr_nil)))) (jg_name (i := 6) sc__law_parties.nd rfl (by first | exact Or.inl rfl | exact Or.inr rfl) (show 6 ∉ ownIx [true, false, false] by decide)) (jss_cons (by exact (js_set (i := 7) sc__law_parties.nd rfl (by first | exact Or.inl rfl | exact Or.inr rfl) (show 7 ∉ ownIx [true, false, false] by decide) (je_fn (D__law_take T) hr (by omega) hx (jr_own 0 (jr_cons (je_var 1) jr_nil))))) (jss_cons (by exact (js_set (i := 8) sc__law_parties.nd rfl (by first | exact Or.inl rfl | exact Or.inr rfl) (show 8 ∉ ownIx [true, false, false] by decide) (je_new (jn_sortT rfl T.b_sorted (je_cutW (je_var 3) (jo_some (je_var 7)) (jo_some (je_addI (je_addI (je_var 7) je_int) (je_fn (D__law_take T) hr (by omega) hx (jr_own 0 (jr_cons (je_sub (je_var 1) (je_var 7)) jr_nil)))))))))) (jss_cons (by exact (js_if (JW.jt (jw_and (jt_gt (je_var 4) je_int) (jw_and1 (jt_lt (je_fn (D__law_take T) hr (by omega) hx (jr_own 0 (jr_cons je_int jr_nil))) (je_sub (je_var 4) je_int))))) (jss_one (by exact (js_set (i := 8) sc__law_parties.nd rfl (by first | exact Or.inl rfl | exact Or.inr rfl) (show 8 ∉ ownIx [true, false, false] by decide) (je_orL (je_new (jn_comp (ji_range1 rfl T.b_range (je_var 1)) rfl (N' := N_nd__law_parties_0) (m := 1) (by kernel_rfl) rfl (cellOk_of (by kernel_rfl)) (frOk_of (by kernel_rfl)) (nmOk_of (by kernel_rfl)) (fun cl L s H fp G H' w σ => ⟨(jg_name (i := 9) nd__law_parties_0 rfl (by first | exact Or.inl rfl | exact Or.inr rfl) (show 9 ∉ List.range 9 by decide)), (jts_one (jt_eq (hu64 hr) (je_fn (D__law_take T) hr (by omega) (psNo fun _ z => z) (jr_own 0 (jr_cons je_int jr_nil))) je_int)), (je_var 9)⟩))) (je_one (je_var 8)))))) jss_nil)) (jss_one (by exact (js_expr (je_appO 5 (c_tuple T.b_tuple (je_var 8))))))))))) (jss_one (by exact (js_ret hnw (je_use 5))))))))
noncomputable abbrev N__law_same : List Str := ["found", "due"]
noncomputable abbrev P__law_same : List Str := ["found", "due"]
theorem sc__law_same : FnScope N__law_same P__law_same (defScope (top 35)) := ⟨rfl, rfl, rfl, by decide +kernel, rfl, by decide +kernel, by decide +kernel⟩
noncomputable abbrev N_nd__law_same_0 : List Str := ["found", "due", "one", "other"]
theorem nd__law_same_0 : N_nd__law_same_0.Nodup := by decide +kernel
noncomputable def d__law_same (F_self : FD) : DS := (dSeq (dIf (dTB (dIsi2 "tuple" "list" (dVar 1))) (dSeq (dIf (dTOr (dTB (dOp (gEq true) (dIsi "tuple" (dVar 0)) (dIsi "tuple" (dVar 1)))) (dTB (dOp (gEq true) (dIsi "list" (dVar 0)) (dIsi "list" (dVar 1))))) (dRet (dC (.bl false))) dNx) (dSeq (dIf (dTB (dOp (gEq true) (dFn gLen (dA (dVar 0) dA0)) (dFn gLen (dA (dVar 1) dA0)))) (dRet (dC (.bl false))) dNx) (dRet (dFn gAll (dA (dFz (dComp (dZipA (dVar 0) (dVar 1)) (gSet2 2 3) dTT (dCall F_self (dR (dVar 2) (dR (dVar 3) dR0))) 2)) dA0))))) dNx) (dRet (dAnd (dOp (gEq false) (dVar 0) (dVar 1)) (dOp (gEq false) (dIsi "bool" (dVar 0)) (dIsi "bool" (dVar 1))))))
noncomputable def F__law_same : Nat → FD
  | 0 => fun _ => .no
  | n + 1 => runDef false [false, false] 0 (d__law_same (F__law_same n))
theorem D__law_same (T : Tx K mg cls) : ∀ n, Dfn false P w K mg base (CXe P w) (xvC cls) (n + 2) (Str.ofString "_law_same") [false, false] (F__law_same n)
  | 0 => by
    obtain ⟨f, fd, U, hm⟩ := T.u__law_same
    exact dfn_zero rfl U hm (U.binds (ps := P__law_same) fun _ _ _ _ _ _ us hl => match us, hl with | [_, _], _ => rfl)
  | n + 1 => by
    have DS := D__law_same T n
    obtain ⟨f, fd, U, hm⟩ := T.u__law_same
    refine ⟨f, fd, P__law_same, ?_, hm, U.kp, U.binds (ps := P__law_same) fun _ _ _ _ _ _ us hl => match us, hl with | [_, _], _ => rfl, runDef_ks⟩
    refine FnOk.mono (j := (n + 2) + 1) ?_ (by omega)
    refine fn_pure (k := n + 2) false leavesE U sc__law_same rfl rfl fun X C hX hpp hxv hnw hr hx hpo => ?_
    obtain ⟨cG, cH, cw, cpp, cσ, cex, cxv, cnw⟩ := C
    dsimp only at hpp hxv hnw
    subst hpp hxv hnw
    have hnw : (false : Bool) = false := rfl
    obtain ⟨cdv, A, outer, s, H, E, rfl⟩ := hX
    exact (jss_cons (by exact (js_if (jt_val (je_isi2 isi_tuple isi_list rfl T.b_isinstance bt_isi rfl T.b_tuple bt_tuple rfl T.b_list bt_list (je_var 1))) (jss_cons (by exact (js_if (JW.jt (jw_or (jt_ne (hu64 hr) (je_isi isi_tuple rfl T.b_isinstance bt_isi rfl T.b_tuple bt_tuple (je_var 0)) (je_isi isi_tuple rfl T.b_isinstance bt_isi rfl T.b_tuple bt_tuple (je_var 1))) (jw_or1 (jt_ne (hu64 hr) (je_isi isi_list rfl T.b_isinstance bt_isi rfl T.b_list bt_list (je_var 0)) (je_isi isi_list rfl T.b_isinstance bt_isi rfl T.b_list bt_list (je_var 1)))))) (jss_one (by exact (js_ret hnw je_bl))) jss_nil)) (jss_cons (by exact (js_if (jt_ne (hu64 hr) (c_len T.b_len (je_var 0)) (c_len T.b_len (je_var 1))) (jss_one (by exact (js_ret hnw je_bl))) jss_nil)) (jss_one (by exact (js_ret hnw (c_all rfl T.b_all (je_new (jn_comp (ji_zipA rfl T.b_zip (je_var 0) (je_var 1)) rfl (N' := N_nd__law_same_0) (m := 2) (by kernel_rfl) rfl (cellOk_of (by kernel_rfl)) (frOk_of (by kernel_rfl)) (nmOk_of (by kernel_rfl)) (fun cl L s H fp G H' w σ => ⟨(jg_pair (i := 2) (j := 3) rfl nd__law_same_0 rfl rfl (by first | exact Or.inl rfl | exact Or.inr rfl) (by first | exact Or.inl rfl | exact Or.inr rfl) (show 2 ∉ List.range 2 by decide) (show 3 ∉ List.range 2 by decide)), jts_nil, (je_fn DS hr (Nat.le_refl _) (psNo fun _ z => z) (jr_cons (je_var 2) (jr_cons (je_var 3) jr_nil)))⟩))))))))) jss_nil)) (jss_one (by exact (js_ret hnw (je_and (je_eq (hu64 hr) (je_var 0) (je_var 1)) (je_one (je_eq (hu64 hr) (je_isi isi_bool rfl T.b_isinstance bt_isi rfl T.b_bool bt_bool (je_var 0)) (je_isi isi_bool rfl T.b_isinstance bt_isi rfl T.b_bool bt_bool (je_var 1)))))))))
noncomputable abbrev N__law_round_together : List Str := ["row", "party", "marks", "many", "at", "turned"]
noncomputable abbrev P__law_round_together : List Str := ["row", "party"]
theorem sc__law_round_together : FnScope N__law_round_together P__law_round_together (defScope (top 36)) := ⟨rfl, rfl, rfl, by decide +kernel, rfl, by decide +kernel, by decide +kernel⟩
noncomputable abbrev N_nd__law_round_together_0 : List Str := ["row", "party", "marks", "many", "at", "turned", "guest"]
theorem nd__law_round_together_0 : N_nd__law_round_together_0.Nodup := by decide +kernel
noncomputable def d__law_round_together : DS := (dSeq (dSet 2 (dFz (dComp (dIt (dVar 0)) (gSet 6) dTT (dOp (gIn false) (dVar 6) (dVar 1)) 1))) (dSeq (dSet 3 (dCnt (dVar 2) (dC (.bl true)))) (dSeq (dFor (dRng1 (dFn gLen (dA (dVar 0) dA0))) (gSet 4) (dSeq (dSet 5 (dFz (dCat (dFz (dCut (dVar 2) (dO1 (dVar 4)) dO0)) (dFz (dCut (dVar 2) dO0 (dO1 (dVar 4))))))) (dIf (dTB (dOp (gEq false) (dFz (dCut (dVar 5) dO0 (dO1 (dVar 3)))) (dFz (dRep (dC (.lst [(.bl true)])) (dVar 3))))) (dRet (dC (.bl true))) dNx))) (dRet (dC (.bl false))))))
noncomputable def F__law_round_together : FD := runDef false [false, false] 4 d__law_round_together
theorem D__law_round_together (T : Tx K mg cls) : Dfn false P w K mg base (CXe P w) (xvC cls) 3 (Str.ofString "_law_round_together") [false, false] F__law_round_together := by
    obtain ⟨f, fd, U, hm⟩ := T.u__law_round_together
    refine ⟨f, fd, P__law_round_together, ?_, hm, U.kp, U.binds (ps := P__law_round_together) fun _ _ _ _ _ _ us hl => match us, hl with | [_, _], _ => rfl, runDef_ks⟩
    refine fn_pure (k := 2) false leavesE U sc__law_round_together rfl rfl fun X C hX hpp hxv hnw hr hx hpo => ?_
    obtain ⟨cG, cH, cw, cpp, cσ, cex, cxv, cnw⟩ := C
    dsimp only at hpp hxv hnw
    subst hpp hxv hnw
    have hnw : (false : Bool) = false := rfl
    obtain ⟨cdv, A, outer, s, H, E, rfl⟩ := hX
    exact (jss_cons (by exact (js_setComp (i := 2) sc__law_round_together.nd rfl (by first | exact Or.inl rfl | exact Or.inr rfl) (show 2 ∉ ownIx [false, false] by decide) (ji_seq (je_var 0)) rfl (N' := N_nd__law_round_together_0) (m := 1) (by kernel_rfl) rfl (cellOk_of (by kernel_rfl)) (frOk_of (by kernel_rfl)) (nmOk_of (by kernel_rfl)) (fun cl L s H fp G H' w σ => ⟨(jg_name (i := 6) nd__law_round_together_0 rfl (by first | exact Or.inl rfl | exact Or.inr rfl) (show 6 ∉ List.range 6 by decide)), jts_nil, (je_in (hu65 hr) (je_var 6) (je_var 1))⟩))) (jss_cons (by exact (js_set (i := 3) sc__law_round_together.nd rfl (by first | exact Or.inl rfl | exact Or.inr rfl) (show 3 ∉ ownIx [false, false] by decide) (je_cnt (hu65 hr) (je_var 2) je_bl))) (jss_cons (by exact (js_for hpo rfl (ji_range1 rfl T.b_range (c_len T.b_len (je_var 0))) (jg_name (i := 4) sc__law_round_together.nd rfl (by first | exact Or.inl rfl | exact Or.inr rfl) (show 4 ∉ ownIx [false, false] by decide)) (jss_cons (by exact (js_set (i := 5) sc__law_round_together.nd rfl (by first | exact Or.inl rfl | exact Or.inr rfl) (show 5 ∉ ownIx [false, false] by decide) (je_new (by refine jn_cat (je_new (jn_cut (je_var 2) (jo_some (je_var 4)) jo_none)) ?_; exact (je_new (jn_cut (je_var 2) jo_none (jo_some (je_var 4)))))))) (jss_one (by exact (js_if (jt_eq (hu64 hr) (je_new (jn_cut (je_var 5) jo_none (jo_some (je_var 3)))) (je_new (by refine jn_rep (by refine jd 40 ?_; kernel_rfl) ?_; exact (je_var 3)))) (jss_one (by exact (js_ret hnw je_bl))) jss_nil)))))) (jss_one (by exact (js_ret hnw je_bl))))))
end
end Lw
end
section
set_option Elab.async false
set_option linter.all false
set_option maxRecDepth 100000
set_option maxHeartbeats 4000000
namespace Lw
open PySem PySem.Spec L2 PV
section
variable {P : Program} {w : World} {K : PySem.W.Frag} {mg : Str → Option Value} {base : Heap} {xv : Nat → Value} {cls : Nat → Addr}
noncomputable abbrev N__law_bent : List Str := ["state", "row", "at", "odd", "some"]
noncomputable abbrev P__law_bent : List Str := ["state", "row"]
theorem sc__law_bent : FnScope N__law_bent P__law_bent (defScope (top 37)) := ⟨rfl, rfl, rfl, by decide +kernel, rfl, by decide +kernel, by decide +kernel⟩
noncomputable def d__law_bent : DS := (dSeq (dSet 2 (dCall F__law_take (dRO 0 (dR (dFn gLen (dA (dVar 1) dA0)) dR0)))) (dSeq (dSet 3 (dOp gIx (dFz (dLst (dA (dOp gIx (dVar 1) (dC (.int 0))) (dA (dFn gLen (dA (dVar 1) dA0)) (dA (dNeg (dC (.int 1))) (dA (dC (.bl true)) (dA (dC .non) (dA (dC (.str (Str.ofString "0"))) (dA (dC (.tup [(.int 0)])) (dA (dOp gPow (dC (.int 10)) (dC (.int 29))) dA0)))))))))) (dCall F__law_take (dRO 0 (dR (dC (.int 8)) dR0))))) (dSeq (dSet 4 (dFz (dLst (dA (dOp gCatT (dOp gCatT (dCutW (dVar 1) dO0 (dO1 (dVar 2))) (dTup (dA (dVar 3) dA0))) (dCutW (dVar 1) (dO1 (dOp gAddI (dVar 2) (dC (.int 1)))) dO0)) (dA (dCutW (dVar 1) dO0 (dO1 (dNeg (dC (.int 1))))) (dA (dOp gCatT (dVar 1) (dTup (dA (dFn gLen (dA (dVar 1) dA0)) dA0))) (dA (dFz (dFnN gList (dA (dVar 1) dA0))) (dA (dC .non) (dA (dC .dct) (dA (dRevT (dVar 1)) (dA (dC (.int 0)) dA0))))))))))) (dRet (dOp gIx (dVar 4) (dOp gIx (dC (.lst [(.int 0), (.int 0), (.int 0), (.int 1), (.int 2), (.int 3), (.int 4), (.int 5), (.int 6), (.int 7)])) (dCall F__law_take (dRO 0 (dR (dC (.int 10)) dR0)))))))))
noncomputable def F__law_bent : FD := runDef false [true, false] 3 d__law_bent
theorem D__law_bent (T : Tx K mg cls) : Dfn false P w K mg base (CXe P w) (xvC cls) 6 (Str.ofString "_law_bent") [true, false] F__law_bent := by
    obtain ⟨f, fd, U, hm⟩ := T.u__law_bent
    refine ⟨f, fd, P__law_bent, ?_, hm, U.kp, U.binds (ps := P__law_bent) fun _ _ _ _ _ _ us hl => match us, hl with | [_, _], _ => rfl, runDef_ks⟩
    refine fn_pure (k := 5) false leavesE U sc__law_bent rfl rfl fun X C hX hpp hxv hnw hr hx hpo => ?_
    obtain ⟨cG, cH, cw, cpp, cσ, cex, cxv, cnw⟩ := C
    dsimp only at hpp hxv hnw
    subst hpp hxv hnw
    have hnw : (false : Bool) = false := rfl
    obtain ⟨cdv, A, outer, s, H, E, rfl⟩ := hX
    exact (jss_cons (by exact (js_set (i := 2) sc__law_bent.nd rfl (by first | exact Or.inl rfl | exact Or.inr rfl) (show 2 ∉ ownIx [true, false] by decide) (je_fn (D__law_take T) hr (by omega) hx (jr_own 0 (jr_cons (c_len T.b_len (je_var 1)) jr_nil))))) (jss_cons (by exact (js_set (i := 3) sc__law_bent.nd rfl (by first | exact Or.inl rfl | exact Or.inr rfl) (show 3 ∉ ownIx [true, false] by decide) (je_ix (je_new (jn_lst (ja_cons (je_ix (je_var 1) je_int) (ja_cons (c_len T.b_len (je_var 1)) (ja_cons (je_neg je_int) (ja_cons je_bl (ja_cons je_non (ja_cons je_str (ja_cons (by refine jd 40 ?_; kernel_rfl) (ja_cons (je_pow je_int je_int) ja_nil)))))))))) (je_fn (D__law_take T) hr (by omega) hx (jr_own 0 (jr_cons je_int jr_nil)))))) (jss_cons (by exact (js_set (i := 4) sc__law_bent.nd rfl (by first | exact Or.inl rfl | exact Or.inr rfl) (show 4 ∉ ownIx [true, false] by decide) (je_new (jn_lst (ja_cons (je_catT (je_catT (je_cutW (je_var 1) jo_none (jo_some (je_var 2))) (je_tup (ja_cons (je_var 3) ja_nil))) (je_cutW (je_var 1) (jo_some (je_addI (je_var 2) je_int)) jo_none)) (ja_cons (je_cutW (je_var 1) jo_none (jo_some (je_neg je_int))) (ja_cons (je_catT (je_var 1) (je_tup (ja_cons (c_len T.b_len (je_var 1)) ja_nil))) (ja_cons (je_new (c_list T.b_list (je_var 1))) (ja_cons je_non (ja_cons je_dict (ja_cons (je_revT (je_var 1)) (ja_cons je_int ja_nil)))))))))))) (jss_one (by exact (js_ret hnw (je_ix (je_var 4) (je_ix (by refine jd 40 ?_; kernel_rfl) (je_fn (D__law_take T) hr (by omega) hx (jr_own 0 (jr_cons je_int jr_nil)))))))))))
noncomputable abbrev N__law_is_round : List Str := ["n", "thing"]
noncomputable abbrev P__law_is_round : List Str := ["n", "thing"]
theorem sc__law_is_round : FnScope N__law_is_round P__law_is_round (defScope (top 38)) := ⟨rfl, rfl, rfl, by decide +kernel, rfl, by decide +kernel, by decide +kernel⟩
noncomputable abbrev N_nd__law_is_round_0 : List Str := ["n", "thing", "one"]
theorem nd__law_is_round_0 : N_nd__law_is_round_0.Nodup := by decide +kernel
noncomputable def d__law_is_round : DS := (dSeq (dIf (dTOr (dTNot (dTB (dIsi "tuple" (dVar 1)))) (dTOr (dTB (dOp (gEq true) (dFn gLen (dA (dVar 1) dA0)) (dVar 0))) (dTNot (dTB (dFn gAll (dA (dFz (dComp (dIt (dVar 1)) (gSet 2) dTT (dCall F__law_is_guest (dR (dVar 0) (dR (dVar 2) dR0))) 1)) dA0)))))) (dRet (dC (.bl false))) dNx) (dRet (dAnd (dOp (gEq false) (dFz (dFnN gSortT (dA (dVar 1) dA0))) (dFz (dLRng (dVar 0)))) (dOp (gEq false) (dOp gIx (dVar 1) (dC (.int 0))) (dC (.int 0))))))
noncomputable def F__law_is_round : FD := runDef false [false, false] 0 d__law_is_round
theorem D__law_is_round (T : Tx K mg cls) : Dfn false P w K mg base (CXe P w) (xvC cls) 9 (Str.ofString "_law_is_round") [false, false] F__law_is_round := by
    obtain ⟨f, fd, U, hm⟩ := T.u__law_is_round
    refine ⟨f, fd, P__law_is_round, ?_, hm, U.kp, U.binds (ps := P__law_is_round) fun _ _ _ _ _ _ us hl => match us, hl with | [_, _], _ => rfl, runDef_ks⟩
    refine fn_pure (k := 8) false leavesE U sc__law_is_round rfl rfl fun X C hX hpp hxv hnw hr hx hpo => ?_
    obtain ⟨cG, cH, cw, cpp, cσ, cex, cxv, cnw⟩ := C
    dsimp only at hpp hxv hnw
    subst hpp hxv hnw
    have hnw : (false : Bool) = false := rfl
    obtain ⟨cdv, A, outer, s, H, E, rfl⟩ := hX
    exact (jss_cons (by exact (js_if (JW.jt (jw_or (jt_not (jt_val (je_isi isi_tuple rfl T.b_isinstance bt_isi rfl T.b_tuple bt_tuple (je_var 1)))) (jw_or (jt_ne (hu64 hr) (c_len T.b_len (je_var 1)) (je_var 0)) (jw_or1 (jt_not (jt_val (c_all rfl T.b_all (je_new (jn_comp (ji_seq (je_var 1)) rfl (N' := N_nd__law_is_round_0) (m := 1) (by kernel_rfl) rfl (cellOk_of (by kernel_rfl)) (frOk_of (by kernel_rfl)) (nmOk_of (by kernel_rfl)) (fun cl L s H fp G H' w σ => ⟨(jg_name (i := 2) nd__law_is_round_0 rfl (by first | exact Or.inl rfl | exact Or.inr rfl) (show 2 ∉ List.range 2 by decide)), jts_nil, (je_fn (D__law_is_guest T) hr (by omega) (psNo fun _ z => z) (jr_cons (je_var 0) (jr_cons (je_var 2) jr_nil)))⟩)))))))))) (jss_one (by exact (js_ret hnw je_bl))) jss_nil)) (jss_one (by exact (js_ret hnw (je_and (je_eq (hu64 hr) (je_new (jn_sortT rfl T.b_sorted (je_var 1))) (je_new (jn_lrng rfl rfl T.b_list rfl T.b_range (je_var 0)))) (je_one (je_eq (hu64 hr) (je_ix (je_var 1) je_int) je_int)))))))
end
end Lw
end
section
set_option Elab.async false
set_option linter.all false
set_option maxRecDepth 100000
set_option maxHeartbeats 4000000
namespace Lw
open PySem PySem.Spec L2 PV
section
variable {P : Program} {w : World} {K : PySem.W.Frag} {mg : Str → Option Value} {base : Heap} {xv : Nat → Value} {cls : Nat → Addr}
noncomputable abbrev N__law_refusals_right : List Str := ["state", "n", "row", "parties", "<tab>", "bad", "none"]
noncomputable abbrev P__law_refusals_right : List Str := ["state", "n", "row", "parties"]
theorem sc__law_refusals_right : FnScope N__law_refusals_right P__law_refusals_right (defScope (top 39)) := ⟨rfl, rfl, rfl, by decide +kernel, rfl, by decide +kernel, by decide +kernel⟩
noncomputable def d__law_refusals_right : DS := (dSeq (dSet 5 (dOp gIx (dFz (dLst (dA (dC (.int 0)) (dA (dC (.int 8)) (dA (dNeg (dC (.int 1))) (dA (dC (.bl true)) (dA (dC .non) (dA (dC (.str (Str.ofString "2"))) (dA (dC (.tup [(.int 2)])) (dA (dOp gPow (dC (.int 10)) (dC (.int 29))) dA0)))))))))) (dCall F__law_take (dRO 0 (dR (dC (.int 8)) dR0))))) (dSeq (dSet 6 (dOp gIx (dFz (dLst (dA (dC .non) (dA (dC (.tup [(.int 0)])) (dA (dC (.lst [(.tup [])])) (dA (dC (.lst [(.tup [(.int 1), (.int 0)])])) (dA (dFz (dLst (dA (dTup (dA (dC (.int 0)) (dA (dVar 1) dA0))) dA0))) (dA (dC (.lst [(.tup [(.bl true)])])) (dA (dC (.lst [(.lst [(.int 0)])])) (dA (dFz (dRep (dC (.lst [(.tup [(.int 0)])])) (dC (.int 9)))) (dAC [(.lst [(.tup [(.int 0), (.int 0)])]), .dct]))))))))))) (dCall F__law_take (dRO 0 (dR (dC (.int 10)) dR0))))) (dSeq (dIf (dTB (dOp (gEq true) (dFz (dRef 4 lamQ (dCall F_is_round (dR (dVar 5) (dR (dVar 2) dR0))))) (dC (.lst [(.int 0)])))) (dRet (dC (.bl false))) dNx) (dSeq (dIf (dTB (dOp (gEq true) (dFz (dRef 4 lamQ (dCall F_first_broken_round (dR (dVar 5) (dR (dVar 2) (dR (dVar 6) dR0)))))) (dC (.lst [(.int 0)])))) (dRet (dC (.bl false))) dNx) (dRet (dOp (gEq false) (dFz (dRef 4 lamQ (dCall F_first_broken_round (dR (dVar 1) (dR (dVar 2) (dR (dVar 6) dR0)))))) (dC (.lst [(.int 1)]))))))))
noncomputable def F__law_refusals_right : FD := runDef false ([true, false, false, false] ++ [true]) 2 d__law_refusals_right
theorem D__law_refusals_right (T : Tx K mg cls) {f PT cL : Addr} {fd : FuncData} (U : Fun K (Str.ofString "_law_refusals_right") (Str.ofString "_law_refusals_right") (top 39) f fd) (hmx : mg (Str.ofString "_law_refusals_right") = some (.ref f)) (hcL : fd.code = .ref cL) (hch : PySem.W.codeHdIn K cL PT = true) (hbm : base.BuiltinsAt mg PT) (hKb : K.In base) : DfnT P w K mg base (CXe P w) (xvC cls) 27 (Str.ofString "_law_refusals_right") ([true, false, false, false] ++ [true]) PT F__law_refusals_right := by
    obtain ⟨fR, fdR, UR, hmR⟩ := T.u__law_refused
    refine ⟨f, fd, P__law_refusals_right, ?_, hmx, U.kp, U.binds (ps := P__law_refusals_right) fun _ _ _ _ _ _ us hl => match us, hl with | [_, _, _, _], _ => rfl, runDef_ks⟩
    refine fn_pureT (k := 26) (ks := [true, false, false, false]) (m := 2) (xt := "<tab>") U hcL hch sc__law_refusals_right rfl rfl rfl (by unfold Vis; decide +kernel) hbm hKb fun X C hX hpp hσ0 hxv hnw hr hx hpo hLB => ?_
    obtain ⟨cdv, A, outer, s, H, E, rfl⟩ := hX
    obtain ⟨cG, cH, cw, cpp, cσ, cex, cxv, cnw⟩ := C
    dsimp only at hpp hσ0 hxv hnw
    subst hpp hxv hnw
    have hnw : (false : Bool) = false := rfl
    refine jss_cons ?_ ?_
    · exact (js_set (i := 5) sc__law_refusals_right.nd rfl (by first | exact Or.inl rfl | exact Or.inr rfl) (show 5 ∉ ownIx ([true, false, false, false] ++ [true]) by decide) (je_ix (je_new (jn_lst (ja_cons je_int (ja_cons je_int (ja_cons (je_neg je_int) (ja_cons je_bl (ja_cons je_non (ja_cons je_str (ja_cons (by refine jd 40 ?_; kernel_rfl) (ja_cons (je_pow je_int je_int) ja_nil)))))))))) (je_fn (D__law_take T) hr (by omega) hx (jr_own 0 (jr_cons je_int jr_nil)))))
    refine jss_cons ?_ ?_
    · refine js_set (i := 6) ?_ ?_ ?_ ?_ ?_ ?_ ?_
      · exact sc__law_refusals_right.nd
      · kernel_rfl
      · exact Or.inr (by kernel_rfl)
      · exact (show 6 ∉ ownIx ([true, false, false, false] ++ [true]) by decide)
      · refine je_ix ?_ ?_
        rotate_left
        · exact (je_fn (D__law_take T) hr (by omega) hx (jr_own 0 (jr_cons je_int jr_nil)))
        refine je_new ?_
        refine jn_lst ?_
        refine ja_cons ?_ ?_
        · exact je_non
        refine ja_cons ?_ ?_
        · refine jd 40 ?_; kernel_rfl
        refine ja_cons ?_ ?_
        · refine jd 40 ?_; kernel_rfl
        refine ja_cons ?_ ?_
        · refine jd 40 ?_; kernel_rfl
        refine ja_cons ?_ ?_
        · exact (je_new (jn_lst (ja_cons (je_tup (ja_cons je_int (ja_cons (je_var 1) ja_nil))) ja_nil)))
        refine ja_cons ?_ ?_
        · refine jd 40 ?_; kernel_rfl
        refine ja_cons ?_ ?_
        · refine jd 40 ?_; kernel_rfl
        refine ja_cons ?_ ?_
        · exact je_new (by refine jn_rep (by refine jd 40 ?_; kernel_rfl) ?_; exact je_int)
        refine ja_data 40 ?_; kernel_rfl
      · kernel_rfl
      · exact Or.inl rfl
    refine jss_cons ?_ ?_
    · exact (js_if (jt_ne (hu64 hr) (je_new (jn_ref (k := 15) (st := top 30) hLB rfl (show 4 ∈ ownIx ([true, false, false, false] ++ [true]) by decide) hσ0 cls (fun _ _ => rfl) UR sc__law_refused rfl (UR.binds (ps := ["call"]) fun _ _ _ _ _ _ us hl => match us, hl with | [_], _ => rfl) hmR (hr.mono (by omega)) (B__law_refused T) den__law_refused (fun XL CL hXL hcv hr hx => by
      obtain ⟨⟨xp, xw, xK, xmg, xb, xA, xN, xs, xH, xenv, xo, xst, xex, xfn, xc, xpn, xxe⟩, cl, Fa, cdv, s, H, E, e1, e2, e3, e4, e5, rfl⟩ := hXL
      obtain ⟨cG, cH, cw, cpp, cσ, cex, cxv, cnw⟩ := CL
      dsimp only at e1 e2 e3 e4 e5 hcv
      subst e1 e2 e3 e4 e5 hcv
      exact (je_fn (D_is_round T) hr (by omega) hx (jr_cons (je_var 5) (jr_cons (je_var 2) jr_nil)))) (hfr := frOk_of (by kernel_rfl)) (hbind := fun _ _ _ _ => rfl))) (by refine jd 40 ?_; kernel_rfl)) (jss_one (by exact (js_ret hnw je_bl))) jss_nil)
    refine jss_cons ?_ ?_
    · exact (js_if (jt_ne (hu64 hr) (je_new (jn_ref (k := 21) (st := top 30) hLB rfl (show 4 ∈ ownIx ([true, false, false, false] ++ [true]) by decide) hσ0 cls (fun _ _ => rfl) UR sc__law_refused rfl (UR.binds (ps := ["call"]) fun _ _ _ _ _ _ us hl => match us, hl with | [_], _ => rfl) hmR (hr.mono (by omega)) (B__law_refused T) den__law_refused (fun XL CL hXL hcv hr hx => by
      obtain ⟨⟨xp, xw, xK, xmg, xb, xA, xN, xs, xH, xenv, xo, xst, xex, xfn, xc, xpn, xxe⟩, cl, Fa, cdv, s, H, E, e1, e2, e3, e4, e5, rfl⟩ := hXL
      obtain ⟨cG, cH, cw, cpp, cσ, cex, cxv, cnw⟩ := CL
      dsimp only at e1 e2 e3 e4 e5 hcv
      subst e1 e2 e3 e4 e5 hcv
      exact (je_fn (D_first_broken_round T) hr (by omega) hx (jr_cons (je_var 5) (jr_cons (je_var 2) (jr_cons (je_var 6) jr_nil))))) (hfr := frOk_of (by kernel_rfl)) (hbind := fun _ _ _ _ => rfl))) (by refine jd 40 ?_; kernel_rfl)) (jss_one (by exact (js_ret hnw je_bl))) jss_nil)
    refine jss_one ?_
    exact (js_ret hnw (je_eq (hu64 hr) (je_new (jn_ref (k := 21) (st := top 30) hLB rfl (show 4 ∈ ownIx ([true, false, false, false] ++ [true]) by decide) hσ0 cls (fun _ _ => rfl) UR sc__law_refused rfl (UR.binds (ps := ["call"]) fun _ _ _ _ _ _ us hl => match us, hl with | [_], _ => rfl) hmR (hr.mono (by omega)) (B__law_refused T) den__law_refused (fun XL CL hXL hcv hr hx => by
      obtain ⟨⟨xp, xw, xK, xmg, xb, xA, xN, xs, xH, xenv, xo, xst, xex, xfn, xc, xpn, xxe⟩, cl, Fa, cdv, s, H, E, e1, e2, e3, e4, e5, rfl⟩ := hXL
      obtain ⟨cG, cH, cw, cpp, cσ, cex, cxv, cnw⟩ := CL
      dsimp only at e1 e2 e3 e4 e5 hcv
      subst e1 e2 e3 e4 e5 hcv
      exact (je_fn (D_first_broken_round T) hr (by omega) hx (jr_cons (je_var 1) (jr_cons (je_var 2) (jr_cons (je_var 6) jr_nil))))) (hfr := frOk_of (by kernel_rfl)) (hbind := fun _ _ _ _ => rfl))) (by refine jd 40 ?_; kernel_rfl)))
end
end Lw
end
section
set_option Elab.async false
set_option linter.all false
set_option maxRecDepth 100000
set_option maxHeartbeats 4000000
namespace Lw
open PySem PySem.Spec L2 PV
section
variable {P : Program} {w : World} {K : PySem.W.Frag} {mg : Str → Option Value} {base : Heap} {xv : Nat → Value} {cls : Nat → Addr}
noncomputable abbrev N_law : List Str := ["script", "k", "state", "n", "parties", "drawn", "row", "thing", "marks", "due", "<tab>"]
noncomputable abbrev P_law : List Str := ["script"]
theorem sc_law : FnScope N_law P_law (defScope (top 40)) := ⟨rfl, rfl, rfl, by decide +kernel, rfl, by decide +kernel, by decide +kernel⟩
noncomputable abbrev N_nd_law_0 : List Str := ["script", "k", "state", "n", "parties", "drawn", "row", "thing", "marks", "due", "<tab>", "party"]
theorem nd_law_0 : N_nd_law_0.Nodup := by decide +kernel
noncomputable abbrev N_nd_law_1 : List Str := ["script", "k", "state", "n", "parties", "drawn", "row", "thing", "marks", "due", "<tab>", "party"]
theorem nd_law_1 : N_nd_law_1.Nodup := by decide +kernel
noncomputable def d_law : DS := (dSeq (dFor (dRng1 (dFn gMax2 (dA (dC (.int 1)) (dA (dFn gMin2 (dA (dFn gLen (dA (dVar 0) dA0)) (dA (dC (.int 10)) dA0))) dA0)))) (gSet 1) (dSeq (dSetN 2 (dCallN F__law_state (dR (dVar 0) (dR (dVar 1) dR0)))) (dSeq (dSet 3 (dOp gAddI (dC (.int 1)) (dCall F__law_take (dRO 2 (dR (dC (.int 7)) dR0))))) (dSeq (dSet 4 (dCall F__law_parties (dRO 2 (dR (dVar 3) (dR (dC (.int 8)) dR0))))) (dSeq (dSet 5 (dCall F__law_order (dRO 2 (dR (dVar 3) dR0)))) (dSeq (dSet 6 (dOp gCatT (dCutW (dVar 5) (dO1 (dIdxT (dVar 5) (dC (.int 0)))) dO0) (dCutW (dVar 5) dO0 (dO1 (dIdxT (dVar 5) (dC (.int 0))))))) (dSeq (dFor (dIt (dFz (dLst (dA (dVar 5) (dA (dVar 6) (dA (dCall F__law_bent (dRO 2 (dR (dVar 6) dR0))) (dA (dCall F__law_bent (dRO 2 (dR (dVar 5) dR0))) dA0))))))) (gSet 7) (dIf (dTNot (dTB (dCall (F__law_same 3) (dR (dCall F_is_round (dR (dVar 3) (dR (dVar 7) dR0))) (dR (dCall F__law_is_round (dR (dVar 3) (dR (dVar 7) dR0))) dR0))))) (dRet (dC (.bl false))) dNx)) (dSeq (dSet 8 (dFz (dComp (dIt (dVar 4)) (gSet 11) dTT (dCall F__law_round_together (dR (dVar 6) (dR (dVar 11) dR0))) 1))) (dSeq (dIf (dTNot (dTB (dCall (F__law_same 3) (dR (dFz (dComp (dIt (dVar 4)) (gSet 11) dTT (dCall F_sits_round (dR (dVar 3) (dR (dVar 6) (dR (dVar 11) dR0)))) 1)) (dR (dVar 8) dR0))))) (dRet (dC (.bl false))) dNx) (dSeq (dSet 9 (dIdx (dFz (dCat (dVar 8) (dC (.lst [(.bl false)])))) (dC (.bl false)))) (dSeq (dIf (dTNot (dTB (dCall (F__law_same 3) (dR (dCall F_first_broken_round (dR (dVar 3) (dR (dVar 6) (dR (dVar 4) dR0)))) (dR (dOp gIx (dFz (dLst (dA (dVar 9) (dA (dC .non) dA0)))) (dFn gIntB (dA (dOp (gEq false) (dVar 9) (dFn gLen (dA (dVar 4) dA0))) dA0))) dR0))))) (dRet (dC (.bl false))) dNx) (dIf (dTNot (dTB (dCall F__law_refusals_right (dRT 10 (dRO 2 (dR (dVar 3) (dR (dVar 6) (dR (dVar 4) dR0)))))))) (dRet (dC (.bl false))) dNx)))))))))))) (dRet (dC (.bl true))))
theorem K_law (T : Tx K mg cls) {f PT : Addr} {fd : FuncData} (U : Fun K "law" "law" (top 40) f fd) (DT : DfnT P w K mg base (CXe P w) (xvC cls) 27 (Str.ofString "_law_refusals_right") ([true, false, false, false] ++ [true]) PT F__law_refusals_right) : FnOk P w K mg base (CXe P w) 30 f fd P_law (spT K PT (lawD 9 lamQ d_law)) := by
    refine fn_lawH (k := 29) (m := 9) (xt := "<tab>") (xv := xvC cls) U sc_law rfl rfl (by unfold Vis; decide +kernel) fun X C hX hpp hσ0 hxv hnw hr hx hpo => ?_
    obtain ⟨cdv, A, outer, s, H, E, rfl⟩ := hX
    obtain ⟨cG, cH, cw, cpp, cσ, cex, cxv, cnw⟩ := C
    dsimp only at hpp hσ0 hxv hnw
    subst hpp hxv hnw
    have hnw : (false : Bool) = false := rfl
    exact (jss_cons (by exact (js_for hpo rfl (ji_range1 rfl T.b_range (c_max2 rfl T.b_max je_int (c_min2 rfl T.b_min (c_len T.b_len (je_var 0)) je_int))) (jg_name (i := 1) sc_law.nd rfl (by first | exact Or.inl rfl | exact Or.inr rfl) (show 1 ∉ ([10] : List Nat) by decide)) (jss_cons (by exact (js_setN (i := 2) sc_law.nd rfl (by first | exact Or.inl rfl | exact Or.inr rfl) (show 2 ∉ ([10] : List Nat) by decide) (jn_fn (D__law_state T) hr (by omega) hx (jr_cons (je_var 0) (jr_cons (je_var 1) jr_nil))))) (jss_cons (by exact (js_set (i := 3) sc_law.nd rfl (by first | exact Or.inl rfl | exact Or.inr rfl) (show 3 ∉ ([10] : List Nat) by decide) (je_addI je_int (je_fn (D__law_take T) hr (by omega) hx (jr_own 2 (jr_cons je_int jr_nil)))))) (jss_cons (by exact (js_set (i := 4) sc_law.nd rfl (by first | exact Or.inl rfl | exact Or.inr rfl) (show 4 ∉ ([10] : List Nat) by decide) (je_fn (D__law_parties T) hr (by omega) hx (jr_own 2 (jr_cons (je_var 3) (jr_cons je_int jr_nil)))))) (jss_cons (by exact (js_set (i := 5) sc_law.nd rfl (by first | exact Or.inl rfl | exact Or.inr rfl) (show 5 ∉ ([10] : List Nat) by decide) (je_fn (D__law_order T) hr (by omega) hx (jr_own 2 (jr_cons (je_var 3) jr_nil))))) (jss_cons (by exact (js_set (i := 6) sc_law.nd rfl (by first | exact Or.inl rfl | exact Or.inr rfl) (show 6 ∉ ([10] : List Nat) by decide) (je_catT (je_cutW (je_var 5) (jo_some (je_idxT (hu65 hr) (je_var 5) je_int)) jo_none) (je_cutW (je_var 5) jo_none (jo_some (je_idxT (hu65 hr) (je_var 5) je_int)))))) (jss_cons (by exact (js_for hpo rfl (ji_seq (je_new (jn_lst (ja_cons (je_var 5) (ja_cons (je_var 6) (ja_cons (je_fn (D__law_bent T) hr (by omega) hx (jr_own 2 (jr_cons (je_var 6) jr_nil))) (ja_cons (je_fn (D__law_bent T) hr (by omega) hx (jr_own 2 (jr_cons (je_var 5) jr_nil))) ja_nil))))))) (jg_name (i := 7) sc_law.nd rfl (by first | exact Or.inl rfl | exact Or.inr rfl) (show 7 ∉ ([10] : List Nat) by decide)) (jss_one (by exact (js_if (jt_not (jt_val (je_fn (D__law_same T 3) hr (by omega) hx (jr_cons (je_fn (D_is_round T) hr (by omega) hx (jr_cons (je_var 3) (jr_cons (je_var 7) jr_nil))) (jr_cons (je_fn (D__law_is_round T) hr (by omega) hx (jr_cons (je_var 3) (jr_cons (je_var 7) jr_nil))) jr_nil))))) (jss_one (by exact (js_ret hnw je_bl))) jss_nil))))) (jss_cons (by exact (js_setComp (i := 8) sc_law.nd rfl (by first | exact Or.inl rfl | exact Or.inr rfl) (show 8 ∉ ([10] : List Nat) by decide) (ji_seq (je_var 4)) rfl (N' := N_nd_law_0) (m := 1) (by kernel_rfl) rfl (cellOk_of (by kernel_rfl)) (frOk_of (by kernel_rfl)) (nmOk_of (by kernel_rfl)) (fun cl L s H fp G H' w σ => ⟨(jg_name (i := 11) nd_law_0 rfl (by first | exact Or.inl rfl | exact Or.inr rfl) (show 11 ∉ List.range 11 by decide)), jts_nil, (je_fn (D__law_round_together T) hr (by omega) (psNo fun _ z => z) (jr_cons (je_var 6) (jr_cons (je_var 11) jr_nil)))⟩))) (jss_cons (by exact (js_if (jt_not (jt_val (je_fn (D__law_same T 3) hr (by omega) hx (jr_cons (je_new (jn_comp (ji_seq (je_var 4)) rfl (N' := N_nd_law_1) (m := 1) (by kernel_rfl) rfl (cellOk_of (by kernel_rfl)) (frOk_of (by kernel_rfl)) (nmOk_of (by kernel_rfl)) (fun cl L s H fp G H' w σ => ⟨(jg_name (i := 11) nd_law_1 rfl (by first | exact Or.inl rfl | exact Or.inr rfl) (show 11 ∉ List.range 11 by decide)), jts_nil, (je_fn (D_sits_round T) hr (by omega) (psNo fun _ z => z) (jr_cons (je_var 3) (jr_cons (je_var 6) (jr_cons (je_var 11) jr_nil))))⟩))) (jr_cons (je_var 8) jr_nil))))) (jss_one (by exact (js_ret hnw je_bl))) jss_nil)) (jss_cons (by exact (js_set (i := 9) sc_law.nd rfl (by first | exact Or.inl rfl | exact Or.inr rfl) (show 9 ∉ ([10] : List Nat) by decide) (je_idx (hu65 hr) (je_new (by refine jn_cat (je_var 8) ?_; exact (by refine jd 40 ?_; kernel_rfl))) je_bl))) (jss_cons (by exact (js_if (jt_not (jt_val (je_fn (D__law_same T 3) hr (by omega) hx (jr_cons (je_fn (D_first_broken_round T) hr (by omega) hx (jr_cons (je_var 3) (jr_cons (je_var 6) (jr_cons (je_var 4) jr_nil)))) (jr_cons (je_ix (je_new (jn_lst (ja_cons (je_var 9) (ja_cons je_non ja_nil)))) (c_intB rfl T.b_int (je_eq (hu64 hr) (je_var 9) (c_len T.b_len (je_var 4))))) jr_nil))))) (jss_one (by exact (js_ret hnw je_bl))) jss_nil)) (jss_one (by exact (js_if (jt_not (jt_val (je_fnT DT hr (by omega) hx (show 10 ∈ ([10] : List Nat) by decide) hσ0 (jr_own 2 (jr_cons (je_var 3) (jr_cons (je_var 6) (jr_cons (je_var 4) jr_nil))))))) (jss_one (by exact (js_ret hnw je_bl))) jss_nil))))))))))))))) (jss_one (by exact (js_ret hnw je_bl))))
end
end Lw
end
section
set_option Elab.async false
set_option linter.all false
set_option maxRecDepth 100000
set_option maxHeartbeats 4000000
namespace Lw
open PySem PySem.Spec L2 PV
theorem putB_dd {x y : Dt} {bs : List B} : ∀ {ρ : Ev} {k : Nat}, putB [.d x, .d y] bs k ρ = ρ
  | [], _ => rfl
  | o :: r, k => by
    show (match posOf [.d x, .d y] k with | some j => bs[j]? | none => o) :: putB [.d x, .d y] bs (k + 1) r = _
    rw [putB_dd (ρ := r)]; rfl
theorem call1 {F : FD} {fa : De} {ρ ρ' : Ev} {d y : Dt} {l : List B} (h : fa ρ = .ok (d, ρ')) (hF : F [.val d] = .ok (y, l)) : dCall F (dR fa dR0) ρ = .ok (y, ρ') := by
  unfold dCall dR dR0
  rw [h]
  simp only [R.bind_ok, uniq, uniqFrom, if_true, resolve, hF]
  rw [putB_d]
theorem call2 {F : FD} {fa fb : De} {ρ ρ' ρ'' : Ev} {d e y : Dt} {l : List B} (h : fa ρ = .ok (d, ρ')) (h2 : fb ρ' = .ok (e, ρ'')) (hF : F [.val d, .val e] = .ok (y, l)) : dCall F (dR fa (dR fb dR0)) ρ = .ok (y, ρ'') := by
  unfold dCall dR dR0
  rw [h]
  simp only [R.bind_ok, h2, uniq, uniqFrom, if_true, resolve, hF]
  rw [putB_dd]
theorem posOf_s {i k : Nat} {d : Dt} : posOf [.s i, .d d] k = if i = k then some 0 else none := by
  unfold posOf posFrom
  split <;> rfl
theorem putB_s {i : Nat} {d : Dt} {b : B} {bs : List B} : ∀ {ρ : Ev} {k : Nat}, k ≤ i → putB [.s i, .d d] (b :: bs) k ρ = ρ.set (i - k) (some b)
  | [], k, _ => by simp [putB]
  | o :: r, k, h => by
    unfold putB
    rw [posOf_s]
    by_cases e : i = k
    · subst e
      simp only [if_true, Nat.sub_self, List.set_cons_zero]
      have : ∀ (r : Ev) (m : Nat), i < m → putB [.s i, .d d] (b :: bs) m r = r := by
        intro r
        induction r with
        | nil => intro m _; rfl
        | cons o r ih =>
          intro m hm
          unfold putB
          rw [posOf_s, if_neg (by omega), ih (m + 1) (by omega)]
      rw [this r (i + 1) (by omega)]; rfl
    · rw [if_neg e, putB_s (k := k + 1) (by omega)]
      have : i - k = (i - (k + 1)) + 1 := by omega
      rw [this, List.set_cons_succ]
theorem callS {F : FD} {fb : De} {i : Nat} {ρ : Ev} {d y : Dt} {st st' : List Dt} {l : List B} (hi : ρ[i]? = some (some (.own st))) (h : fb ρ = .ok (d, ρ)) (hF : F [.own st, .val d] = .ok (y, .own st' :: l)) : dCall F (dRO i (dR fb dR0)) ρ = .ok (y, ρ.set i (some (.own st'))) := by
  have u : uniq [.s i, .d d] = true := by
    unfold uniq uniqFrom
    rw [posOf_s]
    simp [uniqFrom]
  unfold dCall dRO dR dR0
  simp only [hi, h, R.bind_ok, u, if_true, resolve, ownB, hF]
  rw [putB_s (Nat.zero_le _)]
  rfl
theorem runDef_rt {nw : Bool} {ks : List Bool} {m : Nat} {body : DS} {bs : List B} {d : Dt} {ρ' : Ev} {l : List B} (hk : kinds bs = ks) (hb : body (bs.map some ++ List.replicate m none) = .ok (.rt d, ρ')) (hl : backAll ks ρ' = .ok l) : runDef nw ks m body bs = .ok (d, l) := by
  unfold runDef
  rw [if_pos hk, hb]
  simp only [R.bind_ok, hl]
theorem runDef_nx {ks : List Bool} {m : Nat} {body : DS} {bs : List B} {ρ' : Ev} {l : List B} (hk : kinds bs = ks) (hb : body (bs.map some ++ List.replicate m none) = .ok (.nx, ρ')) (hl : backAll ks ρ' = .ok l) : runDef false ks m body bs = .ok (.non, l) := by
  unfold runDef
  rw [if_pos hk, hb]
  simp only [R.bind_ok, hl]
  rfl
noncomputable def St (st : List Dt) : Prop := ∃ s b, st = [.int s, .bl b]
theorem take_spec {st : List Dt} {m : Int} (h : St st) (h0 : 0 < m) (h1 : m < 1073741824) : ∃ (v : Int) (st' : List Dt), F__law_take [.own st, .val (.int m)] = .ok (.int v, [.own st', .val .non]) ∧ St st' ∧ 0 ≤ v ∧ v < m := by
  obtain ⟨s, b, rfl⟩ := h
  cases b with
  | true =>
    refine ⟨s % m, [.int (s / m), .bl true], ?_, ⟨_, _, rfl⟩, Int.emod_nonneg _ (by omega), Int.emod_lt_of_pos _ h0⟩
    unfold F__law_take runDef d__law_take
    simp [kinds, ownB, dSeq, dIf, dTB, dIxO, dC, atI, ixN, dSet, dOp, gMod, dVar, dPutO, gDiv, dRet, backAll, h0, h1]
  | false =>
    have e1 : ∃ a, (s * 48271 + 29) % 2147483647 = a ∧ 0 ≤ a ∧ a < 2147483647 := ⟨_, rfl, Int.emod_nonneg _ (by decide), Int.emod_lt_of_pos _ (by decide)⟩
    obtain ⟨a, ea, a0, a1⟩ := e1
    have e2 : ∃ c, (a * a + 39373 * a + 7) % 2147483629 = c ∧ 0 ≤ c ∧ c < 2147483629 := ⟨_, rfl, Int.emod_nonneg _ (by decide), Int.emod_lt_of_pos _ (by decide)⟩
    obtain ⟨c, ec, c0, c1⟩ := e2
    have sa : small64 a = true := by unfold small64; simp; omega
    have sc : small64 c = true := by unfold small64; simp; omega
    have s1 : small64 48271 = true := by decide
    have s2 : small64 39373 = true := by decide
    have s3 : small64 16807 = true := by decide
    refine ⟨(c * c + 16807 * c) % 2147483587 / 8 % m, [.int a, .bl false], ?_, ⟨_, _, rfl⟩, Int.emod_nonneg _ (by omega), Int.emod_lt_of_pos _ h0⟩
    unfold F__law_take runDef d__law_take
    simp [kinds, ownB, dSeq, dIf, dTB, dIxO, dC, atI, ixN, dSet, dOp, gMod, gMul, gAddI, dVar, dPutO, gDiv, dRet, dNx, backAll, h0, h1, ea, ec, sa, sc, s1, s2, s3]
theorem ixN_nat {n : Nat} {v : Int} (h0 : 0 ≤ v) (h1 : v < n) : ixN n v = some v.toNat := by
  unfold ixN
  rw [if_pos h0, if_pos h1]
theorem erase_perm {α : Type} : ∀ {l : List α} {j : Nat} {d : α}, l[j]? = some d → (d :: l.eraseIdx j).Perm l
  | [], _, _, h => by simp at h
  | a :: l, 0, d, h => by simp at h; subst h; exact .refl _
  | a :: l, j + 1, d, h => by
    have := erase_perm (l := l) (j := j) (d := d) (by simpa using h)
    exact (List.Perm.swap a d _).trans (this.cons a)
theorem gEq_ok {neg : Bool} {x y : Dt} (h1 : okN 60 x = true) (h2 : okN 60 y = true) : gEq neg x y = .ok (.bl (if neg then !eqD x y else eqD x y)) := by
  unfold gEq
  rw [h1, h2]; rfl
theorem eqD_cons_nil {d : Dt} {l : List Dt} : eqD (.lst (d :: l)) (.lst []) = false := by rw [eqD]; simp [eqDs]
theorem eqD_nil_nil : eqD (.lst []) (.lst []) = true := by rw [eqD, eqDs]
theorem neNil {st found l : List Dt} {o : Option B} {b : Bool} (h : okN 60 (.lst l) = true) (e : (!eqD (.lst l) (.lst [])) = b) : dTB (dEqO true 2 (dFz (dLst dA0))) [some (.own st), o, some (.own l), some (.own found)] = .ok (b, [some (.own st), o, some (.own l), some (.own found)]) := by
  show (((gEq true (.lst l) (.lst [])).bind fun z => .ok (z, [some (.own st), o, some (.own l), some (.own found)])).bind fun (a : Dt × Ev) => match a.1 with | .bl b => .ok (b, a.2) | _ => .no) = _
  rw [gEq_ok h rfl]
  simp only [if_true, e]
  rfl
theorem mixed_loop {things : Option B} : ∀ (n : Nat) (left found : List Dt) (st : List Dt), left.length < n → left.length + found.length ≤ 1000 → (∀ d ∈ left, okN 59 d = true) → St st → ∃ st' p, St st' ∧ p.Perm left ∧
    whileD (dTB (dEqO true 2 (dFz (dLst dA0)))) (dEx (dAppO 3 (dPopAt 2 (dCall F__law_take (dRO 0 (dR (dLenO 2) dR0)))))) n [some (.own st), things, some (.own left), some (.own found)] = .ok (.nx, [some (.own st'), things, some (.own []), some (.own (found ++ p))])
  | 0, left, found, st, h, _, _, _ => absurd h (Nat.not_lt_zero _)
  | n + 1, [], found, st, h, hl, hk, hs => by
    refine ⟨st, [], hs, .refl _, ?_⟩
    unfold whileD
    rw [neNil (b := false) rfl (by rw [eqD_nil_nil]; rfl)]
    simp
  | n + 1, d :: left, found, st, h, hl, hk, hs => by
    obtain ⟨v, st1, e, hs1, v0, v1⟩ := take_spec (m := ((d :: left).length : Nat)) hs (by simp only [List.length_cons]; omega) (by simp only [List.length_cons] at hl ⊢; omega)
    have hv : v.toNat < (d :: left).length := by omega
    have hget : (d :: left)[v.toNat]? = some (d :: left)[v.toNat] := by simp [hv]
    have hel := erase_perm hget
    have hlen : ((d :: left).eraseIdx v.toNat).length = left.length := by
      have := hel.length_eq
      simp only [List.length_cons] at this
      omega
    obtain ⟨st', p, hs', hp, hw⟩ := mixed_loop (things := things) n ((d :: left).eraseIdx v.toNat) (found ++ [(d :: left)[v.toNat]]) st1 (by simp only [List.length_cons] at h; omega) (by simp only [List.length_append, List.length_cons, List.length_nil] at hl ⊢; omega)
      (fun x hx => hk x (hel.mem_iff.mp (List.mem_cons_of_mem _ hx))) hs1
    refine ⟨st', (d :: left)[v.toNat] :: p, hs', ((hp.cons _).trans hel), ?_⟩
    have hall : ((d :: left).all (okN 59)) = true := List.all_eq_true.mpr hk
    have ec : dCall F__law_take (dRO 0 (dR (dLenO 2) dR0)) [some (.own st), things, some (.own (d :: left)), some (.own found)] = .ok (.int v, [some (.own st1), things, some (.own (d :: left)), some (.own found)]) := callS (ρ := [some (.own st), things, some (.own (d :: left)), some (.own found)]) rfl rfl e
    have hm : mid62 v = true := by unfold mid62; simp; simp only [List.length_cons] at hl v1; omega
    unfold whileD
    have t1 := neNil (st := st) (found := found) (l := d :: left) (o := things) (b := true) (show okN 60 (.lst (d :: left)) = true from hall) (by rw [eqD_cons_nil]; rfl)
    rw [t1]
    simp only [R.bind_ok, if_true]
    have t2 : dEx (dAppO 3 (dPopAt 2 (dCall F__law_take (dRO 0 (dR (dLenO 2) dR0))))) [some (.own st), things, some (.own (d :: left)), some (.own found)] = .ok (.nx, [some (.own st1), things, some (.own ((d :: left).eraseIdx v.toNat)), some (.own (found ++ [(d :: left)[v.toNat]]))]) := by
      have hpop : popAt (d :: left) v = some ((d :: left)[v.toNat], (d :: left).eraseIdx v.toNat) := by
        unfold popAt
        rw [if_pos hm, ixN_nat v0 v1]
        simp only [hget]
      unfold dEx dAppO dPopAt
      simp only [List.getElem?_cons_succ, List.getElem?_cons_zero, ec, R.bind_ok, hpop, List.set_cons_succ, List.set_cons_zero]
      rw [if_pos (by omega)]
      rfl
    rw [t2]
    simp only [R.bind_ok]
    rw [hw]
    simp
theorem dOp_ok {g : Dt → Dt → R Dt} {fa fb : De} {ρ ρ1 ρ2 : Ev} {d e z : Dt} (h1 : fa ρ = .ok (d, ρ1)) (h2 : fb ρ1 = .ok (e, ρ2)) (h3 : g d e = .ok z) : dOp g fa fb ρ = .ok (z, ρ2) := by
  unfold dOp
  rw [h1]
  simp only [R.bind_ok, h2, h3]
theorem dTB_ok {f : De} {ρ ρ1 : Ev} {b : Bool} (h : f ρ = .ok (.bl b, ρ1)) : dTB f ρ = .ok (b, ρ1) := by
  unfold dTB
  rw [h]; rfl
theorem dIf_t {c : DT} {f g : DS} {ρ ρ1 : Ev} (h : c ρ = .ok (true, ρ1)) : dIf c f g ρ = f ρ1 := by
  unfold dIf
  rw [h]; rfl
theorem dIf_f {c : DT} {f g : DS} {ρ ρ1 : Ev} (h : c ρ = .ok (false, ρ1)) : dIf c f g ρ = g ρ1 := by
  unfold dIf
  rw [h]; rfl
theorem dSeq_nx {f g : DS} {ρ ρ1 : Ev} (h : f ρ = .ok (.nx, ρ1)) : dSeq f g ρ = g ρ1 := by
  unfold dSeq
  rw [h]; rfl
theorem dSeq_rt {f g : DS} {ρ ρ1 : Ev} {d : Dt} (h : f ρ = .ok (.rt d, ρ1)) : dSeq f g ρ = .ok (.rt d, ρ1) := by
  unfold dSeq
  rw [h]; rfl
theorem dRet_ok {f : De} {ρ ρ1 : Ev} {d : Dt} (h : f ρ = .ok (d, ρ1)) : dRet f ρ = .ok (.rt d, ρ1) := by
  unfold dRet
  rw [h]; rfl
theorem dSet_ok {f : De} {i : Nat} {ρ ρ1 : Ev} {d : Dt} (h : f ρ = .ok (d, ρ1)) (hi : i < ρ1.length) : dSet i f ρ = .ok (.nx, ρ1.set i (some (.val d))) := by
  unfold dSet
  rw [h]
  simp only [R.bind_ok, hi, if_true]
theorem dSetN_ok {f : DN} {i : Nat} {ρ ρ1 : Ev} {d : List Dt} (h : f ρ = .ok (d, ρ1)) (hi : i < ρ1.length) : dSetN i f ρ = .ok (.nx, ρ1.set i (some (.own d))) := by
  unfold dSetN
  rw [h]
  simp only [R.bind_ok, hi, if_true]
theorem dFz_ok {f : DN} {ρ ρ1 : Ev} {d : List Dt} (h : f ρ = .ok (d, ρ1)) : dFz f ρ = .ok (.lst d, ρ1) := by
  unfold dFz
  rw [h]; rfl
theorem dEx_ok {f : De} {ρ ρ1 : Ev} {d : Dt} (h : f ρ = .ok (d, ρ1)) : dEx f ρ = .ok (.nx, ρ1) := by
  unfold dEx
  rw [h]; rfl
theorem dFn_ok {g : List Dt → R Dt} {f : De} {ρ ρ1 : Ev} {d z : Dt} (h : f ρ = .ok (d, ρ1)) (hg : g [d] = .ok z) : dFn g (dA f dA0) ρ = .ok (z, ρ1) := by
  unfold dFn dA dA0
  rw [h]
  simp only [R.bind_ok, hg]
theorem dTOr_f {f g : DT} {ρ ρ1 : Ev} (h : f ρ = .ok (false, ρ1)) : dTOr f g ρ = g ρ1 := by
  unfold dTOr
  rw [h]; rfl
theorem dTOr_t {f g : DT} {ρ ρ1 : Ev} (h : f ρ = .ok (true, ρ1)) : dTOr f g ρ = .ok (true, ρ1) := by
  unfold dTOr
  rw [h]; rfl
theorem dTAnd_t {f g : DT} {ρ ρ1 : Ev} (h : f ρ = .ok (true, ρ1)) : dTAnd f g ρ = g ρ1 := by
  unfold dTAnd
  rw [h]; rfl
theorem dTAnd_f {f g : DT} {ρ ρ1 : Ev} (h : f ρ = .ok (false, ρ1)) : dTAnd f g ρ = .ok (false, ρ1) := by
  unfold dTAnd
  rw [h]; rfl
theorem dTNot_ok {f : DT} {ρ ρ1 : Ev} {b : Bool} (h : f ρ = .ok (b, ρ1)) : dTNot f ρ = .ok (!b, ρ1) := by
  unfold dTNot
  rw [h]; rfl
theorem set_end {ρ0 : Ev} {o : Option B} {d : Dt} : gSet ρ0.length d (ρ0 ++ [o]) = .ok (ρ0 ++ [some (.val d)]) := by
  unfold gSet
  rw [if_pos (by simp)]
  simp
theorem comp_pure {α : Type} {u f : α → Dt} {fe : De} {ρ0 : Ev} : ∀ {l : List α} {o : Option B}, (∀ a ∈ l, fe (ρ0 ++ [some (.val (u a))]) = .ok (f a, ρ0 ++ [some (.val (u a))])) → ∃ o', compD (gSet ρ0.length) dTT fe (l.map u) (ρ0 ++ [o]) = .ok (l.map f, ρ0 ++ [o'])
  | [], o, _ => ⟨o, rfl⟩
  | a :: l, o, h => by
    obtain ⟨o', e⟩ := comp_pure (l := l) (o := some (.val (u a))) fun b hb => h b (by simp [hb])
    refine ⟨o', ?_⟩
    rw [List.map_cons, compD, set_end]
    simp only [R.bind_ok, dTT, if_true]
    rw [h a (by simp)]
    simp only [R.bind_ok]
    rw [e]
    rfl
theorem dComp_pure {α : Type} {u f : α → Dt} {fe : De} {ρ0 : Ev} {fi : DA} {l : List α} {ds : List Dt} (hi : fi ρ0 = .ok (ds, ρ0)) (hd : ds = l.map u) (hl : l.length ≤ 1000) (h : ∀ a ∈ l, fe (ρ0 ++ [some (.val (u a))]) = .ok (f a, ρ0 ++ [some (.val (u a))])) {j : Nat} (hj : j = ρ0.length) :
    dComp fi (gSet j) dTT fe 1 ρ0 = .ok (l.map f, ρ0) := by
  subst hd; subst hj
  obtain ⟨o', e⟩ := comp_pure (o := none) h
  unfold dComp
  rw [hi]
  simp only [R.bind_ok]
  rw [if_pos (by unfold fits; simp; omega)]
  show (match compD (gSet ρ0.length) dTT fe (l.map u) (ρ0 ++ [none]) with | .ok z => R.ok (z.1, z.2.take ρ0.length) | _ => .no) = _
  rw [e]
  simp
theorem eqI {a b : Int} : eqD (.int a) (.int b) = (a == b) := by rw [eqD]
theorem set_end1 {x : Option B} {rest : Ev} {o : Option B} {d : Dt} : gSet (rest.length + 1) d (x :: (rest ++ [o])) = .ok (x :: (rest ++ [some (.val d)])) := by
  unfold gSet
  rw [if_pos (by simp)]
  simp
theorem perm_int_inv {p : List Dt} {l : List Int} (h : p.Perm (l.map .int)) : ∃ q : List Int, q.Perm l ∧ p = q.map .int := by
  refine ⟨p.map fun d => match d with | .int i => i | _ => 0, ?_, ?_⟩
  · have := h.map fun d => match d with | .int i => i | _ => 0
    rw [List.map_map] at this
    have e : ((fun d => match d with | .int i => i | _ => 0) ∘ Dt.int) = (id : Int → Int) := rfl
    rw [e, List.map_id] at this
    exact this
  · rw [List.map_map]
    conv => lhs; rw [← List.map_id p]
    refine List.map_congr_left fun d hd => ?_
    obtain ⟨i, _, rfl⟩ := List.mem_map.mp (h.mem_iff.mp hd)
    rfl
noncomputable def isW : Dt → Bool
  | .int _ => true
  | _ => false
theorem whole_eval (d : Dt) : F_is_whole [.val d] = .ok (.bl (isW d), [.val .non]) := by
  cases d <;> simp [F_is_whole, runDef, d_is_whole, kinds, ownB, dRet, dAnd, dIsi, dVar, dNot, subT, tyD, backAll, isW]
theorem check_ok {n : Int} (h1 : 1 ≤ n) (h7 : n ≤ 7) : F_check_guests [.val (.int n)] = .ok (.non, [.val .non]) := by
  have e : dCall F_is_whole (dR (dVar 0) dR0) [some (.val (.int n))] = .ok (.bl true, [some (.val (.int n))]) := call1 (ρ' := [some (.val (.int n))]) rfl (whole_eval _)
  have a1 : decide (n < 1) = false := by simp; omega
  have a2 : decide (7 < n) = false := by simp; omega
  simp [F_check_guests, runDef, d_check_guests, kinds, ownB, dIf, dTOr, dTNot, dTB, e, dOp, dVar, dC, gCmp, a1, a2, dNx, backAll]
theorem check_bad {d : Dt} (h : isW d = false ∨ ∃ n, d = .int n ∧ (n < 1 ∨ 7 < n)) : F_check_guests [.val d] = .er 0 := by
  have e : dCall F_is_whole (dR (dVar 0) dR0) [some (.val d)] = .ok (.bl (isW d), [some (.val d)]) := call1 (ρ' := [some (.val d)]) rfl (whole_eval _)
  rcases h with h | ⟨n, rfl, h⟩
  · simp [F_check_guests, runDef, d_check_guests, kinds, ownB, dIf, dTOr, dTNot, dTB, e, h, dRaise, dA, dC, dA0, fits]
  · have hw : isW (.int n) = true := rfl
    by_cases h1 : n < 1
    · simp [F_check_guests, runDef, d_check_guests, kinds, ownB, dIf, dTOr, dTNot, dTB, e, hw, dOp, dVar, dC, gCmp, h1, dRaise, dA, dA0, fits]
    · have h7 : 7 < n := by omega
      simp [F_check_guests, runDef, d_check_guests, kinds, ownB, dIf, dTOr, dTNot, dTB, e, hw, dOp, dVar, dC, gCmp, h1, h7, dRaise, dA, dA0, fits]
noncomputable def isG (n : Int) : Dt → Bool
  | .int i => decide (0 ≤ i) && decide (i < n)
  | _ => false
theorem guest_eval (n : Int) (d : Dt) : F_is_guest [.val (.int n), .val d] = .ok (.bl (isG n d), [.val .non, .val .non]) := by
  have e : dCall F_is_whole (dR (dVar 1) dR0) [some (.val (.int n)), some (.val d)] = .ok (.bl (isW d), [some (.val (.int n)), some (.val d)]) := call1 (ρ' := [some (.val (.int n)), some (.val d)]) rfl (whole_eval _)
  cases d with
  | int i =>
    by_cases h : 0 ≤ i
    · simp [F_is_guest, runDef, d_is_guest, kinds, ownB, dRet, dAnd, e, isW, dChain, dC, dVar, gCmp, h, isG, backAll]
    · simp [F_is_guest, runDef, d_is_guest, kinds, ownB, dRet, dAnd, e, isW, dChain, dC, dVar, gCmp, h, isG, backAll]
  | _ => simp [F_is_guest, runDef, d_is_guest, kinds, ownB, dRet, dAnd, e, isW, isG, backAll]
theorem gEqI {neg : Bool} {i j : Int} : gEq neg (.int i) (.int j) = .ok (.bl (if neg then !(i == j) else (i == j))) := by
  rw [gEq_ok rfl rfl, eqI]
theorem gSet_end {ρ0 : Ev} {o : Option B} {d : Dt} : gSet ρ0.length d (ρ0 ++ [o]) = .ok (ρ0 ++ [some (.val d)]) := by
  unfold gSet
  rw [if_pos (by simp)]
  simp
theorem compD_filter {p : Dt → Bool} {f : Dt → Dt} {ft : DT} {fe : De} {ρ0 : Ev} : ∀ {l : List Dt} {o : Option B}, (∀ d ∈ l, ft (ρ0 ++ [some (.val d)]) = .ok (p d, ρ0 ++ [some (.val d)])) → (∀ d ∈ l, p d = true → fe (ρ0 ++ [some (.val d)]) = .ok (f d, ρ0 ++ [some (.val d)])) → ∃ o', compD (gSet ρ0.length) ft fe l (ρ0 ++ [o]) = .ok ((l.filter p).map f, ρ0 ++ [o'])
  | [], o, _, _ => ⟨o, rfl⟩
  | d :: l, o, h, h2 => by
    obtain ⟨o', e⟩ := compD_filter (l := l) (o := some (.val d)) (fun b hb => h b (List.mem_cons_of_mem _ hb)) (fun b hb => h2 b (List.mem_cons_of_mem _ hb))
    refine ⟨o', ?_⟩
    rw [compD, gSet_end]
    simp only [R.bind_ok]
    rw [h d (by simp)]
    simp only [R.bind_ok]
    cases hp : p d with
    | true =>
      simp only [if_true]
      rw [h2 d (by simp) hp]
      simp only [R.bind_ok]
      rw [e]
      simp [List.filter_cons, hp]
    | false =>
      simp only [Bool.false_eq_true, if_false]
      rw [e]
      simp [List.filter_cons, hp]
theorem dComp_filter {p : Dt → Bool} {f : Dt → Dt} {ft : DT} {fe : De} {ρ0 : Ev} {fi : DA} {l : List Dt} {j : Nat} (hi : fi ρ0 = .ok (l, ρ0)) (hj : j = ρ0.length) (hl : l.length ≤ 16777216) (h : ∀ d ∈ l, ft (ρ0 ++ [some (.val d)]) = .ok (p d, ρ0 ++ [some (.val d)])) (h2 : ∀ d ∈ l, p d = true → fe (ρ0 ++ [some (.val d)]) = .ok (f d, ρ0 ++ [some (.val d)])) :
    dComp fi (gSet j) ft fe 1 ρ0 = .ok ((l.filter p).map f, ρ0) := by
  subst hj
  obtain ⟨o', e⟩ := compD_filter (o := none) h h2
  unfold dComp
  rw [hi]
  simp only [R.bind_ok]
  rw [if_pos (by unfold fits; simpa using hl)]
  show (match compD (gSet ρ0.length) ft fe l (ρ0 ++ [none]) with | .ok z => R.ok (z.1, z.2.take ρ0.length) | _ => .no) = _
  rw [e]
  simp
theorem eqDs_map : ∀ a b : List Int, eqDs (a.map .int) (b.map .int) = (a == b)
  | [], [] => by rw [List.map_nil, eqDs]; rfl
  | [], b :: r => by rw [List.map_nil, List.map_cons, eqDs]; rfl; all_goals (intros; simp at *)
  | a :: r, [] => by rw [List.map_nil, List.map_cons, eqDs]; rfl; all_goals (intros; simp at *)
  | a :: r, b :: q => by rw [List.map_cons, List.map_cons, eqDs, eqI, eqDs_map r q]; rfl
theorem okN_ints (l : List Int) (n : Nat) : okN (n + 1) (.lst (l.map .int)) = true := by
  simp [okN]
noncomputable def rangeZ (n : Nat) : List Int := (List.range n).map fun (k : Nat) => (k : Int)
theorem rangeD_Z (n : Nat) : rangeD 0 n = (rangeZ n).map .int := by
  unfold rangeD rangeZ
  rw [List.map_map]
  refine List.map_congr_left fun k _ => ?_
  simp
theorem nodup_perm : ∀ (a b : List Int), a.Nodup → (∀ x ∈ a, x ∈ b) → b.length ≤ a.length → a.Perm b
  | [], b, _, _, h => by
    have : b = [] := List.length_eq_zero_iff.mp (by simpa using h)
    subst this; exact .refl _
  | x :: a, b, hn, hs, hl => by
    rw [List.nodup_cons] at hn
    have hx : x ∈ b := hs x (by simp)
    have hp := List.perm_cons_erase hx
    have hlen := hp.length_eq
    simp only [List.length_cons] at hlen hl
    have := nodup_perm a (b.erase x) hn.2 (fun y hy => (List.mem_erase_of_ne (fun (e : y = x) => hn.1 (e ▸ hy))).mpr (hs y (by simp [hy]))) (by omega)
    exact (this.cons x).trans hp.symm
theorem mem_rangeZ {n : Nat} {x : Int} : x ∈ rangeZ n ↔ 0 ≤ x ∧ x < n := by
  unfold rangeZ
  rw [List.mem_map]
  constructor
  · rintro ⟨k, hk, rfl⟩
    have := List.mem_range.mp hk
    omega
  · rintro ⟨h0, h1⟩
    exact ⟨x.toNat, List.mem_range.mpr (by omega), by omega⟩
theorem len_rangeZ (n : Nat) : (rangeZ n).length = n := by unfold rangeZ; simp
theorem rangeZ_nodup (n : Nat) : (rangeZ n).Nodup := by
  unfold rangeZ
  unfold List.Nodup
  rw [List.pairwise_map]
  refine List.Pairwise.imp (R := fun a b => a < b) (fun {a b} h => by omega) List.pairwise_lt_range
theorem atI_nat {α : Type} {l : List α} {v : Int} (h0 : 0 ≤ v) (h1 : v < l.length) : atI l v = l[v.toNat]? := by
  unfold atI
  rw [ixN_nat h0 h1]; rfl
theorem gIx_tup {l : List Dt} {v : Int} {d : Dt} (h0 : 0 ≤ v) (h1 : v < l.length) (hd : l[v.toNat]? = some d) : gIx (.tup l) (.int v) = .ok d := by
  unfold gIx
  simp only [atI_nat h0 h1, hd]
theorem gIx_lst {l : List Dt} {v : Int} {d : Dt} (h0 : 0 ≤ v) (h1 : v < l.length) (hd : l[v.toNat]? = some d) : gIx (.lst l) (.int v) = .ok d := by
  unfold gIx
  simp only [atI_nat h0 h1, hd]
theorem callS3 {F : FD} {fb fc : De} {i : Nat} {ρ : Ev} {d d2 y : Dt} {st st' : List Dt} {l : List B} (hi : ρ[i]? = some (some (.own st))) (h : fb ρ = .ok (d, ρ)) (h2 : fc ρ = .ok (d2, ρ)) (hF : F [.own st, .val d, .val d2] = .ok (y, .own st' :: l)) : dCall F (dRO i (dR fb (dR fc dR0))) ρ = .ok (y, ρ.set i (some (.own st'))) := by
  have hp : ∀ k, posOf [.s i, .d d, .d d2] k = if i = k then some 0 else none := by
    intro k
    unfold posOf posFrom
    split <;> rfl
  have u : uniq [.s i, .d d, .d d2] = true := by
    unfold uniq uniqFrom
    rw [hp]
    simp [uniqFrom]
  have hput : ∀ (ρ : Ev) (k : Nat) (b : B) (bs : List B), k ≤ i → putB [.s i, .d d, .d d2] (b :: bs) k ρ = ρ.set (i - k) (some b) := by
    intro ρ
    induction ρ with
    | nil => intro k b bs _; simp [putB]
    | cons o r ih =>
      intro k b bs h
      unfold putB
      rw [hp]
      by_cases e : i = k
      · subst e
        simp only [if_true, Nat.sub_self, List.set_cons_zero]
        have : ∀ (r : Ev) (m : Nat), i < m → putB [.s i, .d d, .d d2] (b :: bs) m r = r := by
          intro r
          induction r with
          | nil => intro m _; rfl
          | cons o r ih =>
            intro m hm
            unfold putB
            rw [hp, if_neg (by omega), ih (m + 1) (by omega)]
        rw [this r (i + 1) (by omega)]; rfl
      · rw [if_neg e, ih (k + 1) b bs (by omega)]
        have : i - k = (i - (k + 1)) + 1 := by omega
        rw [this, List.set_cons_succ]
  unfold dCall dRO dR dR0
  simp only [hi, h, h2, R.bind_ok, u, if_true, resolve, ownB, hF]
  rw [hput _ _ _ _ (Nat.zero_le _)]
  rfl
theorem dA_ok {fa : De} {fr : DA} {ρ ρ1 ρ2 : Ev} {d : Dt} {ds : List Dt} (h1 : fa ρ = .ok (d, ρ1)) (h2 : fr ρ1 = .ok (ds, ρ2)) : dA fa fr ρ = .ok (d :: ds, ρ2) := by
  unfold dA
  rw [h1]; simp only [R.bind_ok]
  rw [h2]; rfl
theorem dLst_ok {f : DA} {ρ ρ1 : Ev} {ds : List Dt} (h : f ρ = .ok (ds, ρ1)) (hl : ds.length ≤ 16777216) : dLst f ρ = .ok (ds, ρ1) := by
  unfold dLst
  rw [h]; simp only [R.bind_ok]
  rw [if_pos (by unfold fits; simpa using hl)]
theorem dTup_ok {f : DA} {ρ ρ1 : Ev} {ds : List Dt} (h : f ρ = .ok (ds, ρ1)) (hl : ds.length ≤ 16777216) : dTup f ρ = .ok (.tup ds, ρ1) := by
  unfold dTup
  rw [h]; simp only [R.bind_ok]
  rw [if_pos (by unfold fits; simpa using hl)]
theorem cell_eval {ns : List Int} {k : Nat} : ∃ c : Int, F__law_cell_at [.val (.scr ns), .val (.int k)] = .ok (.int c, [.val .non, .val .non]) := by
  have e0 : dTB (dOp gLt (dVar 1) (dFn gLen (dA (dVar 0) dA0))) [some (.val (.scr ns)), some (.val (.int k))] = .ok (decide ((k : Int) < ns.length), [some (.val (.scr ns)), some (.val (.int k))]) := dTB_ok (dOp_ok (d := .int k) (e := .int ns.length) rfl rfl rfl)
  by_cases h : k < ns.length
  · refine ⟨ns[k], runDef_rt (ρ' := [some (.val (.scr ns)), some (.val (.int k))]) rfl ?_ rfl⟩
    show d__law_cell_at [some (.val (.scr ns)), some (.val (.int k))] = _
    unfold d__law_cell_at
    refine dSeq_rt ?_
    rw [dIf_t (by rw [e0, decide_eq_true (by omega)])]
    refine dRet_ok (dOp_ok (d := .scr ns) (e := .int k) rfl rfl ?_)
    unfold gIx
    simp only [atI_nat (l := ns) (v := (k : Int)) (by omega) (by omega), Int.toNat_natCast, List.getElem?_eq_getElem h]
  · refine ⟨0, runDef_rt (ρ' := [some (.val (.scr ns)), some (.val (.int k))]) rfl ?_ rfl⟩
    show d__law_cell_at [some (.val (.scr ns)), some (.val (.int k))] = _
    unfold d__law_cell_at
    rw [dSeq_nx (ρ1 := [some (.val (.scr ns)), some (.val (.int k))]) (by rw [dIf_f (by rw [e0, decide_eq_false (by omega)])]; rfl)]
    rfl
theorem state_eval {ns : List Int} {k : Nat} : ∃ st, St st ∧ F__law_state [.val (.scr ns), .val (.int k)] = .ok (.lst st, [.val .non, .val .non]) := by
  obtain ⟨c, hc⟩ := cell_eval (ns := ns) (k := k)
  have e1 : dSet 2 (dCall F__law_cell_at (dR (dVar 0) (dR (dVar 1) dR0))) [some (.val (.scr ns)), some (.val (.int k)), none] = .ok (.nx, [some (.val (.scr ns)), some (.val (.int k)), some (.val (.int c))]) := dSet_ok (call2 (ρ' := [some (.val (.scr ns)), some (.val (.int k)), none]) (ρ'' := [some (.val (.scr ns)), some (.val (.int k)), none]) rfl rfl hc) (by simp)
  have ep : dOp gPow (dC (.int 10)) (dC (.int 18)) [some (.val (.scr ns)), some (.val (.int k)), some (.val (.int c))] = .ok (.int 1000000000000000000, [some (.val (.scr ns)), some (.val (.int k)), some (.val (.int c))]) := by
    refine dOp_ok rfl rfl ?_
    show (if 0 ≤ (18 : Int) ∧ (18 : Int) ≤ 1000 ∧ (10 : Int).natAbs < 18446744073709551616 then R.ok (Dt.int ((10 : Int) ^ (18 : Int).toNat)) else R.no) = _
    rw [if_pos (by decide)]
    rfl
  have e2 : dTB (dOp gGe (dVar 2) (dOp gPow (dC (.int 10)) (dC (.int 18)))) [some (.val (.scr ns)), some (.val (.int k)), some (.val (.int c))] = .ok (decide ((1000000000000000000 : Int) ≤ c), [some (.val (.scr ns)), some (.val (.int k)), some (.val (.int c))]) := dTB_ok (dOp_ok (d := .int c) rfl ep rfl)
  by_cases h : (1000000000000000000 : Int) ≤ c
  · refine ⟨[.int (c - 1000000000000000000), .bl true], ⟨_, _, rfl⟩, runDef_rt (ρ' := [some (.val (.scr ns)), some (.val (.int k)), some (.val (.int c))]) rfl ?_ rfl⟩
    show d__law_state [some (.val (.scr ns)), some (.val (.int k)), none] = _
    unfold d__law_state
    rw [dSeq_nx e1]
    refine dSeq_rt ?_
    rw [dIf_t (by rw [e2, decide_eq_true h])]
    unfold dRetL dLst
    rw [dA, dOp_ok (d := .int c) (z := .int (c - 1000000000000000000)) rfl ep rfl]
    rfl
  · refine ⟨[.int (c % 2147483647), .bl false], ⟨_, _, rfl⟩, runDef_rt (ρ' := [some (.val (.scr ns)), some (.val (.int k)), some (.val (.int c))]) rfl ?_ rfl⟩
    show d__law_state [some (.val (.scr ns)), some (.val (.int k)), none] = _
    unfold d__law_state
    rw [dSeq_nx e1, dSeq_nx (ρ1 := [some (.val (.scr ns)), some (.val (.int k)), some (.val (.int c))]) (by rw [dIf_f (by rw [e2, decide_eq_false h])]; rfl)]
    unfold dRetL dLst
    rw [dA, dOp_ok (d := .int c) (z := .int (c % 2147483647)) rfl rfl rfl]
    rfl
theorem callN2 {F : FD} {fa fb : De} {ρ ρ' ρ'' : Ev} {d e : Dt} {y : List Dt} {l : List B} (h : fa ρ = .ok (d, ρ')) (h2 : fb ρ' = .ok (e, ρ'')) (hF : F [.val d, .val e] = .ok (.lst y, l)) : dCallN F (dR fa (dR fb dR0)) ρ = .ok (y, ρ'') := by
  unfold dCallN dR dR0
  rw [h]
  simp only [R.bind_ok, h2, uniq, uniqFrom, if_true, resolve, hF]
  rw [putB_dd]
theorem for_keep {g : DG} {body : DS} {I : Ev → Prop} : ∀ {ds : List Dt} {ρ : Ev}, (∀ d ∈ ds, ∀ ρ, I ρ → ∃ ρ1 ρ2, g d ρ = .ok ρ1 ∧ body ρ1 = .ok (.nx, ρ2) ∧ I ρ2) → I ρ → ∃ ρ', I ρ' ∧ forD g body ds ρ = .ok (.nx, ρ')
  | [], ρ, _, h => ⟨ρ, h, rfl⟩
  | d :: ds, ρ, hb, h => by
    obtain ⟨ρ1, ρ2, e1, e2, h2⟩ := hb d (by simp) ρ h
    obtain ⟨ρ', h', e⟩ := for_keep (ds := ds) (ρ := ρ2) (fun c hc => hb c (List.mem_cons_of_mem _ hc)) h2
    refine ⟨ρ', h', ?_⟩
    rw [forD, e1]
    simp only [R.bind_ok]
    rw [e2]
    exact e
theorem call2_er {F : FD} {fa fb : De} {ρ ρ' ρ'' : Ev} {d e : Dt} {n : Nat} (h : fa ρ = .ok (d, ρ')) (h2 : fb ρ' = .ok (e, ρ'')) (hF : F [.val d, .val e] = .er n) : dCall F (dR fa (dR fb dR0)) ρ = .er n := by
  unfold dCall dR dR0
  rw [h]
  simp only [R.bind_ok, h2, uniq, uniqFrom, if_true, resolve, hF, R.bind_er]
end Lw
end
section
set_option Elab.async false
set_option linter.all false
set_option maxRecDepth 100000
set_option maxHeartbeats 1000000
namespace Lw
open PySem PySem.Spec L2 PV
noncomputable def tz (p : List Int) : Dt := .tup (p.map .int)
theorem okN_all_ints (l : List Int) (n : Nat) : (l.map Dt.int).all (okN n) = true := by
  rw [List.all_eq_true]
  intro d hd
  obtain ⟨i, _, rfl⟩ := List.mem_map.mp hd
  cases n <;> rfl
theorem cut_mid {α : Type} {l : List α} {f m : Nat} (h : f ≤ l.length) : cutD l (some (f : Int)) (some ((f : Int) + m)) = (l.drop f).take m := by
  unfold cutD
  rw [show (f : Int) + m = ((f + m : Nat) : Int) from rfl, HT.sIx_nat, HT.sIx_nat, Nat.min_eq_left h]
  by_cases z : f + m ≤ l.length
  · rw [Nat.min_eq_left z, show f + m - f = m by omega]
  · rw [Nat.min_eq_right (by omega), List.take_of_length_le (by simp), List.take_of_length_le (by simp; omega)]
theorem eqDs_bools : ∀ a b : List Bool, eqDs (a.map .bl) (b.map .bl) = (a == b)
  | [], [] => by rw [List.map_nil, eqDs]; rfl
  | [], b :: r => by rw [List.map_nil, List.map_cons, eqDs]; rfl; all_goals (intros; simp at *)
  | a :: r, [] => by rw [List.map_nil, List.map_cons, eqDs]; rfl; all_goals (intros; simp at *)
  | a :: r, b :: q => by rw [List.map_cons, List.map_cons, eqDs, eqD, eqDs_bools r q]; rfl
theorem okN_bools (l : List Bool) (n : Nat) : okN (n + 1) (.lst (l.map .bl)) = true := by
  simp [okN]
theorem inD_any (g : Int) (p : List Int) : inD (.int g) (p.map .int) = p.any fun x => x == g := by
  unfold inD
  rw [List.any_map]
  congr 1
noncomputable def dRepC (x : List Dt) (k : Int) (ρ : Ev) : R (List Dt × Ev) := if mid62 k = true ∧ x.length * k.toNat ≤ 16777216 then .ok ((List.replicate k.toNat x).flatten, ρ) else .no
theorem dRep_C {fa fb : De} {ρ ρ1 ρ2 : Ev} {x : List Dt} {k : Int} (h0 : fa ρ = .ok (.lst x, ρ1)) (h : fb ρ1 = .ok (.int k, ρ2)) : dRep fa fb ρ = dRepC x k ρ2 := by
  unfold dRep dRepC
  rw [h0]
  simp only [R.bind_ok]
  rw [h]
  rfl
theorem dRepC_ok {x : List Dt} {k : Int} {ρ : Ev} (hc : mid62 k = true ∧ x.length * k.toNat ≤ 16777216) : dRepC x k ρ = .ok ((List.replicate k.toNat x).flatten, ρ) := if_pos hc
theorem mid_small {m : Nat} (hm : m ≤ 1000) : mid62 (m : Int) = true := by
  unfold mid62
  rw [Bool.and_eq_true, decide_eq_true_eq, decide_eq_true_eq]
  omega
noncomputable def Pty (n : Nat) (p : List Int) : Prop := p ≠ [] ∧ p.Pairwise (· < ·) ∧ ∀ x ∈ p, 0 ≤ x ∧ x < n
theorem comp_stf {ft : DT} {rest : Ev} : ∀ {l : List Dt} {st : List Dt} {o : Option B}, (∀ d ∈ l, ∀ st, St st → ∃ b st', St st' ∧ ft (some (.own st) :: (rest ++ [some (.val d)])) = .ok (b, some (.own st') :: (rest ++ [some (.val d)]))) → St st →
    ∃ ys st' o', St st' ∧ ys.Sublist l ∧ compD (gSet (rest.length + 1)) ft (dVar (rest.length + 1)) l (some (.own st) :: (rest ++ [o])) = .ok (ys, some (.own st') :: (rest ++ [o']))
  | [], st, o, _, hs => ⟨[], st, o, hs, .slnil, rfl⟩
  | d :: l, st, o, h, hs => by
    obtain ⟨b, st1, hs1, e1⟩ := h d (by simp) st hs
    obtain ⟨ys, st', o', hs', hp, e⟩ := comp_stf (l := l) (st := st1) (o := some (.val d)) (fun b hb => h b (List.mem_cons_of_mem _ hb)) hs1
    have hv : dVar (rest.length + 1) (some (.own st1) :: (rest ++ [some (.val d)])) = .ok (d, some (.own st1) :: (rest ++ [some (.val d)])) := by
      simp [dVar]
    cases b with
    | true =>
      refine ⟨d :: ys, st', o', hs', hp.cons_cons d, ?_⟩
      rw [compD, set_end1]
      simp only [R.bind_ok]
      rw [e1]
      simp only [R.bind_ok, if_true]
      rw [hv]
      simp only [R.bind_ok]
      rw [e]
      rfl
    | false =>
      refine ⟨ys, st', o', hs', hp.cons d, ?_⟩
      rw [compD, set_end1]
      simp only [R.bind_ok]
      rw [e1]
      simp only [R.bind_ok, Bool.false_eq_true, if_false]
      exact e
theorem rangeZ_lt (n : Nat) : (rangeZ n).Pairwise (· < ·) := by
  unfold rangeZ
  rw [List.pairwise_map]
  refine List.Pairwise.imp (R := fun a b => a < b) (fun {a b} h => by omega) List.pairwise_lt_range
theorem takeC {rest : Ev} {st : List Dt} {fb : De} {m : Int} {v : Int} {st' : List Dt} (e : F__law_take [.own st, .val (.int m)] = .ok (.int v, [.own st', .val .non])) (h : fb (some (.own st) :: rest) = .ok (.int m, some (.own st) :: rest)) : dCall F__law_take (dRO 0 (dR fb dR0)) (some (.own st) :: rest) = .ok (.int v, some (.own st') :: rest) :=
  callS (ρ := some (.own st) :: rest) rfl h e
theorem fits_ok {α : Type} {l : List α} (h : l.length ≤ 1000) : fits l = true := by
  unfold fits
  rw [decide_eq_true_eq]
  omega
noncomputable def rngC (j : Int) (ρ : Ev) : R (List Dt × Ev) := if mid62 j = true then .ok (rangeD 0 j.toNat, ρ) else .no
theorem rngC_ok {j : Int} {ρ : Ev} (h : mid62 j = true) : rngC j ρ = .ok (rangeD 0 j.toNat, ρ) := if_pos h
theorem rng1_C {fa : De} {ρ ρ1 : Ev} {j : Int} (h : fa ρ = .ok (.int j, ρ1)) : dRng1 fa ρ = rngC j ρ1 := by
  unfold dRng1 rngC
  rw [h]
  rfl
theorem rng1_ok {fa : De} {ρ ρ1 : Ev} {j : Nat} (h : fa ρ = .ok (.int j, ρ1)) (hj : j ≤ 1000) : dRng1 fa ρ = .ok (rangeD 0 j, ρ1) := by
  rw [rng1_C h, rngC_ok (mid_small hj), Int.toNat_natCast]
noncomputable def Ptys (n : Nat) (ps : List (List Int)) : Prop := ∀ p ∈ ps, Pty n p
noncomputable def lp (ps : List (List Int)) : List Dt := ps.map tz
theorem lrng_ok {fa : De} {ρ ρ1 : Ev} {n : Nat} (h : fa ρ = .ok (.int n, ρ1)) (hn : n ≤ 1000) : dLRng fa ρ = .ok ((rangeZ n).map .int, ρ1) := by
  have hc : (0 : Int) ≤ n ∧ (n : Int) ≤ 16777216 := by omega
  unfold dLRng
  rw [h]
  show (if 0 ≤ (n : Int) ∧ (n : Int) ≤ 16777216 then R.ok (rangeD 0 (n : Int).toNat, ρ1) else .no) = _
  rw [if_pos hc, Int.toNat_natCast, rangeD_Z]
theorem bools_of {α : Type} (f : α → Bool) : ∀ l : List α, bools (l.map fun d => .bl (f d)) = some (l.map f)
  | [] => rfl
  | a :: r => by rw [List.map_cons, bools, bools_of f r]; rfl
theorem all_ok {α : Type} (f : α → Bool) (l : List α) : gAll [.lst (l.map fun d => .bl (f d))] = .ok (.bl (l.all f)) := by
  unfold gAll
  simp only [bools_of]
  rw [List.all_map]
  rfl
theorem asc_iff : ∀ l : List Int, l.Pairwise (· < ·) ↔ ∀ k (h : k + 1 < l.length), l[k] < l[k + 1]
  | [] => by simp
  | [a] => by simp
  | a :: b :: r => by
    rw [List.pairwise_cons, asc_iff (b :: r)]
    constructor
    · rintro ⟨h1, h2⟩ k hk
      cases k with
      | zero => exact h1 b (by simp)
      | succ k => exact h2 k (by simpa using hk)
    · intro h
      have h2 : ∀ k (hk : k + 1 < (b :: r).length), (b :: r)[k] < (b :: r)[k + 1] := fun k hk => h (k + 1) (by simpa using hk)
      refine ⟨fun x hx => ?_, h2⟩
      have hab : a < b := h 0 (by simp)
      have := (asc_iff (b :: r)).mpr h2
      rw [List.pairwise_cons] at this
      rcases List.mem_cons.mp hx with rfl | hx
      · exact hab
      · have := this.1 x hx; omega
theorem rises_eval (p : List Int) (hl : p.length ≤ 1000) : F_rises [.val (tz p)] = .ok (.bl (decide (p.Pairwise (· < ·))), [.val .non]) := by
  let ρ0 : Ev := [some (.val (tz p))]
  have elen : dFn gLen (dA (dVar 0) dA0) ρ0 = .ok (.int p.length, ρ0) := dFn_ok (d := tz p) rfl (by simp [tz, gLen])
  obtain ⟨m, hm, em⟩ : ∃ m : Nat, m = p.length - 1 ∧ dRng1 (dOp gSub (dFn gLen (dA (dVar 0) dA0)) (dC (.int 1))) ρ0 = .ok (rangeD 0 m, ρ0) := by
    refine ⟨p.length - 1, rfl, ?_⟩
    have es : dOp gSub (dFn gLen (dA (dVar 0) dA0)) (dC (.int 1)) ρ0 = .ok (.int ((p.length : Int) - 1), ρ0) := dOp_ok elen rfl rfl
    cases p with
    | nil => rfl
    | cons a r =>
      have e' : ((a :: r).length : Int) - 1 = ((r.length : Nat) : Int) := by simp
      rw [e'] at es
      rw [rng1_ok es (by simp at hl; omega)]
      rfl
  let f : Nat → Bool := fun k => decide (p.getD k 0 < p.getD (k + 1) 0)
  have hc : dComp (dRng1 (dOp gSub (dFn gLen (dA (dVar 0) dA0)) (dC (.int 1)))) (gSet 1) dTT (dOp gLt (dOp gIx (dVar 0) (dVar 1)) (dOp gIx (dVar 0) (dOp gAddI (dVar 1) (dC (.int 1))))) 1 ρ0 = .ok ((List.range m).map fun k => .bl (f k), ρ0) := by
    refine dComp_pure (l := List.range m) (u := fun k => .int (0 + (k : Nat))) (f := fun k => .bl (f k)) (ds := rangeD 0 m) em rfl (by rw [List.length_range]; omega) (fun k hk => ?_) rfl
    have hkm := List.mem_range.mp hk
    show dOp gLt (dOp gIx (dVar 0) (dVar 1)) (dOp gIx (dVar 0) (dOp gAddI (dVar 1) (dC (.int 1)))) [some (.val (tz p)), some (.val (.int (0 + (k : Nat))))] = _
    have hk1 : k < p.length := by omega
    have hk2 : k + 1 < p.length := by omega
    have g1 : gIx (tz p) (.int (0 + (k : Nat))) = .ok (.int (p.getD k 0)) := by
      refine gIx_tup (by omega) (by simp; omega) ?_
      rw [show (0 + ((k : Nat) : Int)).toNat = k by omega, List.getElem?_map, List.getElem?_eq_getElem hk1, List.getD_eq_getElem?_getD, List.getElem?_eq_getElem hk1]
      rfl
    have g2 : gIx (tz p) (.int (0 + (k : Nat) + 1)) = .ok (.int (p.getD (k + 1) 0)) := by
      refine gIx_tup (by omega) (by simp; omega) ?_
      rw [show (0 + ((k : Nat) : Int) + 1).toNat = k + 1 by omega, List.getElem?_map, List.getElem?_eq_getElem hk2, List.getD_eq_getElem?_getD, List.getElem?_eq_getElem hk2]
      rfl
    exact dOp_ok (dOp_ok rfl rfl g1) (dOp_ok rfl (dOp_ok rfl rfl rfl) g2) rfl
  refine runDef_rt (ρ' := ρ0) rfl ?_ rfl
  show d_rises ρ0 = _
  unfold d_rises
  refine dRet_ok (dFn_ok (dFz_ok hc) ?_)
  rw [all_ok]
  congr 2
  rw [Bool.eq_iff_iff, List.all_eq_true, decide_eq_true_eq, asc_iff]
  constructor
  · intro h k hk
    have := h k (List.mem_range.mpr (by omega))
    simp only [f, decide_eq_true_eq, List.getD_eq_getElem?_getD, List.getElem?_eq_getElem hk, List.getElem?_eq_getElem (show k < p.length by omega), Option.getD_some] at this
    exact this
  · intro h k hk
    have hkm := List.mem_range.mp hk
    have hk2 : k + 1 < p.length := by omega
    have := h k hk2
    simp only [f, decide_eq_true_eq, List.getD_eq_getElem?_getD, List.getElem?_eq_getElem hk2, List.getElem?_eq_getElem (show k < p.length by omega), Option.getD_some]
    exact this
theorem are_eval (n : Int) (d : Dt) (hl : ∀ l, d = .tup l → l.length ≤ 1000) : F_are_guests [.val (.int n), .val d] = .ok (.bl (match d with | .tup l => l.all (isG n) | _ => false), [.val .non, .val .non]) := by
  cases d with
  | tup l =>
    let ρ0 : Ev := [some (.val (.int n)), some (.val (.tup l))]
    have hc : dComp (dIt (dVar 1)) (gSet 2) dTT (dCall F_is_guest (dR (dVar 0) (dR (dVar 2) dR0))) 1 ρ0 = .ok (l.map fun x => .bl (isG n x), ρ0) := by
      refine dComp_pure (l := l) (u := id) (f := fun x => .bl (isG n x)) (ds := l) rfl (by rw [List.map_id]) (hl l rfl) (fun x hx => ?_) rfl
      exact call2 (ρ' := [some (.val (.int n)), some (.val (.tup l)), some (.val x)]) (ρ'' := [some (.val (.int n)), some (.val (.tup l)), some (.val x)]) rfl rfl (guest_eval n x)
    refine runDef_rt (ρ' := ρ0) rfl ?_ rfl
    show d_are_guests ρ0 = _
    unfold d_are_guests
    refine dRet_ok ?_
    unfold dAnd
    have e1 : dIsi "tuple" (dVar 1) ρ0 = .ok (.bl true, ρ0) := by simp [dIsi, dVar, ρ0, subT, tyD]
    rw [e1]
    simp only [R.bind_ok]
    exact dFn_ok (dFz_ok hc) (all_ok _ _)
  | _ => simp [F_are_guests, runDef, d_are_guests, kinds, ownB, dRet, dAnd, dIsi, dVar, subT, tyD, backAll]
theorem isG_ints {n : Int} : ∀ {l : List Dt}, l.all (isG n) = true → ∃ zs : List Int, l = zs.map .int ∧ ∀ x ∈ zs, 0 ≤ x ∧ x < n
  | [], _ => ⟨[], rfl, by simp⟩
  | d :: r, h => by
    rw [List.all_cons, Bool.and_eq_true] at h
    obtain ⟨zs, rfl, hz⟩ := isG_ints h.2
    have h1 := h.1
    unfold isG at h1
    split at h1
    · rename_i i
      simp only [Bool.and_eq_true, decide_eq_true_eq] at h1
      exact ⟨i :: zs, rfl, fun x hx => by
        rcases List.mem_cons.mp hx with rfl | hx
        · exact h1
        · exact hz x hx⟩
    · cases h1
noncomputable def ptyB (n : Int) : Dt → Bool
  | .tup l => l.all (isG n) && (match zsOf l with | some zs => decide (0 < zs.length) && decide (zs.Pairwise (· < ·)) | none => false)
  | _ => false
theorem isparty_eval {n : Nat} (h1 : 1 ≤ n) (h7 : n ≤ 7) (d : Dt) (hl : ∀ l, d = .tup l → l.length ≤ 1000) : F_is_party [.val (.int n), .val d] = .ok (.bl (ptyB n d), [.val .non, .val .non]) := by
  let ρ0 : Ev := [some (.val (.int n)), some (.val d)]
  have ec : dEx (dCall F_check_guests (dR (dVar 0) dR0)) ρ0 = .ok (.nx, ρ0) := dEx_ok (call1 (ρ' := ρ0) rfl (check_ok (by omega) (by omega)))
  refine runDef_rt (ρ' := ρ0) rfl ?_ rfl
  show d_is_party ρ0 = _
  unfold d_is_party
  rw [dSeq_nx ec]
  refine dRet_ok ?_
  have ea : dCall F_are_guests (dR (dVar 0) (dR (dVar 1) dR0)) ρ0 = .ok (.bl (match d with | .tup l => l.all (isG n) | _ => false), ρ0) := call2 (ρ' := ρ0) (ρ'' := ρ0) rfl rfl (are_eval n d hl)
  unfold dAnd
  rw [ea]
  simp only [R.bind_ok]
  cases d with
  | tup l =>
    cases ha : l.all (isG n) with
    | false =>
      simp only [ha]
      show R.ok (Dt.bl false, ρ0) = R.ok (Dt.bl (ptyB n (.tup l)), ρ0)
      have : ptyB n (.tup l) = false := by
        show (l.all (isG n) && _) = false
        rw [ha]; rfl
      rw [this]
    | true =>
      obtain ⟨zs, rfl, hz⟩ := isG_ints ha
      simp only [ha]
      have hpt : ptyB n (.tup (zs.map .int)) = (decide (0 < zs.length) && decide (zs.Pairwise (· < ·))) := by
        show ((zs.map Dt.int).all (isG n) && (match zsOf (zs.map Dt.int) with | some zs => decide (0 < zs.length) && decide (zs.Pairwise (· < ·)) | none => false)) = _
        rw [ha, zs_map]
        rfl
      rw [hpt]
      have hlz : zs.length ≤ 1000 := by have := hl _ rfl; simpa using this
      have e2 : dOp gGt (dFn gLen (dA (dVar 1) dA0)) (dC (.int 0)) ρ0 = .ok (.bl (decide (0 < zs.length)), ρ0) := by
        refine dOp_ok (d := .int zs.length) (e := .int 0) (ρ1 := ρ0) (dFn_ok (d := .tup (zs.map .int)) rfl (by simp [gLen])) rfl ?_
        show R.ok (Dt.bl (decide ((0 : Int) < (zs.length : Nat)))) = _
        congr 2
        by_cases h : 0 < zs.length
        · rw [decide_eq_true h, decide_eq_true (by omega)]
        · rw [decide_eq_false h, decide_eq_false (by omega)]
      rw [e2]
      simp only [R.bind_ok]
      cases hp : decide (0 < zs.length) with
      | false => simp
      | true =>
        simp only [Bool.true_and]
        exact call1 (ρ' := ρ0) rfl (rises_eval zs hlz)
  | _ => rfl
theorem ptyB_tz {n : Nat} {p : List Int} (h : Pty n p) : ptyB n (tz p) = true := by
  obtain ⟨h1, h2, h3⟩ := h
  unfold ptyB tz
  simp only [zs_map, Bool.and_eq_true, decide_eq_true_eq, List.all_eq_true]
  refine ⟨fun d hd => ?_, List.length_pos_iff.mpr h1, h2⟩
  obtain ⟨i, hi, rfl⟩ := List.mem_map.mp hd
  have := h3 i hi
  unfold isG
  simp only [Bool.and_eq_true, decide_eq_true_eq]
  exact this
noncomputable def ptysB (n : Int) : Dt → Bool
  | .lst l => decide (l.length ≤ 8) && l.all (ptyB n)
  | _ => false
noncomputable def Lens : Dt → Prop
  | .lst l => ∀ d ∈ l, ∀ t, d = .tup t → t.length ≤ 1000
  | .scr _ => False
  | _ => True
theorem isparties_eval {n : Nat} (h1 : 1 ≤ n) (h7 : n ≤ 7) (d : Dt) (hl : Lens d) : F_is_parties [.val (.int n), .val d] = .ok (.bl (ptysB n d), [.val .non, .val .non]) := by
  let ρ0 : Ev := [some (.val (.int n)), some (.val d)]
  have ec : dEx (dCall F_check_guests (dR (dVar 0) dR0)) ρ0 = .ok (.nx, ρ0) := dEx_ok (call1 (ρ' := ρ0) rfl (check_ok (by omega) (by omega)))
  refine runDef_rt (ρ' := ρ0) rfl ?_ rfl
  show d_is_parties ρ0 = _
  unfold d_is_parties
  rw [dSeq_nx ec]
  cases d with
  | lst l =>
    have t1 : dTNot (dTB (dIsi "list" (dVar 1))) ρ0 = .ok (false, ρ0) := by simp [dTNot, dTB, dIsi, dVar, ρ0, subT, tyD]
    have t2 : dTB (dOp gGt (dFn gLen (dA (dVar 1) dA0)) (dC (.int 8))) ρ0 = .ok (decide (8 < l.length), ρ0) := by
      refine dTB_ok (dOp_ok (d := .int l.length) (e := .int 8) (ρ1 := ρ0) (dFn_ok (d := .lst l) rfl rfl) rfl ?_)
      show R.ok (Dt.bl (decide ((8 : Int) < (l.length : Nat)))) = _
      congr 2
      by_cases h : 8 < l.length
      · rw [decide_eq_true h, decide_eq_true (by omega)]
      · rw [decide_eq_false h, decide_eq_false (by omega)]
    by_cases h8 : l.length ≤ 8
    · rw [decide_eq_false (by omega)] at t2
      rw [dSeq_nx (ρ1 := ρ0) (by rw [dIf_f (by rw [dTOr_f t1]; exact t2)]; rfl)]
      have hc : dComp (dIt (dVar 1)) (gSet 2) dTT (dCall F_is_party (dR (dVar 0) (dR (dVar 2) dR0))) 1 ρ0 = .ok (l.map fun x => .bl (ptyB n x), ρ0) := by
        refine dComp_pure (l := l) (u := id) (f := fun x => .bl (ptyB n x)) (ds := l) rfl (by rw [List.map_id]) (by omega) (fun x hx => ?_) rfl
        exact call2 (ρ' := [some (.val (.int n)), some (.val (.lst l)), some (.val x)]) (ρ'' := [some (.val (.int n)), some (.val (.lst l)), some (.val x)]) rfl rfl (isparty_eval h1 h7 x (hl x hx))
      refine dRet_ok (dFn_ok (dFz_ok hc) ?_)
      rw [all_ok]
      have : ptysB n (.lst l) = l.all (ptyB n) := by
        show (decide (l.length ≤ 8) && l.all (ptyB n)) = _
        rw [decide_eq_true h8, Bool.true_and]
      rw [this]
    · rw [decide_eq_true (by omega)] at t2
      rw [dSeq_rt (ρ1 := ρ0) (d := .bl false) (by rw [dIf_t (by rw [dTOr_f t1]; exact t2)]; rfl)]
      have : ptysB n (.lst l) = false := by
        show (decide (l.length ≤ 8) && l.all (ptyB n)) = _
        rw [decide_eq_false h8, Bool.false_and]
      rw [this]
  | scr _ => exact hl.elim
  | _ =>
    rw [dSeq_rt (ρ1 := ρ0) (d := .bl false)]
    · rfl
    · rw [dIf_t (ρ1 := ρ0) (dTOr_t (by simp [dTNot, dTB, dIsi, dVar, ρ0, subT, tyD]))]; rfl
theorem isparties_bad {d t : Dt} (h : isW d = false ∨ ∃ n, d = .int n ∧ (n < 1 ∨ 7 < n)) : F_is_parties [.val d, .val t] = .er 0 := by
  have ec : dEx (dCall F_check_guests (dR (dVar 0) dR0)) [some (.val d), some (.val t)] = .er 0 := by
    unfold dEx dCall dR dR0
    simp only [dVar, List.getElem?_cons_zero, R.bind_ok, uniq, uniqFrom, if_true, resolve, check_bad h, R.bind_er]
  unfold F_is_parties runDef
  rw [if_pos (show kinds [.val d, .val t] = [false, false] from rfl)]
  show (d_is_parties [some (.val d), some (.val t)]).bind _ = _
  unfold d_is_parties dSeq
  rw [ec]
  rfl
theorem checkp_ok {n : Nat} (h1 : 1 ≤ n) (h7 : n ≤ 7) {d : Dt} (hl : Lens d) (hp : ptysB n d = true) : F_check_parties [.val (.int n), .val d] = .ok (.non, [.val .non, .val .non]) := by
  let ρ0 : Ev := [some (.val (.int n)), some (.val d)]
  refine runDef_nx (ρ' := ρ0) rfl ?_ rfl
  show d_check_parties ρ0 = _
  unfold d_check_parties
  have e : dCall F_is_parties (dR (dVar 0) (dR (dVar 1) dR0)) ρ0 = .ok (.bl true, ρ0) := by
    have := isparties_eval h1 h7 d hl
    rw [hp] at this
    exact call2 (ρ' := ρ0) (ρ'' := ρ0) rfl rfl this
  rw [dIf_f (dTNot_ok (b := true) (dTB_ok e))]
  rfl
theorem checkp_no {n : Nat} (h1 : 1 ≤ n) (h7 : n ≤ 7) {d : Dt} (hl : Lens d) (hp : ptysB n d = false) : F_check_parties [.val (.int n), .val d] = .er 1 := by
  let ρ0 : Ev := [some (.val (.int n)), some (.val d)]
  have e : dCall F_is_parties (dR (dVar 0) (dR (dVar 1) dR0)) ρ0 = .ok (.bl false, ρ0) := by
    have := isparties_eval h1 h7 d hl
    rw [hp] at this
    exact call2 (ρ' := ρ0) (ρ'' := ρ0) rfl rfl this
  unfold F_check_parties runDef
  rw [if_pos (show kinds [.val (.int n), .val d] = [false, false] from rfl)]
  show (d_check_parties ρ0).bind _ = _
  unfold d_check_parties
  rw [dIf_t (dTNot_ok (b := false) (dTB_ok e))]
  rfl
theorem checkp_bad {d t : Dt} (h : isW d = false ∨ ∃ n, d = .int n ∧ (n < 1 ∨ 7 < n)) : F_check_parties [.val d, .val t] = .er 0 := by
  have e : dCall F_is_parties (dR (dVar 0) (dR (dVar 1) dR0)) [some (.val d), some (.val t)] = .er 0 := call2_er (ρ' := [some (.val d), some (.val t)]) (ρ'' := [some (.val d), some (.val t)]) rfl rfl (isparties_bad h)
  unfold F_check_parties runDef
  rw [if_pos (show kinds [.val d, .val t] = [false, false] from rfl)]
  show (d_check_parties [some (.val d), some (.val t)]).bind _ = _
  unfold d_check_parties dIf dTNot dTB
  rw [e]
  rfl
noncomputable def areB (n : Int) : Dt → Bool
  | .tup l => l.all (isG n)
  | _ => false
theorem are_eval' (n : Int) (d : Dt) (hl : ∀ l, d = .tup l → l.length ≤ 1000) : F_are_guests [.val (.int n), .val d] = .ok (.bl (areB n d), [.val .non, .val .non]) := by
  have := are_eval n d hl
  cases d <;> exact this
noncomputable def seatB (n : Nat) : Dt → Bool
  | .tup l => l.all (isG n) && (match zsOf l with | some zs => sortZ zs == rangeZ n | none => false)
  | _ => false
theorem lrng_fz {ρ : Ev} {n : Nat} (h : ρ[0]? = some (some (.val (.int n)))) (hn : n ≤ 7) : dFz (dLRng (dVar 0)) ρ = .ok (.lst ((rangeZ n).map .int), ρ) :=
  dFz_ok (lrng_ok (by simp [dVar, h]) (by omega))
theorem sortT_fz {ρ : Ev} {zs : List Int} (h : ρ[1]? = some (some (.val (tz zs)))) (hl : zs.length < 64) : dFz (dFnN gSortT (dA (dVar 1) dA0)) ρ = .ok (.lst ((sortZ zs).map .int), ρ) := by
  refine dFz_ok ?_
  unfold dFnN
  rw [dA_ok (fa := dVar 1) (fr := dA0) (d := tz zs) (ds := []) (ρ1 := ρ) (ρ2 := ρ) (by simp [dVar, h]) rfl]
  simp only [R.bind_ok]
  unfold gSortT tz
  simp only [zs_map]
  rw [if_pos hl]
  rfl
theorem sortEq {ρ : Ev} {n : Nat} {zs : List Int} (h0 : ρ[0]? = some (some (.val (.int n)))) (hn : n ≤ 7) (h : ρ[1]? = some (some (.val (tz zs)))) (hl : zs.length < 64) : dOp (gEq false) (dFz (dFnN gSortT (dA (dVar 1) dA0))) (dFz (dLRng (dVar 0))) ρ = .ok (.bl (sortZ zs == rangeZ n), ρ) := by
  refine dOp_ok (sortT_fz h hl) (lrng_fz h0 hn) ?_
  rw [gEq_ok (okN_ints _ _) (okN_ints _ _), eqD, eqDs_map]; rfl
theorem seating_eval {n : Nat} (h1 : 1 ≤ n) (h7 : n ≤ 7) (d : Dt) (hl : ∀ l, d = .tup l → l.length ≤ 60) : F_is_seating [.val (.int n), .val d] = .ok (.bl (seatB n d), [.val .non, .val .non]) := by
  let ρ0 : Ev := [some (.val (.int n)), some (.val d)]
  have ec : dEx (dCall F_check_guests (dR (dVar 0) dR0)) ρ0 = .ok (.nx, ρ0) := dEx_ok (call1 (ρ' := ρ0) rfl (check_ok (by omega) (by omega)))
  refine runDef_rt (ρ' := ρ0) rfl ?_ rfl
  show d_is_seating ρ0 = _
  unfold d_is_seating
  rw [dSeq_nx ec]
  refine dRet_ok ?_
  have ea : dCall F_are_guests (dR (dVar 0) (dR (dVar 1) dR0)) ρ0 = .ok (.bl (areB n d), ρ0) := call2 (ρ' := ρ0) (ρ'' := ρ0) rfl rfl (are_eval' n d (fun l e => by have := hl l e; omega))
  unfold dAnd
  rw [ea]
  simp only [R.bind_ok]
  cases d with
  | tup l =>
    have hab : areB n (.tup l) = l.all (isG n) := rfl
    rw [hab]
    cases ha : l.all (isG n) with
    | false =>
      have : seatB n (.tup l) = false := by
        show (l.all (isG n) && _) = false
        rw [ha]; rfl
      rw [this]
    | true =>
      obtain ⟨zs, rfl, hz⟩ := isG_ints ha
      have hpt : seatB n (.tup (zs.map .int)) = (sortZ zs == rangeZ n) := by
        show ((zs.map Dt.int).all (isG n) && (match zsOf (zs.map Dt.int) with | some zs => sortZ zs == rangeZ n | none => false)) = _
        rw [ha, zs_map]
        rfl
      rw [hpt]
      have hlz : zs.length ≤ 60 := by have := hl _ rfl; simpa using this
      exact sortEq (ρ := ρ0) rfl h7 rfl (by omega)
  | _ => rfl
theorem dAnd_ok {fa fb : De} {ρ : Ev} {a b : Bool} (h1 : fa ρ = .ok (.bl a, ρ)) (h2 : a = true → fb ρ = .ok (.bl b, ρ)) : dAnd fa fb ρ = .ok (.bl (a && b), ρ) := by
  unfold dAnd
  rw [h1]
  simp only [R.bind_ok]
  cases a with
  | false => rfl
  | true => rw [h2 rfl]; rfl
theorem dCat_ok {fa fb : De} {ρ ρ1 ρ2 : Ev} {x y : List Dt} (h1 : fa ρ = .ok (.lst x, ρ1)) (h2 : fb ρ1 = .ok (.lst y, ρ2)) (hl : x.length + y.length ≤ 16777216) : dCat fa fb ρ = .ok (x ++ y, ρ2) := by
  unfold dCat
  rw [h1]; simp only [R.bind_ok]
  rw [h2]; simp only [R.bind_ok]
  rw [if_pos hl]
theorem dCut_ok {fa : De} {fl fh : DO} {ρ : Ev} {ds : List Dt} {lo hi : Option Int} (h1 : fa ρ = .ok (.lst ds, ρ)) (h2 : fl ρ = .ok (lo, ρ)) (h3 : fh ρ = .ok (hi, ρ)) : dCut fa fl fh ρ = .ok (cutD ds lo hi, ρ) := by
  unfold dCut
  rw [h1]; simp only [R.bind_ok]
  rw [h2]; simp only [R.bind_ok]
  rw [h3]; rfl
theorem dCutW_ok {fa : De} {fl fh : DO} {ρ : Ev} {ds : List Dt} {lo hi : Option Int} (h1 : fa ρ = .ok (.tup ds, ρ)) (h2 : fl ρ = .ok (lo, ρ)) (h3 : fh ρ = .ok (hi, ρ)) : dCutW fa fl fh ρ = .ok (.tup (cutD ds lo hi), ρ) := by
  unfold dCutW
  rw [h1]; simp only [R.bind_ok]
  rw [h2]; simp only [R.bind_ok]
  rw [h3]; rfl
theorem cut_len {α : Type} {l : List α} {lo hi : Option Int} : (cutD l lo hi).length ≤ l.length := by
  unfold cutD
  rw [List.length_take, List.length_drop]; omega
theorem cut_map {l : List Int} {lo hi : Option Int} : cutD (l.map Dt.int) lo hi = (cutD l lo hi).map .int := by
  unfold cutD
  rw [List.length_map, List.map_take, List.map_drop]
theorem catT_ok {x y : List Dt} (h : x.length + y.length ≤ 16777216) : gCatT (.tup x) (.tup y) = .ok (.tup (x ++ y)) := by
  unfold gCatT
  simp only [h, if_true]
theorem seating_bad {d t : Dt} (h : isW d = false ∨ ∃ n, d = .int n ∧ (n < 1 ∨ 7 < n)) : F_is_seating [.val d, .val t] = .er 0 := by
  have ec : dEx (dCall F_check_guests (dR (dVar 0) dR0)) [some (.val d), some (.val t)] = .er 0 := by
    unfold dEx dCall dR dR0
    simp only [dVar, List.getElem?_cons_zero, R.bind_ok, uniq, uniqFrom, if_true, resolve, check_bad h, R.bind_er]
  unfold F_is_seating runDef
  rw [if_pos (show kinds [.val d, .val t] = [false, false] from rfl)]
  show (d_is_seating [some (.val d), some (.val t)]).bind _ = _
  unfold d_is_seating dSeq
  rw [ec]
  rfl
theorem len_lp (ps : List (List Int)) : (lp ps).length = ps.length := by unfold lp; rw [List.length_map]
theorem ref_ok {j : Nat} {q : Str} {fE : De} {ρ : Ev} {n : Nat} (h0 : ρ[j]? = some (some (.tab q))) (h : fE (valOnly ρ) = .er n) (hn : n < 8) : dRef j q fE ρ = .ok ([.int n], ρ) := by
  unfold dRef
  rw [h0]
  simp only [if_true, h, hn]
theorem putB_ddd {x y z : Dt} {bs : List B} : ∀ {ρ : Ev} {k : Nat}, putB [.d x, .d y, .d z] bs k ρ = ρ
  | [], _ => rfl
  | o :: r, k => by
    show (match posOf [.d x, .d y, .d z] k with | some j => bs[j]? | none => o) :: putB [.d x, .d y, .d z] bs (k + 1) r = _
    rw [putB_ddd (ρ := r)]; rfl
theorem call3 {F : FD} {fa fb fc : De} {ρ ρ1 ρ2 ρ3 : Ev} {d e g y : Dt} {l : List B} (h : fa ρ = .ok (d, ρ1)) (h2 : fb ρ1 = .ok (e, ρ2)) (h3 : fc ρ2 = .ok (g, ρ3)) (hF : F [.val d, .val e, .val g] = .ok (y, l)) : dCall F (dR fa (dR fb (dR fc dR0))) ρ = .ok (y, ρ3) := by
  unfold dCall dR dR0
  rw [h]
  simp only [R.bind_ok, h2, h3, uniq, uniqFrom, if_true, resolve, hF]
  rw [putB_ddd]
theorem call3_er {F : FD} {fa fb fc : De} {ρ ρ1 ρ2 ρ3 : Ev} {d e g : Dt} {n : Nat} (h : fa ρ = .ok (d, ρ1)) (h2 : fb ρ1 = .ok (e, ρ2)) (h3 : fc ρ2 = .ok (g, ρ3)) (hF : F [.val d, .val e, .val g] = .er n) : dCall F (dR fa (dR fb (dR fc dR0))) ρ = .er n := by
  unfold dCall dR dR0
  rw [h]
  simp only [R.bind_ok, h2, h3, uniq, uniqFrom, if_true, resolve, hF, R.bind_er]
noncomputable def enumAt : Nat → List Dt → List Dt
  | _, [] => []
  | k, d :: r => .tup [.int (k : Nat), d] :: enumAt (k + 1) r
theorem enumD_at (l : List Dt) : enumD l = enumAt 0 l := by
  have key : ∀ (l : List Dt) (k : Nat), ((List.range' k l.length).zip l).map (fun z => Dt.tup [.int (z.1 : Nat), z.2]) = enumAt k l := by
    intro l
    induction l with
    | nil => intro k; rfl
    | cons d r ih =>
      intro k
      rw [List.length_cons, List.range'_succ, List.zip_cons_cons, List.map_cons, ih (k + 1)]
      rfl
  unfold enumD
  rw [List.range_eq_range']
  exact key l 0
theorem lens_lp {n : Nat} {ps : List (List Int)} (h7 : n ≤ 7) (hp : Ptys n ps) : Lens (.lst (lp ps)) := by
  intro d hd t ht
  obtain ⟨p, hpm, rfl⟩ := List.mem_map.mp hd
  have hpp := hp p hpm
  unfold tz at ht
  cases ht
  rw [List.length_map]
  by_cases z : p.length ≤ (rangeZ n).length
  · rw [len_rangeZ] at z; omega
  · have h1 : p.Nodup := hpp.2.1.imp (fun h => by omega)
    have := (nodup_perm p (rangeZ n) h1 (fun x hx => mem_rangeZ.mpr (hpp.2.2 x hx)) (by omega)).length_eq
    omega
theorem ptysB_lp {n : Nat} {ps : List (List Int)} (hl : ps.length ≤ 8) (hp : Ptys n ps) : ptysB n (.lst (lp ps)) = true := by
  show (decide ((lp ps).length ≤ 8) && (lp ps).all (ptyB n)) = true
  rw [Bool.and_eq_true, decide_eq_true_eq, List.all_eq_true]
  refine ⟨by unfold lp; rw [List.length_map]; exact hl, fun d hd => ?_⟩
  obtain ⟨p, hpm, rfl⟩ := List.mem_map.mp hd
  exact ptyB_tz (hp p hpm)
end Lw
end
section
set_option Elab.async false
set_option linter.all false
set_option maxRecDepth 100000
set_option maxHeartbeats 1000000
namespace Lw
open PySem PySem.Spec L2 PV
theorem order_spec {n : Nat} {st : List Dt} (h7 : n ≤ 7) (hs : St st) : ∃ (row : List Int) (st' : List Dt), St st' ∧ row.Perm (rangeZ n) ∧ F__law_order [.own st, .val (.int n)] = .ok (tz row, [.own st', .val .non]) := by
  obtain ⟨st', p, hs', hp, e⟩ := mixed_loop (things := some (.val (.int n))) 10 ((rangeZ n).map .int) [] st (by rw [List.length_map, len_rangeZ]; omega) (by rw [List.length_map, len_rangeZ]; simp; omega) (fun d hd => by obtain ⟨x, _, rfl⟩ := List.mem_map.mp hd; rfl) hs
  obtain ⟨q, hq, rfl⟩ := perm_int_inv hp
  refine ⟨q, st', hs', hq, runDef_rt (ρ' := [some (.own st'), some (.val (.int n)), some (.own []), some (.val (.lst (q.map .int)))]) rfl ?_ rfl⟩
  let ρ0 : Ev := [some (.own st), some (.val (.int n)), none, none]
  show d__law_order ρ0 = _
  unfold d__law_order
  have x1 : dSetN 2 (dLRng (dVar 1)) ρ0 = .ok (.nx, [some (.own st), some (.val (.int n)), some (.own ((rangeZ n).map .int)), none]) := dSetN_ok (i := 2) (lrng_ok (ρ1 := ρ0) rfl (by omega)) (by simp [ρ0])
  rw [dSeq_nx x1]
  rw [dSeq_nx (ρ1 := [some (.own st), some (.val (.int n)), some (.own ((rangeZ n).map .int)), some (.own [])]) rfl, dSeq_nx e]
  rfl
noncomputable def bodyP : DS := (dSeq (dSet 7 (dCall F__law_take (dRO 0 (dR (dVar 1) dR0)))) (dSeq (dSet 8 (dFz (dFnN gSortT (dA (dCutW (dVar 3) (dO1 (dVar 7)) (dO1 (dOp gAddI (dOp gAddI (dVar 7) (dC (.int 1))) (dCall F__law_take (dRO 0 (dR (dOp gSub (dVar 1) (dVar 7)) dR0)))))) dA0)))) (dSeq (dIf (dTAnd (dTB (dOp gGt (dVar 4) (dC (.int 1)))) (dTB (dOp gLt (dCall F__law_take (dRO 0 (dR (dC (.int 3)) dR0))) (dOp gSub (dVar 4) (dC (.int 1)))))) (dSet 8 (dOrL (dFz (dComp (dRng1 (dVar 1)) (gSet 9) (dTB (dOp (gEq false) (dCall F__law_take (dRO 0 (dR (dC (.int 2)) dR0))) (dC (.int 1)))) (dVar 9) 1)) (dVar 8))) dNx) (dEx (dAppO 5 (dFn gTuple (dA (dVar 8) dA0)))))))
theorem pties_def : d__law_parties = (dSeq (dSet 3 (dCall F__law_order (dRO 0 (dR (dVar 1) dR0)))) (dSeq (dSet 4 (dCall F__law_take (dRO 0 (dR (dC (.int 4)) dR0)))) (dSeq (dSetN 5 (dLst dA0)) (dSeq (dFor (dRng1 (dCall F__law_take (dRO 0 (dR (dOp gAddI (dVar 2) (dC (.int 1))) dR0)))) (gSet 6) bodyP) (dRet (dUse 5)))))) := rfl
theorem dCutW_ok' {fa : De} {fl fh : DO} {ρ ρ1 ρ2 ρ3 : Ev} {ds : List Dt} {lo hi : Option Int} (h1 : fa ρ = .ok (.tup ds, ρ1)) (h2 : fl ρ1 = .ok (lo, ρ2)) (h3 : fh ρ2 = .ok (hi, ρ3)) : dCutW fa fl fh ρ = .ok (.tup (cutD ds lo hi), ρ3) := by
  unfold dCutW
  rw [h1]; simp only [R.bind_ok]
  rw [h2]; simp only [R.bind_ok]
  rw [h3]; simp only [R.bind_ok]
theorem dO1_ok {fa : De} {ρ ρ1 : Ev} {i : Int} (h : fa ρ = .ok (.int i, ρ1)) : dO1 fa ρ = .ok (some i, ρ1) := by
  unfold dO1; rw [h]; rfl
theorem sortT_ok {fa : De} {ρ ρ1 : Ev} {zs : List Int} (h : fa ρ = .ok (tz zs, ρ1)) (hl : zs.length < 64) : dFz (dFnN gSortT (dA fa dA0)) ρ = .ok (.lst ((sortZ zs).map .int), ρ1) := by
  refine dFz_ok ?_
  unfold dFnN
  rw [dA_ok (fr := dA0) (d := tz zs) (ds := []) (ρ1 := ρ1) (ρ2 := ρ1) h rfl]
  simp only [R.bind_ok]
  unfold gSortT tz
  simp only [zs_map]
  rw [if_pos hl]
  rfl
noncomputable abbrev EP (s n m r w f t l p : Option B) : Ev := [s, n, m, r, w, f, t, l, p]
theorem bodyP_eval {n : Nat} {row : List Int} {way : Int} {M t o7 o8 : Option B} {st : List Dt} {acc : List (List Int)} (h1 : 1 ≤ n) (h7 : n ≤ 7) (hr : row.Perm (rangeZ n)) (hs : St st) (ha : Ptys n acc) (hl : acc.length ≤ 100) :
    ∃ p st' b7 b8, St st' ∧ Pty n p ∧ bodyP (EP (some (.own st)) (some (.val (.int n))) M (some (.val (tz row))) (some (.val (.int way))) (some (.own (lp acc))) t o7 o8) = .ok (.nx, EP (some (.own st')) (some (.val (.int n))) M (some (.val (tz row))) (some (.val (.int way))) (some (.own (lp (acc ++ [p])))) t b7 b8) := by
  let N : Option B := some (.val (.int n))
  let Rw : Option B := some (.val (tz row))
  let W : Option B := some (.val (.int way))
  let A : Option B := some (.own (lp acc))
  have hrl : row.length = n := by rw [hr.length_eq, len_rangeZ]
  obtain ⟨v, st1, e1, hs1, v0, v1⟩ := take_spec (m := (n : Nat)) hs (by omega) (by omega)
  obtain ⟨f, rfl⟩ : ∃ f : Nat, v = f := ⟨v.toNat, by omega⟩
  have x1 : dSet 7 (dCall F__law_take (dRO 0 (dR (dVar 1) dR0))) (EP (some (.own st)) N M Rw W A t o7 o8) = .ok (.nx, EP (some (.own st1)) N M Rw W A t (some (.val (.int f))) o8) :=
    dSet_ok (i := 7) (takeC e1 rfl) (by simp)
  obtain ⟨u, st2, e2, hs2, u0, u1⟩ := take_spec (m := (n : Int) - f) hs1 (by omega) (by omega)
  obtain ⟨g, rfl⟩ : ∃ g : Nat, u = g := ⟨u.toNat, by omega⟩
  let c : List Int := (row.drop f).take (1 + g)
  have hsubl : c.Sublist row := (List.take_sublist _ _).trans (List.drop_sublist _ _)
  have hcl : c.length = 1 + g := by
    show ((row.drop f).take (1 + g)).length = _
    rw [List.length_take, List.length_drop, hrl]
    omega
  have hnd : c.Nodup := (hr.nodup_iff.mpr (rangeZ_nodup n)).sublist hsubl
  have hsp := sortZ_perm c
  have hP : Pty n (sortZ c) := by
    refine ⟨fun h => ?_, ?_, fun x hx => ?_⟩
    · have := hsp.length_eq
      rw [h, hcl] at this
      simp at this
      omega
    · have h2 : (sortZ c).Nodup := hsp.nodup_iff.mpr hnd
      exact (List.Pairwise.and (sortZ_asc c) h2).imp (fun h => by omega)
    · exact mem_rangeZ.mp (hr.mem_iff.mp (hsubl.subset (hsp.mem_iff.mp hx)))
  have x2 : dSet 8 (dFz (dFnN gSortT (dA (dCutW (dVar 3) (dO1 (dVar 7)) (dO1 (dOp gAddI (dOp gAddI (dVar 7) (dC (.int 1))) (dCall F__law_take (dRO 0 (dR (dOp gSub (dVar 1) (dVar 7)) dR0)))))) dA0))) (EP (some (.own st1)) N M Rw W A t (some (.val (.int f))) o8) = .ok (.nx, EP (some (.own st2)) N M Rw W A t (some (.val (.int f))) (some (.val (.lst ((sortZ c).map .int))))) := by
    refine dSet_ok (i := 8) (ρ1 := EP (some (.own st2)) N M Rw W A t (some (.val (.int f))) o8) (sortT_ok (zs := c) ?_ (by omega)) (by simp)
    have := dCutW_ok' (fa := dVar 3) (fl := dO1 (dVar 7)) (fh := dO1 (dOp gAddI (dOp gAddI (dVar 7) (dC (.int 1))) (dCall F__law_take (dRO 0 (dR (dOp gSub (dVar 1) (dVar 7)) dR0))))) (ρ := EP (some (.own st1)) N M Rw W A t (some (.val (.int f))) o8) (ρ1 := EP (some (.own st1)) N M Rw W A t (some (.val (.int f))) o8) (ρ2 := EP (some (.own st1)) N M Rw W A t (some (.val (.int f))) o8) (ρ3 := EP (some (.own st2)) N M Rw W A t (some (.val (.int f))) o8) (ds := row.map .int) (lo := some (f : Int)) (hi := some ((f : Int) + 1 + g)) rfl rfl
      (dO1_ok (dOp_ok (d := .int ((f : Int) + 1)) (ρ1 := EP (some (.own st1)) N M Rw W A t (some (.val (.int f))) o8) rfl (takeC e2 rfl) rfl))
    rw [this, cut_map]
    have hh : ((f : Int) + 1 + g) = (f : Int) + ((1 + g : Nat) : Int) := by omega
    rw [hh, cut_mid (by omega)]
    rfl
  obtain ⟨p, st3, hs3, hp, x3⟩ : ∃ p st3, St st3 ∧ Pty n p ∧ dIf (dTAnd (dTB (dOp gGt (dVar 4) (dC (.int 1)))) (dTB (dOp gLt (dCall F__law_take (dRO 0 (dR (dC (.int 3)) dR0))) (dOp gSub (dVar 4) (dC (.int 1)))))) (dSet 8 (dOrL (dFz (dComp (dRng1 (dVar 1)) (gSet 9) (dTB (dOp (gEq false) (dCall F__law_take (dRO 0 (dR (dC (.int 2)) dR0))) (dC (.int 1)))) (dVar 9) 1)) (dVar 8))) dNx (EP (some (.own st2)) N M Rw W A t (some (.val (.int f))) (some (.val (.lst ((sortZ c).map .int))))) = .ok (.nx, EP (some (.own st3)) N M Rw W A t (some (.val (.int f))) (some (.val (.lst (p.map .int))))) := by
    let ρ2 : Ev := EP (some (.own st2)) N M Rw W A t (some (.val (.int f))) (some (.val (.lst ((sortZ c).map .int))))
    by_cases hw : (1 : Int) < way
    · obtain ⟨z, st3, e3, hs3, z0, z1⟩ := take_spec (m := 3) hs2 (by decide) (by decide)
      have c1 : dTB (dOp gGt (dVar 4) (dC (.int 1))) ρ2 = .ok (true, ρ2) := dTB_ok (dOp_ok (d := .int way) (e := .int 1) (ρ1 := ρ2) rfl rfl (by show R.ok (Dt.bl (decide ((1 : Int) < way))) = _; rw [decide_eq_true hw]))
      let ρ3 : Ev := EP (some (.own st3)) N M Rw W A t (some (.val (.int f))) (some (.val (.lst ((sortZ c).map .int))))
      have c2 : dTB (dOp gLt (dCall F__law_take (dRO 0 (dR (dC (.int 3)) dR0))) (dOp gSub (dVar 4) (dC (.int 1)))) ρ2 = .ok (decide (z < way - 1), ρ3) := dTB_ok (dOp_ok (takeC e3 rfl) (e := .int (way - 1)) rfl rfl)
      by_cases hz : z < way - 1
      · rw [decide_eq_true hz] at c2
        obtain ⟨ys, st4, o', hs4, hsub, e⟩ := comp_stf (ft := dTB (dOp (gEq false) (dCall F__law_take (dRO 0 (dR (dC (.int 2)) dR0))) (dC (.int 1)))) (rest := [N, M, Rw, W, A, t, some (.val (.int f)), some (.val (.lst ((sortZ c).map .int)))]) (l := rangeD 0 n) (st := st3) (o := none) (fun d _ st hs => by
          obtain ⟨v, st', e, hs', v0, v1⟩ := take_spec (m := 2) hs (by decide) (by decide)
          exact ⟨v == 1, st', hs', dTB_ok (dOp_ok (takeC e rfl) rfl (by rw [gEqI]; rfl))⟩) hs3
        rw [rangeD_Z] at hsub
        obtain ⟨zs, hzs, rfl⟩ := List.sublist_map_iff.mp hsub
        let ρ4 : Ev := EP (some (.own st4)) N M Rw W A t (some (.val (.int f))) (some (.val (.lst ((sortZ c).map .int))))
        have hc : dComp (dRng1 (dVar 1)) (gSet 9) (dTB (dOp (gEq false) (dCall F__law_take (dRO 0 (dR (dC (.int 2)) dR0))) (dC (.int 1)))) (dVar 9) 1 ρ3 = .ok (zs.map .int, ρ4) := by
          unfold dComp
          rw [show dRng1 (dVar 1) ρ3 = .ok (rangeD 0 n, ρ3) from rng1_ok (j := n) rfl (by omega)]
          simp only [R.bind_ok]
          rw [if_pos (fits_ok (by unfold rangeD; rw [List.length_map, List.length_range]; omega))]
          show (match compD (gSet 9) _ (dVar 9) (rangeD 0 n) (some (.own st3) :: ([N, M, Rw, W, A, t, some (.val (.int f)), some (.val (.lst ((sortZ c).map .int)))] ++ [none])) with | .ok z => R.ok (z.1, z.2.take 9) | _ => .no) = _
          have e' : compD (gSet 9) (dTB (dOp (gEq false) (dCall F__law_take (dRO 0 (dR (dC (.int 2)) dR0))) (dC (.int 1)))) (dVar 9) (rangeD 0 n) (some (.own st3) :: ([N, M, Rw, W, A, t, some (.val (.int f)), some (.val (.lst ((sortZ c).map .int)))] ++ [none])) = _ := e
          rw [e']
          rfl
        have hpw : zs.Pairwise (· < ·) := (rangeZ_lt n).sublist hzs
        have hin : ∀ x ∈ zs, 0 ≤ x ∧ x < n := fun x hx => mem_rangeZ.mp (hzs.subset hx)
        have cc : dTAnd (dTB (dOp gGt (dVar 4) (dC (.int 1)))) (dTB (dOp gLt (dCall F__law_take (dRO 0 (dR (dC (.int 3)) dR0))) (dOp gSub (dVar 4) (dC (.int 1))))) ρ2 = .ok (true, ρ3) := by rw [dTAnd_t c1]; exact c2
        cases zs with
        | nil =>
          refine ⟨sortZ c, st4, hs4, hP, ?_⟩
          rw [dIf_t cc]
          refine dSet_ok (i := 8) (ρ1 := ρ4) ?_ (by simp [ρ4])
          unfold dOrL
          rw [dFz_ok hc]
          rfl
        | cons a r =>
          refine ⟨a :: r, st4, hs4, ⟨by simp, hpw, hin⟩, ?_⟩
          rw [dIf_t cc]
          refine dSet_ok (i := 8) (ρ1 := ρ4) ?_ (by simp [ρ4])
          unfold dOrL
          rw [dFz_ok hc]
          rfl
      · rw [decide_eq_false hz] at c2
        refine ⟨sortZ c, st3, hs3, hP, ?_⟩
        rw [dIf_f (ρ1 := ρ3) (by rw [dTAnd_t c1]; exact c2)]
        rfl
    · have c1 : dTB (dOp gGt (dVar 4) (dC (.int 1))) ρ2 = .ok (false, ρ2) := dTB_ok (dOp_ok (d := .int way) (e := .int 1) (ρ1 := ρ2) rfl rfl (by show R.ok (Dt.bl (decide ((1 : Int) < way))) = _; rw [decide_eq_false hw]))
      refine ⟨sortZ c, st2, hs2, hP, ?_⟩
      rw [dIf_f (ρ1 := ρ2) (dTAnd_f c1)]
      rfl
  refine ⟨p, st3, some (.val (.int f)), some (.val (.lst (p.map .int))), hs3, hp, ?_⟩
  unfold bodyP
  rw [dSeq_nx x1, dSeq_nx x2, dSeq_nx x3]
  refine dEx_ok (d := .non) ?_
  unfold dAppO
  have ec : dFn gTuple (dA (dVar 8) dA0) (EP (some (.own st3)) N M Rw W A t (some (.val (.int f))) (some (.val (.lst (p.map .int))))) = .ok (tz p, EP (some (.own st3)) N M Rw W A t (some (.val (.int f))) (some (.val (.lst (p.map .int))))) := rfl
  simp only [EP, A, List.getElem?_cons_succ, List.getElem?_cons_zero] at ec ⊢
  rw [ec]
  simp only [R.bind_ok, List.getElem?_cons_succ, List.getElem?_cons_zero]
  rw [if_pos (by unfold lp; rw [List.length_map]; omega)]
  simp [lp, N, Rw, W]
theorem loopP {n : Nat} {row : List Int} {way : Int} {M : Option B} (h1 : 1 ≤ n) (h7 : n ≤ 7) (hr : row.Perm (rangeZ n)) : ∀ (ds : List Dt) (acc : List (List Int)) (st : List Dt) (t o7 o8 : Option B), St st → Ptys n acc → acc.length + ds.length ≤ 8 →
    ∃ ps st' b6 b7 b8, St st' ∧ Ptys n ps ∧ ps.length ≤ 8 ∧ forD (gSet 6) bodyP ds (EP (some (.own st)) (some (.val (.int n))) M (some (.val (tz row))) (some (.val (.int way))) (some (.own (lp acc))) t o7 o8) = .ok (.nx, EP (some (.own st')) (some (.val (.int n))) M (some (.val (tz row))) (some (.val (.int way))) (some (.own (lp ps))) b6 b7 b8)
  | [], acc, st, t, o7, o8, hs, ha, hl => ⟨acc, st, t, o7, o8, hs, ha, by simpa using hl, rfl⟩
  | d :: ds, acc, st, t, o7, o8, hs, ha, hl => by
    simp only [List.length_cons] at hl
    obtain ⟨p, st1, b7, b8, hs1, hp, e⟩ := bodyP_eval (way := way) (M := M) (t := some (.val d)) (o7 := o7) (o8 := o8) h1 h7 hr hs ha (by omega)
    obtain ⟨ps, st2, c6, c7, c8, hs2, hps, hpl, e2⟩ := loopP (way := way) (M := M) h1 h7 hr ds (acc ++ [p]) st1 (some (.val d)) b7 b8 hs1 (fun q hq => by
      rcases List.mem_append.mp hq with h | h
      · exact ha q h
      · have : q = p := by simpa using h
        rw [this]; exact hp) (by rw [List.length_append]; simp; omega)
    refine ⟨ps, st2, c6, c7, c8, hs2, hps, hpl, ?_⟩
    rw [forD]
    show ((bodyP (EP (some (.own st)) (some (.val (.int n))) M (some (.val (tz row))) (some (.val (.int way))) (some (.own (lp acc))) (some (.val d)) o7 o8)).bind _) = _
    rw [show bodyP (EP (some (.own st)) (some (.val (.int n))) M (some (.val (tz row))) (some (.val (.int way))) (some (.own (lp acc))) (some (.val d)) o7 o8) = _ from e]
    exact e2
theorem parties_spec {n : Nat} {st : List Dt} (h1 : 1 ≤ n) (h7 : n ≤ 7) (hs : St st) : ∃ ps st', St st' ∧ Ptys n ps ∧ ps.length ≤ 8 ∧ F__law_parties [.own st, .val (.int n), .val (.int 8)] = .ok (.lst (lp ps), [.own st', .val .non, .val .non]) := by
  let N : Option B := some (.val (.int n))
  let M : Option B := some (.val (.int 8))
  obtain ⟨row, st1, hs1, hr, e1⟩ := order_spec h7 hs
  obtain ⟨way, st2, e2, hs2, w0, w1⟩ := take_spec (m := 4) hs1 (by decide) (by decide)
  obtain ⟨v, st3, e3, hs3, v0, v1⟩ := take_spec (m := 8 + 1) hs2 (by decide) (by decide)
  obtain ⟨ps, st4, b6, b7, b8, hs4, hps, hpl, e4⟩ := loopP (way := way) (M := M) h1 h7 hr (rangeD 0 v.toNat) [] st3 none none none hs3 (fun q hq => by cases hq) (by unfold rangeD; simp; omega)
  refine ⟨ps, st4, hs4, hps, hpl, runDef_rt (ρ' := EP (some (.own st4)) N M (some (.val (tz row))) (some (.val (.int way))) (some (.val (.lst (lp ps)))) b6 b7 b8) rfl ?_ rfl⟩
  show d__law_parties (EP (some (.own st)) N M none none none none none none) = _
  rw [pties_def]
  rw [dSeq_nx (ρ1 := EP (some (.own st1)) N M (some (.val (tz row))) none none none none none) (dSet_ok (i := 3) (callS (ρ := EP (some (.own st)) N M none none none none none none) rfl rfl e1) (by simp))]
  rw [dSeq_nx (ρ1 := EP (some (.own st2)) N M (some (.val (tz row))) (some (.val (.int way))) none none none none) (dSet_ok (i := 4) (takeC e2 rfl) (by simp))]
  rw [dSeq_nx (ρ1 := EP (some (.own st2)) N M (some (.val (tz row))) (some (.val (.int way))) (some (.own (lp []))) none none none) rfl]
  have x4 : dFor (dRng1 (dCall F__law_take (dRO 0 (dR (dOp gAddI (dVar 2) (dC (.int 1))) dR0)))) (gSet 6) bodyP (EP (some (.own st2)) N M (some (.val (tz row))) (some (.val (.int way))) (some (.own (lp []))) none none none) = .ok (.nx, EP (some (.own st4)) N M (some (.val (tz row))) (some (.val (.int way))) (some (.own (lp ps))) b6 b7 b8) := by
    unfold dFor
    rw [rng1_C (takeC e3 rfl), rngC_ok (by unfold mid62; rw [Bool.and_eq_true, decide_eq_true_eq, decide_eq_true_eq]; omega)]
    exact e4
  rw [dSeq_nx x4]
  rfl
end Lw
end
section
set_option Elab.async false
set_option linter.all false
set_option maxRecDepth 100000
set_option maxHeartbeats 1000000
namespace Lw
open PySem PySem.Spec L2 PV
noncomputable def zeroB : Dt → Bool
  | .tup (.int z :: _) => z == 0
  | _ => false
noncomputable def roundB (n : Nat) (d : Dt) : Bool := seatB n d && zeroB d
theorem seat_ints {n : Nat} {d : Dt} (h : seatB n d = true) : ∃ zs : List Int, d = tz zs ∧ zs.Perm (rangeZ n) := by
  cases d with
  | tup l =>
    have h' : (l.all (isG n) && (match zsOf l with | some zs => sortZ zs == rangeZ n | none => false)) = true := h
    rw [Bool.and_eq_true] at h'
    obtain ⟨zs, rfl, hz⟩ := isG_ints h'.1
    have h2 := h'.2
    rw [zs_map] at h2
    have h3 : sortZ zs = rangeZ n := by simpa using h2
    exact ⟨zs, rfl, by rw [← h3]; exact (sortZ_perm zs).symm⟩
  | _ => cases h
theorem first_ok {n : Nat} (h1 : 1 ≤ n) {zs : List Int} (hz : zs.Perm (rangeZ n)) {ρ : Ev} (h : ρ[1]? = some (some (.val (tz zs)))) : dOp (gEq false) (dOp gIx (dVar 1) (dC (.int 0))) (dC (.int 0)) ρ = .ok (.bl (zeroB (tz zs)), ρ) := by
  cases zs with
  | nil => have := hz.length_eq; rw [len_rangeZ] at this; simp at this; omega
  | cons a r =>
    refine dOp_ok (dOp_ok (d := tz (a :: r)) (e := .int 0) (ρ1 := ρ) (ρ2 := ρ) (z := .int a) (by simp [dVar, h]) rfl ?_) (e := .int 0) (ρ2 := ρ) rfl ?_
    · exact gIx_tup (by decide) (by simp) rfl
    · rw [gEqI]; rfl
theorem round_eval {n : Nat} (h1 : 1 ≤ n) (h7 : n ≤ 7) (d : Dt) (hl : ∀ l, d = .tup l → l.length ≤ 60) : F_is_round [.val (.int n), .val d] = .ok (.bl (roundB n d), [.val .non, .val .non]) := by
  let ρ0 : Ev := [some (.val (.int n)), some (.val d)]
  have es : dCall F_is_seating (dR (dVar 0) (dR (dVar 1) dR0)) ρ0 = .ok (.bl (seatB n d), ρ0) := call2 (ρ' := ρ0) (ρ'' := ρ0) rfl rfl (seating_eval h1 h7 d hl)
  refine runDef_rt (ρ' := ρ0) rfl ?_ rfl
  show d_is_round ρ0 = _
  unfold d_is_round
  refine dRet_ok (dAnd_ok es (fun hs => ?_))
  obtain ⟨zs, rfl, hz⟩ := seat_ints hs
  exact first_ok h1 hz rfl
theorem round_bad {d t : Dt} (h : isW d = false ∨ ∃ n, d = .int n ∧ (n < 1 ∨ 7 < n)) : F_is_round [.val d, .val t] = .er 0 := by
  have e : dCall F_is_seating (dR (dVar 0) (dR (dVar 1) dR0)) [some (.val d), some (.val t)] = .er 0 := call2_er (ρ' := [some (.val d), some (.val t)]) (ρ'' := [some (.val d), some (.val t)]) rfl rfl (seating_bad h)
  unfold F_is_round runDef
  rw [if_pos (show kinds [.val d, .val t] = [false, false] from rfl)]
  show (d_is_round [some (.val d), some (.val t)]).bind _ = _
  unfold d_is_round dRet dAnd
  rw [e]
  rfl
theorem lguest_eval (n : Int) (d : Dt) : F__law_is_guest [.val (.int n), .val d] = .ok (.bl (isG n d), [.val .non, .val .non]) := guest_eval n d
theorem lround_eval {n : Nat} (h1 : 1 ≤ n) (h7 : n ≤ 7) (d : Dt) (hl : ∀ l, d = .tup l → l.length ≤ 60) : F__law_is_round [.val (.int n), .val d] = .ok (.bl (roundB n d), [.val .non, .val .non]) := by
  let ρ0 : Ev := [some (.val (.int n)), some (.val d)]
  refine runDef_rt (ρ' := ρ0) rfl ?_ rfl
  show d__law_is_round ρ0 = _
  unfold d__law_is_round
  cases d with
  | tup l =>
    have e1 : dTNot (dTB (dIsi "tuple" (dVar 1))) ρ0 = .ok (false, ρ0) := dTNot_ok (b := true) (dTB_ok (by simp [dIsi, dVar, ρ0, subT, tyD]))
    have e2 : dTB (dOp (gEq true) (dFn gLen (dA (dVar 1) dA0)) (dVar 0)) ρ0 = .ok (!((l.length : Int) == (n : Int)), ρ0) := dTB_ok (dOp_ok (d := .int l.length) (e := .int n) (ρ1 := ρ0) rfl rfl (by rw [gEqI]; rfl))
    by_cases hn : l.length = n
    · have e2' : dTB (dOp (gEq true) (dFn gLen (dA (dVar 1) dA0)) (dVar 0)) ρ0 = .ok (false, ρ0) := by rw [e2, hn]; simp
      have hc : dComp (dIt (dVar 1)) (gSet 2) dTT (dCall F__law_is_guest (dR (dVar 0) (dR (dVar 2) dR0))) 1 ρ0 = .ok (l.map fun x => .bl (isG n x), ρ0) := by
        refine dComp_pure (l := l) (u := id) (f := fun x => .bl (isG n x)) (ds := l) rfl (by rw [List.map_id]) (by omega) (fun x hx => ?_) rfl
        exact call2 (ρ' := [some (.val (.int n)), some (.val (.tup l)), some (.val x)]) (ρ'' := [some (.val (.int n)), some (.val (.tup l)), some (.val x)]) rfl rfl (lguest_eval n x)
      have e3 : dTNot (dTB (dFn gAll (dA (dFz (dComp (dIt (dVar 1)) (gSet 2) dTT (dCall F__law_is_guest (dR (dVar 0) (dR (dVar 2) dR0))) 1)) dA0))) ρ0 = .ok (!(l.all (isG n)), ρ0) := dTNot_ok (dTB_ok (dFn_ok (dFz_ok hc) (all_ok _ _)))
      cases ha : l.all (isG n) with
      | false =>
        rw [ha] at e3
        have : roundB n (.tup l) = false := by
          show ((l.all (isG n) && _) && _) = false
          rw [ha]; rfl
        rw [this]
        refine dSeq_rt ?_
        rw [dIf_t (ρ1 := ρ0) (by rw [dTOr_f e1, dTOr_f e2']; exact e3)]
        rfl
      | true =>
        rw [ha] at e3
        obtain ⟨zs, rfl, hz⟩ := isG_ints ha
        have hpt : seatB n (.tup (zs.map .int)) = (sortZ zs == rangeZ n) := by
          show ((zs.map Dt.int).all (isG n) && (match zsOf (zs.map Dt.int) with | some zs => sortZ zs == rangeZ n | none => false)) = _
          rw [ha, zs_map]
          rfl
        rw [dSeq_nx (ρ1 := ρ0) (by rw [dIf_f (ρ1 := ρ0) (by rw [dTOr_f e1, dTOr_f e2']; exact e3)]; rfl)]
        unfold roundB
        rw [hpt]
        rw [List.length_map] at hn
        refine dRet_ok (dAnd_ok (sortEq (ρ := ρ0) rfl h7 rfl (by omega)) (fun hs => ?_))
        have h3 : sortZ zs = rangeZ n := by simpa using hs
        exact first_ok h1 (zs := zs) (by rw [← h3]; exact (sortZ_perm zs).symm) rfl
    · have e2' : dTB (dOp (gEq true) (dFn gLen (dA (dVar 1) dA0)) (dVar 0)) ρ0 = .ok (true, ρ0) := by
        rw [e2, show ((l.length : Int) == (n : Int)) = false from by rw [beq_eq_false_iff_ne]; omega]; rfl
      have : roundB n (.tup l) = false := by
        cases hr : roundB n (.tup l) with
        | false => rfl
        | true =>
          unfold roundB at hr
          rw [Bool.and_eq_true] at hr
          obtain ⟨zs, h, hz⟩ := seat_ints hr.1
          have := hz.length_eq
          rw [len_rangeZ] at this
          have h' : l = zs.map .int := by injection h
          rw [h', List.length_map] at hn
          exact absurd this hn
      rw [this]
      refine dSeq_rt ?_
      rw [dIf_t (ρ1 := ρ0) (by rw [dTOr_f e1]; exact dTOr_t e2')]
      rfl
  | _ => rfl
/-! marks -/
noncomputable def mks (row p : List Int) : List Bool := row.map fun g => p.any fun x => x == g
noncomputable def endB (ms : List Bool) (k : Nat) : Bool := ms.getD (if k = 0 then ms.length - 1 else k - 1) false && !(ms.getD k false)
noncomputable def sitsB (ms : List Bool) : Bool := decide (((List.range ms.length).filter (endB ms)).length ≤ 1)
noncomputable def turnB (ms : List Bool) (k : Nat) : Bool := ((ms.drop k ++ ms.take k).take (ms.count true)) == List.replicate (ms.count true) true
noncomputable def togB (ms : List Bool) : Bool := (List.range ms.length).any (turnB ms)
noncomputable def allB : Nat → List (List Bool)
  | 0 => [[]]
  | n + 1 => (allB n).flatMap fun l => [true :: l, false :: l]
theorem mem_allB : ∀ ms : List Bool, ms ∈ allB ms.length
  | [] => by simp [allB]
  | b :: r => by
    show b :: r ∈ (allB r.length).flatMap fun l => [true :: l, false :: l]
    refine List.mem_flatMap.mpr ⟨r, mem_allB r, ?_⟩
    cases b <;> simp
theorem all_same : ((List.range 7).all fun n => (allB (n + 1)).all fun ms => sitsB ms == togB ms) = true := by decide +kernel
theorem sits_tog {ms : List Bool} (h1 : 1 ≤ ms.length) (h7 : ms.length ≤ 7) : sitsB ms = togB ms := by
  have h := List.all_eq_true.mp (List.all_eq_true.mp all_same (ms.length - 1) (by simp; omega)) ms (by rw [show ms.length - 1 + 1 = ms.length from by omega]; exact mem_allB ms)
  simpa using h
theorem len_mks (row p : List Int) : (mks row p).length = row.length := by unfold mks; simp
theorem mks_at {row p : List Int} {j : Nat} {g : Int} (h : row[j]? = some g) : (mks row p).getD j false = p.any fun x => x == g := by
  unfold mks
  rw [List.getD_eq_getElem?_getD, List.getElem?_map, h]
  rfl
theorem in_ok {neg : Bool} {g : Int} {p : List Int} : gIn neg (.int g) (tz p) = .ok (.bl (if neg then !(p.any fun x => x == g) else p.any fun x => x == g)) := by
  unfold gIn tz
  simp only
  rw [if_pos (by rw [okN_all_ints]; rfl), inD_any]
theorem sits_eval {n : Nat} {row p : List Int} (h1 : 1 ≤ n) (h7 : n ≤ 7) (hr : row.Perm (rangeZ n)) : F_sits_round [.val (.int n), .val (tz row), .val (tz p)] = .ok (.bl (sitsB (mks row p)), [.val .non, .val .non, .val .non]) := by
  have hrl : row.length = n := by rw [hr.length_eq, len_rangeZ]
  let ms := mks row p
  let ρ0 : Ev := [some (.val (.int n)), some (.val (tz row)), some (.val (tz p)), none]
  have ec : dEx (dCall F_check_guests (dR (dVar 0) dR0)) ρ0 = .ok (.nx, ρ0) := dEx_ok (call1 (ρ' := ρ0) rfl (check_ok (by omega) (by omega)))
  let pk : Dt → Bool := fun d => match d with | .int k => endB ms k.toNat | _ => false
  have hc : dComp (dRng1 (dVar 0)) (gSet 4) (dTAnd (dTB (dOp (gIn false) (dOp gIx (dVar 1) (dOp gSub (dVar 4) (dC (.int 1)))) (dVar 2))) (dTB (dOp (gIn true) (dOp gIx (dVar 1) (dVar 4)) (dVar 2)))) (dVar 4) 1 ρ0 = .ok (((rangeD 0 n).filter pk).map id, ρ0) := by
    refine dComp_filter (p := pk) (f := id) (l := rangeD 0 n) (rng1_ok (j := n) (ρ1 := ρ0) rfl (by omega)) rfl (by unfold rangeD; rw [List.length_map, List.length_range]; omega) (fun d hd => ?_) (fun d hd _ => rfl)
    obtain ⟨k, hk, rfl⟩ := List.mem_map.mp hd
    have hk : k < n := by simpa using hk
    rw [Int.zero_add]
    let ρ1 : Ev := [some (.val (.int n)), some (.val (tz row)), some (.val (tz p)), none, some (.val (.int (k : Nat)))]
    show dTAnd _ _ ρ1 = .ok (endB ms k, ρ1)
    have hk' : k < row.length := by omega
    have g2 : gIx (tz row) (.int (k : Nat)) = .ok (.int row[k]) := gIx_tup (by omega) (by simp; omega) (by simp [hk'])
    have c2 : dTB (dOp (gIn true) (dOp gIx (dVar 1) (dVar 4)) (dVar 2)) ρ1 = .ok (!(ms.getD k false), ρ1) := by
      rw [mks_at (List.getElem?_eq_getElem hk')]
      exact dTB_ok (dOp_ok (dOp_ok (d := tz row) (e := .int (k : Nat)) (ρ1 := ρ1) (ρ2 := ρ1) rfl rfl g2) (e := tz p) (ρ2 := ρ1) rfl in_ok)
    have c1 : dTB (dOp (gIn false) (dOp gIx (dVar 1) (dOp gSub (dVar 4) (dC (.int 1)))) (dVar 2)) ρ1 = .ok (ms.getD (if k = 0 then ms.length - 1 else k - 1) false, ρ1) := by
      have hm : ms.length = n := by show (mks row p).length = n; rw [len_mks, hrl]
      obtain ⟨j, hj, hjl, g1⟩ : ∃ j, (if k = 0 then ms.length - 1 else k - 1) = j ∧ ∃ h : j < row.length, gIx (tz row) (.int ((k : Int) - 1)) = .ok (.int row[j]) := by
        refine ⟨_, rfl, ?_⟩
        by_cases z : k = 0
        · rw [if_pos z, hm]
          refine ⟨by omega, ?_⟩
          unfold gIx tz
          simp only
          unfold atI ixN
          rw [if_neg (by omega), if_pos (by rw [List.length_map]; omega)]
          have : ((k : Int) - 1 + ((row.map Dt.int).length : Nat)).toNat = n - 1 := by rw [List.length_map]; omega
          rw [this]
          have hx : n - 1 < row.length := by omega
          simp [hx]
        · rw [if_neg z]
          refine ⟨by omega, ?_⟩
          refine gIx_tup (by omega) (by simp; omega) ?_
          have : ((k : Int) - 1).toNat = k - 1 := by omega
          rw [this]
          have hx : k - 1 < row.length := by omega
          simp [hx]
      rw [hj, mks_at (List.getElem?_eq_getElem hjl)]
      exact dTB_ok (dOp_ok (dOp_ok (d := tz row) (e := .int ((k : Int) - 1)) (ρ1 := ρ1) (ρ2 := ρ1) rfl rfl g1) (e := tz p) (ρ2 := ρ1) rfl in_ok)
    unfold endB
    cases hb : ms.getD (if k = 0 then ms.length - 1 else k - 1) false with
    | true => rw [hb] at c1; rw [dTAnd_t c1, c2]; rfl
    | false => rw [hb] at c1; rw [dTAnd_f c1]; rfl
  have hlen : (((rangeD 0 n).filter pk).map id).length = ((List.range n).filter (endB ms)).length := by
    rw [List.length_map]
    unfold rangeD
    rw [List.filter_map, List.length_map]
    have : (pk ∘ fun k : Nat => Dt.int (0 + (k : Nat))) = endB ms := by
      funext k
      show endB ms (0 + (k : Int)).toNat = endB ms k
      rw [Int.zero_add, Int.toNat_natCast]
    rw [this]
  refine runDef_rt (ρ' := [some (.val (.int n)), some (.val (tz row)), some (.val (tz p)), some (.val (.lst (((rangeD 0 n).filter pk).map id)))]) rfl ?_ rfl
  show d_sits_round ρ0 = _
  unfold d_sits_round
  rw [dSeq_nx ec, dSeq_nx (dSet_ok (i := 3) (dFz_ok hc) (by simp [ρ0]))]
  refine dRet_ok (dOp_ok (d := .int (((rangeD 0 n).filter pk).map id).length) (e := .int 1) (ρ1 := [some (.val (.int n)), some (.val (tz row)), some (.val (tz p)), some (.val (.lst (((rangeD 0 n).filter pk).map id)))]) rfl rfl ?_)
  rw [hlen]
  show R.ok (Dt.bl (decide (((((List.range n).filter (endB ms)).length : Nat) : Int) ≤ 1))) = _
  unfold sitsB
  rw [len_mks, hrl]
  have hd : ∀ x : Nat, decide ((x : Int) ≤ 1) = decide (x ≤ 1) := fun x => decide_eq_decide.mpr (by omega)
  rw [hd]
end Lw
end
section
set_option Elab.async false
set_option linter.all false
set_option maxRecDepth 100000
set_option maxHeartbeats 1000000
namespace Lw
open PySem PySem.Spec L2 PV
theorem rep_true {fa : De} {ρ ρ2 : Ev} {m : Nat} (h : fa ρ = .ok (.int m, ρ2)) (hm : m ≤ 1000) : dRep (dC (.lst [(.bl true)])) fa ρ = .ok ((List.replicate m true).map .bl, ρ2) := by
  have this : ∀ k : Nat, (List.replicate k [Dt.bl true]).flatten = (List.replicate k true).map .bl := by
    intro k
    induction k with
    | zero => rfl
    | succ k ih => rw [List.replicate_succ, List.flatten_cons, ih, List.replicate_succ]; rfl
  have hc : [Dt.bl true].length * (m : Int).toNat ≤ 16777216 := by
    rw [Int.toNat_natCast]
    simp only [List.length_cons, List.length_nil]
    omega
  rw [dRep_C (ρ1 := ρ) rfl h, dRepC_ok ⟨mid_small hm, hc⟩, Int.toNat_natCast, this]
theorem cut_to {α : Type} {l : List α} {j : Nat} (h : j ≤ l.length) : cutD l none (some (j : Int)) = l.take j := by
  unfold cutD
  rw [HT.sIx_none, HT.sIx_nat, List.drop_zero, Nat.sub_zero, Nat.min_eq_left h]
theorem cut_from {α : Type} {l : List α} {j : Nat} (h : j ≤ l.length) : cutD l (some (j : Int)) none = l.drop j := by
  unfold cutD
  rw [HT.sIx_none, HT.sIx_nat, Nat.min_eq_left h]
  rw [List.take_of_length_le (by rw [List.length_drop]; omega)]
theorem cnt_true (ms : List Bool) : cntD (.bl true) (ms.map .bl) = ms.count true := by
  induction ms with
  | nil => rfl
  | cons b r ih =>
    unfold cntD at ih ⊢
    rw [List.map_cons, List.countP_cons, ih, List.count_cons, eqD]
noncomputable def bodyT : DS := (dSeq (dSet 5 (dFz (dCat (dFz (dCut (dVar 2) (dO1 (dVar 4)) dO0)) (dFz (dCut (dVar 2) dO0 (dO1 (dVar 4))))))) (dIf (dTB (dOp (gEq false) (dFz (dCut (dVar 5) dO0 (dO1 (dVar 3)))) (dFz (dRep (dC (.lst [(.bl true)])) (dVar 3))))) (dRet (dC (.bl true))) dNx))
theorem tog_def : d__law_round_together = (dSeq (dSet 2 (dFz (dComp (dIt (dVar 0)) (gSet 6) dTT (dOp (gIn false) (dVar 6) (dVar 1)) 1))) (dSeq (dSet 3 (dCnt (dVar 2) (dC (.bl true)))) (dSeq (dFor (dRng1 (dFn gLen (dA (dVar 0) dA0))) (gSet 4) bodyT) (dRet (dC (.bl false)))))) := rfl
noncomputable abbrev ET (a b m c t u : Option B) : Ev := [a, b, m, c, t, u]
theorem bodyT_eval {ms : List Bool} {k : Nat} {A B0 o5 : Option B} (hl : ms.length ≤ 1000) (hk : k < ms.length) : bodyT (ET A B0 (some (.val (.lst (ms.map .bl)))) (some (.val (.int (ms.count true)))) (some (.val (.int k))) o5) = .ok (if turnB ms k = true then .rt (.bl true) else .nx, ET A B0 (some (.val (.lst (ms.map .bl)))) (some (.val (.int (ms.count true)))) (some (.val (.int k))) (some (.val (.lst ((ms.drop k ++ ms.take k).map .bl))))) := by
  let M : Option B := some (.val (.lst (ms.map .bl)))
  let C : Option B := some (.val (.int (ms.count true)))
  let K : Option B := some (.val (.int k))
  let ρ0 : Ev := ET A B0 M C K o5
  let ρ1 : Ev := ET A B0 M C K (some (.val (.lst ((ms.drop k ++ ms.take k).map .bl))))
  have hcl : ms.count true ≤ ms.length := List.count_le_length
  have x1 : dSet 5 (dFz (dCat (dFz (dCut (dVar 2) (dO1 (dVar 4)) dO0)) (dFz (dCut (dVar 2) dO0 (dO1 (dVar 4)))))) ρ0 = .ok (.nx, ρ1) := by
    refine dSet_ok (i := 5) (ρ1 := ρ0) (dFz_ok ?_) (by simp [ρ0])
    have a1 : dFz (dCut (dVar 2) (dO1 (dVar 4)) dO0) ρ0 = .ok (.lst ((ms.map .bl).drop k), ρ0) := by
      refine dFz_ok ?_
      rw [dCut_ok (ρ := ρ0) (ds := ms.map .bl) (lo := some (k : Int)) (hi := none) rfl rfl rfl, cut_from (by rw [List.length_map]; omega)]
    have a2 : dFz (dCut (dVar 2) dO0 (dO1 (dVar 4))) ρ0 = .ok (.lst ((ms.map .bl).take k), ρ0) := by
      refine dFz_ok ?_
      rw [dCut_ok (ρ := ρ0) (ds := ms.map .bl) (lo := none) (hi := some (k : Int)) rfl rfl rfl, cut_to (by rw [List.length_map]; omega)]
    rw [dCat_ok a1 a2 (by rw [List.length_drop, List.length_take, List.length_map]; omega), List.map_append, List.map_drop, List.map_take]
  have hc : dTB (dOp (gEq false) (dFz (dCut (dVar 5) dO0 (dO1 (dVar 3)))) (dFz (dRep (dC (.lst [(.bl true)])) (dVar 3)))) ρ1 = .ok (turnB ms k, ρ1) := by
    have b1 : dFz (dCut (dVar 5) dO0 (dO1 (dVar 3))) ρ1 = .ok (.lst (((ms.drop k ++ ms.take k).take (ms.count true)).map .bl), ρ1) := by
      refine dFz_ok ?_
      rw [dCut_ok (ρ := ρ1) (ds := (ms.drop k ++ ms.take k).map .bl) (lo := none) (hi := some ((ms.count true : Nat) : Int)) rfl rfl rfl, cut_to (by rw [List.length_map, List.length_append, List.length_drop, List.length_take]; omega), List.map_take]
    have b2 : dFz (dRep (dC (.lst [(.bl true)])) (dVar 3)) ρ1 = .ok (.lst ((List.replicate (ms.count true) true).map .bl), ρ1) := dFz_ok (rep_true (ρ2 := ρ1) rfl (by omega))
    refine dTB_ok (dOp_ok b1 b2 ?_)
    rw [gEq_ok (okN_bools _ _) (okN_bools _ _), eqD, eqDs_bools]
    rfl
  show bodyT ρ0 = _
  unfold bodyT
  rw [dSeq_nx x1]
  cases h : turnB ms k with
  | true => rw [h] at hc; rw [dIf_t hc]; rfl
  | false => rw [h] at hc; rw [dIf_f hc]; rfl
theorem loopT {ms : List Bool} {A B0 : Option B} (hl : ms.length ≤ 1000) : ∀ (ks : List Nat) (o4 o5 : Option B), (∀ k ∈ ks, k < ms.length) →
    ∃ b4 b5, forD (gSet 4) bodyT (ks.map fun (k : Nat) => Dt.int (0 + (k : Nat))) (ET A B0 (some (.val (.lst (ms.map .bl)))) (some (.val (.int (ms.count true)))) o4 o5) = .ok (if ks.any (turnB ms) = true then .rt (.bl true) else .nx, ET A B0 (some (.val (.lst (ms.map .bl)))) (some (.val (.int (ms.count true)))) b4 b5)
  | [], o4, o5, _ => ⟨o4, o5, rfl⟩
  | k :: ks, o4, o5, h => by
    have e := bodyT_eval (A := A) (B0 := B0) (o5 := o5) hl (h k (by simp))
    rw [List.map_cons, forD, Int.zero_add]
    show ∃ b4 b5, ((bodyT (ET A B0 (some (.val (.lst (ms.map .bl)))) (some (.val (.int (ms.count true)))) (some (.val (.int k))) o5)).bind _) = _
    rw [List.any_cons]
    by_cases ht : turnB ms k = true
    · rw [if_pos ht] at e
      rw [e, ht]
      exact ⟨_, _, rfl⟩
    · rw [if_neg ht] at e
      have ht' : turnB ms k = false := by cases h : turnB ms k <;> simp_all
      rw [e, ht']
      obtain ⟨b4, b5, e2⟩ := loopT (A := A) (B0 := B0) hl ks (some (.val (.int k))) (some (.val (.lst ((ms.drop k ++ ms.take k).map .bl)))) (fun x hx => h x (List.mem_cons_of_mem _ hx))
      refine ⟨b4, b5, ?_⟩
      rw [Bool.false_or]
      exact e2
theorem tog_eval {row p : List Int} (hl : row.length ≤ 7) : F__law_round_together [.val (tz row), .val (tz p)] = .ok (.bl (togB (mks row p)), [.val .non, .val .non]) := by
  let ms := mks row p
  have hml : ms.length = row.length := len_mks row p
  let A : Option B := some (.val (tz row))
  let P : Option B := some (.val (tz p))
  let M : Option B := some (.val (.lst (ms.map .bl)))
  let C : Option B := some (.val (.int (ms.count true)))
  have hc : dComp (dIt (dVar 0)) (gSet 6) dTT (dOp (gIn false) (dVar 6) (dVar 1)) 1 (ET A P none none none none) = .ok (row.map fun g => .bl (p.any fun x => x == g), ET A P none none none none) := by
    refine dComp_pure (l := row) (u := .int) (f := fun g => .bl (p.any fun x => x == g)) (ds := row.map .int) rfl rfl (by omega) (fun g hg => ?_) rfl
    exact dOp_ok (d := .int g) (e := tz p) rfl rfl in_ok
  have x1 : dSet 2 (dFz (dComp (dIt (dVar 0)) (gSet 6) dTT (dOp (gIn false) (dVar 6) (dVar 1)) 1)) (ET A P none none none none) = .ok (.nx, ET A P M none none none) := by
    have := dSet_ok (i := 2) (dFz_ok hc) (by simp)
    rw [this]
    simp [ET, M, ms, mks]
  have x2 : dSet 3 (dCnt (dVar 2) (dC (.bl true))) (ET A P M none none none) = .ok (.nx, ET A P M C none none) := by
    refine dSet_ok (i := 3) (ρ1 := ET A P M none none none) ?_ (by simp)
    unfold dCnt
    show (if (okN 60 (.bl true) && (ms.map Dt.bl).all (okN 60)) = true then R.ok (Dt.int (cntD (.bl true) (ms.map .bl)), ET A P M none none none) else .no) = _
    rw [if_pos (by simp [okN]), cnt_true]
  obtain ⟨b4, b5, e⟩ := loopT (ms := ms) (A := A) (B0 := P) (by omega) (List.range row.length) none none (fun k hk => by rw [hml]; simpa using hk)
  have x3 : dFor (dRng1 (dFn gLen (dA (dVar 0) dA0))) (gSet 4) bodyT (ET A P M C none none) = .ok (if (List.range row.length).any (turnB ms) = true then .rt (.bl true) else .nx, ET A P M C b4 b5) := by
    unfold dFor
    rw [rng1_ok (j := row.length) (ρ1 := ET A P M C none none) (dFn_ok (d := tz row) rfl (by simp [gLen, tz])) (by omega)]
    exact e
  have ht : togB (mks row p) = (List.range row.length).any (turnB ms) := by unfold togB; rw [len_mks]
  rw [ht]
  refine runDef_rt (ρ' := ET A P M C b4 b5) rfl ?_ rfl
  show d__law_round_together (ET A P none none none none) = _
  rw [tog_def, dSeq_nx x1, dSeq_nx x2]
  cases h : (List.range row.length).any (turnB ms) with
  | true => rw [h] at x3; exact dSeq_rt x3
  | false => rw [h] at x3; rw [dSeq_nx (show _ = R.ok (Fl.nx, _) from x3)]; rfl
/-! the first that is broken -/
noncomputable def firstF : List Bool → Nat
  | [] => 0
  | true :: r => firstF r + 1
  | false :: _ => 0
theorem idx_first : ∀ l : List Bool, idxD (.bl false) ((l ++ [false]).map .bl) = some (firstF l)
  | [] => rfl
  | true :: r => by
    show (if eqD (.bl true) (.bl false) = true then some 0 else (idxD (.bl false) ((r ++ [false]).map .bl)).map (· + 1)) = _
    rw [idx_first r]; rfl
  | false :: r => rfl
noncomputable def bodyB : DS := (dIf (dTNot (dTB (dCall F_sits_round (dR (dVar 0) (dR (dVar 1) (dR (dVar 4) dR0)))))) (dRet (dVar 3)) dNx)
noncomputable abbrev EB (a b c d e : Option B) : Ev := [a, b, c, d, e]
noncomputable def brkD (k : Nat) (ms : List Bool) : Dt := if firstF ms = ms.length then .non else .int ((k + firstF ms : Nat) : Int)
theorem broken_loop {row : List Int} {n : Nat} {P : Option B} (h1 : 1 ≤ n) (h7 : n ≤ 7) (hr : row.Perm (rangeZ n)) : ∀ (ps : List (List Int)) (k : Nat) (o3 o4 : Option B),
    ∃ b3 b4, forD (gSet2 3 4) bodyB (enumAt k (lp ps)) (EB (some (.val (.int n))) (some (.val (tz row))) P o3 o4) = .ok (if firstF (ps.map fun p => sitsB (mks row p)) = ps.length then .nx else .rt (.int ((k + firstF (ps.map fun p => sitsB (mks row p)) : Nat) : Int)), EB (some (.val (.int n))) (some (.val (tz row))) P b3 b4)
  | [], k, o3, o4 => ⟨o3, o4, rfl⟩
  | p :: ps, k, o3, o4 => by
    let ρ1 : Ev := EB (some (.val (.int n))) (some (.val (tz row))) P (some (.val (.int (k : Nat)))) (some (.val (tz p)))
    have es : dTNot (dTB (dCall F_sits_round (dR (dVar 0) (dR (dVar 1) (dR (dVar 4) dR0))))) ρ1 = .ok (!sitsB (mks row p), ρ1) := dTNot_ok (dTB_ok (call3 (ρ1 := ρ1) (ρ2 := ρ1) (ρ3 := ρ1) rfl rfl rfl (sits_eval h1 h7 hr)))
    have hg : gSet2 3 4 (.tup [.int (k : Nat), tz p]) (EB (some (.val (.int n))) (some (.val (tz row))) P o3 o4) = .ok ρ1 := by
      simp [gSet2, ρ1]
    show ∃ b3 b4, forD (gSet2 3 4) bodyB (.tup [.int (k : Nat), tz p] :: enumAt (k + 1) (lp ps)) (EB (some (.val (.int n))) (some (.val (tz row))) P o3 o4) = _
    rw [forD, hg, R.bind_ok, List.map_cons]
    cases hb : sitsB (mks row p) with
    | true =>
      rw [hb] at es
      obtain ⟨b3, b4, e⟩ := broken_loop (P := P) h1 h7 hr ps (k + 1) (some (.val (.int (k : Nat)))) (some (.val (tz p)))
      refine ⟨b3, b4, ?_⟩
      have hx : bodyB ρ1 = .ok (.nx, ρ1) := by unfold bodyB; rw [dIf_f es]; rfl
      rw [hx]
      simp only [R.bind_ok, firstF, List.length_cons, Nat.add_right_cancel_iff]
      rw [show k + (firstF (ps.map fun p => sitsB (mks row p)) + 1) = k + 1 + firstF (ps.map fun p => sitsB (mks row p)) from by omega]
      exact e
    | false =>
      rw [hb] at es
      have hx : bodyB ρ1 = .ok (.rt (.int (k : Nat)), ρ1) := by unfold bodyB; rw [dIf_t es]; rfl
      refine ⟨some (.val (.int (k : Nat))), some (.val (tz p)), ?_⟩
      rw [hx]
      rfl
theorem broken_eval {n : Nat} {row : List Int} {ps : List (List Int)} (h1 : 1 ≤ n) (h7 : n ≤ 7) (hr : row.Perm (rangeZ n)) (hl : ps.length ≤ 8) (hp : Ptys n ps) : F_first_broken_round [.val (.int n), .val (tz row), .val (.lst (lp ps))] = .ok (brkD 0 (ps.map fun p => sitsB (mks row p)), [.val .non, .val .non, .val .non]) := by
  let N : Option B := some (.val (.int n))
  let Rw : Option B := some (.val (tz row))
  let P : Option B := some (.val (.lst (lp ps)))
  let ρ0 : Ev := EB N Rw P none none
  have ec : dEx (dCall F_check_parties (dR (dVar 0) (dR (dVar 2) dR0))) ρ0 = .ok (.nx, ρ0) := dEx_ok (call2 (ρ' := ρ0) (ρ'' := ρ0) rfl rfl (checkp_ok h1 h7 (lens_lp h7 hp) (ptysB_lp hl hp)))
  have ei : dEnum (dVar 2) ρ0 = .ok (enumAt 0 (lp ps), ρ0) := by
    rw [← enumD_at]; rfl
  obtain ⟨b3, b4, e⟩ := broken_loop (P := P) h1 h7 hr ps 0 none none
  refine runDef_rt (ρ' := EB N Rw P b3 b4) rfl ?_ rfl
  show d_first_broken_round ρ0 = _
  unfold d_first_broken_round
  rw [dSeq_nx ec]
  unfold brkD
  rw [List.length_map]
  have x : dFor (dEnum (dVar 2)) (gSet2 3 4) bodyB ρ0 = .ok (if firstF (ps.map fun p => sitsB (mks row p)) = ps.length then .nx else .rt (.int ((0 + firstF (ps.map fun p => sitsB (mks row p)) : Nat) : Int)), EB N Rw P b3 b4) := by unfold dFor; rw [ei]; exact e
  by_cases h : firstF (ps.map fun p => sitsB (mks row p)) = ps.length
  · rw [if_pos h] at x ⊢
    rw [dSeq_nx (show dFor (dEnum (dVar 2)) (gSet2 3 4) (dIf (dTNot (dTB (dCall F_sits_round (dR (dVar 0) (dR (dVar 1) (dR (dVar 4) dR0)))))) (dRet (dVar 3)) dNx) ρ0 = _ from x)]
    rfl
  · rw [if_neg h] at x ⊢
    exact dSeq_rt x
theorem broken_bad {d t u : Dt} (h : isW d = false ∨ ∃ n, d = .int n ∧ (n < 1 ∨ 7 < n)) : F_first_broken_round [.val d, .val u, .val t] = .er 0 := by
  have e : dCall F_check_parties (dR (dVar 0) (dR (dVar 2) dR0)) [some (.val d), some (.val u), some (.val t), none, none] = .er 0 := call2_er (ρ' := [some (.val d), some (.val u), some (.val t), none, none]) (ρ'' := [some (.val d), some (.val u), some (.val t), none, none]) rfl rfl (checkp_bad h)
  unfold F_first_broken_round runDef
  rw [if_pos (show kinds [.val d, .val u, .val t] = [false, false, false] from rfl)]
  show (d_first_broken_round [some (.val d), some (.val u), some (.val t), none, none]).bind _ = _
  unfold d_first_broken_round dSeq dEx
  rw [e]
  rfl
theorem broken_no {n : Nat} {d u : Dt} (h1 : 1 ≤ n) (h7 : n ≤ 7) (hl : Lens d) (hp : ptysB n d = false) : F_first_broken_round [.val (.int n), .val u, .val d] = .er 1 := by
  have e : dCall F_check_parties (dR (dVar 0) (dR (dVar 2) dR0)) [some (.val (.int n)), some (.val u), some (.val d), none, none] = .er 1 := call2_er (ρ' := [some (.val (.int n)), some (.val u), some (.val d), none, none]) (ρ'' := [some (.val (.int n)), some (.val u), some (.val d), none, none]) rfl rfl (checkp_no h1 h7 hl hp)
  unfold F_first_broken_round runDef
  rw [if_pos (show kinds [.val (.int n), .val u, .val d] = [false, false, false] from rfl)]
  show (d_first_broken_round [some (.val (.int n)), some (.val u), some (.val d), none, none]).bind _ = _
  unfold d_first_broken_round dSeq dEx
  rw [e]
  rfl
end Lw
end
section
set_option Elab.async false
set_option linter.all false
set_option maxRecDepth 100000
set_option maxHeartbeats 1000000
namespace Lw
open PySem PySem.Spec L2 PV
noncomputable def Tl (d : Dt) : Prop := ∀ l, d = .tup l → l.length ≤ 60
theorem pow29 (ρ : Ev) : dOp gPow (dC (.int 10)) (dC (.int 29)) ρ = .ok (.int 100000000000000000000000000000, ρ) := by
  refine dOp_ok (d := .int 10) (e := .int 29) rfl rfl ?_
  unfold gPow
  simp only
  rw [if_pos (by decide)]
  rfl
noncomputable def oddE : De := (dFz (dLst (dA (dOp gIx (dVar 1) (dC (.int 0))) (dA (dFn gLen (dA (dVar 1) dA0)) (dA (dNeg (dC (.int 1))) (dA (dC (.bl true)) (dA (dC .non) (dA (dC (.str (Str.ofString "0"))) (dA (dC (.tup [(.int 0)])) (dA (dOp gPow (dC (.int 10)) (dC (.int 29))) dA0))))))))))
noncomputable def someE : De := (dFz (dLst (dA (dOp gCatT (dOp gCatT (dCutW (dVar 1) dO0 (dO1 (dVar 2))) (dTup (dA (dVar 3) dA0))) (dCutW (dVar 1) (dO1 (dOp gAddI (dVar 2) (dC (.int 1)))) dO0)) (dA (dCutW (dVar 1) dO0 (dO1 (dNeg (dC (.int 1))))) (dA (dOp gCatT (dVar 1) (dTup (dA (dFn gLen (dA (dVar 1) dA0)) dA0))) (dA (dFz (dFnN gList (dA (dVar 1) dA0))) (dA (dC .non) (dA (dC .dct) (dA (dRevT (dVar 1)) (dA (dC (.int 0)) dA0))))))))))
noncomputable def idxL : List Dt := [(.int 0), (.int 0), (.int 0), (.int 1), (.int 2), (.int 3), (.int 4), (.int 5), (.int 6), (.int 7)]
theorem bent_def : d__law_bent = (dSeq (dSet 2 (dCall F__law_take (dRO 0 (dR (dFn gLen (dA (dVar 1) dA0)) dR0)))) (dSeq (dSet 3 (dOp gIx oddE (dCall F__law_take (dRO 0 (dR (dC (.int 8)) dR0))))) (dSeq (dSet 4 someE) (dRet (dOp gIx (dVar 4) (dOp gIx (dC (.lst idxL)) (dCall F__law_take (dRO 0 (dR (dC (.int 10)) dR0))))))))) := rfl
theorem idx_ok {u : Int} (h0 : 0 ≤ u) (h1 : u < 10) : ∃ j : Nat, j < 8 ∧ gIx (.lst idxL) (.int u) = .ok (.int j) := by
  obtain ⟨k, rfl⟩ : ∃ k : Nat, u = k := ⟨u.toNat, by omega⟩
  have : k = 0 ∨ k = 1 ∨ k = 2 ∨ k = 3 ∨ k = 4 ∨ k = 5 ∨ k = 6 ∨ k = 7 ∨ k = 8 ∨ k = 9 := by omega
  rcases this with rfl | rfl | rfl | rfl | rfl | rfl | rfl | rfl | rfl | rfl
  · exact ⟨0, by decide, rfl⟩
  · exact ⟨0, by decide, rfl⟩
  · exact ⟨0, by decide, rfl⟩
  · exact ⟨1, by decide, rfl⟩
  · exact ⟨2, by decide, rfl⟩
  · exact ⟨3, by decide, rfl⟩
  · exact ⟨4, by decide, rfl⟩
  · exact ⟨5, by decide, rfl⟩
  · exact ⟨6, by decide, rfl⟩
  · exact ⟨7, by decide, rfl⟩
theorem bent_spec {n : Nat} {st : List Dt} {row : List Int} (h1 : 1 ≤ n) (h7 : n ≤ 7) (hr : row.Perm (rangeZ n)) (hs : St st) : ∃ d st', St st' ∧ Tl d ∧ F__law_bent [.own st, .val (tz row)] = .ok (d, [.own st', .val .non]) := by
  have hrl : row.length = n := by rw [hr.length_eq, len_rangeZ]
  let Rw : Option B := some (.val (tz row))
  obtain ⟨v, st1, e1, hs1, v0, v1⟩ := take_spec (m := (row.length : Nat)) hs (by omega) (by omega)
  let ρ1 : Ev := [some (.own st1), Rw, some (.val (.int v)), none, none]
  have x1 : dSet 2 (dCall F__law_take (dRO 0 (dR (dFn gLen (dA (dVar 1) dA0)) dR0))) [some (.own st), Rw, none, none, none] = .ok (.nx, ρ1) :=
    dSet_ok (i := 2) (takeC e1 (dFn_ok (d := tz row) rfl (by simp [gLen, tz]))) (by simp)
  obtain ⟨a, ha⟩ : ∃ a, row[0]? = some a := ⟨row[0]'(by omega), by simp⟩
  have g0 : gIx (tz row) (.int 0) = .ok (.int a) := gIx_tup (by decide) (by simp; omega) (by simp [ha])
  let oddL : List Dt := [.int a, .int row.length, .int (-1), .bl true, .non, .str (Str.ofString "0"), .tup [.int 0], .int 100000000000000000000000000000]
  have eo : oddE ρ1 = .ok (.lst oddL, ρ1) := by
    unfold oddE
    exact dFz_ok (dLst_ok (ds := oddL) (dA_ok (dOp_ok (d := tz row) (e := .int 0) (ρ1 := ρ1) rfl rfl g0) (dA_ok (dFn_ok (d := tz row) (ρ1 := ρ1) rfl (by simp [gLen, tz])) (dA_ok rfl (dA_ok rfl (dA_ok rfl (dA_ok rfl (dA_ok rfl (dA_ok (fr := dA0) (pow29 _) rfl)))))))) (by simp [oddL]))
  obtain ⟨u, st2, e2, hs2, u0, u1⟩ := take_spec (m := 8) hs1 (by decide) (by decide)
  have hul : u.toNat < oddL.length := by show u.toNat < 8; omega
  let od : Dt := oddL[u.toNat]
  let ρ2 : Ev := [some (.own st2), Rw, some (.val (.int v)), some (.val od), none]
  have x2 : dSet 3 (dOp gIx oddE (dCall F__law_take (dRO 0 (dR (dC (.int 8)) dR0)))) ρ1 = .ok (.nx, ρ2) :=
    dSet_ok (i := 3) (dOp_ok eo (takeC e2 rfl) (gIx_lst u0 (by show u < 8; omega) (List.getElem?_eq_getElem hul))) (by simp [ρ1])
  let c1 : List Dt := cutD (row.map .int) none (some v)
  let c2 : List Dt := cutD (row.map .int) (some (v + 1)) none
  let c3 : List Dt := cutD (row.map .int) none (some (-1))
  have l1 : c1.length ≤ 7 := by have : c1.length ≤ (row.map Dt.int).length := cut_len; rw [List.length_map] at this; omega
  have l2 : c2.length ≤ 7 := by have : c2.length ≤ (row.map Dt.int).length := cut_len; rw [List.length_map] at this; omega
  have l3 : c3.length ≤ 7 := by have : c3.length ≤ (row.map Dt.int).length := cut_len; rw [List.length_map] at this; omega
  let someL : List Dt := [.tup ((c1 ++ [od]) ++ c2), .tup c3, .tup (row.map .int ++ [.int row.length]), .lst (row.map .int), .non, .dct, .tup (row.map .int).reverse, .int 0]
  have hT : ∀ d ∈ someL, Tl d := by
    intro d hd l hl
    simp only [someL, List.mem_cons, List.not_mem_nil, or_false] at hd
    rcases hd with rfl | rfl | rfl | rfl | rfl | rfl | rfl | rfl
    · cases hl; simp only [List.length_append, List.length_cons, List.length_nil]; omega
    · cases hl; omega
    · cases hl; simp only [List.length_append, List.length_map, List.length_cons, List.length_nil]; omega
    · cases hl
    · cases hl
    · cases hl
    · cases hl; simp only [List.length_reverse, List.length_map]; omega
    · cases hl
  have es : someE ρ2 = .ok (.lst someL, ρ2) := by
    have k1 : dCutW (dVar 1) dO0 (dO1 (dVar 2)) ρ2 = .ok (.tup c1, ρ2) := dCutW_ok (lo := none) (hi := some v) rfl rfl rfl
    have k2 : dCutW (dVar 1) (dO1 (dOp gAddI (dVar 2) (dC (.int 1)))) dO0 ρ2 = .ok (.tup c2, ρ2) := dCutW_ok (lo := some (v + 1)) (hi := none) rfl rfl rfl
    have k3 : dCutW (dVar 1) dO0 (dO1 (dNeg (dC (.int 1)))) ρ2 = .ok (.tup c3, ρ2) := dCutW_ok (lo := none) (hi := some (-1)) rfl rfl rfl
    have k4 : dTup (dA (dVar 3) dA0) ρ2 = .ok (.tup [od], ρ2) := dTup_ok (dA_ok rfl rfl) (by simp)
    have k5 : dTup (dA (dFn gLen (dA (dVar 1) dA0)) dA0) ρ2 = .ok (.tup [.int row.length], ρ2) := dTup_ok (dA_ok (dFn_ok (d := tz row) (ρ1 := ρ2) rfl (by simp [gLen, tz])) rfl) (by simp)
    unfold someE
    refine dFz_ok (dLst_ok (ds := someL) (dA_ok (dOp_ok (dOp_ok k1 k4 (catT_ok (by simp; omega))) k2 (catT_ok (by simp; omega))) (dA_ok k3 (dA_ok (dOp_ok (d := tz row) (ρ1 := ρ2) rfl k5 (catT_ok (by simp; omega))) (dA_ok rfl (dA_ok rfl (dA_ok rfl (dA_ok rfl (dA_ok (fr := dA0) rfl rfl)))))))) (by simp [someL]))
  let ρ3 : Ev := [some (.own st2), Rw, some (.val (.int v)), some (.val od), some (.val (.lst someL))]
  have x3 : dSet 4 someE ρ2 = .ok (.nx, ρ3) := dSet_ok (i := 4) es (by simp [ρ2])
  obtain ⟨z, st3, e3, hs3, z0, z1⟩ := take_spec (m := 10) hs2 (by decide) (by decide)
  obtain ⟨j, hj, ej⟩ := idx_ok z0 z1
  have hjl : j < someL.length := by show j < 8; exact hj
  refine ⟨someL[j], st3, hs3, hT _ (List.getElem_mem hjl), runDef_rt (ρ' := [some (.own st3), Rw, some (.val (.int v)), some (.val od), some (.val (.lst someL))]) rfl ?_ rfl⟩
  show d__law_bent [some (.own st), Rw, none, none, none] = _
  rw [bent_def, dSeq_nx x1, dSeq_nx x2, dSeq_nx x3]
  exact dRet_ok (dOp_ok (d := .lst someL) (e := .int j) (ρ1 := ρ3) rfl (dOp_ok (d := .lst idxL) (e := .int z) (ρ1 := ρ3) rfl (takeC e3 rfl) ej) (gIx_lst (by omega) (by show (j : Int) < 8; omega) (by rw [Int.toNat_natCast]; exact List.getElem?_eq_getElem hjl)))
/-! the same -/
theorem same_bl (k : Nat) (a : Bool) : F__law_same (k + 1) [.val (.bl a), .val (.bl a)] = .ok (.bl true, [.val .non, .val .non]) := by
  cases a <;> rfl
theorem same_non (k : Nat) : F__law_same (k + 1) [.val .non, .val .non] = .ok (.bl true, [.val .non, .val .non]) := rfl
theorem same_int (k : Nat) (i : Int) : F__law_same (k + 1) [.val (.int i), .val (.int i)] = .ok (.bl true, [.val .non, .val .non]) := by
  let ρ0 : Ev := [some (.val (.int i)), some (.val (.int i))]
  refine runDef_rt (ρ' := ρ0) rfl ?_ rfl
  show d__law_same (F__law_same k) ρ0 = _
  unfold d__law_same
  have c0 : dTB (dIsi2 "tuple" "list" (dVar 1)) ρ0 = .ok (false, ρ0) := dTB_ok rfl
  rw [dSeq_nx (ρ1 := ρ0) (by rw [dIf_f c0]; rfl)]
  refine dRet_ok (dAnd_ok (a := true) (b := true) (dOp_ok (d := .int i) (e := .int i) (ρ1 := ρ0) rfl rfl (by rw [gEqI]; simp)) (fun _ => rfl))
theorem same_comp {k : Nat} {A B0 : Option B} : ∀ (bs : List Bool) (o2 o3 : Option B), ∃ b2 b3, compD (gSet2 2 3) dTT (dCall (F__law_same (k + 1)) (dR (dVar 2) (dR (dVar 3) dR0))) (((bs.map Dt.bl).zip (bs.map Dt.bl)).map fun z => .tup [z.1, z.2]) [A, B0, o2, o3] = .ok (bs.map fun _ => .bl true, [A, B0, b2, b3])
  | [], o2, o3 => ⟨o2, o3, rfl⟩
  | b :: bs, o2, o3 => by
    obtain ⟨b2, b3, e⟩ := same_comp (k := k) (A := A) (B0 := B0) bs (some (.val (.bl b))) (some (.val (.bl b)))
    refine ⟨b2, b3, ?_⟩
    let ρ1 : Ev := [A, B0, some (.val (.bl b)), some (.val (.bl b))]
    have ec : dCall (F__law_same (k + 1)) (dR (dVar 2) (dR (dVar 3) dR0)) ρ1 = .ok (.bl true, ρ1) := call2 (ρ' := ρ1) (ρ'' := ρ1) rfl rfl (same_bl k b)
    have hg : gSet2 2 3 (.tup [.bl b, .bl b]) [A, B0, o2, o3] = .ok ρ1 := by simp [gSet2, ρ1]
    show compD _ _ _ (.tup [.bl b, .bl b] :: (((bs.map Dt.bl).zip (bs.map Dt.bl)).map fun z => .tup [z.1, z.2])) _ = _
    rw [compD, hg]
    simp only [R.bind_ok, dTT, if_true]
    rw [ec]
    simp only [R.bind_ok]
    have e' : compD (gSet2 2 3) dTT (dCall (F__law_same (k + 1)) (dR (dVar 2) (dR (dVar 3) dR0))) (((bs.map Dt.bl).zip (bs.map Dt.bl)).map fun z => .tup [z.1, z.2]) ρ1 = _ := e
    rw [e']
    rfl
theorem same_bools (k : Nat) (bs : List Bool) (hl : bs.length ≤ 1000) : F__law_same (k + 2) [.val (.lst (bs.map .bl)), .val (.lst (bs.map .bl))] = .ok (.bl true, [.val .non, .val .non]) := by
  let D : Option B := some (.val (.lst (bs.map .bl)))
  let ρ0 : Ev := [D, D]
  refine runDef_rt (ρ' := ρ0) rfl ?_ rfl
  show d__law_same (F__law_same (k + 1)) ρ0 = _
  unfold d__law_same
  have c0 : dTB (dIsi2 "tuple" "list" (dVar 1)) ρ0 = .ok (true, ρ0) := dTB_ok rfl
  refine dSeq_rt ?_
  rw [dIf_t c0]
  have t1 : dIf (dTOr (dTB (dOp (gEq true) (dIsi "tuple" (dVar 0)) (dIsi "tuple" (dVar 1)))) (dTB (dOp (gEq true) (dIsi "list" (dVar 0)) (dIsi "list" (dVar 1))))) (dRet (dC (.bl false))) dNx ρ0 = .ok (.nx, ρ0) := by
    have a1 : dTB (dOp (gEq true) (dIsi "tuple" (dVar 0)) (dIsi "tuple" (dVar 1))) ρ0 = .ok (false, ρ0) := dTB_ok (dOp_ok (d := .bl false) (e := .bl false) (ρ1 := ρ0) rfl rfl rfl)
    have a2 : dTB (dOp (gEq true) (dIsi "list" (dVar 0)) (dIsi "list" (dVar 1))) ρ0 = .ok (false, ρ0) := dTB_ok (dOp_ok (d := .bl true) (e := .bl true) (ρ1 := ρ0) rfl rfl rfl)
    rw [dIf_f (ρ1 := ρ0) (by rw [dTOr_f a1]; exact a2)]
    rfl
  have t2 : dIf (dTB (dOp (gEq true) (dFn gLen (dA (dVar 0) dA0)) (dFn gLen (dA (dVar 1) dA0)))) (dRet (dC (.bl false))) dNx ρ0 = .ok (.nx, ρ0) := by
    rw [dIf_f (ρ1 := ρ0) (dTB_ok (dOp_ok (d := .int (bs.map Dt.bl).length) (e := .int (bs.map Dt.bl).length) (ρ1 := ρ0) rfl rfl (by rw [gEqI]; simp)))]
    rfl
  rw [dSeq_nx t1, dSeq_nx t2]
  obtain ⟨b2, b3, e⟩ := same_comp (k := k) (A := D) (B0 := D) bs none none
  have hc : dComp (dZipA (dVar 0) (dVar 1)) (gSet2 2 3) dTT (dCall (F__law_same (k + 1)) (dR (dVar 2) (dR (dVar 3) dR0))) 2 ρ0 = .ok (bs.map fun _ => .bl true, ρ0) := by
    unfold dComp
    have ez : dZipA (dVar 0) (dVar 1) ρ0 = .ok (((bs.map Dt.bl).zip (bs.map Dt.bl)).map fun z => .tup [z.1, z.2], ρ0) := by
      show (if (bs.map Dt.bl).length = (bs.map Dt.bl).length then R.ok (((bs.map Dt.bl).zip (bs.map Dt.bl)).map fun z => Dt.tup [z.1, z.2], ρ0) else .no) = _
      rw [if_pos rfl]
    rw [ez]
    simp only [R.bind_ok]
    rw [if_pos (fits_ok (by rw [List.length_map, List.length_zip, List.length_map]; omega))]
    show (match compD (gSet2 2 3) dTT _ _ [D, D, none, none] with | .ok z => R.ok (z.1, z.2.take 2) | _ => .no) = _
    rw [e]
    rfl
  exact dRet_ok (dFn_ok (dFz_ok hc) (by rw [all_ok (fun _ => true) bs]; simp))
end Lw
end
section
set_option Elab.async false
set_option linter.all false
set_option maxRecDepth 100000
set_option maxHeartbeats 1000000
namespace Lw
open PySem PySem.Spec L2 PV
noncomputable def badE : De := (dFz (dLst (dA (dC (.int 0)) (dA (dC (.int 8)) (dA (dNeg (dC (.int 1))) (dA (dC (.bl true)) (dA (dC .non) (dA (dC (.str (Str.ofString "2"))) (dA (dC (.tup [(.int 2)])) (dA (dOp gPow (dC (.int 10)) (dC (.int 29))) dA0))))))))))
noncomputable def noneE : De := (dFz (dLst (dA (dC .non) (dA (dC (.tup [(.int 0)])) (dA (dC (.lst [(.tup [])])) (dA (dC (.lst [(.tup [(.int 1), (.int 0)])])) (dA (dFz (dLst (dA (dTup (dA (dC (.int 0)) (dA (dVar 1) dA0))) dA0))) (dA (dC (.lst [(.tup [(.bl true)])])) (dA (dC (.lst [(.lst [(.int 0)])])) (dA (dFz (dRep (dC (.lst [(.tup [(.int 0)])])) (dC (.int 9)))) (dAC [(.lst [(.tup [(.int 0), (.int 0)])]), .dct])))))))))))
noncomputable def bads : List Dt := [.int 0, .int 8, .int (-1), .bl true, .non, .str (Str.ofString "2"), .tup [.int 2], .int 100000000000000000000000000000]
noncomputable def nones (n : Nat) : List Dt := [.non, .tup [.int 0], .lst [.tup []], .lst [.tup [.int 1, .int 0]], .lst [.tup [.int 0, .int n]], .lst [.tup [.bl true]], .lst [.lst [.int 0]], .lst [.tup [.int 0], .tup [.int 0], .tup [.int 0], .tup [.int 0], .tup [.int 0], .tup [.int 0], .tup [.int 0], .tup [.int 0], .tup [.int 0]], .lst [.tup [.int 0, .int 0]], .dct]
noncomputable def rf1 : De := (dCall F_is_round (dR (dVar 5) (dR (dVar 2) dR0)))
noncomputable def rf2 : De := (dCall F_first_broken_round (dR (dVar 5) (dR (dVar 2) (dR (dVar 6) dR0))))
noncomputable def rf3 : De := (dCall F_first_broken_round (dR (dVar 1) (dR (dVar 2) (dR (dVar 6) dR0))))
theorem refs_def : d__law_refusals_right = (dSeq (dSet 5 (dOp gIx badE (dCall F__law_take (dRO 0 (dR (dC (.int 8)) dR0))))) (dSeq (dSet 6 (dOp gIx noneE (dCall F__law_take (dRO 0 (dR (dC (.int 10)) dR0))))) (dSeq (dIf (dTB (dOp (gEq true) (dFz (dRef 4 lamQ rf1)) (dC (.lst [(.int 0)])))) (dRet (dC (.bl false))) dNx) (dSeq (dIf (dTB (dOp (gEq true) (dFz (dRef 4 lamQ rf2)) (dC (.lst [(.int 0)])))) (dRet (dC (.bl false))) dNx) (dRet (dOp (gEq false) (dFz (dRef 4 lamQ rf3)) (dC (.lst [(.int 1)])))))))) := rfl
theorem badE_eval (ρ : Ev) : badE ρ = .ok (.lst bads, ρ) := by
  unfold badE
  exact dFz_ok (dLst_ok (ds := bads) (dA_ok rfl (dA_ok rfl (dA_ok rfl (dA_ok rfl (dA_ok rfl (dA_ok rfl (dA_ok rfl (dA_ok (fr := dA0) (pow29 _) rfl)))))))) (by simp [bads]))
theorem bads_bad : ∀ d ∈ bads, isW d = false ∨ ∃ n, d = .int n ∧ (n < 1 ∨ 7 < n) := by
  intro d hd
  simp only [bads, List.mem_cons, List.not_mem_nil, or_false] at hd
  rcases hd with rfl | rfl | rfl | rfl | rfl | rfl | rfl | rfl
  · exact .inr ⟨_, rfl, by decide⟩
  · exact .inr ⟨_, rfl, by decide⟩
  · exact .inr ⟨_, rfl, by decide⟩
  · exact .inl rfl
  · exact .inl rfl
  · exact .inl rfl
  · exact .inl rfl
  · exact .inr ⟨_, rfl, by decide⟩
theorem noneE_eval {n : Nat} {ρ : Ev} (h : ρ[1]? = some (some (.val (.int n)))) : noneE ρ = .ok (.lst (nones n), ρ) := by
  have e9 : dFz (dRep (dC (.lst [(.tup [(.int 0)])])) (dC (.int 9))) ρ = .ok (.lst [.tup [.int 0], .tup [.int 0], .tup [.int 0], .tup [.int 0], .tup [.int 0], .tup [.int 0], .tup [.int 0], .tup [.int 0], .tup [.int 0]], ρ) := by
    refine dFz_ok ?_
    rw [dRep_C (x := [.tup [.int 0]]) (k := 9) (ρ1 := ρ) (ρ2 := ρ) rfl rfl, dRepC_ok ⟨by decide, by decide⟩]
    rfl
  have hv : dVar 1 ρ = .ok (.int n, ρ) := by simp [dVar, h]
  have e5 : dFz (dLst (dA (dTup (dA (dC (.int 0)) (dA (dVar 1) dA0))) dA0)) ρ = .ok (.lst [.tup [.int 0, .int n]], ρ) :=
    dFz_ok (dLst_ok (dA_ok (dTup_ok (dA_ok rfl (dA_ok hv rfl)) (by simp)) rfl) (by simp))
  unfold noneE
  exact dFz_ok (dLst_ok (ds := nones n) (dA_ok rfl (dA_ok rfl (dA_ok rfl (dA_ok rfl (dA_ok e5 (dA_ok rfl (dA_ok rfl (dA_ok e9 rfl)))))))) (by simp [nones]))
theorem nones_no {n : Nat} (h1 : 1 ≤ n) (h7 : n ≤ 7) : ∀ d ∈ nones n, Lens d ∧ ptysB n d = false := by
  intro d hd
  simp only [nones, List.mem_cons, List.not_mem_nil, or_false] at hd
  rcases hd with rfl | rfl | rfl | rfl | rfl | rfl | rfl | rfl | rfl | rfl
  · exact ⟨trivial, rfl⟩
  · exact ⟨trivial, rfl⟩
  · refine ⟨fun d hd t ht => ?_, rfl⟩
    have : d = .tup [] := by simpa using hd
    rw [this] at ht; cases ht; simp
  · refine ⟨fun d hd t ht => ?_, ?_⟩
    · have : d = .tup [.int 1, .int 0] := by simpa using hd
      rw [this] at ht; cases ht; simp
    · simp [ptysB, ptyB, isG, zsOf]
  · refine ⟨fun d hd t ht => ?_, ?_⟩
    · have : d = .tup [.int 0, .int n] := by simpa using hd
      rw [this] at ht; cases ht; simp
    · simp [ptysB, ptyB, isG]
  · refine ⟨fun d hd t ht => ?_, rfl⟩
    have : d = .tup [.bl true] := by simpa using hd
    rw [this] at ht; cases ht; simp
  · refine ⟨fun d hd t ht => ?_, rfl⟩
    have : d = .lst [.int 0] := by simpa using hd
    rw [this] at ht; cases ht
  · refine ⟨fun d hd t ht => ?_, rfl⟩
    have : d = .tup [.int 0] := by simpa using hd
    rw [this] at ht; cases ht; simp
  · refine ⟨fun d hd t ht => ?_, ?_⟩
    · have : d = .tup [.int 0, .int 0] := by simpa using hd
      rw [this] at ht; cases ht; simp
    · simp [ptysB, ptyB, isG, zsOf]
  · exact ⟨trivial, rfl⟩
theorem refs_spec {n : Nat} {row : List Int} {Pv : Dt} {st : List Dt} (h1 : 1 ≤ n) (h7 : n ≤ 7) (hs : St st) : ∃ st', St st' ∧ F__law_refusals_right [.own st, .val (.int n), .val (tz row), .val Pv, .tab lamQ] = .ok (.bl true, [.own st', .val .non, .val .non, .val .non, .tab lamQ]) := by
  let N : Option B := some (.val (.int n))
  let Rw : Option B := some (.val (tz row))
  let P : Option B := some (.val Pv)
  let Q : Option B := some (.tab lamQ)
  obtain ⟨u, st1, e1, hs1, u0, u1⟩ := take_spec (m := 8) hs (by decide) (by decide)
  have hul : u.toNat < bads.length := by show u.toNat < 8; omega
  let ba : Dt := bads[u.toNat]
  have x1 : dSet 5 (dOp gIx badE (dCall F__law_take (dRO 0 (dR (dC (.int 8)) dR0)))) [some (.own st), N, Rw, P, Q, none, none] = .ok (.nx, [some (.own st1), N, Rw, P, Q, some (.val ba), none]) :=
    dSet_ok (i := 5) (dOp_ok (badE_eval _) (takeC e1 rfl) (gIx_lst u0 (by show u < 8; omega) (List.getElem?_eq_getElem hul))) (by simp)
  obtain ⟨z, st2, e2, hs2, z0, z1⟩ := take_spec (m := 10) hs1 (by decide) (by decide)
  have hzl : z.toNat < (nones n).length := by show z.toNat < 10; omega
  let no : Dt := (nones n)[z.toNat]
  let ρ2 : Ev := [some (.own st2), N, Rw, P, Q, some (.val ba), some (.val no)]
  have x2 : dSet 6 (dOp gIx noneE (dCall F__law_take (dRO 0 (dR (dC (.int 10)) dR0)))) [some (.own st1), N, Rw, P, Q, some (.val ba), none] = .ok (.nx, ρ2) :=
    dSet_ok (i := 6) (dOp_ok (noneE_eval rfl) (takeC e2 rfl) (gIx_lst z0 (by show z < 10; omega) (List.getElem?_eq_getElem hzl))) (by simp)
  have hb := bads_bad ba (List.getElem_mem hul)
  obtain ⟨ho1, ho2⟩ := nones_no h1 h7 no (List.getElem_mem hzl)
  have r1 : dRef 4 lamQ rf1 ρ2 = .ok ([.int 0], ρ2) := ref_ok rfl (call2_er (ρ' := valOnly ρ2) (ρ'' := valOnly ρ2) (d := ba) (e := tz row) rfl rfl (round_bad hb)) (by decide)
  have r2 : dRef 4 lamQ rf2 ρ2 = .ok ([.int 0], ρ2) := ref_ok rfl (call3_er (ρ1 := valOnly ρ2) (ρ2 := valOnly ρ2) (ρ3 := valOnly ρ2) (d := ba) (e := tz row) (g := no) rfl rfl rfl (broken_bad hb)) (by decide)
  have r3 : dRef 4 lamQ rf3 ρ2 = .ok ([.int 1], ρ2) := ref_ok rfl (call3_er (ρ1 := valOnly ρ2) (ρ2 := valOnly ρ2) (ρ3 := valOnly ρ2) (d := .int n) (e := tz row) (g := no) rfl rfl rfl (broken_no h1 h7 ho1 ho2)) (by decide)
  have q1 : ∀ (neg : Bool) (z : Int), gEq neg (.lst [.int z]) (.lst [.int z]) = .ok (.bl (!neg)) := by
    intro neg z
    rw [gEq_ok rfl rfl, show eqD (.lst [.int z]) (.lst [.int z]) = true by rw [eqD, eqDs, eqDs, eqI, beq_self_eq_true]; rfl]
    cases neg <;> rfl
  have x3 : dIf (dTB (dOp (gEq true) (dFz (dRef 4 lamQ rf1)) (dC (.lst [(.int 0)])))) (dRet (dC (.bl false))) dNx ρ2 = .ok (.nx, ρ2) := by
    rw [dIf_f (dTB_ok (dOp_ok (dFz_ok r1) (e := .lst [.int 0]) rfl (q1 true 0)))]; rfl
  have x4 : dIf (dTB (dOp (gEq true) (dFz (dRef 4 lamQ rf2)) (dC (.lst [(.int 0)])))) (dRet (dC (.bl false))) dNx ρ2 = .ok (.nx, ρ2) := by
    rw [dIf_f (dTB_ok (dOp_ok (dFz_ok r2) (e := .lst [.int 0]) rfl (q1 true 0)))]; rfl
  refine ⟨st2, hs2, runDef_rt (ρ' := ρ2) rfl ?_ rfl⟩
  show d__law_refusals_right [some (.own st), N, Rw, P, Q, none, none] = _
  rw [refs_def, dSeq_nx x1, dSeq_nx x2, dSeq_nx x3, dSeq_nx x4]
  exact dRet_ok (dOp_ok (dFz_ok r3) (e := .lst [.int 1]) rfl (q1 false 1))
/-! the law -/
theorem idxD_int (x : Int) : ∀ {l : List Int}, x ∈ l → ∃ j, j < l.length ∧ idxD (.int x) (l.map .int) = some j
  | [], h => by cases h
  | a :: r, h => by
    rw [List.map_cons, idxD, eqI]
    by_cases e : a = x
    · exact ⟨0, by simp, by rw [if_pos (by simpa using e)]⟩
    · have hx : x ∈ r := by
        rcases List.mem_cons.mp h with h | h
        · exact absurd h.symm e
        · exact h
      obtain ⟨j, hj, ej⟩ := idxD_int x hx
      exact ⟨j + 1, by simp; omega, by rw [if_neg (by simpa using e), ej]; rfl⟩
noncomputable abbrev EV (S K s n ps dr row t mk du Q : Option B) : Ev := [S, K, s, n, ps, dr, row, t, mk, du, Q]
noncomputable def rowE : De := (dOp gCatT (dCutW (dVar 5) (dO1 (dIdxT (dVar 5) (dC (.int 0)))) dO0) (dCutW (dVar 5) dO0 (dO1 (dIdxT (dVar 5) (dC (.int 0))))))
noncomputable def thsE : De := (dFz (dLst (dA (dVar 5) (dA (dVar 6) (dA (dCall F__law_bent (dRO 2 (dR (dVar 6) dR0))) (dA (dCall F__law_bent (dRO 2 (dR (dVar 5) dR0))) dA0))))))
noncomputable def body7 : DS := (dIf (dTNot (dTB (dCall (F__law_same 3) (dR (dCall F_is_round (dR (dVar 3) (dR (dVar 7) dR0))) (dR (dCall F__law_is_round (dR (dVar 3) (dR (dVar 7) dR0))) dR0))))) (dRet (dC (.bl false))) dNx)
noncomputable def togE : De := (dFz (dComp (dIt (dVar 4)) (gSet 11) dTT (dCall F__law_round_together (dR (dVar 6) (dR (dVar 11) dR0))) 1))
noncomputable def sitE : De := (dFz (dComp (dIt (dVar 4)) (gSet 11) dTT (dCall F_sits_round (dR (dVar 3) (dR (dVar 6) (dR (dVar 11) dR0)))) 1))
noncomputable def dueE : De := (dIdx (dFz (dCat (dVar 8) (dC (.lst [(.bl false)])))) (dC (.bl false)))
noncomputable def brE : De := (dCall F_first_broken_round (dR (dVar 3) (dR (dVar 6) (dR (dVar 4) dR0))))
noncomputable def wantE : De := (dOp gIx (dFz (dLst (dA (dVar 9) (dA (dC .non) dA0)))) (dFn gIntB (dA (dOp (gEq false) (dVar 9) (dFn gLen (dA (dVar 4) dA0))) dA0)))
noncomputable def refE : De := (dCall F__law_refusals_right (dRT 10 (dRO 2 (dR (dVar 3) (dR (dVar 6) (dR (dVar 4) dR0))))))
noncomputable def outer : DS := (dSeq (dSetN 2 (dCallN F__law_state (dR (dVar 0) (dR (dVar 1) dR0)))) (dSeq (dSet 3 (dOp gAddI (dC (.int 1)) (dCall F__law_take (dRO 2 (dR (dC (.int 7)) dR0))))) (dSeq (dSet 4 (dCall F__law_parties (dRO 2 (dR (dVar 3) (dR (dC (.int 8)) dR0))))) (dSeq (dSet 5 (dCall F__law_order (dRO 2 (dR (dVar 3) dR0)))) (dSeq (dSet 6 rowE) (dSeq (dFor (dIt thsE) (gSet 7) body7) (dSeq (dSet 8 togE) (dSeq (dIf (dTNot (dTB (dCall (F__law_same 3) (dR sitE (dR (dVar 8) dR0))))) (dRet (dC (.bl false))) dNx) (dSeq (dSet 9 dueE) (dSeq (dIf (dTNot (dTB (dCall (F__law_same 3) (dR brE (dR wantE dR0))))) (dRet (dC (.bl false))) dNx) (dIf (dTNot (dTB refE)) (dRet (dC (.bl false))) dNx)))))))))))
theorem law_def : d_law = dSeq (dFor (dRng1 (dFn gMax2 (dA (dC (.int 1)) (dA (dFn gMin2 (dA (dFn gLen (dA (dVar 0) dA0)) (dA (dC (.int 10)) dA0))) dA0)))) (gSet 1) outer) (dRet (dC (.bl true))) := rfl
theorem body7_eval {n : Nat} {d : Dt} {S K s P Dr Rw mk du Q : Option B} (h1 : 1 ≤ n) (h7 : n ≤ 7) (hd : Tl d) : body7 (EV S K s (some (.val (.int n))) P Dr Rw (some (.val d)) mk du Q) = .ok (.nx, EV S K s (some (.val (.int n))) P Dr Rw (some (.val d)) mk du Q) := by
  let ρ : Ev := EV S K s (some (.val (.int n))) P Dr Rw (some (.val d)) mk du Q
  have a1 : dCall F_is_round (dR (dVar 3) (dR (dVar 7) dR0)) ρ = .ok (.bl (roundB n d), ρ) := call2 (ρ' := ρ) (ρ'' := ρ) rfl rfl (round_eval h1 h7 d hd)
  have a2 : dCall F__law_is_round (dR (dVar 3) (dR (dVar 7) dR0)) ρ = .ok (.bl (roundB n d), ρ) := call2 (ρ' := ρ) (ρ'' := ρ) rfl rfl (lround_eval h1 h7 d hd)
  show body7 ρ = _
  unfold body7
  rw [dIf_f (dTNot_ok (b := true) (dTB_ok (call2 a1 a2 (same_bl 2 (roundB n d)))))]
  rfl
theorem refE_eval {n : Nat} {row : List Int} {Pv : Dt} {S K Dr t mk du : Option B} {st : List Dt} (h1 : 1 ≤ n) (h7 : n ≤ 7) (hs : St st) : ∃ st', refE (EV S K (some (.own st)) (some (.val (.int n))) (some (.val Pv)) Dr (some (.val (tz row))) t mk du (some (.tab lamQ))) = .ok (.bl true, EV S K (some (.own st')) (some (.val (.int n))) (some (.val Pv)) Dr (some (.val (tz row))) t mk du (some (.tab lamQ))) := by
  obtain ⟨st', hs', e⟩ := refs_spec (row := row) (Pv := Pv) h1 h7 hs
  refine ⟨st', ?_⟩
  unfold refE
  show ((F__law_refusals_right [.own st, .val (.int n), .val (tz row), .val Pv, .tab lamQ]).bind fun z => R.ok (z.1, putB [.s 2, .d (.int n), .d (tz row), .d Pv, .s 10] z.2 0 (EV S K (some (.own st)) (some (.val (.int n))) (some (.val Pv)) Dr (some (.val (tz row))) t mk du (some (.tab lamQ))))) = _
  rw [e]
  rfl
theorem want_eval {S K s N Dr Rw t mk Q : Option B} {lps : List Dt} {ms : List Bool} (hl : lps.length = ms.length) : wantE (EV S K s N (some (.val (.lst lps))) Dr Rw t mk (some (.val (.int (firstF ms)))) Q) = .ok (brkD 0 ms, EV S K s N (some (.val (.lst lps))) Dr Rw t mk (some (.val (.int (firstF ms)))) Q) := by
  let ρ : Ev := EV S K s N (some (.val (.lst lps))) Dr Rw t mk (some (.val (.int (firstF ms)))) Q
  have a1 : dFz (dLst (dA (dVar 9) (dA (dC .non) dA0))) ρ = .ok (.lst [.int (firstF ms), .non], ρ) := dFz_ok (dLst_ok (dA_ok rfl (dA_ok rfl rfl)) (by simp))
  have a2 : dOp (gEq false) (dVar 9) (dFn gLen (dA (dVar 4) dA0)) ρ = .ok (.bl ((firstF ms : Int) == (ms.length : Int)), ρ) := by
    refine dOp_ok (d := .int (firstF ms)) (e := .int lps.length) (ρ1 := ρ) rfl rfl ?_
    rw [gEqI, hl]; rfl
  show wantE ρ = _
  unfold wantE brkD
  by_cases h : firstF ms = ms.length
  · rw [show ((firstF ms : Int) == (ms.length : Int)) = true from by rw [h]; simp] at a2
    rw [if_pos h]
    exact dOp_ok a1 (dFn_ok a2 rfl) rfl
  · rw [show ((firstF ms : Int) == (ms.length : Int)) = false from by rw [beq_eq_false_iff_ne]; omega] at a2
    rw [if_neg h, Nat.zero_add]
    exact dOp_ok a1 (dFn_ok a2 rfl) rfl
theorem same_brk (ms : List Bool) : F__law_same 3 [.val (brkD 0 ms), .val (brkD 0 ms)] = .ok (.bl true, [.val .non, .val .non]) := by
  unfold brkD
  split
  · exact same_non 2
  · exact same_int 2 _
theorem outer_eval {ns : List Int} {k : Nat} {o2 o3 o4 o5 o6 o7 o8 o9 : Option B} : ∃ b2 b3 b4 b5 b6 b7 b8 b9, outer (EV (some (.val (.scr ns))) (some (.val (.int k))) o2 o3 o4 o5 o6 o7 o8 o9 (some (.tab lamQ))) = .ok (.nx, EV (some (.val (.scr ns))) (some (.val (.int k))) b2 b3 b4 b5 b6 b7 b8 b9 (some (.tab lamQ))) := by
  let S : Option B := some (.val (.scr ns))
  let K : Option B := some (.val (.int k))
  let Q : Option B := some (.tab lamQ)
  obtain ⟨st, hs, e1⟩ := state_eval (ns := ns) (k := k)
  have x1 : dSetN 2 (dCallN F__law_state (dR (dVar 0) (dR (dVar 1) dR0))) (EV S K o2 o3 o4 o5 o6 o7 o8 o9 Q) = .ok (.nx, EV S K (some (.own st)) o3 o4 o5 o6 o7 o8 o9 Q) :=
    dSetN_ok (i := 2) (callN2 (ρ' := EV S K o2 o3 o4 o5 o6 o7 o8 o9 Q) (ρ'' := EV S K o2 o3 o4 o5 o6 o7 o8 o9 Q) rfl rfl e1) (by simp)
  obtain ⟨v, st1, e2, hs1, v0, v1⟩ := take_spec (m := 7) hs (by decide) (by decide)
  obtain ⟨n, hn⟩ : ∃ n : Nat, (n : Int) = 1 + v := ⟨(1 + v).toNat, by omega⟩
  have h1 : 1 ≤ n := by omega
  have h7 : n ≤ 7 := by omega
  let N : Option B := some (.val (.int n))
  have x2 : dSet 3 (dOp gAddI (dC (.int 1)) (dCall F__law_take (dRO 2 (dR (dC (.int 7)) dR0)))) (EV S K (some (.own st)) o3 o4 o5 o6 o7 o8 o9 Q) = .ok (.nx, EV S K (some (.own st1)) N o4 o5 o6 o7 o8 o9 Q) := by
    refine dSet_ok (i := 3) (dOp_ok rfl (callS (ρ := EV S K (some (.own st)) o3 o4 o5 o6 o7 o8 o9 Q) rfl rfl e2) (z := .int n) ?_) (by simp)
    rw [hn]; rfl
  obtain ⟨ps, st2, hs2, hps, hl, e3⟩ := parties_spec (n := n) (st := st1) h1 h7 hs1
  let P : Option B := some (.val (.lst (lp ps)))
  have x3 : dSet 4 (dCall F__law_parties (dRO 2 (dR (dVar 3) (dR (dC (.int 8)) dR0)))) (EV S K (some (.own st1)) N o4 o5 o6 o7 o8 o9 Q) = .ok (.nx, EV S K (some (.own st2)) N P o5 o6 o7 o8 o9 Q) :=
    dSet_ok (i := 4) (callS3 (ρ := EV S K (some (.own st1)) N o4 o5 o6 o7 o8 o9 Q) rfl rfl rfl e3) (by simp)
  obtain ⟨drawn, st3, hs3, hd, e4⟩ := order_spec (n := n) h7 hs2
  let Dr : Option B := some (.val (tz drawn))
  have x4 : dSet 5 (dCall F__law_order (dRO 2 (dR (dVar 3) dR0))) (EV S K (some (.own st2)) N P o5 o6 o7 o8 o9 Q) = .ok (.nx, EV S K (some (.own st3)) N P Dr o6 o7 o8 o9 Q) :=
    dSet_ok (i := 5) (callS (ρ := EV S K (some (.own st2)) N P o5 o6 o7 o8 o9 Q) rfl rfl e4) (by simp)
  obtain ⟨j, hj, ej⟩ := idxD_int 0 (l := drawn) (hd.mem_iff.mpr (mem_rangeZ.mpr (by omega)))
  let row : List Int := drawn.drop j ++ drawn.take j
  have hdl : drawn.length = n := by rw [hd.length_eq, len_rangeZ]
  have hr : row.Perm (rangeZ n) := by
    refine List.Perm.trans ?_ hd
    have := List.perm_append_comm (l₁ := drawn.drop j) (l₂ := drawn.take j)
    rw [List.take_append_drop] at this
    exact this
  have hrl : row.length = n := by rw [hr.length_eq, len_rangeZ]
  let Rw : Option B := some (.val (tz row))
  have x5 : dSet 6 rowE (EV S K (some (.own st3)) N P Dr o6 o7 o8 o9 Q) = .ok (.nx, EV S K (some (.own st3)) N P Dr Rw o7 o8 o9 Q) := by
    let ρ : Ev := EV S K (some (.own st3)) N P Dr o6 o7 o8 o9 Q
    have ei : dIdxT (dVar 5) (dC (.int 0)) ρ = .ok (.int j, ρ) := by
      show (if (okN 60 (.int 0) && (drawn.map Dt.int).all (okN 60)) = true then (match idxD (.int 0) (drawn.map .int) with | some j => R.ok (Dt.int j, ρ) | none => .no) else .no) = _
      rw [if_pos (by rw [okN_all_ints]; rfl), ej]
    have c1 : dCutW (dVar 5) (dO1 (dIdxT (dVar 5) (dC (.int 0)))) dO0 ρ = .ok (.tup ((drawn.drop j).map .int), ρ) := by
      rw [dCutW_ok (ρ := ρ) (ds := drawn.map .int) (lo := some (j : Int)) (hi := none) rfl (dO1_ok ei) rfl, cut_map, cut_from (by omega)]
    have c2 : dCutW (dVar 5) dO0 (dO1 (dIdxT (dVar 5) (dC (.int 0)))) ρ = .ok (.tup ((drawn.take j).map .int), ρ) := by
      rw [dCutW_ok (ρ := ρ) (ds := drawn.map .int) (lo := none) (hi := some (j : Int)) rfl rfl (dO1_ok ei), cut_map, cut_to (by omega)]
    refine dSet_ok (i := 6) (ρ1 := ρ) (d := tz row) ?_ (by simp [ρ])
    unfold rowE
    refine dOp_ok c1 c2 ?_
    rw [catT_ok (by simp; omega), ← List.map_append]
    rfl
  obtain ⟨d1, st4, hs4, hT1, e5⟩ := bent_spec h1 h7 hr hs3
  obtain ⟨d2, st5, hs5, hT2, e6⟩ := bent_spec h1 h7 hd hs4
  let ths : List Dt := [tz drawn, tz row, d1, d2]
  have tT : ∀ {q : List Int}, q.length ≤ 60 → Tl (tz q) := fun {q} hq l hl => by unfold tz at hl; cases hl; rw [List.length_map]; exact hq
  have hths : ∀ d ∈ ths, Tl d := by
    intro d hd'
    simp only [ths, List.mem_cons, List.not_mem_nil, or_false] at hd'
    rcases hd' with rfl | rfl | rfl | rfl
    · exact tT (by omega)
    · exact tT (by omega)
    · exact hT1
    · exact hT2
  have et : thsE (EV S K (some (.own st3)) N P Dr Rw o7 o8 o9 Q) = .ok (.lst ths, EV S K (some (.own st5)) N P Dr Rw o7 o8 o9 Q) := by
    unfold thsE
    exact dFz_ok (dLst_ok (ds := ths) (dA_ok (ρ1 := EV S K (some (.own st3)) N P Dr Rw o7 o8 o9 Q) rfl (dA_ok (ρ1 := EV S K (some (.own st3)) N P Dr Rw o7 o8 o9 Q) rfl (dA_ok (callS (ρ := EV S K (some (.own st3)) N P Dr Rw o7 o8 o9 Q) rfl rfl e5) (dA_ok (fr := dA0) (callS (ρ := EV S K (some (.own st4)) N P Dr Rw o7 o8 o9 Q) rfl rfl e6) rfl)))) (by simp [ths]))
  obtain ⟨b7, x6⟩ : ∃ b7, dFor (dIt thsE) (gSet 7) body7 (EV S K (some (.own st3)) N P Dr Rw o7 o8 o9 Q) = .ok (.nx, EV S K (some (.own st5)) N P Dr Rw b7 o8 o9 Q) := by
    obtain ⟨ρ', ⟨b7, rfl⟩, e⟩ := for_keep (g := gSet 7) (body := body7) (ds := ths) (ρ := EV S K (some (.own st5)) N P Dr Rw o7 o8 o9 Q)
      (I := fun ρ => ∃ t, ρ = EV S K (some (.own st5)) N P Dr Rw t o8 o9 Q)
      (fun d hd ρ ⟨t, hρ⟩ => by
        subst hρ
        exact ⟨EV S K (some (.own st5)) N P Dr Rw (some (.val d)) o8 o9 Q, EV S K (some (.own st5)) N P Dr Rw (some (.val d)) o8 o9 Q, rfl, body7_eval h1 h7 (hths d hd), some (.val d), rfl⟩) ⟨o7, rfl⟩
    refine ⟨b7, ?_⟩
    unfold dFor dIt
    rw [et]
    exact e
  let ms : List Bool := ps.map fun p => togB (mks row p)
  have hms : (ps.map fun p => sitsB (mks row p)) = ms := List.map_congr_left fun p hp => sits_tog (by rw [len_mks]; omega) (by rw [len_mks]; omega)
  let ρ7 : Ev := EV S K (some (.own st5)) N P Dr Rw b7 o8 o9 Q
  have e7 : togE ρ7 = .ok (.lst (ms.map .bl), ρ7) := by
    have hc : dComp (dIt (dVar 4)) (gSet 11) dTT (dCall F__law_round_together (dR (dVar 6) (dR (dVar 11) dR0))) 1 ρ7 = .ok (ps.map fun p => .bl (togB (mks row p)), ρ7) := by
      refine dComp_pure (l := ps) (u := tz) (f := fun p => .bl (togB (mks row p))) (ds := lp ps) rfl rfl (by omega) (fun p hp => ?_) rfl
      show dCall F__law_round_together (dR (dVar 6) (dR (dVar 11) dR0)) (ρ7 ++ [some (.val (tz p))]) = _
      exact call2 (F := F__law_round_together) (fa := dVar 6) (fb := dVar 11) (ρ := ρ7 ++ [some (.val (tz p))]) (ρ' := ρ7 ++ [some (.val (tz p))]) (ρ'' := ρ7 ++ [some (.val (tz p))]) (d := tz row) (e := tz p) rfl rfl (tog_eval (row := row) (p := p) (by omega))
    unfold togE
    rw [List.map_map]
    exact dFz_ok hc
  let M : Option B := some (.val (.lst (ms.map .bl)))
  let ρ8 : Ev := EV S K (some (.own st5)) N P Dr Rw b7 M o9 Q
  have x7 : dSet 8 togE ρ7 = .ok (.nx, ρ8) := dSet_ok (i := 8) e7 (by simp [ρ7])
  have e8 : sitE ρ8 = .ok (.lst (ms.map .bl), ρ8) := by
    have hc : dComp (dIt (dVar 4)) (gSet 11) dTT (dCall F_sits_round (dR (dVar 3) (dR (dVar 6) (dR (dVar 11) dR0)))) 1 ρ8 = .ok (ps.map fun p => .bl (sitsB (mks row p)), ρ8) := by
      refine dComp_pure (l := ps) (u := tz) (f := fun p => .bl (sitsB (mks row p))) (ds := lp ps) rfl rfl (by omega) (fun p hp => ?_) rfl
      show dCall F_sits_round (dR (dVar 3) (dR (dVar 6) (dR (dVar 11) dR0))) (ρ8 ++ [some (.val (tz p))]) = _
      exact call3 (F := F_sits_round) (fa := dVar 3) (fb := dVar 6) (fc := dVar 11) (ρ := ρ8 ++ [some (.val (tz p))]) (ρ1 := ρ8 ++ [some (.val (tz p))]) (ρ2 := ρ8 ++ [some (.val (tz p))]) (ρ3 := ρ8 ++ [some (.val (tz p))]) (d := .int n) (e := tz row) (g := tz p) rfl rfl rfl (sits_eval h1 h7 hr)
    unfold sitE
    rw [← hms, List.map_map]
    exact dFz_ok hc
  have hmsl : ms.length = ps.length := List.length_map _
  have x8 : dIf (dTNot (dTB (dCall (F__law_same 3) (dR sitE (dR (dVar 8) dR0))))) (dRet (dC (.bl false))) dNx ρ8 = .ok (.nx, ρ8) := by
    rw [dIf_f (ρ1 := ρ8) (dTNot_ok (b := true) (dTB_ok (call2 e8 (ρ'' := ρ8) (e := .lst (ms.map .bl)) rfl (same_bools 1 ms (by omega)))))]
    rfl
  let Du : Option B := some (.val (.int (firstF ms)))
  let ρ9 : Ev := EV S K (some (.own st5)) N P Dr Rw b7 M Du Q
  have x9 : dSet 9 dueE ρ8 = .ok (.nx, ρ9) := by
    refine dSet_ok (i := 9) (ρ1 := ρ8) ?_ (by simp [ρ8])
    unfold dueE dIdx
    have ec : dFz (dCat (dVar 8) (dC (.lst [(.bl false)]))) ρ8 = .ok (.lst ((ms ++ [false]).map .bl), ρ8) := by
      refine dFz_ok ?_
      rw [dCat_ok (x := ms.map .bl) (y := [.bl false]) (ρ1 := ρ8) (ρ2 := ρ8) rfl rfl (by rw [List.length_map]; simp; omega), List.map_append]
      rfl
    rw [ec]
    simp only [R.bind_ok, dC]
    rw [if_pos (by simp [okN]), idx_first]
  have e10 : brE ρ9 = .ok (brkD 0 ms, ρ9) := by
    unfold brE
    rw [← hms]
    exact call3 (ρ1 := ρ9) (ρ2 := ρ9) (ρ3 := ρ9) rfl rfl rfl (broken_eval h1 h7 hr hl hps)
  have x10 : dIf (dTNot (dTB (dCall (F__law_same 3) (dR brE (dR wantE dR0))))) (dRet (dC (.bl false))) dNx ρ9 = .ok (.nx, ρ9) := by
    rw [dIf_f (ρ1 := ρ9) (dTNot_ok (b := true) (dTB_ok (call2 e10 (want_eval (by rw [len_lp, hmsl])) (same_brk ms))))]
    rfl
  obtain ⟨st6, e11⟩ := refE_eval (S := S) (K := K) (Dr := Dr) (t := b7) (mk := M) (du := Du) (row := row) (Pv := .lst (lp ps)) h1 h7 hs5
  have x11 : dIf (dTNot (dTB refE)) (dRet (dC (.bl false))) dNx ρ9 = .ok (.nx, EV S K (some (.own st6)) N P Dr Rw b7 M Du Q) := by
    rw [dIf_f (dTNot_ok (b := true) (dTB_ok e11))]
    rfl
  refine ⟨some (.own st6), N, P, Dr, Rw, b7, M, Du, ?_⟩
  unfold outer
  rw [dSeq_nx x1, dSeq_nx x2, dSeq_nx x3, dSeq_nx x4, dSeq_nx x5, dSeq_nx x6, dSeq_nx x7, dSeq_nx x8, dSeq_nx x9, dSeq_nx x10]
  exact x11
theorem law_true (ns : List Int) : lawD 9 lamQ d_law ns := by
  let ρ0 : Ev := EV (some (.val (.scr ns))) none none none none none none none none none (some (.tab lamQ))
  obtain ⟨j, hj, ej⟩ : ∃ j : Int, mid62 j = true ∧ dFn gMax2 (dA (dC (.int 1)) (dA (dFn gMin2 (dA (dFn gLen (dA (dVar 0) dA0)) (dA (dC (.int 10)) dA0))) dA0)) ρ0 = .ok (.int j, ρ0) := by
    refine ⟨(if (if (10 : Int) < ns.length then (10 : Int) else ns.length) > 1 then (if (10 : Int) < ns.length then (10 : Int) else ns.length) else 1), ?_, rfl⟩
    unfold mid62
    simp only [Bool.and_eq_true, decide_eq_true_eq]
    split <;> split <;> omega
  obtain ⟨ρ', ⟨a1, a2, a3, a4, a5, a6, a7, a8, a9, rfl⟩, e⟩ := for_keep (g := gSet 1) (body := outer) (ds := rangeD 0 j.toNat) (ρ := ρ0)
    (I := fun ρ => ∃ a1 a2 a3 a4 a5 a6 a7 a8 a9, ρ = EV (some (.val (.scr ns))) a1 a2 a3 a4 a5 a6 a7 a8 a9 (some (.tab lamQ)))
    (fun d hd ρ ⟨a1, a2, a3, a4, a5, a6, a7, a8, a9, hρ⟩ => by
      subst hρ
      obtain ⟨k, _, rfl⟩ := List.mem_map.mp hd
      obtain ⟨b2, b3, b4, b5, b6, b7, b8, b9, e⟩ := outer_eval (ns := ns) (k := k) (o2 := a2) (o3 := a3) (o4 := a4) (o5 := a5) (o6 := a6) (o7 := a7) (o8 := a8) (o9 := a9)
      refine ⟨EV (some (.val (.scr ns))) (some (.val (.int k))) a2 a3 a4 a5 a6 a7 a8 a9 (some (.tab lamQ)), _, ?_, e, _, _, _, _, _, _, _, _, _, rfl⟩
      rw [Int.zero_add]
      rfl) ⟨none, none, none, none, none, none, none, none, none, rfl⟩
  have x : dFor (dRng1 (dFn gMax2 (dA (dC (.int 1)) (dA (dFn gMin2 (dA (dFn gLen (dA (dVar 0) dA0)) (dA (dC (.int 10)) dA0))) dA0)))) (gSet 1) outer ρ0 = .ok (.nx, EV (some (.val (.scr ns))) a1 a2 a3 a4 a5 a6 a7 a8 a9 (some (.tab lamQ))) := by
    unfold dFor
    rw [rng1_C ej, rngC_ok hj]
    exact e
  refine ⟨EV (some (.val (.scr ns))) a1 a2 a3 a4 a5 a6 a7 a8 a9 (some (.tab lamQ)), ?_⟩
  show d_law ρ0 = _
  rw [law_def, dSeq_nx x]
  rfl
end Lw
end
section
set_option Elab.async false
set_option linter.all false
set_option maxRecDepth 100000
set_option maxHeartbeats 4000000
namespace Lw
open PySem PySem.Spec L2 PV
theorem all_mk {l : PySem.W.OpenLaw} {w : World} {K : PySem.W.Frag} {h : Heap} {mg : Str → Option Value} {fa f0 f1 f2 f3 f4 f5 f6 f7 f8 f9 f10 f11 f12 f13 f14 f15 f16 f17 f18 f19 f20 f21 f22 f23 f24 f25 : Addr} {C0 C1 C2 C3 C4 C5 C6 C7 CS cL PT : Addr} (X : K.In h) (G : h.Ns mainGlobals mg) (hfa : mg "law" = some (.ref fa))
    {od0 an0 od1 an1 od2 an2 od3 an3 od4 an4 od5 an5 od6 an6 od7 an7 od8 an8 od9 an9 od10 an10 od11 an11 od12 an12 od13 an13 od14 an14 od15 an15 od16 an16 od17 an17 od18 an18 od19 an19 od20 an20 od21 an21 od22 an22 od23 an23 od24 an24 od25 an25 : Option Addr} {sl0 sl1 sl2 sl3 sl4 sl5 sl6 sl7 sl8 sl9 sl10 sl11 sl12 sl13 sl14 sl15 sl16 sl17 sl18 sl19 sl20 sl21 sl22 sl23 sl24 sl25 : Array (Option Value)} {oc0 kV0 dc0 pm0 ct0 cd0 oc1 kV1 dc1 pm1 ct1 cd1 oc2 kV2 dc2 pm2 ct2 cd2 oc3 kV3 dc3 pm3 ct3 cd3 oc4 kV4 dc4 pm4 ct4 cd4 oc5 kV5 dc5 pm5 ct5 cd5 oc6 kV6 dc6 pm6 ct6 cd6 oc7 kV7 dc7 pm7 ct7 cd7 oc8 kV8 dc8 pm8 ct8 cd8 oc9 kV9 dc9 pm9 ct9 cd9 oc10 kV10 dc10 pm10 ct10 cd10 oc11 kV11 dc11 pm11 ct11 cd11 oc12 kV12 dc12 pm12 ct12 cd12 oc13 kV13 dc13 pm13 ct13 cd13 oc14 kV14 dc14 pm14 ct14 cd14 oc15 kV15 dc15 pm15 ct15 cd15 oc16 kV16 dc16 pm16 ct16 cd16 oc17 kV17 dc17 pm17 ct17 cd17 oc18 kV18 dc18 pm18 ct18 cd18 oc19 kV19 dc19 pm19 ct19 cd19 oc20 kV20 dc20 pm20 ct20 cd20 oc21 kV21 dc21 pm21 ct21 cd21 oc22 kV22 dc22 pm22 ct22 cd22 oc23 kV23 dc23 pm23 ct23 cd23 oc24 kV24 dc24 pm24 ct24 oc25 kV25 dc25 pm25 ct25 cd25 : Value} {tk0 tk1 : Tok}
    (a0 : PySem.W.nsIn K mainGlobals (Str.ofString "is_whole") = some (some (.ref f0))) (l0 : K.lookup f0 = some ⟨oc0, od0, .func (PySem.W.fnOf (Str.ofString "is_whole") (Str.ofString "is_whole") (defArgs (top 13)) (defBody (top 13)) (defScope (top 13)) .none kV0 dc0 pm0 an0 cd0 ct0), sl0⟩) (c0 : PySem.W.codeIn K cd0 (Str.ofString "is_whole") = true) (k0 : PySem.W.keepIn K (.ref f0) = true)
    (a1 : PySem.W.nsIn K mainGlobals (Str.ofString "check_guests") = some (some (.ref f1))) (l1 : K.lookup f1 = some ⟨oc1, od1, .func (PySem.W.fnOf (Str.ofString "check_guests") (Str.ofString "check_guests") (defArgs (top 14)) (defBody (top 14)) (defScope (top 14)) .none kV1 dc1 pm1 an1 cd1 ct1), sl1⟩) (c1 : PySem.W.codeIn K cd1 (Str.ofString "check_guests") = true) (k1 : PySem.W.keepIn K (.ref f1) = true)
    (a2 : PySem.W.nsIn K mainGlobals (Str.ofString "is_guest") = some (some (.ref f2))) (l2 : K.lookup f2 = some ⟨oc2, od2, .func (PySem.W.fnOf (Str.ofString "is_guest") (Str.ofString "is_guest") (defArgs (top 16)) (defBody (top 16)) (defScope (top 16)) .none kV2 dc2 pm2 an2 cd2 ct2), sl2⟩) (c2 : PySem.W.codeIn K cd2 (Str.ofString "is_guest") = true) (k2 : PySem.W.keepIn K (.ref f2) = true)
    (a3 : PySem.W.nsIn K mainGlobals (Str.ofString "are_guests") = some (some (.ref f3))) (l3 : K.lookup f3 = some ⟨oc3, od3, .func (PySem.W.fnOf (Str.ofString "are_guests") (Str.ofString "are_guests") (defArgs (top 17)) (defBody (top 17)) (defScope (top 17)) .none kV3 dc3 pm3 an3 cd3 ct3), sl3⟩) (c3 : PySem.W.codeIn K cd3 (Str.ofString "are_guests") = true) (k3 : PySem.W.keepIn K (.ref f3) = true)
    (a4 : PySem.W.nsIn K mainGlobals (Str.ofString "rises") = some (some (.ref f4))) (l4 : K.lookup f4 = some ⟨oc4, od4, .func (PySem.W.fnOf (Str.ofString "rises") (Str.ofString "rises") (defArgs (top 18)) (defBody (top 18)) (defScope (top 18)) .none kV4 dc4 pm4 an4 cd4 ct4), sl4⟩) (c4 : PySem.W.codeIn K cd4 (Str.ofString "rises") = true) (k4 : PySem.W.keepIn K (.ref f4) = true)
    (a5 : PySem.W.nsIn K mainGlobals (Str.ofString "is_party") = some (some (.ref f5))) (l5 : K.lookup f5 = some ⟨oc5, od5, .func (PySem.W.fnOf (Str.ofString "is_party") (Str.ofString "is_party") (defArgs (top 19)) (defBody (top 19)) (defScope (top 19)) .none kV5 dc5 pm5 an5 cd5 ct5), sl5⟩) (c5 : PySem.W.codeIn K cd5 (Str.ofString "is_party") = true) (k5 : PySem.W.keepIn K (.ref f5) = true)
    (a6 : PySem.W.nsIn K mainGlobals (Str.ofString "is_parties") = some (some (.ref f6))) (l6 : K.lookup f6 = some ⟨oc6, od6, .func (PySem.W.fnOf (Str.ofString "is_parties") (Str.ofString "is_parties") (defArgs (top 20)) (defBody (top 20)) (defScope (top 20)) .none kV6 dc6 pm6 an6 cd6 ct6), sl6⟩) (c6 : PySem.W.codeIn K cd6 (Str.ofString "is_parties") = true) (k6 : PySem.W.keepIn K (.ref f6) = true)
    (a7 : PySem.W.nsIn K mainGlobals (Str.ofString "check_parties") = some (some (.ref f7))) (l7 : K.lookup f7 = some ⟨oc7, od7, .func (PySem.W.fnOf (Str.ofString "check_parties") (Str.ofString "check_parties") (defArgs (top 15)) (defBody (top 15)) (defScope (top 15)) .none kV7 dc7 pm7 an7 cd7 ct7), sl7⟩) (c7 : PySem.W.codeIn K cd7 (Str.ofString "check_parties") = true) (k7 : PySem.W.keepIn K (.ref f7) = true)
    (a8 : PySem.W.nsIn K mainGlobals (Str.ofString "is_seating") = some (some (.ref f8))) (l8 : K.lookup f8 = some ⟨oc8, od8, .func (PySem.W.fnOf (Str.ofString "is_seating") (Str.ofString "is_seating") (defArgs (top 21)) (defBody (top 21)) (defScope (top 21)) .none kV8 dc8 pm8 an8 cd8 ct8), sl8⟩) (c8 : PySem.W.codeIn K cd8 (Str.ofString "is_seating") = true) (k8 : PySem.W.keepIn K (.ref f8) = true)
    (a9 : PySem.W.nsIn K mainGlobals (Str.ofString "is_round") = some (some (.ref f9))) (l9 : K.lookup f9 = some ⟨oc9, od9, .func (PySem.W.fnOf (Str.ofString "is_round") (Str.ofString "is_round") (defArgs (top 23)) (defBody (top 23)) (defScope (top 23)) .none kV9 dc9 pm9 an9 cd9 ct9), sl9⟩) (c9 : PySem.W.codeIn K cd9 (Str.ofString "is_round") = true) (k9 : PySem.W.keepIn K (.ref f9) = true)
    (a10 : PySem.W.nsIn K mainGlobals (Str.ofString "sits_round") = some (some (.ref f10))) (l10 : K.lookup f10 = some ⟨oc10, od10, .func (PySem.W.fnOf (Str.ofString "sits_round") (Str.ofString "sits_round") (defArgs (top 24)) (defBody (top 24)) (defScope (top 24)) .none kV10 dc10 pm10 an10 cd10 ct10), sl10⟩) (c10 : PySem.W.codeIn K cd10 (Str.ofString "sits_round") = true) (k10 : PySem.W.keepIn K (.ref f10) = true)
    (a11 : PySem.W.nsIn K mainGlobals (Str.ofString "first_broken_round") = some (some (.ref f11))) (l11 : K.lookup f11 = some ⟨oc11, od11, .func (PySem.W.fnOf (Str.ofString "first_broken_round") (Str.ofString "first_broken_round") (defArgs (top 25)) (defBody (top 25)) (defScope (top 25)) .none kV11 dc11 pm11 an11 cd11 ct11), sl11⟩) (c11 : PySem.W.codeIn K cd11 (Str.ofString "first_broken_round") = true) (k11 : PySem.W.keepIn K (.ref f11) = true)
    (a12 : PySem.W.nsIn K mainGlobals (Str.ofString "_law_cell_at") = some (some (.ref f12))) (l12 : K.lookup f12 = some ⟨oc12, od12, .func (PySem.W.fnOf (Str.ofString "_law_cell_at") (Str.ofString "_law_cell_at") (defArgs (top 31)) (defBody (top 31)) (defScope (top 31)) .none kV12 dc12 pm12 an12 cd12 ct12), sl12⟩) (c12 : PySem.W.codeIn K cd12 (Str.ofString "_law_cell_at") = true) (k12 : PySem.W.keepIn K (.ref f12) = true)
    (a13 : PySem.W.nsIn K mainGlobals (Str.ofString "_law_state") = some (some (.ref f13))) (l13 : K.lookup f13 = some ⟨oc13, od13, .func (PySem.W.fnOf (Str.ofString "_law_state") (Str.ofString "_law_state") (defArgs (top 32)) (defBody (top 32)) (defScope (top 32)) .none kV13 dc13 pm13 an13 cd13 ct13), sl13⟩) (c13 : PySem.W.codeIn K cd13 (Str.ofString "_law_state") = true) (k13 : PySem.W.keepIn K (.ref f13) = true)
    (a14 : PySem.W.nsIn K mainGlobals (Str.ofString "_law_take") = some (some (.ref f14))) (l14 : K.lookup f14 = some ⟨oc14, od14, .func (PySem.W.fnOf (Str.ofString "_law_take") (Str.ofString "_law_take") (defArgs (top 27)) (defBody (top 27)) (defScope (top 27)) .none kV14 dc14 pm14 an14 cd14 ct14), sl14⟩) (c14 : PySem.W.codeIn K cd14 (Str.ofString "_law_take") = true) (k14 : PySem.W.keepIn K (.ref f14) = true)
    (a15 : PySem.W.nsIn K mainGlobals (Str.ofString "_law_whole") = some (some (.ref f15))) (l15 : K.lookup f15 = some ⟨oc15, od15, .func (PySem.W.fnOf (Str.ofString "_law_whole") (Str.ofString "_law_whole") (defArgs (top 28)) (defBody (top 28)) (defScope (top 28)) .none kV15 dc15 pm15 an15 cd15 ct15), sl15⟩) (c15 : PySem.W.codeIn K cd15 (Str.ofString "_law_whole") = true) (k15 : PySem.W.keepIn K (.ref f15) = true)
    (a16 : PySem.W.nsIn K mainGlobals (Str.ofString "_law_is_guest") = some (some (.ref f16))) (l16 : K.lookup f16 = some ⟨oc16, od16, .func (PySem.W.fnOf (Str.ofString "_law_is_guest") (Str.ofString "_law_is_guest") (defArgs (top 29)) (defBody (top 29)) (defScope (top 29)) .none kV16 dc16 pm16 an16 cd16 ct16), sl16⟩) (c16 : PySem.W.codeIn K cd16 (Str.ofString "_law_is_guest") = true) (k16 : PySem.W.keepIn K (.ref f16) = true)
    (a17 : PySem.W.nsIn K mainGlobals (Str.ofString "_law_refused") = some (some (.ref f17))) (l17 : K.lookup f17 = some ⟨oc17, od17, .func (PySem.W.fnOf (Str.ofString "_law_refused") (Str.ofString "_law_refused") (defArgs (top 30)) (defBody (top 30)) (defScope (top 30)) .none kV17 dc17 pm17 an17 cd17 ct17), sl17⟩) (c17 : PySem.W.codeIn K cd17 (Str.ofString "_law_refused") = true) (k17 : PySem.W.keepIn K (.ref f17) = true)
    (a18 : PySem.W.nsIn K mainGlobals (Str.ofString "_law_order") = some (some (.ref f18))) (l18 : K.lookup f18 = some ⟨oc18, od18, .func (PySem.W.fnOf (Str.ofString "_law_order") (Str.ofString "_law_order") (defArgs (top 33)) (defBody (top 33)) (defScope (top 33)) .none kV18 dc18 pm18 an18 cd18 ct18), sl18⟩) (c18 : PySem.W.codeIn K cd18 (Str.ofString "_law_order") = true) (k18 : PySem.W.keepIn K (.ref f18) = true)
    (a19 : PySem.W.nsIn K mainGlobals (Str.ofString "_law_parties") = some (some (.ref f19))) (l19 : K.lookup f19 = some ⟨oc19, od19, .func (PySem.W.fnOf (Str.ofString "_law_parties") (Str.ofString "_law_parties") (defArgs (top 34)) (defBody (top 34)) (defScope (top 34)) .none kV19 dc19 pm19 an19 cd19 ct19), sl19⟩) (c19 : PySem.W.codeIn K cd19 (Str.ofString "_law_parties") = true) (k19 : PySem.W.keepIn K (.ref f19) = true)
    (a20 : PySem.W.nsIn K mainGlobals (Str.ofString "_law_same") = some (some (.ref f20))) (l20 : K.lookup f20 = some ⟨oc20, od20, .func (PySem.W.fnOf (Str.ofString "_law_same") (Str.ofString "_law_same") (defArgs (top 35)) (defBody (top 35)) (defScope (top 35)) .none kV20 dc20 pm20 an20 cd20 ct20), sl20⟩) (c20 : PySem.W.codeIn K cd20 (Str.ofString "_law_same") = true) (k20 : PySem.W.keepIn K (.ref f20) = true)
    (a21 : PySem.W.nsIn K mainGlobals (Str.ofString "_law_round_together") = some (some (.ref f21))) (l21 : K.lookup f21 = some ⟨oc21, od21, .func (PySem.W.fnOf (Str.ofString "_law_round_together") (Str.ofString "_law_round_together") (defArgs (top 36)) (defBody (top 36)) (defScope (top 36)) .none kV21 dc21 pm21 an21 cd21 ct21), sl21⟩) (c21 : PySem.W.codeIn K cd21 (Str.ofString "_law_round_together") = true) (k21 : PySem.W.keepIn K (.ref f21) = true)
    (a22 : PySem.W.nsIn K mainGlobals (Str.ofString "_law_bent") = some (some (.ref f22))) (l22 : K.lookup f22 = some ⟨oc22, od22, .func (PySem.W.fnOf (Str.ofString "_law_bent") (Str.ofString "_law_bent") (defArgs (top 37)) (defBody (top 37)) (defScope (top 37)) .none kV22 dc22 pm22 an22 cd22 ct22), sl22⟩) (c22 : PySem.W.codeIn K cd22 (Str.ofString "_law_bent") = true) (k22 : PySem.W.keepIn K (.ref f22) = true)
    (a23 : PySem.W.nsIn K mainGlobals (Str.ofString "_law_is_round") = some (some (.ref f23))) (l23 : K.lookup f23 = some ⟨oc23, od23, .func (PySem.W.fnOf (Str.ofString "_law_is_round") (Str.ofString "_law_is_round") (defArgs (top 38)) (defBody (top 38)) (defScope (top 38)) .none kV23 dc23 pm23 an23 cd23 ct23), sl23⟩) (c23 : PySem.W.codeIn K cd23 (Str.ofString "_law_is_round") = true) (k23 : PySem.W.keepIn K (.ref f23) = true)
    (a24 : PySem.W.nsIn K mainGlobals (Str.ofString "_law_refusals_right") = some (some (.ref f24))) (l24 : K.lookup f24 = some ⟨oc24, od24, .func (PySem.W.fnOf (Str.ofString "_law_refusals_right") (Str.ofString "_law_refusals_right") (defArgs (top 39)) (defBody (top 39)) (defScope (top 39)) .none kV24 dc24 pm24 an24 (.ref cL) ct24), sl24⟩) (c24 : PySem.W.codeIn K (.ref cL) (Str.ofString "_law_refusals_right") = true) (k24 : PySem.W.keepIn K (.ref f24) = true)
    (a25 : PySem.W.nsIn K mainGlobals (Str.ofString "law") = some (some (.ref f25))) (l25 : K.lookup f25 = some ⟨oc25, od25, .func (PySem.W.fnOf (Str.ofString "law") (Str.ofString "law") (defArgs (top 40)) (defBody (top 40)) (defScope (top 40)) .none kV25 dc25 pm25 an25 cd25 ct25), sl25⟩) (c25 : PySem.W.codeIn K cd25 (Str.ofString "law") = true) (k25 : PySem.W.keepIn K (.ref f25) = true)
    (z0 : PySem.W.nsIn K mainGlobals (Str.ofString "ValueError") = some none)
    (z1 : PySem.W.nsIn K mainGlobals (Str.ofString "all") = some none)
    (z2 : PySem.W.nsIn K mainGlobals (Str.ofString "bool") = some none)
    (z3 : PySem.W.nsIn K mainGlobals (Str.ofString "enumerate") = some none)
    (z4 : PySem.W.nsIn K mainGlobals (Str.ofString "int") = some none)
    (z5 : PySem.W.nsIn K mainGlobals (Str.ofString "isinstance") = some none)
    (z6 : PySem.W.nsIn K mainGlobals (Str.ofString "len") = some none)
    (z7 : PySem.W.nsIn K mainGlobals (Str.ofString "list") = some none)
    (z8 : PySem.W.nsIn K mainGlobals (Str.ofString "max") = some none)
    (z9 : PySem.W.nsIn K mainGlobals (Str.ofString "min") = some none)
    (z10 : PySem.W.nsIn K mainGlobals (Str.ofString "range") = some none)
    (z11 : PySem.W.nsIn K mainGlobals (Str.ofString "sorted") = some none)
    (z12 : PySem.W.nsIn K mainGlobals (Str.ofString "tuple") = some none)
    (z13 : PySem.W.nsIn K mainGlobals (Str.ofString "zip") = some none)
    (cn0 : PySem.W.nsIn K mainGlobals (Str.ofString "MOST_GUESTS") = some (some (.int 7 tk0)))
    (cn1 : PySem.W.nsIn K mainGlobals (Str.ofString "MOST_PARTIES") = some (some (.int 8 tk1)))
    (xn0 : PySem.W.nsIn K mainGlobals (Str.ofString "NoGuests") = some (some (.ref C0)))
    (xn1 : PySem.W.nsIn K mainGlobals (Str.ofString "NoParties") = some (some (.ref C1)))
    (xn2 : PySem.W.nsIn K mainGlobals (Str.ofString "NoNumber") = some (some (.ref C2)))
    (xn3 : PySem.W.nsIn K mainGlobals (Str.ofString "NoText") = some (some (.ref C3)))
    (xn4 : PySem.W.nsIn K mainGlobals (Str.ofString "NoLine") = some (some (.ref C4)))
    (xn5 : PySem.W.nsIn K mainGlobals (Str.ofString "NoDeed") = some (some (.ref C5)))
    (xn6 : PySem.W.nsIn K mainGlobals (Str.ofString "NoWeb") = some (some (.ref C6)))
    (xn7 : PySem.W.nsIn K mainGlobals (Str.ofString "NoOrder") = some (some (.ref C7)))
    (xn8 : PySem.W.nsIn K mainGlobals (Str.ofString "SeatError") = some (some (.ref CS)))
    (xe0 : PySem.W.excIn K C0 bmV "ValueError.__new__" = true) (xg0 : PySem.W.findIn K (.ref C0) "__getattribute__" = some (some (.builtin "BaseException.__getattribute__"))) (xh0 : PySem.W.findIn K (.ref C0) "__getattr__" = some none) (xk0 : PySem.W.findIn K (.ref C0) "__class__" = some (some (.builtin "object.__class__"))) (xb0 : PySem.W.subIn K (.ref C0) (.type "BaseException") = some true)
    (xe1 : PySem.W.excIn K C1 bmV "ValueError.__new__" = true) (xg1 : PySem.W.findIn K (.ref C1) "__getattribute__" = some (some (.builtin "BaseException.__getattribute__"))) (xh1 : PySem.W.findIn K (.ref C1) "__getattr__" = some none) (xk1 : PySem.W.findIn K (.ref C1) "__class__" = some (some (.builtin "object.__class__"))) (xb1 : PySem.W.subIn K (.ref C1) (.type "BaseException") = some true)
    (xe2 : PySem.W.excIn K C2 bmV "ValueError.__new__" = true) (xg2 : PySem.W.findIn K (.ref C2) "__getattribute__" = some (some (.builtin "BaseException.__getattribute__"))) (xh2 : PySem.W.findIn K (.ref C2) "__getattr__" = some none) (xk2 : PySem.W.findIn K (.ref C2) "__class__" = some (some (.builtin "object.__class__"))) (xb2 : PySem.W.subIn K (.ref C2) (.type "BaseException") = some true)
    (xe3 : PySem.W.excIn K C3 bmV "ValueError.__new__" = true) (xg3 : PySem.W.findIn K (.ref C3) "__getattribute__" = some (some (.builtin "BaseException.__getattribute__"))) (xh3 : PySem.W.findIn K (.ref C3) "__getattr__" = some none) (xk3 : PySem.W.findIn K (.ref C3) "__class__" = some (some (.builtin "object.__class__"))) (xb3 : PySem.W.subIn K (.ref C3) (.type "BaseException") = some true)
    (xe4 : PySem.W.excIn K C4 bmV "ValueError.__new__" = true) (xg4 : PySem.W.findIn K (.ref C4) "__getattribute__" = some (some (.builtin "BaseException.__getattribute__"))) (xh4 : PySem.W.findIn K (.ref C4) "__getattr__" = some none) (xk4 : PySem.W.findIn K (.ref C4) "__class__" = some (some (.builtin "object.__class__"))) (xb4 : PySem.W.subIn K (.ref C4) (.type "BaseException") = some true)
    (xe5 : PySem.W.excIn K C5 bmV "ValueError.__new__" = true) (xg5 : PySem.W.findIn K (.ref C5) "__getattribute__" = some (some (.builtin "BaseException.__getattribute__"))) (xh5 : PySem.W.findIn K (.ref C5) "__getattr__" = some none) (xk5 : PySem.W.findIn K (.ref C5) "__class__" = some (some (.builtin "object.__class__"))) (xb5 : PySem.W.subIn K (.ref C5) (.type "BaseException") = some true)
    (xe6 : PySem.W.excIn K C6 bmV "ValueError.__new__" = true) (xg6 : PySem.W.findIn K (.ref C6) "__getattribute__" = some (some (.builtin "BaseException.__getattribute__"))) (xh6 : PySem.W.findIn K (.ref C6) "__getattr__" = some none) (xk6 : PySem.W.findIn K (.ref C6) "__class__" = some (some (.builtin "object.__class__"))) (xb6 : PySem.W.subIn K (.ref C6) (.type "BaseException") = some true)
    (xe7 : PySem.W.excIn K C7 bmV "ValueError.__new__" = true) (xg7 : PySem.W.findIn K (.ref C7) "__getattribute__" = some (some (.builtin "BaseException.__getattribute__"))) (xh7 : PySem.W.findIn K (.ref C7) "__getattr__" = some none) (xk7 : PySem.W.findIn K (.ref C7) "__class__" = some (some (.builtin "object.__class__"))) (xb7 : PySem.W.subIn K (.ref C7) (.type "BaseException") = some true)
    (xe8 : PySem.W.excIn K CS bmV "ValueError.__new__" = true) (xg8 : PySem.W.findIn K (.ref CS) "__getattribute__" = some (some (.builtin "BaseException.__getattribute__"))) (xh8 : PySem.W.findIn K (.ref CS) "__getattr__" = some none) (xk8 : PySem.W.findIn K (.ref CS) "__class__" = some (some (.builtin "object.__class__"))) (xb8 : PySem.W.subIn K (.ref CS) (.type "BaseException") = some true)
    (xs0 : PySem.W.subIn K (.ref C0) (.ref CS) = some true) (xv0 : PySem.W.kitOne K (.ref C0) (.type "ValueError") = some true)
    (xi00 : PySem.W.kitOne K (.ref C0) (.ref C0) = some true)
    (xi01 : PySem.W.kitOne K (.ref C0) (.ref C1) = some false)
    (xi02 : PySem.W.kitOne K (.ref C0) (.ref C2) = some false)
    (xi03 : PySem.W.kitOne K (.ref C0) (.ref C3) = some false)
    (xi04 : PySem.W.kitOne K (.ref C0) (.ref C4) = some false)
    (xi05 : PySem.W.kitOne K (.ref C0) (.ref C5) = some false)
    (xi06 : PySem.W.kitOne K (.ref C0) (.ref C6) = some false)
    (xi07 : PySem.W.kitOne K (.ref C0) (.ref C7) = some false)
    (xs1 : PySem.W.subIn K (.ref C1) (.ref CS) = some true) (xv1 : PySem.W.kitOne K (.ref C1) (.type "ValueError") = some true)
    (xi10 : PySem.W.kitOne K (.ref C1) (.ref C0) = some false)
    (xi11 : PySem.W.kitOne K (.ref C1) (.ref C1) = some true)
    (xi12 : PySem.W.kitOne K (.ref C1) (.ref C2) = some false)
    (xi13 : PySem.W.kitOne K (.ref C1) (.ref C3) = some false)
    (xi14 : PySem.W.kitOne K (.ref C1) (.ref C4) = some false)
    (xi15 : PySem.W.kitOne K (.ref C1) (.ref C5) = some false)
    (xi16 : PySem.W.kitOne K (.ref C1) (.ref C6) = some false)
    (xi17 : PySem.W.kitOne K (.ref C1) (.ref C7) = some false)
    (xs2 : PySem.W.subIn K (.ref C2) (.ref CS) = some true) (xv2 : PySem.W.kitOne K (.ref C2) (.type "ValueError") = some true)
    (xi20 : PySem.W.kitOne K (.ref C2) (.ref C0) = some false)
    (xi21 : PySem.W.kitOne K (.ref C2) (.ref C1) = some false)
    (xi22 : PySem.W.kitOne K (.ref C2) (.ref C2) = some true)
    (xi23 : PySem.W.kitOne K (.ref C2) (.ref C3) = some false)
    (xi24 : PySem.W.kitOne K (.ref C2) (.ref C4) = some false)
    (xi25 : PySem.W.kitOne K (.ref C2) (.ref C5) = some false)
    (xi26 : PySem.W.kitOne K (.ref C2) (.ref C6) = some false)
    (xi27 : PySem.W.kitOne K (.ref C2) (.ref C7) = some false)
    (xs3 : PySem.W.subIn K (.ref C3) (.ref CS) = some true) (xv3 : PySem.W.kitOne K (.ref C3) (.type "ValueError") = some true)
    (xi30 : PySem.W.kitOne K (.ref C3) (.ref C0) = some false)
    (xi31 : PySem.W.kitOne K (.ref C3) (.ref C1) = some false)
    (xi32 : PySem.W.kitOne K (.ref C3) (.ref C2) = some false)
    (xi33 : PySem.W.kitOne K (.ref C3) (.ref C3) = some true)
    (xi34 : PySem.W.kitOne K (.ref C3) (.ref C4) = some false)
    (xi35 : PySem.W.kitOne K (.ref C3) (.ref C5) = some false)
    (xi36 : PySem.W.kitOne K (.ref C3) (.ref C6) = some false)
    (xi37 : PySem.W.kitOne K (.ref C3) (.ref C7) = some false)
    (xs4 : PySem.W.subIn K (.ref C4) (.ref CS) = some true) (xv4 : PySem.W.kitOne K (.ref C4) (.type "ValueError") = some true)
    (xi40 : PySem.W.kitOne K (.ref C4) (.ref C0) = some false)
    (xi41 : PySem.W.kitOne K (.ref C4) (.ref C1) = some false)
    (xi42 : PySem.W.kitOne K (.ref C4) (.ref C2) = some false)
    (xi43 : PySem.W.kitOne K (.ref C4) (.ref C3) = some false)
    (xi44 : PySem.W.kitOne K (.ref C4) (.ref C4) = some true)
    (xi45 : PySem.W.kitOne K (.ref C4) (.ref C5) = some false)
    (xi46 : PySem.W.kitOne K (.ref C4) (.ref C6) = some false)
    (xi47 : PySem.W.kitOne K (.ref C4) (.ref C7) = some false)
    (xs5 : PySem.W.subIn K (.ref C5) (.ref CS) = some true) (xv5 : PySem.W.kitOne K (.ref C5) (.type "ValueError") = some true)
    (xi50 : PySem.W.kitOne K (.ref C5) (.ref C0) = some false)
    (xi51 : PySem.W.kitOne K (.ref C5) (.ref C1) = some false)
    (xi52 : PySem.W.kitOne K (.ref C5) (.ref C2) = some false)
    (xi53 : PySem.W.kitOne K (.ref C5) (.ref C3) = some false)
    (xi54 : PySem.W.kitOne K (.ref C5) (.ref C4) = some false)
    (xi55 : PySem.W.kitOne K (.ref C5) (.ref C5) = some true)
    (xi56 : PySem.W.kitOne K (.ref C5) (.ref C6) = some false)
    (xi57 : PySem.W.kitOne K (.ref C5) (.ref C7) = some false)
    (xs6 : PySem.W.subIn K (.ref C6) (.ref CS) = some true) (xv6 : PySem.W.kitOne K (.ref C6) (.type "ValueError") = some true)
    (xi60 : PySem.W.kitOne K (.ref C6) (.ref C0) = some false)
    (xi61 : PySem.W.kitOne K (.ref C6) (.ref C1) = some false)
    (xi62 : PySem.W.kitOne K (.ref C6) (.ref C2) = some false)
    (xi63 : PySem.W.kitOne K (.ref C6) (.ref C3) = some false)
    (xi64 : PySem.W.kitOne K (.ref C6) (.ref C4) = some false)
    (xi65 : PySem.W.kitOne K (.ref C6) (.ref C5) = some false)
    (xi66 : PySem.W.kitOne K (.ref C6) (.ref C6) = some true)
    (xi67 : PySem.W.kitOne K (.ref C6) (.ref C7) = some false)
    (xs7 : PySem.W.subIn K (.ref C7) (.ref CS) = some true) (xv7 : PySem.W.kitOne K (.ref C7) (.type "ValueError") = some true)
    (xi70 : PySem.W.kitOne K (.ref C7) (.ref C0) = some false)
    (xi71 : PySem.W.kitOne K (.ref C7) (.ref C1) = some false)
    (xi72 : PySem.W.kitOne K (.ref C7) (.ref C2) = some false)
    (xi73 : PySem.W.kitOne K (.ref C7) (.ref C3) = some false)
    (xi74 : PySem.W.kitOne K (.ref C7) (.ref C4) = some false)
    (xi75 : PySem.W.kitOne K (.ref C7) (.ref C5) = some false)
    (xi76 : PySem.W.kitOne K (.ref C7) (.ref C6) = some false)
    (xi77 : PySem.W.kitOne K (.ref C7) (.ref C7) = some true)
    (ch : PySem.W.codeHdIn K cL PT = true) :
    ∃ (fd : FuncData) (cL : Addr), (∀ (s : Shared) (v : Value), BindsTo s fd ⟨[v], []⟩ [("script", v)]) ∧ PySem.W.codeHdIn K cL PT = true ∧ ∀ base : Heap, K.In base → base.Ns mainGlobals mg → base.BuiltinsAt mg PT → FnOk l.prog w K mg base (CXe l.prog w) 30 fa fd ["script"] (spT K PT (lawD 9 lamQ d_law)) := by
  have e := hfa.symm.trans (PySem.W.mg_of X G a25)
  cases e
  let cls : Nat → Addr := fun n => match n with | 0 => C0 | 1 => C1 | 2 => C2 | 3 => C3 | 4 => C4 | 5 => C5 | 6 => C6 | _ => C7
  have T : Tx K mg cls := ⟨(fun n hn => match n, hn with | 0, _ => ⟨xe0, xg0, xh0, xk0, xb0⟩ | 1, _ => ⟨xe1, xg1, xh1, xk1, xb1⟩ | 2, _ => ⟨xe2, xg2, xh2, xk2, xb2⟩ | 3, _ => ⟨xe3, xg3, xh3, xk3, xb3⟩ | 4, _ => ⟨xe4, xg4, xh4, xk4, xb4⟩ | 5, _ => ⟨xe5, xg5, xh5, xk5, xb5⟩ | 6, _ => ⟨xe6, xg6, xh6, xk6, xb6⟩ | 7, _ => ⟨xe7, xg7, xh7, xk7, xb7⟩), PySem.W.mg_of X G xn0, PySem.W.mg_of X G xn1, PySem.W.mg_of X G xn2, PySem.W.mg_of X G xn3, PySem.W.mg_of X G xn4, PySem.W.mg_of X G xn5, PySem.W.mg_of X G xn6, PySem.W.mg_of X G xn7, ⟨CS, ⟨xe8, xg8, xh8, xk8, xb8⟩, PySem.W.mg_of X G xn8, fun n hn => match n, hn with | 0, _ => xs0 | 1, _ => xs1 | 2, _ => xs2 | 3, _ => xs3 | 4, _ => xs4 | 5, _ => xs5 | 6, _ => xs6 | 7, _ => xs7⟩, (fun n k hn hk => match n, k, hn, hk with | 0, 0, _, _ => xi00 | 0, 1, _, _ => xi01 | 0, 2, _, _ => xi02 | 0, 3, _, _ => xi03 | 0, 4, _, _ => xi04 | 0, 5, _, _ => xi05 | 0, 6, _, _ => xi06 | 0, 7, _, _ => xi07 | 1, 0, _, _ => xi10 | 1, 1, _, _ => xi11 | 1, 2, _, _ => xi12 | 1, 3, _, _ => xi13 | 1, 4, _, _ => xi14 | 1, 5, _, _ => xi15 | 1, 6, _, _ => xi16 | 1, 7, _, _ => xi17 | 2, 0, _, _ => xi20 | 2, 1, _, _ => xi21 | 2, 2, _, _ => xi22 | 2, 3, _, _ => xi23 | 2, 4, _, _ => xi24 | 2, 5, _, _ => xi25 | 2, 6, _, _ => xi26 | 2, 7, _, _ => xi27 | 3, 0, _, _ => xi30 | 3, 1, _, _ => xi31 | 3, 2, _, _ => xi32 | 3, 3, _, _ => xi33 | 3, 4, _, _ => xi34 | 3, 5, _, _ => xi35 | 3, 6, _, _ => xi36 | 3, 7, _, _ => xi37 | 4, 0, _, _ => xi40 | 4, 1, _, _ => xi41 | 4, 2, _, _ => xi42 | 4, 3, _, _ => xi43 | 4, 4, _, _ => xi44 | 4, 5, _, _ => xi45 | 4, 6, _, _ => xi46 | 4, 7, _, _ => xi47 | 5, 0, _, _ => xi50 | 5, 1, _, _ => xi51 | 5, 2, _, _ => xi52 | 5, 3, _, _ => xi53 | 5, 4, _, _ => xi54 | 5, 5, _, _ => xi55 | 5, 6, _, _ => xi56 | 5, 7, _, _ => xi57 | 6, 0, _, _ => xi60 | 6, 1, _, _ => xi61 | 6, 2, _, _ => xi62 | 6, 3, _, _ => xi63 | 6, 4, _, _ => xi64 | 6, 5, _, _ => xi65 | 6, 6, _, _ => xi66 | 6, 7, _, _ => xi67 | 7, 0, _, _ => xi70 | 7, 1, _, _ => xi71 | 7, 2, _, _ => xi72 | 7, 3, _, _ => xi73 | 7, 4, _, _ => xi74 | 7, 5, _, _ => xi75 | 7, 6, _, _ => xi76 | 7, 7, _, _ => xi77), (fun n hn => match n, hn with | 0, _ => xv0 | 1, _ => xv1 | 2, _ => xv2 | 3, _ => xv3 | 4, _ => xv4 | 5, _ => xv5 | 6, _ => xv6 | 7, _ => xv7), ⟨_, _, fun_mk (st := top 13) l0 c0 k0, PySem.W.mg_of X G a0⟩, ⟨_, _, fun_mk (st := top 14) l1 c1 k1, PySem.W.mg_of X G a1⟩, ⟨_, _, fun_mk (st := top 16) l2 c2 k2, PySem.W.mg_of X G a2⟩, ⟨_, _, fun_mk (st := top 17) l3 c3 k3, PySem.W.mg_of X G a3⟩, ⟨_, _, fun_mk (st := top 18) l4 c4 k4, PySem.W.mg_of X G a4⟩, ⟨_, _, fun_mk (st := top 19) l5 c5 k5, PySem.W.mg_of X G a5⟩, ⟨_, _, fun_mk (st := top 20) l6 c6 k6, PySem.W.mg_of X G a6⟩, ⟨_, _, fun_mk (st := top 15) l7 c7 k7, PySem.W.mg_of X G a7⟩, ⟨_, _, fun_mk (st := top 21) l8 c8 k8, PySem.W.mg_of X G a8⟩, ⟨_, _, fun_mk (st := top 23) l9 c9 k9, PySem.W.mg_of X G a9⟩, ⟨_, _, fun_mk (st := top 24) l10 c10 k10, PySem.W.mg_of X G a10⟩, ⟨_, _, fun_mk (st := top 25) l11 c11 k11, PySem.W.mg_of X G a11⟩, ⟨_, _, fun_mk (st := top 31) l12 c12 k12, PySem.W.mg_of X G a12⟩, ⟨_, _, fun_mk (st := top 32) l13 c13 k13, PySem.W.mg_of X G a13⟩, ⟨_, _, fun_mk (st := top 27) l14 c14 k14, PySem.W.mg_of X G a14⟩, ⟨_, _, fun_mk (st := top 28) l15 c15 k15, PySem.W.mg_of X G a15⟩, ⟨_, _, fun_mk (st := top 29) l16 c16 k16, PySem.W.mg_of X G a16⟩, ⟨_, _, fun_mk (st := top 30) l17 c17 k17, PySem.W.mg_of X G a17⟩, ⟨_, _, fun_mk (st := top 33) l18 c18 k18, PySem.W.mg_of X G a18⟩, ⟨_, _, fun_mk (st := top 34) l19 c19 k19, PySem.W.mg_of X G a19⟩, ⟨_, _, fun_mk (st := top 35) l20 c20 k20, PySem.W.mg_of X G a20⟩, ⟨_, _, fun_mk (st := top 36) l21 c21 k21, PySem.W.mg_of X G a21⟩, ⟨_, _, fun_mk (st := top 37) l22 c22 k22, PySem.W.mg_of X G a22⟩, ⟨_, _, fun_mk (st := top 38) l23 c23 k23, PySem.W.mg_of X G a23⟩, ⟨_, _, fun_mk (st := top 39) l24 c24 k24, PySem.W.mg_of X G a24⟩, ⟨_, _, fun_mk (st := top 40) l25 c25 k25, PySem.W.mg_of X G a25⟩, PySem.W.mg_none_of X G z0, PySem.W.mg_none_of X G z1, PySem.W.mg_none_of X G z2, PySem.W.mg_none_of X G z3, PySem.W.mg_none_of X G z4, PySem.W.mg_none_of X G z5, PySem.W.mg_none_of X G z6, PySem.W.mg_none_of X G z7, PySem.W.mg_none_of X G z8, PySem.W.mg_none_of X G z9, PySem.W.mg_none_of X G z10, PySem.W.mg_none_of X G z11, PySem.W.mg_none_of X G z12, PySem.W.mg_none_of X G z13, ⟨_, PySem.W.mg_of X G cn0⟩, ⟨_, PySem.W.mg_of X G cn1⟩⟩
  exact ⟨PySem.W.fnOf "law" "law" (defArgs (top 40)) (defBody (top 40)) (defScope (top 40)) .none kV25 dc25 pm25 an25 cd25 ct25, cL, fun s v => .of_eq rfl, ch, fun base hK _ hb => K_law T (fun_mk (st := top 40) l25 c25 k25) (D__law_refusals_right T (fun_mk (st := top 39) l24 c24 k24) (PySem.W.mg_of X G a24) rfl ch hb hK)⟩
theorem walk {l : PySem.W.OpenLaw} {q : Program} {loose : List Str} {XP : (Str → Option Value) → Heap → Prop} {YP : World → Heap → Prop} {d : DefRec} {K : Params → PySem.W.Frag} {PT : Addr} (hn : l.most = some 63) (hdf : d.params.defaults = [])
    (hY : ∀ (w : World) (h : Heap), YP w h → (K w.params).In h) (hYT : ∀ (w : World) (h : Heap), YP w h → h.get? PT = some (PySem.W.tabObj #[])) (hnt : ∀ w : World, PySem.W.noTabs (K w.params) = true)
    (F : ∀ (w : World) (mg : Str → Option Value) (fa : Addr) (h : Heap), (K w.params).In h → h.Ns mainGlobals mg → mg d.name = some (.ref fa) →
      ∃ (fd : FuncData) (cL : Addr), (∀ (s : Shared) (u : Value), BindsTo s fd ⟨[u], []⟩ [("script", u)]) ∧ PySem.W.codeHdIn (K w.params) cL PT = true ∧ ∀ base : Heap, (K w.params).In base → base.Ns mainGlobals mg → base.BuiltinsAt mg PT → FnOk l.prog w (K w.params) mg base (CXe l.prog w) 30 fa fd ["script"] (spT (K w.params) PT (lawD 9 lamQ d_law))) :
    PySem.W.WalkO q loose XP YP l.row.toRowW d [] (fun f vs => PySem.call f vs) :=
  walk_ofT (n := 63) (k := 30) (x := "script") (CX := fun w => CXe l.prog w) (sp := fun w => spT (K w.params) PT (lawD 9 lamQ d_law)) hn (by decide) hdf ⟨rfl, by decide, by decide⟩ hY hYT hnt F (fun w H a ns hl hP hS => ⟨a, ns, rfl, hS, hP, law_true ns, fun _ => rfl⟩) fun _ _ _ _ _ z => CXe.none z
end Lw
open PySem PySem.W PyProof.Rows
set_option maxRecDepth 100000 in
set_option maxHeartbeats 0 in
theorem PySem.Challenge.cw_standtogether_k30_round_tables_known_holds : PySem.Challenge.rw_standtogether_k30_round_tables_known.Holds := by
  w_on; o_law; k_head; (case hw => w_witness2)
  k_fill
  refine Lw.walk (l := PySem.Challenge.rw_standtogether_k30_round_tables_known) rfl rfl (fun w h Y => PySem.W.km_in_of Y) (fun w h Y => PySem.W.km_tabs_of Y _ List.mem_cons_self) (fun w => by kernel_rfl) ?F
  case F =>
    intro w mg fa h KX G hmg
    refine' Lw.all_mk KX G hmg ?a0 ?l0 ?c0 ?k0 ?a1 ?l1 ?c1 ?k1 ?a2 ?l2 ?c2 ?k2 ?a3 ?l3 ?c3 ?k3 ?a4 ?l4 ?c4 ?k4 ?a5 ?l5 ?c5 ?k5 ?a6 ?l6 ?c6 ?k6 ?a7 ?l7 ?c7 ?k7 ?a8 ?l8 ?c8 ?k8 ?a9 ?l9 ?c9 ?k9 ?a10 ?l10 ?c10 ?k10 ?a11 ?l11 ?c11 ?k11 ?a12 ?l12 ?c12 ?k12 ?a13 ?l13 ?c13 ?k13 ?a14 ?l14 ?c14 ?k14 ?a15 ?l15 ?c15 ?k15 ?a16 ?l16 ?c16 ?k16 ?a17 ?l17 ?c17 ?k17 ?a18 ?l18 ?c18 ?k18 ?a19 ?l19 ?c19 ?k19 ?a20 ?l20 ?c20 ?k20 ?a21 ?l21 ?c21 ?k21 ?a22 ?l22 ?c22 ?k22 ?a23 ?l23 ?c23 ?k23 ?a24 ?l24 ?c24 ?k24 ?a25 ?l25 ?c25 ?k25 ?z0 ?z1 ?z2 ?z3 ?z4 ?z5 ?z6 ?z7 ?z8 ?z9 ?z10 ?z11 ?z12 ?z13 ?cn0 ?cn1 ?xn0 ?xn1 ?xn2 ?xn3 ?xn4 ?xn5 ?xn6 ?xn7 ?xn8 ?xe0 ?xg0 ?xh0 ?xk0 ?xb0 ?xe1 ?xg1 ?xh1 ?xk1 ?xb1 ?xe2 ?xg2 ?xh2 ?xk2 ?xb2 ?xe3 ?xg3 ?xh3 ?xk3 ?xb3 ?xe4 ?xg4 ?xh4 ?xk4 ?xb4 ?xe5 ?xg5 ?xh5 ?xk5 ?xb5 ?xe6 ?xg6 ?xh6 ?xk6 ?xb6 ?xe7 ?xg7 ?xh7 ?xk7 ?xb7 ?xe8 ?xg8 ?xh8 ?xk8 ?xb8 ?xs0 ?xv0 ?xi00 ?xi01 ?xi02 ?xi03 ?xi04 ?xi05 ?xi06 ?xi07 ?xs1 ?xv1 ?xi10 ?xi11 ?xi12 ?xi13 ?xi14 ?xi15 ?xi16 ?xi17 ?xs2 ?xv2 ?xi20 ?xi21 ?xi22 ?xi23 ?xi24 ?xi25 ?xi26 ?xi27 ?xs3 ?xv3 ?xi30 ?xi31 ?xi32 ?xi33 ?xi34 ?xi35 ?xi36 ?xi37 ?xs4 ?xv4 ?xi40 ?xi41 ?xi42 ?xi43 ?xi44 ?xi45 ?xi46 ?xi47 ?xs5 ?xv5 ?xi50 ?xi51 ?xi52 ?xi53 ?xi54 ?xi55 ?xi56 ?xi57 ?xs6 ?xv6 ?xi60 ?xi61 ?xi62 ?xi63 ?xi64 ?xi65 ?xi66 ?xi67 ?xs7 ?xv7 ?xi70 ?xi71 ?xi72 ?xi73 ?xi74 ?xi75 ?xi76 ?xi77 ?ch
    (case a0 => k_is); (case l0 => k_is); (case c0 => k_is); (case k0 => k_is)
    (case a1 => k_is); (case l1 => k_is); (case c1 => k_is); (case k1 => k_is)
    (case a2 => k_is); (case l2 => k_is); (case c2 => k_is); (case k2 => k_is)
    (case a3 => k_is); (case l3 => k_is); (case c3 => k_is); (case k3 => k_is)
    (case a4 => k_is); (case l4 => k_is); (case c4 => k_is); (case k4 => k_is)
    (case a5 => k_is); (case l5 => k_is); (case c5 => k_is); (case k5 => k_is)
    (case a6 => k_is); (case l6 => k_is); (case c6 => k_is); (case k6 => k_is)
    (case a7 => k_is); (case l7 => k_is); (case c7 => k_is); (case k7 => k_is)
    (case a8 => k_is); (case l8 => k_is); (case c8 => k_is); (case k8 => k_is)
    (case a9 => k_is); (case l9 => k_is); (case c9 => k_is); (case k9 => k_is)
    (case a10 => k_is); (case l10 => k_is); (case c10 => k_is); (case k10 => k_is)
    (case a11 => k_is); (case l11 => k_is); (case c11 => k_is); (case k11 => k_is)
    (case a12 => k_is); (case l12 => k_is); (case c12 => k_is); (case k12 => k_is)
    (case a13 => k_is); (case l13 => k_is); (case c13 => k_is); (case k13 => k_is)
    (case a14 => k_is); (case l14 => k_is); (case c14 => k_is); (case k14 => k_is)
    (case a15 => k_is); (case l15 => k_is); (case c15 => k_is); (case k15 => k_is)
    (case a16 => k_is); (case l16 => k_is); (case c16 => k_is); (case k16 => k_is)
    (case a17 => k_is); (case l17 => k_is); (case c17 => k_is); (case k17 => k_is)
    (case a18 => k_is); (case l18 => k_is); (case c18 => k_is); (case k18 => k_is)
    (case a19 => k_is); (case l19 => k_is); (case c19 => k_is); (case k19 => k_is)
    (case a20 => k_is); (case l20 => k_is); (case c20 => k_is); (case k20 => k_is)
    (case a21 => k_is); (case l21 => k_is); (case c21 => k_is); (case k21 => k_is)
    (case a22 => k_is); (case l22 => k_is); (case c22 => k_is); (case k22 => k_is)
    (case a23 => k_is); (case l23 => k_is); (case c23 => k_is); (case k23 => k_is)
    (case a24 => k_is); (case l24 => k_is); (case c24 => k_is); (case k24 => k_is)
    (case a25 => k_is); (case l25 => k_is); (case c25 => k_is); (case k25 => k_is)
    (case z0 => k_is); (case z1 => k_is); (case z2 => k_is); (case z3 => k_is)
    (case z4 => k_is); (case z5 => k_is); (case z6 => k_is); (case z7 => k_is)
    (case z8 => k_is); (case z9 => k_is); (case z10 => k_is); (case z11 => k_is)
    (case z12 => k_is); (case z13 => k_is); (case cn0 => k_is); (case cn1 => k_is)
    (case xn0 => k_is); (case xn1 => k_is); (case xn2 => k_is); (case xn3 => k_is)
    (case xn4 => k_is); (case xn5 => k_is); (case xn6 => k_is); (case xn7 => k_is)
    (case xn8 => k_is); (case xe0 => kernel_rfl); (case xg0 => k_is); (case xh0 => k_is)
    (case xk0 => k_is); (case xb0 => k_is); (case xe1 => kernel_rfl); (case xg1 => k_is)
    (case xh1 => k_is); (case xk1 => k_is); (case xb1 => k_is); (case xe2 => kernel_rfl)
    (case xg2 => k_is); (case xh2 => k_is); (case xk2 => k_is); (case xb2 => k_is)
    (case xe3 => kernel_rfl); (case xg3 => k_is); (case xh3 => k_is); (case xk3 => k_is)
    (case xb3 => k_is); (case xe4 => kernel_rfl); (case xg4 => k_is); (case xh4 => k_is)
    (case xk4 => k_is); (case xb4 => k_is); (case xe5 => kernel_rfl); (case xg5 => k_is)
    (case xh5 => k_is); (case xk5 => k_is); (case xb5 => k_is); (case xe6 => kernel_rfl)
    (case xg6 => k_is); (case xh6 => k_is); (case xk6 => k_is); (case xb6 => k_is)
    (case xe7 => kernel_rfl); (case xg7 => k_is); (case xh7 => k_is); (case xk7 => k_is)
    (case xb7 => k_is); (case xe8 => kernel_rfl); (case xg8 => k_is); (case xh8 => k_is)
    (case xk8 => k_is); (case xb8 => k_is); (case xs0 => k_is); (case xv0 => kernel_rfl)
    (case xi00 => kernel_rfl); (case xi01 => kernel_rfl); (case xi02 => kernel_rfl); (case xi03 => kernel_rfl)
    (case xi04 => kernel_rfl); (case xi05 => kernel_rfl); (case xi06 => kernel_rfl); (case xi07 => kernel_rfl)
    (case xs1 => k_is); (case xv1 => kernel_rfl); (case xi10 => kernel_rfl); (case xi11 => kernel_rfl)
    (case xi12 => kernel_rfl); (case xi13 => kernel_rfl); (case xi14 => kernel_rfl); (case xi15 => kernel_rfl)
    (case xi16 => kernel_rfl); (case xi17 => kernel_rfl); (case xs2 => k_is); (case xv2 => kernel_rfl)
    (case xi20 => kernel_rfl); (case xi21 => kernel_rfl); (case xi22 => kernel_rfl); (case xi23 => kernel_rfl)
    (case xi24 => kernel_rfl); (case xi25 => kernel_rfl); (case xi26 => kernel_rfl); (case xi27 => kernel_rfl)
    (case xs3 => k_is); (case xv3 => kernel_rfl); (case xi30 => kernel_rfl); (case xi31 => kernel_rfl)
    (case xi32 => kernel_rfl); (case xi33 => kernel_rfl); (case xi34 => kernel_rfl); (case xi35 => kernel_rfl)
    (case xi36 => kernel_rfl); (case xi37 => kernel_rfl); (case xs4 => k_is); (case xv4 => kernel_rfl)
    (case xi40 => kernel_rfl); (case xi41 => kernel_rfl); (case xi42 => kernel_rfl); (case xi43 => kernel_rfl)
    (case xi44 => kernel_rfl); (case xi45 => kernel_rfl); (case xi46 => kernel_rfl); (case xi47 => kernel_rfl)
    (case xs5 => k_is); (case xv5 => kernel_rfl); (case xi50 => kernel_rfl); (case xi51 => kernel_rfl)
    (case xi52 => kernel_rfl); (case xi53 => kernel_rfl); (case xi54 => kernel_rfl); (case xi55 => kernel_rfl)
    (case xi56 => kernel_rfl); (case xi57 => kernel_rfl); (case xs6 => k_is); (case xv6 => kernel_rfl)
    (case xi60 => kernel_rfl); (case xi61 => kernel_rfl); (case xi62 => kernel_rfl); (case xi63 => kernel_rfl)
    (case xi64 => kernel_rfl); (case xi65 => kernel_rfl); (case xi66 => kernel_rfl); (case xi67 => kernel_rfl)
    (case xs7 => k_is); (case xv7 => kernel_rfl); (case xi70 => kernel_rfl); (case xi71 => kernel_rfl)
    (case xi72 => kernel_rfl); (case xi73 => kernel_rfl); (case xi74 => kernel_rfl); (case xi75 => kernel_rfl)
    (case xi76 => kernel_rfl); (case xi77 => kernel_rfl); (case ch => kernel_rfl)
end
