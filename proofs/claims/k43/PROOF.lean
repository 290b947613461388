import PyProof.Rows.All
import Wide.All
import OpenK.AllK
import Wide.FinOn
import Lean
import PyProof.EqAt
import PyProof.EqKinds
import PyProof.TupleCall
import PyProof.NeKinds
import PySem.Challenge.RW_lookspare_k43_facts_along_steps
set_option Elab.async false
set_option linter.all false
set_option maxRecDepth 100000
namespace L2
noncomputable def appQ.{u, v} {α : Sort u} {κ : Sort v} (Q : κ) (P : α → κ → Prop) (x : α) : Prop := P x Q
noncomputable def ExQ.{u, v} {α : Sort u} {κ : Sort v} (Q : κ) (P : α → κ → Prop) : Prop := Exists (appQ Q P)
open PySem PySem.Spec PyProof.Rows

noncomputable abbrev Key := Sum Int Str
noncomputable def keyIs : Key → Value → Bool
  | .inl k, v => Value.isInt k v
  | .inr x, v => Value.isStrOf x v
noncomputable def keyH (w : World) : Key → Int
  | .inl k => hashInt k
  | .inr x => hashStr w x
theorem keyIs_shape : ∀ {k : Key} {v : Value}, keyIs k v = true → (∃ i t, k = Sum.inl i ∧ v = Value.int i t) ∨ (∃ x t, k = Sum.inr x ∧ v = Value.str x t)
  | .inl i, v, h => by
    obtain ⟨t, e⟩ := Value.isInt_shape (k := i) (v := v) h
    exact .inl ⟨i, t, rfl, e⟩
  | .inr x, v, h => by
    obtain ⟨t, e⟩ := Value.isStrOf_shape (x := x) (v := v) h
    exact .inr ⟨x, t, rfl, e⟩
theorem keyIs_str (x : Str) (t : Tok) : keyIs (.inr x) (.str x t) = true := by simp [keyIs, Value.isStrOf]
theorem key_ll (a b : Int) : decide ((Sum.inl a : Key) = Sum.inl b) = (a == b) := by
  by_cases e : a = b
  · subst e; simp
  · have h : ¬ (Sum.inl a : Key) = Sum.inl b := fun q => e (Sum.inl.inj q)
    rw [decide_eq_false h]
    exact (beq_eq_false_iff_ne.mpr e).symm
theorem key_rr (a b : Str) : decide ((Sum.inr a : Key) = Sum.inr b) = decide (a = b) := by
  by_cases e : a = b
  · subst e; simp
  · have h : ¬ (Sum.inr a : Key) = Sum.inr b := fun q => e (Sum.inr.inj q)
    rw [decide_eq_false h, decide_eq_false e]
theorem key_lr (a : Int) (b : Str) : decide ((Sum.inl a : Key) = Sum.inr b) = false := decide_eq_false (fun q => nomatch q)
theorem key_rl (a : Str) (b : Int) : decide ((Sum.inr a : Key) = Sum.inl b) = false := decide_eq_false (fun q => nomatch q)

noncomputable def mixKind (prog : Program) (w : World) : PySem.KeyKind prog w Key where
  is := keyIs
  hash := keyH w
  inj := fun v a b ha hb => by
    rcases keyIs_shape ha with ⟨i, t, rfl, rfl⟩ | ⟨x, t, rfl, rfl⟩
    · rcases keyIs_shape hb with ⟨j, u, rfl, e⟩ | ⟨y, u, rfl, e⟩
      · injection e with e1 _; rw [e1]
      · exact nomatch e
    · rcases keyIs_shape hb with ⟨j, u, rfl, e⟩ | ⟨y, u, rfl, e⟩
      · exact nomatch e
      · injection e with e1 _; rw [e1]
  byValue := fun k v h => by
    rcases keyIs_shape h with ⟨i, t, rfl, rfl⟩ | ⟨x, t, rfl, rfl⟩ <;> rfl
  pyHash := fun hv h => by
    rcases keyIs_shape hv with ⟨i, t, rfl, rfl⟩ | ⟨x, t, rfl, rfl⟩
    · exact wpAny_pyHash_int h
    · exact wpAny_pyHash_str h
  eqBool := fun hu hv h => by
    rcases keyIs_shape hu with ⟨i, t, rfl, rfl⟩ | ⟨x, t, rfl, rfl⟩
    · rcases keyIs_shape hv with ⟨j, u, rfl, rfl⟩ | ⟨y, u, rfl, rfl⟩
      · rw [key_ll] at h; exact wpAny_eqBool_int h
      · rw [key_lr] at h; exact SeqAt.EqAt.int_str i t y u _ _ _ _ h
    · rcases keyIs_shape hv with ⟨j, u, rfl, rfl⟩ | ⟨y, u, rfl, rfl⟩
      · rw [key_rl] at h; exact SeqAt.EqAt.str_int x t j u _ _ _ _ h
      · rw [key_rr] at h; exact wpAny_eqBool_str h
  «strs» := fun k x t v h => by
    rcases keyIs_shape h with ⟨i, u, rfl, e⟩ | ⟨y, u, rfl, e⟩
    · exact nomatch e
    · injection e with e1 _
      subst e1
      cases v <;> rfl

theorem mixKind_str (prog : Program) (w : World) (x : Str) (t : Tok) : (mixKind prog w).is (.inr x) (.str x t) = true := keyIs_str x t
end L2

namespace L2
open PySem PySem.Spec PyProof.Rows

inductive V where
  | non | bl (b : Bool) | int (i : Int) | str (x : Str) | byt (b : Array UInt8) | flt (b : UInt64) | ref (a : Addr) | ty (n : String)
  deriving DecidableEq

noncomputable def RelV : V → Value → Prop
  | .non, u => u = Value.none
  | .bl b, u => u = Value.bool b
  | .int i, u => ∃ t, u = Value.int i t
  | .str x, u => ∃ t, u = Value.str x t
  | .byt b, u => ∃ t, u = Value.bytes b t
  | .flt b, u => ∃ t, u = Value.float b t
  | .ref a, u => u = Value.ref a
  | .ty n, u => u = Value.type n

noncomputable abbrev Vals : List V → List Value → Prop := Paired RelV
theorem Vals.length {xs : List V} {us : List Value} (r : Vals xs us) : xs.length = us.length := Paired.length r
theorem Vals.get : ∀ {xs : List V} {us : List Value} {i : Nat} {x : V}, Vals xs us → xs[i]? = some x → ∃ u, us[i]? = some u ∧ RelV x u
  | _, _, _, _, .nil, e => by simp at e
  | _, _, 0, _, .cons r _, e => by simp at e; subst e; exact ⟨_, rfl, r⟩
  | _, _, i + 1, x, .cons _ t, e => by
    obtain ⟨u, h1, h2⟩ := Vals.get (i := i) (x := x) t (by simpa using e)
    exact ⟨u, by simpa using h1, h2⟩
theorem Vals.set {x : V} {u : Value} (r : RelV x u) : ∀ {xs : List V} {us : List Value} (i : Nat), Vals xs us → Vals (xs.set i x) (us.set i u)
  | _, _, _, .nil => .nil
  | _, _, 0, .cons _ t => .cons r t
  | _, _, i + 1, .cons q t => .cons q (Vals.set r i t)
theorem Vals.append : ∀ {xs ys : List V} {us ws : List Value}, Vals xs us → Vals ys ws → Vals (xs ++ ys) (us ++ ws)
  | _, _, _, _, .nil, s => s
  | _, _, _, _, .cons r t, s => .cons r (Vals.append t s)
theorem Vals.take : ∀ {xs : List V} {us : List Value} (n : Nat), Vals xs us → Vals (xs.take n) (us.take n)
  | _, _, 0, _ => .nil
  | _, _, _ + 1, .nil => .nil
  | _, _, n + 1, .cons r t => .cons r (Vals.take n t)
theorem Vals.drop : ∀ {xs : List V} {us : List Value} (n : Nat), Vals xs us → Vals (xs.drop n) (us.drop n)
  | _, _, 0, r => r
  | _, _, _ + 1, .nil => .nil
  | _, _, n + 1, .cons _ t => Vals.drop n t
noncomputable def RelO : Option V → Option Value → Prop
  | some v, some u => RelV v u
  | none, none => True
  | _, _ => False
noncomputable def KV {κ : Type} : List (κ × V) → List (κ × Value) → Prop := Paired fun (p : κ × V) (q : κ × Value) => p.1 = q.1 ∧ RelV p.2 q.2

noncomputable def kV : Key → V
  | .inl i => .int i
  | .inr x => .str x

inductive HO where
    | lst (xs : List V)
    | tup (xs : List V)
    | dK (kvs : List (Key × V)) | dT (kvs : List (List Key × V))
    | set (S : Int → Bool) (n : Nat)
    | ins (C dx : Addr) (fs : List (Str × V))
    | own (x : Addr)
    | xd (fs : List (Str × V))
    | met (f x : Addr)
    | rng (lo hi : Int)
    | frz (o : Obj) (u : HO)
    | tbl (ps : Array Value)
    | ext (φ : Heap → Prop)

noncomputable abbrev Hp := Addr → Option HO
noncomputable def upd (H : Hp) (a : Addr) (o : HO) : Hp := fun b => if b = a then some o else H b
theorem upd_same {H : Hp} {a : Addr} {o : HO} : upd H a o a = some o := by unfold upd; rw [if_pos rfl]
theorem upd_ne {H : Hp} {a b : Addr} {o : HO} (h : b ≠ a) : upd H a o b = H b := by unfold upd; rw [if_neg h]
theorem ne_of {H : Hp} {a b : Addr} {o u : HO} (h : H a = some o) (h' : H b = some u) (d : o ≠ u) : a ≠ b := by
  intro e; subst e; rw [h] at h'; exact d (Option.some.inj h')
theorem ne_of_none {H : Hp} {a b : Addr} {o : HO} (h : H a = some o) (h' : H b = none) : a ≠ b := by
  intro e; subst e; rw [h] at h'; cases h'

section
variable (P : Program) (w : World)
noncomputable def ObjOk (H : Hp) (h : Heap) (a : Addr) : HO → Prop
  | .lst xs => xs.length ≤ sizeLine ∧ ∃ (its : List Value) (n : Nat), Vals xs its ∧ h.get? a = some { cls := .type "list", data := .seq its.toArray n }
  | .tup xs => xs.length ≤ sizeLine ∧ ∃ its : List Value, Vals xs its ∧ IsTup h a its.toArray
  | .dK kvs => kvs.length ≤ sizeLine ∧ (a == sysModules) = false ∧ ∃ vs, KV kvs vs ∧ h.DictOf (mixKind P w) a vs
  | .dT kvs => kvs.length ≤ sizeLine ∧ (a == sysModules) = false ∧ ∃ xs : List (List Key × Addr × Value),
      Paired (fun (p : List Key × V) (q : List Key × Addr × Value) => p.1 = q.1 ∧ H q.2.1 = some (.tup (p.1.map kV)) ∧ RelV p.2 q.2.2) kvs xs ∧
      ∃ o es ep, h.get? a = some o ∧ o.ExactDict ∧ o.data = .dict es ep ∧ es.toList = xs.map (entryOfKey (tupleKind (mixKind P w))) ∧ (xs.map (·.1)).Nodup
  | .set S n => h.SetOf (intKind P w) a S n
  | .ins C dx fs => H dx = some (.own a) ∧ fs.length ≤ 1000 ∧ dx ≠ a ∧ h.get? a = some (PySem.W.instObj C dx) ∧
      ∃ mA, h.Ns1 dx mA ∧ (∀ f, RelO (fs.lookup f) (mA f)) ∧ PySem.Within mA (fs.map (·.1))
  | .own _ => ∃ o, h.get? a = some o
  | .xd fs => ∃ mA, h.Ns1 a mA ∧ ∀ f, RelO (fs.lookup f) (mA f)
  | .rng lo hi => ∃ t u v, h.get? a = some { cls := .type "range", data := .fields #[.int lo t, .int hi u, .int 1 v] }
  | .frz o u => h.get? a = some o ∧ ObjOk H h a u
  | .tbl ps => h.get? a = some { cls := .none, data := .fields ps }
  | .met f x => h.get? a = some (PySem.W.methodObj (.ref f) (.ref x))
  | .ext φ => φ h ∧ (∃ o, h.get? a = some o) ∧ ∀ h1 h2 : Heap, φ h1 → (∀ o, h1.get? a = some o → h2.get? a = some o) → φ h2
noncomputable def HOk (H : Hp) (h : Heap) : Prop := ∀ a o, H a = some o → ObjOk P w H h a o
end

section
variable {P : Program} {w : World} {H H' : Hp} {h h' : Heap} {a : Addr} {o : HO}
theorem ObjOk.lt (x : ObjOk P w H h a o) : a < h.objs.size := by
  cases o with
  | lst xs => obtain ⟨_, _, _, _, e⟩ := x; exact Heap.lt_size e
  | tup xs => obtain ⟨_, _, _, p⟩ := x; exact p.lt
  | dK kvs => obtain ⟨_, _, _, _, o, _, _, e, _⟩ := x; exact Heap.lt_size e
  | dT kvs => obtain ⟨_, _, _, _, o, _, _, e, _⟩ := x; exact Heap.lt_size e
  | set S n => obtain ⟨o, _, _, _, e, _⟩ := x; exact Heap.lt_size e
  | ins C dx fs => obtain ⟨_, _, _, e, _⟩ := x; exact Heap.lt_size e
  | own y => obtain ⟨_, e⟩ := x; exact Heap.lt_size e
  | xd fs => obtain ⟨_, ⟨_, _, _, e, _⟩, _⟩ := x; exact Heap.lt_size e
  | rng lo hi => obtain ⟨_, _, _, e⟩ := x; exact Heap.lt_size e
  | frz ob u => obtain ⟨e, _⟩ := x; exact Heap.lt_size e
  | tbl ps => exact Heap.lt_size (show h.get? a = some _ from x)
  | met f y => exact Heap.lt_size (show h.get? a = some _ from x)
  | ext φ => obtain ⟨_, ⟨_, e⟩, _⟩ := x; exact Heap.lt_size e
theorem Paired.mapP {α β : Type} {F G : α → β → Prop} : ∀ {l₁ : List α} {l₂ : List β}, Paired F l₁ l₂ → (∀ a b, F a b → G a b) → Paired G l₁ l₂
  | _, _, .nil, _ => .nil
  | _, _, .cons r t, f => .cons (f _ _ r) (Paired.mapP t f)
theorem ObjOk.stay (x : ObjOk P w H h a o) (k : ∀ b u, (b = a ∨ H b = some (.own a)) → h.get? b = some u → h'.get? b = some u)
    (ho : ∀ b, H b = some (.own a) → H' b = some (.own a)) (ht : ∀ b xs, H b = some (.tup xs) → H' b = some (.tup xs)) : ObjOk P w H' h' a o := by
  induction o with
  | lst xs => obtain ⟨z, its, n, r, e⟩ := x; exact ⟨z, its, n, r, k _ _ (.inl rfl) e⟩
  | tup xs => obtain ⟨z, its, r, ob, e, c⟩ := x; exact ⟨z, its, r, ob, k _ _ (.inl rfl) e, c⟩
  | dK kvs => obtain ⟨z, y, vs, r, ob, es, ep, e, c⟩ := x; exact ⟨z, y, vs, r, ob, es, ep, k _ _ (.inl rfl) e, c⟩
  | dT kvs =>
    obtain ⟨z, y, xs, r, ob, es, ep, e, c⟩ := x
    exact ⟨z, y, xs, Paired.mapP r fun p q z => ⟨z.1, ht _ _ z.2.1, z.2.2⟩, ob, es, ep, k _ _ (.inl rfl) e, c⟩
  | set S n => obtain ⟨ob, es, ep, t, e, c⟩ := x; exact ⟨ob, es, ep, t, k _ _ (.inl rfl) e, c⟩
  | ins C dx fs =>
    obtain ⟨d, z, ne, e, mA, ⟨od, es, ep, e2, c⟩, r⟩ := x
    exact ⟨ho _ d, z, ne, k _ _ (.inl rfl) e, mA, ⟨od, es, ep, k _ _ (.inr d) e2, c⟩, r⟩
  | own y => obtain ⟨ob, e⟩ := x; exact ⟨ob, k _ _ (.inl rfl) e⟩
  | xd fs => obtain ⟨mA, ⟨od, es, ep, e, c⟩, r⟩ := x; exact ⟨mA, ⟨od, es, ep, k _ _ (.inl rfl) e, c⟩, r⟩
  | rng lo hi => obtain ⟨t, u, v, e⟩ := x; exact ⟨t, u, v, k _ _ (.inl rfl) e⟩
  | frz ob u ih => obtain ⟨e, q⟩ := x; exact ⟨k _ _ (.inl rfl) e, ih q⟩
  | tbl ps =>
    have e : h.get? a = some { cls := .none, data := .fields ps } := x
    show h'.get? a = some { cls := .none, data := .fields ps }
    exact k a _ (.inl rfl) e
  | met f y =>
    have e : h.get? a = some (PySem.W.methodObj (.ref f) (.ref y)) := x
    show h'.get? a = some (PySem.W.methodObj (.ref f) (.ref y))
    exact k a _ (.inl rfl) e
  | ext φ => obtain ⟨p, ⟨o, e⟩, st⟩ := x; exact ⟨st _ _ p fun o q => k _ _ (.inl rfl) q, ⟨o, k _ _ (.inl rfl) e⟩, st⟩
theorem HOk.lt (x : HOk P w H h) (e : H a = some o) : a < h.objs.size := (x a o e).lt
theorem HOk.fresh (x : HOk P w H h) (e : h.objs.size ≤ a) : H a = none := by
  cases q : H a with
  | none => rfl
  | some u => exact absurd (Nat.lt_of_lt_of_le (x.lt q) e) (Nat.lt_irrefl _)
theorem HOk.kept (x : HOk P w H h) (k : ∀ b u, h.get? b = some u → h'.get? b = some u) : HOk P w H h' := fun a o e =>
  (x a o e).stay (fun b u _ q => k b u q) (fun _ q => q) fun _ _ q => q
theorem HOk.laid (x : HOk P w H h) (k : ∀ b u, h.get? b = some u → h'.get? b = some u) (hp : h.objs.size ≤ a) (new : ObjOk P w (upd H a o) h' a o) : HOk P w (upd H a o) h' := fun b u e => by
  have hn := x.fresh hp
  by_cases hb : b = a
  · subst hb; rw [upd_same] at e; cases e; exact new
  · rw [upd_ne hb] at e
    exact (x b u e).stay (fun c v _ q => k c v q) (fun c q => by rw [upd_ne (ne_of_none q hn)]; exact q) fun c xs q => by rw [upd_ne (ne_of_none q hn)]; exact q
end

noncomputable def Rd (H : Hp) (a : Addr) (u : HO) : Prop := H a = some u ∨ ∃ o, H a = some (.frz o u)
theorem Rd.of {H : Hp} {a : Addr} {u : HO} (h : H a = some u) : Rd H a u := .inl h
theorem Rd.ok {P : Program} {w : World} {H : Hp} {h : Heap} {a : Addr} {u : HO} (r : Rd H a u) (x : HOk P w H h) : ObjOk P w H h a u := by
  rcases r with r | ⟨o, r⟩
  · exact x a u r
  · obtain ⟨_, q⟩ := x a _ r
    exact q
noncomputable def Mut : Option HO → Prop
  | some (.lst _) => True
  | some (.dK _) => True
  | some (.dT _) => True
  | some (.set _ _) => True
  | some (.ins _ _ _) => True
  | some (.ext _) => True
  | _ => False
section
variable {P : Program} {w : World} {H : Hp} {h h' : Heap} {x e : Addr} {o' : HO}
theorem HOk.write (ok : HOk P w H h) (mu : Mut (H x)) (he : e = x ∨ H e = some (.own x)) (k : ∀ b u, b ≠ e → h.get? b = some u → h'.get? b = some u) (heo : ∃ u, h'.get? e = some u)
    (new : ObjOk P w (upd H x o') h' x o') : HOk P w (upd H x o') h' := fun b u q => by
  have nown : ∀ c y, H c = some (.own y) → c ≠ x := fun c y r z => by subst z; rw [r] at mu; exact mu
  have ntup : ∀ c xs, H c = some (.tup xs) → c ≠ x := fun c xs r z => by subst z; rw [r] at mu; exact mu
  by_cases hb : b = x
  · subst hb; rw [upd_same] at q; cases q; exact new
  · rw [upd_ne hb] at q
    by_cases hbe : b = e
    · have q' : H b = some (.own x) := by
        rcases he with z | z
        · exact absurd (hbe.trans z) hb
        · rw [hbe]; exact z
      rw [q] at q'; cases q'
      obtain ⟨v, hv⟩ := heo
      exact ⟨v, by rw [hbe]; exact hv⟩
    · refine (ok b u q).stay (fun c v hc r => k c v ?_ r) (fun c r => by rw [upd_ne (nown c b r)]; exact r) fun c xs r => by rw [upd_ne (ntup c xs r)]; exact r
      rcases hc with rfl | hc
      · exact hbe
      · rintro rfl
        rcases he with z | z
        · exact nown c b hc z
        · rw [hc] at z; cases z; exact hb rfl
end

structure Un (fs ex : List Addr) (H H' : Hp) (h h' : Heap) : Prop where
  keep : ∀ b o, h.get? b = some o → H b = none → b ∉ fs → b ∉ ex → h'.get? b = some o
  slot : ∀ b o, h.get? b = some o → H b = none → b ∈ fs → b ∉ ex → ∃ sl, h'.get? b = some { o with slots := sl }
  free : ∀ b o, h.get? b = some o → H b = none → b ∉ ex → H' b = none
  there : ∀ b o, h.get? b = some o → b ∉ ex → ∃ o', h'.get? b = some o'
  tups : ∀ b xs, H b = some (.tup xs) → H' b = some (.tup xs)
  frzs : ∀ b o u, H b = some (.frz o u) → H' b = some (.frz o u)
  tbls : ∀ b ps, H b = some (.tbl ps) → ∃ more, H' b = some (.tbl (ps ++ more))
section
variable {fs fs' ex ex' : List Addr} {H H1 H2 : Hp} {h h1 h2 h' : Heap} {a x e : Addr} {o : HO}
theorem Un.any (u : Un fs ex H H1 h h1) {b : Addr} {ob : Obj} (q : h.get? b = some ob) (n : H b = none) (hx : b ∉ ex) : ∃ sl, h1.get? b = some { ob with slots := sl } := by
  by_cases hb : b ∈ fs
  · exact u.slot b ob q n hb hx
  · exact ⟨ob.slots, u.keep b ob q n hb hx⟩
theorem Un.trans (a : Un fs ex H H1 h h1) (b : Un fs ex H1 H2 h1 h2) : Un fs ex H H2 h h2 where
  keep := fun c ob q n hc hx => b.keep c ob (a.keep c ob q n hc hx) (a.free c ob q n hx) hc hx
  slot := fun c ob q n hc hx => by
    obtain ⟨sl, e1⟩ := a.slot c ob q n hc hx
    obtain ⟨sl', e2⟩ := b.slot c _ e1 (a.free c ob q n hx) hc hx
    exact ⟨sl', e2⟩
  free := fun c ob q n hx => by
    obtain ⟨o', e1⟩ := a.there c ob q hx
    exact b.free c o' e1 (a.free c ob q n hx) hx
  there := fun c ob q hx => by
    obtain ⟨o', e1⟩ := a.there c ob q hx
    exact b.there c o' e1 hx
  tups := fun c xs q => b.tups c xs (a.tups c xs q)
  frzs := fun c ob xs q => b.frzs c ob xs (a.frzs c ob xs q)
  tbls := fun c ps q => by
    obtain ⟨m1, e1⟩ := a.tbls c ps q
    obtain ⟨m2, e2⟩ := b.tbls c _ e1
    exact ⟨m1 ++ m2, by rw [e2, Array.append_assoc]⟩
theorem Un.kept (k : ∀ b u, h.get? b = some u → h'.get? b = some u) : Un fs ex H H h h' :=
  ⟨fun b ob q _ _ _ => k b ob q, fun b ob q _ _ _ => ⟨ob.slots, k b ob q⟩, fun _ _ _ n _ => n, fun b ob q _ => ⟨ob, k b ob q⟩, fun _ _ q => q, fun _ _ _ q => q, fun _ ps q => ⟨#[], by rw [q]; simp⟩⟩
theorem Un.refl : Un fs ex H H h h := Un.kept fun _ _ q => q
theorem Un.laid (k : ∀ b u, h.get? b = some u → h'.get? b = some u) (hp : h.objs.size ≤ a) (hn : H a = none) : Un fs ex H (upd H a o) h h' where
  keep := fun b u q _ _ _ => k b u q
  slot := fun b u q _ _ _ => ⟨u.slots, k b u q⟩
  free := fun b u q n _ => by rw [upd_ne (Nat.ne_of_lt (Nat.lt_of_lt_of_le (Heap.lt_size q) hp))]; exact n
  there := fun b u q _ => ⟨u, k b u q⟩
  tups := fun b xs q => by rw [upd_ne (ne_of_none q hn)]; exact q
  frzs := fun b u xs q => by rw [upd_ne (ne_of_none q hn)]; exact q
  tbls := fun b ps q => ⟨#[], by rw [upd_ne (ne_of_none q hn), q]; simp⟩
theorem Un.write (mu : Mut (H x)) (he : e = x ∨ H e = some (.own x)) (k : ∀ b u, b ≠ e → h.get? b = some u → h'.get? b = some u) (heo : ∃ u, h'.get? e = some u) : Un fs ex H (upd H x o) h h' := by
  have hx : ∀ b, H b = none → b ≠ x := fun b n z => by subst z; rw [n] at mu; exact mu
  have hb : ∀ b, H b = none → b ≠ e := fun b n z => by
    subst z
    rcases he with r | r
    · exact hx b n r
    · rw [n] at r; cases r
  have hm : ∀ b u, H b = some u → ¬ Mut (some u) → b ≠ x := fun b u q nm z => by subst z; rw [q] at mu; exact nm mu
  refine ⟨fun b u q n _ _ => k b u (hb b n) q, fun b u q n _ _ => ⟨u.slots, k b u (hb b n) q⟩, fun b u q n _ => by rw [upd_ne (hx b n)]; exact n, fun b u q _ => ?_,
    fun b xs q => by rw [upd_ne (hm b _ q fun z => z)]; exact q, fun b u xs q => by rw [upd_ne (hm b _ q fun z => z)]; exact q, fun b ps q => ⟨#[], by rw [upd_ne (hm b _ q fun z => z), q]; simp⟩⟩
  by_cases hbe : b = e
  · subst hbe; exact heo
  · exact ⟨u, k b u hbe q⟩
theorem Un.mono (u : Un fs ex H H1 h h1) (hs : ∀ b ∈ fs, b ∈ fs') (hx : ∀ b ∈ ex, b ∈ ex') : Un fs' ex' H H1 h h1 :=
  ⟨fun b ob q n hb he => u.keep b ob q n (fun z => hb (hs b z)) fun z => he (hx b z), fun _ _ q n _ he => u.any q n fun z => he (hx _ z), fun b ob q n he => u.free b ob q n fun z => he (hx b z), fun b ob q he => u.there b ob q fun z => he (hx b z), u.tups, u.frzs, u.tbls⟩
end

noncomputable def trk (h : Heap) (H : Hp) : List Addr := (List.range h.objs.size).filter fun a => (H a).isSome
noncomputable def hidT (h : Heap) (H : Hp) : Heap := PySem.W.hideAll h (trk h H)
theorem hidT_size (h : Heap) (H : Hp) : (hidT h H).objs.size = h.objs.size := PySem.W.hideAll_size _ _
theorem hidT_get {h : Heap} {H : Hp} {b : Addr} {o : Obj} (e : h.get? b = some o) (n : H b = none) : (hidT h H).get? b = some o :=
  PySem.W.hideAll_get _ e fun hm => by
    have q : (H b).isSome = true := (List.mem_filter.mp hm).2
    rw [n] at q; simp at q
theorem of_hidT {h : Heap} {H : Hp} {b : Addr} {o : Obj} (e : (hidT h H).get? b = some o) : h.get? b = some o ∧ H b = none := by
  have e' : h.get? b = some o := PySem.W.of_hideAll (trk h H) e
  refine ⟨e', ?_⟩
  cases q : H b with
  | none => rfl
  | some x =>
    have hm : b ∈ trk h H := List.mem_filter.mpr ⟨List.mem_range.mpr (Heap.lt_size e'), by simp [q]⟩
    have z : (hidT h H).get? b = none := PySem.W.hideAll_none (trk h H) hm
    rw [z] at e; cases e

noncomputable def allNews (g h : Heap) (L : Addr) : List (Addr × Obj) := (List.range h.objs.size).filterMap fun a => if a = L ∨ (g.get? a).isSome = true then none else (h.get? a).map fun o => (a, o)
noncomputable def rest (g h : Heap) (L d : Addr) : List (Addr × Obj) := (allNews g h L).filter fun p => decide (p.1 ≠ d)
end L2

namespace L2
open PySem PySem.Spec PyProof.Rows

structure Mod (K : PySem.W.Frag) (mg : Str → Option Value) (base : Heap) : Prop where
  kin : K.In base
  glob : base.Ns mainGlobals mg
  blt : ∃ mb, base.Ns builtinsNs mb ∧ ∀ x : Str, x ≠ "__name__" → mb x = bootBuiltins x
  nolimit : base.NoLimit

structure Cx where
  prog : Program
  w : World
  K : PySem.W.Frag
  mg : Str → Option Value
  base : Heap
  A : Around
  N : List Str
  s₀ : Shared
  H₀ : Hp
  env : Env
  outer : List Env
  stack : List Env
  ex : List Addr
  fn : Str → Bool
  calm : Bool
  pn : List (Addr × Obj)
  xe : Value → Shared → Prop
noncomputable def frs (l : List Env) : List Addr := l.filterMap (·.frame)
noncomputable abbrev Cx.fs (X : Cx) : List Addr := frs X.outer

noncomputable def Vis (sc : Scope) (x : Str) : Prop := sc.names.lookup x = some .local ∨ sc.names.lookup x = some .cell ∨ sc.names.lookup x = some .free
noncomputable def Loc (sc : Scope) (x : Str) : Prop := sc.names.lookup x = some .local ∨ sc.names.lookup x = some .cell
noncomputable def Look (env : Env) (h : Heap) (m : Str → Option Value) (x : Str) (u : Value) : Prop :=
  (env.kindOf x = some .local ∧ m x = some u) ∨ ((env.kindOf x = some .cell ∨ env.kindOf x = some .free) ∧ ∃ c, env.cells.lookup x = some c ∧ h.IsCell c (some u))

structure Cx.Ok (X : Cx) : Prop where
  mod : Mod X.K X.mg X.base
  kind : X.env.scope.kind = .function
  glob : X.env.globals = mainGlobals
  blt : X.env.builtins = builtinsNs
  above : X.s₀.heap.objs.size ≤ X.env.locals
  inj : ∀ x y c, X.env.cells.lookup x = some c → X.env.cells.lookup y = some c → x = y
  has : ∀ x, (X.env.kindOf x = some .cell ∨ X.env.kindOf x = some .free) → ∃ c, X.env.cells.lookup x = some c
  cab : ∀ x c, X.fn x = true → X.env.cells.lookup x = some c → X.s₀.heap.objs.size ≤ c
  hd : X.calm = true → X.A.handled = none
  frames : X.A.frames = some X.stack
  stk : X.stack = X.outer ∨ (X.stack = X.env :: X.outer ∧ X.env.frame = some X.env.locals)
  exf : ∀ b ∈ X.ex, b ≠ X.env.locals ∧ ∀ x c, X.env.cells.lookup x = some c → c ≠ b
  bs : ∀ b o, X.base.get? b = some o → X.s₀.heap.get? b = some o ∧ X.H₀ b = none
  bsz : X.base.objs.size ≤ X.s₀.heap.objs.size
  noex : ∀ b o, X.base.get? b = some o → b ∉ X.ex
  exfs : ∀ b ∈ X.ex, b ∉ X.fs
  funs : X.s₀.heap.FunFrames X.base X.outer
  frf : ∀ b ∈ X.fs, X.H₀ b = none

structure Inv (X : Cx) (pins : List (Addr × Obj)) (σ : List (Option V)) (H : Hp) (s : Shared) : Prop where
  ok : X.Ok
  os : s.os = X.s₀.os
  bare : AllBare s.gens
  base : Un X.fs X.ex X.H₀ H X.s₀.heap s.heap
  loc : ∃ m, s.heap.Ns X.env.locals m ∧ ∀ (i : Nat) (x : Str) (v : V), X.N[i]? = some x → σ[i]? = some (some v) → Vis X.env.scope x → ∃ u, RelV v u ∧ Look X.env s.heap m x u
  cell : ∀ x c, X.env.cells.lookup x = some c → ∃ v, s.heap.IsCell c v
  free : H X.env.locals = none
  freeC : ∀ x c, X.env.cells.lookup x = some c → H c = none
  pin : ∀ p ∈ X.pn ++ pins, s.heap.get? p.1 = some p.2 ∧ H p.1 = none ∧ p.1 ≠ X.env.locals ∧ p.1 ∉ X.fs ∧ ∀ v, p.2.data ≠ .cell v
  hok : HOk X.prog X.w H s.heap
  len : σ.length = X.N.length

section
variable {X : Cx} {pins : List (Addr × Obj)} {σ : List (Option V)} {H H' : Hp} {s : Shared} {h' : Heap}

theorem Cx.Ok.nofr (ok : X.Ok) {b : Addr} {o : Obj} (e : X.base.get? b = some o) : b ∉ X.fs := fun hb => by
  have := (ok.funs.mem hb).1
  rw [e] at this; cases this
theorem Inv.bs (I : Inv X pins σ H s) : ∀ b o, X.base.get? b = some o → s.heap.get? b = some o ∧ H b = none := fun b o e =>
  ⟨I.base.keep b o (I.ok.bs b o e).1 (I.ok.bs b o e).2 (I.ok.nofr e) (I.ok.noex b o e), I.base.free b o (I.ok.bs b o e).1 (I.ok.bs b o e).2 (I.ok.noex b o e)⟩
theorem Inv.bk (I : Inv X pins σ H s) : ∀ b o, X.base.get? b = some o → s.heap.get? b = some o := fun b o e => (I.bs b o e).1
theorem Inv.mod (I : Inv X pins σ H s) : Mod X.K X.mg X.base := I.ok.mod
theorem Inv.kIn (I : Inv X pins σ H s) : X.K.In s.heap := I.ok.mod.kin.keeps I.bk
theorem Inv.nolimit (I : Inv X pins σ H s) : s.heap.NoLimit := I.ok.mod.nolimit.keeps I.bk
theorem Inv.fr (I : Inv X pins σ H s) : ∃ m, Fr X.base X.env.locals s.heap m :=
  let ⟨m, hn, _⟩ := I.loc
  ⟨m, hn, I.bk, Nat.le_trans I.ok.bsz I.ok.above⟩
theorem Inv.lt (I : Inv X pins σ H s) : X.env.locals < s.heap.objs.size := let ⟨_, hn, _⟩ := I.loc; hn.lt
theorem Inv.sz (I : Inv X pins σ H s) : X.s₀.heap.objs.size ≤ s.heap.objs.size := Nat.le_trans I.ok.above (Nat.le_of_lt I.lt)
theorem Inv.nofs (I : Inv X pins σ H s) {a : Addr} (h : s.heap.objs.size ≤ a) : a ∉ X.fs := fun hb => by
  obtain ⟨_, o, ho, _⟩ := I.ok.funs.mem hb
  exact absurd (Nat.lt_of_lt_of_le (Heap.lt_size ho) (Nat.le_trans I.sz h)) (Nat.lt_irrefl _)
theorem Inv.cne (I : Inv X pins σ H s) : ∀ x c, X.env.cells.lookup x = some c → c ≠ X.env.locals := fun x c e z => by
  obtain ⟨v, o, ho, hd⟩ := I.cell x c e
  obtain ⟨m, ⟨o', es, ep, ho', hd', _⟩, _⟩ := I.loc
  rw [z, ho'] at ho; cases ho; rw [hd'] at hd; cases hd
theorem Inv.funs (I : Inv X pins σ H s) : s.heap.FunFrames X.base X.outer := by
  have all : ∀ (l : List Env), (∀ b ∈ frs l, b ∈ X.fs) → X.s₀.heap.FunFrames X.base l → s.heap.FunFrames X.base l := by
    intro l
    induction l with
    | nil => intro _ _; trivial
    | cons env r ih =>
      intro hs hl
      obtain ⟨hk, ⟨L, o, hf, hn, ho, hd⟩, hr⟩ := hl
      have hL : L ∈ X.fs := hs L (by unfold frs; rw [List.filterMap_cons, hf]; exact List.mem_cons_self)
      obtain ⟨sl, e⟩ := I.base.slot L o ho (I.ok.frf L hL) hL fun z => I.ok.exfs L z hL
      exact ⟨hk, ⟨L, _, hf, hn, e, hd⟩, ih (fun b hb => hs b (by unfold frs; rw [List.filterMap_cons, hf]; exact List.mem_cons_of_mem _ hb)) hr⟩
  exact all X.outer (fun _ hb => hb) I.ok.funs

theorem Inv.stack (I : Inv X pins σ H s) : s.heap.FunFrames X.base X.stack := by
  rcases I.ok.stk with e | ⟨e, hf⟩
  · rw [e]; exact I.funs
  · rw [e]
    obtain ⟨m, hn, _⟩ := I.loc
    refine .cons (by rw [I.ok.kind]; decide) hf hn ?_ I.funs
    exact Heap.get?_none_of_le (Nat.le_trans I.ok.bsz I.ok.above)
theorem Inv.stkSub (I : Inv X pins σ H s) : ∀ b ∈ frs X.stack, b ∈ X.env.locals :: X.fs := fun b hb => by
  rcases I.ok.stk with e | ⟨e, hf⟩
  · rw [e] at hb; exact List.mem_cons_of_mem _ hb
  · rw [e] at hb
    unfold frs at hb
    rw [List.filterMap_cons, hf] at hb
    exact hb
theorem Inv.stkFree (I : Inv X pins σ H s) : ∀ b ∈ frs X.stack, H b = none := fun b hb => by
  rcases List.mem_cons.mp (I.stkSub b hb) with e | hb
  · rw [e]; exact I.free
  · obtain ⟨_, o, ho, _⟩ := I.ok.funs.mem hb
    exact I.base.free b o ho (I.ok.frf b hb) fun z => I.ok.exfs b z hb

theorem Inv.step {g' : Array GenState} {t' : Nat} {d' : Drawn} {ch : List Addr} (I : Inv X pins σ H s)
    (hch : ∀ b ∈ ch, (b ∈ X.ex ∨ X.s₀.heap.objs.size ≤ b) ∧ b ≠ X.env.locals ∧ (∀ x c, X.env.cells.lookup x = some c → c ≠ b) ∧ ∀ p ∈ X.pn ++ pins, p.1 ≠ b)
    (keep : ∀ b o, b ≠ X.env.locals → b ∉ X.fs → b ∉ ch → s.heap.get? b = some o → H b = none → h'.get? b = some o)
    (slot : ∀ b o, b ≠ X.env.locals → b ∈ X.fs → b ∉ ch → s.heap.get? b = some o → H b = none → ∃ sl, h'.get? b = some { o with slots := sl }) (free : ∀ b o, b ∉ ch → s.heap.get? b = some o → H b = none → H' b = none)
    (there : ∀ b o, b ∉ ch → s.heap.get? b = some o → ∃ o', h'.get? b = some o')
    (tups : ∀ b xs, H b = some (.tup xs) → H' b = some (.tup xs)) (frzs : ∀ b o u, H b = some (.frz o u) → H' b = some (.frz o u)) (tbls : ∀ b ps, H b = some (.tbl ps) → ∃ more, H' b = some (.tbl (ps ++ more)))
    (ns : ∀ m, s.heap.Ns X.env.locals m → h'.Ns X.env.locals m) (hok : HOk X.prog X.w H' h') (hg : AllBare g') :
    Inv X pins σ H' { s with heap := h', gens := g', drawn := d', toks := t' } := by
  have neL : ∀ b o, X.s₀.heap.get? b = some o → b ≠ X.env.locals := fun b o e => Nat.ne_of_lt (Nat.lt_of_lt_of_le (Heap.lt_size e) I.ok.above)
  have neC : ∀ b o, X.s₀.heap.get? b = some o → b ∉ X.ex → b ∉ ch := fun b o e hx hb => by
    rcases (hch b hb).1 with z | z
    · exact hx z
    · exact absurd (Nat.lt_of_lt_of_le (Heap.lt_size e) z) (Nat.lt_irrefl _)
  have cellK : ∀ x c, X.env.cells.lookup x = some c → ∀ v, s.heap.IsCell c v → h'.IsCell c v := fun x c e v ⟨o, ho, hd⟩ => by
    have nch : c ∉ ch := fun z => (hch c z).2.2.1 x c e rfl
    by_cases hc : c ∈ X.fs
    · obtain ⟨sl, q⟩ := slot c o (I.cne x c e) hc nch ho (I.freeC x c e)
      exact ⟨_, q, hd⟩
    · exact ⟨o, keep c o (I.cne x c e) hc nch ho (I.freeC x c e), hd⟩
  refine ⟨I.ok, I.os, hg, ⟨fun b o e n hb hx => ?_, fun b o e n hb hx => ?_, fun b o e n hx => ?_, fun b o e hx => ?_, fun b xs e => tups b xs (I.base.tups b xs e), fun b o xs e => frzs b o xs (I.base.frzs b o xs e), fun b ps e => ?_⟩, ?_, fun x c e => ?_, ?_, fun x c e => ?_, fun p hp => ?_, hok, I.len⟩
  · exact keep b o (neL b o e) hb (neC b o e hx) (I.base.keep b o e n hb hx) (I.base.free b o e n hx)
  · obtain ⟨sl, e1⟩ := I.base.slot b o e n hb hx
    obtain ⟨sl', e2⟩ := slot b _ (neL b o e) hb (neC b o e hx) e1 (I.base.free b o e n hx)
    exact ⟨sl', e2⟩
  · obtain ⟨o', e1⟩ := I.base.there b o e hx
    exact free b o' (neC b o e hx) e1 (I.base.free b o e n hx)
  · obtain ⟨o', e1⟩ := I.base.there b o e hx
    exact there b o' (neC b o e hx) e1
  · obtain ⟨m1, e1⟩ := I.base.tbls b ps e
    obtain ⟨m2, e2⟩ := tbls b _ e1
    exact ⟨m1 ++ m2, by rw [e2, Array.append_assoc]⟩
  · obtain ⟨m, hn, hl⟩ := I.loc
    refine ⟨m, ns m hn, fun i x v e1 e2 e3 => ?_⟩
    obtain ⟨u, r, l⟩ := hl i x v e1 e2 e3
    refine ⟨u, r, ?_⟩
    rcases l with l | ⟨k, c, e, z⟩
    · exact .inl l
    · exact .inr ⟨k, c, e, cellK x c e _ z⟩
  · obtain ⟨v, z⟩ := I.cell x c e
    exact ⟨v, cellK x c e v z⟩
  · obtain ⟨m, ⟨o, _, _, ho, _⟩, _⟩ := I.loc
    exact free _ o (fun z => (hch _ z).2.1 rfl) ho I.free
  · obtain ⟨v, o, ho, hd⟩ := I.cell x c e
    exact free c o (fun z => (hch c z).2.2.1 x c e rfl) ho (I.freeC x c e)
  · obtain ⟨e, n, ne, nf, d⟩ := I.pin p hp
    have nch : p.1 ∉ ch := fun z => (hch p.1 z).2.2.2 p hp rfl
    exact ⟨keep p.1 p.2 ne nf nch e n, free p.1 p.2 nch e n, ne, nf, d⟩
theorem Inv.un {t' : Nat} (I : Inv X pins σ H s) (u : Un X.fs [] H H' s.heap h') (hok : HOk X.prog X.w H' h') : Inv X pins σ H' { s with heap := h', toks := t' } := by
  obtain ⟨m, ⟨o, es, ep, ho, r⟩, _⟩ := id I.loc
  obtain ⟨sl, hL⟩ := u.any ho I.free (by simp)
  exact I.step (g' := s.gens) (d' := s.drawn) (ch := []) (fun _ z => nomatch z) (fun b o _ hb _ e n => u.keep b o e n hb (by simp)) (fun b o _ hb _ e n => u.slot b o e n hb (by simp)) (fun b o _ e n => u.free b o e n (by simp)) (fun b o _ e => u.there b o e (by simp)) u.tups u.frzs u.tbls (fun m' hm => by
    obtain ⟨o', es', ep', ho', r'⟩ := hm
    rw [ho] at ho'; cases ho'
    exact ⟨_, es', ep', hL, r'⟩) hok I.bare
theorem Inv.call {g' : Array GenState} {t' : Nat} {d' : Drawn} {ch : List Addr} (I : Inv X pins σ H s) (u : Un (frs X.stack) ch H H' s.heap h') (hok : HOk X.prog X.w H' h') (hg : AllBare g')
    (hch : ∀ b ∈ ch, (b ∈ X.ex ∨ X.s₀.heap.objs.size ≤ b) ∧ b ≠ X.env.locals ∧ (∀ x c, X.env.cells.lookup x = some c → c ≠ b) ∧ ∀ p ∈ X.pn ++ pins, p.1 ≠ b) :
    Inv X pins σ H' { s with heap := h', gens := g', drawn := d', toks := t' } := by
  obtain ⟨m, ⟨o, es, ep, ho, r⟩, _⟩ := id I.loc
  obtain ⟨sl, hL⟩ := u.any ho I.free fun z => (hch _ z).2.1 rfl
  exact I.step (ch := ch) hch (fun b o hL hb hc e n => u.keep b o e n (fun z => (List.mem_cons.mp (I.stkSub b z)).elim hL hb) hc) (fun b o _ _ hc e n => u.any e n hc) (fun b o hc e n => u.free b o e n hc) (fun b o hc e => u.there b o e hc) u.tups u.frzs u.tbls (fun m' hm => by
    obtain ⟨o', es', ep', ho', r'⟩ := hm
    rw [ho] at ho'; cases ho'
    exact ⟨_, es', ep', hL, r'⟩) hok hg
theorem Inv.turned {t' : Nat} {it : Addr} (I : Inv X pins σ H s) (k : ∀ b o, b ≠ it → s.heap.get? b = some o → h'.get? b = some o) (hn : H it = none) (hL : it ≠ X.env.locals)
    (h1 : it ∈ X.ex ∨ X.s₀.heap.objs.size ≤ it) (h2 : ∀ x c, X.env.cells.lookup x = some c → c ≠ it) (h3 : ∀ p ∈ X.pn ++ pins, p.1 ≠ it) : Inv X pins σ H { s with heap := h', toks := t' } := by
  have nit : ∀ b u, H b = some u → b ≠ it := fun b u e z => by rw [z, hn] at e; cases e
  refine I.step (g' := s.gens) (d' := s.drawn) (ch := [it]) (fun b hb => ?_) (fun b o _ _ hc e _ => k b o (fun z => hc (by simp [z])) e) (fun b o _ _ hc e _ => ⟨o.slots, k b o (fun z => hc (by simp [z])) e⟩) (fun _ _ _ _ n => n)
    (fun b o hc e => ⟨o, k b o (fun z => hc (by simp [z])) e⟩) (fun _ _ e => e) (fun _ _ _ e => e) (fun b ps e => ⟨#[], by rw [e]; simp⟩) (fun m hm => ?_) (fun b u e => ?_) I.bare
  · have e : b = it := by simpa using hb
    subst e
    exact ⟨h1, hL, h2, h3⟩
  · obtain ⟨o, es, ep, ho, r⟩ := hm
    exact ⟨o, es, ep, k _ o (Ne.symm hL) ho, r⟩
  · refine (I.hok b u e).stay (fun c v hc q => k c v ?_ q) (fun _ q => q) fun _ _ q => q
    rcases hc with z | z
    · rw [z]; exact nit b u e
    · exact nit c _ z
theorem Inv.tok (I : Inv X pins σ H s) (t : Nat) : Inv X pins σ H { s with toks := t } := I.un (h' := s.heap) (t' := t) Un.refl I.hok
theorem Inv.kept {t' : Nat} (I : Inv X pins σ H s) (k : ∀ b u, s.heap.get? b = some u → h'.get? b = some u) : Inv X pins σ H { s with heap := h', toks := t' } := I.un (Un.kept k) (I.hok.kept k)
theorem Inv.laid {a : Addr} {o : HO} {t' : Nat} (I : Inv X pins σ H s) (k : ∀ b u, s.heap.get? b = some u → h'.get? b = some u) (hp : s.heap.objs.size ≤ a) (new : ObjOk X.prog X.w (upd H a o) h' a o) :
    Inv X pins σ (upd H a o) { s with heap := h', toks := t' } := I.un (Un.laid k hp (I.hok.fresh hp)) (I.hok.laid k hp new)
theorem Inv.write {x e : Addr} {o : HO} {t' : Nat} (I : Inv X pins σ H s) (mu : Mut (H x)) (he : e = x ∨ H e = some (.own x)) (k : ∀ b u, b ≠ e → s.heap.get? b = some u → h'.get? b = some u) (heo : ∃ u, h'.get? e = some u)
    (new : ObjOk X.prog X.w (upd H x o) h' x o) : Inv X pins σ (upd H x o) { s with heap := h', toks := t' } := I.un (Un.write mu he k heo) (I.hok.write mu he k heo new)
theorem Inv.weak {σ' : List (Option V)} (I : Inv X pins σ H s) (hl : σ'.length = σ.length) (w : ∀ (i : Nat) v, σ'[i]? = some (some v) → σ[i]? = some (some v)) : Inv X pins σ' H s :=
  ⟨I.ok, I.os, I.bare, I.base, let ⟨m, hn, hl'⟩ := I.loc; ⟨m, hn, fun i x v e1 e2 e3 => hl' i x v e1 (w i v e2) e3⟩, I.cell, I.free, I.freeC, I.pin, I.hok, hl.trans I.len⟩
theorem Inv.pins_of {pins' : List (Addr × Obj)} (I : Inv X pins σ H s) (h : ∀ p ∈ pins', s.heap.get? p.1 = some p.2 ∧ H p.1 = none ∧ p.1 ≠ X.env.locals ∧ p.1 ∉ X.fs ∧ ∀ v, p.2.data ≠ .cell v) : Inv X pins' σ H s :=
  ⟨I.ok, I.os, I.bare, I.base, I.loc, I.cell, I.free, I.freeC, fun p hp => (List.mem_append.mp hp).elim (fun z => I.pin p (List.mem_append_left _ z)) (h p), I.hok, I.len⟩

theorem nodup_ix {N : List Str} (hN : N.Nodup) {i j : Nat} {x : Str} (a : N[i]? = some x) (b : N[j]? = some x) : i = j := by
  obtain ⟨h1, e1⟩ := List.getElem?_eq_some_iff.mp a
  obtain ⟨h2, e2⟩ := List.getElem?_eq_some_iff.mp b
  exact (List.getElem_inj hN).mp (e1.trans e2.symm)

theorem store_ok2 {M : Model} {A : Around} {E : Value → Shared → Prop} {i : Nat} {x : Str} {v : V} {u : Value} {Q : Unit → Shared → Prop} (I : Inv X pins σ H s) (hN : X.N.Nodup) (hi : X.N[i]? = some x) (hx : Loc X.env.scope x) (r : RelV v u)
    (h : ∀ s', Inv X pins (σ.set i (some v)) H s' → (∃ a, Heap.SameBut a s.heap s'.heap ∧ (a = X.env.locals ∨ X.env.cells.lookup x = some a)) → Q () s') (hf : X.fn x = true ∨ X.env.scope.names.lookup x = some .local := by first | exact .inl rfl | exact .inr rfl | assumption) : wpAny M A (storeName X.env x u) Q E s := by
  obtain ⟨m, hn, hl⟩ := id I.loc
  have hcls : (X.env.scope.kind == .class || (X.env.scope.kind == .module && X.env.locals != X.env.globals)) = false := by rw [I.ok.kind]; rfl
  have hiσ : i < σ.length := by rw [I.len]; exact (List.getElem?_eq_some_iff.mp hi).1
  have cne := I.cne
  have tracked : ∀ {a : Addr} {h' : Heap}, (∃ o, s.heap.get? a = some o ∧ H a = none) → Heap.SameBut a s.heap h' → HOk X.prog X.w H h' := fun {a h'} ha hs b ob e => by
    obtain ⟨_, _, hfree⟩ := ha
    refine (I.hok b ob e).stay (fun c w' hc q => (hs.2 c ?_).trans q) (fun _ q => q) fun _ _ q => q
    rintro rfl
    rcases hc with rfl | hc
    · rw [hfree] at e; cases e
    · rw [hfree] at hc; cases hc
  rcases hx with hk | hk
  · refine wpAny_storeName_local hk hn (fun h' hn' hs => ?_) hcls
    obtain ⟨oL, _, _, hoL, _⟩ := id hn
    refine h _ ⟨I.ok, I.os, I.bare, ⟨fun b o e n hb hx => ?_, fun b o e n hb hx => ?_, I.base.free, fun b o e hx => ?_, I.base.tups, I.base.frzs, I.base.tbls⟩, ⟨_, hn', fun j y v' e1 e2 e3 => ?_⟩, fun y c e => ?_, I.free, I.freeC, fun p hp => ?_, tracked ⟨oL, hoL, I.free⟩ hs, by simpa using I.len⟩ ⟨_, hs, .inl rfl⟩
    · exact (hs.2 b (Nat.ne_of_lt (Nat.lt_of_lt_of_le (Heap.lt_size e) I.ok.above))).trans (I.base.keep b o e n hb hx)
    · obtain ⟨sl, e1⟩ := I.base.slot b o e n hb hx
      exact ⟨sl, (hs.2 b (Nat.ne_of_lt (Nat.lt_of_lt_of_le (Heap.lt_size e) I.ok.above))).trans e1⟩
    · obtain ⟨o', e1⟩ := I.base.there b o e hx
      exact ⟨o', (hs.2 b (Nat.ne_of_lt (Nat.lt_of_lt_of_le (Heap.lt_size e) I.ok.above))).trans e1⟩
    · by_cases hj : j = i
      · subst hj
        rw [hi] at e1; cases e1
        rw [List.getElem?_set_self hiσ] at e2
        cases e2
        exact ⟨u, r, .inl ⟨hk, by simp⟩⟩
      · rw [List.getElem?_set_ne (Ne.symm hj)] at e2
        obtain ⟨u', r', q⟩ := hl j y v' e1 e2 e3
        refine ⟨u', r', ?_⟩
        rcases q with ⟨k, e⟩ | ⟨k, c, e, z⟩
        · refine .inl ⟨k, ?_⟩
          have : y ≠ x := fun e => hj (nodup_ix hN e1 (e ▸ hi))
          simp [this, e]
        · exact .inr ⟨k, c, e, z.sameBut hs (cne y c e)⟩
    · obtain ⟨w', z⟩ := I.cell y c e
      exact ⟨w', z.sameBut hs (cne y c e)⟩
    · obtain ⟨e, n, ne, nf, d⟩ := I.pin p hp
      exact ⟨(hs.2 p.1 ne).trans e, n, ne, nf, d⟩
  · have hfn : X.fn x = true := by
      rcases hf with z | z
      · exact z
      · rw [z] at hk; cases hk
    obtain ⟨c, hc⟩ := I.ok.has x (.inl hk)
    obtain ⟨w', z⟩ := I.cell x c hc
    refine wpAny_storeName_cell I.ok.kind hk hc z (fun h' hc' hs => ?_)
    obtain ⟨oc, hoc, hocd⟩ := id z
    refine h { s with heap := h' } ⟨I.ok, I.os, I.bare, ⟨fun b o e n hb hx => ?_, fun b o e n hb hx => ?_, I.base.free, fun b o e hx => ?_, I.base.tups, I.base.frzs, I.base.tbls⟩, ⟨m, hn.sameBut hs (Ne.symm (cne x c hc)), fun j y v' e1 e2 e3 => ?_⟩, fun y c' e => ?_, I.free, I.freeC, fun p hp => ?_, tracked ⟨oc, hoc, I.freeC x c hc⟩ hs, by simpa using I.len⟩ ⟨c, hs, .inr hc⟩
    · exact (hs.2 b (Nat.ne_of_lt (Nat.lt_of_lt_of_le (Heap.lt_size e) (I.ok.cab x c hfn hc)))).trans (I.base.keep b o e n hb hx)
    · obtain ⟨sl, e1⟩ := I.base.slot b o e n hb hx
      exact ⟨sl, (hs.2 b (Nat.ne_of_lt (Nat.lt_of_lt_of_le (Heap.lt_size e) (I.ok.cab x c hfn hc)))).trans e1⟩
    · obtain ⟨o', e1⟩ := I.base.there b o e hx
      exact ⟨o', (hs.2 b (Nat.ne_of_lt (Nat.lt_of_lt_of_le (Heap.lt_size e) (I.ok.cab x c hfn hc)))).trans e1⟩
    · by_cases hj : j = i
      · subst hj
        rw [hi] at e1; cases e1
        rw [List.getElem?_set_self hiσ] at e2
        cases e2
        exact ⟨u, r, .inr ⟨.inl hk, c, hc, hc'⟩⟩
      · rw [List.getElem?_set_ne (Ne.symm hj)] at e2
        obtain ⟨u', r', q⟩ := hl j y v' e1 e2 e3
        refine ⟨u', r', ?_⟩
        rcases q with q | ⟨k, c', e, z'⟩
        · exact .inl q
        · refine .inr ⟨k, c', e, z'.sameBut hs ?_⟩
          rintro rfl
          exact hj (nodup_ix hN e1 (I.ok.inj _ _ _ e hc ▸ hi))
    · by_cases hcc : c' = c
      · subst hcc; exact ⟨_, hc'⟩
      · obtain ⟨w2, z2⟩ := I.cell y c' e
        exact ⟨w2, z2.sameBut hs hcc⟩
    · obtain ⟨e, n, ne, nf, d⟩ := I.pin p hp
      refine ⟨(hs.2 p.1 ?_).trans e, n, ne, nf, d⟩
      intro q
      rw [q, hoc] at e
      have q' : oc = p.2 := Option.some.inj e
      exact d w' (by rw [← q']; exact hocd)
theorem store_ok {M : Model} {A : Around} {E : Value → Shared → Prop} {i : Nat} {x : Str} {v : V} {u : Value} {Q : Unit → Shared → Prop} (I : Inv X pins σ H s) (hN : X.N.Nodup) (hi : X.N[i]? = some x) (hx : Loc X.env.scope x) (r : RelV v u)
    (h : ∀ s', Inv X pins (σ.set i (some v)) H s' → Q () s') (hf : X.fn x = true ∨ X.env.scope.names.lookup x = some .local := by first | exact .inl rfl | exact .inr rfl | assumption) : wpAny M A (storeName X.env x u) Q E s :=
  store_ok2 I hN hi hx r (fun s' I' _ => h s' I') hf
theorem Inv.call' {s' : Shared} {ch : List Addr} (I : Inv X pins σ H s) (ho : s'.os = s.os) (u : Un (frs X.stack) ch H H' s.heap s'.heap) (hok : HOk X.prog X.w H' s'.heap) (hg : AllBare s'.gens)
    (hch : ∀ b ∈ ch, (b ∈ X.ex ∨ X.s₀.heap.objs.size ≤ b) ∧ b ≠ X.env.locals ∧ (∀ x c, X.env.cells.lookup x = some c → c ≠ b) ∧ ∀ p ∈ X.pn ++ pins, p.1 ≠ b) : Inv X pins σ H' s' := by
  obtain ⟨h', g', d', t', o'⟩ := s'
  have e : o' = s.os := ho
  subst e
  exact I.call (g' := g') (t' := t') (d' := d') u hok hg hch
end

noncomputable abbrev XK := Value → Option Addr → Hp → Prop
noncomputable abbrev St := List (Option V)
noncomputable abbrev VK := V → Hp → Prop
noncomputable abbrev TE := St → Hp → VK → Prop
noncomputable abbrev TT := St → Hp → (Bool → Hp → Prop) → Prop
noncomputable abbrev TA := St → Hp → (List V → Hp → Prop) → Prop
structure Ends where
  nx : St → Hp → Prop
  rt : VK
  bk : St → Hp → Prop := fun _ _ => False
  ct : St → Hp → Prop := fun _ _ => False
noncomputable abbrev TS := Ends → St → Hp → Prop

noncomputable def EP (X : Cx) (pins : List (Addr × Obj)) (σ : St) (Q : VK) (u : Value) (s' : Shared) : Prop := ∃ v H', Inv X pins σ H' s' ∧ RelV v u ∧ Q v H'
noncomputable def TP (X : Cx) (pins : List (Addr × Obj)) (σ : St) (Q : Bool → Hp → Prop) (b : Bool) (s' : Shared) : Prop := ∃ H', Inv X pins σ H' s' ∧ Q b H'
noncomputable def AP (X : Cx) (pins : List (Addr × Obj)) (σ : St) (Q : List V → Hp → Prop) (us : List Value) (s' : Shared) : Prop := ∃ vs H', Inv X pins σ H' s' ∧ Vals vs us ∧ Q vs H'
noncomputable def SP (X : Cx) (pins : List (Addr × Obj)) (D : Ends) (f : Flow) (s' : Shared) : Prop :=
  match f with
  | .next => ∃ σ' H', Inv X pins σ' H' s' ∧ D.nx σ' H'
  | .brk => ∃ σ' H', Inv X pins σ' H' s' ∧ D.bk σ' H'
  | .cont => ∃ σ' H', Inv X pins σ' H' s' ∧ D.ct σ' H'
  | .ret u => ∃ v σ' H', Inv X pins σ' H' s' ∧ RelV v u ∧ D.rt v H'

noncomputable def PE (X : Cx) (e : Expr) (t : TE) : Prop :=
  ∀ (pins : List (Addr × Obj)) (s : Shared) (σ : St) (H : Hp) (Q : VK), Inv X pins σ H s → t σ H Q → wpAny (model X.prog X.w) X.A (eval e X.env) (EP X pins σ Q) X.xe s
noncomputable def PT (X : Cx) (e : Expr) (t : TT) : Prop :=
  ∀ (pins : List (Addr × Obj)) (s : Shared) (σ : St) (H : Hp) (Q : Bool → Hp → Prop), Inv X pins σ H s → t σ H Q → wpAny (model X.prog X.w) X.A (isTrue e X.env (eval e X.env)) (TP X pins σ Q) X.xe s
noncomputable def PW (X : Cx) (e : Expr) (t : TT) : Prop :=
  ∀ (whole : Sem Value) (pins : List (Addr × Obj)) (s : Shared) (σ : St) (H : Hp) (Q : Bool → Hp → Prop), Inv X pins σ H s → t σ H Q → wpAny (model X.prog X.w) X.A (isTrue e X.env whole) (TP X pins σ Q) X.xe s
theorem PW.pt {X : Cx} {e : Expr} {t : TT} (h : PW X e t) : PT X e t := h _
noncomputable def PA (X : Cx) (es : List Expr) (t : TA) : Prop :=
  ∀ (pos : Pos) (pins : List (Addr × Obj)) (s : Shared) (σ : St) (H : Hp) (Q : List V → Hp → Prop), Inv X pins σ H s → t σ H Q → wpAny (model X.prog X.w) X.A (spliced (backTo pos (starEach es X.env))) (AP X pins σ Q) X.xe s
noncomputable def PS (X : Cx) (st : Stmt) (t : TS) : Prop :=
  ∀ (pins : List (Addr × Obj)) (s : Shared) (σ : St) (H : Hp) (D : Ends), Inv X pins σ H s → t D σ H → wpAny (model X.prog X.w) X.A (exec st X.env) (SP X pins D) X.xe s
noncomputable def PSs (X : Cx) (st : List Stmt) (t : TS) : Prop :=
  ∀ (pins : List (Addr × Obj)) (s : Shared) (σ : St) (H : Hp) (D : Ends), Inv X pins σ H s → t D σ H → wpAny (model X.prog X.w) X.A (execs st X.env) (SP X pins D) X.xe s
theorem thn {α : Type} {t : Sem α} {Q Q' : α → Shared → Prop} {M : Model} {A : Around} {E : Value → Shared → Prop} {s : Shared} (h : wpAny M A t Q E s) (hQ : ∀ a s, Q a s → Q' a s) : wpAny M A t Q' E s := wpAny_mono h hQ fun _ _ x => x
end L2

namespace L2
open PySem PySem.Spec PyProof.Rows
section
variable {X : Cx}

noncomputable def tVar (i : Nat) : TE := fun σ H Q => ExQ Q (fun v Q => σ[i]? = some (some v) ∧ Q v H)
noncomputable def tC (v : V) : TE := fun _ H Q => Q v H
theorem pe_var {i : Nat} {x : Str} {pos : Pos} (hN : X.N[i]? = some x) (hv : Vis X.env.scope x) (hd : (x == ("__debug__" : Str)) = false := by decide) (hcd : (x == ("__classdict__" : Str)) = false := by decide) : PE X (.Name x pos) (tVar i) := by
  intro pins s σ H Q I h
  obtain ⟨v, e, h⟩ := h
  obtain ⟨m, hn, hl⟩ := I.loc
  obtain ⟨u, r, l⟩ := hl i x v hN e hv
  have fin : EP X pins σ Q u s := ⟨v, H, I, r, h⟩
  rcases l with ⟨hk, hm⟩ | ⟨hk, c, hc, hcell⟩
  · exact wpAny_Name (wpAny_loadName_local I.ok.kind hk hn hm fin) hd
  · rcases hk with hk | hk
    · exact wpAny_Name (wpAny_loadName_cell I.ok.kind hk hc hcell fin) hd
    · exact wpAny_Name (wpAny_loadName_free I.ok.kind hk hc hcell fin hcd) hd
theorem pe_int {i j pos} : PE X (.Constant (.int i) j pos) (tC (.int i)) := fun _ _ _ H _ I h => wpAny_Constant_int ⟨.int i, H, I.tok _, ⟨_, rfl⟩, h⟩
theorem pe_bl {b j pos} : PE X (.Constant (.bool b) j pos) (tC (.bl b)) := fun _ _ _ H _ I h => Constant_bool ⟨.bl b, H, I, rfl, h⟩
theorem pe_non {j pos} : PE X (.Constant .none j pos) (tC .non) := fun _ _ _ H _ I h => Constant_none ⟨.non, H, I, rfl, h⟩
theorem pe_str {x j pos} : PE X (.Constant (.str x) j pos) (tC (.str x)) := fun _ _ _ H _ I h => Calls.Constant_str ⟨.str x, H, I.tok _, ⟨_, rfl⟩, h⟩

noncomputable def Gl (X : Cx) (x : Str) : Prop := X.env.kindOf x = some .globalImplicit
theorem ld_glob {E : Value → Shared → Prop} {pins : List (Addr × Obj)} {s : Shared} {σ : St} {H : Hp} {x : Str} {u : Value} {pos : Pos} {Q : Value → Shared → Prop} (I : Inv X pins σ H s) (hg : Gl X x) (hm : X.mg x = some u) (h : Q u s)
    (hd : (x == ("__debug__" : Str)) = false := by decide) : wpAny (model X.prog X.w) X.A (eval (.Name x pos) X.env) Q E s :=
  Calls.Name_function_global I.ok.kind hg (Calls.loadGlobal_global (by rw [I.ok.glob]; exact I.mod.glob.keeps I.bk) hm h) hd
theorem ld_blt {E : Value → Shared → Prop} {pins : List (Addr × Obj)} {s : Shared} {σ : St} {H : Hp} {x : Str} {u : Value} {pos : Pos} {Q : Value → Shared → Prop} (I : Inv X pins σ H s) (hg : Gl X x) (hm : X.mg x = none) (hv : bootBuiltins x = some u) (h : Q u s)
    (hn : x ≠ "__name__" := by decide) (hd : (x == ("__debug__" : Str)) = false := by decide) : wpAny (model X.prog X.w) X.A (eval (.Name x pos) X.env) Q E s := by
  obtain ⟨mb, h1, h2⟩ := I.mod.blt
  exact Calls.Name_function_global I.ok.kind hg (Calls.loadGlobal_builtin (by rw [I.ok.glob]; exact I.mod.glob.keeps I.bk) hm (by rw [I.ok.blt]; exact h1.keeps I.bk) ((h2 x hn).trans hv) h) hd
theorem pe_glob {x : Str} {v : V} {u : Value} {pos : Pos} (hg : Gl X x) (hm : X.mg x = some u) (r : RelV v u) (hd : (x == ("__debug__" : Str)) = false := by decide) : PE X (.Name x pos) (tC v) :=
  fun _ _ _ H _ I h => ld_glob I hg hm ⟨v, H, I, r, h⟩ hd
theorem pe_bltn {x : Str} {v : V} {u : Value} {pos : Pos} (hg : Gl X x) (hm : X.mg x = none) (hv : bootBuiltins x = some u) (r : RelV v u) (hn : x ≠ "__name__" := by decide) (hd : (x == ("__debug__" : Str)) = false := by decide) : PE X (.Name x pos) (tC v) :=
  fun _ _ _ H _ I h => ld_blt I hg hm hv ⟨v, H, I, r, h⟩ hn hd

variable {a b : Expr} {ta tb : TE} {pos : Pos}
noncomputable def tB (t : TE) : TT := fun σ H Q => t σ H fun x H1 => ExQ Q (fun c Q => x = .bl c ∧ Q c H1)
theorem pt_val {e : Expr} {t : TE} (h : PE X e t) (he : ∀ whole, isTrue e X.env whole = (do let v ← whole; standAt e.pos; holding [v] (truthy v)) := by intro _; rfl) : PT X e (tB t) := by
  intro pins s σ H Q I hw
  refine isTrue_plain (thn (h pins s σ H _ I hw) fun v s1 hpat => ?_) (he _)
  obtain ⟨x, H1, I1, r1, q1⟩ := hpat
  obtain ⟨d, rfl, q⟩ := q1
  cases r1
  exact wpAny_truthy_bool ⟨H1, I1, q⟩

variable {tA tB' : TT} {rest : List Expr}
noncomputable def tAnd (t u : TT) : TT := fun σ H Q => t σ H fun c H1 => if c = true then u σ H1 Q else Q false H1
noncomputable def tOr (t u : TT) : TT := fun σ H Q => t σ H fun c H1 => if c = true then Q true H1 else u σ H1 Q
noncomputable def tNot (t : TT) : TT := fun σ H Q => t σ H fun c H1 => Q (!c) H1
theorem pw_and1 (ha : PT X a tA) : PW X (.BoolOp .And [a] pos) tA := by
  intro wh pins s σ H Q I h
  refine isTrue_and (thn (ha pins s σ H Q I h) fun c s1 e => ?_)
  cases c with
  | true => exact isTrue_and_nil e
  | false => exact e
theorem pw_or1 (ha : PT X a tA) : PW X (.BoolOp .Or [a] pos) tA := by
  intro wh pins s σ H Q I h
  refine isTrue_or (thn (ha pins s σ H Q I h) fun c s1 e => ?_)
  cases c with
  | false => exact isTrue_or_nil e
  | true => exact e
theorem pw_and (ha : PT X a tA) (hb : PW X (.BoolOp .And (b :: rest) pos) tB') : PW X (.BoolOp .And (a :: b :: rest) pos) (tAnd tA tB') := by
  intro wh pins s σ H Q I h
  refine isTrue_and (thn (ha pins s σ H _ I h) fun c s1 hpat => ?_)
  obtain ⟨H1, I1, q1⟩ := hpat
  cases c with
  | true => exact hb wh pins s1 σ H1 Q I1 q1
  | false => exact ⟨H1, I1, q1⟩
theorem pw_or (ha : PT X a tA) (hb : PW X (.BoolOp .Or (b :: rest) pos) tB') : PW X (.BoolOp .Or (a :: b :: rest) pos) (tOr tA tB') := by
  intro wh pins s σ H Q I h
  refine isTrue_or (thn (ha pins s σ H _ I h) fun c s1 hpat => ?_)
  obtain ⟨H1, I1, q1⟩ := hpat
  cases c with
  | true => exact ⟨H1, I1, q1⟩
  | false => exact hb wh pins s1 σ H1 Q I1 q1
theorem pt_not (ha : PT X a tA) : PT X (.UnaryOp .Not a pos) (tNot tA) := by
  intro pins s σ H Q I h
  exact isTrue_not (ha pins s σ H (fun c H1 => Q (!c) H1) I h)
noncomputable def tAndV (ta tb : TE) : TE := fun σ H Q => ta σ H fun x H1 => ExQ Q (fun c Q => x = .bl c ∧ if c = true then tb σ H1 Q else Q (.bl false) H1)
noncomputable def tNotV (ta : TE) : TE := fun σ H Q => ta σ H fun x H1 => ExQ Q (fun c Q => x = .bl c ∧ Q (.bl (!c)) H1)
theorem pe_one {op} {t : TE} (h : PE X a t) : PE X (.BoolOp op [a] pos) t := fun pins s σ H Q I hw => BoolOp_one (h pins s σ H Q I hw)
theorem pe_and (ha : PE X a ta) (hb : PE X (.BoolOp .And (b :: rest) pos) tb) : PE X (.BoolOp .And (a :: b :: rest) pos) (tAndV ta tb) := by
  intro pins s σ H Q I h
  refine BoolOp_and (thn (ha pins s σ H _ I h) fun v s1 hpat => ?_)
  obtain ⟨x, H1, I1, r1, q1⟩ := hpat
  obtain ⟨c, rfl, q1⟩ := q1
  cases r1
  refine wpAny_truthy_bool ?_
  cases c with
  | true => exact hb pins s1 σ H1 Q I1 q1
  | false => exact ⟨.bl false, H1, I1, rfl, q1⟩
theorem pe_not (ha : PE X a ta) : PE X (.UnaryOp .Not a pos) (tNotV ta) := by
  intro pins s σ H Q I h
  refine UnaryOp_ (thn (ha pins s σ H _ I h) fun v s1 hpat => ?_)
  obtain ⟨x, H1, I1, r1, q1⟩ := hpat
  obtain ⟨c, rfl, q1⟩ := q1
  cases r1
  exact not_of (wpAny_truthy_bool ⟨.bl (!c), H1, I1, rfl, q1⟩)
noncomputable def tIf (t : TT) (ta tb : TE) : TE := fun σ H Q => t σ H fun c H1 => if c = true then ta σ H1 Q else tb σ H1 Q
theorem pe_ifExp {c : Expr} (hc : PT X c tA) (ha : PE X a ta) (hb : PE X b tb) : PE X (.IfExp c a b pos) (tIf tA ta tb) := by
  intro pins s σ H Q I h
  refine wpAny_IfExp (thn (hc pins s σ H _ I h) fun d s1 hpat => ?_)
  obtain ⟨H1, I1, q1⟩ := hpat
  cases d with
  | true => exact ha pins s1 σ H1 Q I1 q1
  | false => exact hb pins s1 σ H1 Q I1 q1
end
end L2

namespace L2
open PySem PySem.Spec PyProof.Rows

noncomputable def SqL (K : PySem.W.Frag) (H : Hp) (a : Addr) (xs : List V) : Prop :=
  Rd H a (.lst xs) ∨
    ∃ (o : Obj) (its : Array Value) (n : Nat), K.lookup a = some o ∧ o.cls = .type "list" ∧ o.dict = none ∧ o.data = .seq its n ∧ its.size ≤ sizeLine ∧ Vals xs its.toList
noncomputable def SqT (K : PySem.W.Frag) (H : Hp) (a : Addr) (xs : List V) : Prop :=
  Rd H a (.tup xs) ∨
    ∃ (o : Obj) (its : Array Value) (n : Nat), K.lookup a = some o ∧ o.cls = .type "tuple" ∧ o.data = .seq its n ∧ its.size ≤ sizeLine ∧ Vals xs its.toList
noncomputable def absV : Value → Option V
  | .none => some .non
  | .bool b => some (.bl b)
  | .int i _ => some (.int i)
  | .str x _ => some (.str x)
  | .bytes b _ => some (.byt b)
  | .float b _ => some (.flt b)
  | .ref a => some (.ref a)
  | .type n => some (.ty n)
  | _ => none
theorem RelV.abs {x : V} {u : Value} (r : RelV x u) : absV u = some x := by
  cases x with
  | non => cases r; rfl
  | bl _ => cases r; rfl
  | int _ => obtain ⟨t, rfl⟩ := r; rfl
  | str _ => obtain ⟨t, rfl⟩ := r; rfl
  | byt _ => obtain ⟨t, rfl⟩ := r; rfl
  | flt _ => obtain ⟨t, rfl⟩ := r; rfl
  | ref _ => cases r; rfl
  | ty _ => cases r; rfl
theorem RelV.inj {x y : V} {u : Value} (r : RelV x u) (q : RelV y u) : x = y := Option.some.inj (r.abs.symm.trans q.abs)
theorem Vals.inj : ∀ {xs ys : List V} {us : List Value}, Vals xs us → Vals ys us → xs = ys
  | _, _, _, .nil, .nil => rfl
  | _, _, _, .cons r t, .cons r' t' => by rw [r.inj r', Vals.inj t t']
section
variable {X : Cx} {pins : List (Addr × Obj)} {σ : St} {H : Hp} {s : Shared} {a : Addr} {xs ys : List V}
theorem SqL.of {K : PySem.W.Frag} (h : H a = some (.lst xs)) : SqL K H a xs := .inl (.inl h)
theorem SqT.of {K : PySem.W.Frag} (h : H a = some (.tup xs)) : SqT K H a xs := .inl (.inl h)
theorem Inv.list (I : Inv X pins σ H s) (h : SqL X.K H a xs) : ∃ its : List Value, Vals xs its ∧ PlainL s.heap a its.toArray ∧ xs.length ≤ sizeLine := by
  rcases h with h | ⟨o, its, n, hk, hc, hd, hs, hz, r⟩
  · obtain ⟨z, its, n, r, e⟩ := h.ok I.hok
    exact ⟨its, r, ⟨_, n, e, rfl, rfl, rfl⟩, z⟩
  · refine ⟨its.toList, r, ⟨o, n, I.kIn a o hk, hc, hd, by simpa using hs⟩, ?_⟩
    have e := r.length
    simp only [Array.length_toList] at e
    omega
theorem Inv.tuple (I : Inv X pins σ H s) (h : SqT X.K H a xs) : ∃ its : List Value, Vals xs its ∧ IsTup s.heap a its.toArray ∧ xs.length ≤ sizeLine := by
  rcases h with h | ⟨o, its, n, hk, hc, hs, hz, r⟩
  · obtain ⟨z, its, r, p⟩ := h.ok I.hok
    exact ⟨its, r, p, z⟩
  · refine ⟨its.toList, r, ⟨o, I.kIn a o hk, hc, n, by simpa using hs⟩, ?_⟩
    have e := r.length
    simp only [Array.length_toList] at e
    omega
theorem Inv.list_inj (I : Inv X pins σ H s) (h : SqL X.K H a xs) (h' : SqL X.K H a ys) : xs = ys := by
  obtain ⟨its, r, ⟨o, n, e, _, _, d⟩, _⟩ := I.list h
  obtain ⟨its', r', ⟨o', n', e', _, _, d'⟩, _⟩ := I.list h'
  rw [e] at e'; cases e'
  rw [d] at d'
  injection d' with d1 _
  have : its = its' := by simpa using congrArg Array.toList d1
  subst this
  exact r.inj r'
theorem Inv.tuple_inj (I : Inv X pins σ H s) (h : SqT X.K H a xs) (h' : SqT X.K H a ys) : xs = ys := by
  obtain ⟨its, r, ⟨o, e, _, n, d⟩, _⟩ := I.tuple h
  obtain ⟨its', r', ⟨o', e', _, n', d'⟩, _⟩ := I.tuple h'
  rw [e] at e'; cases e'
  rw [d] at d'
  injection d' with d1 _
  have : its = its' := by simpa using congrArg Array.toList d1
  subst this
  exact r.inj r'
end

noncomputable abbrev Cx.wish (X : Cx) (E : Value → Shared → Prop) : Cx := { X with xe := E }
noncomputable abbrev Cx.nox (X : Cx) : Cx := X.wish fun _ _ => False
theorem Cx.Ok.wish {X : Cx} (ok : X.Ok) (E : Value → Shared → Prop) : (X.wish E).Ok :=
  ⟨ok.mod, ok.kind, ok.glob, ok.blt, ok.above, ok.inj, ok.has, ok.cab, ok.hd, ok.frames, ok.stk, ok.exf, ok.bs, ok.bsz, ok.noex, ok.exfs, ok.funs, ok.frf⟩
theorem Cx.Ok.unwish {X : Cx} {E : Value → Shared → Prop} (ok : (X.wish E).Ok) : X.Ok :=
  ⟨ok.mod, ok.kind, ok.glob, ok.blt, ok.above, ok.inj, ok.has, ok.cab, ok.hd, ok.frames, ok.stk, ok.exf, ok.bs, ok.bsz, ok.noex, ok.exfs, ok.funs, ok.frf⟩
section
variable {X : Cx} {pins : List (Addr × Obj)} {σ : St} {H : Hp} {s : Shared} {E : Value → Shared → Prop}
theorem Inv.wish (I : Inv X pins σ H s) (E : Value → Shared → Prop) : Inv (X.wish E) pins σ H s := ⟨I.ok.wish E, I.os, I.bare, I.base, I.loc, I.cell, I.free, I.freeC, I.pin, I.hok, I.len⟩
theorem Inv.unwish (I : Inv (X.wish E) pins σ H s) : Inv X pins σ H s := ⟨I.ok.unwish, I.os, I.bare, I.base, I.loc, I.cell, I.free, I.freeC, I.pin, I.hok, I.len⟩
theorem SP.unwish {D : Ends} {f : Flow} {s' : Shared} (h : SP (X.wish E) pins D f s') : SP X pins D f s' := by
  cases f with
  | next => obtain ⟨σ', H', I, q⟩ := h; exact ⟨σ', H', I.unwish, q⟩
  | brk => obtain ⟨σ', H', I, q⟩ := h; exact ⟨σ', H', I.unwish, q⟩
  | cont => obtain ⟨σ', H', I, q⟩ := h; exact ⟨σ', H', I.unwish, q⟩
  | ret u => obtain ⟨v, σ', H', I, r, q⟩ := h; exact ⟨v, σ', H', I.unwish, r, q⟩
theorem PE.nox {e : Expr} {t : TE} (h : PE X.nox e t) : PE X e t := fun pins s σ H Q I hw =>
  wpAny_mono (h pins s σ H Q (I.wish _) hw) (fun _ _ hp2 => by obtain ⟨v, H', I', r, q⟩ := hp2; exact ⟨v, H', I'.unwish, r, q⟩) fun _ _ z => False.elim z
theorem PT.nox {e : Expr} {t : TT} (h : PT X.nox e t) : PT X e t := fun pins s σ H Q I hw =>
  wpAny_mono (h pins s σ H Q (I.wish _) hw) (fun _ _ hp2 => by obtain ⟨H', I', q⟩ := hp2; exact ⟨H', I'.unwish, q⟩) fun _ _ z => False.elim z
theorem PSs.nox {st : List Stmt} {t : TS} (h : PSs X.nox st t) : PSs X st t := fun pins s σ H D I hw =>
  wpAny_mono (h pins s σ H D (I.wish _) hw) (fun _ _ q => q.unwish) fun _ _ z => False.elim z
end

section
variable {X : Cx} {st : Stmt} {rest : List Stmt} {t u : TS} {e : Expr} {te : TE} {pos : Pos}
noncomputable def tNext : TS := fun D σ H => D.nx σ H
noncomputable def tSeq (t u : TS) : TS := fun D σ H => t { D with nx := u D } σ H
theorem pss_nil : PSs X [] tNext := fun _ _ σ H _ I h => wpAny_execs_nil ⟨σ, H, I, h⟩
theorem pss_cons (h1 : PS X st t) (h2 : PSs X rest u) : PSs X (st :: rest) (tSeq t u) := by
  intro pins s σ H D I h
  refine wpAny_execs_cons (thn (h1 pins s σ H { D with nx := u D } I h) fun f s1 q => ?_)
  cases f with
  | next =>
    obtain ⟨σ', H', I', q⟩ := q
    exact h2 pins s1 σ' H' D I' q
  | ret v => exact q
  | brk => exact q
  | cont => exact q
theorem pss_one (h1 : PS X st t) : PSs X [st] t := by
  intro pins s σ H D I h
  refine wpAny_execs_cons (thn (h1 pins s σ H D I h) fun f s1 q => ?_)
  cases f with
  | next => exact wpAny_execs_nil q
  | ret v => exact q
  | brk => exact q
  | cont => exact q
theorem Inv.quiet {pins : List (Addr × Obj)} {σ : St} {H : Hp} {s : Shared} (I : Inv X pins σ H s) : interactive X.env = false := by simp [interactive, I.ok.kind]
noncomputable def tDrop (te : TE) : TS := fun D σ H => te σ H fun _ H1 => D.nx σ H1
theorem ps_expr (he : PE X e te) (hs : swapsWith e none pos.line X.env = pure false := by rfl) : PS X (.Expr e pos) (tDrop te) := by
  intro pins s σ H D I h
  exact wpAny_Expr_any (thn (he pins s σ H _ I h) fun v s1 hp2 => by obtain ⟨x, H1, I1, r1, q1⟩ := hp2; exact ⟨σ, H1, I1, q1⟩) I.quiet hs
noncomputable def tRet (te : TE) : TS := fun D σ H => te σ H D.rt
theorem ps_ret (he : PE X e te) : PS X (.Return (some e) pos) (tRet te) := by
  intro pins s σ H D I h
  exact wpAny_Return_some (thn (he pins s σ H _ I h) fun v s1 hp2 => by obtain ⟨x, H1, I1, r1, q1⟩ := hp2; exact ⟨x, σ, H1, I1, r1, q1⟩)
noncomputable def tIfS (c : TT) (t u : TS) : TS := fun D σ H => c σ H fun b H1 => if b = true then t D σ H1 else u D σ H1
theorem ps_if {c : Expr} {a b : List Stmt} {tc : TT} (hc : PT X c tc) (ha : PSs X a t) (hb : PSs X b u) : PS X (.If c a b pos) (tIfS tc t u) := by
  intro pins s σ H D I h
  refine wpAny_If (thn (hc pins s σ H _ I h) fun d s1 hpat => ?_)
  obtain ⟨H1, I1, q1⟩ := hpat
  cases d with
  | true => exact ha pins s1 σ H1 D I1 q1
  | false => exact hb pins s1 σ H1 D I1 q1
end

noncomputable abbrev TG := V → St → Hp → (St → Hp → Prop) → Prop
noncomputable abbrev TGs := List V → St → Hp → (St → Hp → Prop) → Prop
noncomputable def PG (X : Cx) (target : Expr) (t : TG) : Prop :=
  ∀ (pins : List (Addr × Obj)) (s : Shared) (σ : St) (H : Hp) (v : V) (u : Value) (Q : St → Hp → Prop), Inv X pins σ H s → RelV v u → t v σ H Q →
    wpAny (model X.prog X.w) X.A (assign target X.env u) (fun _ s' => ∃ σ' H', Inv X pins σ' H' s' ∧ Q σ' H') X.xe s
noncomputable def PGs (X : Cx) (ts : List Expr) (t : TGs) : Prop :=
  ∀ (pins : List (Addr × Obj)) (s : Shared) (σ : St) (H : Hp) (vs : List V) (us : List Value) (Q : St → Hp → Prop), Inv X pins σ H s → Vals vs us → t vs σ H Q →
    wpAny (model X.prog X.w) X.A (assignInOrder ((assignEach ts X.env).map (·.2)) us) (fun _ s' => ∃ σ' H', Inv X pins σ' H' s' ∧ Q σ' H') X.xe s
noncomputable abbrev TSet := V → V → V → Hp → (Hp → Prop) → Prop
noncomputable def PSet (X : Cx) (t : TSet) : Prop :=
  ∀ (pins : List (Addr × Obj)) (s : Shared) (σ : St) (H : Hp) (o i v : V) (ov iv u : Value) (Q : Hp → Prop), Inv X pins σ H s → RelV o ov → RelV i iv → RelV v u → t o i v H Q →
    wpAny (model X.prog X.w) X.A (setItem ov iv u) (fun _ s' => ∃ H', Inv X pins σ H' s' ∧ Q H') X.xe s
section
variable {X : Cx} {pos : Pos}
noncomputable def gName (i : Nat) : TG := fun v σ H Q => Q (σ.set i (some v)) H
theorem pg_name {i : Nat} {x : Str} (hN : X.N.Nodup) (hi : X.N[i]? = some x) (hx : Loc X.env.scope x) (hf : X.fn x = true ∨ X.env.scope.names.lookup x = some .local := by first | exact .inl rfl | exact .inr rfl | assumption) : PG X (.Name x pos) (gName i) := by
  intro pins s σ H v u Q I r h
  exact wpAny_assign_Name (store_ok I hN hi hx r (fun s' I' => ⟨_, H, I', h⟩) hf)
noncomputable def gNil : TGs := fun vs σ H Q => vs = [] ∧ Q σ H
noncomputable def gCons (t : TG) (u : TGs) : TGs := fun vs σ H Q => ExQ Q (fun v Q => ExQ Q (fun r Q => vs = v :: r ∧ t v σ H fun σ' H' => u r σ' H' Q))
theorem pgs_nil : PGs X [] gNil := by
  intro pins s σ H vs us Q I r h
  obtain ⟨e, h⟩ := h
  subst e
  cases r
  exact assignInOrder_nil ⟨σ, H, I, h⟩
theorem pgs_cons {e : Expr} {es : List Expr} {t : TG} {u : TGs} (h1 : PG X e t) (h2 : PGs X es u)
    (hs : (assignEach (e :: es) X.env).map (·.2) = assign e X.env :: (assignEach es X.env).map (·.2) := by rfl) : PGs X (e :: es) (gCons t u) := by
  intro pins s σ H vs us Q I r h
  obtain ⟨v, vr, e1, h⟩ := h
  subst e1
  cases r with
  | cons r rr =>
    rw [hs]
    refine assignInOrder_cons (thn (h1 pins s σ H _ _ _ I r h) fun _ s1 hpat => ?_)
    obtain ⟨σ1, H1, I1, q1⟩ := hpat
    exact h2 pins s1 σ1 H1 _ _ Q I1 rr q1
noncomputable def gTup (K : PySem.W.Frag) (n : Nat) (t : TGs) : TG := fun v σ H Q => ExQ Q (fun a Q => ExQ Q (fun xs Q => v = .ref a ∧ SqT K H a xs ∧ xs.length = n ∧ t xs σ H Q))
theorem pg_tup {es : List Expr} {k : Nat} {t : TGs} {n : Nat} (hc : X.calm = true) (h : PGs X es t)
    (hn : (assignEach es X.env).length = n := by rfl) (hst : (assignEach es X.env).findIdx? (·.1) = none := by rfl) : PG X (.Tuple es k pos) (gTup X.K n t) := by
  intro pins s σ H v u Q I r hw
  obtain ⟨a, xs, e1, hq, hl, hw⟩ := hw
  subst e1
  cases r
  obtain ⟨its, rv, ht, hz⟩ := I.tuple hq
  refine assign_Tuple_tuple (I.ok.hd hc) ht (by simp [hn, ← hl, rv.length]) hst fun h' hx => ?_
  have I1 : Inv X pins σ H { s with heap := h' } := I.kept (t' := s.toks) fun b o e => hx b o (Nat.ne_of_lt (Heap.lt_size e)) e
  exact h pins _ σ H xs _ Q I1 (by simpa using rv) hw
noncomputable def gSub (to ti : TE) (t : TSet) : TG := fun v σ H Q => to σ H fun o H1 => ti σ H1 fun i H2 => t o i v H2 fun H3 => Q σ H3
theorem pg_sub {o i : Expr} {to ti : TE} {t : TSet} (ho : PE X o to) (hi : PE X i ti) (hs : PSet X t)
    (ha : ∀ v, assign (.Subscript o i pos) X.env v = (do
      let ov ← holding [v] (eval o X.env)
      let iv ← holding [v, ov] (eval i X.env)
      standAt pos
      holding [v, ov, iv] (setItem ov iv v)
      release [v, ov, iv] []) := by intro _; rfl) : PG X (.Subscript o i pos) (gSub to ti t) := by
  intro pins s σ H v u Q I r h
  rw [ha]
  refine wpAny_bind (wpAny_holding (thn (ho pins s σ H _ I h) fun ov s1 hpat => ?_))
  obtain ⟨x, H1, I1, r1, q1⟩ := hpat
  refine wpAny_bind (wpAny_holding (thn (hi pins s1 σ H1 _ I1 q1) fun iv s2 hpat => ?_))
  obtain ⟨y, H2, I2, r2, q2⟩ := hpat
  refine wpAny_bind (wpAny_standAt (wpAny_bind (wpAny_holding (thn (hs pins s2 σ H2 x y v ov iv u _ I2 r1 r2 r q2) fun _ s3 hpat => ?_))))
  obtain ⟨H3, I3, q3⟩ := hpat
  exact wpAny_release ⟨σ, H3, I3, q3⟩
noncomputable def tAsg (te : TE) (g : TG) : TS := fun D σ H => te σ H fun x H1 => g x σ H1 D.nx
theorem ps_asg {tg e : Expr} {te : TE} {g : TG} (he : PE X e te) (hg : PG X tg g) (hs : swapsWithSole [tg] e pos.line X.env = pure false := by rfl) (hw : swappedStores [tg] e X.env = pure none := by rfl)
    (h1 : (assignEach [tg] X.env).map (·.2) = [assign tg X.env] := by rfl) : PS X (.Assign [tg] e pos) (tAsg te g) := by
  intro pins s σ H D I h
  refine wpAny_Assign_stores (thn (he pins s σ H _ I h) fun v s1 hpat => ?_) hs hw
  obtain ⟨x, H1, I1, r1, q1⟩ := hpat
  rw [h1]
  exact thn (hg pins s1 σ H1 x v _ I1 r1 q1) fun _ s2 q => q
theorem ps_set {i : Nat} {x : Str} {e : Expr} {te : TE} {pos' : Pos} (hN : X.N.Nodup) (hi : X.N[i]? = some x) (hx : Loc X.env.scope x) (he : PE X e te) (hs : swapsWith e (some (.Name x pos')) pos.line X.env = pure false := by rfl) (hf : X.fn x = true ∨ X.env.scope.names.lookup x = some .local := by first | exact .inl rfl | exact .inr rfl | assumption) :
    PS X (.Assign [.Name x pos'] e pos) (tAsg te (gName i)) := by
  intro pins s σ H D I h
  refine wpAny_Assign_Name (thn (he pins s σ H _ I h) fun v s1 hpat => ?_) hs
  obtain ⟨y, H1, I1, r1, q1⟩ := hpat
  exact store_ok I1 hN hi hx r1 (fun s2 I2 => ⟨_, H1, I2, q1⟩) hf
end

section
variable {X : Cx} {pos : Pos}
end

structure It where
  go : Nat → Hp → Prop
  yld : Nat → Hp → V → Hp → Prop
  stop : Nat → Hp → Prop
noncomputable def FpOk (X : Cx) (pins : List (Addr × Obj)) (H : Hp) (b : Addr) : Prop :=
  H b = none ∧ b ≠ X.env.locals ∧ b ∉ X.fs ∧ (b ∈ X.ex ∨ X.s₀.heap.objs.size ≤ b) ∧ (∀ x c, X.env.cells.lookup x = some c → c ≠ b) ∧ ∀ p ∈ X.pn ++ pins, p.1 ≠ b
theorem Inv.fpOk {X : Cx} {pins : List (Addr × Obj)} {σ : St} {H H' : Hp} {s : Shared} {b : Addr} (I : Inv X pins σ H s) (hb : s.heap.objs.size ≤ b) (hn : H' b = none) : FpOk X pins H' b := by
  refine ⟨hn, Nat.ne_of_gt (Nat.lt_of_lt_of_le I.lt hb), I.nofs hb, .inr (Nat.le_trans I.sz hb), fun x c e z => ?_, fun p hp z => ?_⟩
  · obtain ⟨v, q⟩ := I.cell x c e
    exact absurd (Nat.lt_of_lt_of_le q.lt (by rw [z]; exact hb)) (Nat.lt_irrefl _)
  · exact absurd (Nat.lt_of_lt_of_le (Heap.lt_size (I.pin p hp).1) (by rw [z]; exact hb)) (Nat.lt_irrefl _)
structure Turn (P : Program) (w : World) (K : PySem.W.Frag) (tg : Expr) (J : It) (fp : List Addr) (it : Addr) (tn : Nat → Heap → Prop) : Prop where
  mem : it ∈ fp
  obj : ∀ i h, tn i h → ∀ b ∈ fp, ∃ o, h.get? b = some o ∧ ∀ v, o.data ≠ .cell v
  keep : ∀ i h h', tn i h → (∀ b ∈ fp, ∀ o, h.get? b = some o → h'.get? b = some o) → tn i h'
  item : ∀ (X : Cx), X.prog = P → X.w = w → X.K = K → X.calm = true → ∀ (i : Nat) (pins : List (Addr × Obj)) (s : Shared) (σ : St) (H : Hp) (E : Value → Shared → Prop), Inv X pins σ H s → (∀ b ∈ fp, FpOk X pins H b) → tn i s.heap → J.go i H →
    wpAny (model P w) X.A (pyNext (.ref it)) (fun r s1 => ∃ u, r = some u ∧
      wpAny (model P w) X.A (letOwnedTupleGo tg (.ref it) u) (fun _ s2 => ∃ x H', Inv X pins σ H' s2 ∧ RelV x u ∧ J.yld i H x H' ∧ tn (i + 1) s2.heap ∧ ∀ b ∈ fp, H' b = none) E s1) E s
  done : ∀ (X : Cx), X.prog = P → X.w = w → X.K = K → X.calm = true → ∀ (i : Nat) (pins : List (Addr × Obj)) (s : Shared) (σ : St) (H : Hp) (E : Value → Shared → Prop), Inv X pins σ H s → (∀ b ∈ fp, FpOk X pins H b) → tn i s.heap → J.stop i H →
    wpAny (model P w) X.A (pyNext (.ref it)) (fun r s1 => r = none ∧ Inv X pins σ H s1) E s
  self : ∀ (A : Around) (i : Nat) (s : Shared) (Q : Value → Shared → Prop) (E : Value → Shared → Prop), tn i s.heap → Q (.ref it) s → wpAny (model P w) A (pyIter (.ref it)) Q E s
noncomputable abbrev TI := St → Hp → (It → Hp → Prop) → Prop
noncomputable def PIE (X : Cx) (pins : List (Addr × Obj)) (σ : St) (tg : Expr) (R : It → Hp → Prop) (itv : Value) (s2 : Shared) : Prop :=
  ∃ (it : Addr) (fp : List Addr) (tn : Nat → Heap → Prop) (J : It) (H' : Hp), itv = .ref it ∧ Inv X pins σ H' s2 ∧ Turn X.prog X.w X.K tg J fp it tn ∧ tn 0 s2.heap ∧ (∀ b ∈ fp, FpOk X pins H' b) ∧ R J H'
noncomputable def PI (X : Cx) (tg iter : Expr) (wi : TI) : Prop :=
  ∀ (pins : List (Addr × Obj)) (s : Shared) (σ : St) (H : Hp) (R : It → Hp → Prop), Inv X pins σ H s → wi σ H R →
    wpAny (model X.prog X.w) X.A (eval iter X.env) (fun v s1 => wpAny (model X.prog X.w) X.A (pyIter v) (PIE X pins σ tg R) X.xe s1) X.xe s

theorem go_of {M : Model} {A : Around} {E : Value → Shared → Prop} {s : Shared} {tg : Expr} {it : Addr} {u : Value} {o : Obj} {n : String} {vs : Array Value} {Q : Unit → Shared → Prop} (ho : s.heap.get? it = some o) (hc : o.cls = .type n) (hd : o.data = .fields vs)
    (hn : ["enumerate", "zip", "dict_itemiterator", "dict_reverseitemiterator", "odict_iterator", "itertools.zip_longest", "itertools.pairwise"].contains n = false) (hQ : Q () s) : wpAny M A (letOwnedTupleGo tg (.ref it) u) Q E s := by
  unfold letOwnedTupleGo
  cases tg <;> first
    | exact wpAny_pure hQ
    | (cases u <;> first
        | exact wpAny_pure hQ
        | (refine wpAny_bind (wpAny_load ho ?_)
           rw [hc, hd]
           show wpAny M A (if (["enumerate", "zip", "dict_itemiterator", "dict_reverseitemiterator", "odict_iterator", "itertools.zip_longest", "itertools.pairwise"].contains n && vs[0]? == some (rawInt _)) = true then _ else _) Q E s
           rw [if_neg (by intro h; rw [hn, Bool.false_and] at h; cases h)]
           exact wpAny_pure hQ))

noncomputable def Itl (K : PySem.W.Frag) (a : Addr) : It :=
  ⟨fun i H => ∃ xs x, SqL K H a xs ∧ xs[i]? = some x, fun i H x H' => H' = H ∧ ∀ xs, SqL K H a xs → xs[i]? = some x, fun i H => ∃ xs, SqL K H a xs ∧ xs.length ≤ i⟩
noncomputable def Itt (K : PySem.W.Frag) (a : Addr) : It :=
  ⟨fun i H => ∃ xs x, SqT K H a xs ∧ xs[i]? = some x, fun i H x H' => H' = H ∧ ∀ xs, SqT K H a xs → xs[i]? = some x, fun i H => ∃ xs, SqT K H a xs ∧ xs.length ≤ i⟩
noncomputable def Itr (lo : Int) (n : Nat) : It := ⟨fun i _ => i < n, fun i H x H' => H' = H ∧ x = .int (lo + i), fun i _ => n ≤ i⟩
theorem turn_list {P : Program} {w : World} {K : PySem.W.Frag} {tg : Expr} (a it : Addr) : Turn P w K tg (Itl K a) [it] it (fun i h => h.IsListIter it a i) where
  mem := by simp
  obj := fun i h st b hb => by
    have e : b = it := by simpa using hb
    subst e
    obtain ⟨o, e, c, d⟩ := st
    exact ⟨o, e, fun v z => by rw [d] at z; cases z⟩
  keep := fun i h h' st k => st.at fun o e => k it (by simp) o e
  item := by
    intro X hP hw hK hc i pins s σ H E I hf st hg
    subst hP hw hK
    obtain ⟨xs, x, hq, hx⟩ := hg
    obtain ⟨its, rv, p, hz⟩ := I.list hq
    obtain ⟨u, hu, ru⟩ := rv.get hx
    obtain ⟨f0, f1, f2, f3, f4, f5⟩ := hf it (by simp)
    refine wpAny_pyNext_list_item st p.isList (x := u) (by simpa using hu) fun h' st' sb => ?_
    have I1 : Inv X pins σ H { s with heap := h' } := I.turned (t' := s.toks) (fun b o hb e => (sb.2 b hb).trans e) f0 f1 f3 f4 f5
    obtain ⟨o, e, c, d⟩ := id st'
    exact ⟨u, rfl, go_of (s := { s with heap := h' }) e c d (by decide) ⟨x, H, I1, ru, ⟨rfl, fun ys hy => by rw [I.list_inj hy hq]; exact hx⟩, st', fun b hb => (hf b hb).1⟩⟩
  done := by
    intro X hP hw hK hc i pins s σ H E I hf st hg
    subst hP hw hK
    obtain ⟨xs, hq, hx⟩ := hg
    obtain ⟨its, rv, p, hz⟩ := I.list hq
    obtain ⟨f0, f1, f2, f3, f4, f5⟩ := hf it (by simp)
    have hl := rv.length
    exact wpAny_pyNext_list_end (I.ok.hd hc) st p.isList (by simp; omega) fun h' eb => ⟨rfl, I.turned (t' := s.toks) (fun b o hb e => eb b o hb e) f0 f1 f3 f4 f5⟩
  self := fun _ _ _ _ _ st h => wpAny_pyIter_listiter st h
theorem turn_tuple {P : Program} {w : World} {K : PySem.W.Frag} {tg : Expr} (a it : Addr) : Turn P w K tg (Itt K a) [it] it (fun i h => h.IsTupleIter it a i) where
  mem := by simp
  obj := fun i h st b hb => by
    have e : b = it := by simpa using hb
    subst e
    obtain ⟨o, e, c, d⟩ := st
    exact ⟨o, e, fun v z => by rw [d] at z; cases z⟩
  keep := fun i h h' st k => st.at fun o e => k it (by simp) o e
  item := by
    intro X hP hw hK hc i pins s σ H E I hf st hg
    subst hP hw hK
    obtain ⟨xs, x, hq, hx⟩ := hg
    obtain ⟨its, rv, p, hz⟩ := I.tuple hq
    obtain ⟨u, hu, ru⟩ := rv.get hx
    obtain ⟨f0, f1, f2, f3, f4, f5⟩ := hf it (by simp)
    refine wpAny_pyNext_tuple_item st (show s.heap.IsTuple a its.toArray from p) (x := u) (by simpa using hu) fun h' st' sb => ?_
    have I1 : Inv X pins σ H { s with heap := h' } := I.turned (t' := s.toks) (fun b o hb e => (sb.2 b hb).trans e) f0 f1 f3 f4 f5
    obtain ⟨o, e, c, d⟩ := id st'
    exact ⟨u, rfl, go_of (s := { s with heap := h' }) e c d (by decide) ⟨x, H, I1, ru, ⟨rfl, fun ys hy => by rw [I.tuple_inj hy hq]; exact hx⟩, st', fun b hb => (hf b hb).1⟩⟩
  done := by
    intro X hP hw hK hc i pins s σ H E I hf st hg
    subst hP hw hK
    obtain ⟨xs, hq, hx⟩ := hg
    obtain ⟨its, rv, p, hz⟩ := I.tuple hq
    obtain ⟨f0, f1, f2, f3, f4, f5⟩ := hf it (by simp)
    have hl := rv.length
    exact wpAny_pyNext_tuple_end (I.ok.hd hc) st (show s.heap.IsTuple a its.toArray from p) (by simp; omega) fun h' eb => ⟨rfl, I.turned (t' := s.toks) (fun b o hb e => eb b o hb e) f0 f1 f3 f4 f5⟩
  self := fun _ _ _ _ _ st h => wpAny_pyIter_tupleiter st h
theorem turn_range {P : Program} {w : World} {K : PySem.W.Frag} {tg : Expr} (it : Addr) (lo : Int) (n : Nat) : Turn P w K tg (Itr lo n) [it] it (fun i h => IsRangeIter h it (lo + (i : Nat) * 1) ((n : Int) - (i : Nat)) 1) where
  mem := by simp
  obj := fun i h st b hb => by
    have e : b = it := by simpa using hb
    subst e
    exact ⟨_, st, fun v z => by
      have z' : Data.fields _ = Data.cell v := z
      cases z'⟩
  keep := fun i h h' st k => k it (by simp) _ st
  item := by
    intro X hP hw hK hc i pins s σ H E I hf st hg
    subst hP hw hK
    obtain ⟨f0, f1, f2, f3, f4, f5⟩ := hf it (by simp)
    have W := Walks.range (prog := X.prog) (w := X.w) (I.ok.hd hc) it lo 1 n
    refine W.item i s _ _ hg st fun v h' tk hv st' kk => ?_
    obtain ⟨t, rfl⟩ := hv
    have I1 : Inv X pins σ H { s with heap := h', toks := tk } := I.turned (fun b o hb e => kk b o (by simpa using hb) e) f0 f1 f3 f4 f5
    refine ⟨_, rfl, go_of (s := { s with heap := h', toks := tk }) (n := "range_iterator") st' rfl rfl (by decide) ⟨.int (lo + i), H, I1, ⟨t, ?_⟩, ⟨rfl, rfl⟩, st', fun b hb => (hf b hb).1⟩⟩
    rw [Int.mul_one]
  done := by
    intro X hP hw hK hc i pins s σ H E I hf st hg
    subst hP hw hK
    obtain ⟨f0, f1, f2, f3, f4, f5⟩ := hf it (by simp)
    exact wpAny_pyNext_range_end (I.ok.hd hc) st (by have : n ≤ i := hg; omega) fun h' eb => ⟨rfl, I.turned (t' := s.toks) (fun b o hb e => eb b o hb e) f0 f1 f3 f4 f5⟩
  self := fun _ _ _ _ _ st h => wpAny_pyIter_rangeiter st h
end L2

namespace L2
open PySem PySem.Spec PyProof.Rows
section
variable {X : Cx} {tg : Expr}
noncomputable def iList (K : PySem.W.Frag) (tl : TE) : TI := fun σ H R => tl σ H fun x H1 => ExQ R (fun a R => x = .ref a ∧ (∃ xs, SqL K H1 a xs) ∧ R (Itl K a) H1)
noncomputable def iTup (K : PySem.W.Frag) (tl : TE) : TI := fun σ H R => tl σ H fun x H1 => ExQ R (fun a R => x = .ref a ∧ (∃ xs, SqT K H1 a xs) ∧ R (Itt K a) H1)
theorem pi_list {l : Expr} {tl : TE} (hl : PE X l tl) : PI X tg l (iList X.K tl) := by
  intro pins s σ H R I h
  refine thn (hl pins s σ H _ I h) fun v s1 hpat => ?_
  obtain ⟨x, H1, I1, r1, q1⟩ := hpat
  obtain ⟨a, e, ⟨xs, hq⟩, q⟩ := q1
  subst e
  cases r1
  obtain ⟨its, rv, p, hz⟩ := I1.list hq
  refine wpAny_pyIter_list p.isList ?_
  refine ⟨s1.heap.objs.size, [s1.heap.objs.size], _, _, H1, rfl, I1.kept (t' := s1.toks) fun b o e => Heap.get?_push_of_some _ e, turn_list a _, ⟨_, Heap.get?_push_size _ rfl, rfl, rfl⟩, fun b hb => ?_, q⟩
  have e : b = s1.heap.objs.size := by simpa using hb
  subst e
  exact I1.fpOk (Nat.le_refl _) (I1.hok.fresh (Nat.le_refl _))
theorem pi_tup {l : Expr} {tl : TE} (hl : PE X l tl) : PI X tg l (iTup X.K tl) := by
  intro pins s σ H R I h
  refine thn (hl pins s σ H _ I h) fun v s1 hpat => ?_
  obtain ⟨x, H1, I1, r1, q1⟩ := hpat
  obtain ⟨a, e, ⟨xs, hq⟩, q⟩ := q1
  subst e
  cases r1
  obtain ⟨its, rv, p, hz⟩ := I1.tuple hq
  refine wpAny_pyIter_tuple (show s1.heap.IsTuple a its.toArray from p) ?_
  refine ⟨s1.heap.objs.size, [s1.heap.objs.size], _, _, H1, rfl, I1.kept (t' := s1.toks) fun b o e => Heap.get?_push_of_some _ e, turn_tuple a _, ⟨_, Heap.get?_push_size _ rfl, rfl, rfl⟩, fun b hb => ?_, q⟩
  have e : b = s1.heap.objs.size := by simpa using hb
  subst e
  exact I1.fpOk (Nat.le_refl _) (I1.hok.fresh (Nat.le_refl _))
theorem range_it {pins : List (Addr × Obj)} {σ : St} {H : Hp} {s : Shared} {R : It → Hp → Prop} {E : Value → Shared → Prop} {lo hi : Int} {t u v : Tok} {tk : Nat} (I : Inv X pins σ H s) (h1 : -(2 ^ 62) ≤ lo) (h2 : lo < 2 ^ 62) (h3 : -(2 ^ 62) ≤ hi) (h4 : hi < 2 ^ 62)
    (q : R (Itr lo (hi - lo).toNat) H) : wpAny (model X.prog X.w) X.A (pyIter (.ref s.heap.objs.size)) (PIE X pins σ tg R) E { s with heap := s.heap.push { cls := .type "range", data := .fields #[.int lo t, .int hi u, .int 1 v] }, toks := tk } := by
  refine wpAny_pyIter_range (IsRange.new ..) (small_one h1 h2 h3 h4) ?_
  have I1 : Inv X pins σ H { s with heap := s.heap.push { cls := .type "range", data := .fields #[.int lo t, .int hi u, .int 1 v] }, toks := tk } := I.kept fun b o e => Heap.get?_push_of_some _ e
  refine ⟨(s.heap.push { cls := .type "range", data := .fields #[.int lo t, .int hi u, .int 1 v] }).objs.size, [(s.heap.push { cls := .type "range", data := .fields #[.int lo t, .int hi u, .int 1 v] }).objs.size], _, _, H, rfl,
    I1.kept (t' := tk) fun b o e => Heap.get?_push_of_some _ e, turn_range _ lo (hi - lo).toNat, ?_, fun b hb => ?_, q⟩
  · have e1 : lo + ((0 : Nat) : Int) * 1 = lo := by simp
    have e2 : (((hi - lo).toNat : Nat) : Int) - ((0 : Nat) : Int) = Builtin.Range.rangeSize lo hi 1 := by rw [rangeSize_one]; split <;> omega
    show IsRangeIter _ _ (lo + ((0 : Nat) : Int) * 1) ((((hi - lo).toNat : Nat) : Int) - ((0 : Nat) : Int)) 1
    rw [e1, e2]
    exact Heap.get?_push_size _ rfl
  · have e : b = (s.heap.push { cls := .type "range", data := .fields #[.int lo t, .int hi u, .int 1 v] }).objs.size := by simpa using hb
    subst e
    exact I1.fpOk (Nat.le_refl _) (I1.hok.fresh (Nat.le_refl _))
noncomputable def iRng1 (ta : TA) : TI := fun σ H R => ta σ H fun vs H1 => ExQ R (fun (j : Int) R => vs = [.int j] ∧ -(2 ^ 62) ≤ j ∧ j < 2 ^ 62 ∧ R (Itr 0 j.toNat) H1)
theorem pi_range1 {a : Expr} {ta : TA} {p pos : Pos} (hg : Gl X "range") (hm : X.mg "range" = none) (ha : PA X [a] ta) (hs : starEach [a] X.env = [(false, eval a X.env)] := by rfl) : PI X tg (.Call (.Name "range" p) [a] [] pos) (iRng1 ta) := by
  intro pins s σ H R I h
  refine Call_ (ld_blt I hg hm boot_range (PyProof.Rows.callWith_type1 (thn (ha pos pins s σ H _ I h) fun us s1 hpat => ?_) hs rfl))
  obtain ⟨vs, H1, I1, r1, q1⟩ := hpat
  obtain ⟨j, e, q1, q2, q⟩ := q1
  subst e
  cases r1 with
  | cons r rr =>
    cases rr
    obtain ⟨t, rfl⟩ := r
    exact call_range_1 (range_it I1 (by omega) (by omega) q1 q2 (by simpa using q))
noncomputable def tFor (wi : TI) (g : TG) (tb : TS) : TS := fun D σ H => wi σ H fun J H1 => ∃ W : Nat → Nat → St → Hp → Prop, (∃ m, W 0 m σ H1) ∧ ∀ i m σ H, W i m σ H →
  (J.stop i H ∧ D.nx σ H) ∨ (J.go i H ∧ ∃ N : St → Hp → Prop, (∀ σ' H', N σ' H' → ∃ m', m' < m ∧ W (i + 1) m' σ' H') ∧ ∀ x H', J.yld i H x H' → g x σ H' fun σ2 H2 => tb { D with nx := N, ct := N, bk := D.nx } σ2 H2)
noncomputable def pinsAt (fp : List Addr) (h : Heap) : List (Addr × Obj) := fp.filterMap fun b => (h.get? b).map fun o => (b, o)
theorem mem_pinsAt {fp : List Addr} {h : Heap} {b : Addr} {o : Obj} (hb : b ∈ fp) (e : h.get? b = some o) : (b, o) ∈ pinsAt fp h := List.mem_filterMap.mpr ⟨b, hb, by rw [e]; rfl⟩
theorem of_pinsAt {fp : List Addr} {h : Heap} {p : Addr × Obj} (hp : p ∈ pinsAt fp h) : p.1 ∈ fp ∧ h.get? p.1 = some p.2 := by
  obtain ⟨b, hb, e⟩ := List.mem_filterMap.mp hp
  cases q : h.get? b with
  | none => rw [q] at e; cases e
  | some o =>
    rw [q] at e
    have e' : (b, o) = p := Option.some.inj e
    subst e'
    exact ⟨hb, q⟩
theorem Inv.pinned {pins : List (Addr × Obj)} {σ : St} {H : Hp} {s : Shared} {fp : List Addr} (I : Inv X pins σ H s) (hf : ∀ b ∈ fp, FpOk X pins H b) (ho : ∀ b ∈ fp, ∃ o, s.heap.get? b = some o ∧ ∀ v, o.data ≠ .cell v) : Inv X (pins ++ pinsAt fp s.heap) σ H s :=
  I.pins_of fun p hp => (List.mem_append.mp hp).elim (fun z => I.pin p (List.mem_append_right _ z)) fun z => by
    obtain ⟨hb, e⟩ := of_pinsAt z
    obtain ⟨f0, f1, f2, _⟩ := hf p.1 hb
    obtain ⟨o, e', d⟩ := ho p.1 hb
    rw [e] at e'; cases e'
    exact ⟨e, f0, f1, f2, d⟩
theorem Inv.unpinned {pins pl : List (Addr × Obj)} {σ : St} {H : Hp} {s : Shared} (I : Inv X (pins ++ pl) σ H s) : Inv X pins σ H s := I.pins_of fun p hp => I.pin p (List.mem_append_right _ (List.mem_append_left _ hp))
theorem ps_for {iter : Expr} {body : List Stmt} {wi : TI} {g : TG} {tb : TS} {pos : Pos} (hp : PassesOwn (model X.prog X.w) X.A X.env X.xe) (hc : X.calm = true) (hi : PI X tg iter wi) (hg : PG X tg g) (hb : PSs X body tb)
    (hs : ∀ x, foldedSetIterable iter X.env x = pure x := by intro _; rfl) : PS X (.For tg iter body [] pos) (tFor wi g tb) := by
  intro pins s σ H D I h
  refine wpAny_For (thn (hi pins s σ H _ I h) fun v s1 h1 => thn h1 fun itv s2 h2 => ?_) hs
  obtain ⟨it, fp, tn, J, H2, e, I2, T, st2, f2, W, ⟨m0, w0⟩, turn⟩ := h2
  subst e
  -- what stays true of the iterator's objects through the loop
  have stat : ∀ {H' : Hp}, (∀ b ∈ fp, H' b = none) → ∀ b ∈ fp, FpOk X pins H' b := fun hn b hb => ⟨hn b hb, (f2 b hb).2⟩
  refine codeAny_forLoop_any (fun n s' => ∃ i σ' H', Inv X pins σ' H' s' ∧ tn i s'.heap ∧ (∀ b ∈ fp, H' b = none) ∧ W i n σ' H') ?_ m0 ⟨0, σ, H2, I2, st2, fun b hb => (f2 b hb).1, w0⟩
  rintro n s3 ⟨i, σ3, H3, I3, st3, fr3, w3⟩
  rcases turn i n σ3 H3 w3 with ⟨stop, qn⟩ | ⟨go, N, hN, step⟩
  · refine wpAny_passesOwn hp (thn (T.done X rfl rfl rfl hc i pins s3 σ3 H3 X.xe I3 (stat fr3) st3 stop) fun r s4 hpat => ?_)
    obtain ⟨hr, I4⟩ := hpat
    subst hr
    exact wpAny_execs_nil ⟨σ3, H3, I4, qn⟩
  · refine wpAny_passesOwn hp (thn (T.item X rfl rfl rfl hc i pins s3 σ3 H3 X.xe I3 (stat fr3) st3 go) fun r s4 hpat => ?_)
    obtain ⟨u, hr, h4⟩ := hpat
    subst hr
    refine wpAny_passesOwn hp (thn h4 fun _ s5 hpat => ?_)
    obtain ⟨x, H5, I5, r5, y5, st5, fr5⟩ := hpat
    have I5' := I5.pinned (stat fr5) (T.obj _ _ st5)
    refine wpAny_passesOwn hp (thn (hg _ s5 σ3 H5 x u _ I5' r5 (step x H5 y5)) fun _ s6 hpat => ?_)
    obtain ⟨σ6, H6, I6, q6⟩ := hpat
    refine wpAny_passesOwn hp (thn (hb _ s6 σ6 H6 _ I6 q6) fun f s7 q7 => ?_)
    have again : ∀ {σ7 : St} {H7 : Hp}, Inv X (pins ++ pinsAt fp s5.heap) σ7 H7 s7 → N σ7 H7 → ∃ m, m < n ∧ ∃ i σ' H', Inv X pins σ' H' s7 ∧ tn i s7.heap ∧ (∀ b ∈ fp, H' b = none) ∧ W i m σ' H' := fun {σ7 H7} I7 n7 => by
      obtain ⟨m', hm, w7⟩ := hN σ7 H7 n7
      refine ⟨m', hm, i + 1, σ7, H7, I7.unpinned, T.keep _ _ _ st5 fun b hb o e => (I7.pin (b, o) (List.mem_append_right _ (List.mem_append_right _ (mem_pinsAt hb e)))).1, fun b hb => ?_, w7⟩
      obtain ⟨o, e, d⟩ := T.obj _ _ st5 b hb
      exact (I7.pin (b, o) (List.mem_append_right _ (List.mem_append_right _ (mem_pinsAt hb e)))).2.1
    cases f with
    | next => obtain ⟨σ7, H7, I7, n7⟩ := q7; exact again I7 n7
    | cont => obtain ⟨σ7, H7, I7, n7⟩ := q7; exact again I7 n7
    | brk => obtain ⟨σ7, H7, I7, q7⟩ := q7; exact ⟨σ7, H7, I7.unpinned, q7⟩
    | ret v => obtain ⟨x7, σ7, H7, I7, r7, q7⟩ := q7; exact ⟨x7, σ7, H7, I7.unpinned, r7, q7⟩
end

theorem for_list {K : PySem.W.Frag} {a : Addr} {xs : List V} {g : TG} {tb : TS} {D : Ends} {σ : St} {H : Hp} (Pv : Nat → St → Hp → Prop) (h0 : Pv 0 σ H) (hl : ∀ i σ H, i ≤ xs.length → Pv i σ H → SqL K H a xs)
    (hs : ∀ i x σ H, xs[i]? = some x → Pv i σ H → g x σ H fun σ2 H2 => tb { D with nx := Pv (i + 1), ct := Pv (i + 1), bk := D.nx } σ2 H2) (hd : ∀ σ H, Pv xs.length σ H → D.nx σ H) :
    ∃ W : Nat → Nat → St → Hp → Prop, (∃ m, W 0 m σ H) ∧ ∀ i m σ H, W i m σ H →
      ((Itl K a).stop i H ∧ D.nx σ H) ∨ ((Itl K a).go i H ∧ ∃ N : St → Hp → Prop, (∀ σ' H', N σ' H' → ∃ m', m' < m ∧ W (i + 1) m' σ' H') ∧ ∀ x H', (Itl K a).yld i H x H' → g x σ H' fun σ2 H2 => tb { D with nx := N, ct := N, bk := D.nx } σ2 H2) := by
  refine ⟨fun i m σ H => m = xs.length - i ∧ i ≤ xs.length ∧ Pv i σ H, ⟨xs.length, by simp, Nat.zero_le _, h0⟩, ?_⟩
  rintro i m σ H ⟨rfl, hi, p⟩
  have q := hl i σ H hi p
  by_cases hlt : i < xs.length
  · refine .inr ⟨⟨xs, xs[i], q, by simp [hlt]⟩, Pv (i + 1), fun σ' H' p' => ⟨xs.length - (i + 1), by omega, rfl, hlt, p'⟩, fun x H' y => ?_⟩
    obtain ⟨e, y⟩ := y
    subst e
    exact hs i x σ _ (y xs q) p
  · have e : i = xs.length := by omega
    subst e
    exact .inl ⟨⟨xs, q, Nat.le_refl _⟩, hd σ H p⟩
theorem for_range {lo : Int} {n : Nat} {g : TG} {tb : TS} {D : Ends} {σ : St} {H : Hp} (Pv : Nat → St → Hp → Prop) (h0 : Pv 0 σ H)
    (hs : ∀ i σ H, i < n → Pv i σ H → g (.int (lo + i)) σ H fun σ2 H2 => tb { D with nx := Pv (i + 1), ct := Pv (i + 1), bk := D.nx } σ2 H2) (hd : ∀ σ H, Pv n σ H → D.nx σ H) :
    ∃ W : Nat → Nat → St → Hp → Prop, (∃ m, W 0 m σ H) ∧ ∀ i m σ H, W i m σ H →
      ((Itr lo n).stop i H ∧ D.nx σ H) ∨ ((Itr lo n).go i H ∧ ∃ N : St → Hp → Prop, (∀ σ' H', N σ' H' → ∃ m', m' < m ∧ W (i + 1) m' σ' H') ∧ ∀ x H', (Itr lo n).yld i H x H' → g x σ H' fun σ2 H2 => tb { D with nx := N, ct := N, bk := D.nx } σ2 H2) := by
  refine ⟨fun i m σ H => m = n - i ∧ i ≤ n ∧ Pv i σ H, ⟨n, by simp, Nat.zero_le _, h0⟩, ?_⟩
  rintro i m σ H ⟨rfl, hi, p⟩
  by_cases hlt : i < n
  · refine .inr ⟨hlt, Pv (i + 1), fun σ' H' p' => ⟨n - (i + 1), by omega, rfl, hlt, p'⟩, fun x H' y => ?_⟩
    obtain ⟨e, y⟩ := y
    subst e y
    exact hs i σ _ hlt p
  · have e : i = n := by omega
    subst e
    exact .inl ⟨Nat.le_refl _, hd σ H p⟩
end L2

namespace L2
open PySem PySem.Spec PyProof.Rows

noncomputable abbrev R2 := V → V → Hp → VK → Prop
noncomputable def OpR (X : Cx) (f : Value → Value → Sem Value) (r : R2) : Prop :=
  ∀ (pins : List (Addr × Obj)) (s : Shared) (σ : St) (H : Hp) (x y : V) (v u : Value) (Q : VK), Inv X pins σ H s → RelV x v → RelV y u → r x y H Q →
    wpAny (model X.prog X.w) X.A (f v u) (EP X pins σ Q) X.xe s
noncomputable def UnR (X : Cx) (f : Value → Sem Value) (r : V → Hp → VK → Prop) : Prop :=
  ∀ (pins : List (Addr × Obj)) (s : Shared) (σ : St) (H : Hp) (x : V) (v : Value) (Q : VK), Inv X pins σ H s → RelV x v → r x H Q →
    wpAny (model X.prog X.w) X.A (f v) (EP X pins σ Q) X.xe s
noncomputable def CallR (X : Cx) (f : Value) (r : List V → Hp → VK → Prop) : Prop :=
  ∀ (pins : List (Addr × Obj)) (s : Shared) (σ : St) (H : Hp) (xs : List V) (us : List Value) (Q : VK), Inv X pins σ H s → Vals xs us → r xs H Q →
    wpAny (model X.prog X.w) X.A (call f us) (EP X pins σ Q) X.xe s
noncomputable def tOp (r : R2) (ta tb : TE) : TE := fun σ H Q => ta σ H fun x H1 => tb σ H1 fun y H2 => r x y H2 Q
noncomputable def tUn (r : V → Hp → VK → Prop) (ta : TE) : TE := fun σ H Q => ta σ H fun x H1 => r x H1 Q
noncomputable def rI (C : Int → Int → Prop) (g : Int → Int → V) : R2 := fun x y H Q => ExQ Q (fun i Q => ExQ Q (fun j Q => x = .int i ∧ y = .int j ∧ C i j ∧ Q (g i j) H))
noncomputable def rI0 (g : Int → Int → V) : R2 := fun x y H Q => ExQ Q (fun i Q => ExQ Q (fun j Q => x = .int i ∧ y = .int j ∧ Q (g i j) H))
noncomputable def rU (g : Int → V) : V → Hp → VK → Prop := fun x H Q => ExQ Q (fun i Q => x = .int i ∧ Q (g i) H)

section
variable {X : Cx} {a b c : Expr} {ta tb tc : TE} {pos : Pos}

theorem binT (ha : PE X a ta) (hb : PE X b tb) {pins : List (Addr × Obj)} {s : Shared} {σ : St} {H : Hp} {R : V → V → Hp → Prop} (I : Inv X pins σ H s)
    (h : ta σ H fun x H1 => tb σ H1 fun y H2 => R x y H2) {Q : Value → Shared → Prop} {f : Value → Value → Sem Value}
    (hf : ∀ v u s2 x y H2, Inv X pins σ H2 s2 → RelV x v → RelV y u → R x y H2 → wpAny (model X.prog X.w) X.A (f v u) Q X.xe s2) :
    wpAny (model X.prog X.w) X.A (eval a X.env) (fun v s₁ => wpAny (model X.prog X.w) X.A (eval b X.env) (fun u s₂ => wpAny (model X.prog X.w) X.A (f v u) Q X.xe s₂) X.xe s₁) X.xe s := by
  refine thn (ha pins s σ H _ I h) fun v s1 hpat => ?_
  obtain ⟨x, H1, I1, r1, q1⟩ := hpat
  refine thn (hb pins s1 σ H1 _ I1 q1) fun u s2 hpat => ?_
  obtain ⟨y, H2, I2, r2, q2⟩ := hpat
  exact hf v u s2 x y H2 I2 r1 r2 q2

theorem pe_op {op : Operator} {r : R2} (ho : OpR X (binaryOp op) r) (ha : PE X a ta) (hb : PE X b tb) : PE X (.BinOp a op b pos) (tOp r ta tb) := by
  intro pins s σ H Q I h
  exact wpAny_BinOp (binT ha hb I h fun v u s2 x y H2 I2 rx ry q => ho pins s2 σ H2 x y v u Q I2 rx ry q)
theorem pe_un {op : UnaryOp} {r : V → Hp → VK → Prop} (ho : UnR X (unaryOp op) r) (ha : PE X a ta) : PE X (.UnaryOp op a pos) (tUn r ta) := by
  intro pins s σ H Q I h
  exact UnaryOp_ (thn (ha pins s σ H _ I h) fun v s1 hp2 => by obtain ⟨x, H1, I1, r1, q1⟩ := hp2; exact ho pins s1 σ H1 x v Q I1 r1 q1)
theorem opI {f : Value → Value → Sem Value} {C : Int → Int → Prop} {g : Int → Int → Int}
    (rule : ∀ (i j : Int) (t u : Tok) (s : Shared) (Q : Value → Shared → Prop) (E : Value → Shared → Prop), C i j → Q (.int (g i j) s.toks) { s with toks := s.toks + 1 } → wpAny (model X.prog X.w) X.A (f (.int i t) (.int j u)) Q E s) :
    OpR X f (rI C fun i j => .int (g i j)) := by
  intro pins s σ H x y v u Q I rx ry h
  obtain ⟨i, j, rfl, rfl, hc, q⟩ := h
  obtain ⟨t, rfl⟩ := rx
  obtain ⟨t', rfl⟩ := ry
  exact rule i j t t' s _ _ hc ⟨.int (g i j), H, I.tok _, ⟨_, rfl⟩, q⟩
theorem opI0 {f : Value → Value → Sem Value} {g : Int → Int → Int}
    (rule : ∀ (i j : Int) (t u : Tok) (s : Shared) (Q : Value → Shared → Prop) (E : Value → Shared → Prop), Q (.int (g i j) s.toks) { s with toks := s.toks + 1 } → wpAny (model X.prog X.w) X.A (f (.int i t) (.int j u)) Q E s) :
    OpR X f (rI0 fun i j => .int (g i j)) := by
  intro pins s σ H x y v u Q I rx ry h
  obtain ⟨i, j, rfl, rfl, q⟩ := h
  obtain ⟨t, rfl⟩ := rx
  obtain ⟨t', rfl⟩ := ry
  exact rule i j t t' s _ _ ⟨.int (g i j), H, I.tok _, ⟨_, rfl⟩, q⟩
theorem opB0 {f : Value → Value → Sem Value} {g : Int → Int → Bool}
    (rule : ∀ (i j : Int) (t u : Tok) (s : Shared) (Q : Value → Shared → Prop) (E : Value → Shared → Prop), Q (.bool (g i j)) s → wpAny (model X.prog X.w) X.A (f (.int i t) (.int j u)) Q E s) :
    OpR X f (rI0 fun i j => .bl (g i j)) := by
  intro pins s σ H x y v u Q I rx ry h
  obtain ⟨i, j, rfl, rfl, q⟩ := h
  obtain ⟨t, rfl⟩ := rx
  obtain ⟨t', rfl⟩ := ry
  exact rule i j t t' s _ _ ⟨.bl (g i j), H, I, rfl, q⟩

noncomputable def CDiv (i j : Int) : Prop := 0 < j ∧ j < 1073741824
noncomputable def CPow (i j : Int) : Prop := 0 ≤ j ∧ j ≤ 1000000 ∧ i.natAbs < 2 ^ 64
noncomputable def CMul (i j : Int) : Prop := (-(2 ^ 64) < i ∧ i < 2 ^ 64) ∨ (-(2 ^ 64) < j ∧ j < 2 ^ 64)
theorem CMul.ok {i j : Int} (h : CMul i j) : IntMulOk i j := by
  rcases h with ⟨h1, h2⟩ | ⟨h1, h2⟩
  · exact .of_left (intBits_le_64 h1 h2)
  · exact .of_right (intBits_le_64 h1 h2)
theorem two_pow_nn (k : Nat) : (0 : Int) ≤ 2 ^ k := by
  rw [two_pow_cast]
  exact Int.natCast_nonneg _

theorem op_add : OpR X (binaryOp .Add) (rI0 fun i j => .int (i + j)) := opI0 fun _ _ _ _ _ _ _ q => add_int q
theorem op_sub : OpR X (binaryOp .Sub) (rI0 fun i j => .int (i - j)) := opI0 fun _ _ _ _ _ _ _ q => sub_int q
theorem op_mul : OpR X (binaryOp .Mult) (rI CMul fun i j => .int (i * j)) := opI fun _ _ _ _ _ _ _ hc q => mul_int q hc.ok
theorem op_fdiv : OpR X (binaryOp .FloorDiv) (rI CDiv fun i j => .int (i / j)) := opI fun i j _ _ _ _ _ hc q => by
  have h1 : (0 : Int) < j := hc.1
  have h2 : j < 1073741824 := hc.2
  exact floordiv_int (by omega) (by rw [Int.fdiv_eq_ediv_of_nonneg i (by omega)]; exact q) (.inl (PyProof.noPylong_small (by omega)))
theorem op_mod : OpR X (binaryOp .Mod) (rI (fun _ j => 0 < j) fun i j => .int (i % j)) := opI fun i j _ _ _ _ _ hc q => by
  have h1 : (0 : Int) < j := hc
  exact mod_int' (by omega) (by rw [Int.fmod_eq_emod_of_nonneg i (by omega)]; exact q)
theorem op_pow : OpR X (binaryOp .Pow) (rI CPow fun i j => .int (i ^ j.toNat)) := opI fun _ _ _ _ _ _ _ hc q => pow_int_small hc.1 hc.2.1 hc.2.2 q
theorem op_shr : OpR X (binaryOp .RShift) (rI (fun _ j => 0 ≤ j) fun i j => .int (i / 2 ^ j.toNat)) := opI fun i j _ _ _ _ _ hc q =>
  rshift_int hc (by rw [Int.fdiv_eq_ediv_of_nonneg i (two_pow_nn _)]; exact q)
theorem op_and : OpR X (binaryOp .BitAnd) (rI0 fun i j => .int (Builtin.bitAnd i j)) := opI0 fun _ _ _ _ _ _ _ q => and_int q
theorem unI {f : Value → Sem Value} {g : Int → Int}
    (rule : ∀ (i : Int) (t : Tok) (s : Shared) (Q : Value → Shared → Prop) (E : Value → Shared → Prop), Q (.int (g i) s.toks) { s with toks := s.toks + 1 } → wpAny (model X.prog X.w) X.A (f (.int i t)) Q E s) :
    UnR X f (rU fun i => .int (g i)) := by
  intro pins s σ H x v Q I rx h
  obtain ⟨i, rfl, q⟩ := h
  obtain ⟨t, rfl⟩ := rx
  exact rule i t s _ _ ⟨.int (g i), H, I.tok _, ⟨_, rfl⟩, q⟩
theorem un_neg : UnR X (unaryOp .USub) (rU fun i => .int (-i)) := unI fun _ _ _ _ _ q => neg_int q
end

noncomputable def scal : V → V → Bool
  | .non, .non => true | .non, .int _ => true | .int _, .non => true | .non, .bl _ => true | .bl _, .non => true | .non, .str _ => true | .str _, .non => true
  | .int _, .int _ => true | .bl _, .bl _ => true | .str _, .str _ => true | .byt _, .byt _ => true
  | .int _, .str _ => true | .str _, .int _ => true | .bl _, .str _ => true | .str _, .bl _ => true
  | _, _ => false
noncomputable def rEq : R2 := fun x y H Q => scal x y = true ∧ Q (.bl (decide (x = y))) H
noncomputable def rNe : R2 := fun x y H Q => scal x y = true ∧ Q (.bl (!decide (x = y))) H

theorem dec_int {i j : Int} : decide (V.int i = V.int j) = (i == j) := by
  rw [Bool.eq_iff_iff]
  simp
theorem dec_bl {i j : Bool} : decide (V.bl i = V.bl j) = (i == j) := by
  rw [Bool.eq_iff_iff]
  simp
theorem dec_str {i j : Str} : decide (V.str i = V.str j) = (i == j) := by
  rw [Bool.eq_iff_iff]
  simp
theorem dec_byt {i j : Array UInt8} : decide (V.byt i = V.byt j) = (i.toList == j.toList) := by
  rw [Bool.eq_iff_iff]
  cases i
  cases j
  simp

section
variable {X : Cx} {a b c : Expr} {ta tb tc : TE} {pos : Pos}
theorem fin_bl {pins : List (Addr × Obj)} {σ : St} {H : Hp} {s : Shared} {Q : VK} {k k' : Bool} (I : Inv X pins σ H s) (q : Q (.bl k) H) (e : k = k') : EP X pins σ Q (.bool k') s := by
  subst e
  exact ⟨.bl k, H, I, rfl, q⟩
theorem op_eq : OpR X (compareOp .Eq) rEq := by
  intro pins s σ H x y v u Q I rx ry h
  obtain ⟨hs, q⟩ := h
  cases x with
  | non =>
    cases rx
    cases y with
    | non => cases ry; exact PySem.EqNone.eq_none_none (fin_bl I q (by simp))
    | bl j => cases ry; exact PySem.EqNone.eq_none_bool (fin_bl I q (by simp))
    | int j => obtain ⟨t', rfl⟩ := ry; exact PySem.EqNone.eq_none_int (fin_bl I q (by simp))
    | str j => obtain ⟨t', rfl⟩ := ry; exact PySem.EqNone.eq_none_str (fin_bl I q (by simp))
    | _ => exact absurd (show false = true from hs) Bool.false_ne_true
  | bl i =>
    cases rx
    cases y with
    | non => cases ry; exact PySem.EqNone.eq_bool_none (fin_bl I q (by simp))
    | bl j => cases ry; exact eq_bool (fin_bl I q dec_bl)
    | str j => obtain ⟨t', rfl⟩ := ry; exact PySem.EqMixed.eq_bool_str (fin_bl I q (by simp))
    | _ => exact absurd (show false = true from hs) Bool.false_ne_true
  | int i =>
    obtain ⟨t, rfl⟩ := rx
    cases y with
    | non => cases ry; exact PySem.EqNone.eq_int_none (fin_bl I q (by simp))
    | int j => obtain ⟨t', rfl⟩ := ry; exact eq_int (fin_bl I q dec_int)
    | str j => obtain ⟨t', rfl⟩ := ry; exact PySem.EqMixed.eq_int_str (fin_bl I q (by simp))
    | _ => exact absurd (show false = true from hs) Bool.false_ne_true
  | str i =>
    obtain ⟨t, rfl⟩ := rx
    cases y with
    | non => cases ry; exact PySem.EqNone.eq_str_none (fin_bl I q (by simp))
    | bl j => cases ry; exact PySem.EqMixed.eq_str_bool (fin_bl I q (by simp))
    | int j => obtain ⟨t', rfl⟩ := ry; exact PySem.EqMixed.eq_str_int (fin_bl I q (by simp))
    | str j => obtain ⟨t', rfl⟩ := ry; exact eq_str (fin_bl I q dec_str)
    | _ => exact absurd (show false = true from hs) Bool.false_ne_true
  | byt i =>
    obtain ⟨t, rfl⟩ := rx
    cases y with
    | byt j => obtain ⟨t', rfl⟩ := ry; exact PySem.W.eq_bytes (fin_bl I q dec_byt)
    | _ => exact absurd (show false = true from hs) Bool.false_ne_true
  | _ => cases y <;> exact absurd (show false = true from hs) Bool.false_ne_true
theorem op_ne : OpR X (compareOp .NotEq) rNe := by
  intro pins s σ H x y v u Q I rx ry h
  obtain ⟨hs, q⟩ := h
  cases x with
  | non =>
    cases rx
    cases y with
    | non => cases ry; exact PySem.EqNone.ne_none_none (fin_bl I q (by simp))
    | bl j => cases ry; exact PySem.EqNone.ne_none_bool (fin_bl I q (by simp))
    | int j => obtain ⟨t', rfl⟩ := ry; exact PySem.EqNone.ne_none_int (fin_bl I q (by simp))
    | str j => obtain ⟨t', rfl⟩ := ry; exact PySem.EqNone.ne_none_str (fin_bl I q (by simp))
    | _ => exact absurd (show false = true from hs) Bool.false_ne_true
  | bl i =>
    cases rx
    cases y with
    | non => cases ry; exact PySem.EqNone.ne_bool_none (fin_bl I q (by simp))
    | bl j => cases ry; exact ne_bool (fin_bl I q (congrArg not dec_bl))
    | str j => obtain ⟨t', rfl⟩ := ry; exact PySem.EqMixed.ne_bool_str (fin_bl I q (by simp))
    | _ => exact absurd (show false = true from hs) Bool.false_ne_true
  | int i =>
    obtain ⟨t, rfl⟩ := rx
    cases y with
    | non => cases ry; exact PySem.EqNone.ne_int_none (fin_bl I q (by simp))
    | int j => obtain ⟨t', rfl⟩ := ry; exact ne_int (fin_bl I q (congrArg not dec_int))
    | str j => obtain ⟨t', rfl⟩ := ry; exact PySem.EqMixed.ne_int_str (fin_bl I q (by simp))
    | _ => exact absurd (show false = true from hs) Bool.false_ne_true
  | str i =>
    obtain ⟨t, rfl⟩ := rx
    cases y with
    | non => cases ry; exact PySem.EqNone.ne_str_none (fin_bl I q (by simp))
    | bl j => cases ry; exact PySem.EqMixed.ne_str_bool (fin_bl I q (by simp))
    | int j => obtain ⟨t', rfl⟩ := ry; exact PySem.EqMixed.ne_str_int (fin_bl I q (by simp))
    | str j => obtain ⟨t', rfl⟩ := ry; exact ne_str (fin_bl I q (congrArg not dec_str))
    | _ => exact absurd (show false = true from hs) Bool.false_ne_true
  | byt i =>
    obtain ⟨t, rfl⟩ := rx
    cases y with
    | byt j => obtain ⟨t', rfl⟩ := ry; exact PySem.W.ne_bytes (fin_bl I q (congrArg not dec_byt))
    | _ => exact absurd (show false = true from hs) Bool.false_ne_true
  | _ => cases y <;> exact absurd (show false = true from hs) Bool.false_ne_true

theorem op_lt : OpR X (compareOp .Lt) (rI0 fun i j => .bl (decide (i < j))) := opB0 fun _ _ _ _ _ _ _ q => lt_int q
theorem op_gt : OpR X (compareOp .Gt) (rI0 fun i j => .bl (decide (j < i))) := opB0 fun _ _ _ _ _ _ _ q => gt_int q
theorem op_isN : OpR X (compareOp .Is) (fun x y H Q => y = .non ∧ Q (.bl (decide (x = .non))) H) := by
  intro pins s σ H x y v u Q I rx ry h
  obtain ⟨rfl, q⟩ := h
  cases ry
  refine is_none_gen (fin_bl I q ?_)
  cases x <;> first
    | (cases rx; rfl)
    | (obtain ⟨t, rfl⟩ := rx; rfl)
theorem OpR.or {f : Value → Value → Sem Value} {r r' : R2} (h : OpR X f r) (h' : OpR X f r') : OpR X f (fun x y H Q => r x y H Q ∨ r' x y H Q) := by
  intro pins s σ H x y v u Q I rx ry q
  rcases q with q | q
  · exact h pins s σ H x y v u Q I rx ry q
  · exact h' pins s σ H x y v u Q I rx ry q

theorem nomark (b : Expr) {op : CmpOp} (h : op ≠ .In := by decide) (h2 : op ≠ .NotIn := by decide) : behindInMarks op b = false := by
  have e1 : (op == CmpOp.In) = false := by cases op <;> first | rfl | exact absurd rfl h
  have e2 : (op == CmpOp.NotIn) = false := by cases op <;> first | rfl | exact absurd rfl h2
  cases b <;> simp [behindInMarks, e1, e2]
theorem pe_cmpR {op : CmpOp} {r : R2} (ho : OpR X (compareOp op) r) (ha : PE X a ta) (hb : PE X b tb) (hm : behindInMarks op b = false) : PE X (.Compare a [op] [b] pos) (tOp r ta tb) := by
  intro pins s σ H Q I h
  exact wpAny_Compare1 (binT ha hb I h fun v u s2 x y H2 I2 rx ry q => ho pins s2 σ H2 x y v u Q I2 rx ry q) hm
noncomputable def tTest (t : TE) : TT := fun σ H Q => t σ H fun x H' => ExQ Q (fun k Q => x = .bl k ∧ Q k H')
theorem pt_cmpR {op : CmpOp} {r : R2} (ho : OpR X (compareOp op) r) (ha : PE X a ta) (hb : PE X b tb) (hm : behindInMarks op b = false) : PT X (.Compare a [op] [b] pos) (tTest (tOp r ta tb)) := by
  intro pins s σ H Q I h
  refine wpAny_isTrue_Compare1 (thn (ha pins s σ H _ I h) fun v s1 hpat => ?_) hm
  obtain ⟨x, H1, I1, r1, q1⟩ := hpat
  refine thn (hb pins s1 σ H1 _ I1 q1) fun u s2 hpat => ?_
  obtain ⟨y, H2, I2, r2, q2⟩ := hpat
  refine thn (ho pins s2 σ H2 x y v u _ I2 r1 r2 q2) fun c s3 hpat => ?_
  obtain ⟨z, H3, I3, r3, k, e, q3⟩ := hpat
  subst e
  cases r3
  exact wpAny_truthy_bool ⟨H3, I3, q3⟩
theorem line63 : (sizeLine : Nat) < 2 ^ 63 := by rw [sizeLine_eq]; decide
theorem vals1 {x : V} {us : List Value} (r : Vals [x] us) : ∃ u, us = [u] ∧ RelV x u := by
  cases r with
  | cons r1 r2 => cases r2; exact ⟨_, rfl, r1⟩
theorem vals2 {x y : V} {us : List Value} (r : Vals [x, y] us) : ∃ u w', us = [u, w'] ∧ RelV x u ∧ RelV y w' := by
  cases r with
  | cons r1 r2 =>
    cases r2 with
    | cons r3 r4 => cases r4; exact ⟨_, _, rfl, r1, r3⟩
theorem call_min2 (hc : X.calm = true) : CallR X (.builtin "min") (fun xs H Q => ∃ i j, xs = [.int i, .int j] ∧ Q (.int (if j < i then j else i)) H) := by
  intro pins s σ H xs us Q I r h
  obtain ⟨i, j, rfl, q⟩ := h
  obtain ⟨u, w', rfl, ⟨t, rfl⟩, ⟨t', rfl⟩⟩ := vals2 r
  refine min_two_ints (I.ok.hd hc) fun h' tk k => ⟨_, H, I.kept k, ?_, q⟩
  by_cases hj : j < i
  · rw [if_pos hj, if_pos hj]; exact ⟨_, rfl⟩
  · rw [if_neg hj, if_neg hj]; exact ⟨_, rfl⟩
theorem call_int1 : CallR X (.type "int") (fun xs H Q => (∃ i, xs = [.int i] ∧ Q (.int i) H) ∨ ∃ k, xs = [.bl k] ∧ Q (.int (if k then 1 else 0)) H) := by
  intro pins s σ H xs us Q I r h
  rcases h with ⟨i, rfl, q⟩ | ⟨k, rfl, q⟩
  · obtain ⟨u, rfl, t, rfl⟩ := vals1 r
    exact call_int_int ⟨.int i, H, I, ⟨_, rfl⟩, q⟩
  · obtain ⟨u, rfl, r1⟩ := vals1 r
    cases r1
    exact call_int_bool ⟨.int (if k then 1 else 0), H, I.tok _, ⟨_, rfl⟩, q⟩
end
end L2

namespace L2
open PySem PySem.Spec PyProof.Rows

structure ObjM (h : Heap) (x dx C : Addr) (mA : Str → Option Value) : Prop where
  obj : h.get? x = some (PySem.W.instObj C dx)
  ns : h.Ns1 dx mA
  ne : dx ≠ x

theorem lookIn_ns {h : Heap} {dx : Addr} {mA : Str → Option Value} (n : h.Ns1 dx mA) : ∃ od, h.get? dx = some od ∧ ∀ name, PySem.W.lookIn name od = some (mA name) := by
  obtain ⟨o, es, ep, ho, hd, hk, _, hm⟩ := n
  refine ⟨o, ho, fun name => ?_⟩
  have e := hm name
  unfold nsFind findBy at e
  rw [← Array.find?_toList] at e
  unfold PySem.W.lookIn
  rw [hd]
  dsimp only
  split
  · rename_i y q
    rw [q] at e
    exact congrArg some e
  · rename_i q
    rw [q] at e
    have a : es.toList.any (·.refKey) = false := by
      rw [List.any_eq_false]
      intro y hy
      obtain ⟨z, t, hkey⟩ := hk y (Array.mem_toList_iff.mp hy)
      simp [DictEntry.refKey, hkey]
    have a' : ¬ es.toList.any (·.refKey) = true := by rw [a]; exact Bool.false_ne_true
    rw [if_neg a']
    exact congrArg some e

theorem ObjM.look {h : Heap} {x dx C : Addr} {mA : Str → Option Value} (I : ObjM h x dx C mA) : ∃ od, PySem.W.InstAt h x (PySem.W.instObj C dx) C (some od) ∧ ∀ name, PySem.W.lookIn name od = some (mA name) :=
  let ⟨od, ho, hl⟩ := lookIn_ns I.ns
  ⟨od, ⟨I.obj, rfl, rfl, ho⟩, hl⟩

section
variable {prog : Program} {w : World} {A : Around} {E : Value → Shared → Prop} {s : Shared} {K : PySem.W.Frag} {x dx C f : Addr} {mA : Str → Option Value} {name : Str} {v : Value}

end

section
variable {P : Program} {w : World} {H H' : Hp} {h h' : Heap} {a C dx : Addr} {fs fs' : List (Str × V)}
theorem ins_get (hok : HOk P w H h) (e : H a = some (.ins C dx fs)) : ∃ mA, ObjM h a dx C mA ∧ (∀ f, RelO (fs.lookup f) (mA f)) ∧ PySem.Within mA (fs.map (·.1)) ∧ fs.length ≤ 1000 ∧ H dx = some (.own a) := by
  obtain ⟨d, z, ne, ob, mA, n, r, q⟩ := (show ObjOk P w H h a (.ins C dx fs) from hok a _ e)
  exact ⟨mA, ⟨ob, n, ne⟩, r, q, z, d⟩
end

structure Cls (K : PySem.W.Frag) (C : Addr) : Prop where
  pg : PySem.W.plainGet K C Str.empty = true
  hd : PySem.W.hasDictIn K C = true
  po : PySem.W.plainOver K C = true
  sa : PySem.W.findIn K (.ref C) "__setattr__" = some (some (.builtin "object.__setattr__"))
theorem Cls.get {K : PySem.W.Frag} {C : Addr} (c : Cls K C) (f : Str) : PySem.W.plainGet K C f = true := c.pg
structure Con (K : PySem.W.Frag) (C : Addr) (f : Str) (v : V) (u : Value) : Prop where
  at_ : PySem.W.findIn K (.ref C) f = some (some u)
  rel : RelV v u
  get : PySem.W.specialIn K u "__get__" = some none
  cp : PySem.W.copiedNames.contains f = false
structure Meth (K : PySem.W.Frag) (C : Addr) (m : Str) (f : Addr) : Prop where
  at_ : PySem.W.findIn K (.ref C) m = some (some (.ref f))
  fn : PySem.W.isFn K (.ref f) = true
  kp : PySem.W.keepIn K (.ref f) = true

section
variable {X : Cx} {pins : List (Addr × Obj)} {σ : St} {H : Hp} {s : Shared} {a C dx : Addr} {fs : List (Str × V)} {f : Str} {v : V} {A : Around} {E : Value → Shared → Prop}

theorem Inv.made (I : Inv X pins σ H s) : Inv X pins σ (upd (upd H s.heap.objs.size (.own (s.heap.objs.size + 1))) (s.heap.objs.size + 1) (.ins C s.heap.objs.size []))
    { s with heap := (s.heap.push PySem.W.emptyDict).push (PySem.W.instObj C s.heap.objs.size) } := by
  have e1 : (s.heap.push PySem.W.emptyDict).get? s.heap.objs.size = some PySem.W.emptyDict := Heap.get?_push_size s.heap rfl
  have e2 : ((s.heap.push PySem.W.emptyDict).push (PySem.W.instObj C s.heap.objs.size)).get? (s.heap.objs.size + 1) = some (PySem.W.instObj C s.heap.objs.size) := by
    have := Heap.get?_push_size (s.heap.push PySem.W.emptyDict) (o := PySem.W.instObj C s.heap.objs.size) rfl
    rwa [Heap.size_push] at this
  have e3 : (s.heap.push PySem.W.emptyDict).Ns s.heap.objs.size (fun _ => none) := ⟨PySem.W.emptyDict, #[], _, e1, rfl, (fun e he => absurd he (by simp)), fun _ => rfl⟩
  have I1 := I.laid (a := s.heap.objs.size) (o := .own (s.heap.objs.size + 1)) (h' := s.heap.push PySem.W.emptyDict) (t' := s.toks) (fun b u q => Heap.get?_push_of_some _ q) (Nat.le_refl _) ⟨_, e1⟩
  refine I1.laid (a := s.heap.objs.size + 1) (o := .ins C s.heap.objs.size []) (t' := s.toks) (fun b u q => Heap.get?_push_of_some _ q) (Nat.le_of_eq (Heap.size_push _ _)) ?_
  have ne : s.heap.objs.size ≠ s.heap.objs.size + 1 := Nat.ne_of_lt (Nat.lt_succ_self _)
  refine ⟨by rw [upd_ne ne, upd_same], Nat.zero_le _, ne, e2, fun _ => none, (Heap.Ns1.of_empty e3).at fun o q => Heap.get?_push_of_some _ q, fun _ => True.intro, fun y hy => absurd rfl hy⟩

end

section
variable {X : Cx} {o e value : Expr} {f : Str} {pos pos' tpos : Pos} {ta tv : TE}
end

section
variable {X : Cx} {pins : List (Addr × Obj)} {σ : St} {H : Hp} {s : Shared} {A : Around} {E : Value → Shared → Prop} {Q : Value → Shared → Prop} {c : Value} {b : Bool}
inductive TyOf (K : PySem.W.Frag) (H : Hp) : V → Value → Prop where
  | non : TyOf K H .non (.type "NoneType")
  | bl (x : Bool) : TyOf K H (.bl x) (.type "bool")
  | int (i : Int) : TyOf K H (.int i) (.type "int")
  | str (x : Str) : TyOf K H (.str x) (.type "str")
  | flt (x : UInt64) : TyOf K H (.flt x) (.type "float")
  | lst {a : Addr} {xs : List V} (e : H a = some (.lst xs)) : TyOf K H (.ref a) (.type "list")
  | frz {a : Addr} {o : Obj} {xs : List V} (e : H a = some (.frz o (.lst xs))) : TyOf K H (.ref a) (.type "list")
  | tup {a : Addr} {xs : List V} (e : H a = some (.tup xs)) : TyOf K H (.ref a) (.type "tuple")
  | dK {a : Addr} {kvs : List (Key × V)} (e : H a = some (.dK kvs)) : TyOf K H (.ref a) (.type "dict")
  | dT {a : Addr} {kvs : List (List Key × V)} (e : H a = some (.dT kvs)) : TyOf K H (.ref a) (.type "dict")
  | ins {a C dx : Addr} {fs : List (Str × V)} (e : H a = some (.ins C dx fs)) (cl : Cls K C) (ha : PySem.W.findIn K (.ref C) "__class__" = some (some (.builtin "object.__class__")))
      (hn : PySem.W.specialIn K (.builtin "object.__class__") "__get__" = some (some (.builtin "getset_descriptor.__get__"))) (htk : PySem.W.takesIn K (.builtin "object.__class__") = some true)
      (hm : PySem.W.mroIn K C (.type "object") = some true) : TyOf K H (.ref a) (.ref C)
theorem isinst_ok {x : V} {u t : Value} (I : Inv X pins σ H s) (rx : RelV x u) (ty : TyOf X.K H x t) (e : PySem.W.kitOne X.K t c = some b) (h : ∀ tk, Q (.bool b) { s with toks := tk }) :
    wpAny (model X.prog X.w) A (call (.builtin "isinstance") [u, c]) Q E s := by
  cases ty with
  | non => cases (show u = Value.none from rx); exact PySem.W.kia_one PySem.W.kitx_none I.kIn True.intro e (fun z => nomatch z) h
  | bl y => cases (show u = Value.bool y from rx); exact PySem.W.kia_one PySem.W.kitx_bool I.kIn True.intro e (fun z => nomatch z) h
  | int i => obtain ⟨t, q⟩ := (show ∃ t, u = Value.int i t from rx); cases q; exact PySem.W.kia_one PySem.W.kitx_int I.kIn True.intro e (fun z => nomatch z) h
  | str y => obtain ⟨t, q⟩ := (show ∃ t, u = Value.str y t from rx); cases q; exact PySem.W.kia_one PySem.W.kitx_str I.kIn True.intro e (fun z => nomatch z) h
  | flt y => obtain ⟨t, q⟩ := (show ∃ t, u = Value.float y t from rx); cases q; exact PySem.W.kia_one PySem.W.kitx_float I.kIn True.intro e (fun z => nomatch z) h
  | @lst a xs ea =>
    cases (show u = Value.ref a from rx)
    obtain ⟨_, _, n, _, h1⟩ := (show ObjOk X.prog X.w H s.heap a (.lst xs) from I.hok a _ ea)
    exact PySem.W.kia_one PySem.W.kitx_list I.kIn ⟨_, h1, rfl⟩ e (fun z => nomatch z) h
  | @frz a ob xs ea =>
    cases (show u = Value.ref a from rx)
    obtain ⟨_, _, _, n, _, h1⟩ := (show ObjOk X.prog X.w H s.heap a (.frz ob (.lst xs)) from I.hok a _ ea)
    exact PySem.W.kia_one PySem.W.kitx_list I.kIn ⟨_, h1, rfl⟩ e (fun z => nomatch z) h
  | @tup a xs ea =>
    cases (show u = Value.ref a from rx)
    obtain ⟨_, _, _, p⟩ := (show ObjOk X.prog X.w H s.heap a (.tup xs) from I.hok a _ ea)
    obtain ⟨o, h1, h2, _⟩ := p
    exact PySem.W.kia_one PySem.W.kitx_tuple I.kIn ⟨o, h1, h2⟩ e (fun z => nomatch z) h
  | @dK a kvs ea =>
    cases (show u = Value.ref a from rx)
    obtain ⟨_, _, vs, _, p⟩ := (show ObjOk X.prog X.w H s.heap a (.dK kvs) from I.hok a _ ea)
    obtain ⟨o, es, ep, h1, h2, _⟩ := p
    exact PySem.W.kia_one PySem.W.kitx_dict I.kIn ⟨o, h1, h2.1⟩ e (fun z => nomatch z) h
  | @dT a kvs ea =>
    cases (show u = Value.ref a from rx)
    obtain ⟨_, _, xs, _, o, es, ep, h1, h2, _⟩ := (show ObjOk X.prog X.w H s.heap a (.dT kvs) from I.hok a _ ea)
    exact PySem.W.kia_one PySem.W.kitx_dict I.kIn ⟨o, h1, h2.1⟩ e (fun z => nomatch z) h
  | @ins a C dx fs ea cl ha hn htk hm =>
    cases (show u = Value.ref a from rx)
    obtain ⟨mA, O, _⟩ := ins_get I.hok ea
    obtain ⟨od, J, _⟩ := O.look
    exact PySem.W.kia_one (PySem.W.kitx_own (cl.get _) cl.hd ha hn htk hm) I.kIn J e (fun z => nomatch z) h
end
end L2

namespace L2
open PySem PySem.Spec PyProof.Rows

structure Room (k : Nat) (A : Around) : Prop where
  hd : A.handled = none
  dp : A.depth + 3 * k + 5 < recursionLimit
  un : A.units + 16 * k + 200 < cLine
theorem Room.mono {j k : Nat} {A : Around} (r : Room k A) (h : j ≤ k) : Room j A := ⟨r.hd, by have := r.dp; omega, by have := r.un; omega⟩
theorem Room.deeper {k : Nat} {A : Around} (r : Room (k + 1) A) (env : Env) : Room k (A.deeper env) :=
  ⟨r.hd, by have := r.dp; show A.depth + 1 + 3 * k + 5 < _; omega, by have := r.un; show A.units + 3 + 16 * k + 200 < _; omega⟩
theorem Room.in1 {k : Nat} {A : Around} (r : Room (k + 1) A) : Room k A.in1 :=
  ⟨r.hd, by have := r.dp; show A.depth + 3 * k + 5 < _; omega, by have := r.un; show A.units + 1 + 16 * k + 200 < _; omega⟩
theorem Room.depth {k : Nat} {A : Around} (r : Room k A) : A.depth < recursionLimit := by have := r.dp; omega
theorem Room.units {k : Nat} {A : Around} (r : Room k A) : A.units + 64 < cLine := by have := r.un; omega
noncomputable def tNil : TA := fun _ H Q => Q [] H
noncomputable def tCons (ta : TE) (tr : TA) : TA := fun σ H Q => ta σ H fun x H1 => tr σ H1 fun xs H2 => Q (x :: xs) H2
section
variable {X : Cx} {e : Expr} {es : List Expr} {te : TE} {t : TA} {pos : Pos}
theorem pa_nil : PA X [] tNil := fun _ _ _ _ H Q I h => Calls.spliced_nil ⟨[], H, I, .nil, h⟩
theorem pa_cons (ha : PE X e te) (hr : PA X es t) (hs : starEach (e :: es) X.env = (false, eval e X.env) :: starEach es X.env := by rfl) : PA X (e :: es) (tCons te t) := by
  intro pos pins s σ H Q I h
  rw [hs]
  show wpAny _ _ (spliced ((false, eval e X.env) :: backTo pos (starEach es X.env))) _ _ s
  refine Calls.spliced_cons (thn (ha pins s σ H _ I h) fun u s1 hpat => ?_)
  obtain ⟨x, H1, I1, r1, q1⟩ := hpat
  exact thn (hr pos pins s1 σ H1 _ I1 q1) fun us s2 hp2 => by obtain ⟨xs, H2, I2, r2, q2⟩ := hp2; exact ⟨x :: xs, H2, I2, .cons r1 r2, q2⟩

noncomputable def tTup (t : TA) : TE := fun σ H Q => t σ H fun xs H1 => xs.length ≤ sizeLine ∧ ∀ p, H1 p = none → Q (.ref p) (upd H1 p (.tup xs))
noncomputable def tLst (t : TA) : TE := fun σ H Q => t σ H fun xs H1 => xs.length ≤ sizeLine ∧ ∀ p, H1 p = none → Q (.ref p) (upd H1 p (.lst xs))
theorem pe_tup {x1} (h : PA X es t) : PE X (.Tuple es x1 pos) (tTup t) := by
  intro pins s σ H Q I hq
  refine wpAny_Tuple_spliced (thn (h pos pins s σ H _ I hq) fun us s1 ⟨xs, H1, I1, r, z, q⟩ => ⟨by rw [← r.length]; exact z, ?_⟩)
  have hf : H1 s1.heap.objs.size = none := I1.hok.fresh (Nat.le_refl _)
  refine ⟨.ref s1.heap.objs.size, upd H1 s1.heap.objs.size (.tup xs), I1.laid (t' := s1.toks) (fun b u e => Heap.get?_push_of_some _ e) (Nat.le_refl _) ?_, rfl, q _ hf⟩
  exact ⟨z, us, r, ⟨_, Heap.get?_push_size _ rfl, rfl, _, rfl⟩⟩
theorem pe_lst (h : PA X es t) : PE X (.List es pos) (tLst t) := by
  intro pins s σ H Q I hq
  refine wpAny_List_spliced (thn (h pos pins s σ H _ I hq) fun us s1 ⟨xs, H1, I1, r, z, q⟩ => ⟨by rw [← r.length]; exact z, ?_⟩)
  have hf : H1 s1.heap.objs.size = none := I1.hok.fresh (Nat.le_refl _)
  refine ⟨.ref s1.heap.objs.size, upd H1 s1.heap.objs.size (.lst xs), I1.laid (t' := s1.toks) (fun b u e => Heap.get?_push_of_some _ e) (Nat.le_refl _) ?_, rfl, q _ hf⟩
  exact ⟨z, us, 0, r, Heap.get?_push_size _ rfl⟩
end

noncomputable abbrev Sp := List V → Hp → VK → XK → Prop
noncomputable abbrev CXT := List Env → Hp → Shared → XK → Value → Shared → Prop

structure Env0 (P : Program) (w : World) (K : PySem.W.Frag) (mg : Str → Option Value) (base : Heap) (A : Around) (outer : List Env) (s : Shared) (H : Hp) : Prop where
  frames : A.frames = some outer
  mod : Mod K mg base
  bs : ∀ b o, base.get? b = some o → s.heap.get? b = some o ∧ H b = none
  bsz : base.objs.size ≤ s.heap.objs.size
  funs : s.heap.FunFrames base outer
  frf : ∀ b ∈ frs outer, H b = none
  hok : HOk P w H s.heap
  bare : AllBare s.gens
noncomputable def CE (outer : List Env) (P : Program) (w : World) (H : Hp) (s : Shared) (Q : VK) (u : Value) (s' : Shared) : Prop :=
  ∃ v H', s'.os = s.os ∧ AllBare s'.gens ∧ Un (frs outer) [] H H' s.heap s'.heap ∧ HOk P w H' s'.heap ∧ RelV v u ∧ Q v H'
noncomputable def CR (CX : CXT) (outer : List Env) (P : Program) (w : World) (H : Hp) (s : Shared) (Q : VK) (E : XK) (r : Result) (s' : Shared) : Prop :=
  match r with
  | .ok (.ret u) => CE outer P w H s Q u s'
  | .ok _ => False
  | .error e => CX outer H s E e s'
structure FnOk (P : Program) (w : World) (K : PySem.W.Frag) (mg : Str → Option Value) (base : Heap) (CX : CXT) (k : Nat) (f : Addr) (fd : FuncData) (ps : List Str) (sp : Sp) : Prop where
  len : ∀ vs H Q E, sp vs H Q E → vs.length = ps.length
  run : ∀ (A : Around) (outer : List Env) (s : Shared) (H : Hp) (args : Args) (us : List Value) (vs : List V) (Q : VK) (E : XK), Room k A → Env0 P w K mg base A outer s H → BindsTo s fd args (ps.zip us) → Vals vs us → sp vs H Q E →
    codeAny (model P w) A (.call (.ref f) args) (CR CX outer P w H s Q E) s
theorem FnOk.mono {P : Program} {w : World} {K : PySem.W.Frag} {mg : Str → Option Value} {base : Heap} {CX : CXT} {j k : Nat} {f : Addr} {fd : FuncData} {ps : List Str} {sp : Sp} (F : FnOk P w K mg base CX j f fd ps sp) (h : j ≤ k) :
    FnOk P w K mg base CX k f fd ps sp := ⟨F.len, fun A outer s H args us vs Q E hr => F.run A outer s H args us vs Q E (hr.mono h)⟩
theorem Env0.in1 {P : Program} {w : World} {K : PySem.W.Frag} {mg : Str → Option Value} {base : Heap} {A : Around} {outer : List Env} {s : Shared} {H : Hp} (e : Env0 P w K mg base A outer s H) :
    Env0 P w K mg base A.in1 outer s H := ⟨e.frames, e.mod, e.bs, e.bsz, e.funs, e.frf, e.hok, e.bare⟩

section
variable {X : Cx} {pins : List (Addr × Obj)} {σ : St} {H : Hp} {s s' : Shared}
theorem Inv.env0 (I : Inv X pins σ H s) : Env0 X.prog X.w X.K X.mg X.base X.A X.stack s H :=
  ⟨I.ok.frames, I.ok.mod, I.bs, Nat.le_trans I.ok.bsz I.sz, I.stack, I.stkFree, I.hok, I.bare⟩
theorem Inv.after {Q : VK} {u : Value} (I : Inv X pins σ H s) (h : CE X.stack X.prog X.w H s Q u s') : EP X pins σ Q u s' := by
  obtain ⟨v, H', os, bare, un, hok, r, q⟩ := h
  obtain ⟨hh, g, d, t, os'⟩ := s'
  obtain rfl : os' = s.os := os
  exact ⟨v, H', I.call (h' := hh) (g' := g) (d' := d) (t' := t) (ch := []) un hok bare (fun b z => absurd z (by simp)), r, q⟩
end

noncomputable def tCall (sp : Sp) (dvs : List V) (E : XK) (t : TA) : TE := fun σ H Q => t σ H fun vs H1 => sp (vs ++ dvs) H1 Q E
noncomputable def Binds (K : PySem.W.Frag) (fd : FuncData) (ps : List Str) (ds : List Value) : Prop :=
  ∀ (s : Shared) (us : List Value), K.In s.heap → (us ++ ds).length = ps.length → BindsTo s fd ⟨us, []⟩ (ps.zip (us ++ ds))
theorem Binds.all {K : PySem.W.Frag} {fd : FuncData} {ps : List Str} (h : ∀ us : List Value, us.length = ps.length → bindArgs fd ⟨us, []⟩ = pure (ps.zip us)) : Binds K fd ps [] := fun s us _ hl => by
  rw [List.append_nil] at hl ⊢
  exact .of_eq (h us hl)

noncomputable def Passes (CX : CXT) (X : Cx) (E : XK) : Prop := ∀ (pins : List (Addr × Obj)) (σ : St) (H : Hp) (s : Shared) (e : Value) (s' : Shared), Inv X pins σ H s → CX X.stack H s E e s' → X.xe e s'

section
variable {X : Cx} {CX : CXT} {k : Nat} {f C : Addr} {fd : FuncData} {ps : List Str} {sp : Sp} {dvs : List V} {ds : List Value} {E : XK} {x m : Str} {p pos apos : Pos} {e o : Expr} {es : List Expr} {ta : TE} {t : TA}

theorem run_fn {pins : List (Addr × Obj)} {σ : St} {H : Hp} {s : Shared} {Q : VK} {us : List Value} {vs : List V} (F : FnOk X.prog X.w X.K X.mg X.base CX k f fd ps sp) (hr : Room k X.A) (hb : Binds X.K fd ps ds) (hd : Vals dvs ds) (hx : Passes CX X E)
    (I : Inv X pins σ H s) (r : Vals vs us) (h : sp (vs ++ dvs) H Q E) : wpAny (model X.prog X.w) X.A (call (.ref f) us) (EP X pins σ Q) X.xe s := by
  have r2 : Vals (vs ++ dvs) (us ++ ds) := r.append hd
  have hl : (us ++ ds).length = ps.length := by rw [← r2.length]; exact F.len _ _ _ _ h
  refine wpAny_call (codeAny_mono (F.run X.A X.stack s H ⟨us, []⟩ (us ++ ds) (vs ++ dvs) Q E hr I.env0 (hb s us I.kIn hl) r2 h) fun r s' hq => ?_)
  cases r with
  | error e => exact hx pins σ H s e s' I hq
  | ok fl =>
    cases fl with
    | ret u => exact I.after hq
    | next => exact False.elim hq
    | brk => exact False.elim hq
    | cont => exact False.elim hq

theorem pe_call (F : FnOk X.prog X.w X.K X.mg X.base CX k f fd ps sp) (hr : Room k X.A) (hg : Gl X x) (hm : X.mg x = some (.ref f)) (hk : PySem.W.keepIn X.K (.ref f) = true) (hb : Binds X.K fd ps ds) (hd : Vals dvs ds) (hx : Passes CX X E)
    (ha : PA X (e :: es) t) (hdb : (x == ("__debug__" : Str)) = false := by decide) (he : starEach (e :: es) X.env = (false, eval e X.env) :: starEach es X.env := by rfl) (hpl : (backTo pos (starEach es X.env)).any (·.1) = false := by rfl) :
    PE X (.Call (.Name x p) (e :: es) [] pos) (tCall sp dvs E t) := by
  intro pins s σ H Q I h
  refine wpAny_Call_Name_kw (ld_glob I hg hm ?_ hdb)
  refine PySem.W.callWith_K (h₀ := X.base) I.ok.mod.kin hk (thn (ha pos pins s σ H _ I h) fun us s1 hpat => ?_) he hpl
  obtain ⟨vs, H1, I1, r, q⟩ := hpat
  refine ⟨I1.kIn, ?_⟩
  exact run_fn F hr hb hd hx I1 r q
structure Mk (K : PySem.W.Frag) (C f : Addr) : Prop where
  makes : PySem.W.makesIn K C = true
  init : PySem.W.findIn K (.ref C) "__init__" = some (some (.ref f))
  fn : PySem.W.isFn K (.ref f) = true
  kp : PySem.W.keepIn K (.ref C) = true

end

section
variable {X : Cx} {CX : CXT} {k : Nat} {f C : Addr} {fd : FuncData} {ps ks : List Str} {sp : Sp} {E : XK} {x m : Str} {p pos apos kpos : Pos} {e o : Expr} {es : List Expr} {kws : List Keyword} {te ta : TE} {t tk : TA} {nm : Option Str}
structure KBinds (K : PySem.W.Frag) (fd : FuncData) (ps ks : List Str) (g : List Value → List Value → List Value) (gV : List V → List V → List V) : Prop where
  to : ∀ (s : Shared) (us ws : List Value), K.In s.heap → (g us ws).length = ps.length → BindsTo s fd ⟨us, ks.zip ws⟩ (ps.zip (g us ws))
  rel : ∀ {vs : List V} {us : List Value} {zs : List V} {ws : List Value}, Vals vs us → Vals zs ws → Vals (gV vs zs) (g us ws)
variable {g : List Value → List Value → List Value} {gV : List V → List V → List V}
end

structure FnScope (N P : List Str) (sc : Scope) : Prop where
  kind : sc.kind = .function
  co : sc.isCoroutine = false
  gen : sc.isGenerator = false
  nd : N.Nodup
  pre : N.take P.length = P
  par : ∀ x ∈ P, sc.names.lookup x = some .local ∨ sc.names.lookup x = some .cell
  nofree : ∀ y ∈ sc.names, y.2 ≠ .free

theorem bindL_out {kindOf : Str → Option NameKind} {x : Str} : ∀ {binds : List (Str × Value)} {m : Str → Option Value}, (∀ v, (x, v) ∉ binds) → bindL kindOf binds m x = m x
  | [], _, _ => rfl
  | (n, v) :: r, m, h => by
    unfold bindL
    rw [bindL_out fun w hw => h w (List.mem_cons_of_mem _ hw)]
    split
    · have : x ≠ n := by rintro rfl; exact h v List.mem_cons_self
      simp [this]
    · rfl
theorem bindC_out {kindOf : Str → Option NameKind} {x : Str} : ∀ {binds : List (Str × Value)} {m : Str → Option Value}, (∀ v, (x, v) ∉ binds) → bindC kindOf binds m x = m x
  | [], _, _ => rfl
  | (n, v) :: r, m, h => by
    unfold bindC
    rw [bindC_out fun w hw => h w (List.mem_cons_of_mem _ hw)]
    split
    · rfl
    · have : x ≠ n := by rintro rfl; exact h v List.mem_cons_self
      simp [this]
theorem bindL_get {kindOf : Str → Option NameKind} {x : Str} {v : Value} : ∀ {P : List Str} {vs : List Value} {i : Nat} {m : Str → Option Value}, P.Nodup → P[i]? = some x → vs[i]? = some v → kindOf x = some .local →
    bindL kindOf (P.zip vs) m x = some v
  | [], _, _, _, _, h, _, _ => by simp at h
  | _ :: _, [], _, _, _, _, h, _ => by simp at h
  | p :: P, w :: vs, 0, m, nd, h1, h2, hk => by
    simp at h1 h2; subst h1; subst h2
    show bindL kindOf ((p, w) :: P.zip vs) m p = _
    unfold bindL
    rw [bindL_out fun v hv => (List.nodup_cons.mp nd).1 (List.of_mem_zip hv).1, if_pos hk]
    simp
  | p :: P, w :: vs, i + 1, m, nd, h1, h2, hk => by
    show bindL kindOf ((p, w) :: P.zip vs) m x = _
    unfold bindL
    exact bindL_get (i := i) (List.nodup_cons.mp nd).2 (by simpa using h1) (by simpa using h2) hk
theorem bindC_get {kindOf : Str → Option NameKind} {x : Str} {v : Value} : ∀ {P : List Str} {vs : List Value} {i : Nat} {m : Str → Option Value}, P.Nodup → P[i]? = some x → vs[i]? = some v → kindOf x ≠ some .local →
    bindC kindOf (P.zip vs) m x = some v
  | [], _, _, _, _, h, _, _ => by simp at h
  | _ :: _, [], _, _, _, _, h, _ => by simp at h
  | p :: P, w :: vs, 0, m, nd, h1, h2, hk => by
    simp at h1 h2; subst h1; subst h2
    show bindC kindOf ((p, w) :: P.zip vs) m p = _
    unfold bindC
    rw [bindC_out fun v hv => (List.nodup_cons.mp nd).1 (List.of_mem_zip hv).1, if_neg hk]
    simp
  | p :: P, w :: vs, i + 1, m, nd, h1, h2, hk => by
    show bindC kindOf ((p, w) :: P.zip vs) m x = _
    unfold bindC
    exact bindC_get (i := i) (List.nodup_cons.mp nd).2 (by simpa using h1) (by simpa using h2) hk

noncomputable def start (N : List Str) (vs : List V) : St := vs.map some ++ List.replicate (N.length - vs.length) none

noncomputable def cxOf (CX : CXT) (P : Program) (w : World) (K : PySem.W.Frag) (mg : Str → Option Value) (base : Heap) (N : List Str) (qual : Str) (scope : Scope) (f : Addr) (cd : Value) (A : Around) (outer : List Env) (s : Shared) (H : Hp) (E : XK) : Cx where
  prog := P
  w := w
  K := K
  mg := mg
  base := base
  A := A.deeper (envOfC qual scope s.heap.objs.size f cd)
  N := N
  s₀ := s
  H₀ := H
  env := envOfC qual scope s.heap.objs.size f cd
  outer := outer
  stack := envOfC qual scope s.heap.objs.size f cd :: outer
  ex := []
  calm := true
  fn := fun _ => true
  pn := []
  xe := fun e s' => wpAny (model P w) (A.deeper (envOfC qual scope s.heap.objs.size f cd)) (leaving (envOfC qual scope s.heap.objs.size f cd) e) (fun _ s'' => CX outer H s E e s'') (fun e' s'' => CX outer H s E e' s'') s'

theorem cell_has {sc : Scope} {n : Nat} {x : Str} (h : sc.names.lookup x = some .cell) : ∃ c, (cellsFrom n sc.names []).lookup x = some c := by
  have q := PySem.W.cellsFrom_some sc.names n [] (.inl h)
  exact Option.isSome_iff_exists.mp q

theorem inv_start {CX : CXT} {P : Program} {w : World} {K : PySem.W.Frag} {mg : Str → Option Value} {base : Heap} {N ps : List Str} {qual : Str} {scope : Scope} {f : Addr} {cd : Value} {A : Around} {outer : List Env} {s s1 : Shared} {H : Hp} {E : XK} {us : List Value} {vs : List V}
    (S : FnScope N ps scope) (hd : A.handled = none) (e0 : Env0 P w K mg base A outer s H) (hl : vs.length = ps.length) (r : Vals vs us)
    (x : InCallC s s.heap.objs.size (bindL (envOfC qual scope s.heap.objs.size f cd).kindOf (ps.zip us) fun _ => none) (cellsFrom (s.heap.objs.size + 1) scope.names []) (bindC (envOfC qual scope s.heap.objs.size f cd).kindOf (ps.zip us) fun _ => none) s1) :
    Inv (cxOf CX P w K mg base N qual scope f cd A outer s H E) [] (start N vs) H s1 := by
  have hpl : ps.length ≤ N.length := by have := congrArg List.length S.pre; rw [List.length_take] at this; omega
  obtain ⟨h1, tk, rfl, hk⟩ := x.done
  have noA : ∀ b : Addr, b ∉ (cxOf CX P w K mg base N qual scope f cd A outer s H E).ex := fun b z => absurd (show b ∈ ([] : List Addr) from z) (by simp)
  refine ⟨⟨e0.mod, S.kind, rfl, rfl, Nat.le_refl _, fun y z c h1 h2 => ?_, fun y hy => ?_, fun y c _ h => ?_, fun _ => hd, Around.frames_deeper e0.frames, .inr ⟨rfl, rfl⟩, fun b z => absurd z (noA b), e0.bs, e0.bsz, fun b _ _ => noA b, fun b z => absurd z (noA b), e0.funs, e0.frf⟩,
    rfl, e0.bare, Un.kept hk, ⟨_, x.toInCall.ns, fun i y v h1 h2 h3 => ?_⟩, fun y c h => ⟨_, x.cell y c h⟩, e0.hok.fresh (Nat.le_refl _), fun y c h => ?_, fun p hp => absurd (show p ∈ ([] : List (Addr × Obj)) from hp) (by simp), e0.hok.kept hk, ?_⟩
  · exact name_of_addr x.apart (PySem.mem_of_lookup h1) (PySem.mem_of_lookup h2)
  · have hy : scope.names.lookup y = some .cell ∨ scope.names.lookup y = some .free := hy
    rcases hy with hy | hy
    · exact cell_has hy
    · exact absurd rfl (S.nofree _ (PySem.mem_of_lookup hy))
  · exact Nat.le_of_lt (x.above y c (PySem.mem_of_lookup h))
  · have hi : i < vs.length := by
      unfold start at h2
      by_cases hi : i < vs.length
      · exact hi
      · rw [List.getElem?_append_right (by simpa using hi)] at h2
        rw [List.getElem?_replicate] at h2
        split at h2 <;> cases h2
    have ha : vs[i]? = some v := by
      unfold start at h2
      rw [List.getElem?_append_left (by simpa using hi), List.getElem?_map] at h2
      cases e : vs[i]? with
      | none => rw [e] at h2; cases h2
      | some a => rw [e] at h2; cases h2; rfl
    obtain ⟨u, hu, rv⟩ := r.get ha
    have hp : ps[i]? = some y := by
      rw [← S.pre, List.getElem?_take_of_lt (by omega)]; exact h1
    have ndP : ps.Nodup := by rw [← S.pre]; exact S.nd.sublist (List.take_sublist _ _)
    refine ⟨u, rv, ?_⟩
    rcases S.par y (List.mem_of_getElem? hp) with k | k
    · exact .inl ⟨k, bindL_get ndP hp hu k⟩
    · obtain ⟨c, e⟩ := cell_has (n := s.heap.objs.size + 1) k
      refine .inr ⟨.inl k, c, e, ?_⟩
      have q := x.cell y c e
      rw [bindC_get ndP hp hu (by show scope.names.lookup y ≠ _; rw [k]; decide)] at q
      exact q
  · exact e0.hok.fresh (Nat.le_of_lt (x.above y c (PySem.mem_of_lookup h)))
  · unfold start
    show _ = N.length
    rw [List.length_append, List.length_map, List.length_replicate]
    omega

theorem fn_of {CX : CXT} {P : Program} {w : World} {K : PySem.W.Frag} {mg : Str → Option Value} {base : Heap} {k : Nat} {f : Addr} {name qual : Str} {params : Arguments} {body : List Stmt} {scope : Scope} {dV kV doc pm cdv ct oc : Value} {an od : Option Addr}
    {osl : Array (Option Value)} {N ps : List Str} {sp : Sp} (lk : K.lookup f = some ⟨oc, od, .func (PySem.W.fnOf name qual params body scope dV kV doc pm an cdv ct), osl⟩) (hcd : PySem.W.codeIn K cdv qual = true) (S : FnScope N ps scope)
    (len : ∀ vs H Q E, sp vs H Q E → vs.length = ps.length)
    (hbody : ∀ (A : Around) (outer : List Env) (s : Shared) (H : Hp) (vs : List V) (Q : VK) (E : XK), Room k (A.deeper (envOfC qual scope s.heap.objs.size f cdv)) → sp vs H Q E →
      ∃ t, PSs (cxOf CX P w K mg base N qual scope f cdv A outer s H E) body t ∧ t { nx := fun _ H' => Q .non H', rt := Q } (start N vs) H) :
    FnOk P w K mg base CX (k + 1) f (PySem.W.fnOf name qual params body scope dV kV doc pm an cdv ct) ps sp := by
  refine ⟨len, fun A outer s H args us vs Q E hr e0 hb r hsp => ?_⟩
  have hl := len _ _ _ _ hsp
  have KX : K.In s.heap := e0.mod.kin.keeps fun b o e => (e0.bs b o e).1
  have lim : s.heap.NoLimit := e0.mod.nolimit.keeps fun b o e => (e0.bs b o e).1
  have hkind : ∀ y ∈ ps.zip us, scope.names.lookup y.1 = some .local ∨ (scope.names.lookup y.1 = some .cell ∧ ((cellsFrom (s.heap.objs.size + 1) scope.names []).lookup y.1).isSome = true) := fun ⟨n, v⟩ hy => by
    rcases S.par n (List.of_mem_zip hy).1 with q | q
    · exact .inl q
    · exact .inr ⟨q, PySem.W.cellsFrom_some _ _ _ (.inl q)⟩
  refine codeAny_call_function hr.depth (KX _ _ lk) rfl S.co S.gen rfl (PySem.W.codeRec_of KX hcd) (hb _ _ _ _ ?_)
  refine wpAny_newFunctionEnv_cells S.kind hkind fun env he s1 x => ?_
  subst he
  refine ⟨lim.keeps x.toInCall.keep, codeAny_func ?_⟩
  obtain ⟨t, ht, hq⟩ := hbody A outer s H vs Q E (hr.deeper _) hsp
  have I : Inv (cxOf CX P w K mg base N qual scope f cdv A outer s H E) [] (start N vs) H s1 := inv_start S hr.hd e0 hl r x
  refine wpAny_mono (ht [] s1 (start N vs) H _ I hq) (fun fl s' hs => ?_) fun e s' hs => hs
  have fin : ∀ {σ' : St} {H' : Hp} {v : V} {u : Value}, Inv (cxOf CX P w K mg base N qual scope f cdv A outer s H E) [] σ' H' s' → RelV v u → Q v H' → CE outer P w H s Q u s' :=
    fun {σ' H' v u} J rv q => ⟨v, H', J.os, J.bare, J.base, J.hok, rv, q⟩
  cases fl with
  | ret u =>
    obtain ⟨v, σ', H', J, rv, q⟩ := hs
    exact fin J rv q
  | next =>
    obtain ⟨σ', H', J, q⟩ := hs
    exact fin (v := V.non) (u := Value.none) J rfl q
  | brk =>
    obtain ⟨_, _, _, q⟩ := hs
    exact False.elim q
  | cont =>
    obtain ⟨_, _, _, q⟩ := hs
    exact False.elim q
end L2

namespace L2
open PySem PySem.Spec PyProof.Rows
section
variable {X : Cx} {x : Str} {p pos : Pos} {e : Expr} {es : List Expr} {t : TA} {id T : String} {r : List V → Hp → VK → Prop}

noncomputable def tCB (r : List V → Hp → VK → Prop) (t : TA) : TE := fun σ H Q => t σ H fun vs H1 => r vs H1 Q
theorem pe_callB (hc : CallR X (.builtin id) r) (hg : Gl X x) (hm : X.mg x = none) (hv : bootBuiltins x = some (.builtin id)) (ha : PA X (e :: es) t) (hn : x ≠ "__name__" := by decide) (hdb : (x == ("__debug__" : Str)) = false := by decide)
    (he : starEach (e :: es) X.env = (false, eval e X.env) :: starEach es X.env := by rfl) (hpl : (backTo pos (starEach es X.env)).any (·.1) = false := by rfl) : PE X (.Call (.Name x p) (e :: es) [] pos) (tCB r t) := by
  intro pins s σ H Q I h
  refine wpAny_Call_Name_kw (ld_blt I hg hm hv ?_ hn hdb)
  exact PyProof.Rows.callWith_builtin1 (thn (ha pos pins s σ H _ I h) fun us s1 hp2 => by obtain ⟨vs, H1, I1, r1, q1⟩ := hp2; exact hc pins s1 σ H1 vs us Q I1 r1 q1) he hpl
theorem pe_callTy (hc : CallR X (.type T) r) (hg : Gl X x) (hm : X.mg x = none) (hv : bootBuiltins x = some (.type T)) (ha : PA X (e :: es) t) (hn : x ≠ "__name__" := by decide) (hdb : (x == ("__debug__" : Str)) = false := by decide)
    (he : starEach (e :: es) X.env = (false, eval e X.env) :: starEach es X.env := by rfl) (hpl : (backTo pos (starEach es X.env)).any (·.1) = false := by rfl) : PE X (.Call (.Name x p) (e :: es) [] pos) (tCB r t) := by
  intro pins s σ H Q I h
  refine wpAny_Call_Name_kw (ld_blt I hg hm hv ?_ hn hdb)
  exact PyProof.Rows.callWith_type1 (thn (ha pos pins s σ H _ I h) fun us s1 hp2 => by obtain ⟨vs, H1, I1, r1, q1⟩ := hp2; exact hc pins s1 σ H1 vs us Q I1 r1 q1) he hpl
end
end L2

namespace HT
open PySem PyProof.Rows

section
open PySem.SeqAt
open PySem.AutoSeq1 (wpAny_loadPart')
open PySem.MeetsSeq PySem.MeetsSeq2 PySem.MeetsSeq3

end

section
variable {prog : Program} {w : World} {A : Around} {E : Value → Shared → Prop} {s : Shared}

theorem cat_tup {t b : Addr} {vs ws : List Value} {Q : Value → Shared → Prop} (ht : IsTup s.heap t vs.toArray) (hb : IsTup s.heap b ws.toArray) (hv : vs ≠ [])
    (h1 : ws = [] → Q (.ref t) s) (h2 : ws ≠ [] → Q (.ref s.heap.objs.size) { s with heap := s.heap.push { cls := .type "tuple", data := .seq (vs ++ ws).toArray } })
    (hsz : vs.length + ws.length ≤ sizeLine) : wpAny (model prog w) A (binaryOp .Add (.ref t) (.ref b)) Q E s := by
  obtain ⟨⟨cls, dd, data, sl⟩, ho, hc, n, hd⟩ := id ht
  obtain ⟨⟨cls2, dd2, data2, sl2⟩, ho2, hc2, n2, hd2⟩ := id hb
  simp only at hc hd hc2 hd2
  subst hc hd hc2 hd2
  have e : vs.toArray ++ ws.toArray = (vs ++ ws).toArray := by simp
  by_cases hw : ws = []
  · exact concat_meets ⟨_, ho, rfl⟩ ⟨_, ho2, rfl⟩ noFill_tuple_add seq_tuple_add PySem.F.slot_tuple_add PySem.F.entry_tuple_add (PySem.F.args_tuple_add_2 _ _)
      (tuple_addW1 t b vs.toArray ws.toArray n n2 dd dd2 sl sl2 (by simpa using hv) (by simp [hw])) ⟨ho, ho2, h1 hw⟩
  · refine concat_meets ⟨_, ho, rfl⟩ ⟨_, ho2, rfl⟩ noFill_tuple_add seq_tuple_add PySem.F.slot_tuple_add PySem.F.entry_tuple_add (PySem.F.args_tuple_add_2 _ _)
      (tuple_addW2 t b vs.toArray ws.toArray n n2 dd dd2 sl sl2 (by simpa using hv) (by simpa using hw) (by rw [List.size_toArray, List.size_toArray]; exact hsz)) ⟨ho, ho2, ?_⟩
    rw [e]
    exact h2 hw

noncomputable def sIx (n d : Nat) : Option Int → Nat
  | none => d
  | some v => if v < 0 then (v + (n : Int)).toNat else min v.toNat n
theorem sIx_le (n d : Nat) (hd : d ≤ n) (o : Option Int) : sIx n d o ≤ n := by
  cases o with
  | none => exact hd
  | some v =>
    show (if v < 0 then (v + (n : Int)).toNat else min v.toNat n) ≤ n
    by_cases hv : v < 0
    · rw [if_pos hv]; omega
    · rw [if_neg hv]; exact Nat.min_le_right _ _
theorem clip_eq (v : Int) (n d : Nat) : (if v < 0 then max (v + (n : Int)) 0 else min v (n : Int)) = ((sIx n d (some v) : Nat) : Int) := by
  show (if v < 0 then max (v + (n : Int)) 0 else min v (n : Int)) = (((if v < 0 then (v + (n : Int)).toNat else min v.toNat n) : Nat) : Int)
  by_cases hv : v < 0
  · simp only [if_pos hv]; omega
  · simp only [if_neg hv]; omega
theorem adjust_gen (lo hi : Option Int) (n : Nat) : Builtin.Slice.sliceAdjust lo hi 1 (n : Int) = (((sIx n 0 lo : Nat) : Int), ((sIx n n hi : Nat) : Int)) := by
  have h1 : ¬ ((1 : Int) < 0) := by omega
  unfold Builtin.Slice.sliceAdjust
  simp only [h1, if_false]
  refine Prod.ext ?_ ?_
  · cases lo with
    | none => rfl
    | some v => exact clip_eq v n 0
  · cases hi with
    | none => rfl
    | some v => exact clip_eq v n n
theorem places_gen (i j : Nat) : Builtin.Slice.slicePlaces (i : Int) (j : Int) 1 = j - i := by
  unfold Builtin.Slice.slicePlaces
  have h1 : (1 : Int) > 0 := by omega
  simp only [h1, if_true, Int.ediv_one]
  split <;> omega
theorem slicePart_ {v : Value} {o : Option Int} {Q : Option Int → Shared → Prop} (p : IsPart v o) (h : Q o s) : wpAny (model prog w) A (Builtin.Slice.slicePartIndex v) Q E s := by
  cases p with
  | none => exact slicePart_none h
  | int i t => exact slicePart_int h
theorem sliceApplied_gen {sl : Addr} {vl vu : Value} {lo hi : Option Int} {n : Nat} {Q : Int × Int × Nat → Shared → Prop} (hs : s.heap.IsSliceOf sl vl vu .none) (pl : IsPart vl lo) (pu : IsPart vu hi)
    (h : Q (((sIx n 0 lo : Nat) : Int), 1, sIx n n hi - sIx n 0 lo) s) : wpAny (model prog w) A (Builtin.Slice.sliceApplied (.ref sl) (pure (n : Int))) Q E s := by
  obtain ⟨os, hos, hcs, hds⟩ := id hs
  unfold Builtin.Slice.sliceApplied Builtin.Slice.sliceFields
  refine wpAny_bind (wpAny_bind (wpAny_field hos hds (x := vl) rfl (wpAny_bind (wpAny_field hos hds (x := vu) rfl (wpAny_bind (wpAny_field hos hds (x := .none) rfl (wpAny_pure ?_)))))))
  refine wpAny_bind (slicePart_none ?_)
  show wpAny _ _ (if ((1 : Int) == 0) = true then _ else _) _ _ s
  rw [if_neg (by decide)]
  refine wpAny_bind (slicePart_ pl (wpAny_bind (slicePart_ pu (wpAny_bind (wpAny_pure ?_)))))
  show wpAny _ _ (match Builtin.Slice.sliceAdjust lo hi 1 (n : Int) with | (lo, hi) => pure (lo, (1 : Int), Builtin.Slice.slicePlaces lo hi 1)) _ _ s
  rw [adjust_gen lo hi n]
  show wpAny _ _ (pure (((sIx n 0 lo : Nat) : Int), (1 : Int), Builtin.Slice.slicePlaces ((sIx n 0 lo : Nat) : Int) ((sIx n n hi : Nat) : Int) 1)) _ _ s
  rw [places_gen]
  exact wpAny_pure h
theorem pick_gen (xs : Array Value) (i k : Nat) : ((List.range k).filterMap fun (m : Nat) => xs[((i : Int) + (m : Int) * 1).toNat]?).toArray = ((xs.toList.drop i).take k).toArray := by
  have e : (fun (m : Nat) => xs[((i : Int) + (m : Int) * 1).toNat]?) = fun m => xs[i + m]? := by
    funext m
    have : ((i : Int) + (m : Int) * 1).toNat = i + m := by omega
    rw [this]
  rw [e]
  have := pick_run xs i k
  rw [List.filterMap_map] at this
  have e2 : ((fun x => xs[x]?) ∘ fun x => i + x) = fun m => xs[i + m]? := rfl
  rw [e2] at this
  rw [this]

theorem getItem_tuple_cut {t sl : Addr} {items : Array Value} {vl vu : Value} {lo hi : Option Int} {Q : Value → Shared → Prop} (ht : IsTup s.heap t items) (hs : s.heap.IsSliceOf sl vl vu .none) (pl : IsPart vl lo) (pu : IsPart vu hi)
    (hw : ¬ (sIx items.size 0 lo = 0 ∧ sIx items.size items.size hi = items.size))
    (h : Q (.ref s.heap.objs.size) { s with heap := s.heap.push { cls := .type "tuple", data := .seq ((items.toList.drop (sIx items.size 0 lo)).take (sIx items.size items.size hi - sIx items.size 0 lo)).toArray } })
    (hsz : items.size ≤ sizeLine) : wpAny (model prog w) A (getItem (.ref t) (.ref sl)) Q E s := by
  have htake : sizeOk (.seq ((items.toList.drop (sIx items.size 0 lo)).take (sIx items.size items.size hi - sIx items.size 0 lo)).toArray) := by
    show ((items.toList.drop (sIx items.size 0 lo)).take (sIx items.size items.size hi - sIx items.size 0 lo)).toArray.size ≤ sizeLine
    rw [List.size_toArray, List.length_take, List.length_drop, Array.length_toList]
    omega
  have hj : sIx items.size items.size hi ≤ items.size := sIx_le _ _ (Nat.le_refl _) hi
  obtain ⟨os, hos, hcs, hds⟩ := id hs
  have hTs : s.TypeIs (.ref sl) "slice" := ⟨os, hos, hcs⟩
  unfold getItem
  try with_reducible refine wpAny_holding ?_
  first | refine wpAny_bind (wpAny_pure ?_) | skip
  refine wpAny_bind (wpAny_sequenceKey ht.typeIs (by decide) ?_)
  refine wpAny_bind (wpAny_callSpecial?_slot (name := Str.ofString "__getitem__") ht.typeIs PyProof.Rows.slot_tuple_getitem
    (wpAny_call_entry PyProof.Rows.slot_tuple_getitem ht.typeIs entry_tuple_getitem ?_ (args_tuple_getitem _ _)))
  show wpAny _ _ (Builtin.Tuple.tupleItemsOf (.ref t) >>= _) _ _ s
  refine wpAny_bind (tupleItemsOf_ ht ?_)
  refine wpAny_bind (wpAny_typeOf hTs ?_)
  rw [if_pos (by decide)]
  refine wpAny_bind (sliceApplied_gen hs pl pu ?_)
  have hno : ¬ ((((sIx items.size 0 lo : Nat) : Int) == 0 && (1 : Int) == 1 && (sIx items.size items.size hi - sIx items.size 0 lo) == items.size) = true) := by
    intro q
    rw [Bool.and_eq_true, Bool.and_eq_true] at q
    have q1 : ((sIx items.size 0 lo : Nat) : Int) = 0 := eq_of_beq q.1.1
    have q2 : sIx items.size items.size hi - sIx items.size 0 lo = items.size := eq_of_beq q.2
    exact hw ⟨by omega, by omega⟩
  show wpAny _ _ (if (((sIx items.size 0 lo : Nat) : Int) == 0 && (1 : Int) == 1 && (sIx items.size items.size hi - sIx items.size 0 lo) == items.size) = true then _ else _) _ _ s
  rw [if_neg hno, pick_gen]
  first
    | exact wpAny_bind (m := Builtin.Tuple.tupleExact _) (wpAny_newObj_type (wpAny_pure ⟨_, rfl, wpAny_pure h⟩) htake)
    | exact wpAny_bind (m := Builtin.Tuple.tupleExact _) (wpAny_newObj_type (wpAny_bind (wpAny_pure (wpAny_pure ⟨_, rfl, wpAny_pure h⟩))) htake)
    | exact wpAny_bind (wpAny_bind (m := Builtin.Tuple.tupleExact _) (wpAny_newObj_type (wpAny_pure (wpAny_pure ⟨_, rfl, wpAny_pure h⟩)) htake))
    | exact wpAny_bind (wpAny_bind (m := Builtin.Tuple.tupleExact _) (wpAny_newObj_type (wpAny_pure ⟨_, rfl, wpAny_pure h⟩) htake))
end
end HT

namespace L2
open PySem PySem.Spec PyProof.Rows

noncomputable abbrev TO := St → Hp → (Option Int → Hp → Prop) → Prop
noncomputable def PO (X : Cx) (e : Option Expr) (t : TO) : Prop :=
  ∀ (pins : List (Addr × Obj)) (s : Shared) (σ : St) (H : Hp) (Q : Option Int → Hp → Prop), Inv X pins σ H s → t σ H Q →
    wpAny (model X.prog X.w) X.A (evalPart e X.env) (fun u s' => ∃ o H', Inv X pins σ H' s' ∧ IsPart u o ∧ Q o H') X.xe s
noncomputable def tPart (t : TE) : TO := fun σ H Q => t σ H fun x H1 => ExQ Q (fun i Q => x = .int i ∧ Q (some i) H1)

section
variable {X : Cx} {e : Expr} {te : TE} {lo hi : Option Expr} {tl th : TO} {pos p2 : Pos}

theorem po_some (h : PE X e te) : PO X (some e) (tPart te) := by
  intro pins s σ H Q I hw
  rw [evalPart_some]
  refine thn (h pins s σ H _ I hw) fun u s1 hpat => ?_
  obtain ⟨x, H1, I1, r1, q1⟩ := hpat
  obtain ⟨i, rfl, q⟩ := q1
  obtain ⟨t, rfl⟩ := r1
  exact ⟨some i, H1, I1, .int i t, q⟩

noncomputable def SlR (X : Cx) (r : V → Option Int → Option Int → Hp → VK → Prop) : Prop :=
  ∀ (pins : List (Addr × Obj)) (s : Shared) (σ : St) (H : Hp) (x : V) (v vl vu : Value) (lo hi : Option Int) (sl : Addr) (Q : VK), Inv X pins σ H s → RelV x v → s.heap.IsSliceOf sl vl vu .none → IsPart vl lo → IsPart vu hi → r x lo hi H Q →
    ∃ T id, typeLookup (.type T) "__getitem__" = pure (some (.builtin id)) ∧ s.TypeIs v T ∧ wpAny (model X.prog X.w) X.A (getItem v (.ref sl)) (EP X pins σ Q) X.xe s
theorem SlR.or {r r' : V → Option Int → Option Int → Hp → VK → Prop} (h : SlR X r) (h' : SlR X r') : SlR X (fun x lo hi H Q => r x lo hi H Q ∨ r' x lo hi H Q) := by
  intro pins s σ H x v vl vu lo hi sl Q I rx hs pl pu q
  rcases q with q | q
  · exact h pins s σ H x v vl vu lo hi sl Q I rx hs pl pu q
  · exact h' pins s σ H x v vl vu lo hi sl Q I rx hs pl pu q
noncomputable def tSl (r : V → Option Int → Option Int → Hp → VK → Prop) (te : TE) (tl th : TO) : TE := fun σ H Q => te σ H fun x H1 => tl σ H1 fun l H2 => th σ H2 fun u H3 => r x l u H3 Q
theorem pe_slice {r : V → Option Int → Option Int → Hp → VK → Prop} (hr : SlR X r) (he : PE X e te) (hl : PO X lo tl) (hu : PO X hi th) : PE X (.Subscript e (.Slice lo hi none p2) pos) (tSl r te tl th) := by
  intro pins s σ H Q I h
  refine Subscript_ (thn (he pins s σ H _ I h) fun v s1 hpat => ?_)
  obtain ⟨x, H1, I1, r1, q1⟩ := hpat
  refine wpAny_Slice (thn (hl pins s1 σ H1 _ I1 q1) fun vl s2 hpat => ?_)
  obtain ⟨l, H2, I2, pl, q2⟩ := hpat
  refine thn (hu pins s2 σ H2 _ I2 q2) fun vu s3 hpat => ?_
  obtain ⟨u, H3, I3, pu, q3⟩ := hpat
  rw [evalPart_none]
  refine wpAny_pure ?_
  have I4 : Inv X pins σ H3 { s3 with heap := s3.heap.push { cls := .type "slice", data := .fields #[vl, vu, .none] } } := I3.kept (t' := s3.toks) fun b ob q => Heap.get?_push_of_some _ q
  obtain ⟨T, id, hT, ht, hg⟩ := hr pins { s3 with heap := s3.heap.push { cls := .type "slice", data := .fields #[vl, vu, .none] } } σ H3 x v vl vu l u s3.heap.objs.size Q I4 r1 (Heap.IsSliceOf.new ..) pl pu q3
  show wpAny (model X.prog X.w) X.A (subscriptTail e (.Slice lo hi none p2) v (.ref s3.heap.objs.size)) (EP X pins σ Q) X.xe { s3 with heap := s3.heap.push { cls := .type "slice", data := .fields #[vl, vu, .none] } }
  exact tail_any (ops := [.ref s3.heap.objs.size, v]) ht hT hg (by with_unfolding_all rfl)

noncomputable def cutV (xs : List V) (lo hi : Option Int) : List V := (xs.drop (HT.sIx xs.length 0 lo)).take (HT.sIx xs.length xs.length hi - HT.sIx xs.length 0 lo)
theorem cutV_length (xs : List V) (lo hi : Option Int) : (cutV xs lo hi).length ≤ xs.length := by
  unfold cutV
  rw [List.length_take, List.length_drop]
  omega
noncomputable def rSlT (K : PySem.W.Frag) : V → Option Int → Option Int → Hp → VK → Prop := fun x lo hi H Q => ExQ Q (fun a Q => ExQ Q (fun xs Q => x = .ref a ∧ SqT K H a xs ∧
  ¬ (HT.sIx xs.length 0 lo = 0 ∧ HT.sIx xs.length xs.length hi = xs.length) ∧ ∀ p, H p = none → Q (.ref p) (upd H p (.tup (cutV xs lo hi)))))
theorem sl_tup : SlR X (rSlT X.K) := by
  intro pins s σ H x v vl vu lo hi sl Q I rx hs pl pu h
  obtain ⟨a, xs, rfl, hx, hw, q⟩ := h
  cases rx
  obtain ⟨its, r, ht, hz⟩ := I.tuple hx
  have hlen : its.toArray.size = xs.length := by rw [List.size_toArray]; exact r.length.symm
  refine ⟨"tuple", _, PyProof.Rows.slot_tuple_getitem.lookup, ht.typeIs, ?_⟩
  refine HT.getItem_tuple_cut ht hs pl pu (by rw [hlen]; exact hw) ?_ (by rw [hlen]; exact hz)
  rw [hlen]
  refine ⟨.ref s.heap.objs.size, _, I.laid (t' := s.toks) (o := .tup (cutV xs lo hi)) (fun b ob q => Heap.get?_push_of_some _ q) (Nat.le_refl _) ?_, rfl, q _ (I.hok.fresh (Nat.le_refl _))⟩
  exact ⟨Nat.le_trans (cutV_length xs lo hi) hz, _, (r.drop (HT.sIx xs.length 0 lo)).take (HT.sIx xs.length xs.length hi - HT.sIx xs.length 0 lo), IsTup.new _ _⟩

noncomputable def rCatT (K : PySem.W.Frag) : R2 := fun x y H Q => ExQ Q (fun a Q => ExQ Q (fun b Q => ExQ Q (fun xs Q => ExQ Q (fun ys Q => x = .ref a ∧ y = .ref b ∧ SqT K H a xs ∧ SqT K H b ys ∧ xs ≠ [] ∧ xs.length + ys.length ≤ sizeLine ∧
  (ys = [] → Q (.ref a) H) ∧ (ys ≠ [] → ∀ p, H p = none → Q (.ref p) (upd H p (.tup (xs ++ ys))))))))
theorem Vals.nil_iff {xs : List V} {us : List Value} (r : Vals xs us) : us = [] ↔ xs = [] := by
  cases r with
  | nil => simp
  | cons _ _ => simp
theorem op_catT : OpR X (binaryOp .Add) (rCatT X.K) := by
  intro pins s σ H x y v u Q I rx ry h
  obtain ⟨a, b, xs, ys, rfl, rfl, ha, hb, hx, hz, q1, q2⟩ := h
  cases rx
  cases ry
  obtain ⟨its, r1, p1, _⟩ := I.tuple ha
  obtain ⟨its2, r2, p2, _⟩ := I.tuple hb
  refine HT.cat_tup p1 p2 (fun z => hx (r1.nil_iff.mp z)) (fun z => ⟨.ref a, H, I, rfl, q1 (r2.nil_iff.mp z)⟩) (fun z => ?_) (by rw [← r1.length, ← r2.length]; exact hz)
  refine ⟨.ref s.heap.objs.size, _, I.laid (t' := s.toks) (o := .tup (xs ++ ys)) (fun b ob q => Heap.get?_push_of_some _ q) (Nat.le_refl _) ?_, rfl, q2 (fun w => z (r2.nil_iff.mpr w)) _ (I.hok.fresh (Nat.le_refl _))⟩
  exact ⟨by rw [List.length_append]; exact hz, _, r1.append r2, IsTup.new _ _⟩
end
end L2

namespace L2
open PySem PySem.Spec PyProof.Rows

noncomputable def ixN (n : Nat) (i : Int) : Option Nat := if 0 ≤ i then (if i < n then some i.toNat else none) else if -(n : Int) ≤ i then some (i + n).toNat else none
noncomputable def atI {α : Type} (xs : List α) (i : Int) : Option α := (ixN xs.length i).bind fun j => xs[j]?
theorem ixN_seq {n : Nat} {i : Int} {j : Nat} (h : ixN n i = some j) : seqIndex? i n = some j ∧ j < n ∧ -(n : Int) ≤ i ∧ i < n := by
  unfold ixN at h
  by_cases h0 : 0 ≤ i
  · rw [if_pos h0] at h
    by_cases h1 : i < n
    · rw [if_pos h1] at h
      have e : i.toNat = j := Option.some.inj h
      exact ⟨by rw [seqIndex_of h0 h1, e], by omega, by omega, h1⟩
    · rw [if_neg h1] at h; cases h
  · rw [if_neg h0] at h
    by_cases h1 : -(n : Int) ≤ i
    · rw [if_pos h1] at h
      have e : (i + n).toNat = j := Option.some.inj h
      exact ⟨by rw [seqIndex_neg (by omega) h1, e], by omega, h1, by omega⟩
    · rw [if_neg h1] at h; cases h
theorem atI_get {α : Type} {xs : List α} {i : Int} {v : α} (h : atI xs i = some v) : ∃ j, seqIndex? i xs.length = some j ∧ xs[j]? = some v ∧ j < xs.length ∧ -(xs.length : Int) ≤ i ∧ i < xs.length := by
  unfold atI at h
  cases e : ixN xs.length i with
  | none => rw [e] at h; cases h
  | some j =>
    rw [e] at h
    obtain ⟨h1, h2, h3, h4⟩ := ixN_seq e
    exact ⟨j, h1, h, h2, h3, h4⟩
theorem atI_nat {α : Type} {xs : List α} {j : Nat} {v : α} (h : xs[j]? = some v) : atI xs (j : Int) = some v := by
  have hj : j < xs.length := (List.getElem?_eq_some_iff.mp h).1
  have e : ixN xs.length (j : Int) = some j := by
    unfold ixN
    rw [if_pos (by omega), if_pos (by omega)]; simp
  unfold atI; rw [e]; exact h
noncomputable def PlainIx (b : Expr) : Prop := ∀ o i, subscripted b false o i = operate [o, i] (getItem o i)
noncomputable def IxR (X : Cx) (r : R2) : Prop :=
  ∀ (value slice : Expr) (pins : List (Addr × Obj)) (s : Shared) (σ : St) (H : Hp) (x y : V) (v u : Value) (Q : VK), Inv X pins σ H s → RelV x v → RelV y u → r x y H Q →
    subscripted slice false v u = operate [v, u] (getItem v u) → wpAny (model X.prog X.w) X.A (subscriptTail value slice v u) (EP X pins σ Q) X.xe s
noncomputable def MtR (X : Cx) (id : String) (r : V → List V → Hp → VK → Prop) : Prop :=
  ∀ (pins : List (Addr × Obj)) (s : Shared) (σ : St) (H : Hp) (x : V) (xs : List V) (v : Value) (us : List Value) (Q : VK), Inv X pins σ H s → RelV x v → Vals xs us → r x xs H Q →
    wpAny (model X.prog X.w) X.A (call (.builtin id) (v :: us)) (EP X pins σ Q) X.xe s
section
variable {X : Cx} {a b : Expr} {ta tb : TE} {pos : Pos}
theorem IxR.or {r r' : R2} (h : IxR X r) (h' : IxR X r') : IxR X (fun x y H Q => r x y H Q ∨ r' x y H Q) := by
  intro value slice pins s σ H x y v u Q I rx ry q hs
  rcases q with q | q
  · exact h value slice pins s σ H x y v u Q I rx ry q hs
  · exact h' value slice pins s σ H x y v u Q I rx ry q hs
theorem MtR.or {id : String} {r r' : V → List V → Hp → VK → Prop} (h : MtR X id r) (h' : MtR X id r') : MtR X id (fun x xs H Q => r x xs H Q ∨ r' x xs H Q) := by
  intro pins s σ H x xs v us Q I rx rs q
  rcases q with q | q
  · exact h pins s σ H x xs v us Q I rx rs q
  · exact h' pins s σ H x xs v us Q I rx rs q
theorem pe_ix {r : R2} (hr : IxR X r) (ha : PE X a ta) (hb : PE X b tb) (hs : PlainIx b) : PE X (.Subscript a b pos) (tOp r ta tb) := by
  intro pins s σ H Q I h
  exact Subscript_ (binT ha hb I h fun v u s2 x y H2 I2 rx ry q => hr a b pins s2 σ H2 x y v u Q I2 rx ry q (hs _ _))

noncomputable def rIxL (K : PySem.W.Frag) : R2 := fun x y H Q => ExQ Q (fun p Q => ExQ Q (fun xs Q => ExQ Q (fun i Q => ExQ Q (fun v Q => x = .ref p ∧ y = .int i ∧ SqL K H p xs ∧ atI xs i = some v ∧ Q v H))))
noncomputable def rIxT (K : PySem.W.Frag) : R2 := fun x y H Q => ExQ Q (fun p Q => ExQ Q (fun xs Q => ExQ Q (fun i Q => ExQ Q (fun v Q => x = .ref p ∧ y = .int i ∧ SqT K H p xs ∧ atI xs i = some v ∧ Q v H))))
theorem ix_list : IxR X (rIxL X.K) := by
  intro value slice pins s σ H x y v u Q I rx ry h hs
  obtain ⟨p, xs, i, z, rfl, rfl, hq, he, q⟩ := h
  cases rx
  obtain ⟨t, rfl⟩ := ry
  obtain ⟨its, r, pl, hz⟩ := I.list hq
  obtain ⟨j, h1, h2, h3, h4, h5⟩ := atI_get he
  obtain ⟨w, ew, rw'⟩ := r.get h2
  have hl := r.length
  have hn := line63
  have fin : EP X pins σ Q w s := ⟨z, H, I, rw', q⟩
  by_cases h0 : 0 ≤ i
  · have hj : i.toNat = j := by
      rw [seqIndex_of h0 h5] at h1
      exact Option.some.inj h1
    exact item_listR pl.isList h0 (by omega) (by rw [hj]; simpa using ew) fin hs
  · have hj : (i + (its.toArray.size : Int)).toNat = j := by
      rw [seqIndex_neg (by omega) h4] at h1
      rw [List.size_toArray, ← hl]
      exact Option.some.inj h1
    exact subscriptTail_builtinR (x := w) pl.isList.typeIs slot_list_getitem.lookup
      (wpAny_getItem_list_neg (Q := fun r s' => r = w ∧ EP X pins σ Q r s') pl.isList (by omega) (by rw [List.size_toArray] <;> omega) (by omega) (by rw [hj]; simpa using ew) ⟨rfl, fin⟩) hs
theorem ix_tup : IxR X (rIxT X.K) := by
  intro value slice pins s σ H x y v u Q I rx ry h hs
  obtain ⟨p, xs, i, z, rfl, rfl, hq, he, q⟩ := h
  cases rx
  obtain ⟨t, rfl⟩ := ry
  obtain ⟨its, r, pl, hz⟩ := I.tuple hq
  obtain ⟨j, h1, h2, h3, h4, h5⟩ := atI_get he
  obtain ⟨w, ew, rw'⟩ := r.get h2
  have hl := r.length
  have hn := line63
  have fin : EP X pins σ Q w s := ⟨z, H, I, rw', q⟩
  exact subscriptTail_builtinR (x := w) pl.typeIs slot_tuple_getitem.lookup
    (getItem_tuple (j := j) (Q := fun r s' => r = w ∧ EP X pins σ Q r s') pl (by omega) (by omega) (by rw [List.size_toArray, ← hl]; exact h1) (by simpa using ew) ⟨rfl, fin⟩) hs
theorem mapSeq_set (its : List Value) (n j : Nat) (u : Value) : Obj.mapSeq (·.setIfInBounds j u) { cls := .type "list", data := .seq its.toArray n } = { cls := .type "list", data := .seq (its.set j u).toArray n } := by
  simp [Obj.mapSeq]
theorem Inv.lst {pins : List (Addr × Obj)} {σ : St} {H : Hp} {s : Shared} {p : Addr} {xs : List V} (I : Inv X pins σ H s) (h : H p = some (.lst xs)) :
    ∃ (its : List Value) (n : Nat), Vals xs its ∧ s.heap.get? p = some { cls := .type "list", data := .seq its.toArray n } ∧ xs.length ≤ sizeLine := by
  obtain ⟨z, its, n, r, e⟩ := I.hok p _ h
  exact ⟨its, n, r, e, z⟩
theorem Inv.lstUpd {pins : List (Addr × Obj)} {σ : St} {H : Hp} {s : Shared} {p : Addr} {xs ys : List V} {its its' : List Value} {n n' : Nat} {f : Obj → Obj} (I : Inv X pins σ H s) (h : H p = some (.lst xs))
    (ho : s.heap.get? p = some { cls := .type "list", data := .seq its.toArray n }) (hf : f { cls := .type "list", data := .seq its.toArray n } = { cls := .type "list", data := .seq its'.toArray n' }) (r : Vals ys its') (hz : ys.length ≤ sizeLine) (t : Nat) :
    Inv X pins σ (upd H p (.lst ys)) { s with heap := s.heap.update p f, toks := t } := by
  have e : (s.heap.update p f).get? p = some { cls := .type "list", data := .seq its'.toArray n' } := by
    rw [Heap.get?_update_self f ho (by rw [hf] <;> rfl), hf]
  refine I.write (x := p) (e := p) (by rw [h]; trivial) (.inl rfl) (fun b u hb q => (Heap.get?_update_other _ _ (Ne.symm hb)).trans q) ⟨_, e⟩ ?_
  exact ⟨hz, its', n', r, e⟩
noncomputable def rSetL : V → V → V → Hp → (Hp → Prop) → Prop := fun o i v H Q => ExQ Q (fun p Q => ExQ Q (fun xs Q => ExQ Q (fun k Q => ExQ Q (fun j Q => o = .ref p ∧ i = .int k ∧ H p = some (.lst xs) ∧ ixN xs.length k = some j ∧ Q (upd H p (.lst (xs.set j v)))))))
theorem set_list : PSet X rSetL := by
  intro pins s σ H o i v ov iv u Q I ro ri rv h
  obtain ⟨p, xs, k, j, rfl, rfl, hp, hj, q⟩ := h
  cases ro
  obtain ⟨t, rfl⟩ := ri
  obtain ⟨its, n, r, ho, hz⟩ := I.lst hp
  obtain ⟨h1, h2, h3, h4⟩ := ixN_seq hj
  have hl := r.length
  have hn := line63
  have I' : Inv X pins σ (upd H p (.lst (xs.set j v))) { s with heap := s.heap.update p (Obj.mapSeq (·.setIfInBounds j u)) } :=
    I.lstUpd hp ho (mapSeq_set its n j u) (r.set rv j) (by rw [List.length_set]; exact hz) s.toks
  by_cases h0 : 0 ≤ k
  · have hk : k.toNat = j := by
      rw [seqIndex_of h0 h4] at h1
      exact Option.some.inj h1
    exact PySem.W.ki_setAt ho h0 (by omega) (by rw [List.size_toArray, ← hl]; exact h4) (by rw [hk]; exact ⟨_, I', q⟩)
  · have hk : (k + (its.toArray.size : Int)).toNat = j := by
      rw [seqIndex_neg (by omega) h3] at h1
      rw [List.size_toArray, ← hl]
      exact Option.some.inj h1
    exact PySem.W.ki_setBack ho (by omega) (by rw [List.size_toArray, ← hl]; exact h3) (by omega) (by rw [hk]; exact ⟨_, I', q⟩)

theorem slice_bounds (lo hi : Option Int) (n : Nat) : (sliceBounds lo hi none n).1 = ((HT.sIx n 0 lo : Nat) : Int) ∧ (sliceBounds lo hi none n).2.1 = ((HT.sIx n n hi : Nat) : Int) ∧ (sliceBounds lo hi none n).2.2 = 1 := by
  refine ⟨?_, ?_, rfl⟩
  · cases lo with
    | none => simp [sliceBounds, HT.sIx]
    | some i =>
      simp only [sliceBounds, HT.sIx, Option.getD_none, show (1 : Int) > 0 by decide, if_true]
      by_cases h : i < 0
      · simp only [h, if_true] <;> omega
      · simp only [h, if_false] <;> omega
  · cases hi with
    | none => simp [sliceBounds, HT.sIx]
    | some i =>
      simp only [sliceBounds, HT.sIx, Option.getD_none, show (1 : Int) > 0 by decide, if_true]
      by_cases h : i < 0
      · simp only [h, if_true] <;> omega
      · simp only [h, if_false] <;> omega
theorem slicePick_cut (its : List Value) (lo hi : Option Int) : slicePick its.toArray lo hi none = ((its.drop (HT.sIx its.length 0 lo)).take (HT.sIx its.length its.length hi - HT.sIx its.length 0 lo)).toArray := by
  obtain ⟨h1, h2, h3⟩ := slice_bounds lo hi its.toArray.size
  unfold slicePick
  rw [h1, h2, h3]
  simp only [sliceRange_one, pick_run, List.size_toArray] <;> rfl
noncomputable def rSlL (K : PySem.W.Frag) : V → Option Int → Option Int → Hp → VK → Prop := fun x lo hi H Q => ExQ Q (fun a Q => ExQ Q (fun xs Q => x = .ref a ∧ SqL K H a xs ∧ ∀ p, H p = none → Q (.ref p) (upd H p (.lst (cutV xs lo hi)))))
theorem sl_list : SlR X (rSlL X.K) := by
  intro pins s σ H x v vl vu lo hi sl Q I rx hs pl pu h
  obtain ⟨a, xs, rfl, hx, q⟩ := h
  cases rx
  obtain ⟨its, r, ht, hz⟩ := I.list hx
  have hlen := r.length
  refine ⟨"list", _, slot_list_getitem.lookup, ht.isList.typeIs, ?_⟩
  refine wpAny_getItem_list_slice ht.isList hs pl pu .none (by simp) ?_ (by rw [List.size_toArray] <;> omega)
  rw [slicePick_cut, ← hlen]
  refine ⟨.ref s.heap.objs.size, _, I.laid (t' := s.toks) (o := .lst (cutV xs lo hi)) (fun b ob q => Heap.get?_push_of_some _ q) (Nat.le_refl _) ?_, rfl, q _ (I.hok.fresh (Nat.le_refl _))⟩
  exact ⟨Nat.le_trans (cutV_length xs lo hi) hz, _, 0, (r.drop (HT.sIx xs.length 0 lo)).take (HT.sIx xs.length xs.length hi - HT.sIx xs.length 0 lo), Heap.get?_push_size _ rfl⟩

noncomputable def flatV : V → Bool
  | .non => true
  | .bl _ => true
  | .int _ => true
  | .str _ => true
  | _ => false
noncomputable def eqV : V → V → Bool
  | .non, .non => true
  | .bl a, .bl b => a == b
  | .bl a, .int b => (if a then 1 else 0) == b
  | .int a, .bl b => a == (if b then 1 else 0)
  | .int a, .int b => a == b
  | .str a, .str b => a == b
  | _, _ => false
theorem eqAt_V {A : Around} {s : Shared} {y x : V} {u v : Value} (ry : RelV y u) (rx : RelV x v) (fy : flatV y = true) (fx : flatV x = true) : SeqAt.EqAt A s u v (eqV y x) := by
  cases y with
  | non =>
    cases ry
    cases x with
    | non => cases rx; exact SeqAt.EqAt.same _
    | bl b => cases rx; exact SeqAt.EqAt.none_bool b
    | int b => obtain ⟨t, rfl⟩ := rx; exact SeqAt.EqAt.none_int b t
    | str b => obtain ⟨t, rfl⟩ := rx; exact SeqAt.EqAt.none_str b t
    | _ => exact absurd (show false = true from fx) Bool.false_ne_true
  | bl a =>
    cases ry
    cases x with
    | non => cases rx; exact SeqAt.EqAt.bool_none a
    | bl b => cases rx; exact SeqAt.EqAt.bool_bool a b
    | int b => obtain ⟨t, rfl⟩ := rx; exact SeqAt.EqAt.bool_int a b t
    | str b => obtain ⟨t, rfl⟩ := rx; exact SeqAt.EqAt.bool_str a b t
    | _ => exact absurd (show false = true from fx) Bool.false_ne_true
  | int a =>
    obtain ⟨t', rfl⟩ := ry
    cases x with
    | non => cases rx; exact SeqAt.EqAt.int_none a t'
    | bl b => cases rx; exact SeqAt.EqAt.int_bool a t' b
    | int b => obtain ⟨t, rfl⟩ := rx; exact SeqAt.EqAt.int_int a t' b t
    | str b => obtain ⟨t, rfl⟩ := rx; exact SeqAt.EqAt.int_str a t' b t
    | _ => exact absurd (show false = true from fx) Bool.false_ne_true
  | str a =>
    obtain ⟨t', rfl⟩ := ry
    cases x with
    | non => cases rx; exact SeqAt.EqAt.str_none a t'
    | bl b => cases rx; exact SeqAt.EqAt.str_bool a t' b
    | int b => obtain ⟨t, rfl⟩ := rx; exact SeqAt.EqAt.str_int a t' b t
    | str b => obtain ⟨t, rfl⟩ := rx; exact SeqAt.EqAt.str_str a t' b t
    | _ => exact absurd (show false = true from fx) Bool.false_ne_true
  | _ => exact absurd (show false = true from fy) Bool.false_ne_true
noncomputable def eqU (x : V) (u : Value) : Bool := match u with
  | .none => eqV .non x
  | .bool b => eqV (.bl b) x
  | .int i _ => eqV (.int i) x
  | .str z _ => eqV (.str z) x
  | _ => false
theorem eqU_of {x y : V} {u : Value} (r : RelV y u) (f : flatV y = true) : eqU x u = eqV y x := by
  cases y with
  | non => cases r; rfl
  | bl b => cases r; rfl
  | int i => obtain ⟨t, rfl⟩ := r; rfl
  | str z => obtain ⟨t, rfl⟩ := r; rfl
  | _ => exact absurd (show false = true from f) Bool.false_ne_true
theorem any_eqU {x : V} : ∀ {xs : List V} {us : List Value}, Vals xs us → xs.all flatV = true → us.any (eqU x) = xs.any fun y => eqV y x
  | _, _, .nil, _ => rfl
  | y :: xs, u :: us, .cons r t, f => by
    rw [List.all_cons, Bool.and_eq_true] at f
    rw [List.any_cons, List.any_cons, eqU_of r f.1, any_eqU t f.2]
theorem mem_eqAt {A : Around} {s : Shared} {x : V} {v : Value} (rx : RelV x v) (fx : flatV x = true) : ∀ {xs : List V} {us : List Value}, Vals xs us → xs.all flatV = true → ∀ u ∈ us, SeqAt.EqAt A s u v (eqU x u)
  | _, _, .nil, _ => fun u hu => by cases hu
  | y :: xs, u :: us, .cons r t, f => fun u' hu => by
    rw [List.all_cons, Bool.and_eq_true] at f
    rcases List.mem_cons.mp hu with rfl | hu
    · rw [eqU_of r f.1]; exact eqAt_V r rx f.1 fx
    · exact mem_eqAt rx fx t f.2 u' hu
noncomputable def inV (x : V) (xs : List V) : Bool := xs.any fun y => eqV y x
noncomputable def rIn (K : PySem.W.Frag) (neg : Bool) : R2 := fun x y H Q => ExQ Q (fun p Q => ExQ Q (fun xs Q => y = .ref p ∧ (SqL K H p xs ∨ SqT K H p xs) ∧ flatV x = true ∧ xs.all flatV = true ∧ Q (.bl (if neg then !inV x xs else inV x xs)) H))
theorem op_in_seq : OpR X (compareOp .In) (rIn X.K false) := by
  intro pins s σ H x y v u Q I rx ry h
  obtain ⟨p, xs, rfl, hq, fx, fs, q⟩ := h
  cases ry
  rcases hq with hq | hq
  · obtain ⟨its, r, pl, hz⟩ := I.list hq
    refine SeqAt.in_listAt (eqU x) pl.isList (fun w hw => mem_eqAt rx fx r fs w (by simpa using hw)) ⟨.bl _, H, I, rfl, ?_⟩
    rw [show its.toArray.any (eqU x) = its.any (eqU x) by simp, any_eqU r fs]
    exact q
  · obtain ⟨its, r, pl, hz⟩ := I.tuple hq
    refine SeqAt.in_tupleAt (eqU x) pl (fun w hw => mem_eqAt rx fx r fs w (by simpa using hw)) ⟨.bl _, H, I, rfl, ?_⟩
    rw [show its.toArray.any (eqU x) = its.any (eqU x) by simp, any_eqU r fs]
    exact q
theorem call_len_seq : CallR X (.builtin "len") (fun xs H Q => ∃ p ys, xs = [.ref p] ∧ (SqL X.K H p ys ∨ SqT X.K H p ys) ∧ Q (.int ys.length) H) := by
  intro pins s σ H xs us Q I r h
  obtain ⟨p, ys, rfl, hq, q⟩ := h
  obtain ⟨u, rfl, rx⟩ := vals1 r
  cases rx
  have hn := line63
  rcases hq with hq | hq
  · obtain ⟨its, r', pl, hz⟩ := I.list hq
    have hlen := r'.length
    exact Calls.call_len_list pl.isList (by simp only [List.size_toArray] <;> omega) ⟨.int ys.length, H, I.tok _, ⟨s.toks + 1, by rw [List.size_toArray, hlen]⟩, q⟩
  · obtain ⟨its, r', pl, hz⟩ := I.tuple hq
    have hlen := r'.length
    exact len_tuple pl (by simp only [List.size_toArray] <;> omega) ⟨.int ys.length, H, I.tok _, ⟨s.toks + 1, by rw [List.size_toArray, hlen]⟩, q⟩
theorem CallR.or {f : Value} {r r' : List V → Hp → VK → Prop} (h : CallR X f r) (h' : CallR X f r') : CallR X f (fun xs H Q => r xs H Q ∨ r' xs H Q) := by
  intro pins s σ H xs us Q I rs q
  rcases q with q | q
  · exact h pins s σ H xs us Q I rs q
  · exact h' pins s σ H xs us Q I rs q
theorem call_list_of : CallR X (.type "list") (fun xs H Q => ∃ p ys, xs = [.ref p] ∧ (SqL X.K H p ys ∨ SqT X.K H p ys) ∧ ∀ l, H l = none → Q (.ref l) (upd H l (.lst ys))) := by
  intro pins s σ H xs us Q I r h
  obtain ⟨p, ys, rfl, hq, q⟩ := h
  obtain ⟨u, rfl, rx⟩ := vals1 r
  cases rx
  have fin : ∀ (its : List Value), Vals ys its → ys.length ≤ sizeLine → ∀ (h' : Heap) (c' : Nat), (∀ b o', s.heap.get? b = some o' → h'.get? b = some o') →
      h'.get? s.heap.objs.size = some { cls := .type "list", dict := none, data := .seq its.toArray c', slots := #[] } → EP X pins σ Q (.ref s.heap.objs.size) { s with heap := h' } := fun its r' hz h' c' kp e =>
    ⟨.ref s.heap.objs.size, _, I.laid (t' := s.toks) kp (Nat.le_refl _) (show ObjOk X.prog X.w _ h' _ (.lst ys) from ⟨hz, its, c', r', e⟩), rfl, q _ (I.hok.fresh (Nat.le_refl _))⟩
  rcases hq with hq | hq
  · obtain ⟨its, r', pl, hz⟩ := I.list hq
    have hlen := r'.length
    obtain ⟨o, ho, hc, n, hd⟩ := pl.isList
    exact call_list_seq p (.inl rfl) ho hc hd (fun h' c' kp e => fin its r' hz h' c' kp e) (by simp only [List.size_toArray] <;> omega)
  · obtain ⟨its, r', pl, hz⟩ := I.tuple hq
    have hlen := r'.length
    obtain ⟨o, ho, hc, n, hd⟩ := pl
    exact call_list_seq p (.inr rfl) ho hc hd (fun h' c' kp e => fin its r' hz h' c' kp e) (by simp only [List.size_toArray] <;> omega)
theorem call_tuple_of : CallR X (.type "tuple") (fun xs H Q => ∃ p ys, xs = [.ref p] ∧ ((SqL X.K H p ys ∧ ∀ l, H l = none → Q (.ref l) (upd H l (.tup ys))) ∨ (SqT X.K H p ys ∧ Q (.ref p) H))) := by
  intro pins s σ H xs us Q I r h
  obtain ⟨p, ys, rfl, h⟩ := h
  obtain ⟨u, rfl, rx⟩ := vals1 r
  cases rx
  rcases h with ⟨hq, q⟩ | ⟨hq, q⟩
  · obtain ⟨its, r', pl, hz⟩ := I.list hq
    have hlen := r'.length
    refine call_tuple_list pl.isList (fun h' kp => ?_) (by simp only [List.size_toArray] <;> omega)
    have I1 : Inv X pins σ H { s with heap := h' } := I.kept (t' := s.toks) kp
    have I2 : Inv X pins σ (upd H h'.objs.size (.tup ys)) { s with heap := h'.push { cls := .type "tuple", data := .seq its.toArray } } :=
      I1.laid (t' := s.toks) (fun b o e => Heap.get?_push_of_some _ e) (Nat.le_refl _) (show ObjOk X.prog X.w _ _ _ (.tup ys) from ⟨hz, its, r', IsTup.new _ _⟩)
    exact ⟨.ref h'.objs.size, _, I2, rfl, q _ (I1.hok.fresh (Nat.le_refl _))⟩
  · obtain ⟨its, r', pl, hz⟩ := I.tuple hq
    exact call_tuple_same pl ⟨.ref p, H, I, rfl, q⟩

noncomputable def tyV (K : PySem.W.Frag) (T : String) (x : V) (H : Hp) : Prop := match x with
  | .str _ => T = "str"
  | .int _ => T = "int"
  | .ref p => (T = "list" ∧ ∃ xs, SqL K H p xs) ∨ (T = "tuple" ∧ ∃ o, K.lookup p = some o ∧ o.cls = .type "tuple" ∧ o.dict = none) ∨
      (T = "dict" ∧ ((∃ kvs, H p = some (.dK kvs)) ∨ ∃ kvs, H p = some (.dT kvs))) ∨ (T = "set" ∧ ∃ S n, H p = some (.set S n))
  | _ => False
theorem tyV_is {pins : List (Addr × Obj)} {σ : St} {H : Hp} {s : Shared} {T : String} {x : V} {v : Value} (I : Inv X pins σ H s) (r : RelV x v) (ty : tyV X.K T x H) :
    s.TypeIs v T ∧ ∀ a, v = .ref a → ∃ ob, s.heap.get? a = some ob ∧ ob.dict = none := by
  cases x with
  | str z =>
    obtain ⟨t, rfl⟩ := r
    cases (show T = "str" from ty)
    exact ⟨typeIs_str s z t, fun _ e => nomatch e⟩
  | int i =>
    obtain ⟨t, rfl⟩ := r
    cases (show T = "int" from ty)
    exact ⟨typeIs_int s i t, fun _ e => nomatch e⟩
  | ref p =>
    cases r
    rcases ty with ⟨rfl, xs, hq⟩ | ⟨rfl, o, hk, hc, hd⟩ | ⟨rfl, hk⟩ | ⟨rfl, S, n, hk⟩
    · obtain ⟨its, _, pl, _⟩ := I.list hq
      refine ⟨pl.isList.typeIs, fun a e => ?_⟩
      cases e
      obtain ⟨o, n, e, c, hd, _⟩ := pl
      exact ⟨o, e, hd⟩
    · refine ⟨⟨o, I.kIn p o hk, hc⟩, fun a e => ?_⟩
      cases e
      exact ⟨o, I.kIn _ o hk, hd⟩
    · have z : ∃ o, s.heap.get? p = some o ∧ o.ExactDict := by
        rcases hk with ⟨kvs, hk⟩ | ⟨kvs, hk⟩
        · obtain ⟨_, _, _, _, o, _, _, e, ex, _⟩ := I.hok p _ hk
          exact ⟨o, e, ex⟩
        · obtain ⟨_, _, _, _, o, _, _, e, ex, _⟩ := I.hok p _ hk
          exact ⟨o, e, ex⟩
      obtain ⟨o, e, ex⟩ := z
      refine ⟨⟨o, e, ex.1⟩, fun a e2 => ?_⟩
      cases e2
      exact ⟨o, e, ex.2.1⟩
    · obtain ⟨o, _, _, _, e, ex, _⟩ := I.hok p _ hk
      refine ⟨⟨o, e, ex.1⟩, fun a e2 => ?_⟩
      cases e2
      exact ⟨o, e, ex.2.1⟩
  | _ => exact False.elim ty
noncomputable def tBM (K : PySem.W.Frag) (T : String) (r : V → List V → Hp → VK → Prop) (to : TE) (t : TA) : TE := fun σ H Q => to σ H fun x H1 => tyV K T x H1 ∧ t σ H1 fun xs H2 => r x xs H2 Q
variable {o e : Expr} {es : List Expr} {to : TE} {t : TA} {name : Str} {apos cpos : Pos} {T id : String} {r : V → List V → Hp → VK → Prop}
theorem pe_bm (pa : PlainAttrs T) (slot : Slot T name id) (hty : typeOf (.builtin id) = pure (.type "method_descriptor")) (hm : MtR X id r) (ho : PE X o to) (ha : PA X (e :: es) t)
    (hbase : attributeBase o name X.env (eval o X.env) = eval o X.env := by rfl)
    (hfew : ((backTo cpos (starEach (e :: es) X.env)).all (fun x => !x.1) && (backToKw cpos (keywordEach [] X.env)).all (fun x => x.1.isSome)
      && decide ((e :: es).length + ([] : List Keyword).length + (if ([] : List Keyword).isEmpty then 0 else 1) < 30)) = true := by rfl)
    (hline : (apos.endLine == cpos.line) = true := by rfl) (hs : starEach (e :: es) X.env = (false, eval e X.env) :: starEach es X.env := by rfl) (hplain : (backTo cpos (starEach es X.env)).any (·.1) = false := by rfl) :
    PE X (.Call (.Attribute o name apos) (e :: es) [] cpos) (tBM X.K T r to t) := by
  intro pins s σ H Q I h
  refine wpAny_Call_method_late hbase hfew hline rfl (thn (ho pins s σ H _ I h) fun v s1 hpat => ?_)
  obtain ⟨x, H1, I1, r1, ty, q1⟩ := hpat
  obtain ⟨h1, h2⟩ := tyV_is I1 r1 ty
  refine ⟨T, id, pa, slot, hty, h1, h2, ?_⟩
  have hA := ha cpos pins s1 σ H1 _ I1 q1
  rw [hs] at hA ⊢
  refine Calls.callWith_builtin (by show (false || (backTo cpos (starEach es X.env)).any (·.1)) = false; rw [hplain] <;> rfl) (Calls.evalArgs_plain ?_)
  exact thn hA fun us s2 hp2 => by obtain ⟨vs, H2, I2, r2, q2⟩ := hp2; exact hm pins s2 σ H2 x vs v us Q I2 r1 r2 q2
/- xs.append(e), list.index on a module's tuple .. are MtR facts of 06m -/
end
end L2

namespace L2
open PySem PySem.Spec PyProof.Rows

noncomputable def MtM (X : Cx) (id : String) (r : V → List V → Hp → VK → Prop) : Prop :=
  ∀ (pins : List (Addr × Obj)) (s : Shared) (σ : St) (H : Hp) (x : V) (xs : List V) (v : Value) (us : List Value) (Q : VK), Inv X pins σ H s → RelV x v → Vals xs us → r x xs H Q →
    wpAny (model X.prog X.w) X.A (call (.builtin id) (v :: us)) (EP X pins σ Q) X.xe s

theorem Vals.zero {us : List Value} (h : Vals [] us) : us = [] := by
  cases h
  rfl
theorem Vals.consI {x : V} {xs : List V} {us : List Value} (h : Vals (x :: xs) us) : ∃ u r, us = u :: r ∧ RelV x u ∧ Vals xs r := by
  cases h with
  | cons r t => exact ⟨_, _, rfl, r, t⟩
theorem Vals.one {x : V} {us : List Value} (h : Vals [x] us) : ∃ u, us = [u] ∧ RelV x u := by
  obtain ⟨u, r, rfl, a, t⟩ := h.consI
  obtain rfl := t.zero
  exact ⟨u, rfl, a⟩
theorem Vals.two {x y : V} {us : List Value} (h : Vals [x, y] us) : ∃ u v, us = [u, v] ∧ RelV x u ∧ RelV y v := by
  obtain ⟨u, r, rfl, a, t⟩ := h.consI
  obtain ⟨v, rfl, b⟩ := t.one
  exact ⟨u, v, rfl, a, b⟩
theorem Vals.rep {xs : List V} {us : List Value} (h : Vals xs us) : ∀ k : Nat, Vals (List.replicate k xs).flatten (List.replicate k us).flatten
  | 0 => .nil
  | k + 1 => by
    rw [List.replicate_succ, List.replicate_succ, List.flatten_cons, List.flatten_cons]
    exact Vals.append h (Vals.rep h k)
theorem foldl_rep (its : List Value) : ∀ (k : Nat) (acc : List Value),
    List.foldl (fun x1 x2 => x1 ++ x2) acc.toArray (List.replicate k its.toArray) = (acc ++ (List.replicate k its).flatten).toArray
  | 0, acc => by simp
  | k + 1, acc => by
    have e : acc.toArray ++ its.toArray = (acc ++ its).toArray := by simp
    have e2 : (acc ++ its) ++ (List.replicate k its).flatten = acc ++ (List.replicate (k + 1) its).flatten := by
      rw [List.replicate_succ, List.flatten_cons, List.append_assoc]
    rw [← e2, ← foldl_rep its k (acc ++ its), ← e, List.replicate_succ, List.foldl_cons]

section
variable {X : Cx} {pins : List (Addr × Obj)} {σ : St} {H : Hp} {s : Shared} {l b : Addr} {xs ys zs : List V}

theorem Inv.lset {its its' : List Value} {n : Nat} {f : Array Value → Array Value} {t' : Nat} (I : Inv X pins σ H s) (hH : H l = some (.lst xs))
    (e : s.heap.get? l = some { cls := .type "list", data := .seq its.toArray n }) (hf : f its.toArray = its'.toArray) (hv : Vals ys its') (hz : ys.length ≤ sizeLine) :
    Inv X pins σ (upd H l (.lst ys)) { s with heap := s.heap.update l (Obj.mapSeq f), toks := t' } := by
  have q := PySem.IsL.update e f
  rw [hf] at q
  refine I.write (x := l) (e := l) (by rw [hH]; exact trivial) (.inl rfl) (fun b' u hb hu => (Heap.get?_update_other s.heap (Obj.mapSeq f) (Ne.symm hb)).trans hu) ⟨_, q⟩ ?_
  exact ⟨hz, its', _, hv, q⟩
theorem Inv.lnew {its : List Value} {t' : Nat} (I : Inv X pins σ H s) (hv : Vals ys its) (hz : ys.length ≤ sizeLine) :
    Inv X pins σ (upd H s.heap.objs.size (.lst ys)) { s with heap := s.heap.push { cls := .type "list", data := .seq its.toArray }, toks := t' } :=
  I.laid (fun _ _ q => Heap.get?_push_of_some _ q) (Nat.le_refl _) ⟨hz, its, 0, hv, Heap.get?_push_size _ rfl⟩
theorem Inv.fresh (I : Inv X pins σ H s) : H s.heap.objs.size = none := I.hok.fresh (Nat.le_refl _)
theorem Inv.lstM (I : Inv X pins σ H s) (hH : H l = some (.lst xs)) : xs.length ≤ sizeLine ∧ ∃ (its : List Value) (n : Nat), Vals xs its ∧ xs.length = its.length ∧ s.heap.get? l = some { cls := .type "list", data := .seq its.toArray n } := by
  obtain ⟨z, its, n, r, e⟩ := I.hok l _ hH
  exact ⟨z, its, n, r, r.length, e⟩

theorem notLongL {n : Nat} (h : n ≤ sizeLine) : Builtin.List.listTooLong n = false := by
  unfold Builtin.List.listTooLong
  exact decide_eq_false (by omega)
end

section
variable {X : Cx}

noncomputable def rAppend : V → List V → Hp → VK → Prop := fun x vs H Q => ExQ Q (fun l Q => ExQ Q (fun xs Q => ExQ Q (fun y Q => x = .ref l ∧ vs = [y] ∧ H l = some (.lst xs) ∧ xs.length < sizeLine ∧ Q .non (upd H l (.lst (xs ++ [y]))))))
theorem mt_append : MtM X "list.append" rAppend := by
  intro pins s σ H x vs v us Q I rx rv h
  obtain ⟨l, xs, y, rfl, rfl, hH, hz, q⟩ := h
  cases rx
  obtain ⟨u, rfl, ru⟩ := rv.one
  obtain ⟨z, its, n, r, hl, e⟩ := I.lstM hH
  refine call_meets F.slot_list_append ⟨_, e, rfl⟩ F.entry_list_append (F.args_list_append_2 _ _) (PySem.list_append l its.toArray n u (by rw [List.size_toArray]; omega)) ⟨e, ?_⟩
  refine ⟨.non, _, I.lset (its' := its ++ [u]) hH e (by simp) (r.append (.cons ru .nil)) ?_, rfl, q⟩
  rw [List.length_append, List.length_singleton]
  omega

noncomputable def rExtend : V → List V → Hp → VK → Prop := fun x vs H Q => ExQ Q (fun l Q => ExQ Q (fun b Q => ExQ Q (fun xs Q => ExQ Q (fun zs Q => x = .ref l ∧ vs = [.ref b] ∧ H l = some (.lst xs) ∧ H b = some (.lst zs) ∧ xs.length + zs.length ≤ sizeLine ∧ Q .non (upd H l (.lst (xs ++ zs)))))))
theorem mt_extend : MtM X "list.extend" rExtend := by
  intro pins s σ H x vs v us Q I rx rv h
  obtain ⟨l, b, xs, zs, rfl, rfl, hH, hB, hz, q⟩ := h
  cases rx
  obtain ⟨u, rfl, ru⟩ := rv.one
  cases ru
  obtain ⟨z, its, n, r, hl, e⟩ := I.lstM hH
  obtain ⟨z2, its2, n2, r2, hl2, e2⟩ := I.lstM hB
  have hsz : its.toArray.size + its2.toArray.size ≤ sizeLine := by rw [List.size_toArray, List.size_toArray]; omega
  have hlong : ¬ (!its.toArray.isEmpty && Builtin.List.listTooLong (its.toArray.size + its2.toArray.size)) = true := by
    rw [notLongL hsz, Bool.and_false]
    exact Bool.false_ne_true
  refine call_meets F.slot_list_extend ⟨_, e, rfl⟩ F.entry_list_extend (F.args_list_extend_2 _ _)
    (AutoSeq1.list_extend_list_list_0 l its.toArray n b its2.toArray n2 hlong (by rw [List.size_toArray]; omega) (by omega)) ⟨e, e2, ?_⟩
  refine ⟨.non, _, I.lset (its' := its ++ its2) hH e (by simp) (r.append r2) ?_, rfl, q⟩
  rw [List.length_append]
  omega

noncomputable def rCat : R2 := fun x y H Q => ExQ Q (fun l Q => ExQ Q (fun b Q => ExQ Q (fun xs Q => ExQ Q (fun zs Q => x = .ref l ∧ y = .ref b ∧ H l = some (.lst xs) ∧ H b = some (.lst zs) ∧ xs.length + zs.length ≤ sizeLine ∧ ∀ p, H p = none → Q (.ref p) (upd H p (.lst (xs ++ zs)))))))
theorem op_cat : OpR X (binaryOp .Add) rCat := by
  intro pins s σ H x y v u Q I rx ry h
  obtain ⟨l, b, xs, zs, rfl, rfl, hH, hB, hz, q⟩ := h
  cases rx
  cases ry
  obtain ⟨z, its, n, r, hl, e⟩ := I.lstM hH
  obtain ⟨z2, its2, n2, r2, hl2, e2⟩ := I.lstM hB
  refine PySem.P.add_list e e2 ?_ (by rw [List.size_toArray, List.size_toArray]; omega)
  have ea : its.toArray ++ its2.toArray = (its ++ its2).toArray := by simp
  rw [ea]
  exact ⟨.ref _, _, I.lnew (t' := s.toks) (r.append r2) (by rw [List.length_append]; omega), rfl, q _ I.fresh⟩
noncomputable def rRep : R2 := fun x y H Q => ExQ Q (fun l Q => ExQ Q (fun k Q => ExQ Q (fun xs Q => x = .ref l ∧ y = .int k ∧ H l = some (.lst xs) ∧ -(2 ^ 63) ≤ k ∧ k < 2 ^ 63 ∧ xs.length * k.toNat ≤ sizeLine ∧
  ∀ p, H p = none → Q (.ref p) (upd H p (.lst (List.replicate k.toNat xs).flatten)))))
theorem len_rep {α : Type} (xs : List α) (k : Nat) : (List.replicate k xs).flatten.length = k * xs.length := by
  induction k with
  | zero => simp
  | succ k ih => rw [List.replicate_succ, List.flatten_cons, List.length_append, ih, Nat.succ_mul, Nat.add_comm]
theorem op_rep : OpR X (binaryOp .Mult) rRep := by
  intro pins s σ H x y v u Q I rx ry h
  obtain ⟨l, k, xs, rfl, rfl, hH, h1, h2, hz, q⟩ := h
  cases rx
  obtain ⟨t, rfl⟩ := ry
  obtain ⟨z, its, n, r, hl, e⟩ := I.lstM hH
  have hlen : its.toArray.size * k.toNat ≤ sizeLine := by rw [List.size_toArray, ← hl]; exact hz
  have hcap : ¬ its.toArray.size * k.toNat > (2 ^ 63 - 1) / 8 := by
    have : (sizeLine : Nat) ≤ (2 ^ 63 - 1) / 8 := by decide
    omega
  have hfit : ¬ (!Builtin.List.listFitsIndex k) = true := by
    rw [fitsIndex_both h1 h2]
    exact Bool.false_ne_true
  have hlong : ¬ Builtin.List.listTooLong (its.toArray.size * k.toNat) = true := by
    rw [notLongL hlen]
    exact Bool.false_ne_true
  have hnew : List.foldl (fun x1 x2 => x1 ++ x2) #[] (List.replicate (if its.toArray.isEmpty = true then 0 else k.toNat) its.toArray) = (List.replicate k.toNat its).flatten.toArray := by
    have f0 : ∀ m : Nat, List.foldl (fun x1 x2 => x1 ++ x2) #[] (List.replicate m its.toArray) = (List.replicate m its).flatten.toArray := fun m => by
      have := foldl_rep its m []
      rw [List.nil_append] at this
      exact this
    rw [f0]
    cases its with
    | nil => simp
    | cons a r' => rw [if_neg (by simp)]
  refine wpAny_binaryOp_repeat_ref (T := "list") (U := "int") (by decide) ⟨_, e, rfl⟩ (fun s' => typeIs_int s' k t) noFill_list_mul F.fills_int_mul F.slot_int_rmul repeat_list F.slot_int_index.lookup
    (call_meets F.slot_int_rmul (typeIs_int s k t) F.entry_int_rmul (F.args_int_rmul_2 _ _) (int___rmul___int_list k t l its.toArray n)
      ⟨e, rfl, ⟨_, e, rfl⟩, call_meets F.slot_list_mul ⟨_, e, rfl⟩ F.entry_list_mul (F.args_list_mul_2 _ _) (AutoListH.list___mul___list_int_3 l its.toArray n k t hfit hcap hlong) ⟨e, ?_⟩⟩)
  rw [hnew]
  exact ⟨.ref _, _, I.lnew (t' := s.toks) (r.rep k.toNat) (by rw [len_rep, Nat.mul_comm]; exact hz), rfl, q _ I.fresh⟩

end

section
variable {prog : Program} {w : World} {A : Around} {E : Value → Shared → Prop} {s : Shared}
set_option maxRecDepth 100000 in
end

section
variable {X : Cx}
end
end L2

namespace Att
open PySem PySem.W PySem.Calls PyProof.Rows

theorem ints_of_wellAll {P : Params} {h : Heap} : ∀ (ns : List Int) (vs : List Value), WellAll P h vs (ns.map WData.int) → IntsAre vs ns := by
  intro ns
  induction ns with
  | nil =>
    intro vs w
    rw [List.map_nil] at w
    cases w
    exact .nil
  | cons n ns ih =>
    intro vs w
    rw [List.map_cons] at w
    cases w with
    | cons a b =>
      cases a
      exact .cons _ _ (ih _ b)

theorem script_of {l : OpenLaw} {n : Nat} (hn : l.most = some n) {P : Params} {h : Heap} {args : List WData} {vals : List Value}
    (hpre : l.row.toRowW.claim.pre args = true) (hwl : WellAll P h vals args) :
    ∃ a vs ns, vals = [Value.ref a] ∧ args = [WData.list (ns.map WData.int)] ∧ h.get? a = some { cls := .type "list", data := .seq vs.toArray } ∧ IntsAre vs ns ∧ ns.length ≤ n := by
  have hsh : WShape.hasAll [] args [.list .int] = true := (pre_splitW hpre).1
  have hc : l.pre.holds [] { args := args } = true := (pre_splitW hpre).2
  obtain ⟨d, r, rfl, h1, h2⟩ := hasAllW_cons hsh
  obtain rfl := hasAllW_nil h2
  obtain ⟨xs, rfl, h3⟩ := hasW_list h1
  obtain ⟨ns, rfl⟩ := items_int h3
  have hlen : ns.length ≤ n := by
    unfold OpenLaw.pre at hc
    have h4 : (WTm.not (.lt (.lit (.int (n : Int))) (.len (.arg 0)))).holds [] { args := [.list (ns.map .int)] } = true := by
      have h4 := (holds_andW hc).1
      rw [hn] at h4
      exact h4
    have h5 := condW_of h4 (w_not (w_lt w_lit (w_len_list (w_arg rfl))))
    rw [List.length_map] at h5
    refine Nat.le_of_not_lt fun q => ?_
    have q' : (n : Int) < ((ns.length : Nat) : Int) := by omega
    first
      | (rw [decide_eq_true q'] at h5; exact absurd h5 (by decide))
      | (simp at h5; omega)
  cases hwl with
  | cons w1 w2 =>
    cases w2
    cases w1 with
    | list ho hall => exact ⟨_, _, ns, rfl, rfl, ho, ints_of_wellAll ns _ hall, hlen⟩

theorem post_true (l : OpenLaw) (args : List WData) : l.row.toRowW.claim.post args (.bool true) args = true :=
  postW_of (r := l.row.toRowW) (X := (true == true))
    (show WShape.has [] (.bool true) .bool = true by first | rfl | decide | simp [WShape.has, WShape.arms, WShape.armsAll])
    (show (WTm.eq .res (.lit (.bool true))).value [] { args := args, res := some (.bool true), after := args } = some (.bool (true == true)) from w_eq_bool (w_res rfl) w_lit) rfl

theorem attach_call {l : OpenLaw} {n : Nat} {q : Program} {loose : List Str} {XP : (Str → Option Value) → Heap → Prop} {YP : World → Heap → Prop} {d : DefRec}
    (hn : l.most = some n) (hdf : d.params.defaults = [])
    (call : ∀ (w : World) (s₀ s₁ : Shared) (mg mb : Str → Option Value) (fa : Addr) (o : Obj) (pm cd doc : Value) (a : Addr) (vs : List Value) (ns : List Int),
      Ground q loose [] XP w s₀ mg mb s₁.heap → YP w s₁.heap →
      s₁.heap.get? fa = some o → o.data = .func (docDef d.name d.params d.body d.scope pm cd doc) → s₁.heap.CodeRec cd d.name → mg d.name = some (.ref fa) →
      s₁.heap.get? a = some { cls := .type "list", data := .seq vs.toArray } → IntsAre vs ns → ns.length ≤ n → s₁.gens = #[] →
      codeAny (model l.prog w) callerA (.call (.ref fa) ⟨[.ref a], []⟩) (fun r s' => r = .ok (.ret (.bool true)) ∧ OldK s₁.heap s'.heap ∧ s'.os = s₁.os ∧ AllBare s'.gens) s₁) :
    WalkO q loose XP YP l.row.toRowW d [] (fun f vs => PySem.call f vs) := by
  intro w s₀ s₁ mg mb G Y fa o pm cd doc dV kV ho hd hcd hD hmg hg args vals as hpre hlay hrd hwl hlo
  obtain rfl : dV = .none := Dflts.none hD hdf
  obtain rfl : kV = .none := Dflts.noKw hD
  obtain ⟨a, vs, ns, rfl, rfl, hobj, hints, hlen⟩ := script_of hn hpre hwl
  refine enter_call (codeAny_mono (call w s₀ s₁ mg mb fa o pm cd doc a vs ns G Y ho (fd_plain hd) hcd hmg hobj hints hlen hg) fun r s' hq => ?_)
  obtain ⟨rfl, h2, h3, h4⟩ := hq
  exact ⟨.inl ⟨.bool true, .bool true, [], rfl, fun _ => rfl, .bool true, post_true l _, fun _ => ⟨List.Pairwise.nil, fun _ hm => (nomatch hm)⟩⟩, h2, h3, h4⟩

section
variable {prog : Program} {w : World} {A : Around} {E : Value → Shared → Prop} {s : Shared} {K : Frag}

noncomputable def ledger (h : Heap) (L d : Addr) : List (Addr × Obj) := (List.range h.objs.size).filterMap fun a => if a = L ∨ a = d then none else (h.get? a).map fun o => (a, o)
end
end Att

namespace L2
open PySem PySem.Spec PyProof.Rows

theorem vals_ints : ∀ {vs : List Value} {ns : List Int}, IntsAre vs ns → Vals (ns.map V.int) vs
  | _, _, .nil => .nil
  | _, _, .cons n t h => .cons ⟨t, rfl⟩ (vals_ints h)

noncomputable def Only (H : Hp) : Prop := ∀ b, H b = none ∨ ∃ o xs, H b = some (.frz o (.lst xs))

theorem law_call {P : Program} {w : World} {K : PySem.W.Frag} {mg mb : Str → Option Value} {CX : CXT} {k : Nat} {fa a : Addr} {fd : FuncData} {x : Str} {sp : Sp} {s₁ : Shared} {vs : List Value} {ns : List Int}
    (KX : K.In s₁.heap) (hns : s₁.heap.Ns mainGlobals mg) (hb : s₁.heap.Ns builtinsNs mb) (hbb : ∀ x : Str, x ≠ "__name__" → mb x = bootBuiltins x) (hlim : s₁.heap.NoLimit) (hg : s₁.gens = #[])
    (ha : s₁.heap.get? a = some { cls := .type "list", data := .seq vs.toArray }) (hi : IntsAre vs ns) (hl : ns.length ≤ sizeLine) (hr : Room k callerA)
    (F : ∀ base : Heap, K.In base → base.Ns mainGlobals mg → FnOk P w K mg base CX k fa fd [x] sp) (hbind : ∀ (s : Shared) (u : Value), BindsTo s fd ⟨[u], []⟩ [(x, u)])
    (hsp : ∀ H : Hp, Only H → SqL K H a (ns.map V.int) → sp [.ref a] H (fun v _ => v = .bl true) fun _ _ _ => False)
    (hCX : ∀ H e s', CX [] H s₁ (fun _ _ _ => False) e s' → False) :
    codeAny (model P w) callerA (.call (.ref fa) ⟨[.ref a], []⟩) (fun r s' => r = .ok (.ret (.bool true)) ∧ OldK s₁.heap s'.heap ∧ s'.os = s₁.os ∧ AllBare s'.gens) s₁ := by
  have rv := vals_ints hi
  have lenV := hi.length
  -- from an abstract heap in which nothing but the script may be tracked
  have core : ∀ H : Hp, Only H → SqL K H a (ns.map V.int) → HOk P w H s₁.heap → (∀ b, H b ≠ none → b = a) → (H a ≠ none → K.lookup a = none) →
      codeAny (model P w) callerA (.call (.ref fa) ⟨[.ref a], []⟩) (fun r s' => r = .ok (.ret (.bool true)) ∧ OldK s₁.heap s'.heap ∧ s'.os = s₁.os ∧ AllBare s'.gens) s₁ := by
    intro H hO hS hok hA hK
    have base_of : ∀ {b : Addr} {o : Obj}, s₁.heap.get? b = some o → H b = none → (hidT s₁.heap H).get? b = some o := fun e n => hidT_get e n
    have noA : ∀ {b : Addr} {o : Obj} {es : Array DictEntry} {ep : Nat}, s₁.heap.get? b = some o → o.data = .dict es ep → H b = none := fun {b o es ep} e d => by
      cases q : H b with
      | none => rfl
      | some u =>
        have e' : b = a := hA b (by rw [q]; simp)
        subst e'
        rw [ha] at e; cases e
        have d' : Data.seq vs.toArray _ = Data.dict es ep := d
        cases d'
    have nsK : ∀ {b : Addr} {m : Str → Option Value}, s₁.heap.Ns b m → (hidT s₁.heap H).Ns b m := fun {b m} hp1 => by obtain ⟨o, es, ep, e, d, r⟩ := hp1; exact ⟨o, es, ep, base_of e (noA e d), d, r⟩
    have hKb : K.In (hidT s₁.heap H) := fun b o e => base_of (KX b o e) (by
      cases q : H b with
      | none => rfl
      | some u =>
        have e' : b = a := hA b (by rw [q]; simp)
        subst e'
        rw [hK (by rw [q]; simp)] at e; cases e)
    have hM : Mod K mg (hidT s₁.heap H) := ⟨hKb, nsK hns, ⟨mb, nsK hb, hbb⟩, let ⟨mc, h1, h2⟩ := hlim; ⟨mc, nsK h1, h2⟩⟩
    have e0 : Env0 P w K mg (hidT s₁.heap H) callerA [] s₁ H := ⟨rfl, hM, fun b o e => of_hidT e, Nat.le_of_eq (hidT_size _ _), trivial, fun b hb => absurd (show b ∈ ([] : List Addr) from hb) (by simp), hok, .of_eq hg⟩
    refine codeAny_mono ((F _ hKb (nsK hns)).run callerA [] s₁ H ⟨[.ref a], []⟩ [.ref a] [.ref a] _ _ hr e0 (hbind s₁ (.ref a)) (.cons rfl .nil) (hsp H hO hS)) fun r s' h => ?_
    cases r with
    | error e => exact (hCX H e s' h).elim
    | ok fl =>
      cases fl with
      | next => exact False.elim h
      | brk => exact False.elim h
      | cont => exact False.elim h
      | ret u =>
        obtain ⟨v, H', os, bare, un, hok', r', q⟩ := h
        have q' : v = .bl true := q
        subst q'
        obtain rfl : u = Value.bool true := r'
        refine ⟨rfl, OldK.of_keep fun b o e => ?_, os, bare⟩
        cases q : H b with
        | none => exact un.keep b o e q (by intro z; exact absurd (show b ∈ ([] : List Addr) from z) (by simp)) (by simp)
        | some u =>
          rcases hO b with z | ⟨ob, xs, z⟩
          · rw [q] at z; cases z
          · have z2 := un.frzs b ob _ z
            obtain ⟨e1, _⟩ := hok b _ z
            obtain ⟨e2, _⟩ := hok' b _ z2
            rw [e] at e1; cases e1
            exact e2
  cases hk : K.lookup a with
  | some o =>
    -- the script is one of the module's own objects
    have e := KX a o hk
    rw [ha] at e
    cases e
    refine core (fun _ => none) (fun _ => .inl rfl) (.inr ⟨_, vs.toArray, _, hk, rfl, rfl, rfl, by rw [List.size_toArray, lenV]; exact hl, by simpa using rv⟩) (fun b u z => by have z' : (none : Option HO) = some u := z; cases z') (fun b z => absurd rfl z) fun z => absurd rfl z
  | none =>
    refine core (fun b => if b = a then some (.frz { cls := .type "list", data := .seq vs.toArray } (.lst (ns.map V.int))) else none) (fun b => ?_) (.inl (.inr ⟨{ cls := .type "list", data := .seq vs.toArray }, if_pos rfl⟩)) (fun b u z => ?_) (fun b z => ?_) fun _ => hk
    · by_cases hb : b = a
      · exact .inr ⟨_, _, if_pos hb⟩
      · exact .inl (if_neg hb)
    · by_cases hb : b = a
      · have z' := (if_pos hb).symm.trans z
        cases z'
        subst hb
        exact ⟨ha, by rw [List.length_map]; exact hl, vs, _, rv, ha⟩
      · have z' := (if_neg hb).symm.trans z
        cases z'
    · by_cases hb : b = a
      · exact hb
      · exact absurd (if_neg hb) z
end L2

namespace L2
open PySem PySem.Spec PyProof.Rows

noncomputable abbrev KOf {K : PySem.W.Frag} {h : Heap} (_ : K.In h) : PySem.W.Frag := K

theorem walk_of {l : PySem.W.OpenLaw} {n k : Nat} {q : Program} {loose : List Str} {XP : (Str → Option Value) → Heap → Prop} {YP : World → Heap → Prop} {d : DefRec} {K : Params → PySem.W.Frag} {CX : World → CXT} {sp : World → Sp} {x : Str}
    (hn : l.most = some n) (hn2 : n ≤ sizeLine) (hdf : d.params.defaults = []) (hr : Room k callerA)
    (hY : ∀ (w : World) (h : Heap), YP w h → (K w.params).In h)
    (F : ∀ (w : World) (mg : Str → Option Value) (fa : Addr) (h : Heap), (K w.params).In h → h.Ns mainGlobals mg → mg d.name = some (.ref fa) →
      ∃ fd : FuncData, (∀ (s : Shared) (u : Value), BindsTo s fd ⟨[u], []⟩ [(x, u)]) ∧
        ∀ base : Heap, (K w.params).In base → base.Ns mainGlobals mg → FnOk l.prog w (K w.params) mg base (CX w) k fa fd [x] (sp w))
    (hsp : ∀ (w : World) (H : Hp) (a : Addr) (ns : List Int), ns.length ≤ n → Only H → SqL (K w.params) H a (ns.map V.int) → sp w [.ref a] H (fun v _ => v = .bl true) fun _ _ _ => False)
    (hCX : ∀ (w : World) (H : Hp) (s : Shared) (e : Value) (s' : Shared), CX w [] H s (fun _ _ _ => False) e s' → False) :
    PySem.W.WalkO q loose XP YP l.row.toRowW d [] (fun f vs => PySem.call f vs) := by
  refine Att.attach_call hn hdf fun w s₀ s₁ mg mb fa o pm cd doc a vs ns G Y ho hd hcd hmg hobj hints hlen hg => ?_
  have KX := hY w _ Y
  obtain ⟨fd, hb, hF⟩ := F w mg fa _ KX G.T.g hmg
  exact law_call KX G.T.g G.T.b G.T.builtins G.T.nolimit hg hobj hints (Nat.le_trans hlen hn2) hr hF hb (fun H hO hS => hsp w H a ns hlen hO hS) fun H e s' => hCX w H s₁ e s'
end L2

/- THE LAST THEOREM (shape; LID, My.* are yours):
   My.Adr: a structure of the addresses that your layer names (classes, functions); My.Txt K t: a structure (Prop) of the equations over K;
   My.txt_mk : {K} {implicit addresses ..} (e1 : nsIn K mainGlobals "law" = some (some (.ref f))) (e2 : K.lookup f = some ⟨oc, od, .func (fnOf "law" "law" params body scope dV kV doc pm an cdv ct), sl⟩) (e3 : codeIn K cdv "law" = true) .. : ∃ t, My.Txt K t

set_option maxRecDepth 100000 in
set_option maxHeartbeats 0 in
theorem PySem.Challenge.cw_LID_holds : PySem.Challenge.rw_LID.Holds := by
  w_on; o_law; k_head; (case hw => w_witness2)
  k_fill
  refine L2.walk_of (l := PySem.Challenge.rw_LID) (n := 63) (k := 40) (x := "script") (CX := fun w => ..) (sp := fun _ => My.sp_law) rfl (by decide) rfl ⟨rfl, by decide, by decide⟩ (fun w h Y => PySem.W.kIn_of Y) ?F ?S ?C
  case F =>
    intro w mg fa h KX G hmg
    have T : ∃ t, My.Txt (L2.KOf KX) t := by
      dsimp only [L2.KOf]                          -- K must stand as «<heap const> w.params» for k_is
      refine' My.txt_mk ?e1 ?e2 ?e3 ..
      (case e1 => PySem.W.k_is)                    -- in the order: a name -> its address -> its object -> its parts
      (case e2 => PySem.W.k_is)
      ..
    obtain ⟨t, T⟩ := T
    have e0 := hmg.symm.trans (PySem.W.mg_of KX G T.law)
    cases e0                                       -- fa is the law's own address
    exact ⟨_, fun s u => .of_eq rfl, fun base kb nb => My.law_fn T kb nb⟩     -- if «.of_eq rfl» comes too early: refine' ⟨_, ?b, fun base kb nb => My.law_fn T kb nb⟩; exact fun s u => .of_eq rfl
  case S => exact fun w H a ns hl hO hS => ..
  case C => exact ..
(the tactic k_is has no namespace: write k_is) -/

namespace L2
open PySem PySem.Spec PyProof.Rows

noncomputable def defArgs (s : Stmt) : Arguments := match s with
  | .FunctionDef _ a _ _ _ _ _ _ _ _ => a
  | _ => { posonlyargs := [], args := [], vararg := none, kwonlyargs := [], kw_defaults := [], kwarg := none, defaults := [] }
noncomputable def defBody (s : Stmt) : List Stmt := match s with
  | .FunctionDef _ _ b _ _ _ _ _ _ _ => b
  | _ => []
noncomputable def defScope (s : Stmt) : Scope := match s with
  | .FunctionDef _ _ _ _ _ _ sc _ _ _ => sc
  | _ => { kind := .function, names := [], isGenerator := false, isCoroutine := false }

noncomputable abbrev CX0 : CXT := fun _ _ _ _ _ _ => False
noncomputable abbrev E0 : XK := fun _ _ _ => False
theorem pass0 {X : Cx} : Passes CX0 X E0 := fun _ _ _ _ _ _ _ h => h.elim

structure Fun (K : PySem.W.Frag) (x qual : Str) (st : Stmt) (f : Addr) (fd : FuncData) : Prop where
  ex : ∃ (oc : Value) (od : Option Addr) (kV doc pm : Value) (an : Option Addr) (cdv ct : Value) (osl : Array (Option Value)),
    fd = PySem.W.fnOf x qual (defArgs st) (defBody st) (defScope st) .none kV doc pm an cdv ct ∧ K.lookup f = some ⟨oc, od, .func fd, osl⟩ ∧ PySem.W.codeIn K cdv qual = true
  kp : PySem.W.keepIn K (.ref f) = true
section
variable {P : Program} {w : World} {K : PySem.W.Frag} {mg : Str → Option Value} {base : Heap}
theorem Fun.ok {x qual : Str} {st : Stmt} {f : Addr} {fd : FuncData} {N ps : List Str} {k : Nat} {sp : Sp} (F : Fun K x qual st f fd) (S : FnScope N ps (defScope st)) (len : ∀ vs H Q E, sp vs H Q E → vs.length = ps.length)
    (hbody : ∀ (cdv : Value) (A : Around) (outer : List Env) (s : Shared) (H : Hp) (vs : List V) (Q : VK) (E : XK), Room k (A.deeper (envOfC qual (defScope st) s.heap.objs.size f cdv)) → sp vs H Q E →
      ∃ t, PSs (cxOf CX0 P w K mg base N qual (defScope st) f cdv A outer s H E).nox (defBody st) t ∧ t { nx := fun _ H' => Q .non H', rt := Q } (start N vs) H) : FnOk P w K mg base CX0 (k + 1) f fd ps sp := by
  obtain ⟨oc, od, kV, doc, pm, an, cdv, ct, osl, rfl, lk, hcd⟩ := F.ex
  refine fn_of lk hcd S len fun A outer s H vs Q E hr hsp => ?_
  obtain ⟨t, h, q⟩ := hbody cdv A outer s H vs Q E hr hsp
  exact ⟨t, h.nox, q⟩
theorem Fun.binds {x qual : Str} {st : Stmt} {f : Addr} {fd : FuncData} {ps : List Str} (F : Fun K x qual st f fd)
    (h : ∀ (kV doc pm : Value) (an : Option Addr) (cdv ct : Value) (us : List Value), us.length = ps.length → bindArgs (PySem.W.fnOf x qual (defArgs st) (defBody st) (defScope st) .none kV doc pm an cdv ct) ⟨us, []⟩ = pure (ps.zip us)) : Binds K fd ps [] := by
  obtain ⟨oc, od, kV, doc, pm, an, cdv, ct, osl, rfl, lk, hcd⟩ := F.ex
  exact .all (h kV doc pm an cdv ct)
theorem fun_mk {x qual : Str} {st : Stmt} {f : Addr} {oc : Value} {od an : Option Addr} {osl : Array (Option Value)} {kV doc pm cdv ct : Value} (l : K.lookup f = some ⟨oc, od, .func (PySem.W.fnOf x qual (defArgs st) (defBody st) (defScope st) .none kV doc pm an cdv ct), osl⟩)
    (c : PySem.W.codeIn K cdv qual = true) (k : PySem.W.keepIn K (.ref f) = true) : Fun K x qual st f (PySem.W.fnOf x qual (defArgs st) (defBody st) (defScope st) .none kV doc pm an cdv ct) := ⟨⟨oc, od, kV, doc, pm, an, cdv, ct, osl, rfl, l, c⟩, k⟩
end
theorem small1000 {n : Nat} (h : n ≤ 1000) : n < sizeLine := Nat.lt_of_le_of_lt h (by decide)

section
variable {X : Cx}
theorem pv (i : Nat) {x : Str} {pos : Pos} (hN : X.N[i]? = some x := by rfl) (hv : Vis X.env.scope x := by first | exact Or.inl rfl | exact Or.inr (Or.inl rfl) | exact Or.inr (Or.inr rfl)) (hd : (x == ("__debug__" : Str)) = false := by decide)
    (hcd : (x == ("__classdict__" : Str)) = false := by decide) : PE X (.Name x pos) (tVar i) := pe_var hN hv hd hcd
end

theorem iteF {A B : Prop} (h : B) : if false = true then A else B := by
  rw [if_neg Bool.false_ne_true]
  exact h
theorem iteT {A B : Prop} (h : A) : if true = true then A else B := by
  rw [if_pos rfl]
  exact h
theorem ite2 {c A B : Prop} [Decidable c] (h1 : c → A) (h2 : ¬ c → B) : if c then A else B := by
  by_cases h : c
  · rw [if_pos h]
    exact h1 h
  · rw [if_neg h]
    exact h2 h
noncomputable def Same (H H' : Hp) : Prop := ∀ b o, H b = some o → H' b = some o
theorem Same.refl (H : Hp) : Same H H := fun _ _ h => h
theorem Same.trans {H H1 H2 : Hp} (a : Same H H1) (b : Same H1 H2) : Same H H2 := fun c o h => b c o (a c o h)
theorem Same.free {H H' : Hp} (e : Same H H') {l : Addr} (h : H' l = Option.none) : H l = Option.none := by
  cases q : H l with
  | none => rfl
  | some o =>
    rw [e l o q] at h
    cases h
theorem Same.seq {K : PySem.W.Frag} {H H' : Hp} {a : Addr} {xs : List V} (e : Same H H') (h : SqL K H a xs) : SqL K H' a xs := by
  rcases h with (h | ⟨o, h⟩) | h
  · exact .inl (.inl (e _ _ h))
  · exact .inl (.inr ⟨o, e _ _ h⟩)
  · exact .inr h

end L2
set_option Elab.async false
set_option linter.all false
set_option maxRecDepth 100000
set_option maxHeartbeats 4000000
namespace L2
open PySem PySem.Spec PyProof.Rows

noncomputable abbrev Cx.cmp (X : Cx) (scope : Scope) (cl : List (Str × Addr)) (vars : List Str) (C : Addr) (s : Shared) (H : Hp) (fp : List Addr) (pins : List (Addr × Obj)) : Cx :=
  { X with N := vars ++ X.N, s₀ := s, H₀ := H, env := compEnvC scope cl C X.env, outer := X.stack, stack := X.stack, ex := fp, fn := fun _ => false, pn := X.pn ++ pins, xe := fun _ _ => False }

structure CmpScope (X : Cx) (scope : Scope) : Prop where
  kind : scope.kind = .function
  nocell : ∀ y ∈ scope.names, y.2 ≠ .cell
  names : ∀ y ∈ scope.names, y.2 = .local → scope.names.lookup y.1 = some .local
  free : ∀ y ∈ scope.names, y.2 = .free → X.env.scope.names.lookup y.1 = some .cell ∨ X.env.scope.names.lookup y.1 = some .free
  locs : ∀ x ∈ X.N, scope.names.lookup x ≠ some .local

noncomputable def cmpB (N : List Str) (so sc : Scope) : Bool := decide (sc.kind = .function) && sc.names.all (fun y => decide (y.2 ≠ .cell)) && sc.names.all (fun y => decide (y.2 = .local → sc.names.lookup y.1 = some .local)) &&
  sc.names.all (fun y => decide (y.2 = .free → so.names.lookup y.1 = some .cell ∨ so.names.lookup y.1 = some .free)) && N.all (fun x => decide (sc.names.lookup x ≠ some .local))
theorem cmp_ok {X : Cx} {scope : Scope} {N : List Str} {so : Scope} (hN : X.N = N) (hs : X.env.scope = so) (h : cmpB N so scope = true) : CmpScope X scope := by
  unfold cmpB at h
  simp only [Bool.and_eq_true, List.all_eq_true, decide_eq_true_eq] at h
  obtain ⟨⟨⟨⟨h1, h2⟩, h3⟩, h4⟩, h5⟩ := h
  subst hN hs
  exact ⟨h1, h2, h3, h4, h5⟩
theorem closure_go {env : Env} : ∀ (names : List (Str × NameKind)) (acc : List (Str × Addr)), (∀ y ∈ names, y.2 = .free → ∃ c, env.cells.lookup y.1 = some c) → (∀ p ∈ acc, env.cells.lookup p.1 = some p.2) →
    ∃ cl, (forIn names acc (fun x cs => (match x with | (name, kind) => if (kind == NameKind.free) = true then do let c ← cellOf env name; pure (ForInStep.yield ((name, c) :: cs)) else pure (ForInStep.yield cs) : Sem (ForInStep (List (Str × Addr)))))) = pure cl ∧
      (∀ p ∈ cl, env.cells.lookup p.1 = some p.2) ∧ (∀ p ∈ acc, p ∈ cl) ∧ ∀ y ∈ names, y.2 = .free → ∃ c, (y.1, c) ∈ cl := by
  intro names
  induction names with
  | nil => intro acc _ h; exact ⟨acc, rfl, h, fun _ z => z, fun y hy => by cases hy⟩
  | cons y r ih =>
    intro acc hn ha
    obtain ⟨n, k⟩ := y
    by_cases hk : k = .free
    · subst hk
      obtain ⟨c, hc⟩ := hn (n, .free) List.mem_cons_self rfl
      obtain ⟨cl, e, h1, h2, h3⟩ := ih ((n, c) :: acc) (fun y hy => hn y (List.mem_cons_of_mem _ hy)) (fun p hp => by
        rcases List.mem_cons.mp hp with rfl | hp
        · exact hc
        · exact ha p hp)
      refine ⟨cl, ?_, h1, fun p hp => h2 p (List.mem_cons_of_mem _ hp), fun y hy hf => ?_⟩
      · rw [List.forIn_cons]
        have e1 : cellOf env n = pure c := by unfold cellOf; rw [hc]
        simp only [beq_self_eq_true, if_true]
        rw [e1]
        exact e
      · rcases List.mem_cons.mp hy with rfl | hy
        · exact ⟨c, h2 _ List.mem_cons_self⟩
        · exact h3 y hy hf
    · obtain ⟨cl, e, h1, h2, h3⟩ := ih acc (fun y hy => hn y (List.mem_cons_of_mem _ hy)) ha
      refine ⟨cl, ?_, h1, h2, fun y hy hf => ?_⟩
      · rw [List.forIn_cons]
        have hb : (k == NameKind.free) = false := by simpa using hk
        simp only [hb, Bool.false_eq_true, if_false]
        exact e
      · rcases List.mem_cons.mp hy with rfl | hy
        · exact absurd hf hk
        · exact h3 y hy hf

theorem closure_ok {scope : Scope} {env : Env} (h : ∀ y ∈ scope.names, y.2 = .free → ∃ c, env.cells.lookup y.1 = some c) :
    ∃ cl, closureFor scope env = pure cl ∧ (∀ p ∈ cl, env.cells.lookup p.1 = some p.2) ∧ ∀ y ∈ scope.names, y.2 = .free → ∃ c, (y.1, c) ∈ cl := by
  obtain ⟨cl, e, h1, _, h3⟩ := closure_go (env := env) scope.names [] h (fun p hp => by cases hp)
  refine ⟨cl, ?_, h1, h3⟩
  unfold closureFor
  dsimp only
  rw [e]
  rfl

theorem lookup_relabel {env : Env} : ∀ {names : List (Str × NameKind)} {x : Str} {k : NameKind},
    (names.map fun (n, k) => if (k == NameKind.free && env.scope.kind == .function && env.kindOf n == some .cell) then (n, NameKind.cell) else (n, k)).lookup x = some k →
    names.lookup x = some k ∨ (k = .cell ∧ names.lookup x = some .free)
  | [], _, _, h => by simp at h
  | (n, k0) :: r, x, k, h => by
    have ih := @lookup_relabel env r x k
    change List.lookup x ((if (k0 == NameKind.free && env.scope.kind == .function && env.kindOf n == some .cell) = true then (n, NameKind.cell) else (n, k0)) :: _) = _ at h
    by_cases hc : (k0 == NameKind.free && env.scope.kind == .function && env.kindOf n == some .cell) = true
    · rw [if_pos hc] at h
      cases hx : x == n with
      | true =>
        simp only [List.lookup_cons, hx] at h ⊢
        have hk0 : k0 = .free := by
          simp only [Bool.and_eq_true] at hc
          simpa using hc.1.1
        subst hk0
        cases h
        exact .inr ⟨rfl, rfl⟩
      | false =>
        simp only [List.lookup_cons, hx] at h ⊢
        exact ih h
    · rw [if_neg hc] at h
      cases hx : x == n with
      | true =>
        simp only [List.lookup_cons, hx] at h ⊢
        exact .inl h
      | false =>
        simp only [List.lookup_cons, hx] at h ⊢
        exact ih h

theorem lookup_mem {α β : Type} [BEq α] [LawfulBEq α] : ∀ {l : List (α × β)} {x : α} {b : β}, (x, b) ∈ l → ∃ c, l.lookup x = some c
  | (y, c) :: r, x, b, h => by
    cases hx : x == y with
    | true => exact ⟨c, by simp only [List.lookup_cons, hx]⟩
    | false =>
      have hr : (x, b) ∈ r := by
        rcases List.mem_cons.mp h with e | e
        · cases e; simp at hx
        · exact e
      obtain ⟨c', e⟩ := lookup_mem hr
      exact ⟨c', by simp only [List.lookup_cons, hx]; exact e⟩

section
variable {X : Cx} {pins : List (Addr × Obj)} {σ : St} {H : Hp} {s : Shared}

theorem inv_cmp {scope : Scope} {cl : List (Str × Addr)} {vars : List Str} {h1 : Heap} {t1 : Nat} {fp : List Addr} (hc : X.calm = true) (S : CmpScope X scope) (I : Inv X pins σ H s)
    (c1 : ∀ p ∈ cl, X.env.cells.lookup p.1 = some p.2) (c2 : ∀ y ∈ scope.names, y.2 = .free → ∃ c, (y.1, c) ∈ cl) (hns : h1.Ns s.heap.objs.size (fun _ => none)) (hk : ∀ b o, s.heap.get? b = some o → h1.get? b = some o)
    (f : ∀ b ∈ fp, FpOk X pins H b) (fo : ∀ b ∈ fp, b < s.heap.objs.size) :
    Inv (X.cmp scope cl vars s.heap.objs.size s H fp pins) [] (List.replicate vars.length none ++ σ) H { s with heap := h1, toks := t1 } := by
  have cl1 : ∀ x c, cl.lookup x = some c → X.env.cells.lookup x = some c := fun x c e => c1 (x, c) (PySem.mem_of_lookup e)
  have fsub : ∀ b ∈ frs X.stack, b ∈ X.env.locals :: X.fs := I.stkSub
  refine ⟨⟨I.ok.mod, S.kind, I.ok.glob, I.ok.blt, Nat.le_refl _, fun x y c h1 h2 => I.ok.inj x y c (cl1 x c h1) (cl1 y c h2), fun x hx => ?_, fun x c hf => absurd hf (by simp), I.ok.hd, I.ok.frames, .inl rfl,
      fun b hb => ⟨Nat.ne_of_lt (fo b hb), fun x c e => (f b hb).2.2.2.2.1 x c (cl1 x c e)⟩, I.bs, Nat.le_trans I.ok.bsz I.sz, fun b o e hb => ?_, fun b hb hm => ?_, I.stack, I.stkFree⟩,
    rfl, I.bare, Un.kept hk, ⟨_, hns, fun i x v e1 e2 e3 => ?_⟩, fun x c e => ?_, I.hok.fresh (Nat.le_refl _), fun x c e => I.freeC x c (cl1 x c e), fun p hp => ?_, I.hok.kept hk, ?_⟩
  · -- has
    have hx' : (relabel scope X.env).names.lookup x = some .cell ∨ (relabel scope X.env).names.lookup x = some .free := hx
    have hfree : scope.names.lookup x = some .free := by
      rcases hx' with q | q
      · rcases lookup_relabel q with z | ⟨_, z⟩
        · exact absurd rfl (S.nocell _ (PySem.mem_of_lookup z))
        · exact z
      · rcases lookup_relabel q with z | ⟨z, _⟩
        · exact z
        · cases z
    obtain ⟨c, hm⟩ := c2 _ (PySem.mem_of_lookup hfree) rfl
    exact lookup_mem hm
  · -- noex
    rcases (f b hb).2.2.2.1 with z | z
    · exact I.ok.noex b o e z
    · exact absurd (Nat.lt_of_lt_of_le (Heap.lt_size (I.ok.bs b o e).1) z) (Nat.lt_irrefl _)
  · -- exfs
    rcases List.mem_cons.mp (fsub b hm) with z | z
    · exact (f b hb).2.1 z
    · exact (f b hb).2.2.1 z
  · -- loc
    have hi : vars.length ≤ i := by
      by_cases hi : i < vars.length
      · rw [List.getElem?_append_left (by simpa using hi), List.getElem?_replicate, if_pos hi] at e2
        cases e2
      · omega
    rw [List.getElem?_append_right (by simpa using hi), List.length_replicate] at e2
    have e1' : X.N[i - vars.length]? = some x := by
      rw [← List.getElem?_append_right hi]; exact e1
    have hfree : scope.names.lookup x = some .free := by
      rcases e3 with q | q | q
      · rcases lookup_relabel q with z | ⟨z, _⟩
        · exact absurd z (S.locs x (List.mem_of_getElem? e1'))
        · cases z
      · rcases lookup_relabel q with z | ⟨_, z⟩
        · exact absurd rfl (S.nocell _ (PySem.mem_of_lookup z))
        · exact z
      · rcases lookup_relabel q with z | ⟨z, _⟩
        · exact z
        · cases z
    have hout := S.free _ (PySem.mem_of_lookup hfree) rfl
    obtain ⟨m, hn, hl⟩ := I.loc
    obtain ⟨u, r, lk⟩ := hl _ x v e1' e2 (by rcases hout with z | z; exact .inr (.inl z); exact .inr (.inr z))
    refine ⟨u, r, .inr ⟨?_, ?_⟩⟩
    · rcases e3 with q | q | q
      · rcases lookup_relabel q with z | ⟨z, _⟩
        · exact absurd z (S.locs x (List.mem_of_getElem? e1'))
        · cases z
      · exact .inl q
      · exact .inr q
    · obtain ⟨c0, hm⟩ := c2 _ (PySem.mem_of_lookup hfree) rfl
      obtain ⟨c, hc'⟩ := lookup_mem hm
      refine ⟨c, hc', ?_⟩
      rcases lk with ⟨z, _⟩ | ⟨_, c', e', z⟩
      · have z' : X.env.scope.names.lookup x = some .local := z
        rcases hout with y | y
        · rw [y] at z'; cases z'
        · rw [y] at z'; cases z'
      · rw [cl1 x c hc'] at e'; cases e'
        exact z.keeps hk
  · -- cell
    obtain ⟨v, z⟩ := I.cell x c (cl1 x c e)
    exact ⟨v, z.keeps hk⟩
  · -- pins
    have hp' : p ∈ X.pn ++ pins := by simpa using hp
    obtain ⟨e, n, ne, nf, d⟩ := I.pin p hp'
    refine ⟨hk _ _ e, n, Nat.ne_of_lt (Heap.lt_size e), fun hm => ?_, d⟩
    rcases List.mem_cons.mp (fsub p.1 hm) with z | z
    · exact ne z
    · exact nf z
  · show (List.replicate vars.length none ++ σ).length = (vars ++ X.N).length
    rw [List.length_append, List.length_append, List.length_replicate, I.len]

theorem inv_cmp_end {scope : Scope} {cl : List (Str × Addr)} {vars : List Str} {H' : Hp} {σ' : St} {s' : Shared} {h' : Heap} {fp : List Addr} (I : Inv X pins σ H s)
    (f : ∀ b ∈ fp, FpOk X pins H b) (J : Inv (X.cmp scope cl vars s.heap.objs.size s H fp pins) [] σ' H' s') (hs : Heap.SameBut s.heap.objs.size s'.heap h') : Inv X pins σ H' { s' with heap := h' } := by
  have u : Un (frs X.stack) fp H H' s.heap s'.heap := J.base
  have ne : ∀ b o, s.heap.get? b = some o → b ≠ s.heap.objs.size := fun b o e => Nat.ne_of_lt (Heap.lt_size e)
  have u' : Un (frs X.stack) fp H H' s.heap h' := ⟨fun b o e n hb hx => (hs.2 b (ne b o e)).trans (u.keep b o e n hb hx), fun b o e n hb hx => by
      obtain ⟨sl, z⟩ := u.slot b o e n hb hx
      exact ⟨sl, (hs.2 b (ne b o e)).trans z⟩, u.free, fun b o e hx => by
      obtain ⟨o', z⟩ := u.there b o e hx
      exact ⟨o', (hs.2 b (ne b o e)).trans z⟩, u.tups, u.frzs, u.tbls⟩
  have hn : H' s.heap.objs.size = none := J.free
  have ok : HOk X.prog X.w H' h' := fun b o e => by
    refine (J.hok b o e).stay (fun c v hc q => (hs.2 c ?_).trans q) (fun _ q => q) fun _ _ q => q
    rintro rfl
    rcases hc with z | z
    · rw [← z, hn] at e; cases e
    · rw [hn] at z; cases z
  exact I.call' (s' := { s' with heap := h' }) (ch := fp) J.os u' ok J.bare fun b hb => ⟨(f b hb).2.2.2.1, (f b hb).2.1, (f b hb).2.2.2.2.1, (f b hb).2.2.2.2.2⟩
end

section
variable {prog : Program} {w : World} {A : Around} {R : Result → Shared → Prop} {s : Shared}
theorem codeAny_compLoop_go {elt target iter : Expr} {ifs : List Expr} {scope : Scope} {pos : Pos} {it acc : Value} {env : Env} (I : Nat → Shared → Prop)
    (turn : ∀ n s, I n s → wpAny (model prog w) A (pyNext it) (fun r s₁ => match r with
      | none => R (.ok .next) s₁
      | some v => wpAny (model prog w) A (letOwnedTupleGo target it v) (fun _ s₂ => wpAny (model prog w) A (assign target env v) (fun _ s₂ =>
          wpAny (model prog w) A (forIn ifs true fun c r => if r = true then do let ok ← isTrue c env (eval c env); pure (ForInStep.yield ok) else pure (ForInStep.yield r)) (fun ok s₃ =>
            if ok = true then wpAny (model prog w) A (eval elt env) (fun x s₄ =>
              wpAny (model prog w) A (call (.builtin "list.append") [acc, x]) (fun _ s₅ => ∃ m, m < n ∧ I m s₅) (fun _ _ => False) s₄) (fun _ _ => False) s₃
            else ∃ m, m < n ∧ I m s₃) (fun _ _ => False) s₂) (fun _ _ => False) s₂) (fun _ _ => False) s₁) (fun _ _ => False) s)
    (n : Nat) (h : I n s) : codeAny (model prog w) A (.compLoop (.ListComp elt [⟨target, iter, ifs, 0⟩] scope pos) 0 it acc env) R s := by
  refine codeAny_loop rfl I (fun n s hI => ?_) n h
  show wpAny _ A ((compTurn (.ListComp elt [⟨target, iter, ifs, 0⟩] scope pos) 0 it acc env).onRaise (fun x => do noteFrame x env; theTreesLotGoes x)) _ _ s
  refine wpAny_noted ?_
  rw [compTurn_list]
  have no : ∀ {E : Value → Shared → Prop} (e : Value) (s : Shared), False → E e s := fun _ _ h => h.elim
  refine wpAny_bind (wpAny_standAt (wpAny_bind (wpAny_mono (turn n s hI) (fun r s₁ h₁ => ?_) no)))
  cases r with
  | none => exact wpAny_pure h₁
  | some v =>
    refine wpAny_bind (wpAny_mono h₁ (fun _ s₂ h₂ => ?_) no)
    refine wpAny_bind (wpAny_mono h₂ (fun _ s₂ h₂ => wpAny_bind (wpAny_mono h₂ (fun ok s₃ h₃ => ?_) no)) no)
    cases ok with
    | false => exact wpAny_pure ⟨rfl, h₃⟩
    | true =>
      exact wpAny_bind (wpAny_bind (wpAny_mono h₃ (fun x s₄ h₄ => wpAny_bind (wpAny_mono h₄ (fun _ s₅ h₅ => wpAny_pure (wpAny_pure ⟨rfl, h₅⟩)) no)) no))
end

noncomputable def PIfs (X : Cx) (ifs : List Expr) (t : TT) : Prop :=
  ∀ (pins : List (Addr × Obj)) (s : Shared) (σ : St) (H : Hp) (Q : Bool → Hp → Prop), Inv X pins σ H s → t σ H Q →
    wpAny (model X.prog X.w) X.A (forIn ifs true fun c r => if r = true then do let ok ← isTrue c X.env (eval c X.env); pure (ForInStep.yield ok) else pure (ForInStep.yield r)) (TP X pins σ Q) X.xe s
noncomputable def tTrue : TT := fun _ H Q => Q true H
theorem pifs_nil {X : Cx} : PIfs X [] tTrue := fun pins s σ H Q I h => wpAny_tests_nil ⟨H, I, h⟩
noncomputable def tCompW (J : It) (vn : Nat) (g : TG) (tc : TT) (te : TE) (σ : St) (p : Addr) (H1 : Hp) (Q : Hp → Prop) : Prop :=
  ∃ W : Nat → Nat → Hp → Prop, (∃ m, W 0 m (upd H1 p (.lst []))) ∧ ∀ i m H, W i m H →
    (J.stop i H ∧ Q H) ∨ (J.go i H ∧ ∃ N : Hp → Prop, (∀ H', N H' → ∃ m', m' < m ∧ W (i + 1) m' H') ∧ ∀ x H', J.yld i H x H' → g x (List.replicate vn none ++ σ) H' fun σ2 H2 => (∃ τ : St, σ2 = τ ++ σ ∧ τ.length = vn) ∧ tc σ2 H2 fun b H3 =>
      if b = true then te σ2 H3 fun v H4 => ∃ acc, H4 p = some (.lst acc) ∧ acc.length < sizeLine ∧ N (upd H4 p (.lst (acc ++ [v]))) else N H3)
noncomputable def tComp (wi : TI) (vn : Nat) (g : TG) (tc : TT) (te : TE) : TE := fun σ H Q => wi σ H fun J H1 => ∀ p, H1 p = none → tCompW J vn g tc te σ p H1 (Q (.ref p))

section
variable {X : Cx}
theorem comp_block {elt tg iter : Expr} {ifs : List Expr} {scope : Scope} {pos : Pos} {vars : List Str} {g : TG} {tc : TT} {te : TE} {cl : List (Str × Addr)} (hc : X.calm = true) (S : CmpScope X scope)
    (hg : ∀ cl C s H fp pins, PG (X.cmp scope cl vars C s H fp pins) tg g) (ht : ∀ cl C s H fp pins, PIfs (X.cmp scope cl vars C s H fp pins) ifs tc) (he : ∀ cl C s H fp pins, PE (X.cmp scope cl vars C s H fp pins) elt te)
    (c1 : ∀ p ∈ cl, X.env.cells.lookup p.1 = some p.2) (c2 : ∀ y ∈ scope.names, y.2 = .free → ∃ c, (y.1, c) ∈ cl)
    {pins : List (Addr × Obj)} {s : Shared} {σ : St} {H : Hp} {it : Addr} {fp : List Addr} {tn : Nat → Heap → Prop} {J : It} {E : Value → Shared → Prop} (I : Inv X pins σ H s) (T : Turn X.prog X.w X.K tg J fp it tn) (st : tn 0 s.heap) (f : ∀ b ∈ fp, FpOk X pins H b)
    {Q : Addr → Hp → Prop} (q : ∀ p, H p = none → tCompW J vars.length g tc te σ p H (Q p)) {RR : Value → Addr → Result → Shared → Prop}
    (hRR : ∀ (p C : Addr) (s' : Shared) (H' : Hp) (m : Str → Option Value), s'.heap.Ns C m → H' C = none → C ≠ X.env.locals → (∀ x c, X.env.cells.lookup x = some c → c ≠ C) → (∀ p ∈ X.pn ++ pins, p.1 ≠ C) → X.s₀.heap.objs.size ≤ C →
      (∀ h', Heap.SameBut C s'.heap h' → Inv X pins σ H' { s' with heap := h' }) → Q p H' → RR (.ref p) C (.ok .next) s') :
    wpAny (model X.prog X.w) X.A (newList []) (fun acc s₃ => wpAny (model X.prog X.w) X.A (newFunctionEnv scope X.env.globals cl [] X.env.qual none .none (some X.env)) (fun cenv s₄ =>
      codeAny (model X.prog X.w) X.A (.compStart (.ListComp elt [⟨tg, iter, ifs, 0⟩] scope pos) 0 (.ref it) acc { cenv with scope := relabel scope X.env }) (RR acc cenv.locals) s₄) E s₃) E s := by
  refine wpAny_newObj_type (wpAny_newFunctionEnv S.nocell (by intro y hy; simp at hy) (fun h₁ hns hsb => ?_) S.kind)
  dsimp only at hns hsb ⊢
  have I3 : Inv X pins σ (upd H s.heap.objs.size (.lst [])) { s with heap := s.heap.push { cls := .type "list", data := .seq ([] : List Value).toArray }, toks := s.toks } := I.lnew (its := []) .nil (Nat.zero_le _)
  generalize hs3 : ({ s with heap := s.heap.push { cls := .type "list", data := .seq ([] : List Value).toArray }, toks := s.toks } : Shared) = s3 at I3
  have hp : H s.heap.objs.size = none := I.fresh
  have eh : s3.heap = s.heap.push { cls := .type "list", data := .seq ([] : List Value).toArray } := by rw [← hs3]
  have sz3 : s3.heap.objs.size = s.heap.objs.size + 1 := by rw [eh, Heap.size_push]
  rw [← eh] at hns hsb
  have fo : ∀ b ∈ fp, b < s.heap.objs.size := fun b hb => by
    obtain ⟨o, e, _⟩ := T.obj _ _ st b hb
    exact Heap.lt_size e
  have f3 : ∀ b ∈ fp, FpOk X pins (upd H s.heap.objs.size (.lst [])) b := fun b hb => by
    refine ⟨?_, (f b hb).2⟩
    rw [upd_ne (Nat.ne_of_lt (fo b hb))]; exact (f b hb).1
  have fo3 : ∀ b ∈ fp, b < s3.heap.objs.size := fun b hb => by rw [sz3]; exact Nat.lt_succ_of_lt (fo b hb)
  have up : ∀ b o, s3.heap.get? b = some o → h₁.get? b = some o := fun b o e => hsb.extBut b o (Nat.ne_of_lt (Heap.lt_size e)) (Heap.get?_push_of_some _ e)
  have st1 : tn 0 h₁ := T.keep 0 _ _ st fun b hb o e => up b o (by rw [eh]; exact Heap.get?_push_of_some _ e)
  have I4 : Inv (X.cmp scope cl vars s3.heap.objs.size s3 (upd H s.heap.objs.size (.lst [])) fp pins) [] (List.replicate vars.length none ++ σ) (upd H s.heap.objs.size (.lst [])) { s3 with heap := h₁, toks := s3.toks + ([] : List (Str × Value)).length } :=
    inv_cmp hc S I3 c1 c2 hns up f3 fo3
  obtain ⟨W, ⟨m0, w0⟩, turn⟩ := q _ hp
  have es : ({ s3 with heap := h₁, toks := s3.toks + ([] : List (Str × Value)).length } : Shared) = { s with heap := h₁, toks := s.toks + ([] : List (Str × Value)).length } := by rw [← hs3]
  -- what stays true of the iterator's objects
  have stat : ∀ {H' : Hp}, (∀ b ∈ fp, H' b = none) → ∀ b ∈ fp, FpOk (X.cmp scope cl vars s3.heap.objs.size s3 (upd H s.heap.objs.size (.lst [])) fp pins) [] H' b := fun hn b hb => by
    refine ⟨hn b hb, Nat.ne_of_lt (fo3 b hb), fun hm => ?_, .inl hb, fun x c e => (f b hb).2.2.2.2.1 x c (c1 (x, c) (PySem.mem_of_lookup e)), fun p hp => (f b hb).2.2.2.2.2 p (by simpa using hp)⟩
    rcases List.mem_cons.mp (I3.stkSub b hm) with z | z
    · exact (f b hb).2.1 z
    · exact (f b hb).2.2.1 z
  have loop : ∀ s₄ : Shared, s₄ = { s3 with heap := h₁, toks := s3.toks + ([] : List (Str × Value)).length } →
      codeAny (model X.prog X.w) X.A (.compLoop (.ListComp elt [⟨tg, iter, ifs, 0⟩] scope pos) 0 (.ref it) (.ref s.heap.objs.size) (compEnvC scope cl s3.heap.objs.size X.env)) (RR (.ref s.heap.objs.size) s3.heap.objs.size) s₄ := by
    rintro s₄ rfl
    refine codeAny_compLoop_go (fun n s' => ∃ i H', Inv (X.cmp scope cl vars s3.heap.objs.size s3 (upd H s.heap.objs.size (.lst [])) fp pins) [] (List.replicate vars.length none ++ σ) H' s' ∧ tn i s'.heap ∧ (∀ b ∈ fp, H' b = none) ∧ W i n H') ?_ m0
      ⟨0, _, I4, st1, fun b hb => (f3 b hb).1, w0⟩
    rintro n s5 ⟨i, H5, I5, st5, fr5, w5⟩
    rcases turn i n H5 w5 with ⟨stop, qn⟩ | ⟨go, N, hN, step⟩
    · refine thn (T.done (X.cmp scope cl vars s3.heap.objs.size s3 (upd H s.heap.objs.size (.lst [])) fp pins) rfl rfl rfl hc i [] s5 _ H5 _ I5 (stat fr5) st5 stop) fun r s6 hpat => ?_
      obtain ⟨hr, I6⟩ := hpat
      subst hr
      obtain ⟨m, hn, _⟩ := id I6.loc
      refine hRR _ _ s6 H5 m hn I6.free ?_ ?_ ?_ ?_ (fun h' hs' => inv_cmp_end I3 f3 I6 hs') qn
      · exact Nat.ne_of_gt I3.lt
      · intro x c e z
        obtain ⟨v, hv⟩ := I3.cell x c e
        exact absurd hv.lt (by rw [z]; exact Nat.lt_irrefl _)
      · intro p hp z
        obtain ⟨e, _⟩ := I3.pin p hp
        exact absurd (Heap.lt_size e) (by rw [z]; exact Nat.lt_irrefl _)
      · exact I3.sz
    · refine thn (T.item (X.cmp scope cl vars s3.heap.objs.size s3 (upd H s.heap.objs.size (.lst [])) fp pins) rfl rfl rfl hc i [] s5 _ H5 _ I5 (stat fr5) st5 go) fun r s6 hpat => ?_
      obtain ⟨u, hr, h6⟩ := hpat
      subst hr
      refine thn h6 fun _ s7 hpat => ?_
      obtain ⟨x, H7, I7, r7, y7, st7, fr7⟩ := hpat
      have I7' := I7.pinned (stat fr7) (T.obj _ _ st7)
      refine thn (hg _ _ _ _ _ _ _ s7 _ H7 x u _ I7' r7 (step x H7 y7)) fun _ s8 hpat => ?_
      obtain ⟨σ8, H8, I8, ⟨τ, e8, l8⟩, q8⟩ := hpat
      have back : ∀ {H9 : Hp} {s9 : Shared} {m' : Nat}, Inv (X.cmp scope cl vars s3.heap.objs.size s3 (upd H s.heap.objs.size (.lst [])) fp pins) ([] ++ pinsAt fp s7.heap) σ8 H9 s9 → m' < n → W (i + 1) m' H9 →
          ∃ m, m < n ∧ ∃ i H', Inv (X.cmp scope cl vars s3.heap.objs.size s3 (upd H s.heap.objs.size (.lst [])) fp pins) [] (List.replicate vars.length none ++ σ) H' s9 ∧ tn i s9.heap ∧ (∀ b ∈ fp, H' b = none) ∧ W i m H' := by
        intro H9 s9 m' I9 hm w9
        refine ⟨m', hm, i + 1, H9, (I9.unpinned (pins := [])).weak ?_ ?_, T.keep _ _ _ st7 fun b hb o e => (I9.pin (b, o) (List.mem_append_right _ (List.mem_append_right _ (mem_pinsAt hb e)))).1, fun b hb => ?_, w9⟩
        · rw [e8, List.length_append, List.length_append, List.length_replicate, l8]
        · intro j v ej
          by_cases hj : j < vars.length
          · rw [List.getElem?_append_left (by simpa using hj), List.getElem?_replicate, if_pos hj] at ej
            cases ej
          · rw [List.getElem?_append_right (by simpa using hj), List.length_replicate] at ej
            rw [e8, List.getElem?_append_right (by omega), l8]
            exact ej
        · obtain ⟨o, e, d⟩ := T.obj _ _ st7 b hb
          exact (I9.pin (b, o) (List.mem_append_right _ (List.mem_append_right _ (mem_pinsAt hb e)))).2.1
      refine thn (ht _ _ _ _ _ _ _ s8 σ8 H8 _ I8 q8) fun b s9 hpat => ?_
      obtain ⟨H9, I9, q9⟩ := hpat
      cases b with
      | false =>
        rw [if_neg Bool.false_ne_true] at q9 ⊢
        obtain ⟨m', hm, w9⟩ := hN _ q9
        exact back I9 hm w9
      | true =>
        rw [if_pos rfl] at q9 ⊢
        refine thn (he _ _ _ _ _ _ _ s9 σ8 H9 _ I9 q9) fun y s10 hpat => ?_
        obtain ⟨v, H10, I10, r10, acc, a10, z10, w10⟩ := hpat
        refine thn (mt_append _ s10 σ8 H10 (.ref s.heap.objs.size) [v] (.ref s.heap.objs.size) [y] (fun _ H11 => N H11) I10 rfl (.cons r10 .nil) ⟨_, acc, v, rfl, rfl, a10, z10, w10⟩) fun _ s11 hpat => ?_
        obtain ⟨_, H11, I11, _, w11⟩ := hpat
        obtain ⟨m', hm, w12⟩ := hN _ w11
        exact back I11 hm w12
  have fin := codeAny_compStart_list (loop _ rfl) (T.self X.A 0 { s3 with heap := h₁, toks := s3.toks + ([] : List (Str × Value)).length } _ _ st1 (loop _ rfl))
  subst hs3
  exact fin

theorem pe_comp {elt tg iter : Expr} {ifs : List Expr} {scope : Scope} {pos : Pos} (vars : List Str) {wi : TI} {g : TG} {tc : TT} {te : TE} (hc : X.calm = true) (S : CmpScope X scope) (hi : PI X tg iter wi)
    (hg : ∀ cl C s H fp pins, PG (X.cmp scope cl vars C s H fp pins) tg g) (ht : ∀ cl C s H fp pins, PIfs (X.cmp scope cl vars C s H fp pins) ifs tc) (he : ∀ cl C s H fp pins, PE (X.cmp scope cl vars C s H fp pins) elt te)
    (hs : ∀ x, foldedSetIterable iter X.env x = pure x := by intro _; rfl) : PE X (.ListComp elt [⟨tg, iter, ifs, 0⟩] scope pos) (tComp wi vars.length g tc te) := by
  intro pins s σ H Q I h
  obtain ⟨cl, hcl, c1, c2⟩ := closure_ok (scope := scope) (env := X.env) fun y hy hf => I.ok.has y.1 (by rcases S.free y hy hf with z | z; exact .inl z; exact .inr z)
  rw [eval_ListComp]
  refine wpAny_comprehension_free (use := none) rfl hs hcl S.kind S.names (thn (hi pins s σ H _ I h) fun v s1 h1 => thn h1 fun itv s2 h2 => ?_)
  obtain ⟨it, fp, tn, J, H2, e, I2, T, st2, f2, q⟩ := h2
  subst e
  refine comp_block (vars := vars) (Q := fun p => Q (.ref p)) hc S hg ht he c1 c2 I2 T st2 f2 q (RR := fun acc C => compPost (model X.prog X.w) X.A X.xe none (EP X pins σ Q) acc C) ?_
  intro p C s' H' m hn _ _ _ _ _ back hq
  exact ⟨m, hn, fun h' hs' => ⟨.ref p, H', back h' hs', rfl, hq⟩⟩

noncomputable def tSetComp (i : Nat) (wi : TI) (vn : Nat) (g : TG) (tc : TT) (te : TE) : TS := fun D σ H => tComp wi vn g tc te σ H fun v H1 => D.nx (σ.set i (some v)) H1
theorem ps_setcomp {elt tg iter : Expr} {ifs : List Expr} {scope : Scope} {pos spos py : Pos} {i : Nat} {y : Str} (vars : List Str) {wi : TI} {g : TG} {tc : TT} {te : TE} (hc : X.calm = true) (S : CmpScope X scope)
    (hN : X.N.Nodup) (hy : X.N[i]? = some y) (hl : Loc X.env.scope y) (hi : PI X tg iter wi)
    (hg : ∀ cl C s H fp pins, PG (X.cmp scope cl vars C s H fp pins) tg g) (ht : ∀ cl C s H fp pins, PIfs (X.cmp scope cl vars C s H fp pins) ifs tc) (he : ∀ cl C s H fp pins, PE (X.cmp scope cl vars C s H fp pins) elt te)
    (hsw : swapsWith (.ListComp elt [⟨tg, iter, ifs, 0⟩] scope pos) (some (.Name y py)) spos.line X.env = pure true)
    (hf : X.fn y = true ∨ X.env.scope.names.lookup y = some .local := by first | exact .inl rfl | exact .inr rfl | assumption)
    (hs : ∀ x, foldedSetIterable iter X.env x = pure x := by intro _; rfl) :
    PS X (.Assign [.Name y py] (.ListComp elt [⟨tg, iter, ifs, 0⟩] scope pos) spos) (tSetComp i wi vars.length g tc te) := by
  intro pins s σ H D I h
  obtain ⟨cl, hcl, c1, c2⟩ := closure_ok (scope := scope) (env := X.env) fun y hy hf => I.ok.has y.1 (by rcases S.free y hy hf with z | z; exact .inl z; exact .inr z)
  rw [exec_Assign_Name_used _ _ _ _ hsw]
  refine wpAny_bind (wpAny_standAt (wpAny_bind ?_))
  show wpAny _ X.A (do let _ ← comprehension (.ListComp elt [⟨tg, iter, ifs, 0⟩] scope pos) scope X.env _ (newList []) false (eval iter X.env) (some (assign (.Name y py) X.env))) _ _ s
  refine wpAny_bind (wpAny_mono (wpAny_comprehension_free (use := some (assign (.Name y py) X.env)) (Q := fun _ s' => SP X pins D .next s') rfl hs hcl S.kind S.names
    (thn (hi pins s σ H _ I h) fun v s1 h1 => thn h1 fun itv s2 h2 => ?_)) (fun _ s' hq => wpAny_pure (wpAny_pure hq)) fun _ _ e => e)
  obtain ⟨it, fp, tn, J, H2, e, I2, T, st2, f2, q⟩ := h2
  subst e
  refine comp_block (vars := vars) (Q := fun p H1 => D.nx (σ.set i (some (.ref p))) H1) hc S hg ht he c1 c2 I2 T st2 f2 q (RR := fun acc C => compPost (model X.prog X.w) X.A X.xe (some (assign (.Name y py) X.env)) (fun _ s' => SP X pins D .next s') acc C) ?_
  intro p C s' H' m hn hC hL hcells hpins hsz back hq
  have I' : Inv X pins σ H' s' := by have := back s'.heap (.refl ..); exact this
  show wpAny _ X.A (assign (.Name y py) X.env (.ref p)) _ _ _
  refine wpAny_assign_Name (store_ok2 I' hN hy hl (v := .ref p) (u := .ref p) rfl (fun s'' I'' hpat => ?_) hf)
  obtain ⟨a, sb, ha⟩ := hpat
  have hCa : C ≠ a := by
    rcases ha with z | z
    · rw [z]; exact hL
    · exact fun w => hcells _ _ z w.symm
  refine ⟨m, hn.sameBut sb hCa, fun h' hs' => ⟨_, H', I''.turned (t' := s''.toks) (it := C) (fun b o hb e => (hs'.2 b hb).trans e) hC hL (.inr hsz) hcells hpins, hq⟩⟩
end

theorem comp_range {lo : Int} {n vn : Nat} {g : TG} {tc : TT} {te : TE} {σ : St} {p : Addr} {H1 : Hp} {Q : Hp → Prop} (Pv : Nat → Hp → Prop) (h0 : Pv 0 (upd H1 p (.lst [])))
    (hs : ∀ i H, i < n → Pv i H → g (.int (lo + i)) (List.replicate vn none ++ σ) H fun σ2 H2 => (∃ τ : St, σ2 = τ ++ σ ∧ τ.length = vn) ∧ tc σ2 H2 fun b H3 =>
      if b = true then te σ2 H3 fun v H4 => ∃ acc, H4 p = some (.lst acc) ∧ acc.length < sizeLine ∧ Pv (i + 1) (upd H4 p (.lst (acc ++ [v]))) else Pv (i + 1) H3) (hd : ∀ H, Pv n H → Q H) : tCompW (Itr lo n) vn g tc te σ p H1 Q := by
  refine ⟨fun i m H => i ≤ n ∧ m = n - i ∧ Pv i H, ⟨n, Nat.zero_le _, rfl, h0⟩, fun i m H hw => ?_⟩
  obtain ⟨hi, rfl, hp⟩ := hw
  by_cases hl : i < n
  · refine .inr ⟨hl, Pv (i + 1), fun H' h' => ⟨n - (i + 1), by omega, by omega, rfl, h'⟩, fun x H' hy => ?_⟩
    obtain ⟨e1, e2⟩ := hy
    subst e1 e2
    exact hs i _ hl hp
  · have e : i = n := by omega
    subst e
    exact .inl ⟨Nat.le_refl _, hd H hp⟩
theorem comp_list {K : PySem.W.Frag} {a : Addr} {xs : List V} {vn : Nat} {g : TG} {tc : TT} {te : TE} {σ : St} {p : Addr} {H1 : Hp} {Q : Hp → Prop} (Pv : Nat → Hp → Prop) (h0 : Pv 0 (upd H1 p (.lst []))) (hl : ∀ i H, i ≤ xs.length → Pv i H → SqL K H a xs)
    (hs : ∀ i x H, xs[i]? = some x → Pv i H → g x (List.replicate vn none ++ σ) H fun σ2 H2 => (∃ τ : St, σ2 = τ ++ σ ∧ τ.length = vn) ∧ tc σ2 H2 fun b H3 =>
      if b = true then te σ2 H3 fun v H4 => ∃ acc, H4 p = some (.lst acc) ∧ acc.length < sizeLine ∧ Pv (i + 1) (upd H4 p (.lst (acc ++ [v]))) else Pv (i + 1) H3) (hd : ∀ H, Pv xs.length H → Q H) : tCompW (Itl K a) vn g tc te σ p H1 Q := by
  refine ⟨fun i m H => i ≤ xs.length ∧ m = xs.length - i ∧ Pv i H, ⟨xs.length, Nat.zero_le _, rfl, h0⟩, fun i m H hw => ?_⟩
  obtain ⟨hi, rfl, hp⟩ := hw
  have hq := hl i H hi hp
  by_cases hlt : i < xs.length
  · refine .inr ⟨⟨xs, xs[i], hq, List.getElem?_eq_getElem hlt⟩, Pv (i + 1), fun H' h' => ⟨xs.length - (i + 1), by omega, by omega, rfl, h'⟩, fun x H' hy => ?_⟩
    obtain ⟨e1, e2⟩ := hy
    subst e1
    exact hs i x _ (e2 xs hq) hp
  · have e : i = xs.length := by omega
    subst e
    exact .inl ⟨⟨xs, hq, Nat.le_refl _⟩, hd H hp⟩
theorem comp_tup {K : PySem.W.Frag} {a : Addr} {xs : List V} {vn : Nat} {g : TG} {tc : TT} {te : TE} {σ : St} {p : Addr} {H1 : Hp} {Q : Hp → Prop} (Pv : Nat → Hp → Prop) (h0 : Pv 0 (upd H1 p (.lst []))) (hl : ∀ i H, i ≤ xs.length → Pv i H → SqT K H a xs)
    (hs : ∀ i x H, xs[i]? = some x → Pv i H → g x (List.replicate vn none ++ σ) H fun σ2 H2 => (∃ τ : St, σ2 = τ ++ σ ∧ τ.length = vn) ∧ tc σ2 H2 fun b H3 =>
      if b = true then te σ2 H3 fun v H4 => ∃ acc, H4 p = some (.lst acc) ∧ acc.length < sizeLine ∧ Pv (i + 1) (upd H4 p (.lst (acc ++ [v]))) else Pv (i + 1) H3) (hd : ∀ H, Pv xs.length H → Q H) : tCompW (Itt K a) vn g tc te σ p H1 Q := by
  refine ⟨fun i m H => i ≤ xs.length ∧ m = xs.length - i ∧ Pv i H, ⟨xs.length, Nat.zero_le _, rfl, h0⟩, fun i m H hw => ?_⟩
  obtain ⟨hi, rfl, hp⟩ := hw
  have hq := hl i H hi hp
  by_cases hlt : i < xs.length
  · refine .inr ⟨⟨xs, xs[i], hq, List.getElem?_eq_getElem hlt⟩, Pv (i + 1), fun H' h' => ⟨xs.length - (i + 1), by omega, by omega, rfl, h'⟩, fun x H' hy => ?_⟩
    obtain ⟨e1, e2⟩ := hy
    subst e1
    exact hs i x _ (e2 xs hq) hp
  · have e : i = xs.length := by omega
    subst e
    exact .inl ⟨⟨xs, hq, Nat.le_refl _⟩, hd H hp⟩
end L2
set_option Elab.async false
set_option linter.all false
set_option maxRecDepth 100000
set_option maxHeartbeats 4000000
namespace ZT
open PySem PySem.Spec PyProof.Rows

section
variable {prog : Program} {w : World} {A : Around} {E : Value → Shared → Prop} {s : Shared}

theorem next_item {it t : Addr} {i : Nat} {items : Array Value} {x : Value} {Q : Value → Shared → Prop} (hit : s.heap.IsTupleIter it t i) (ht : s.heap.IsTuple t items) (hx : items[i]? = some x)
    (hQ : ∀ h', h'.IsTupleIter it t (i + 1) → Heap.SameBut it s.heap h' → Q x { s with heap := h' }) : wpAny (model prog w) A (Builtin.SmallTypes.nextOf (.ref it)) Q E s := by
  obtain ⟨o, ho, hc, hd⟩ := id hit
  obtain ⟨ol, hol, _, nl, hdl⟩ := ht
  unfold Builtin.SmallTypes.nextOf
  refine wpAny_bind (wpAny_callSpecial?_slot (name := Str.ofString "__next__") hit.typeIs F.slot_tuple_iterator_next (wpAny_call_entry F.slot_tuple_iterator_next hit.typeIs F.entry_tuple_iterator_next ?_ (F.args_tuple_iterator_next_1 _)))
  change wpAny _ _ (field (.ref it) 0 >>= _) _ _ s
  refine wpAny_bind (wpAny_field ho hd (x := .ref t) rfl ?_)
  change wpAny _ _ (if (Value.ref t == Value.none) = true then _ else _) _ _ s
  rw [if_neg (show ¬ ((Value.ref t == Value.none) = true) from Bool.false_ne_true)]
  change wpAny _ _ (field (.ref it) 1 >>= _) _ _ s
  refine wpAny_bind (wpAny_field ho hd (x := .int i 0) rfl ?_)
  change wpAny _ _ (seqItems? (.ref t) >>= _) _ _ s
  refine wpAny_bind (wpAny_seqItems hol hdl ?_)
  simp only [Int.toNat_natCast, hx]
  refine wpAny_bind (wpAny_setField ho hd (by simp) (wpAny_pure ⟨x, rfl, wpAny_pure (hQ _ ?_ (Heap.SameBut.update ..))⟩))
  exact ⟨_, Heap.get?_update_self _ ho (Obj.isFreed_of_fields (Obj.data_mapFields hd _)), (Obj.cls_mapFields ..).trans hc, by rw [Obj.data_mapFields hd]; simp [rawInt]⟩

theorem next_end {it t : Addr} {i : Nat} {items : Array Value} {Q : Value → Shared → Prop} (hh : A.handled = none) (hit : s.heap.IsTupleIter it t i) (ht : s.heap.IsTuple t items) (hx : items[i]? = none)
    (hE : ∀ h' e, Heap.ExtBut it s.heap h' → (∃ o, h'.get? e = some o ∧ o.cls = .type "StopIteration") → E (.ref e) { s with heap := h' }) : wpAny (model prog w) A (Builtin.SmallTypes.nextOf (.ref it)) Q E s := by
  obtain ⟨o, ho, hc, hd⟩ := id hit
  obtain ⟨ol, hol, _, nl, hdl⟩ := ht
  unfold Builtin.SmallTypes.nextOf
  refine wpAny_bind (wpAny_callSpecial?_slot (name := Str.ofString "__next__") hit.typeIs F.slot_tuple_iterator_next (wpAny_call_entry F.slot_tuple_iterator_next hit.typeIs F.entry_tuple_iterator_next ?_ (F.args_tuple_iterator_next_1 _)))
  change wpAny _ _ (field (.ref it) 0 >>= _) _ _ s
  refine wpAny_bind (wpAny_field ho hd (x := .ref t) rfl ?_)
  change wpAny _ _ (if (Value.ref t == Value.none) = true then _ else _) _ _ s
  rw [if_neg (show ¬ ((Value.ref t == Value.none) = true) from Bool.false_ne_true)]
  change wpAny _ _ (field (.ref it) 1 >>= _) _ _ s
  refine wpAny_bind (wpAny_field ho hd (x := .int i 0) rfl ?_)
  change wpAny _ _ (seqItems? (.ref t) >>= _) _ _ s
  refine wpAny_bind (wpAny_seqItems hol hdl ?_)
  simp only [Int.toNat_natCast, hx]
  refine wpAny_bind (wpAny_rule (wpAny_bind (wpAny_setField ho hd (by simp) ?_)))
  change wpAny _ _ (newExc (.type "StopIteration") [] >>= _) _ _ _
  refine wpAny_bind ?_
  simp only [newExc, newTuple]
  refine wpAny_bind (wpAny_newObj_type ?_ (by size_fits))
  refine wpAny_bind (m := firstArgMember _ _) (wpAny_of_eq (a := Value.none) (by first | rfl | (simp only [firstArgMember]; rfl)) ?_)
  refine wpAny_newObj_type ?_ (by size_fits)
  simp only [raiseNew]
  refine wpAny_bind (wpAny_handled ?_)
  first | rw [show A.in1.handled = none from hh] | rw [hh]
  refine wpAny_bind (wpAny_pure (wpAny_throw ?_))
  exact hE _ _ (((Heap.SameBut.update ..).extBut.push _).push _) ⟨_, Heap.get?_push_size _ rfl, rfl⟩

noncomputable abbrev IsZ (h : Heap) (z TI TO : Addr) (f0 f1 : Value) : Prop := h.get? z = some { cls := .type "zip", dict := none, data := .fields #[f0, f1, .bool false, .ref TI, .ref TO], slots := #[] }

structure Zt (h : Heap) (z TI TO i1 i2 l1 l2 : Addr) (xs ys : Array Value) (k : Nat) : Prop where
  ti : IsPair h TI (.ref i1) (.ref i2)
  to : ∃ a b, IsPair h TO a b
  n1 : h.IsTupleIter i1 l1 k
  n2 : h.IsTupleIter i2 l2 k
  t1 : h.IsTuple l1 xs
  t2 : h.IsTuple l2 ys

theorem tupleAt {h h' : Heap} {a : Addr} {items : Array Value} (x : h.IsTuple a items) (k : ∀ o, h.get? a = some o → h'.get? a = some o) : h'.IsTuple a items := let ⟨o, e, r⟩ := x; ⟨o, k o e, r⟩

theorem first_item {z TI TO i1 i2 l1 l2 : Addr} {k : Nat} {xs ys : Array Value} {x y : Value} {Q : Value → Shared → Prop} (D : ZipApart z TI TO i1 i2 l1 l2) (hz : IsZ s.heap z TI TO .none (.bool false)) (Z : Zt s.heap z TI TO i1 i2 l1 l2 xs ys k)
    (hx : xs[k]? = some x) (hy : ys[k]? = some y)
    (hQ : ∀ h', IsZ h' z TI TO (rawInt s.heap.objs.size) (.bool false) → Zt h' z TI TO i1 i2 l1 l2 xs ys (k + 1) → IsPair h' s.heap.objs.size x y →
      (∀ c o, c ≠ z → c ≠ TO → c ≠ i1 → c ≠ i2 → s.heap.get? c = some o → h'.get? c = some o) → Q (.ref s.heap.objs.size) { s with heap := h' }) :
    wpAny (model prog w) A (Builtin.«zip.__next__» ⟨[.ref z], []⟩) (fun fin s' => ∃ v, fin = .done (.ret v) ∧ Q v s') E s := by
  obtain ⟨hTI, ⟨a, b, hTO⟩, h1, h2, hl1, hl2⟩ := Z
  change wpAny _ _ (field (.ref z) 2 >>= _) _ _ _
  refine wpAny_bind (wpAny_field hz rfl (x := .bool false) rfl ?_)
  change wpAny _ _ (field (.ref z) 3 >>= _) _ _ _
  refine wpAny_bind (wpAny_field hz rfl (x := .ref TI) rfl ?_)
  refine wpAny_bind (wpAny_seqItems hTI rfl ?_)
  change wpAny _ _ (Builtin.SmallTypes.ownedTupleIsFree (.ref z) >>= _) _ _ _
  refine wpAny_bind ?_
  unfold Builtin.SmallTypes.ownedTupleIsFree
  refine wpAny_bind (wpAny_field hz rfl (x := .none) rfl (wpAny_pure ?_))
  simp only [if_true]
  refine wpAny_bind (wpAny_rule ?_)
  refine wpAny_bind (wpAny_field hz rfl (x := .ref TO) rfl ?_)
  refine wpAny_bind (wpAny_setField_rec hz (by simp) fun g1 z1 b1 => ?_)
  replace z1 : IsZ g1 z TI TO .ellipsis (.bool false) := z1
  refine wpAny_bind ?_
  simp only [List.zipIdx_cons, List.zipIdx_nil, List.forIn_cons, List.forIn_nil]
  refine wpAny_bind (wpAny_bind (wpAny_onRaise ?_))
  change wpAny _ _ (Builtin.SmallTypes.nextOf (.ref i1) >>= _) _ _ _
  refine wpAny_bind (next_item (h1.extBut b1.extBut D.i1z) (hl1.extBut b1.extBut D.l1z) hx fun g2 n2 b2 => wpAny_pure ?_)
  have o2 : IsPair g2 TO a b := b2.extBut _ _ D.TOi1 (b1.extBut _ _ D.TOz hTO)
  refine wpAny_bind (wpAny_seqItems o2 rfl ?_)
  refine wpAny_bind (wpAny_updateSeq_pair o2 fun g3 o3 b3 => ?_)
  replace o3 : IsPair g3 TO x b := o3
  refine wpAny_bind (wpAny_letGo (wpAny_pure ?_))
  refine wpAny_bind (wpAny_bind (wpAny_onRaise ?_))
  change wpAny _ _ (Builtin.SmallTypes.nextOf (.ref i2) >>= _) _ _ _
  refine wpAny_bind (next_item (((h2.extBut b1.extBut D.i2z).extBut b2.extBut D.i12.symm).extBut b3.extBut D.TOi2.symm) (((hl2.extBut b1.extBut D.l2z).extBut b2.extBut D.l2i1).extBut b3.extBut D.l2TO) hy fun g4 n4 b4 => wpAny_pure ?_)
  have o4 : IsPair g4 TO x b := b4.extBut _ _ D.TOi2 o3
  refine wpAny_bind (wpAny_seqItems o4 rfl ?_)
  refine wpAny_bind (wpAny_updateSeq_pair o4 fun g5 o5 b5 => ?_)
  replace o5 : IsPair g5 TO x y := o5
  refine wpAny_bind (wpAny_letGo (wpAny_pure (wpAny_pure ?_)))
  refine wpAny_bind (wpAny_seqItems o5 rfl ?_)
  refine wpAny_bind (wpAny_newTuple ?_)
  have hsz : g5.objs.size = s.heap.objs.size := by rw [b5.1, b4.1, b3.1, b2.1, b1.1]
  have z5 : IsZ g5 z TI TO .ellipsis (.bool false) := b5.extBut _ _ D.TOz.symm (b4.extBut _ _ D.i2z.symm (b3.extBut _ _ D.TOz.symm (b2.extBut _ _ D.i1z.symm z1)))
  have k5 : ∀ c o, c ≠ z → c ≠ TO → c ≠ i1 → c ≠ i2 → s.heap.get? c = some o → g5.get? c = some o := fun c o c1 c2 c3 c4 e =>
    b5.extBut _ _ c2 (b4.extBut _ _ c4 (b3.extBut _ _ c2 (b2.extBut _ _ c3 (b1.extBut _ _ c1 e))))
  have m1 : g5.IsTupleIter i1 l1 (k + 1) := ((n2.extBut b3.extBut D.TOi1.symm).extBut b4.extBut D.i12).extBut b5.extBut D.TOi1.symm
  have m2 : g5.IsTupleIter i2 l2 (k + 1) := n4.extBut b5.extBut D.TOi2.symm
  have zlt : z < g5.objs.size := Heap.lt_size z5
  change wpAny _ _ (Builtin.SmallTypes.ownedTupleHandOut (.ref z) (.ref g5.objs.size) >>= _) _ _ _
  refine wpAny_bind ?_
  unfold Builtin.SmallTypes.ownedTupleHandOut
  have z6 : IsZ (g5.push { cls := .type "tuple", data := .seq #[x, y] }) z TI TO .ellipsis (.bool false) := Heap.get?_push_of_some _ z5
  refine wpAny_bind (wpAny_setField_rec z6 (by simp) fun g7 z7 b7 => ?_)
  replace z7 : IsZ g7 z TI TO (rawInt g5.objs.size) (.bool false) := z7
  refine wpAny_setField_rec z7 (by simp) fun g8 z8 b8 => ?_
  replace z8 : IsZ g8 z TI TO (rawInt g5.objs.size) (.bool false) := z8
  have up : ∀ c o, c ≠ z → g5.get? c = some o → g8.get? c = some o := fun c o c1 e => b8.extBut _ _ c1 (b7.extBut _ _ c1 (Heap.get?_push_of_some _ e))
  have p8 : IsPair g8 g5.objs.size x y := b8.extBut _ _ (Nat.ne_of_gt zlt) (b7.extBut _ _ (Nat.ne_of_gt zlt) (Heap.get?_push_size _ rfl))
  rw [hsz] at z8 p8
  refine wpAny_pure ⟨_, rfl, ?_⟩
  change Q (.ref g5.objs.size) _
  rw [hsz]
  have all : ∀ c o, c ≠ z → c ≠ TO → c ≠ i1 → c ≠ i2 → s.heap.get? c = some o → g8.get? c = some o := fun c o c1 c2 c3 c4 e => up c o c1 (k5 c o c1 c2 c3 c4 e)
  exact hQ g8 z8 ⟨all _ _ D.TIz D.TITO D.TIi1 D.TIi2 hTI, ⟨x, y, up _ _ D.TOz o5⟩, m1.at fun o e => up _ o D.i1z e, m2.at fun o e => up _ o D.i2z e, tupleAt hl1 fun o e => all _ o D.l1z D.l1TO D.l1i1 D.l1i2 e,
    tupleAt hl2 fun o e => all _ o D.l2z D.l2TO D.l2i1 D.l2i2 e⟩ p8 all

theorem more_item {z TI TO i1 i2 l1 l2 T : Addr} {k : Nat} {f : Bool} {oT : Obj} {xs ys : Array Value} {x y : Value} {Q : Value → Shared → Prop} (D : ZipApart z TI TO i1 i2 l1 l2) (hz : IsZ s.heap z TI TO (rawInt T) (.bool f)) (hT : s.heap.get? T = some oT)
    (Z : Zt s.heap z TI TO i1 i2 l1 l2 xs ys k) (hx : xs[k]? = some x) (hy : ys[k]? = some y)
    (hQ : ∀ h', IsZ h' z TI TO (rawInt T) (.bool true) → Zt h' z TI TO i1 i2 l1 l2 xs ys (k + 1) → IsPair h' s.heap.objs.size x y →
      (∀ c o, c ≠ z → c ≠ TO → c ≠ i1 → c ≠ i2 → s.heap.get? c = some o → h'.get? c = some o) → Q (.ref s.heap.objs.size) { s with heap := h' }) :
    wpAny (model prog w) A (Builtin.«zip.__next__» ⟨[.ref z], []⟩) (fun fin s' => ∃ v, fin = .done (.ret v) ∧ Q v s') E s := by
  obtain ⟨hTI, ⟨a, b, hTO⟩, h1, h2, hl1, hl2⟩ := Z
  change wpAny _ _ (field (.ref z) 2 >>= _) _ _ _
  refine wpAny_bind (wpAny_field hz rfl (x := .bool false) rfl ?_)
  change wpAny _ _ (field (.ref z) 3 >>= _) _ _ _
  refine wpAny_bind (wpAny_field hz rfl (x := .ref TI) rfl ?_)
  refine wpAny_bind (wpAny_seqItems hTI rfl ?_)
  change wpAny _ _ (Builtin.SmallTypes.ownedTupleIsFree (.ref z) >>= _) _ _ _
  refine wpAny_bind ?_
  unfold Builtin.SmallTypes.ownedTupleIsFree
  refine wpAny_bind (wpAny_field hz rfl (x := rawInt T) rfl ?_)
  change wpAny _ _ (loadIfAlive ((T : Int).toNat) >>= _) _ _ _
  rw [Int.toNat_natCast]
  refine wpAny_bind (PySem.W.kdx_alive hT ?_)
  simp only [Option.isNone_some, Bool.false_eq_true, if_false]
  refine wpAny_bind (wpAny_field hz rfl (x := .bool f) rfl ?_)
  have tailOk : ∀ g1 : Heap, IsZ g1 z TI TO (rawInt T) (.bool true) → Heap.SameBut z s.heap g1 → ∀ {g2 : Heap}, g2.IsTupleIter i1 l1 (k + 1) → Heap.SameBut i1 g1 g2 → ∀ {g3 : Heap}, g3.IsTupleIter i2 l2 (k + 1) → Heap.SameBut i2 g2 g3 →
      Q (.ref g3.objs.size) { s with heap := g3.push { cls := .type "tuple", data := .seq #[x, y] } } := by
    intro g1 z1 b1 g2 n2 b2 g3 n3 b3
    have hsz : g3.objs.size = s.heap.objs.size := by rw [b3.1, b2.1, b1.1]
    have k3 : ∀ c o, c ≠ z → c ≠ i1 → c ≠ i2 → s.heap.get? c = some o → (g3.push { cls := .type "tuple", data := .seq #[x, y] }).get? c = some o := fun c o c1 c2 c3 e =>
      Heap.get?_push_of_some _ (b3.extBut _ _ c3 (b2.extBut _ _ c2 (b1.extBut _ _ c1 e)))
    have z3 : IsZ (g3.push { cls := .type "tuple", data := .seq #[x, y] }) z TI TO (rawInt T) (.bool true) := Heap.get?_push_of_some _ (b3.extBut _ _ D.i2z.symm (b2.extBut _ _ D.i1z.symm z1))
    have p3 : IsPair (g3.push { cls := .type "tuple", data := .seq #[x, y] }) g3.objs.size x y := Heap.get?_push_size _ rfl
    rw [hsz] at p3 ⊢
    refine hQ _ z3 ⟨k3 _ _ D.TIz D.TIi1 D.TIi2 hTI, ⟨a, b, k3 _ _ D.TOz D.TOi1 D.TOi2 hTO⟩, (n2.extBut b3.extBut D.i12).at fun o e => Heap.get?_push_of_some _ e, n3.at fun o e => Heap.get?_push_of_some _ e,
      tupleAt hl1 fun o e => k3 _ o D.l1z D.l1i1 D.l1i2 e, tupleAt hl2 fun o e => k3 _ o D.l2z D.l2i1 D.l2i2 e⟩ p3 fun c o c1 _ c3 c4 e => k3 c o c1 c3 c4 e
  cases f with
  | true =>
    rw [if_neg (show ¬ ((Value.bool true != Value.bool true) = true) from Bool.false_ne_true)]
    refine wpAny_pure ?_
    simp only [Bool.false_eq_true, if_false, ← Array.forIn_toList, List.forIn_cons, List.forIn_nil]
    refine wpAny_bind (wpAny_bind (wpAny_bind (wpAny_holding ?_)))
    change wpAny _ _ (Builtin.SmallTypes.nextOf (.ref i1) >>= _) _ _ _
    refine wpAny_bind (next_item h1 hl1 hx fun g2 n2 b2 => wpAny_pure (wpAny_pure ?_))
    refine wpAny_bind (wpAny_bind (wpAny_holding ?_))
    change wpAny _ _ (Builtin.SmallTypes.nextOf (.ref i2) >>= _) _ _ _
    refine wpAny_bind (next_item (h2.extBut b2.extBut D.i12.symm) (hl2.extBut b2.extBut D.l2i1) hy fun g3 n3 b3 => wpAny_pure (wpAny_pure (wpAny_pure ?_)))
    refine wpAny_bind (wpAny_newTuple (hsz := by show 2 ≤ sizeLine; decide) (wpAny_pure ⟨_, rfl, ?_⟩))
    exact tailOk s.heap hz (.refl ..) n2 b2 n3 b3
  | false =>
    rw [if_pos (show (Value.bool false != Value.bool true) = true from rfl)]
    refine wpAny_bind (wpAny_setField_rec hz (by simp) fun g1 z1 b1 => ?_)
    replace z1 : IsZ g1 z TI TO (rawInt T) (.bool true) := z1
    refine wpAny_pure ?_
    simp only [Bool.false_eq_true, if_false, ← Array.forIn_toList, List.forIn_cons, List.forIn_nil]
    refine wpAny_bind (wpAny_bind (wpAny_bind (wpAny_holding ?_)))
    change wpAny _ _ (Builtin.SmallTypes.nextOf (.ref i1) >>= _) _ _ _
    refine wpAny_bind (next_item (h1.extBut b1.extBut D.i1z) (hl1.extBut b1.extBut D.l1z) hx fun g2 n2 b2 => wpAny_pure (wpAny_pure ?_))
    refine wpAny_bind (wpAny_bind (wpAny_holding ?_))
    change wpAny _ _ (Builtin.SmallTypes.nextOf (.ref i2) >>= _) _ _ _
    refine wpAny_bind (next_item ((h2.extBut b1.extBut D.i2z).extBut b2.extBut D.i12.symm) ((hl2.extBut b1.extBut D.l2z).extBut b2.extBut D.l2i1) hy fun g3 n3 b3 => wpAny_pure (wpAny_pure (wpAny_pure ?_)))
    refine wpAny_bind (wpAny_newTuple (hsz := by show 2 ≤ sizeLine; decide) (wpAny_pure ⟨_, rfl, ?_⟩))
    exact tailOk g1 z1 b1 n2 b2 n3 b3

theorem zip_end {z TI TO i1 i2 l1 l2 : Addr} {k : Nat} {f0 : Value} {f : Bool} {xs ys : Array Value} {Q : Fin → Shared → Prop} (hh : A.handled = none) (D : ZipApart z TI TO i1 i2 l1 l2) (hz : IsZ s.heap z TI TO f0 (.bool f))
    (hf : f0 = .none ∨ ∃ T oT, f0 = rawInt ((T : Nat) : Int) ∧ s.heap.get? T = some oT) (Z : Zt s.heap z TI TO i1 i2 l1 l2 xs ys k) (hend : xs[k]? = none ∨ ys[k]? = none)
    (hE : ∀ h' e, (∀ c o, c ≠ z → c ≠ TO → c ≠ i1 → c ≠ i2 → s.heap.get? c = some o → h'.get? c = some o) → (∃ o, h'.get? e = some o ∧ o.cls = .type "StopIteration") → E (.ref e) { s with heap := h' }) :
    wpAny (model prog w) A (Builtin.«zip.__next__» ⟨[.ref z], []⟩) Q E s := by
  obtain ⟨hTI, ⟨a, b, hTO⟩, h1, h2, hl1, hl2⟩ := Z
  change wpAny _ _ (field (.ref z) 2 >>= _) _ _ _
  refine wpAny_bind (wpAny_field hz rfl (x := .bool false) rfl ?_)
  change wpAny _ _ (field (.ref z) 3 >>= _) _ _ _
  refine wpAny_bind (wpAny_field hz rfl (x := .ref TI) rfl ?_)
  refine wpAny_bind (wpAny_seqItems hTI rfl ?_)
  change wpAny _ _ (Builtin.SmallTypes.ownedTupleIsFree (.ref z) >>= _) _ _ _
  refine wpAny_bind ?_
  unfold Builtin.SmallTypes.ownedTupleIsFree
  rcases hf with rfl | ⟨T, oT, rfl, hT⟩
  · refine wpAny_bind (wpAny_field hz rfl (x := .none) rfl (wpAny_pure ?_))
    simp only [if_true]
    refine wpAny_bind (wpAny_rule ?_)
    refine wpAny_bind (wpAny_field hz rfl (x := .ref TO) rfl ?_)
    refine wpAny_bind (wpAny_setField_rec hz (by simp) fun g1 z1 b1 => ?_)
    replace z1 : IsZ g1 z TI TO .ellipsis (.bool f) := z1
    refine wpAny_bind ?_
    simp only [List.zipIdx_cons, List.zipIdx_nil, List.forIn_cons, List.forIn_nil]
    refine wpAny_bind (wpAny_bind (wpAny_onRaise ?_))
    change wpAny _ _ (Builtin.SmallTypes.nextOf (.ref i1) >>= _) _ _ _
    cases hx : xs[k]? with
    | none =>
      refine wpAny_bind (next_end hh (h1.extBut b1.extBut D.i1z) (hl1.extBut b1.extBut D.l1z) hx fun g2 e b2 he => ?_)
      obtain ⟨oe, hoe, hce⟩ := he
      have z2 : IsZ g2 z TI TO .ellipsis (.bool f) := b2 _ _ D.i1z.symm z1
      have hez : e ≠ z := fun x => by subst x; rw [z2] at hoe; cases hoe; simp at hce
      exact wpAny_setField_rec z2 (by simp) fun g3 _ b3 => hE g3 e (fun c o c1 _ c3 _ x => b3.extBut _ _ c1 (b2 _ _ c3 (b1.extBut _ _ c1 x))) ⟨oe, b3.extBut _ _ hez hoe, hce⟩
    | some x =>
      have hy : ys[k]? = none := by rcases hend with h | h; rw [hx] at h; cases h; exact h
      refine wpAny_bind (next_item (h1.extBut b1.extBut D.i1z) (hl1.extBut b1.extBut D.l1z) hx fun g2 n2 b2 => wpAny_pure ?_)
      have o2 : IsPair g2 TO a b := b2.extBut _ _ D.TOi1 (b1.extBut _ _ D.TOz hTO)
      refine wpAny_bind (wpAny_seqItems o2 rfl ?_)
      refine wpAny_bind (wpAny_updateSeq_pair o2 fun g3 o3 b3 => ?_)
      refine wpAny_bind (wpAny_letGo (wpAny_pure ?_))
      refine wpAny_bind (wpAny_bind (wpAny_onRaise ?_))
      change wpAny _ _ (Builtin.SmallTypes.nextOf (.ref i2) >>= _) _ _ _
      refine wpAny_bind (next_end hh (((h2.extBut b1.extBut D.i2z).extBut b2.extBut D.i12.symm).extBut b3.extBut D.TOi2.symm) (((hl2.extBut b1.extBut D.l2z).extBut b2.extBut D.l2i1).extBut b3.extBut D.l2TO) hy fun g4 e b4 he => ?_)
      obtain ⟨oe, hoe, hce⟩ := he
      have z4 : IsZ g4 z TI TO .ellipsis (.bool f) := b4 _ _ D.i2z.symm (b3.extBut _ _ D.TOz.symm (b2.extBut _ _ D.i1z.symm z1))
      have hez : e ≠ z := fun x => by subst x; rw [z4] at hoe; cases hoe; simp at hce
      exact wpAny_setField_rec z4 (by simp) fun g5 _ b5 => hE g5 e (fun c o c1 c2 c3 c4 x => b5.extBut _ _ c1 (b4 _ _ c4 (b3.extBut _ _ c2 (b2.extBut _ _ c3 (b1.extBut _ _ c1 x))))) ⟨oe, b5.extBut _ _ hez hoe, hce⟩
  · refine wpAny_bind (wpAny_field hz rfl (x := rawInt T) rfl ?_)
    change wpAny _ _ (loadIfAlive ((T : Int).toNat) >>= _) _ _ _
    rw [Int.toNat_natCast]
    refine wpAny_bind (PySem.W.kdx_alive hT ?_)
    simp only [Option.isNone_some, Bool.false_eq_true, if_false]
    refine wpAny_bind (wpAny_field hz rfl (x := .bool f) rfl ?_)
    have fin : ∀ g1 : Heap, Heap.SameBut z s.heap g1 → (xs[k]? = none → ∀ {g2 : Heap} {e : Addr}, Heap.ExtBut i1 g1 g2 → (∃ o, g2.get? e = some o ∧ o.cls = .type "StopIteration") → E (.ref e) { s with heap := g2 }) ∧
        (∀ {g2 g3 : Heap} {e : Addr}, Heap.SameBut i1 g1 g2 → Heap.ExtBut i2 g2 g3 → (∃ o, g3.get? e = some o ∧ o.cls = .type "StopIteration") → E (.ref e) { s with heap := g3 }) := fun g1 b1 =>
      ⟨fun _ {g2 e} b2 he => hE g2 e (fun c o c1 _ c3 _ x => b2 _ _ c3 (b1.extBut _ _ c1 x)) he, fun {g2 g3 e} b2 b3 he => hE g3 e (fun c o c1 _ c3 c4 x => b3 _ _ c4 (b2.extBut _ _ c3 (b1.extBut _ _ c1 x))) he⟩
    cases f with
    | true =>
      rw [if_neg (show ¬ ((Value.bool true != Value.bool true) = true) from Bool.false_ne_true)]
      refine wpAny_pure ?_
      simp only [Bool.false_eq_true, if_false, ← Array.forIn_toList, List.forIn_cons, List.forIn_nil]
      refine wpAny_bind (wpAny_bind (wpAny_bind (wpAny_holding ?_)))
      change wpAny _ _ (Builtin.SmallTypes.nextOf (.ref i1) >>= _) _ _ _
      cases hx : xs[k]? with
      | none => exact wpAny_bind (next_end hh h1 hl1 hx fun g2 e b2 he => (fin s.heap (.refl ..)).1 hx b2 he)
      | some x =>
        have hy : ys[k]? = none := by rcases hend with h | h; rw [hx] at h; cases h; exact h
        refine wpAny_bind (next_item h1 hl1 hx fun g2 n2 b2 => wpAny_pure (wpAny_pure ?_))
        refine wpAny_bind (wpAny_bind (wpAny_holding ?_))
        change wpAny _ _ (Builtin.SmallTypes.nextOf (.ref i2) >>= _) _ _ _
        exact wpAny_bind (next_end hh (h2.extBut b2.extBut D.i12.symm) (hl2.extBut b2.extBut D.l2i1) hy fun g3 e b3 he => (fin s.heap (.refl ..)).2 b2 b3 he)
    | false =>
      rw [if_pos (show (Value.bool false != Value.bool true) = true from rfl)]
      refine wpAny_bind (wpAny_setField_rec hz (by simp) fun g1 z1 b1 => ?_)
      refine wpAny_pure ?_
      simp only [Bool.false_eq_true, if_false, ← Array.forIn_toList, List.forIn_cons, List.forIn_nil]
      refine wpAny_bind (wpAny_bind (wpAny_bind (wpAny_holding ?_)))
      change wpAny _ _ (Builtin.SmallTypes.nextOf (.ref i1) >>= _) _ _ _
      cases hx : xs[k]? with
      | none => exact wpAny_bind (next_end hh (h1.extBut b1.extBut D.i1z) (hl1.extBut b1.extBut D.l1z) hx fun g2 e b2 he => (fin g1 b1).1 hx b2 he)
      | some x =>
        have hy : ys[k]? = none := by rcases hend with h | h; rw [hx] at h; cases h; exact h
        refine wpAny_bind (next_item (h1.extBut b1.extBut D.i1z) (hl1.extBut b1.extBut D.l1z) hx fun g2 n2 b2 => wpAny_pure (wpAny_pure ?_))
        refine wpAny_bind (wpAny_bind (wpAny_holding ?_))
        change wpAny _ _ (Builtin.SmallTypes.nextOf (.ref i2) >>= _) _ _ _
        exact wpAny_bind (next_end hh ((h2.extBut b1.extBut D.i2z).extBut b2.extBut D.i12.symm) ((hl2.extBut b1.extBut D.l2z).extBut b2.extBut D.l2i1) hy fun g3 e b3 he => (fin g1 b1).2 b2 b3 he)

theorem zip_no_len : typeLookup (.type "zip") "__len__" = pure none := by rw [typeLookup_type, builtinLookup_eq_fast]; kernel_rfl
theorem zip_no_hint : typeLookup (.type "zip") "__length_hint__" = pure none := by rw [typeLookup_type, builtinLookup_eq_fast]; kernel_rfl

noncomputable def Pairs (h : Heap) (S : Addr) (xs ys : Array Value) (acc : Array Value) : Prop := ∀ (j : Nat) (v : Value), acc[j]? = some v → ∃ T x y, v = .ref T ∧ xs[j]? = some x ∧ ys[j]? = some y ∧ S < T ∧ IsPair h T x y

theorem loop {R : Result → Shared → Prop} {z TI TO i1 i2 l1 l2 S : Addr} {xs ys : Array Value} {res : Value} (hh : A.handled = none) (D : ZipApart z TI TO i1 i2 l1 l2) (hS1 : ∀ b ∈ [z, TI, TO, i1, i2, l1, l2], S ≠ b) (hn : min xs.size ys.size ≤ sizeLine) :
    ∀ (r k : Nat) (s : Shared) (acc : Array Value) (c : Nat) (f0 : Value) (f : Bool), min xs.size ys.size - k = r → k ≤ min xs.size ys.size → Zt s.heap z TI TO i1 i2 l1 l2 xs ys k → IsZ s.heap z TI TO f0 (.bool f) →
      ((f0 = .none ∧ f = false) ∨ ∃ T oT, f0 = rawInt ((T : Nat) : Int) ∧ s.heap.get? T = some oT ∧ ∀ b ∈ [z, TO, i1, i2, S], T ≠ b) →
      s.heap.get? S = some { cls := .type "list", dict := none, data := .seq acc c, slots := #[] } → acc.size = k → Pairs s.heap S xs ys acc → (∀ (j : Nat) (T : Addr), acc[j]? = some (.ref T) → ∀ b ∈ [z, TO, i1, i2, S], T ≠ b) →
      (∀ h' acc' c', (∀ b o, b ≠ S → b ≠ z → b ≠ TO → b ≠ i1 → b ≠ i2 → s.heap.get? b = some o → h'.get? b = some o) → h'.get? S = some { cls := .type "list", dict := none, data := .seq acc' c', slots := #[] } →
        acc'.size = min xs.size ys.size → Pairs h' S xs ys acc' → R (.ok (.ret res)) { s with heap := h' }) →
      codeAny (model prog w) A (.builtin "list.extend.loop" ⟨[.ref S, .ref z, res], []⟩) R s := by
  intro r
  have Sz : S ≠ z := hS1 z (by simp)
  have STO : S ≠ TO := hS1 TO (by simp)
  have Si1 : S ≠ i1 := hS1 i1 (by simp)
  have Si2 : S ≠ i2 := hS1 i2 (by simp)
  induction r with
  | zero =>
    intro k s acc c f0 f hr hk Z hz hf hS ha hp hap hR
    have hkn : k = min xs.size ys.size := by omega
    refine codeAny_builtin F.entry_extend_loop ?_
    rw [Around.under_plainId F.plain_extend_loop _]
    change wpAny _ A.in1 (pyNext (.ref z) >>= _) _ _ s
    have hT : s.TypeIs (.ref z) "zip" := ⟨_, hz, rfl⟩
    have hend : xs[k]? = none ∨ ys[k]? = none := by
      rcases Nat.le_total xs.size ys.size with h | h
      · exact .inl (Array.getElem?_eq_none (by rw [hkn, Nat.min_eq_left h]; exact Nat.le_refl _))
      · exact .inr (Array.getElem?_eq_none (by rw [hkn, Nat.min_eq_right h]; exact Nat.le_refl _))
    refine wpAny_bind ?_
    unfold pyNext
    refine wpAny_bind (wpAny_attempt (wpAny_callSpecial?_slot (name := Str.ofString "__next__") hT F.slot_zip_next (wpAny_call_entry F.slot_zip_next hT F.entry_zip_next
      (zip_end hh D hz (by rcases hf with ⟨e, _⟩ | ⟨T, oT, e, eT, _⟩; exact .inl e; exact .inr ⟨T, oT, e, eT⟩) Z hend fun h' e kp he => ?_) (F.args_zip_next_1 _))))
    obtain ⟨o, ho, hc⟩ := he
    refine wpAny_bind (wpAny_isInstance (T := "StopIteration") (b := true) ⟨o, ho, hc⟩ isSubtype_stop ?_)
    refine wpAny_pure (wpAny_pure ?_)
    refine hR h' acc c (fun b o _ b1 b2 b3 b4 e => kp b o b1 b2 b3 b4 e) (kp _ _ Sz STO Si1 Si2 hS) (by omega) (fun j v e => ?_)
    obtain ⟨T, x, y, rfl, ex, ey, lt, pr⟩ := hp j v e
    have q := hap j T e
    exact ⟨T, x, y, rfl, ex, ey, lt, kp _ _ (q z (by simp)) (q TO (by simp)) (q i1 (by simp)) (q i2 (by simp)) pr⟩
  | succ r ih =>
    intro k s acc c f0 f hr hk Z hz hf hS ha hp hap hR
    have hkx : k < xs.size := by omega
    have hky : k < ys.size := by omega
    refine codeAny_builtin F.entry_extend_loop ?_
    rw [Around.under_plainId F.plain_extend_loop _]
    change wpAny _ A.in1 (pyNext (.ref z) >>= _) _ _ s
    have hT : s.TypeIs (.ref z) "zip" := ⟨_, hz, rfl⟩
    have slt : ∀ {b : Addr} {o : Obj}, s.heap.get? b = some o → s.heap.objs.size ≠ b := fun e => Nat.ne_of_gt (Heap.lt_size e)
    obtain ⟨o1, e1, _⟩ := id Z.n1
    obtain ⟨o2, e2, _⟩ := id Z.n2
    obtain ⟨a0, b0, e3⟩ := id Z.to
    have newAp : ∀ b ∈ [z, TO, i1, i2, S], s.heap.objs.size ≠ b := by
      intro b hb
      simp only [List.mem_cons, List.not_mem_nil, or_false] at hb
      rcases hb with rfl | rfl | rfl | rfl | rfl
      · exact slt hz
      · exact slt e3
      · exact slt e1
      · exact slt e2
      · exact slt hS
    -- what follows when the pair has come
    have next : ∀ (h' : Heap) (f0' : Value) (f' : Bool), IsZ h' z TI TO f0' (.bool f') → ((f0' = .none ∧ f' = false) ∨ ∃ T oT, f0' = rawInt ((T : Nat) : Int) ∧ h'.get? T = some oT ∧ ∀ b ∈ [z, TO, i1, i2, S], T ≠ b) →
        Zt h' z TI TO i1 i2 l1 l2 xs ys (k + 1) → IsPair h' s.heap.objs.size xs[k] ys[k] → (∀ c o, c ≠ z → c ≠ TO → c ≠ i1 → c ≠ i2 → s.heap.get? c = some o → h'.get? c = some o) →
        wpAny (model prog w) A.in1 (updateSeq S (·.push (.ref s.heap.objs.size)) >>= fun _ => again (.builtin "list.extend.loop" ⟨[.ref S, .ref z, res], []⟩))
          (fun fin s' => match fin with | .done f => R (.ok f) s' | .again c' => c'.quiet = true ∧ codeAny (model prog w) A c' R s') (fun e s' => R (.error e) s') { s with heap := h' } := by
      intro h' f0' f' z' hf' Z' pr kp
      have S' : h'.get? S = some { cls := .type "list", dict := none, data := .seq acc c, slots := #[] } := kp _ _ Sz STO Si1 Si2 hS
      refine wpAny_bind (wpAny_updateSeq S' rfl (wpAny_pure ⟨plainId_quiet F.plain_extend_loop _, ?_⟩) (by rw [ha]; omega) (by show (acc.push _).size ≤ sizeLine + 1; rw [Array.size_push, ha]; omega))
      have oth : ∀ b o, b ≠ S → h'.get? b = some o → (h'.update S (Obj.mapSeq (·.push (Value.ref s.heap.objs.size)))).get? b = some o := fun b o hb e => (Heap.get?_update_other _ _ (Ne.symm hb)).trans e
      have S7 : ∀ b ∈ [z, TI, TO, i1, i2, l1, l2], b ≠ S := fun b hb => (hS1 b hb).symm
      refine ih (k + 1) _ (acc.push (.ref s.heap.objs.size)) _ f0' f' (by omega) (by omega) ?_ (oth _ _ Sz.symm z') ?_ (Heap.get?_update_self _ S' rfl) (by rw [Array.size_push, ha]) ?_ ?_ ?_
      · obtain ⟨q1, ⟨qa, qb, q2⟩, q3, q4, q5, q6⟩ := Z'
        exact ⟨oth _ _ (S7 TI (by simp)) q1, ⟨qa, qb, oth _ _ (S7 TO (by simp)) q2⟩, q3.at fun o e => oth _ o (S7 i1 (by simp)) e, q4.at fun o e => oth _ o (S7 i2 (by simp)) e, tupleAt q5 fun o e => oth _ o (S7 l1 (by simp)) e, tupleAt q6 fun o e => oth _ o (S7 l2 (by simp)) e⟩
      · rcases hf' with q | ⟨T, oT, q1, q2, q3⟩
        · exact .inl q
        · exact .inr ⟨T, oT, q1, oth _ _ (q3 S (by simp)) q2, q3⟩
      · intro j v e
        rw [Array.getElem?_push] at e
        split at e
        · rename_i ej
          cases e
          rw [ha] at ej
          subst ej
          exact ⟨_, xs[j], ys[j], rfl, Array.getElem?_eq_getElem hkx, Array.getElem?_eq_getElem hky, Heap.lt_size hS, oth _ _ (newAp S (by simp)) pr⟩
        · obtain ⟨T, x, y, rfl, ex, ey, lt0, pr0⟩ := hp j v e
          have q := hap j T e
          exact ⟨T, x, y, rfl, ex, ey, lt0, oth _ _ (q S (by simp)) (kp _ _ (q z (by simp)) (q TO (by simp)) (q i1 (by simp)) (q i2 (by simp)) pr0)⟩
      · intro j T e
        rw [Array.getElem?_push] at e
        split at e
        · cases e; exact newAp
        · exact hap j T e
      · intro h'' acc' c' kp2 g1 g2 g3
        exact hR h'' acc' c' (fun b o b0 b1 b2 b3 b4 e => kp2 b o b0 b1 b2 b3 b4 (oth _ _ b0 (kp _ _ b1 b2 b3 b4 e))) g1 g2 g3
    refine wpAny_bind ?_
    unfold pyNext
    rcases hf with ⟨rfl, rfl⟩ | ⟨T, oT, rfl, eT, aT⟩
    · refine wpAny_bind (wpAny_attempt (wpAny_callSpecial?_slot (name := Str.ofString "__next__") hT F.slot_zip_next (wpAny_call_entry F.slot_zip_next hT F.entry_zip_next
        (first_item D hz Z (Array.getElem?_eq_getElem hkx) (Array.getElem?_eq_getElem hky) fun h' z' Z' pr kp => wpAny_pure ?_) (F.args_zip_next_1 _))))
      exact next h' _ false z' (.inr ⟨_, _, rfl, pr, newAp⟩) Z' pr kp
    · refine wpAny_bind (wpAny_attempt (wpAny_callSpecial?_slot (name := Str.ofString "__next__") hT F.slot_zip_next (wpAny_call_entry F.slot_zip_next hT F.entry_zip_next
        (more_item D hz eT Z (Array.getElem?_eq_getElem hkx) (Array.getElem?_eq_getElem hky) fun h' z' Z' pr kp => wpAny_pure ?_) (F.args_zip_next_1 _))))
      exact next h' _ true z' (.inr ⟨T, oT, rfl, kp _ _ (aT z (by simp)) (aT TO (by simp)) (aT i1 (by simp)) (aT i2 (by simp)) eT, aT⟩) Z' pr kp

theorem extend {R : Result → Shared → Prop} {z TI TO i1 i2 l1 l2 S : Addr} {xs ys : Array Value} {res : Value} {c₀ : Nat} (hh : A.handled = none) (D : ZipApart z TI TO i1 i2 l1 l2) (hS1 : ∀ b ∈ [z, TI, TO, i1, i2, l1, l2], S ≠ b) (hn : min xs.size ys.size ≤ sizeLine)
    (Z : Zt s.heap z TI TO i1 i2 l1 l2 xs ys 0) (hz : IsZ s.heap z TI TO .none (.bool false)) (hS : s.heap.get? S = some { cls := .type "list", data := .seq #[] c₀ })
    (hR : ∀ h' acc' c', (∀ b o, b ≠ S → b ≠ z → b ≠ TO → b ≠ i1 → b ≠ i2 → s.heap.get? b = some o → h'.get? b = some o) → h'.get? S = some { cls := .type "list", dict := none, data := .seq acc' c', slots := #[] } →
      acc'.size = min xs.size ys.size → Pairs h' S xs ys acc' → R (.ok (.ret res)) { s with heap := h' }) :
    wpAny (model prog w) A.in1 (Builtin.List.listExtendWith (.ref S) (.ref z) res)
      (fun fin s' => match fin with | .done f => R (.ok f) s' | .again c' => c'.quiet = true ∧ codeAny (model prog w) A c' R s') (fun e s' => R (.error e) s') s := by
  have hT : s.TypeIs (.ref z) "zip" := ⟨_, hz, rfl⟩
  have Sz : S ≠ z := hS1 z (by simp)
  unfold Builtin.List.listExtendWith
  refine wpAny_bind (wpAny_typeOf hT ?_)
  have q1 : Builtin.List.listSameRef (.ref S) (.ref z) = false := by simp [Builtin.List.listSameRef, Sz]
  have q2 : (Value.type "zip" == Value.type "list") = false := by decide
  have q3 : (Value.type "zip" == Value.type "tuple") = false := by decide
  simp only [q1, q2, q3, Bool.or_false, Bool.false_eq_true, if_false]
  refine wpAny_bind (wpAny_pyIter_slot hT F.slot_zip_iter (wpAny_call_entry F.slot_zip_iter hT F.entry_zip_iter (wpAny_pure ⟨_, rfl, "zip", _, hT, F.slot_zip_next.lookup, ?_⟩) (F.args_zip_iter_1 _)))
  refine wpAny_bind (wpAny_holding ?_)
  unfold Builtin.List.listLengthHint
  refine wpAny_bind (wpAny_specialOf hT zip_no_len ?_)
  change wpAny _ A.in1 (specialOf (Value.ref z) (Str.ofString "__length_hint__") >>= _) _ _ _
  refine wpAny_bind (wpAny_specialOf hT zip_no_hint ?_)
  refine wpAny_pure ?_
  change wpAny _ A.in1 (rule "list.extend.makes-room" >>= fun _ => Builtin.List.listTouch (.ref S) >>= fun _ => again (.builtin "list.extend.loop" ⟨[.ref S, .ref z, res], []⟩)) _ _ _
  refine wpAny_bind (wpAny_rule (wpAny_bind ?_))
  change wpAny _ A.in1 (updateSeq S (·.push .none) >>= fun _ => updateSeq S (·.pop)) _ _ _
  refine wpAny_bind (wpAny_updateSeq hS rfl ?_)
  have S2 := Heap.get?_update_self (Obj.mapSeq (·.push Value.none)) hS rfl
  refine wpAny_updateSeq (hz := by seq_fits) S2 rfl ?_
  have S3 := Heap.get?_update_self (Obj.mapSeq (·.pop)) S2 rfl
  have oth : ∀ b o, b ≠ S → s.heap.get? b = some o → ((s.heap.update S (Obj.mapSeq (·.push Value.none))).update S (Obj.mapSeq (·.pop))).get? b = some o :=
    fun b o hb e => (Heap.get?_update_other _ _ (Ne.symm hb)).trans ((Heap.get?_update_other _ _ (Ne.symm hb)).trans e)
  have S7 : ∀ b ∈ [z, TI, TO, i1, i2, l1, l2], b ≠ S := fun b hb => (hS1 b hb).symm
  obtain ⟨p1, ⟨pa, pb, p2⟩, p3, p4, p5, p6⟩ := Z
  refine wpAny_pure ⟨plainId_quiet F.plain_extend_loop _, loop hh D hS1 hn _ 0 _ _ _ .none false rfl (Nat.zero_le _)
    ⟨oth _ _ (S7 TI (by simp)) p1, ⟨pa, pb, oth _ _ (S7 TO (by simp)) p2⟩, p3.at fun o e => oth _ o (S7 i1 (by simp)) e, p4.at fun o e => oth _ o (S7 i2 (by simp)) e, tupleAt p5 fun o e => oth _ o (S7 l1 (by simp)) e, tupleAt p6 fun o e => oth _ o (S7 l2 (by simp)) e⟩
    (oth _ _ Sz.symm hz) (.inl ⟨rfl, rfl⟩) S3 rfl (fun j v e => by simp at e) (fun j T e => by simp at e) fun h' acc' c' kp g1 g2 g3 => ?_⟩
  exact hR h' acc' c' (fun b o b0 b1 b2 b3 b4 e => kp b o b0 b1 b2 b3 b4 (oth _ _ b0 e)) g1 g2 g3

noncomputable abbrev k1 (h : Heap) (l1 : Addr) : Heap := h.push { cls := .type "tuple_iterator", data := .fields #[.ref l1, .int 0 0] }
noncomputable abbrev k2 (h : Heap) (l1 l2 : Addr) : Heap := (k1 h l1).push { cls := .type "tuple_iterator", data := .fields #[.ref l2, .int 0 0] }
noncomputable abbrev k3 (h : Heap) (l1 l2 : Addr) : Heap := (k2 h l1 l2).push { cls := .type "tuple", data := .seq #[.ref h.objs.size, .ref (k1 h l1).objs.size] }
noncomputable abbrev k4 (h : Heap) (l1 l2 : Addr) : Heap := (k3 h l1 l2).push { cls := .type "tuple", data := .seq #[.none, .none] }
noncomputable abbrev k5 (h : Heap) (l1 l2 : Addr) : Heap := (k4 h l1 l2).push { cls := .type "zip", data := .fields #[.none, .bool false, .bool false, .ref (k2 h l1 l2).objs.size, .ref (k3 h l1 l2).objs.size] }
end
section
variable {prog : Program} {w : World} {A : Around} {E : Value → Shared → Prop} {s : Shared}
end
end ZT

namespace L2
open PySem PySem.Spec PyProof.Rows
section
variable {X : Cx} {pins : List (Addr × Obj)} {σ : St} {H H' : Hp} {s : Shared}
theorem Inv.grow {h' : Heap} {t' : Nat} (I : Inv X pins σ H s) (k : ∀ b o, s.heap.get? b = some o → h'.get? b = some o) (same : ∀ b, b < s.heap.objs.size → H' b = H b) (hok : HOk X.prog X.w H' h') : Inv X pins σ H' { s with heap := h', toks := t' } := by
  have old : ∀ b u, H b = some u → H' b = some u := fun b u e => by rw [same b (I.hok.lt e)]; exact e
  exact I.un ⟨fun b o e _ _ _ => k b o e, fun b o e _ _ _ => ⟨o.slots, k b o e⟩, fun b o e n _ => by rw [same b (Heap.lt_size e)]; exact n, fun b o e _ => ⟨o, k b o e⟩, fun b xs e => old b _ e, fun b o u e => old b _ e,
    fun b ps e => ⟨#[], by rw [old b _ e]; simp⟩⟩ hok
end
end L2
set_option Elab.async false
set_option linter.all false
set_option maxRecDepth 100000
set_option maxHeartbeats 4000000
namespace L2
open PySem PySem.Spec PyProof.Rows

section
variable {X : Cx}
end
end L2
set_option Elab.async false
set_option linter.all false
set_option maxRecDepth 100000
set_option maxHeartbeats 4000000
namespace L2
open PySem PySem.Spec PyProof.Rows

inductive D where
  | non | int (i : Int) | str (x : Str) | tup (ds : List D)

mutual
noncomputable def Is (K : PySem.W.Frag) (H : Hp) : D → V → Prop
  | .non, v => v = .non
  | .int i, v => v = .int i
  | .str x, v => v = .str x
  | .tup ds, v => ∃ a xs, v = .ref a ∧ SqT K H a xs ∧ IsL K H ds xs
noncomputable def IsL (K : PySem.W.Frag) (H : Hp) : List D → List V → Prop
  | [], vs => vs = []
  | d :: ds, vs => ∃ v r, vs = v :: r ∧ Is K H d v ∧ IsL K H ds r
end

noncomputable def Tups (H H' : Hp) : Prop := (∀ b xs, H b = some (.tup xs) → H' b = some (.tup xs)) ∧ ∀ b o u, H b = some (.frz o u) → H' b = some (.frz o u)
theorem Same.tups {H H' : Hp} (h : Same H H') : Tups H H' := ⟨fun b xs e => h b _ e, fun b o u e => h b _ e⟩
theorem Tups.refl (H : Hp) : Tups H H := ⟨fun _ _ e => e, fun _ _ _ e => e⟩
theorem Tups.trans {H H1 H2 : Hp} (a : Tups H H1) (b : Tups H1 H2) : Tups H H2 := ⟨fun c xs e => b.1 c xs (a.1 c xs e), fun c o u e => b.2 c o u (a.2 c o u e)⟩
theorem Tups.sq {K : PySem.W.Frag} {H H' : Hp} {a : Addr} {xs : List V} (t : Tups H H') (h : SqT K H a xs) : SqT K H' a xs := by
  rcases h with (h | ⟨o, h⟩) | h
  · exact .inl (.inl (t.1 _ _ h))
  · exact .inl (.inr ⟨o, t.2 _ _ _ h⟩)
  · exact .inr h
mutual
theorem Is.mono {K : PySem.W.Frag} {H H' : Hp} (t : Tups H H') : ∀ {d : D} {v : V}, Is K H d v → Is K H' d v
  | .non, _, h => by unfold Is at h ⊢; exact h
  | .int _, _, h => by unfold Is at h ⊢; exact h
  | .str _, _, h => by unfold Is at h ⊢; exact h
  | .tup ds, _, h => by
    unfold Is at h ⊢
    obtain ⟨a, xs, e, q, l⟩ := h
    exact ⟨a, xs, e, t.sq q, IsL.mono t l⟩
theorem IsL.mono {K : PySem.W.Frag} {H H' : Hp} (t : Tups H H') : ∀ {ds : List D} {vs : List V}, IsL K H ds vs → IsL K H' ds vs
  | [], _, h => by unfold IsL at h ⊢; exact h
  | d :: ds, _, h => by
    unfold IsL at h ⊢
    obtain ⟨v, r, e, p, q⟩ := h
    exact ⟨v, r, e, Is.mono t p, IsL.mono t q⟩
end
theorem is_non {K : PySem.W.Frag} {H : Hp} : Is K H .non .non := by unfold Is; rfl
theorem is_int {K : PySem.W.Frag} {H : Hp} {i : Int} : Is K H (.int i) (.int i) := by unfold Is; rfl
theorem is_str {K : PySem.W.Frag} {H : Hp} {x : Str} : Is K H (.str x) (.str x) := by unfold Is; rfl
theorem is_tup {K : PySem.W.Frag} {H : Hp} {a : Addr} {xs : List V} {ds : List D} (h : SqT K H a xs) (l : IsL K H ds xs) : Is K H (.tup ds) (.ref a) := by unfold Is; exact ⟨a, xs, rfl, h, l⟩
theorem isl_nil {K : PySem.W.Frag} {H : Hp} : IsL K H [] [] := by unfold IsL; rfl
theorem isl_cons {K : PySem.W.Frag} {H : Hp} {d : D} {ds : List D} {v : V} {vs : List V} (h : Is K H d v) (l : IsL K H ds vs) : IsL K H (d :: ds) (v :: vs) := by unfold IsL; exact ⟨v, vs, rfl, h, l⟩
theorem Is.int_inv {K : PySem.W.Frag} {H : Hp} {i : Int} {v : V} (h : Is K H (.int i) v) : v = .int i := by unfold Is at h; exact h
theorem Is.str_inv {K : PySem.W.Frag} {H : Hp} {i : Str} {v : V} (h : Is K H (.str i) v) : v = .str i := by unfold Is at h; exact h
theorem Is.non_inv {K : PySem.W.Frag} {H : Hp} {v : V} (h : Is K H .non v) : v = .non := by unfold Is at h; exact h
theorem Is.tup_inv {K : PySem.W.Frag} {H : Hp} {ds : List D} {v : V} (h : Is K H (.tup ds) v) : ∃ a xs, v = .ref a ∧ SqT K H a xs ∧ IsL K H ds xs := by unfold Is at h; exact h
theorem IsL.nil_inv {K : PySem.W.Frag} {H : Hp} {vs : List V} (h : IsL K H [] vs) : vs = [] := by unfold IsL at h; exact h
theorem IsL.cons_inv {K : PySem.W.Frag} {H : Hp} {d : D} {ds : List D} {vs : List V} (h : IsL K H (d :: ds) vs) : ∃ v r, vs = v :: r ∧ Is K H d v ∧ IsL K H ds r := by unfold IsL at h; exact h
theorem IsL.length {K : PySem.W.Frag} {H : Hp} : ∀ {ds : List D} {vs : List V}, IsL K H ds vs → ds.length = vs.length
  | [], _, h => by rw [h.nil_inv]; rfl
  | d :: ds, _, h => by
    obtain ⟨v, r, rfl, _, q⟩ := h.cons_inv
    simp [IsL.length q]
theorem IsL.get {K : PySem.W.Frag} {H : Hp} : ∀ {ds : List D} {vs : List V} {j : Nat} {d : D}, IsL K H ds vs → ds[j]? = some d → ∃ v, vs[j]? = some v ∧ Is K H d v
  | [], _, _, _, _, e => by simp at e
  | d :: ds, _, 0, _, h, e => by
    obtain ⟨v, r, rfl, p, _⟩ := h.cons_inv
    simp at e; subst e
    exact ⟨v, rfl, p⟩
  | d :: ds, _, j + 1, _, h, e => by
    obtain ⟨v, r, rfl, _, q⟩ := h.cons_inv
    obtain ⟨v', e', p'⟩ := IsL.get (j := j) q (by simpa using e)
    exact ⟨v', by simpa using e', p'⟩
theorem IsL.get' {K : PySem.W.Frag} {H : Hp} {ds : List D} {vs : List V} {j : Nat} {v : V} (h : IsL K H ds vs) (e : vs[j]? = some v) : ∃ d, ds[j]? = some d ∧ Is K H d v := by
  have hj : j < ds.length := by rw [h.length]; exact (List.getElem?_eq_some_iff.mp e).1
  obtain ⟨v', e', p⟩ := h.get (List.getElem?_eq_getElem hj)
  rw [e] at e'; cases e'
  exact ⟨_, List.getElem?_eq_getElem hj, p⟩
theorem IsL.drop {K : PySem.W.Frag} {H : Hp} : ∀ {ds : List D} {vs : List V} (n : Nat), IsL K H ds vs → IsL K H (ds.drop n) (vs.drop n)
  | _, _, 0, h => h
  | [], _, n + 1, h => by rw [h.nil_inv]; exact isl_nil
  | d :: ds, _, n + 1, h => by
    obtain ⟨v, r, rfl, _, q⟩ := h.cons_inv
    exact IsL.drop n q
theorem IsL.append {K : PySem.W.Frag} {H : Hp} : ∀ {ds es : List D} {vs ws : List V}, IsL K H ds vs → IsL K H es ws → IsL K H (ds ++ es) (vs ++ ws)
  | [], _, _, _, h, q => by rw [h.nil_inv]; exact q
  | d :: ds, _, _, _, h, q => by
    obtain ⟨v, r, rfl, p, t⟩ := h.cons_inv
    exact isl_cons p (IsL.append t q)

mutual
noncomputable def D.dep : D → Nat
  | .tup ds => 1 + D.depL ds
  | _ => 0
noncomputable def D.depL : List D → Nat
  | [] => 0
  | d :: ds => max d.dep (D.depL ds)
end
mutual
noncomputable def D.beq : D → D → Bool
  | .non, .non => true
  | .int i, .int j => i == j
  | .str x, .str y => x == y
  | .tup ds, .tup es => D.beqL ds es
  | _, _ => false
noncomputable def D.beqL : List D → List D → Bool
  | [], [] => true
  | d :: ds, e :: es => D.beq d e && D.beqL ds es
  | _, _ => false
end
mutual
theorem D.beq_iff : ∀ (d e : D), D.beq d e = true ↔ d = e
  | .non, e => by cases e <;> simp [D.beq]
  | .int i, e => by cases e <;> simp [D.beq]
  | .str i, e => by cases e <;> simp [D.beq]
  | .tup ds, e => by
    cases e with
    | tup es => simp [D.beq, D.beqL_iff ds es]
    | _ => simp [D.beq]
theorem D.beqL_iff : ∀ (ds es : List D), D.beqL ds es = true ↔ ds = es
  | [], es => by cases es <;> simp [D.beqL]
  | d :: ds, es => by
    cases es with
    | nil => simp [D.beqL]
    | cons e es => simp [D.beqL, D.beq_iff d e, D.beqL_iff ds es]
end
theorem D.beq_self (d : D) : D.beq d d = true := (D.beq_iff d d).mpr rfl
theorem D.beqL_self (d : List D) : D.beqL d d = true := (D.beqL_iff d d).mpr rfl
theorem D.beqL_len : ∀ (ds es : List D), D.beqL ds es = true → ds.length = es.length := fun ds es h => by rw [(D.beqL_iff ds es).mp h]
theorem D.dep_le : ∀ {ds : List D} {d : D}, d ∈ ds → d.dep ≤ D.depL ds
  | e :: ds, d, h => by
    rcases List.mem_cons.mp h with rfl | h
    · unfold D.depL; exact Nat.le_max_left ..
    · unfold D.depL; exact Nat.le_trans (D.dep_le h) (Nat.le_max_right ..)
theorem D.beqL_all : ∀ (ds es : List D), ((List.range (min ds.length es.length)).all (fun j => match ds[j]?, es[j]? with | some d, some e => D.beq d e | _, _ => true) && ds.length == es.length) = D.beqL ds es := by
  intro ds es
  by_cases hl : ds.length = es.length
  · rw [Bool.eq_iff_iff, Bool.and_eq_true, List.all_eq_true, D.beqL_iff]
    constructor
    · rintro ⟨h, _⟩
      refine List.ext_getElem? fun j => ?_
      by_cases hj : j < ds.length
      · have hj' : j < es.length := by omega
        have q := h j (List.mem_range.mpr (by omega))
        rw [List.getElem?_eq_getElem hj, List.getElem?_eq_getElem hj'] at q
        rw [List.getElem?_eq_getElem hj, List.getElem?_eq_getElem hj', (D.beq_iff _ _).mp q]
      · rw [List.getElem?_eq_none (by omega), List.getElem?_eq_none (by omega)]
    · rintro rfl
      refine ⟨fun j hj => ?_, by simp⟩
      have hj' : j < ds.length := by have := List.mem_range.mp hj; omega
      rw [List.getElem?_eq_getElem hj']
      exact D.beq_self _
  · have e1 : (ds.length == es.length) = false := by simpa using hl
    have e2 : D.beqL ds es = false := by
      cases h : D.beqL ds es with
      | false => rfl
      | true => exact absurd (D.beqL_len ds es h) hl
    rw [e1, e2, Bool.and_false]

section
variable {X : Cx} {pins : List (Addr × Obj)} {σ : St} {H : Hp} {s : Shared}
mutual
theorem Is.inj (I : Inv X pins σ H s) : ∀ {d e : D} {v : V}, Is X.K H d v → Is X.K H e v → d = e
  | .non, e, _, h, k => by
    have := h.non_inv; subst this
    cases e with
    | non => rfl
    | int i => cases k.int_inv
    | str i => cases k.str_inv
    | tup es => obtain ⟨_, _, q, _⟩ := k.tup_inv; cases q
  | .int i, e, _, h, k => by
    have := h.int_inv; subst this
    cases e with
    | non => cases k.non_inv
    | int j => cases k.int_inv; rfl
    | str i => cases k.str_inv
    | tup es => obtain ⟨_, _, q, _⟩ := k.tup_inv; cases q
  | .str i, e, _, h, k => by
    have := h.str_inv; subst this
    cases e with
    | non => cases k.non_inv
    | int j => cases k.int_inv
    | str i => cases k.str_inv; rfl
    | tup es => obtain ⟨_, _, q, _⟩ := k.tup_inv; cases q
  | .tup ds, e, _, h, k => by
    obtain ⟨a, xs, rfl, q, l⟩ := h.tup_inv
    cases e with
    | non => cases k.non_inv
    | int j => cases k.int_inv
    | str i => cases k.str_inv
    | tup es =>
      obtain ⟨b, ys, e', q', l'⟩ := k.tup_inv
      cases e'
      have := I.tuple_inj q q'
      subst this
      rw [IsL.inj I l l']
theorem IsL.inj (I : Inv X pins σ H s) : ∀ {ds es : List D} {vs : List V}, IsL X.K H ds vs → IsL X.K H es vs → ds = es
  | [], es, _, h, k => by
    have := h.nil_inv; subst this
    have := k.length
    simp at this; rw [this]
  | d :: ds, es, _, h, k => by
    obtain ⟨v, r, rfl, p, q⟩ := h.cons_inv
    cases es with
    | nil => cases k.nil_inv
    | cons e es =>
      obtain ⟨v', r', e', p', q'⟩ := k.cons_inv
      cases e'
      rw [Is.inj I p p', IsL.inj I q q']
end

theorem in1_units (A : Around) : A.in1.units = A.units + 1 := rfl
mutual
theorem eqAt_D (I : Inv X pins σ H s) : ∀ (d : D) (e : D) {A : Around} {v v' : V} {u u' : Value}, Is X.K H d v → Is X.K H e v' → RelV v u → RelV v' u' → A.units + d.dep < cLine → SeqAt.EqAt A s u u' (D.beq d e)
  | .non, e, A, v, v', u, u', h, k, r, r', hu => by
    have := h.non_inv; subst this
    have eu : u = .none := r
    subst eu
    cases e with
    | non => have := k.non_inv; subst this; have eu : u' = .none := r'; subst eu; exact SeqAt.EqAt.same _
    | int i => have := k.int_inv; subst this; obtain ⟨t, rfl⟩ := r'; exact SeqAt.EqAt.none_int _ _
    | str i => have := k.str_inv; subst this; obtain ⟨t, rfl⟩ := r'; exact SeqAt.EqAt.none_str _ _
    | tup es =>
      obtain ⟨a, xs, rfl, q, l⟩ := k.tup_inv
      have eu : u' = .ref a := r'
      subst eu
      obtain ⟨its, rv, p, z⟩ := I.tuple q
      exact SeqAt.EqAt.none_tuple p (by have : D.dep .non = 0 := by unfold D.dep; rfl
                                        omega)
  | .int i, e, A, v, v', u, u', h, k, r, r', hu => by
    have := h.int_inv; subst this
    obtain ⟨t, rfl⟩ := r
    cases e with
    | non => have := k.non_inv; subst this; have eu : u' = .none := r'; subst eu; exact SeqAt.EqAt.int_none _ _
    | int j => have := k.int_inv; subst this; obtain ⟨t', rfl⟩ := r'; exact SeqAt.EqAt.int_int _ _ _ _
    | str j => have := k.str_inv; subst this; obtain ⟨t', rfl⟩ := r'; exact SeqAt.EqAt.int_str _ _ _ _
    | tup es =>
      obtain ⟨a, xs, rfl, q, l⟩ := k.tup_inv
      have eu : u' = .ref a := r'
      subst eu
      obtain ⟨its, rv, p, z⟩ := I.tuple q
      exact SeqAt.EqAt.int_tuple _ _ p (by omega)
  | .str i, e, A, v, v', u, u', h, k, r, r', hu => by
    have := h.str_inv; subst this
    obtain ⟨t, rfl⟩ := r
    cases e with
    | non => have := k.non_inv; subst this; have eu : u' = .none := r'; subst eu; exact SeqAt.EqAt.str_none _ _
    | int j => have := k.int_inv; subst this; obtain ⟨t', rfl⟩ := r'; exact SeqAt.EqAt.str_int _ _ _ _
    | str j => have := k.str_inv; subst this; obtain ⟨t', rfl⟩ := r'; exact SeqAt.EqAt.str_str _ _ _ _
    | tup es =>
      obtain ⟨a, xs, rfl, q, l⟩ := k.tup_inv
      have eu : u' = .ref a := r'
      subst eu
      obtain ⟨its, rv, p, z⟩ := I.tuple q
      exact SeqAt.EqAt.str_tuple _ _ p (by omega)
  | .tup ds, e, A, v, v', u, u', h, k, r, r', hu => by
    obtain ⟨a, xs, rfl, q, l⟩ := h.tup_inv
    have eu : u = .ref a := r
    subst eu
    obtain ⟨its, rv, p, z⟩ := I.tuple q
    have hd : D.dep (.tup ds) = 1 + D.depL ds := by conv => lhs; unfold D.dep
    cases e with
    | non => have := k.non_inv; subst this; have eu : u' = .none := r'; subst eu; exact SeqAt.EqAt.tuple_none p (by omega)
    | int j => have := k.int_inv; subst this; obtain ⟨t', rfl⟩ := r'; exact SeqAt.EqAt.tuple_int _ _ p (by omega)
    | str j => have := k.str_inv; subst this; obtain ⟨t', rfl⟩ := r'; exact SeqAt.EqAt.tuple_str _ _ p (by omega)
    | tup es =>
      obtain ⟨b, ys, rfl, q', l'⟩ := k.tup_inv
      have eu : u' = .ref b := r'
      subst eu
      by_cases hab : a = b
      · subst hab
        have e := I.tuple_inj q q'
        subst e
        have e := IsL.inj I l l'
        subst e
        rw [D.beq_self]
        exact SeqAt.EqAt.same _
      · refine SeqAt.EqAt.of_refs hab ?_
        obtain ⟨its', rv', p', z'⟩ := I.tuple q'
        have ln := l.length
        have ln' := l'.length
        have lr := rv.length
        have lr' := rv'.length
        have R := SeqAt.RcAt.tuples (A := A) (s := s) (e := fun j => match ds[j]?, es[j]? with | some d, some e => D.beq d e | _, _ => true) p p' (by omega) (fun j h1 h2 => ?_)
        · have e1 : its.toArray.size = ds.length := by rw [List.size_toArray]; omega
          have e2 : its'.toArray.size = es.length := by rw [List.size_toArray]; omega
          rw [e1, e2, D.beqL_all] at R
          have e3 : D.beq (.tup ds) (.tup es) = D.beqL ds es := by conv => lhs; unfold D.beq
          rw [e3]
          exact R
        · have j1 : j < ds.length := by rw [List.size_toArray] at h1; omega
          have j2 : j < es.length := by rw [List.size_toArray] at h2; omega
          obtain ⟨x, ex, ix⟩ := l.get (List.getElem?_eq_getElem j1)
          obtain ⟨y, ey, iy⟩ := l'.get (List.getElem?_eq_getElem j2)
          obtain ⟨w1, ew1, rw1⟩ := rv.get ex
          obtain ⟨w2, ew2, rw2⟩ := rv'.get ey
          have f1 : its.toArray[j] = w1 := by
            have : its.toArray[j]? = some w1 := by simpa using ew1
            exact (Array.getElem?_eq_some_iff.mp this).2
          have f2 : its'.toArray[j] = w2 := by
            have : its'.toArray[j]? = some w2 := by simpa using ew2
            exact (Array.getElem?_eq_some_iff.mp this).2
          rw [f1, f2]
          try dsimp only
          rw [List.getElem?_eq_getElem j1, List.getElem?_eq_getElem j2]
          have dl : (ds[j]).dep ≤ D.depL ds := D.dep_le (List.getElem_mem j1)
          exact eqAt_L I ds j ds[j] (List.getElem?_eq_getElem j1) es[j] ix iy rw1 rw2 (by rw [in1_units]; omega)
theorem eqAt_L (I : Inv X pins σ H s) : ∀ (ds : List D) (j : Nat) (d : D), ds[j]? = some d → ∀ (e : D) {A : Around} {v v' : V} {u u' : Value}, Is X.K H d v → Is X.K H e v' → RelV v u → RelV v' u' → A.units + d.dep < cLine → SeqAt.EqAt A s u u' (D.beq d e)
  | [], _, _, h => by simp at h
  | d :: ds, 0, _, h => by
    simp at h; subst h
    exact fun e {A v v' u u'} => eqAt_D I d e
  | d :: ds, j + 1, _, h => by
    exact eqAt_L I ds j _ (by simpa using h)
end

noncomputable def rEqD (K : PySem.W.Frag) (n : Nat) (neg : Bool) : R2 := fun x y H Q => ExQ Q (fun ds Q => ExQ Q (fun es Q => Is K H (.tup ds) x ∧ Is K H (.tup es) y ∧ D.depL ds < n ∧ Q (.bl (if neg then !D.beqL ds es else D.beqL ds es)) H))
theorem rc_D (I : Inv X pins σ H s) {A : Around} {ds es : List D} {a b : Addr} (h : Is X.K H (.tup ds) (.ref a)) (k : Is X.K H (.tup es) (.ref b)) (hu : A.units + 1 + D.depL ds < cLine) :
    SeqAt.RcAt A s (.ref a) (.ref b) (D.beqL ds es) ∧ SeqAt.RcNeAt A s (.ref a) (.ref b) (!D.beqL ds es) := by
  obtain ⟨_, xs, e, q, l⟩ := h.tup_inv
  cases e
  obtain ⟨_, ys, e, q', l'⟩ := k.tup_inv
  cases e
  obtain ⟨its, rv, p, z⟩ := I.tuple q
  obtain ⟨its', rv', p', z'⟩ := I.tuple q'
  have ln := l.length
  have ln' := l'.length
  have lr := rv.length
  have lr' := rv'.length
  have e1 : its.toArray.size = ds.length := by rw [List.size_toArray]; omega
  have e2 : its'.toArray.size = es.length := by rw [List.size_toArray]; omega
  have he : ∀ j (h1 : j < its.toArray.size) (h2 : j < its'.toArray.size), SeqAt.EqAt A.in1 s its.toArray[j] its'.toArray[j] ((fun j => match ds[j]?, es[j]? with | some d, some e => D.beq d e | _, _ => true) j) := fun j h1 h2 => by
    have j1 : j < ds.length := by omega
    have j2 : j < es.length := by omega
    obtain ⟨x, ex, ix⟩ := l.get (List.getElem?_eq_getElem j1)
    obtain ⟨y, ey, iy⟩ := l'.get (List.getElem?_eq_getElem j2)
    obtain ⟨w1, ew1, rw1⟩ := rv.get ex
    obtain ⟨w2, ew2, rw2⟩ := rv'.get ey
    have f1 : its.toArray[j] = w1 := by
      have : its.toArray[j]? = some w1 := by simpa using ew1
      exact (Array.getElem?_eq_some_iff.mp this).2
    have f2 : its'.toArray[j] = w2 := by
      have : its'.toArray[j]? = some w2 := by simpa using ew2
      exact (Array.getElem?_eq_some_iff.mp this).2
    rw [f1, f2]
    try dsimp only
    rw [List.getElem?_eq_getElem j1, List.getElem?_eq_getElem j2]
    have dl : (ds[j]).dep ≤ D.depL ds := D.dep_le (List.getElem_mem j1)
    exact eqAt_D I _ _ ix iy rw1 rw2 (by rw [in1_units]; omega)
  have R1 := SeqAt.RcAt.tuples p p' (by omega) he
  have R2 := SeqAt.RcNeAt.tuples p p' (by omega) he
  rw [e1, e2, D.beqL_all] at R1 R2
  exact ⟨R1, R2⟩
end
section
variable {X : Cx}
theorem op_neD {n : Nat} (hu : X.A.units + 1 + n < cLine) : OpR X (compareOp .NotEq) (rEqD X.K n true) := by
  intro pins s σ H x y v u Q I rx ry h
  obtain ⟨ds, es, h1, h2, hd, q⟩ := h
  obtain ⟨a, _, rfl, _⟩ := h1.tup_inv
  obtain ⟨b, _, rfl, _⟩ := h2.tup_inv
  cases rx; cases ry
  exact (rc_D I h1 h2 (by omega)).2 X.prog X.w X.xe _ ⟨.bl _, H, I, rfl, q⟩

noncomputable def rIsi (K : PySem.W.Frag) : List V → Hp → VK → Prop := fun xs H Q => ExQ Q (fun x Q => ExQ Q (fun T Q => ExQ Q (fun t Q => ExQ Q (fun b Q => xs = [x, .ty T] ∧ TyOf K H x t ∧ PySem.W.kitOne K t (.type T) = some b ∧ Q (.bl b) H))))
theorem call_isi : CallR X (.builtin "isinstance") (rIsi X.K) := by
  intro pins s σ H xs us Q I r h
  obtain ⟨x, T, t, b, rfl, ty, k, q⟩ := h
  obtain ⟨u, w', rfl, rx, rT⟩ := r.two
  have e : w' = .type T := rT
  subst e
  exact isinst_ok I rx ty k fun tk => ⟨.bl b, H, I.tok tk, rfl, q⟩
end
end L2
set_option Elab.async false
set_option linter.all false
set_option maxRecDepth 100000
set_option maxHeartbeats 4000000
namespace L2
open PySem PySem.Spec PyProof.Rows

noncomputable def Cl (P : Program) (w : World) (K : PySem.W.Frag) (mg : Str → Option Value) (base : Heap) (x : Str) (k : Nat) (ps : List Str) (sp : Sp) : Prop :=
  ∃ f fd, FnOk P w K mg base CX0 k f fd ps sp ∧ Binds K fd ps [] ∧ PySem.W.keepIn K (.ref f) = true ∧ mg x = some (.ref f)
theorem Cl.mono {P : Program} {w : World} {K : PySem.W.Frag} {mg : Str → Option Value} {base : Heap} {x : Str} {j k : Nat} {ps : List Str} {sp : Sp} (c : Cl P w K mg base x j ps sp) (h : j ≤ k) : Cl P w K mg base x k ps sp :=
  let ⟨f, fd, F, b, kp, m⟩ := c; ⟨f, fd, F.mono h, b, kp, m⟩
theorem Fun.cl {P : Program} {w : World} {K : PySem.W.Frag} {mg : Str → Option Value} {base : Heap} {x : Str} {st : Stmt} {f : Addr} {fd : FuncData} {k : Nat} {ps : List Str} {sp : Sp} (F : Fun K x x st f fd) (ok : FnOk P w K mg base CX0 k f fd ps sp) (m : mg x = some (.ref f))
    (h : ∀ (kV doc pm : Value) (an : Option Addr) (cdv ct : Value) (us : List Value), us.length = ps.length → bindArgs (PySem.W.fnOf x x (defArgs st) (defBody st) (defScope st) .none kV doc pm an cdv ct) ⟨us, []⟩ = pure (ps.zip us)) : Cl P w K mg base x k ps sp :=
  ⟨f, fd, ok, F.binds h, F.kp, m⟩
noncomputable def tCl (sp : Sp) (t : TA) : TE := fun σ H Q => t σ H fun vs H1 => sp vs H1 Q E0
section
variable {X : Cx} {x : Str} {k : Nat} {ps : List Str} {sp : Sp} {p pos : Pos} {e : Expr} {es : List Expr} {t : TA}
theorem pe_cl (c : Cl X.prog X.w X.K X.mg X.base x k ps sp) (hr : Room k X.A) (hg : Gl X x) (ha : PA X (e :: es) t) (hdb : (x == ("__debug__" : Str)) = false := by decide)
    (he : starEach (e :: es) X.env = (false, eval e X.env) :: starEach es X.env := by rfl) (hpl : (backTo pos (starEach es X.env)).any (·.1) = false := by rfl) : PE X (.Call (.Name x p) (e :: es) [] pos) (tCl sp t) := by
  obtain ⟨f, fd, F, b, kp, m⟩ := c
  have h := pe_call (E := E0) (pos := pos) (p := p) F hr hg m kp b .nil pass0 ha hdb he hpl
  have e1 : tCall sp [] E0 t = tCl sp t := by
    funext σ H Q
    unfold tCall tCl
    simp only [List.append_nil]
  rw [e1] at h
  exact h
end

noncomputable def KD (P : Program) (w : World) (K : PySem.W.Frag) (a : Addr) (kvs : List (Str × V)) : Prop :=
  ∀ h : Heap, K.In h → ∃ vs, KV (kvs.map fun p => ((Sum.inr p.1 : Key), p.2)) vs ∧ h.DictOf (mixKind P w) a vs
section
variable {X : Cx}
end
theorem KD.of {P : Program} {w : World} {K : PySem.W.Frag} {a : Addr} {o : Obj} {es : Array DictEntry} {ep : Nat} {kvs : List (Str × V)} (l : K.lookup a = some o) (hx : o.ExactDict) (hd : o.data = .dict es ep)
    (hp : Paired (fun (p : Str × V) (e : DictEntry) => e.hash = hashStr w p.1 ∧ (∃ t, e.key = .str p.1 t) ∧ RelV p.2 e.val) kvs es.toList) (hn : (kvs.map (·.1)).Nodup) : KD P w K a kvs := by
  intro h hk
  have go : ∀ (kvs : List (Str × V)) (l : List DictEntry), Paired (fun (p : Str × V) (e : DictEntry) => e.hash = hashStr w p.1 ∧ (∃ t, e.key = .str p.1 t) ∧ RelV p.2 e.val) kvs l →
      ∃ vs : List (Key × Value), KV (kvs.map fun p => ((Sum.inr p.1 : Key), p.2)) vs ∧ (∀ e ∈ l, ∃ k, (mixKind P w).is k e.key = true ∧ e.hash = (mixKind P w).hash k) ∧ PySem.Pairs (mixKind P w) l vs ∧ vs.map (·.1) = kvs.map fun p => (Sum.inr p.1 : Key) := by
    intro kvs l hp
    induction hp with
    | nil => exact ⟨[], .nil, fun e he => (nomatch he), .nil, rfl⟩
    | @cons p e l1 l2 hd tl ih =>
      obtain ⟨vs, h1, h2, h3, h4⟩ := ih
      obtain ⟨q1, ⟨t, q2⟩, q3⟩ := hd
      refine ⟨(Sum.inr p.1, e.val) :: vs, .cons ⟨rfl, q3⟩ h1, fun e' he' => ?_, ?_, ?_⟩
      · rcases List.mem_cons.mp he' with rfl | he'
        · exact ⟨Sum.inr p.1, by rw [q2]; exact mixKind_str _ _ _ _, q1⟩
        · exact h2 e' he'
      · exact .cons (by rw [q2]; exact mixKind_str _ _ _ _) rfl h3
      · simp [h4]
  obtain ⟨vs, h1, h2, h3, h4⟩ := go kvs es.toList hp
  refine ⟨vs, h1, o, es, ep, hk a o l, hx, hd, fun e he => h2 e (by simpa using he), h3, ?_⟩
  rw [h4]
  have : (kvs.map fun p => (Sum.inr p.1 : Key)) = (kvs.map (·.1)).map Sum.inr := by simp
  rw [this]
  exact List.Pairwise.map _ (fun a b hab q => hab (Sum.inr.inj q)) hn

noncomputable def constV : Expr → Option V
  | .Constant (.int i) _ _ => some (.int i)
  | .Constant (.str x) _ _ => some (.str x)
  | .Constant .none _ _ => some .non
  | .Constant (.bool b) _ _ => some (.bl b)
  | _ => none
noncomputable def constVs : List Expr → Option (List V)
  | [] => some []
  | e :: es => match constV e, constVs es with
    | some v, some vs => some (v :: vs)
    | _, _ => none
noncomputable def tCs (vs : List V) : TA := fun _ H Q => Q vs H
theorem const_star {X : Cx} {e : Expr} {es : List Expr} {v : V} (h : constV e = some v) : starEach (e :: es) X.env = (false, eval e X.env) :: starEach es X.env := by
  unfold constV at h
  split at h
  · rfl
  · rfl
  · rfl
  · rfl
  · cases h
theorem const_pe {X : Cx} {e : Expr} {v : V} (h : constV e = some v) : PE X e (tC v) := by
  unfold constV at h
  split at h
  · cases h; exact pe_int
  · cases h; exact pe_str
  · cases h; exact pe_non
  · cases h; exact pe_bl
  · cases h
theorem pa_consts {X : Cx} : ∀ {es : List Expr} {vs : List V}, constVs es = some vs → PA X es (tCs vs)
  | [], vs, h => by
    cases h
    exact pa_nil
  | e :: es, vs, h => by
    unfold constVs at h
    split at h
    · rename_i v ws h1 h2
      cases h
      exact pa_cons (const_pe h1) (pa_consts h2) (const_star h1)
    · cases h

section
variable {X : Cx} {K : PySem.W.Frag}
theorem call_isiK (h : X.K = K) : CallR X (.builtin "isinstance") (rIsi K) := h ▸ call_isi
theorem pg_tupK {es : List Expr} {k : Nat} {t : TGs} {n : Nat} {pos : Pos} (hK : X.K = K) (hc : X.calm = true) (h : PGs X es t)
    (hn : (assignEach es X.env).length = n := by rfl) (hst : (assignEach es X.env).findIdx? (·.1) = none := by rfl) : PG X (.Tuple es k pos) (gTup K n t) := hK ▸ pg_tup hc h hn hst
end
end L2
set_option Elab.async false
set_option linter.all false
set_option maxRecDepth 100000
set_option maxHeartbeats 4000000
namespace L2
open PySem PySem.Spec PyProof.Rows
noncomputable def Ite (K : PySem.W.Frag) (a : Addr) : It :=
  ⟨fun i H => ∃ xs x, SqL K H a xs ∧ xs[i]? = some x, fun i H x H' => ∃ t, H t = none ∧ x = .ref t ∧ ∀ xs, SqL K H a xs → ∃ v, xs[i]? = some v ∧ H' = upd H t (.tup [.int i, v]), fun i H => ∃ xs, SqL K H a xs ∧ xs.length ≤ i⟩
theorem turn_enum {P : Program} {w : World} {K : PySem.W.Frag} {es : List Expr} {k : Nat} {pos : Pos} (a e it : Addr) (hne : e ≠ it) :
    Turn P w K (.Tuple es k pos) (Ite K a) [e, it] e (fun i h => (∃ old, IsEnum h e it (i : Int) old) ∧ h.IsListIter it a i) where
  mem := by simp
  obj := fun i h st b hb => by
    obtain ⟨⟨old, st1⟩, o, e2, c, d⟩ := st
    simp only [List.mem_cons, List.not_mem_nil, or_false] at hb
    rcases hb with rfl | rfl
    · exact ⟨_, st1, fun v z => by cases z⟩
    · exact ⟨o, e2, fun v z => by rw [d] at z; cases z⟩
  keep := fun i h h' st kp => ⟨let ⟨old, z⟩ := st.1; ⟨old, kp e (by simp) _ z⟩, st.2.at fun o q => kp it (by simp) o q⟩
  item := by
    intro X hP hw hK hc i pins s σ H E I hf st hg
    subst hP hw hK
    obtain ⟨xs, x, hq, hx⟩ := hg
    obtain ⟨its, rv, p, hz⟩ := I.list hq
    obtain ⟨u, hu, ru⟩ := rv.get hx
    obtain ⟨⟨old, st1⟩, st2⟩ := st
    refine wpAny_pyNext_enum_item st1 st2 p.isList (x := u) (by simpa using hu) hne fun h1 o1 l1 t1 z1 k1 => ?_
    refine ⟨_, rfl, wpAny_letOwnedTupleGo_enum o1 fun h2 o2 b2 => ?_⟩
    have hnew : H s.heap.objs.size = none := I.fresh
    have lte : e < s.heap.objs.size := Heap.lt_size st1
    have k2 : ∀ b o, b ≠ e → b ≠ it → s.heap.get? b = some o → h2.get? b = some o := fun b o b1 b2' q => b2.extBut b o b1 (k1 b o b1 b2' q)
    have t2 : h2.get? s.heap.objs.size = some { cls := .type "tuple", data := .seq #[.int i s.toks, u] } := b2.extBut _ _ (Nat.ne_of_gt lte) t1
    have fe := hf e (by simp)
    have fi := hf it (by simp)
    have nch : ∀ b o, H b = some o → b ≠ e ∧ b ≠ it := fun b o q => ⟨fun z => by (rw [z, fe.1] at q; cases q), fun z => by (rw [z, fi.1] at q; cases q)⟩
    have I2 : Inv X pins σ (upd H s.heap.objs.size (.tup [.int i, x])) { s with heap := h2, gens := s.gens, drawn := s.drawn, toks := s.toks + 1 } := by
      refine I.step (ch := [e, it]) (fun b hb => ?_) (fun b o _ _ hc q _ => k2 b o (fun z => hc (by simp [z])) (fun z => hc (by simp [z])) q) (fun b o _ _ hc q _ => ⟨o.slots, k2 b o (fun z => hc (by simp [z])) (fun z => hc (by simp [z])) q⟩)
        (fun b o _ q n => by rw [upd_ne (Nat.ne_of_lt (Heap.lt_size q))]; exact n) (fun b o hc q => ⟨o, k2 b o (fun z => hc (by simp [z])) (fun z => hc (by simp [z])) q⟩)
        (fun b zs q => by rw [upd_ne (ne_of_none q hnew)]; exact q) (fun b o v q => by rw [upd_ne (ne_of_none q hnew)]; exact q) (fun b ps q => ⟨#[], by rw [upd_ne (ne_of_none q hnew), q]; simp⟩) (fun m hm => ?_) (fun b o q => ?_) I.bare
      · simp only [List.mem_cons, List.not_mem_nil, or_false] at hb
        rcases hb with rfl | rfl
        · exact ⟨fe.2.2.2.1, fe.2.1, fe.2.2.2.2.1, fe.2.2.2.2.2⟩
        · exact ⟨fi.2.2.2.1, fi.2.1, fi.2.2.2.2.1, fi.2.2.2.2.2⟩
      · obtain ⟨o, es', ep, ho, r⟩ := hm
        exact ⟨o, es', ep, k2 _ o (Ne.symm fe.2.1) (Ne.symm fi.2.1) ho, r⟩
      · by_cases hb : b = s.heap.objs.size
        · subst hb
          rw [upd_same] at q
          cases q
          exact ⟨by show 2 ≤ sizeLine; decide, [.int i s.toks, u], .cons ⟨_, rfl⟩ (.cons ru .nil), _, t2, rfl, _, rfl⟩
        · rw [upd_ne hb] at q
          refine (I.hok b o q).stay (fun c v hc z => k2 c v ?_ ?_ z) (fun c z => by rw [upd_ne (ne_of_none z hnew)]; exact z) fun c zs z => by rw [upd_ne (ne_of_none z hnew)]; exact z
          · rcases hc with z' | z'
            · rw [z']; exact (nch b o q).1
            · exact (nch c _ z').1
          · rcases hc with z' | z'
            · rw [z']; exact (nch b o q).2
            · exact (nch c _ z').2
    refine ⟨.ref s.heap.objs.size, _, I2, rfl, ⟨_, hnew, rfl, fun ys hy => ⟨x, by rw [I.list_inj hy hq]; exact hx, rfl⟩⟩, ⟨⟨u, ?_⟩, l1.extBut b2.extBut (Ne.symm hne)⟩, fun b hb => ?_⟩
    · have : ((i : Int) + 1) = ((i + 1 : Nat) : Int) := by omega
      rw [← this]; exact o2
    · simp only [List.mem_cons, List.not_mem_nil, or_false] at hb
      rcases hb with rfl | rfl
      · rw [upd_ne (Nat.ne_of_lt lte)]; exact fe.1
      · obtain ⟨oi, ei, _⟩ := st2
        rw [upd_ne (Nat.ne_of_lt (Heap.lt_size ei))]; exact fi.1
  done := by
    intro X hP hw hK hc i pins s σ H E I hf st hg
    subst hP hw hK
    obtain ⟨xs, hq, hx⟩ := hg
    obtain ⟨its, rv, p, hz⟩ := I.list hq
    obtain ⟨⟨old, st1⟩, st2⟩ := st
    obtain ⟨f0, f1, f2, f3, f4, f5⟩ := hf it (by simp)
    have hl := rv.length
    exact wpAny_pyNext_enum_end (I.ok.hd hc) st1 st2 p.isList (by simp; omega) fun h' eb => ⟨rfl, I.turned (t' := s.toks) (fun b o hb e => eb b o hb e) f0 f1 f3 f4 f5⟩
  self := fun A i s Q E st h => by
    obtain ⟨old, st1⟩ := st.1
    have hT : s.TypeIs (.ref e) "enumerate" := ⟨_, st1, rfl⟩
    exact wpAny_pyIter_slot hT F.slot_enumerate_iter (wpAny_call_entry F.slot_enumerate_iter hT F.entry_enumerate_iter (wpAny_pure ⟨_, rfl, "enumerate", _, hT, F.slot_enumerate_next.lookup, h⟩) (F.args_enumerate_iter_1 _))
section
variable {X : Cx}
noncomputable def iEnum (K : PySem.W.Frag) (ta : TA) : TI := fun σ H R => ta σ H fun vs H1 => ExQ R (fun a R => vs = [.ref a] ∧ (∃ xs, SqL K H1 a xs) ∧ R (Ite K a) H1)
theorem pi_enum {es : List Expr} {k : Nat} {post : Pos} {a : Expr} {ta : TA} {p pos : Pos} (hg : Gl X "enumerate") (hm : X.mg "enumerate" = none) (ha : PA X [a] ta) (hs : starEach [a] X.env = [(false, eval a X.env)] := by rfl) :
    PI X (.Tuple es k post) (.Call (.Name "enumerate" p) [a] [] pos) (iEnum X.K ta) := by
  intro pins s σ H R I h
  refine Call_ (ld_blt I hg hm PyProof.Rows.boot_enumerate (PyProof.Rows.callWith_type1 (thn (ha pos pins s σ H _ I h) fun us s1 hpat => ?_) hs rfl))
  obtain ⟨vs, H1, I1, r1, q1⟩ := hpat
  obtain ⟨l, rfl, ⟨xs, hq⟩, q⟩ := q1
  obtain ⟨u, rfl, ru⟩ := r1.one
  cases ru
  obtain ⟨its, rv, pl, hz⟩ := I1.list hq
  refine call_enumerate_list pl.isList fun h' en it sz kp => ?_
  have T := turn_enum (P := X.prog) (w := X.w) (K := X.K) (es := es) (k := k) (pos := post) l (s1.heap.objs.size + 1) s1.heap.objs.size (Nat.succ_ne_self _)
  have st : (∃ old, IsEnum h' (s1.heap.objs.size + 1) s1.heap.objs.size (((0 : Nat)) : Int) old) ∧ h'.IsListIter s1.heap.objs.size l 0 := ⟨⟨_, en⟩, it⟩
  have I2 : Inv X pins σ H1 { s1 with heap := h' } := I1.kept (t' := s1.toks) kp
  refine T.self X.A 0 { s1 with heap := h' } _ _ st ?_
  refine ⟨_, _, _, _, H1, rfl, I2, T, st, fun b hb => ?_, q⟩
  simp only [List.mem_cons, List.not_mem_nil, or_false] at hb
  rcases hb with rfl | rfl
  · exact I1.fpOk (Nat.le_succ _) (I1.hok.fresh (Nat.le_succ _))
  · exact I1.fpOk (Nat.le_refl _) (I1.hok.fresh (Nat.le_refl _))
end
noncomputable def rEqDL (K : PySem.W.Frag) (n : Nat) (neg : Bool) : R2 := fun x y H Q => ExQ Q (fun a Q => ExQ Q (fun b Q => ExQ Q (fun xs Q => ExQ Q (fun ys Q => ExQ Q (fun ds Q => ExQ Q (fun es Q => x = .ref a ∧ y = .ref b ∧ SqL K H a xs ∧ SqL K H b ys ∧ IsL K H ds xs ∧ IsL K H es ys ∧ D.depL ds < n ∧ Q (.bl (if neg then !D.beqL ds es else D.beqL ds es)) H))))))
section
variable {X : Cx} {pins : List (Addr × Obj)} {σ : St} {H : Hp} {s : Shared}
theorem rc_DL (I : Inv X pins σ H s) {A : Around} {ds es : List D} {a b : Addr} {xs ys : List V} (q : SqL X.K H a xs) (q' : SqL X.K H b ys) (l : IsL X.K H ds xs) (l' : IsL X.K H es ys) (hu : A.units + 1 + D.depL ds < cLine) :
    SeqAt.RcAt A s (.ref a) (.ref b) (D.beqL ds es) ∧ SeqAt.RcNeAt A s (.ref a) (.ref b) (!D.beqL ds es) := by
  obtain ⟨its, rv, p, z⟩ := I.list q
  obtain ⟨its', rv', p', z'⟩ := I.list q'
  have ln := l.length
  have ln' := l'.length
  have lr := rv.length
  have lr' := rv'.length
  have e1 : its.toArray.size = ds.length := by rw [List.size_toArray]; omega
  have e2 : its'.toArray.size = es.length := by rw [List.size_toArray]; omega
  by_cases hl : ds.length = es.length
  · have he : ∀ j (h1 : j < its.toArray.size) (h2 : j < its'.toArray.size), SeqAt.EqAt A.in1 s its.toArray[j] its'.toArray[j] ((fun j => match ds[j]?, es[j]? with | some d, some e => D.beq d e | _, _ => true) j) := fun j h1 h2 => by
      have j1 : j < ds.length := by omega
      have j2 : j < es.length := by omega
      obtain ⟨x, ex, ix⟩ := l.get (List.getElem?_eq_getElem j1)
      obtain ⟨y, ey, iy⟩ := l'.get (List.getElem?_eq_getElem j2)
      obtain ⟨w1, ew1, rw1⟩ := rv.get ex
      obtain ⟨w2, ew2, rw2⟩ := rv'.get ey
      have f1 : its.toArray[j] = w1 := by
        have : its.toArray[j]? = some w1 := by simpa using ew1
        exact (Array.getElem?_eq_some_iff.mp this).2
      have f2 : its'.toArray[j] = w2 := by
        have : its'.toArray[j]? = some w2 := by simpa using ew2
        exact (Array.getElem?_eq_some_iff.mp this).2
      rw [f1, f2]
      try dsimp only
      rw [List.getElem?_eq_getElem j1, List.getElem?_eq_getElem j2]
      have dl : (ds[j]).dep ≤ D.depL ds := D.dep_le (List.getElem_mem j1)
      exact eqAt_D I _ _ ix iy rw1 rw2 (by rw [in1_units]; omega)
    have R1 := SeqAt.RcAt.lists p.isList p'.isList (by omega) (by omega) he
    have R2 := SeqAt.RcNeAt.lists p.isList p'.isList (by omega) (by omega) he
    have eb := D.beqL_all ds es
    rw [show (ds.length == es.length) = true from by simpa using hl, Bool.and_true, Nat.min_eq_left (by omega)] at eb
    rw [e1] at R1 R2
    exact ⟨by rw [← eb]; exact R1, by rw [← eb]; exact R2⟩
  · have eb : D.beqL ds es = false := by
      cases h : D.beqL ds es with
      | false => rfl
      | true => exact absurd (D.beqL_len ds es h) hl
    rw [eb]
    have hs : (its.toArray.size != its'.toArray.size) = true := by rw [e1, e2]; simpa using hl
    exact ⟨SeqAt.RcAt.lists_lengths p.isList p'.isList hs (by omega), SeqAt.RcNeAt.lists_lengths p.isList p'.isList hs (by omega)⟩
end
section
variable {X : Cx}
theorem op_eqDL {n : Nat} (hu : X.A.units + 1 + n < cLine) : OpR X (compareOp .Eq) (rEqDL X.K n false) := by
  intro pins s σ H x y v u Q I rx ry h
  obtain ⟨a, b, xs, ys, ds, es, rfl, rfl, q1, q2, l1, l2, hd, q⟩ := h
  cases rx; cases ry
  exact (rc_DL I q1 q2 l1 l2 (by omega)).1 X.prog X.w X.xe _ ⟨.bl _, H, I, rfl, q⟩
theorem op_neDL {n : Nat} (hu : X.A.units + 1 + n < cLine) : OpR X (compareOp .NotEq) (rEqDL X.K n true) := by
  intro pins s σ H x y v u Q I rx ry h
  obtain ⟨a, b, xs, ys, ds, es, rfl, rfl, q1, q2, l1, l2, hd, q⟩ := h
  cases rx; cases ry
  exact (rc_DL I q1 q2 l1 l2 (by omega)).2 X.prog X.w X.xe _ ⟨.bl _, H, I, rfl, q⟩
end
end L2
set_option Elab.async false
set_option linter.all false
set_option maxRecDepth 100000
set_option maxHeartbeats 4000000
namespace L2
open PySem PySem.Spec PyProof.Rows
section
variable {X : Cx}
theorem bools_of : ∀ {bs : List Bool} {us : List Value}, Vals (bs.map V.bl) us → LSm.BoolsAre us bs
  | [], _, .nil => .nil
  | b :: bs, _, .cons r t => by
    cases (show _ = Value.bool b from r)
    exact .cons b (bools_of t)
end
end L2
set_option Elab.async false
set_option linter.all false
set_option maxRecDepth 100000
set_option maxHeartbeats 4000000
namespace L2
open PySem PySem.Spec PyProof.Rows

section
variable {κ : Type} [DecidableEq κ]
noncomputable def valV (kvs : List (κ × V)) (k : κ) : Option V := (kvs.find? fun kv => decide (kv.1 = k)).map (·.2)
noncomputable def putK (kvs : List (κ × V)) (k : κ) (v : V) : List (κ × V) :=
  if (kvs.any fun kv => decide (kv.1 = k)) = true then kvs.map (fun kv => if kv.1 = k then (kv.1, v) else kv) else kvs ++ [(k, v)]
noncomputable def dropK (kvs : List (κ × V)) (k : κ) : List (κ × V) := kvs.filter fun kv => decide (kv.1 ≠ k)

theorem valV_pos {p : κ × V} {r : List (κ × V)} {k : κ} (e : p.1 = k) : valV (p :: r) k = some p.2 := by simp [valV, List.find?_cons, e]
theorem valV_neg {p : κ × V} {r : List (κ × V)} {k : κ} (e : ¬ p.1 = k) : valV (p :: r) k = valV r k := by simp [valV, List.find?_cons, e]
theorem valV_any (k : κ) : ∀ kvs : List (κ × V), (kvs.any fun kv => decide (kv.1 = k)) = (valV kvs k).isSome
  | [] => rfl
  | p :: r => by
    rw [List.any_cons]
    by_cases e : p.1 = k
    · simp only [valV_pos e, decide_eq_true e, Bool.true_or, Option.isSome_some]
    · rw [valV_neg e, decide_eq_false e, Bool.false_or]; exact valV_any k r
theorem RelO.isSome_eq {o : Option V} {u : Option Value} (r : RelO o u) : o.isSome = u.isSome := by
  cases o with
  | none => cases u with
    | none => rfl
    | some _ => exact (show False from r).elim
  | some _ => cases u with
    | none => exact (show False from r).elim
    | some _ => rfl
theorem RelO.getD {o : Option V} {u : Option Value} {d : V} {d' : Value} (r : RelO o u) (rd : RelV d d') : RelV (o.getD d) (u.getD d') := by
  cases o with
  | none => cases u with
    | none => exact rd
    | some _ => exact (show False from r).elim
  | some _ => cases u with
    | none => exact (show False from r).elim
    | some _ => exact r

theorem KV.val {kvs : List (κ × V)} {vs : List (κ × Value)} (r : KV kvs vs) (k : κ) : RelO (valV kvs k) (valueAt vs k) := by
  unfold KV at r
  induction r with
  | nil => exact True.intro
  | @cons p q ps qs h t ih =>
    obtain ⟨h1, h2⟩ := h
    by_cases e : p.1 = k
    · have e' : q.1 = k := h1.symm.trans e
      have b : valueAt (q :: qs) k = some q.2 := by simp [valueAt, List.find?_cons, e']
      rw [valV_pos e, b]; exact h2
    · have e' : ¬ q.1 = k := fun z => e (h1.trans z)
      have b : valueAt (q :: qs) k = valueAt qs k := by simp [valueAt, List.find?_cons, e']
      rw [valV_neg e, b]; exact ih
theorem KV.any {kvs : List (κ × V)} {vs : List (κ × Value)} (r : KV kvs vs) (k : κ) : (kvs.any fun kv => decide (kv.1 = k)) = vs.any fun kv => decide (kv.1 = k) := by
  unfold KV at r
  induction r with
  | nil => rfl
  | cons h t ih => rw [List.any_cons, List.any_cons, ih, h.1]
theorem KV.repl {kvs : List (κ × V)} {vs : List (κ × Value)} (r : KV kvs vs) (k : κ) {y : V} {u : Value} (ry : RelV y u) :
    KV (kvs.map fun kv => if kv.1 = k then (kv.1, y) else kv) (vs.map fun kv => if kv.1 = k then (kv.1, u) else kv) := by
  unfold KV at r ⊢
  induction r with
  | nil => exact .nil
  | @cons p q ps qs h t ih =>
    rw [List.map_cons, List.map_cons]
    refine .cons ?_ ih
    obtain ⟨h1, h2⟩ := h
    by_cases e : p.1 = k
    · rw [if_pos e, if_pos (h1.symm.trans e)]; exact ⟨h1, ry⟩
    · rw [if_neg e, if_neg (fun z => e (h1.trans z))]; exact ⟨h1, h2⟩
theorem KV.put {kvs : List (κ × V)} {vs : List (κ × Value)} (r : KV kvs vs) (k : κ) {y : V} {u : Value} (ry : RelV y u) : KV (putK kvs k y) (stored vs k u) := by
  unfold putK stored
  rw [r.any k]
  by_cases e : (vs.any fun kv => decide (kv.1 = k)) = true
  · rw [if_pos e, if_pos e]; exact r.repl k ry
  · rw [if_neg e, if_neg e]; exact Paired.snoc r ⟨rfl, ry⟩
theorem KV.drop {kvs : List (κ × V)} {vs : List (κ × Value)} (r : KV kvs vs) (k : κ) : KV (dropK kvs k) (without vs k) := by
  unfold KV at r ⊢
  unfold dropK without
  induction r with
  | nil => exact .nil
  | @cons p q ps qs h t ih =>
    obtain ⟨h1, h2⟩ := h
    rw [List.filter_cons, List.filter_cons]
    by_cases e : p.1 = k
    · have a : ¬ decide (p.1 ≠ k) = true := by simp [e]
      have b : ¬ decide (q.1 ≠ k) = true := by simp [h1.symm.trans e]
      rw [if_neg a, if_neg b]; exact ih
    · have e' : ¬ q.1 = k := fun z => e (h1.trans z)
      have a : decide (p.1 ≠ k) = true := by simp [e]
      have b : decide (q.1 ≠ k) = true := by simp [e']
      rw [if_pos a, if_pos b]; exact .cons ⟨h1, h2⟩ ih
theorem KV.keys {kvs : List (κ × V)} {vs : List (κ × Value)} (r : KV kvs vs) : kvs.map (·.1) = vs.map (·.1) := by
  unfold KV at r
  induction r with
  | nil => rfl
  | cons h t ih => rw [List.map_cons, List.map_cons, ih, h.1]
theorem KV.length {kvs : List (κ × V)} {vs : List (κ × Value)} (r : KV kvs vs) : kvs.length = vs.length := Paired.length r
end


noncomputable abbrev KT (H : Hp) : List (List Key × V) → List (List Key × Addr × Value) → Prop := Paired fun p q => p.1 = q.1 ∧ H q.2.1 = some (.tup (p.1.map kV)) ∧ RelV p.2 q.2.2
theorem KT.val {H : Hp} {kvs : List (List Key × V)} {xs : List (List Key × Addr × Value)} (r : KT H kvs xs) (k : List Key) : RelO (valV kvs k) ((atKey xs k).map (·.2)) := by
  induction r with
  | nil => exact True.intro
  | @cons p q ps qs h t ih =>
    obtain ⟨h1, _, h2⟩ := h
    by_cases e : p.1 = k
    · have e' : q.1 = k := h1.symm.trans e
      have b : atKey (q :: qs) k = some q.2 := by simp [atKey, List.find?_cons, e']
      rw [valV_pos e, b]; exact h2
    · have e' : ¬ q.1 = k := fun z => e (h1.trans z)
      have b : atKey (q :: qs) k = atKey qs k := by simp [atKey, List.find?_cons, e']
      rw [valV_neg e, b]; exact ih
theorem KT.repl {H : Hp} {kvs : List (List Key × V)} {xs : List (List Key × Addr × Value)} (r : KT H kvs xs) (k : List Key) {y : V} {u : Value} (ry : RelV y u) :
    KT H (kvs.map fun kv => if kv.1 = k then (kv.1, y) else kv) (xs.map (putAt k u)) := by
  induction r with
  | nil => exact .nil
  | @cons p q ps qs h t ih =>
    rw [List.map_cons, List.map_cons]
    refine .cons ?_ ih
    obtain ⟨h1, h2, h3⟩ := h
    unfold putAt
    by_cases e : p.1 = k
    · rw [if_pos e, if_pos (h1.symm.trans e)]; exact ⟨h1, h2, ry⟩
    · rw [if_neg e, if_neg (fun z => e (h1.trans z))]; exact ⟨h1, h2, h3⟩
theorem KT.put {H : Hp} {kvs : List (List Key × V)} {xs : List (List Key × Addr × Value)} (r : KT H kvs xs) (k : List Key) {b : Addr} {y : V} {u : Value} (hb : H b = some (.tup (k.map kV))) (ry : RelV y u) :
    KT H (putK kvs k y) (storedH xs k b u) := by
  have e : (kvs.any fun kv => decide (kv.1 = k)) = (atKey xs k).isSome := by
    rw [valV_any, (r.val k).isSome_eq, Option.isSome_map]
  unfold putK storedH
  rw [e]
  by_cases q : (atKey xs k).isSome = true
  · rw [if_pos q, if_pos q]; exact r.repl k ry
  · rw [if_neg q, if_neg q]; exact Paired.snoc r ⟨rfl, hb, ry⟩
theorem KT.keeps {H H' : Hp} {kvs : List (List Key × V)} {xs : List (List Key × Addr × Value)} (r : KT H kvs xs) (ht : ∀ b ys, H b = some (.tup ys) → H' b = some (.tup ys)) : KT H' kvs xs :=
  Paired.mapP r fun _ _ z => ⟨z.1, ht _ _ z.2.1, z.2.2⟩

section
variable {P : Program} {w : World} {H : Hp} {h : Heap} {a : Addr}
end

noncomputable def DGet (H : Hp) (a : Addr) (y : V) (r : Option V) : Prop :=
  (∃ kvs k, Rd H a (.dK kvs) ∧ y = kV k ∧ r = valV kvs k) ∨ ∃ kvs k b, Rd H a (.dT kvs) ∧ y = .ref b ∧ H b = some (.tup (k.map kV)) ∧ r = valV kvs k
noncomputable def DPut (H : Hp) (a : Addr) (y v : V) (H' : Hp) : Prop :=
  (∃ kvs k, H a = some (.dK kvs) ∧ y = kV k ∧ kvs.length < sizeLine ∧ H' = upd H a (.dK (putK kvs k v))) ∨
  ∃ kvs k b, H a = some (.dT kvs) ∧ y = .ref b ∧ H b = some (.tup (k.map kV)) ∧ kvs.length < sizeLine ∧ H' = upd H a (.dT (putK kvs k v))
theorem DGet.k {H : Hp} {a : Addr} {kvs : List (Key × V)} {k : Key} (e : H a = some (.dK kvs)) : DGet H a (kV k) (valV kvs k) := .inl ⟨kvs, k, .inl e, rfl, rfl⟩
theorem DGet.t {H : Hp} {a b : Addr} {kvs : List (List Key × V)} {k : List Key} (e : H a = some (.dT kvs)) (eb : H b = some (.tup (k.map kV))) : DGet H a (.ref b) (valV kvs k) := .inr ⟨kvs, k, b, .inl e, rfl, eb, rfl⟩
theorem DPut.k {H : Hp} {a : Addr} {kvs : List (Key × V)} {k : Key} {v : V} (e : H a = some (.dK kvs)) (hl : kvs.length < sizeLine) : DPut H a (kV k) v (upd H a (.dK (putK kvs k v))) := .inl ⟨kvs, k, e, rfl, hl, rfl⟩
theorem DPut.t {H : Hp} {a b : Addr} {kvs : List (List Key × V)} {k : List Key} {v : V} (e : H a = some (.dT kvs)) (eb : H b = some (.tup (k.map kV))) (hl : kvs.length < sizeLine) :
    DPut H a (.ref b) v (upd H a (.dT (putK kvs k v))) := .inr ⟨kvs, k, b, e, rfl, eb, hl, rfl⟩


section
variable {X : Cx} {pins : List (Addr × Obj)} {σ : St} {H : Hp} {s : Shared} {a : Addr} {y v : V} {u r : Value} {o : Option V} {A : Around} {E : Value → Shared → Prop}

end

section
variable {X : Cx} {pins : List (Addr × Obj)} {σ : St} {H : Hp} {s : Shared} {a : Addr} {kvs : List (Key × V)} {k : Key} {u : Value} {A : Around} {E : Value → Shared → Prop}
end


section
variable {X : Cx} {o i e value : Expr} {pos pos' tpos : Pos} {td ty tv : TE}
end


section
variable {X : Cx} {pos : Pos}
end

structure M1 (X : Cx) (o : Expr) (m : Str) (apos : Pos) (e : Expr) (cpos : Pos) : Prop where
  base : attributeBase o m X.env (eval o X.env) = eval o X.env
  few : ((backTo cpos (starEach [e] X.env)).all (fun x => !x.1) && (backToKw cpos (keywordEach [] X.env)).all (fun x => x.1.isSome)
    && decide (([e] : List Expr).length + ([] : List Keyword).length + (if ([] : List Keyword).isEmpty then 0 else 1) < 30)) = true
  line : (apos.endLine == cpos.line) = true
  trees : backTo cpos (starEach [e] X.env) = [(false, eval e X.env)]
structure M2 (X : Cx) (o : Expr) (m : Str) (apos : Pos) (e f : Expr) (cpos : Pos) : Prop where
  base : attributeBase o m X.env (eval o X.env) = eval o X.env
  few : ((backTo cpos (starEach [e, f] X.env)).all (fun x => !x.1) && (backToKw cpos (keywordEach [] X.env)).all (fun x => x.1.isSome)
    && decide (([e, f] : List Expr).length + ([] : List Keyword).length + (if ([] : List Keyword).isEmpty then 0 else 1) < 30)) = true
  line : (apos.endLine == cpos.line) = true
  trees : backTo cpos (starEach [e, f] X.env) = [(false, eval e X.env), (false, eval f X.env)]

section
variable {X : Cx} {pins : List (Addr × Obj)} {σ : St} {H : Hp} {s : Shared} {a : Addr} {y d : V} {u r : Value} {o : Option V} {A : Around} {E : Value → Shared → Prop}
end

section
variable {X : Cx} {o e f : Expr} {apos cpos : Pos} {td ty tx : TE}
end

section
variable {X : Cx} {pins : List (Addr × Obj)} {σ : St} {H : Hp} {s : Shared} {a : Addr} {kvs : List (Key × V)} {A : Around} {E : Value → Shared → Prop}
end


section
variable {X : Cx} {pins : List (Addr × Obj)} {σ : St} {H : Hp} {s : Shared} {a : Addr} {y : V} {u : Value} {A : Around} {E : Value → Shared → Prop}
end
end L2
namespace L2
open PySem PySem.Spec PyProof.Rows
section
variable {κ : Type} [DecidableEq κ]
end
end L2
set_option Elab.async false
set_option linter.all false
set_option maxRecDepth 100000
set_option maxHeartbeats 4000000
namespace L2
open PySem PySem.Spec PyProof.Rows
section
variable {X : Cx}
theorem same_laid {H : Hp} {p : Addr} (h : H p = none) (o : HO) : Same H (upd H p o) := fun b u q => by rw [upd_ne (ne_of_none q h)]; exact q
noncomputable def rSlW (K : PySem.W.Frag) : V → Option Int → Option Int → Hp → VK → Prop := fun x lo hi H Q => ExQ Q (fun a Q => ExQ Q (fun xs Q => x = .ref a ∧ SqT K H a xs ∧ ∀ p H', Same H H' → SqT K H' p (cutV xs lo hi) → Q (.ref p) H'))
theorem whole_cut {prog : Program} {w : World} {A : Around} {E : Value → Shared → Prop} {s : Shared} {t sl : Addr} {items : Array Value} {vl vu : Value} {lo hi : Option Int} {Q : Value → Shared → Prop} (ht : IsTup s.heap t items) (hs : s.heap.IsSliceOf sl vl vu .none)
    (pl : IsPart vl lo) (pu : IsPart vu hi) (hw : HT.sIx items.size 0 lo = 0 ∧ HT.sIx items.size items.size hi = items.size) (h : Q (.ref t) s) : wpAny (model prog w) A (getItem (.ref t) (.ref sl)) Q E s := by
  obtain ⟨os, hos, hcs, hds⟩ := id hs
  have hTs : s.TypeIs (.ref sl) "slice" := ⟨os, hos, hcs⟩
  unfold getItem
  try with_reducible refine wpAny_holding ?_
  first | refine wpAny_bind (wpAny_pure ?_) | skip
  refine wpAny_bind (wpAny_sequenceKey ht.typeIs (by decide) ?_); refine wpAny_bind (wpAny_callSpecial?_slot (name := Str.ofString "__getitem__") ht.typeIs PyProof.Rows.slot_tuple_getitem (wpAny_call_entry PyProof.Rows.slot_tuple_getitem ht.typeIs entry_tuple_getitem ?_ (args_tuple_getitem _ _)))
  show wpAny _ _ (Builtin.Tuple.tupleItemsOf (.ref t) >>= _) _ _ s; refine wpAny_bind (tupleItemsOf_ ht ?_); refine wpAny_bind (wpAny_typeOf hTs ?_)
  rw [if_pos (by decide)]
  refine wpAny_bind (HT.sliceApplied_gen hs pl pu ?_)
  show wpAny _ _ (if (((HT.sIx items.size 0 lo : Nat) : Int) == 0 && (1 : Int) == 1 && (HT.sIx items.size items.size hi - HT.sIx items.size 0 lo) == items.size) = true then _ else _) _ _ s
  rw [if_pos (by rw [hw.1, hw.2]; simp)]
  unfold Builtin.Tuple.tupleIsExact
  refine wpAny_bind (wpAny_bind (wpAny_typeOf ht.typeIs (wpAny_pure ?_)))
  rw [if_pos (by decide)]
  exact wpAny_bind (wpAny_rule (wpAny_pure ⟨_, rfl, wpAny_pure h⟩))
theorem sl_tupW : SlR X (rSlW X.K) := by
  intro pins s σ H x v vl vu lo hi sl Q I rx hs pl pu h
  obtain ⟨a, xs, rfl, hx, q⟩ := h
  by_cases hw : HT.sIx xs.length 0 lo = 0 ∧ HT.sIx xs.length xs.length hi = xs.length
  · cases rx
    obtain ⟨its, r, ht, hz⟩ := I.tuple hx
    have hlen : its.toArray.size = xs.length := by rw [List.size_toArray]; exact r.length.symm
    refine ⟨"tuple", _, PyProof.Rows.slot_tuple_getitem.lookup, ht.typeIs, whole_cut ht hs pl pu (by rw [hlen]; exact hw) ⟨.ref a, H, I, rfl, q a H (Same.refl H) ?_⟩⟩
    unfold cutV
    rw [hw.1, hw.2, List.drop_zero, Nat.sub_zero, List.take_length]
    exact hx
  · exact sl_tup pins s σ H _ v vl vu lo hi sl Q I rx hs pl pu ⟨a, xs, rfl, hx, hw, fun p np => q p _ (same_laid np _) (SqT.of upd_same)⟩
end
section
end
section
variable {X : Cx}
end
end L2
set_option Elab.async false
set_option linter.all false
set_option maxRecDepth 100000
set_option maxHeartbeats 4000000
namespace L2
open PySem PySem.Spec PyProof.Rows
inductive T where
  | d (d : D) | lst (ts : List T) | tup (ts : List T)
mutual
noncomputable def IsT (K : PySem.W.Frag) (H : Hp) : T → V → Prop
  | .d d, v => Is K H d v
  | .lst ts, v => ∃ a xs, v = .ref a ∧ SqL K H a xs ∧ IsTL K H ts xs
  | .tup ts, v => ∃ a xs, v = .ref a ∧ SqT K H a xs ∧ IsTL K H ts xs
noncomputable def IsTL (K : PySem.W.Frag) (H : Hp) : List T → List V → Prop
  | [], vs => vs = []
  | t :: ts, vs => ∃ v r, vs = v :: r ∧ IsT K H t v ∧ IsTL K H ts r
end
mutual
noncomputable def T.dep : T → Nat
  | .d x => x.dep
  | .lst ts => 1 + T.depL ts
  | .tup ts => 1 + T.depL ts
noncomputable def T.depL : List T → Nat
  | [] => 0
  | t :: ts => max t.dep (T.depL ts)
end
section
variable {K : PySem.W.Frag} {H : Hp}
theorem ist_d {d : D} {v : V} (h : Is K H d v) : IsT K H (.d d) v := by unfold IsT; exact h
theorem ist_lst {ts : List T} {a : Addr} {xs : List V} (q : SqL K H a xs) (l : IsTL K H ts xs) : IsT K H (.lst ts) (.ref a) := by unfold IsT; exact ⟨a, xs, rfl, q, l⟩
theorem ist_tup {ts : List T} {a : Addr} {xs : List V} (q : SqT K H a xs) (l : IsTL K H ts xs) : IsT K H (.tup ts) (.ref a) := by unfold IsT; exact ⟨a, xs, rfl, q, l⟩
theorem istl_nil : IsTL K H [] [] := by unfold IsTL; rfl
theorem istl_cons {t : T} {ts : List T} {v : V} {vs : List V} (h : IsT K H t v) (l : IsTL K H ts vs) : IsTL K H (t :: ts) (v :: vs) := by unfold IsTL; exact ⟨v, vs, rfl, h, l⟩
theorem IsTL.length : ∀ {ts : List T} {vs : List V}, IsTL K H ts vs → ts.length = vs.length
  | [], vs, h => by unfold IsTL at h; rw [h]; rfl
  | t :: ts, vs, h => by
    unfold IsTL at h
    obtain ⟨v, r, rfl, _, l⟩ := h
    rw [List.length_cons, List.length_cons, IsTL.length l]
theorem istl_ds : ∀ {ds : List D} {vs : List V}, IsL K H ds vs → IsTL K H (ds.map T.d) vs
  | [], vs, h => by rw [h.nil_inv]; exact istl_nil
  | d :: ds, vs, h => by
    obtain ⟨v, r, rfl, a, b⟩ := h.cons_inv
    exact istl_cons (ist_d a) (istl_ds b)
end
section
variable {X : Cx} {pins : List (Addr × Obj)} {σ : St} {H : Hp} {s : Shared}
noncomputable def SameAt (A : Around) (s : Shared) (us us' : List Value) : Prop := ∀ (j : Nat) u u', us[j]? = some u → us'[j]? = some u' → SeqAt.EqAt A s u u' true
theorem all_true (n : Nat) : (List.range n).all (fun _ => true) = true := by simp
theorem sat_get {A : Around} {us us' : List Value} (h : SameAt A s us us') : ∀ j (h1 : j < us.toArray.size) (h2 : j < us'.toArray.size), SeqAt.EqAt A s us.toArray[j] us'.toArray[j] ((fun _ => true) j) := fun j h1 h2 =>
  h j _ _ (by rw [List.size_toArray] at h1; simp [h1]) (by rw [List.size_toArray] at h2; simp [h2])
mutual
theorem eqAt_T (I : Inv X pins σ H s) : ∀ (t : T) {A : Around} {v v' : V} {u u' : Value}, IsT X.K H t v → IsT X.K H t v' → RelV v u → RelV v' u' → A.units + t.dep < cLine → SeqAt.EqAt A s u u' true
  | .d d, A, v, v', u, u', h, k, r, r', hu => by
    unfold IsT at h k
    have e : T.dep (.d d) = d.dep := by unfold T.dep; rfl
    have := eqAt_D I d d h k r r' (by rw [← e]; exact hu)
    rw [D.beq_self] at this
    exact this
  | .lst ts, A, v, v', u, u', h, k, r, r', hu => by
    unfold IsT at h k
    obtain ⟨a, xs, rfl, q, l⟩ := h
    obtain ⟨b, ys, rfl, q', l'⟩ := k
    cases r; cases r'
    have e : T.dep (.lst ts) = 1 + T.depL ts := by conv => lhs; unfold T.dep
    by_cases hab : a = b
    · subst hab; exact SeqAt.EqAt.same _
    · obtain ⟨its, rv, p, z⟩ := I.list q
      obtain ⟨its', rv', p', z'⟩ := I.list q'
      have R := SeqAt.RcAt.lists (A := A) (s := s) (e := fun _ => true) p.isList p'.isList (by rw [List.size_toArray, List.size_toArray, ← rv.length, ← rv'.length, ← l.length, ← l'.length]) (by omega) (sat_get (eqAt_TL I ts l l' rv rv' (by rw [in1_units]; omega)))
      rw [all_true] at R
      exact SeqAt.EqAt.of_refs hab R
  | .tup ts, A, v, v', u, u', h, k, r, r', hu => by
    unfold IsT at h k
    obtain ⟨a, xs, rfl, q, l⟩ := h
    obtain ⟨b, ys, rfl, q', l'⟩ := k
    cases r; cases r'
    have e : T.dep (.tup ts) = 1 + T.depL ts := by conv => lhs; unfold T.dep
    by_cases hab : a = b
    · subst hab; exact SeqAt.EqAt.same _
    · obtain ⟨its, rv, p, z⟩ := I.tuple q
      obtain ⟨its', rv', p', z'⟩ := I.tuple q'
      have R := SeqAt.RcAt.tuples (A := A) (s := s) (e := fun _ => true) p p' (by omega) (sat_get (eqAt_TL I ts l l' rv rv' (by rw [in1_units]; omega)))
      have es : its.toArray.size = its'.toArray.size := by rw [List.size_toArray, List.size_toArray, ← rv.length, ← rv'.length, ← l.length, ← l'.length]
      rw [all_true, es, beq_self_eq_true] at R
      exact SeqAt.EqAt.of_refs hab R
theorem eqAt_TL (I : Inv X pins σ H s) : ∀ (ts : List T) {A : Around} {xs ys : List V} {us us' : List Value}, IsTL X.K H ts xs → IsTL X.K H ts ys → Vals xs us → Vals ys us' → A.units + T.depL ts < cLine → SameAt A s us us'
  | [], A, xs, ys, us, us', l, l', rv, rv', hu => by
    unfold IsTL at l l'
    subst l
    cases rv
    intro j u u' h; simp at h
  | t :: ts, A, xs, ys, us, us', l, l', rv, rv', hu => by
    unfold IsTL at l l'
    obtain ⟨x, r, rfl, i, l⟩ := l
    obtain ⟨y, r', rfl, i', l'⟩ := l'
    cases rv with | cons q1 rv => cases rv' with | cons q2 rv' =>
    have e : T.depL (t :: ts) = max t.dep (T.depL ts) := by conv => lhs; unfold T.depL
    intro j u u' h h'
    match j, h, h' with
    | 0, h, h' => cases h; cases h'; exact eqAt_T I t i i' q1 q2 (by omega)
    | j + 1, h, h' => exact eqAt_TL I ts l l' rv rv' (by omega) j u u' (by simpa using h) (by simpa using h')
end
end
noncomputable def rEqT (K : PySem.W.Frag) (n : Nat) (neg : Bool) : R2 := fun x y H Q => ExQ Q (fun ts Q => ((IsT K H (.lst ts) x ∧ IsT K H (.lst ts) y) ∨ (IsT K H (.tup ts) x ∧ IsT K H (.tup ts) y)) ∧ T.depL ts < n ∧ Q (.bl (!neg)) H)
section
variable {X : Cx} {pins : List (Addr × Obj)} {σ : St} {H : Hp} {s : Shared}
theorem rc_T (I : Inv X pins σ H s) {A : Around} {ts : List T} {x y : V} {u u' : Value} (h : (IsT X.K H (.lst ts) x ∧ IsT X.K H (.lst ts) y) ∨ (IsT X.K H (.tup ts) x ∧ IsT X.K H (.tup ts) y)) (r : RelV x u) (r' : RelV y u') (hu : A.units + 1 + T.depL ts < cLine) :
    SeqAt.RcAt A s u u' true ∧ SeqAt.RcNeAt A s u u' false := by
  rcases h with ⟨h, k⟩ | ⟨h, k⟩
  · unfold IsT at h k
    obtain ⟨a, xs, rfl, q, l⟩ := h
    obtain ⟨b, ys, rfl, q', l'⟩ := k
    cases r; cases r'
    obtain ⟨its, rv, p, z⟩ := I.list q
    obtain ⟨its', rv', p', z'⟩ := I.list q'
    have es : its.toArray.size = its'.toArray.size := by rw [List.size_toArray, List.size_toArray, ← rv.length, ← rv'.length, ← l.length, ← l'.length]
    have sa := sat_get (eqAt_TL (A := A.in1) I ts l l' rv rv' (by rw [in1_units]; omega))
    have R := SeqAt.RcAt.lists (A := A) (e := fun _ => true) p.isList p'.isList es (by omega) sa
    have R2 := SeqAt.RcNeAt.lists (A := A) (e := fun _ => true) p.isList p'.isList es (by omega) sa
    rw [all_true] at R R2
    exact ⟨R, R2⟩
  · unfold IsT at h k
    obtain ⟨a, xs, rfl, q, l⟩ := h
    obtain ⟨b, ys, rfl, q', l'⟩ := k
    cases r; cases r'
    obtain ⟨its, rv, p, z⟩ := I.tuple q
    obtain ⟨its', rv', p', z'⟩ := I.tuple q'
    have es : its.toArray.size = its'.toArray.size := by rw [List.size_toArray, List.size_toArray, ← rv.length, ← rv'.length, ← l.length, ← l'.length]
    have sa := sat_get (eqAt_TL (A := A.in1) I ts l l' rv rv' (by rw [in1_units]; omega))
    have R := SeqAt.RcAt.tuples (A := A) (e := fun _ => true) p p' (by omega) sa
    have R2 := SeqAt.RcNeAt.tuples (A := A) (e := fun _ => true) p p' (by omega) sa
    rw [all_true, es, beq_self_eq_true] at R R2
    exact ⟨R, R2⟩
end
section
variable {X : Cx}
theorem op_eqT {n : Nat} (hu : X.A.units + 1 + n < cLine) : OpR X (compareOp .Eq) (rEqT X.K n false) := by
  intro pins s σ H x y v u Q I rx ry h
  obtain ⟨ts, h1, hd, q⟩ := h
  exact (rc_T I h1 rx ry (by omega)).1 X.prog X.w X.xe _ ⟨.bl _, H, I, rfl, q⟩
end
end L2
set_option Elab.async false
set_option linter.all false
set_option maxRecDepth 100000
set_option maxHeartbeats 4000000
namespace L2
open PySem PySem.Spec PyProof.Rows
noncomputable def ClM (P : Program) (w : World) (K : PySem.W.Frag) (mg : Str → Option Value) (base : Heap) (C : Addr) (m : Str) (k : Nat) (ps : List Str) (sp : Sp) : Prop :=
  ∃ (f : Addr) (fd : FuncData), Cls K C ∧ Meth K C m f ∧ FnOk P w K mg base CX0 k f fd ps sp ∧ Binds K fd ps []
theorem ClM.mono {P : Program} {w : World} {K : PySem.W.Frag} {mg : Str → Option Value} {base : Heap} {C : Addr} {m : Str} {j k : Nat} {ps : List Str} {sp : Sp} (c : ClM P w K mg base C m j ps sp) (h : j ≤ k) : ClM P w K mg base C m k ps sp :=
  let ⟨f, fd, a, b, F, d⟩ := c; ⟨f, fd, a, b, F.mono h, d⟩
section
variable {X : Cx} {x m : Str} {k : Nat} {ps : List Str} {sp : Sp} {p pos apos : Pos} {o e : Expr} {es : List Expr} {ta : TE} {t : TA} {C : Addr}
end
section
variable {X : Cx} {K : PySem.W.Frag}
end
section
variable {X : Cx} {o e value : Expr} {f : Str} {pos pos' tpos : Pos} {ta tv : TE} {C : Addr}
end
end L2
set_option Elab.async false
set_option linter.all false
set_option maxRecDepth 100000
set_option maxHeartbeats 4000000
namespace L2
open PySem PySem.Spec PyProof.Rows
section
variable {X : Cx}
end
end L2
set_option Elab.async false
set_option linter.all false
set_option maxRecDepth 100000
set_option maxHeartbeats 4000000
namespace L2
open PySem PySem.Spec PyProof.Rows
section
variable {X : Cx} {pins : List (Addr × Obj)} {σ : List (Option V)} {H : Hp} {s : Shared}
end
end L2
set_option Elab.async false
set_option linter.all false
set_option maxRecDepth 100000
set_option maxHeartbeats 4000000
namespace L2
open PySem PySem.Spec PyProof.Rows
section
variable {X : Cx}
end
end L2
set_option Elab.async false
set_option linter.all false
set_option maxRecDepth 100000
set_option maxHeartbeats 4000000
namespace L2
open PySem PySem.Spec PyProof.Rows
noncomputable def Itz (K : PySem.W.Frag) (a b : Addr) : It :=
  ⟨fun i H => ∃ xs ys x y, SqL K H a xs ∧ SqL K H b ys ∧ xs[i]? = some x ∧ ys[i]? = some y, fun i H x H' => ∃ t, H t = none ∧ x = .ref t ∧ ∀ xs ys, SqL K H a xs → SqL K H b ys → ∃ v u, xs[i]? = some v ∧ ys[i]? = some u ∧ H' = upd H t (.tup [v, u]), fun i H => ∃ xs ys, SqL K H a xs ∧ SqL K H b ys ∧ (xs.length ≤ i ∨ ys.length ≤ i)⟩
theorem turn_zip {P : Program} {w : World} {K : PySem.W.Frag} {es : List Expr} {k : Nat} {pos : Pos} {z TI TO i1 i2 a b : Addr} (D : ZipApart z TI TO i1 i2 a b) :
    Turn P w K (.Tuple es k pos) (Itz K a b) [z, TI, TO, i1, i2] z (fun i h => IsZip h z TI TO .none ∧ IsPair h TI (.ref i1) (.ref i2) ∧ (∃ x y, IsPair h TO x y) ∧ h.IsListIter i1 a i ∧ h.IsListIter i2 b i) where
  mem := by simp
  obj := fun i h st c hc => by
    obtain ⟨st1, st2, ⟨x, y, st3⟩, ⟨o4, e4, c4, d4⟩, ⟨o5, e5, c5, d5⟩⟩ := st
    simp only [List.mem_cons, List.not_mem_nil, or_false] at hc
    rcases hc with rfl | rfl | rfl | rfl | rfl
    · exact ⟨_, st1, fun v z => by cases z⟩
    · exact ⟨_, st2, fun v z => by cases z⟩
    · exact ⟨_, st3, fun v z => by cases z⟩
    · exact ⟨o4, e4, fun v z => by rw [d4] at z; cases z⟩
    · exact ⟨o5, e5, fun v z => by rw [d5] at z; cases z⟩
  keep := fun i h h' st kp => ⟨kp z (by simp) _ st.1, kp TI (by simp) _ st.2.1, let ⟨x, y, q⟩ := st.2.2.1; ⟨x, y, kp TO (by simp) _ q⟩, st.2.2.2.1.at fun o q => kp i1 (by simp) o q, st.2.2.2.2.at fun o q => kp i2 (by simp) o q⟩
  item := by
    intro X hP hw hK hc i pins s σ H E I hf st hg
    subst hP hw hK
    obtain ⟨xs, ys, x, y, hq, hq2, hx, hy⟩ := hg
    obtain ⟨its, rv, p, hz⟩ := I.list hq
    obtain ⟨its2, rv2, p2, hz2⟩ := I.list hq2
    obtain ⟨u, hu, ru⟩ := rv.get hx
    obtain ⟨u2, hu2, ru2⟩ := rv2.get hy
    obtain ⟨st1, st2, ⟨a1, b1, st3⟩, st4, st5⟩ := st
    refine wpAny_pyNext_zip_item D st1 st2 st3 st4 st5 p.isList p2.isList (x := u) (y := u2) (by simpa using hu) (by simpa using hu2) fun h1 o1 to1 m1 m2 t1 z1 k1 => ?_
    refine ⟨_, rfl, wpAny_letOwnedTupleGo_zip o1 fun h2 o2 b2 => ?_⟩
    have hnew : H s.heap.objs.size = none := I.fresh
    have ltz : z < s.heap.objs.size := Heap.lt_size st1
    have k2 : ∀ c o, c ≠ z → c ≠ TO → c ≠ i1 → c ≠ i2 → s.heap.get? c = some o → h2.get? c = some o := fun c o c1 c2 c3 c4 q => b2.extBut c o c1 (k1 c o c1 c2 c3 c4 q)
    have t2 : h2.get? s.heap.objs.size = some { cls := .type "tuple", data := .seq #[u, u2] } := b2.extBut _ _ (Nat.ne_of_gt ltz) t1
    have fz := hf z (by simp)
    have fTI := hf TI (by simp)
    have fTO := hf TO (by simp)
    have f1 := hf i1 (by simp)
    have f2 := hf i2 (by simp)
    have nch : ∀ c o, H c = some o → c ≠ z ∧ c ≠ TO ∧ c ≠ i1 ∧ c ≠ i2 := fun c o q => ⟨fun e => by (rw [e, fz.1] at q; cases q), fun e => by (rw [e, fTO.1] at q; cases q), fun e => by (rw [e, f1.1] at q; cases q), fun e => by (rw [e, f2.1] at q; cases q)⟩
    have kc : ∀ c o, ¬ c ∈ [z, TO, i1, i2] → s.heap.get? c = some o → h2.get? c = some o := fun c o hc q => k2 c o (fun e => hc (by simp [e])) (fun e => hc (by simp [e])) (fun e => hc (by simp [e])) (fun e => hc (by simp [e])) q
    have I2 : Inv X pins σ (upd H s.heap.objs.size (.tup [x, y])) { s with heap := h2, gens := s.gens, drawn := s.drawn, toks := s.toks } := by
      refine I.step (ch := [z, TO, i1, i2]) (fun c hc => ?_) (fun c o _ _ hc q _ => kc c o hc q) (fun c o _ _ hc q _ => ⟨o.slots, kc c o hc q⟩)
        (fun c o _ q n => by rw [upd_ne (Nat.ne_of_lt (Heap.lt_size q))]; exact n) (fun c o hc q => ⟨o, kc c o hc q⟩)
        (fun c zs q => by rw [upd_ne (ne_of_none q hnew)]; exact q) (fun c o v q => by rw [upd_ne (ne_of_none q hnew)]; exact q) (fun c ps q => ⟨#[], by rw [upd_ne (ne_of_none q hnew), q]; simp⟩) (fun m hm => ?_) (fun c o q => ?_) I.bare
      · simp only [List.mem_cons, List.not_mem_nil, or_false] at hc
        rcases hc with rfl | rfl | rfl | rfl
        · exact ⟨fz.2.2.2.1, fz.2.1, fz.2.2.2.2.1, fz.2.2.2.2.2⟩
        · exact ⟨fTO.2.2.2.1, fTO.2.1, fTO.2.2.2.2.1, fTO.2.2.2.2.2⟩
        · exact ⟨f1.2.2.2.1, f1.2.1, f1.2.2.2.2.1, f1.2.2.2.2.2⟩
        · exact ⟨f2.2.2.2.1, f2.2.1, f2.2.2.2.2.1, f2.2.2.2.2.2⟩
      · obtain ⟨o, es', ep, ho, r⟩ := hm
        exact ⟨o, es', ep, k2 _ o (Ne.symm fz.2.1) (Ne.symm fTO.2.1) (Ne.symm f1.2.1) (Ne.symm f2.2.1) ho, r⟩
      · by_cases hb : c = s.heap.objs.size
        · subst hb
          rw [upd_same] at q
          cases q
          exact ⟨by show 2 ≤ sizeLine; decide, [u, u2], .cons ru (.cons ru2 .nil), _, t2, rfl, _, rfl⟩
        · rw [upd_ne hb] at q
          refine (I.hok c o q).stay (fun d v hd e => ?_) (fun d e => by rw [upd_ne (ne_of_none e hnew)]; exact e) fun d zs e => by rw [upd_ne (ne_of_none e hnew)]; exact e
          have nd : d ≠ z ∧ d ≠ TO ∧ d ≠ i1 ∧ d ≠ i2 := by
            rcases hd with z' | z'
            · rw [z']; exact nch c o q
            · exact nch d _ z'
          exact k2 d v nd.1 nd.2.1 nd.2.2.1 nd.2.2.2 e
    refine ⟨.ref s.heap.objs.size, _, I2, rfl, ⟨_, hnew, rfl, fun xs' ys' hy1 hy2 => ⟨x, y, by rw [I.list_inj hy1 hq]; exact hx, by rw [I.list_inj hy2 hq2]; exact hy, rfl⟩⟩, ⟨o2, b2.extBut _ _ D.TIz (k1 _ _ D.TIz D.TITO D.TIi1 D.TIi2 st2), ⟨_, _, b2.extBut _ _ D.TOz to1⟩, m1.extBut b2.extBut D.i1z, m2.extBut b2.extBut D.i2z⟩, fun c hc => ?_⟩
    obtain ⟨oc, ec⟩ : ∃ oc, s.heap.get? c = some oc := by
      obtain ⟨o4, e4, _⟩ := st4
      obtain ⟨o5, e5, _⟩ := st5
      simp only [List.mem_cons, List.not_mem_nil, or_false] at hc
      rcases hc with rfl | rfl | rfl | rfl | rfl
      · exact ⟨_, st1⟩
      · exact ⟨_, st2⟩
      · exact ⟨_, st3⟩
      · exact ⟨_, e4⟩
      · exact ⟨_, e5⟩
    rw [upd_ne (Nat.ne_of_lt (Heap.lt_size ec))]; exact (hf c hc).1
  done := by
    intro X hP hw hK hc i pins s σ H E I hf st hg
    subst hP hw hK
    obtain ⟨xs, ys, hq, hq2, hx⟩ := hg
    obtain ⟨its, rv, p, hz⟩ := I.list hq
    obtain ⟨its2, rv2, p2, hz2⟩ := I.list hq2
    obtain ⟨st1, st2, ⟨a1, b1, st3⟩, st4, st5⟩ := st
    have hl := rv.length
    have hl2 := rv2.length
    have fz := hf z (by simp)
    have fTO := hf TO (by simp)
    have f1 := hf i1 (by simp)
    have f2 := hf i2 (by simp)
    refine wpAny_pyNext_zip_end (I.ok.hd hc) D st1 st2 st3 st4 st5 p.isList p2.isList ?_ fun h' eb => ⟨rfl, ?_⟩
    · rcases hx with e | e
      · exact .inl (by simp; omega)
      · exact .inr (by simp; omega)
    · have nch : ∀ c o, H c = some o → c ≠ z ∧ c ≠ TO ∧ c ≠ i1 ∧ c ≠ i2 := fun c o q => ⟨fun e => by (rw [e, fz.1] at q; cases q), fun e => by (rw [e, fTO.1] at q; cases q), fun e => by (rw [e, f1.1] at q; cases q), fun e => by (rw [e, f2.1] at q; cases q)⟩
      have kc : ∀ c o, ¬ c ∈ [z, TO, i1, i2] → s.heap.get? c = some o → h'.get? c = some o := fun c o hc q => eb c o (fun e => hc (by simp [e])) (fun e => hc (by simp [e])) (fun e => hc (by simp [e])) (fun e => hc (by simp [e])) q
      refine I.step (g' := s.gens) (d' := s.drawn) (t' := s.toks) (ch := [z, TO, i1, i2]) (fun c hc => ?_) (fun c o _ _ hc q _ => kc c o hc q) (fun c o _ _ hc q _ => ⟨o.slots, kc c o hc q⟩) (fun _ _ _ _ n => n) (fun c o hc q => ⟨o, kc c o hc q⟩)
        (fun _ _ e => e) (fun _ _ _ e => e) (fun c ps q => ⟨#[], by rw [q]; simp⟩) (fun m hm => ?_) (fun c o q => ?_) I.bare
      · simp only [List.mem_cons, List.not_mem_nil, or_false] at hc
        rcases hc with rfl | rfl | rfl | rfl
        · exact ⟨fz.2.2.2.1, fz.2.1, fz.2.2.2.2.1, fz.2.2.2.2.2⟩
        · exact ⟨fTO.2.2.2.1, fTO.2.1, fTO.2.2.2.2.1, fTO.2.2.2.2.2⟩
        · exact ⟨f1.2.2.2.1, f1.2.1, f1.2.2.2.2.1, f1.2.2.2.2.2⟩
        · exact ⟨f2.2.2.2.1, f2.2.1, f2.2.2.2.2.1, f2.2.2.2.2.2⟩
      · obtain ⟨o, es', ep, ho, r⟩ := hm
        exact ⟨o, es', ep, eb _ o (Ne.symm fz.2.1) (Ne.symm fTO.2.1) (Ne.symm f1.2.1) (Ne.symm f2.2.1) ho, r⟩
      · refine (I.hok c o q).stay (fun d v hd e => ?_) (fun d e => e) fun d zs e => e
        have nd : d ≠ z ∧ d ≠ TO ∧ d ≠ i1 ∧ d ≠ i2 := by
          rcases hd with z' | z'
          · rw [z']; exact nch c o q
          · exact nch d _ z'
        exact eb d v nd.1 nd.2.1 nd.2.2.1 nd.2.2.2 e
  self := fun A i s Q E st h => wpAny_pyIter_zip st.1 h
section
variable {X : Cx}
noncomputable def iZip (K : PySem.W.Frag) (ta : TA) : TI := fun σ H R => ta σ H fun vs H1 => ∃ a b, vs = [.ref a, .ref b] ∧ (∃ xs, SqL K H1 a xs) ∧ (∃ ys, SqL K H1 b ys) ∧ R (Itz K a b) H1
theorem pi_zip {es : List Expr} {k : Nat} {post : Pos} {a b : Expr} {ta : TA} {p pos : Pos} (hg : Gl X "zip") (hm : X.mg "zip" = none) (ha : PA X [a, b] ta) (hs : starEach [a, b] X.env = (false, eval a X.env) :: starEach [b] X.env := by rfl) (hz : ((backTo pos (starEach [b] X.env)).any fun x => x.fst) = false := by rfl) :
    PI X (.Tuple es k post) (.Call (.Name "zip" p) [a, b] [] pos) (iZip X.K ta) := by
  intro pins s σ H R I h
  refine Call_ (ld_blt I hg hm PyProof.Rows.boot_zip (PyProof.Rows.callWith_type1 (thn (ha pos pins s σ H _ I h) fun us s1 ⟨vs, H1, I1, r1, q1⟩ => ?_) hs hz))
  obtain ⟨l1, l2, rfl, ⟨xs, hq⟩, ⟨ys, hq2⟩, q⟩ := q1
  obtain ⟨u, u2, rfl, ru, ru2⟩ := r1.two
  cases ru
  cases ru2
  obtain ⟨its, rv, pl, hz⟩ := I1.list hq
  obtain ⟨its2, rv2, pl2, hz2⟩ := I1.list hq2
  have lt1 : l1 < s1.heap.objs.size := by obtain ⟨_, e, _⟩ := pl.isList; exact Heap.lt_size e
  have lt2 : l2 < s1.heap.objs.size := by obtain ⟨_, e, _⟩ := pl2.isList; exact Heap.lt_size e
  refine call_zip_2 pl.isList pl2.isList fun h' c1 c2 c3 c4 c5 sz kp => ?_
  have D := PyProof.Rows.zipApart_new lt1 lt2
  have T := turn_zip (P := X.prog) (w := X.w) (K := X.K) (es := es) (k := k) (pos := post) D
  have I2 : Inv X pins σ H1 { s1 with heap := h' } := I1.kept (t' := s1.toks) kp
  refine T.self X.A 0 { s1 with heap := h' } _ _ ⟨c1, c2, ⟨_, _, c3⟩, c4, c5⟩ ?_
  refine ⟨_, _, _, _, H1, rfl, I2, T, ⟨c1, c2, ⟨_, _, c3⟩, c4, c5⟩, fun c hc => ?_, q⟩
  have hn : s1.heap.objs.size ≤ c := by
    simp only [List.mem_cons, List.not_mem_nil, or_false] at hc
    rcases hc with e | e | e | e | e <;> rw [e]
    · exact Nat.le_add_right _ _
    · exact Nat.le_add_right _ _
    · exact Nat.le_add_right _ _
    · exact Nat.le_refl _
    · exact Nat.le_add_right _ _
  exact I1.fpOk hn (I1.hok.fresh hn)
end
theorem for_zip {K : PySem.W.Frag} {a b : Addr} {xs ys : List V} {g : TG} {tb : TS} {D : Ends} {σ : St} {H : Hp} (Pv : Nat → St → Hp → Prop) (hlen : xs.length = ys.length) (h0 : Pv 0 σ H) (hl : ∀ i σ H, i ≤ xs.length → Pv i σ H → SqL K H a xs ∧ SqL K H b ys)
    (hs : ∀ i x y σ H t, xs[i]? = some x → ys[i]? = some y → Pv i σ H → H t = none → g (.ref t) σ (upd H t (.tup [x, y])) fun σ2 H2 => tb { D with nx := Pv (i + 1), ct := Pv (i + 1), bk := D.nx } σ2 H2) (hd : ∀ σ H, Pv xs.length σ H → D.nx σ H) :
    ∃ W : Nat → Nat → St → Hp → Prop, (∃ m, W 0 m σ H) ∧ ∀ i m σ H, W i m σ H →
      ((Itz K a b).stop i H ∧ D.nx σ H) ∨ ((Itz K a b).go i H ∧ ∃ N : St → Hp → Prop, (∀ σ' H', N σ' H' → ∃ m', m' < m ∧ W (i + 1) m' σ' H') ∧ ∀ x H', (Itz K a b).yld i H x H' → g x σ H' fun σ2 H2 => tb { D with nx := N, ct := N, bk := D.nx } σ2 H2) := by
  refine ⟨fun i m σ H => i ≤ xs.length ∧ m = xs.length - i ∧ Pv i σ H, ⟨xs.length, Nat.zero_le _, rfl, h0⟩, fun i m σ H hw => ?_⟩
  obtain ⟨hi, rfl, hp⟩ := hw
  obtain ⟨hq, hq2⟩ := hl i σ H hi hp
  by_cases hlt : i < xs.length
  · have hlt2 : i < ys.length := by omega
    refine .inr ⟨⟨xs, ys, xs[i], ys[i], hq, hq2, List.getElem?_eq_getElem hlt, List.getElem?_eq_getElem hlt2⟩, Pv (i + 1), fun σ' H' h' => ⟨xs.length - (i + 1), by omega, by omega, rfl, h'⟩, fun x H' hy => ?_⟩
    obtain ⟨t, nt, rfl, hv⟩ := hy
    obtain ⟨v, u, ev, eu, rfl⟩ := hv xs ys hq hq2
    exact hs i v u σ H t ev eu hp nt
  · have e : i = xs.length := by omega
    subst e
    exact .inl ⟨⟨xs, ys, hq, hq2, .inl (Nat.le_refl _)⟩, hd σ H hp⟩
theorem comp_enum {K : PySem.W.Frag} {a : Addr} {xs : List V} {vn : Nat} {g : TG} {tc : TT} {te : TE} {σ : St} {p : Addr} {H1 : Hp} {Q : Hp → Prop} (Pv : Nat → Hp → Prop) (h0 : Pv 0 (upd H1 p (.lst []))) (hl : ∀ i H, i ≤ xs.length → Pv i H → SqL K H a xs)
    (hs : ∀ i x H t, xs[i]? = some x → Pv i H → H t = none → g (.ref t) (List.replicate vn none ++ σ) (upd H t (.tup [.int (i : Int), x])) fun σ2 H2 => (∃ τ : St, σ2 = τ ++ σ ∧ τ.length = vn) ∧ tc σ2 H2 fun b H3 =>
      if b = true then te σ2 H3 fun v H4 => ∃ acc, H4 p = some (.lst acc) ∧ acc.length < sizeLine ∧ Pv (i + 1) (upd H4 p (.lst (acc ++ [v]))) else Pv (i + 1) H3) (hd : ∀ H, Pv xs.length H → Q H) : tCompW (Ite K a) vn g tc te σ p H1 Q := by
  refine ⟨fun i m H => i ≤ xs.length ∧ m = xs.length - i ∧ Pv i H, ⟨xs.length, Nat.zero_le _, rfl, h0⟩, fun i m H hw => ?_⟩
  obtain ⟨hi, rfl, hp⟩ := hw
  have hq := hl i H hi hp
  by_cases hlt : i < xs.length
  · refine .inr ⟨⟨xs, xs[i], hq, List.getElem?_eq_getElem hlt⟩, Pv (i + 1), fun H' h' => ⟨xs.length - (i + 1), by omega, by omega, rfl, h'⟩, fun x H' hy => ?_⟩
    obtain ⟨t, nt, rfl, hv⟩ := hy
    obtain ⟨v, ev, rfl⟩ := hv xs hq
    exact hs i v H t ev hp nt
  · have e : i = xs.length := by omega
    subst e
    exact .inl ⟨⟨xs, hq, Nat.le_refl _⟩, hd H hp⟩
section
variable {X : Cx}
noncomputable def rAny (K : PySem.W.Frag) : List V → Hp → VK → Prop := fun xs H Q => ∃ (p : Addr) (bs : List Bool), xs = [.ref p] ∧ SqL K H p (bs.map V.bl) ∧ Q (.bl (bs.any id)) H
theorem range_any : ∀ (bs : List Bool), ((List.range bs.length).any fun i => (bs[i]?).getD false) = bs.any id := fun bs => by
  rw [Bool.eq_iff_iff, List.any_eq_true, List.any_eq_true]
  constructor
  · rintro ⟨i, hi, h⟩
    have hl := List.mem_range.mp hi
    rw [List.getElem?_eq_getElem hl] at h
    exact ⟨bs[i], List.getElem_mem hl, h⟩
  · rintro ⟨x, hx, h⟩
    obtain ⟨i, hi, e⟩ := List.mem_iff_getElem.mp hx
    exact ⟨i, List.mem_range.mpr hi, by rw [List.getElem?_eq_getElem hi, e]; exact h⟩
theorem call_any (hc : X.calm = true) : CallR X (.builtin "any") (rAny X.K) := by
  intro pins s σ H xs us Q I r h
  obtain ⟨p, bs, rfl, hs, q⟩ := h
  obtain ⟨u, rfl, ru⟩ := r.one
  obtain rfl : u = Value.ref p := ru
  obtain ⟨its, rv, hl, _⟩ := I.list hs
  have hb := bools_of rv
  have hl' : s.heap.IsList p its.toArray := hl.isList
  have hlt : p < s.heap.objs.size := by obtain ⟨_, e, _⟩ := hl'; exact Heap.lt_size e
  refine call_any_walk (wpAny_pyIter_list hl' ?_)
  refine ⟨s.heap.objs.size, [s.heap.objs.size, p], [s.heap.objs.size], its.toArray.size, _, _, fun i => (bs[i]?).getD false, rfl, Walks.list (A := X.A.in1) (I.ok.hd hc) _ p (Nat.ne_of_lt hlt) its.toArray,
    ⟨⟨_, Heap.get?_push_size _ rfl, rfl, rfl⟩, hl'.push _⟩, fun i v s' Q' E' hP hQ => ?_, fun h' tk hk => ?_⟩
  · obtain ⟨b, e, rfl⟩ := hb.get i v (by simpa using hP)
    simp only [e, Option.getD_some] at hQ
    exact wpAny_truthy_bool hQ
  · have e : ((List.range its.toArray.size).any fun i => (bs[i]?).getD false) = bs.any id := by
      rw [List.size_toArray, hb.length]; exact range_any bs
    rw [e]
    exact ⟨.bl (bs.any id), H, I.kept (t' := tk) (LSm.kept_iter hk), rfl, q⟩
end
section
variable {prog : Program} {w : World} {A : Around} {E : Value → Shared → Prop} {s : Shared}
theorem draw_listL {it t : Addr} {items : Array Value} (hne : t ≠ it) : ∀ (n i : Nat) (s : Shared) (Q : List Value → Shared → Prop), s.heap.IsListIter it t i → s.heap.IsList t items → i + n ≤ items.size →
    (∀ h', Heap.IsListIter h' it t (i + n) → Heap.SameBut it s.heap h' → Q ((items.toList.drop i).take n) { s with heap := h' }) → wpAny (model prog w) A (draw (.ref it) n) Q E s
  | 0, i, s, Q, hit, _, _, hQ => by
    show wpAny _ _ (pure []) Q E s
    exact wpAny_pure (by simpa using hQ s.heap hit (Heap.SameBut.refl ..))
  | n + 1, i, s, Q, hit, ht, hle, hQ => by
    have hlt : i < items.size := by omega
    show wpAny _ _ (pyNext (.ref it) >>= _) Q E s
    refine wpAny_bind (wpAny_pyNext_list_item hit ht (x := items[i]) (by simp [hlt]) fun h₁ hit₁ hs₁ => ?_)
    refine wpAny_bind (wpAny_holding (draw_listL hne n (i + 1) _ _ hit₁ (ht.extBut hs₁.extBut hne) (by omega) fun h₂ hit₂ hs₂ => wpAny_pure ?_))
    have hd : items.toList.drop i = items[i] :: items.toList.drop (i + 1) := by simp [List.drop_eq_getElem_cons, hlt]
    have := hQ h₂ (by rw [show i + (n + 1) = i + 1 + n by omega]; exact hit₂) (hs₁.trans hs₂)
    rw [hd, List.take_succ_cons] at this
    exact this
theorem unpackItems_listL {t : Addr} {items : Array Value} {Q : List Value → Shared → Prop} (hh : A.handled = none) (ht : s.heap.IsList t items)
    (hQ : ∀ h', Heap.ExtBut s.heap.objs.size s.heap h' → Q items.toList { s with heap := h' }) : wpAny (model prog w) A (unpackItems (.ref t) items.size none) Q E s := by
  have hlt : t ≠ s.heap.objs.size := by obtain ⟨o, ho, _⟩ := ht; exact Nat.ne_of_lt (Heap.lt_size ho)
  unfold unpackItems
  refine wpAny_bind ?_
  · unfold notIterableAtAll
    refine wpAny_bind (wpAny_specialOf ht.typeIs PySem.slot_list_iter.lookup ?_)
    refine wpAny_pure ?_
    simp only [Bool.false_eq_true, if_false]
    refine wpAny_bind (wpAny_holding (wpAny_pyIter_list ht ?_))
    refine wpAny_bind (wpAny_holding (draw_listL hlt items.size 0 _ _ ⟨_, Heap.get?_push_size _ rfl, rfl, rfl⟩ (ht.push _) (by omega) fun h₁ hit₁ hs₁ => ?_))
    have hall : List.take items.size (List.drop 0 items.toList) = items.toList := by
      rw [List.drop_zero]; exact List.take_of_length_le (by simp)
    rw [hall]
    rw [if_neg (by simp)]
    have ht₁ : Heap.IsList h₁ t items := (ht.push _).extBut hs₁.extBut hlt
    refine wpAny_bind (wpAny_holding (wpAny_pyNext_list_end hh hit₁ ht₁ (by simp) fun h₂ he₂ => ?_))
    simp only [Option.isSome_none, Bool.false_eq_true, if_false]
    refine wpAny_pure (hQ h₂ fun b o hb e => he₂ b o hb (hs₁.extBut b o hb (Heap.get?_push_of_some _ e)))
theorem assign_Tuple_listL {env : Env} {elts : List Expr} {x1} {pos : Pos} {t : Addr} {items : Array Value} {Q : Unit → Shared → Prop} (hh : A.handled = none) (ht : s.heap.IsList t items)
    (hn : (assignEach elts env).length = items.size) (hstar : (assignEach elts env).findIdx? (·.1) = none)
    (h : ∀ h', Heap.ExtBut s.heap.objs.size s.heap h' → wpAny (model prog w) A (assignInOrder ((assignEach elts env).map (·.2)) items.toList) Q E { s with heap := h' }) :
    wpAny (model prog w) A (assign (.Tuple elts x1 pos) env (.ref t)) Q E s := by
  rw [assign_Tuple]
  refine wpAny_bind (wpAny_standAt ?_)
  unfold unpack
  rw [hn, hstar]
  exact wpAny_bind (wpAny_holding (unpackItems_listL hh ht h))
end
section
variable {X : Cx} {pos : Pos}
noncomputable def gLst (K : PySem.W.Frag) (n : Nat) (t : TGs) : TG := fun v σ H Q => ∃ a xs, v = .ref a ∧ SqL K H a xs ∧ xs.length = n ∧ t xs σ H Q
theorem pg_lst {es : List Expr} {k : Nat} {t : TGs} {n : Nat} (hc : X.calm = true) (h : PGs X es t)
    (hn : (assignEach es X.env).length = n := by rfl) (hst : (assignEach es X.env).findIdx? (·.1) = none := by rfl) : PG X (.Tuple es k pos) (gLst X.K n t) := by
  intro pins s σ H v u Q I r hw
  obtain ⟨a, xs, e1, hq, hl, hw⟩ := hw
  subst e1
  cases r
  obtain ⟨its, rv, ht, hz⟩ := I.list hq
  refine assign_Tuple_listL (I.ok.hd hc) ht.isList (by simp [hn, ← hl, rv.length]) hst fun h' hx => ?_
  have I1 : Inv X pins σ H { s with heap := h' } := I.kept (t' := s.toks) fun b o e => hx b o (Nat.ne_of_lt (Heap.lt_size e)) e
  exact h pins _ σ H xs _ Q I1 (by simpa using rv) hw
end
end L2
set_option Elab.async false
set_option linter.all false
set_option maxRecDepth 100000
set_option maxHeartbeats 4000000
namespace L2
open PySem PySem.Spec PyProof.Rows
section
variable {X : Cx}
noncomputable def rIsiQ (K : PySem.W.Frag) : List V → Hp → VK → Prop := fun xs H Q => ∃ (a : Addr) (ys : List V), xs = [.ref a, .ty "tuple"] ∧ SqT K H a ys ∧ Q (.bl true) H
theorem call_isiQ : CallR X (.builtin "isinstance") (rIsiQ X.K) := by
  intro pins s σ H xs us Q I r h
  obtain ⟨a, ys, rfl, hs, q⟩ := h
  obtain ⟨u, w', rfl, rx, rT⟩ := r.two
  have e : w' = .type "tuple" := rT
  subst e
  cases (show u = Value.ref a from rx)
  obtain ⟨its, _, ⟨o, h1, h2, _⟩, _⟩ := I.tuple hs
  exact PySem.W.kia_one PySem.W.kitx_tuple I.kIn ⟨o, h1, h2⟩ (show PySem.W.kitOne X.K (.type "tuple") (.type "tuple") = some true from rfl) (fun z => nomatch z) fun tk => ⟨.bl true, H, I.tok tk, rfl, q⟩
end
end L2
set_option Elab.async false
set_option linter.all false
set_option maxRecDepth 100000
set_option maxHeartbeats 4000000
namespace K43
open PySem PySem.Spec PyProof.Rows L2
noncomputable def top (i : Nat) : Stmt := PySem.Challenge.pw_lookspare_k43_facts_along_steps.main.body.getD i (.Pass ⟨0, 0, 0, 0⟩)
noncomputable abbrev s_draw : Stmt := top 26
noncomputable abbrev s_number : Stmt := top 27
noncomputable abbrev s_goal : Stmt := top 28
noncomputable abbrev s_maybe : Stmt := top 29
noncomputable def spDraw (K : PySem.W.Frag) : Sp := fun vs H Q _ => ExQ Q (fun (a : Addr) Q => ExQ Q (fun (ns : List Int) Q => ExQ Q (fun (k : Int) Q => vs = [.ref a, .int k] ∧ SqL K H a (ns.map V.int) ∧ ns.length ≤ 63 ∧ 0 ≤ k ∧ k ≤ 1000 ∧ ∀ c : Int, Q (.int c) H)))
noncomputable def spNumber : Sp := fun vs H Q _ => ExQ Q (fun (c : Int) Q => vs = [.int c] ∧ ∀ i : Int, -1000 ≤ i → i ≤ 1000 → ∀ H', Same H H' → Q (.int i) H')
noncomputable def spGoal : Sp := fun vs H Q _ => ExQ Q (fun (c : Int) Q => ExQ Q (fun (at_ : Int) Q => ExQ Q (fun (many : Int) Q => vs = [.int c, .int at_, .int many] ∧ 0 ≤ at_ ∧ 0 < many ∧ many ≤ 1000 ∧ ∀ i : Int, 0 ≤ i → i < many → Q (.int i) H)))
noncomputable def MaybeV (n : Int) (v : V) : Prop := v = .non ∨ ∃ i : Int, 0 ≤ i ∧ i < n ∧ v = .int i
noncomputable def spMaybe : Sp := fun vs H Q _ => ExQ Q (fun (c : Int) Q => ExQ Q (fun (n : Int) Q => vs = [.int c, .int n] ∧ 0 < n ∧ ∀ v, MaybeV n v → Q v H))
theorem same_new {H : Hp} {p : Addr} (h : H p = none) (o : HO) : Same H (upd H p o) := fun b u q => by rw [upd_ne (ne_of_none q h)]; exact q
theorem ifs_nx {c : TT} {t u : TS} {D : Ends} {σ : L2.St} {H : Hp} (Φ : L2.St → Hp → Prop) (h : ∀ σ' H', Φ σ' H' → D.nx σ' H') (hi : ∀ D' : Ends, (∀ σ' H', Φ σ' H' → D'.nx σ' H') → tIfS c t u D' σ H) : tIfS c t u D σ H := hi D h
theorem ifs_rt {c : TT} {t u : TS} {D : Ends} {σ : L2.St} {H : Hp} (Φ : L2.St → Hp → Prop) (h : ∀ σ' H', Φ σ' H' → D.nx σ' H') (hi : ∀ nx : L2.St → Hp → Prop, (∀ σ' H', Φ σ' H' → nx σ' H') → tIfS c t u { D with nx := nx } σ H) : tIfS c t u D σ H := hi D.nx h
theorem atI_ints {ns : List Int} {i : Int} (h0 : 0 ≤ i) (h1 : i < (ns.length : Int)) : ∃ c : Int, atI (ns.map V.int) i = some (.int c) := by
  obtain ⟨j, rfl⟩ : ∃ j : Nat, i = (j : Int) := ⟨i.toNat, by omega⟩
  have hj : j < ns.length := by omega
  exact ⟨ns[j], atI_nat (by rw [List.getElem?_map, List.getElem?_eq_getElem hj]; rfl)⟩
theorem two_ints {x y : Int} (b : Bool) : ∃ z : Int, atI [V.int x, .int y] (if b then 1 else 0) = some (.int z) ∧ (z = x ∨ z = y) := by
  cases b with
  | true => exact ⟨y, rfl, .inr rfl⟩
  | false => exact ⟨x, rfl, .inl rfl⟩
section
variable {P : Program} {w : World} {K : PySem.W.Frag} {mg : Str → Option Value} {base : Heap} {f : Addr} {fd : FuncData} {n : Nat}
local macro_rules | `(tactic| walk_at "s") => `(tactic| first | exact ⟨by decide, by decide⟩ | exact ⟨by decide, by decide, by decide⟩ | exact Or.inl ⟨by decide, by decide⟩ | exact Or.inr ⟨by decide, by decide⟩ | (show (0 : Int) < _; decide) | (show (0 : Int) ≤ _; decide) | (show (0 : Int) < _; omega) | (show (0 : Int) ≤ _; omega) | exact ⟨by omega, by omega⟩ | exact Or.inl ⟨by omega, by omega⟩ | exact Or.inr ⟨by omega, by omega⟩)
local macro_rules | `(tactic| walk_at "r") => `(tactic| repeat (first | (refine ⟨_, rfl, ?_⟩) | (refine ⟨_, _, rfl, rfl, ?_⟩) | (refine ⟨rfl, ?_⟩) | (refine ⟨by walk_at "s", ?_⟩) | (refine ⟨Nat.le_of_ble_eq_true rfl, fun _ _ => ?_⟩)))
theorem sc_draw : FnScope ["_law_script", "_law_k", "_law_many", "_law_cell", "_law_mixed", "_law_other"] ["_law_script", "_law_k"] (defScope s_draw) := ⟨rfl, rfl, rfl, by decide +kernel, rfl, by decide +kernel, by decide +kernel⟩
theorem sc_number : FnScope ["_law_cell"] ["_law_cell"] (defScope s_number) := ⟨rfl, rfl, rfl, by decide +kernel, rfl, by decide +kernel, by decide +kernel⟩
theorem sc_goal : FnScope ["_law_cell", "_law_at", "_law_many"] ["_law_cell", "_law_at", "_law_many"] (defScope s_goal) := ⟨rfl, rfl, rfl, by decide +kernel, rfl, by decide +kernel, by decide +kernel⟩
theorem sc_maybe : FnScope ["_law_cell", "_law_names"] ["_law_cell", "_law_names"] (defScope s_maybe) := ⟨rfl, rfl, rfl, by decide +kernel, rfl, by decide +kernel, by decide +kernel⟩
theorem ok_draw (F : Fun K "_law_draw" "_law_draw" s_draw f fd) (m_len : mg "len" = none) : FnOk P w K mg base CX0 (n + 1) f fd ["_law_script", "_law_k"] (spDraw K) := by
  refine F.ok sc_draw (fun vs H Q E h => ?_) (fun cdv A outer s H vs Q E hr h => ?_)
  · obtain ⟨a, ns, k, rfl, _⟩ := h
    rfl
  obtain ⟨a, ns, k, rfl, hS, h63, k0, k1, q⟩ := h
  have sc := sc_draw
  refine ⟨_, (@pss_cons _ _ _ _ _ (ps_set (i := 2) sc.nd rfl (Or.inl rfl) (pe_callB call_len_seq rfl m_len PySem.boot_len (pa_cons (pv 0) pa_nil)))
      (@pss_cons _ _ _ _ _ (ps_if (PW.pt (pw_and (pt_cmpR op_gt (pv 2) pe_int (nomark _)) (pw_and (pt_cmpR op_eq (pe_op op_mod (pe_ix ix_list (pv 0) pe_int (fun _ _ => rfl)) pe_int) pe_int (nomark _)) (pw_and1 (pt_cmpR op_lt (pe_op op_fdiv (pv 1) (pv 2)) pe_int (nomark _)))))) (pss_one (ps_ret (pe_op op_and (pe_op op_shr (pe_ix ix_list (pv 0) (pe_op op_mod (pv 1) (pv 2)) (fun _ _ => rfl)) (pe_op op_add (pe_op op_mul pe_int (pe_op op_fdiv (pv 1) (pv 2))) pe_int)) pe_int))) pss_nil)
      (@pss_cons _ _ _ _ _ (ps_set (i := 3) sc.nd rfl (Or.inl rfl) (pe_op op_mul pe_int (pv 1)))
      (@pss_cons _ _ _ _ _ (ps_if (pt_cmpR op_lt (pv 1) (pv 2) (nomark _)) (pss_one (ps_set (i := 3) sc.nd rfl (Or.inl rfl) (pe_ix ix_list (pv 0) (pv 1) (fun _ _ => rfl)))) (pss_one (ps_if (pt_cmpR op_gt (pv 2) pe_int (nomark _)) (@pss_cons _ _ _ _ _ (ps_set (i := 5) sc.nd rfl (Or.inl rfl) (pe_ix ix_list (pv 0) (pe_op op_mod (pe_op op_add (pe_op op_mul pe_int (pv 1)) pe_int) (pv 2)) (fun _ _ => rfl)))
      (pss_one (ps_set (i := 3) sc.nd rfl (Or.inl rfl) (pe_op op_add (pe_op op_add (pv 3) (pe_ix ix_list (pv 0) (pe_op op_mod (pv 1) (pv 2)) (fun _ _ => rfl))) (pe_op op_mul pe_int (pe_op op_mod (pv 5) pe_int)))))) pss_nil)))
      (@pss_cons _ _ _ _ _ (ps_set (i := 4) sc.nd rfl (Or.inl rfl) (pe_op op_mod (pe_op op_add (pe_op op_mul (pv 3) pe_int) (pe_op op_mul pe_int (pv 1))) pe_int))
      (pss_one (ps_ret (pe_op op_mod (pe_op op_mul (pe_op op_fdiv (pv 4) pe_int) (pe_op op_add (pe_op op_add (pe_op op_mod (pv 4) pe_int) (pe_op op_mul pe_int (pv 1))) pe_int)) pe_int)))))))), ?_⟩
  refine ⟨_, rfl, a, _, rfl, .inl hS, ?_⟩
  rw [List.length_map]
  have mod0 : ∀ x : Int, 0 < (ns.length : Int) → 0 ≤ x % (ns.length : Int) ∧ x % (ns.length : Int) < (ns.length : Int) := fun x h => ⟨Int.emod_nonneg _ (by omega), Int.emod_lt_of_pos _ h⟩
  dsimp only [gName, tSeq]
  refine ifs_rt (fun σ' H' => σ' = [some (.ref a), some (.int k), some (.int (ns.length : Int)), none, none, none] ∧ H = H') (fun σ' H' h => ?_) (fun nx kk => ?_)
  rotate_left
  · dsimp only [tIfS, tAnd, tSeq, tNext]
    refine ⟨_, rfl, _, _, rfl, rfl, _, rfl, ite2 (fun c1 => ?_) (fun c1 => iteF (kk _ _ ⟨rfl, rfl⟩))⟩
    have hp : 0 < (ns.length : Int) := of_decide_eq_true c1
    obtain ⟨s0, es0⟩ := atI_ints (ns := ns) (i := 0) (by decide) hp
    refine ⟨_, rfl, a, _, 0, _, rfl, rfl, hS, es0, _, _, rfl, rfl, by show (0 : Int) < 2; decide, rfl, _, rfl, ite2 (fun c2 => ?_) (fun c2 => iteF (kk _ _ ⟨rfl, rfl⟩))⟩
    refine ⟨_, rfl, _, rfl, _, _, rfl, rfl, ⟨hp, by show (ns.length : Int) < 1073741824; omega⟩, _, _, rfl, rfl, _, rfl, ite2 (fun c3 => ?_) (fun c3 => kk _ _ ⟨rfl, rfl⟩)⟩
    obtain ⟨sk, esk⟩ := atI_ints (ns := ns) (i := k % (ns.length : Int)) (mod0 k hp).1 (mod0 k hp).2
    have hd : 0 ≤ k / (ns.length : Int) := Int.ediv_nonneg k0 (by omega)
    refine ⟨_, rfl, _, rfl, _, rfl, _, _, rfl, rfl, by show (0 : Int) < (ns.length : Int); exact hp, a, _, _, _, rfl, rfl, hS, esk, _, rfl, _, rfl, _, _, rfl, rfl, ⟨hp, by show (ns.length : Int) < 1073741824; omega⟩, _, _, rfl, rfl, .inl ⟨by decide, by decide⟩, _, _, rfl, rfl, _, _, rfl, rfl, by show (0 : Int) ≤ 61 * (k / (ns.length : Int)) + 1; omega, _, _, rfl, rfl, q _⟩
  obtain ⟨rfl, rfl⟩ := h
  refine ⟨_, rfl, _, _, rfl, rfl, .inl ⟨by decide, by decide⟩, ?_⟩
  dsimp only [gName, tSeq]
  refine ifs_nx (fun σ' H' => ∃ (c : Int) (y5 : Option V), σ' = [some (.ref a), some (.int k), some (.int (ns.length : Int)), some (.int c), none, y5] ∧ H = H') (fun σ' H' h => ?_) (fun D' kk => ?_)
  rotate_left
  · refine ⟨_, rfl, _, rfl, _, _, rfl, rfl, _, rfl, ite2 (fun c1 => ?_) (fun c1 => ?_)⟩
    · have hlt : k < (ns.length : Int) := of_decide_eq_true c1
      obtain ⟨sk, esk⟩ := atI_ints (ns := ns) (i := k) k0 hlt
      exact ⟨_, rfl, _, rfl, a, _, _, _, rfl, rfl, hS, esk, kk _ _ ⟨_, _, rfl, rfl⟩⟩
    · refine ⟨_, rfl, _, _, rfl, rfl, _, rfl, ite2 (fun c2 => ?_) (fun c2 => kk _ _ ⟨_, _, rfl, rfl⟩)⟩
      have hp : 0 < (ns.length : Int) := of_decide_eq_true c2
      obtain ⟨so, eso⟩ := atI_ints (ns := ns) (i := (3 * k + 1) % (ns.length : Int)) (mod0 _ hp).1 (mod0 _ hp).2
      obtain ⟨sk, esk⟩ := atI_ints (ns := ns) (i := k % (ns.length : Int)) (mod0 k hp).1 (mod0 k hp).2
      refine ⟨_, rfl, _, rfl, _, _, rfl, rfl, .inl ⟨by decide, by decide⟩, _, _, rfl, rfl, _, rfl, _, _, rfl, rfl, by show (0 : Int) < (ns.length : Int); exact hp, a, _, _, _, rfl, rfl, hS, eso, ?_⟩
      exact ⟨_, rfl, _, rfl, _, rfl, _, rfl, _, _, rfl, rfl, by show (0 : Int) < (ns.length : Int); exact hp, a, _, _, _, rfl, rfl, hS, esk, _, _, rfl, rfl, _, rfl, _, _, rfl, rfl, by show (0 : Int) < 1000033; decide, _, _, rfl, rfl, .inl ⟨by decide, by decide⟩, _, _, rfl, rfl, kk _ _ ⟨_, _, rfl, rfl⟩⟩
  obtain ⟨c, y5, rfl, rfl⟩ := h
  refine ⟨_, rfl, _, _, rfl, rfl, .inr ⟨by decide, by decide⟩, _, rfl, _, _, rfl, rfl, .inl ⟨by decide, by decide⟩, _, _, rfl, rfl, _, _, rfl, rfl, by show (0 : Int) < 2305843009213693951; decide, ?_⟩
  have hm : 0 ≤ (c * 6364136223846793005 + 1442695040888963407 * k) % 2305843009213693951 ∧ (c * 6364136223846793005 + 1442695040888963407 * k) % 2305843009213693951 < 2305843009213693951 := ⟨Int.emod_nonneg _ (by decide), Int.emod_lt_of_pos _ (by decide)⟩
  exact ⟨_, rfl, _, _, rfl, rfl, ⟨by decide, by decide⟩, _, rfl, _, _, rfl, rfl, by show (0 : Int) < 1000003; decide, _, rfl, _, _, rfl, rfl, .inl ⟨by decide, by decide⟩, _, _, rfl, rfl, _, _, rfl, rfl, _, _, rfl, rfl, .inl ⟨by show -(2 ^ 64 : Int) < ((c * 6364136223846793005 + 1442695040888963407 * k) % 2305843009213693951) / 1024; omega, by show ((c * 6364136223846793005 + 1442695040888963407 * k) % 2305843009213693951) / 1024 < (2 ^ 64 : Int); omega⟩, _, _, rfl, rfl, by show (0 : Int) < 2305843009213693951; decide, q _⟩
theorem ok_number (F : Fun K "_law_number" "_law_number" s_number f fd) (m_int : mg "int" = none) : FnOk P w K mg base CX0 (n + 1) f fd ["_law_cell"] spNumber := by
  refine F.ok sc_number (fun vs H Q E h => ?_) (fun cdv A outer s H vs Q E hr h => ?_)
  · obtain ⟨c, rfl, _⟩ := h
    rfl
  obtain ⟨c, rfl, q⟩ := h
  have sc := sc_number
  refine ⟨_, (pss_one (ps_ret (pe_ix ix_list (pe_lst (pa_cons (pe_op op_sub (pe_op op_mod (pe_op op_fdiv (pv 0) pe_int) pe_int) pe_int) (pa_cons (pe_op op_sub (pe_op op_mod (pe_op op_fdiv (pv 0) pe_int) pe_int) pe_int) pa_nil))) (pe_callTy call_int1 rfl m_int PyProof.Rows.boot_int (pa_cons (pe_cmpR op_eq (pe_op op_mod (pv 0) pe_int) pe_int (nomark _)) pa_nil)) (fun _ _ => rfl)))), ?_⟩
  refine ⟨_, rfl, _, _, rfl, rfl, ⟨by decide, by decide⟩, _, _, rfl, rfl, by show (0 : Int) < 7; decide, _, _, rfl, rfl, _, rfl, _, _, rfl, rfl, ⟨by decide, by decide⟩, _, _, rfl, rfl, by show (0 : Int) < 2001; decide, _, _, rfl, rfl, Nat.le_of_ble_eq_true rfl, fun p hp => ?_⟩
  obtain ⟨z, ez, hz⟩ := two_ints (x := c / 4 % 7 - 3) (y := c / 4 % 2001 - 1000) (decide (V.int (c % 4) = V.int 0))
  refine ⟨_, rfl, _, _, rfl, rfl, by show (0 : Int) < 4; decide, rfl, .inr ⟨_, rfl, p, _, _, _, rfl, rfl, SqL.of upd_same, ez, q z ?_ ?_ _ (same_new hp _)⟩⟩
  · rcases hz with e | e <;> omega
  · rcases hz with e | e <;> omega
theorem ok_goal (F : Fun K "_law_goal" "_law_goal" s_goal f fd) (m_min : mg "min" = none) : FnOk P w K mg base CX0 (n + 1) f fd ["_law_cell", "_law_at", "_law_many"] spGoal := by
  refine F.ok sc_goal (fun vs H Q E h => ?_) (fun cdv A outer s H vs Q E hr h => ?_)
  · obtain ⟨c, at_, many, rfl, _⟩ := h
    rfl
  obtain ⟨c, at_, many, rfl, a0, m0, m1, q⟩ := h
  have sc := sc_goal
  refine ⟨_, (@pss_cons _ _ _ _ _ (ps_if (pt_cmpR op_lt (pe_op op_mod (pv 0) pe_int) pe_int (nomark _)) (pss_one (ps_ret (pe_callB (call_min2 rfl) rfl m_min PyProof.Rows.boot_min (pa_cons (pe_op op_add (pv 1) pe_int) (pa_cons (pe_op op_sub (pv 2) pe_int) pa_nil))))) pss_nil)
      (pss_one (ps_ret (pe_op op_mod (pe_op op_fdiv (pv 0) pe_int) (pv 2))))), ?_⟩
  refine ⟨_, rfl, _, _, rfl, rfl, by show (0 : Int) < 3; decide, _, _, rfl, rfl, _, rfl, ite2 (fun cc => ?_) (fun cc => ?_)⟩
  · exact ⟨_, rfl, _, _, rfl, rfl, _, rfl, _, _, rfl, rfl, _, _, rfl, q _ (by split <;> omega) (by split <;> omega)⟩
  · refine ⟨_, rfl, _, _, rfl, rfl, ⟨by decide, by decide⟩, _, rfl, _, _, rfl, rfl, by show (0 : Int) < many; exact m0, ?_⟩
    exact q _ (Int.emod_nonneg _ (by omega)) (Int.emod_lt_of_pos _ m0)
theorem ok_maybe (F : Fun K "_law_maybe" "_law_maybe" s_maybe f fd) : FnOk P w K mg base CX0 (n + 1) f fd ["_law_cell", "_law_names"] spMaybe := by
  refine F.ok sc_maybe (fun vs H Q E h => ?_) (fun cdv A outer s H vs Q E hr h => ?_)
  · obtain ⟨c, m, rfl, _⟩ := h
    rfl
  obtain ⟨c, m, rfl, hm, q⟩ := h
  have sc := sc_maybe
  refine ⟨_, (@pss_cons _ _ _ _ _ (ps_if (pt_cmpR op_eq (pe_op op_mod (pv 0) pe_int) pe_int (nomark _)) (pss_one (ps_ret pe_non)) pss_nil)
      (pss_one (ps_ret (pe_op op_mod (pe_op op_fdiv (pv 0) pe_int) (pv 1))))), ?_⟩
  refine ⟨_, rfl, _, _, rfl, rfl, by show (0 : Int) < 4; decide, rfl, _, rfl, ite2 (fun cc => q .non (.inl rfl)) (fun cc => ?_)⟩
  refine ⟨_, rfl, _, _, rfl, rfl, ⟨by decide, by decide⟩, _, rfl, _, _, rfl, rfl, by show (0 : Int) < m; exact hm, ?_⟩
  exact q _ (.inr ⟨_, Int.emod_nonneg _ (by omega), Int.emod_lt_of_pos _ hm, rfl⟩)
end
end K43
set_option Elab.async false
set_option linter.all false
set_option maxRecDepth 100000
set_option maxHeartbeats 4000000
namespace K43
open PySem PySem.Spec PyProof.Rows L2
theorem Same.new {H H' : Hp} {p : Addr} {o : HO} (s : Same H H') (h : H p = none) : Same H (upd H' p o) := fun b u q => by
  rw [upd_ne (ne_of_none q h)]; exact s b u q
theorem Tups.new {H : Hp} {p : Addr} {o : HO} (h : H p = none) : Tups H (upd H p o) := (same_new h o).tups
theorem Tups.lst {H : Hp} {p : Addr} {xs ys : List V} (h : H p = some (.lst xs)) : Tups H (upd H p (.lst ys)) :=
  ⟨fun b zs e => by rw [upd_ne (ne_of e h (by intro z; cases z))]; exact e, fun b o u e => by rw [upd_ne (ne_of e h (by intro z; cases z))]; exact e⟩
theorem none_of_same {H H' : Hp} (s : Same H H') {p : Addr} (h : H' p = none) : H p = none := s.free h
theorem ne_p {H : Hp} {p t : Addr} {o : HO} (h : H p = some o) (ht : H t = none) : p ≠ t := ne_of_none h ht
theorem atI_mod {α : Type} {xs : List α} {c : Int} (h : 0 < xs.length) : ∃ (j : Nat) (v : α), atI xs (c % (xs.length : Int)) = some v ∧ xs[j]? = some v := by
  have h0 : 0 ≤ c % (xs.length : Int) := Int.emod_nonneg _ (by omega)
  have h1 : c % (xs.length : Int) < xs.length := Int.emod_lt_of_pos _ (by omega)
  have hj : (c % (xs.length : Int)).toNat < xs.length := by omega
  have e : c % (xs.length : Int) = (((c % (xs.length : Int)).toNat : Nat) : Int) := by omega
  refine ⟨(c % (xs.length : Int)).toNat, xs[(c % (xs.length : Int)).toNat], ?_, List.getElem?_eq_getElem hj⟩
  have := atI_nat (xs := xs) (j := (c % (xs.length : Int)).toNat) (List.getElem?_eq_getElem hj)
  rw [← e] at this
  exact this
theorem tTrue_ite {σ : L2.St} {H : Hp} {A B : Hp → Prop} (h : A H) : tTrue σ H (fun b H3 => if b = true then A H3 else B H3) := by
  show if true = true then A H else B H
  rw [if_pos rfl]; exact h
theorem small {n : Nat} (h : n ≤ 1000) : n ≤ sizeLine := Nat.le_of_lt (small1000 h)
theorem at0 (v : V) (vs : List V) : atI (v :: vs) 0 = some v := atI_nat (j := 0) rfl
theorem at1 (v u : V) (vs : List V) : atI (v :: u :: vs) 1 = some u := atI_nat (j := 1) rfl
theorem at2 (v u w : V) (vs : List V) : atI (v :: u :: w :: vs) 2 = some w := atI_nat (j := 2) rfl
theorem at3 (v u w z : V) (vs : List V) : atI (v :: u :: w :: z :: vs) 3 = some z := atI_nat (j := 3) rfl
theorem at4 (v u w z y : V) (vs : List V) : atI (v :: u :: w :: z :: y :: vs) 4 = some y := atI_nat (j := 4) rfl
theorem str_t {a b : Str} (h : decide (V.str a = V.str b) = true) : a = b := by have := of_decide_eq_true h; injection this
theorem str_f {a b : Str} (h : ¬ decide (V.str a = V.str b) = true) : a ≠ b := fun e => h (decide_eq_true (by rw [e]))
noncomputable abbrev s_is_ask : Stmt := top 12
theorem sc_is_ask : FnScope ["line"] ["line"] (defScope s_is_ask) := ⟨rfl, rfl, rfl, by decide +kernel, rfl, by decide +kernel, by decide +kernel⟩
noncomputable def spIsAsk (K : PySem.W.Frag) : Sp := fun vs H Q _ => ExQ Q (fun (v : V) Q => ExQ Q (fun (x : Str) Q => ExQ Q (fun (ds : List D) Q => vs = [v] ∧ Is K H (.tup (.str x :: ds)) v ∧ Q (.bl (decide (x = ("ask" : Str)))) H)))
noncomputable def intsV (l : List Int) : List V := l.map V.int
inductive Deed where
  | set (x : Nat) (y : Option Nat) (c : Int)
  | sum (x z : Nat) (y : Option Nat)
  | len (x r : Nat)
  | take (x : Nat)
  | tell (x : Nat)
  | get (x r : Nat) (y : Option Nat) (c : Int)
  | put (r : Nat) (y : Option Nat) (c : Int) (z : Nat)
noncomputable def optD : Option Nat → D
  | none => .non
  | some i => .int (i : Int)
noncomputable def optV : Option Nat → V
  | none => .non
  | some i => .int (i : Int)
noncomputable def Deed.word : Deed → Str
  | .set .. => "set" | .sum .. => "sum" | .len .. => "len" | .take .. => "take" | .tell .. => "tell" | .get .. => "get" | .put .. => "put"
noncomputable def Deed.args : Deed → List D
  | .set x y c => [.int (x : Int), optD y, .int c]
  | .sum x z y => [.int (x : Int), .int (z : Int), optD y]
  | .len x r => [.int (x : Int), .int (r : Int)]
  | .take x => [.int (x : Int)]
  | .tell x => [.int (x : Int)]
  | .get x r y c => [.int (x : Int), .int (r : Int), optD y, .int c]
  | .put r y c z => [.int (r : Int), optD y, .int c, .int (z : Int)]
noncomputable def Deed.line (d : Deed) (k : Nat) : D := .tup (.str d.word :: (d.args ++ [.int (k : Int)]))
noncomputable def OptOk (n : Nat) : Option Nat → Prop
  | none => True
  | some i => i < n
noncomputable def Deed.Ok (nm rw : Nat) : Deed → Prop
  | .set x y _ => x < nm ∧ OptOk nm y
  | .sum x z y => x < nm ∧ z < nm ∧ OptOk nm y
  | .len x r => x < nm ∧ r < rw
  | .take x => x < nm
  | .tell x => x < nm
  | .get x r y _ => x < nm ∧ r < rw ∧ OptOk nm y
  | .put r y _ z => r < rw ∧ OptOk nm y ∧ z < nm
noncomputable def Deed.slot : Deed → Option (Nat × Option Nat × Int)
  | .get _ r y c => some (r, y, c)
  | .put r y c _ => some (r, y, c)
  | _ => none
noncomputable abbrev s_gives : Stmt := top 9
noncomputable abbrev s_is_place : Stmt := top 10
noncomputable abbrev s_place_of : Stmt := top 11
theorem sc_place_of : FnScope ["line"] ["line"] (defScope s_place_of) := ⟨rfl, rfl, rfl, by decide +kernel, rfl, by decide +kernel, by decide +kernel⟩
theorem sc_gives : FnScope ["line"] ["line"] (defScope s_gives) := ⟨rfl, rfl, rfl, by decide +kernel, rfl, by decide +kernel, by decide +kernel⟩
theorem sc_is_place : FnScope ["line"] ["line"] (defScope s_is_place) := ⟨rfl, rfl, rfl, by decide +kernel, rfl, by decide +kernel, by decide +kernel⟩
noncomputable def givingL : List Str := ["set", "sum", "len", "take", "get"]
noncomputable def placingL : List Str := ["get", "put"]
theorem flat_strs (l : List Str) : (l.map V.str).all flatV = true := by
  rw [List.all_eq_true]
  intro v hv
  obtain ⟨x, _, rfl⟩ := List.mem_map.mp hv
  rfl
structure TabG (K : PySem.W.Frag) (mg : Str → Option Value) (a_GIVING a_PLACING : Addr) : Prop where
  mv : mg "GIVING" = some (.ref a_GIVING)
  gv : ∀ H : Hp, SqT K H a_GIVING (givingL.map V.str)
  mp : mg "PLACING" = some (.ref a_PLACING)
  pl : ∀ H : Hp, SqT K H a_PLACING (placingL.map V.str)
inductive Nd where
  | zero
  | name (x : Nat)
  | len (r : Nat)
noncomputable def Nd.word : Nd → Str
  | .zero => "zero" | .name _ => "name" | .len _ => "len"
noncomputable def Nd.args : Nd → List D
  | .zero => [] | .name x => [.int (x : Int), .int 0] | .len r => [.int (r : Int)]
noncomputable def Nd.D (q : Nd) : D := .tup (.str q.word :: q.args)
noncomputable def Nd.Ok (nm rw : Nat) : Nd → Prop
  | .zero => True | .name x => x < nm | .len r => r < rw
structure Bd where
  a : Nd
  b : Nd
  c : Int
noncomputable def Bd.D (q : Bd) : D := .tup [q.a.D, q.b.D, .int q.c]
noncomputable def Bd.Ok (nm rw : Nat) (q : Bd) : Prop := q.a.Ok nm rw ∧ q.b.Ok nm rw
inductive Ln where
  | deed (d : Deed) (k : Nat)
  | test (y w : Option Nat) (c : Int) (k m : Nat)
  | ask (bs : List Bd) (k m : Nat)
  | stop
noncomputable def Ln.word : Ln → Str
  | .deed d _ => d.word | .test .. => "test" | .ask .. => "ask" | .stop => "end"
noncomputable def Ln.args : Ln → List D
  | .deed d k => d.args ++ [.int (k : Int)]
  | .test y w c k m => [optD y, optD w, .int c, .int (k : Int), .int (m : Int)]
  | .ask bs k m => [.tup (bs.map Bd.D), .int (k : Int), .int (m : Int)]
  | .stop => []
noncomputable def Ln.D (l : Ln) : D := .tup (.str l.word :: l.args)
noncomputable def Ln.Ok (nm rw nl : Nat) : Ln → Prop
  | .deed d k => d.Ok nm rw ∧ k < nl
  | .test y w _ k m => OptOk nm y ∧ OptOk nm w ∧ k < nl ∧ m < nl
  | .ask bs k m => (∀ q ∈ bs, q.Ok nm rw) ∧ (0 < bs.length ∧ bs.length ≤ 100) ∧ k < nl ∧ m < nl
  | .stop => True
noncomputable def Deed.name? : Deed → V
  | .set x _ _ => .int (x : Int) | .sum x _ _ => .int (x : Int) | .len x _ => .int (x : Int) | .take x => .int (x : Int) | .tell _ => .non | .get x _ _ _ => .int (x : Int) | .put .. => .non
noncomputable def Ln.gives : Ln → V
  | .deed d _ => d.name?
  | _ => .non
noncomputable def Ln.isPlace : Ln → Bool
  | .deed d _ => d.slot.isSome
  | _ => false
noncomputable def spGives (K : PySem.W.Frag) : Sp := fun vs H Q _ => ExQ Q (fun (l : Ln) Q => ExQ Q (fun (v : V) Q => vs = [v] ∧ Is K H l.D v ∧ Q l.gives H))
noncomputable def spPlace (K : PySem.W.Frag) : Sp := fun vs H Q _ => ExQ Q (fun (l : Ln) Q => ExQ Q (fun (v : V) Q => vs = [v] ∧ Is K H l.D v ∧ Q (.bl l.isPlace) H))
noncomputable def spPlaceOf (K : PySem.W.Frag) : Sp := fun vs H Q _ => ExQ Q (fun (d : Deed) Q => ExQ Q (fun (k : Nat) Q => ExQ Q (fun (v : V) Q => ExQ Q (fun (s : Nat × Option Nat × Int) Q => vs = [v] ∧ Is K H (d.line k) v ∧ d.slot = some s ∧ ∀ H' t, Same H H' → SqT K H' t [.int (s.1 : Int), optV s.2.1, .int s.2.2] → Q (.ref t) H'))))
section
variable {P : Program} {w : World} {K : PySem.W.Frag} {mg : Str → Option Value} {base : Heap} {f : Addr} {fd : FuncData} {n : Nat} {C : Addr} {a_GIVING a_PLACING : Addr}
theorem ok_is_ask (F : Fun K "is_ask" "is_ask" s_is_ask f fd) : FnOk P w K mg base CX0 (n + 1) f fd ["line"] (spIsAsk K) := by
  refine F.ok sc_is_ask (fun vs H Q E h => ?_) (fun cdv A outer s H vs Q E hr h => ?_)
  · obtain ⟨v, x, ds, rfl, _⟩ := h
    rfl
  obtain ⟨v, x, ds, rfl, hi, q⟩ := h
  have sc := sc_is_ask
  refine ⟨_, (pss_one (ps_ret (pe_cmpR op_eq (pe_ix ix_tup (pv 0) pe_int (fun _ _ => rfl)) pe_str (nomark _)))), ?_⟩
  obtain ⟨a, xs, rfl, hq, il0⟩ := hi.tup_inv
  obtain ⟨v0, vs, rfl, i0, il⟩ := il0.cons_inv
  cases i0.str_inv
  refine ⟨_, rfl, a, _, 0, _, rfl, rfl, hq, at0 _ _, rfl, ?_⟩
  rw [show decide (V.str x = V.str "ask") = decide (x = ("ask" : Str)) from decide_eq_decide.mpr ⟨fun z => V.str.inj z, fun z => by rw [z]⟩]
  exact q
theorem ln_inv {H : Hp} {l : Ln} {v : V} (h : Is K H l.D v) : ∃ a vs, v = .ref a ∧ SqT K H a (.str l.word :: vs) ∧ IsL K H l.args vs := by
  obtain ⟨a, xs, rfl, hq, il0⟩ := h.tup_inv
  obtain ⟨v0, vs, rfl, i0, il⟩ := il0.cons_inv
  cases i0.str_inv
  exact ⟨a, vs, rfl, hq, il⟩
theorem nd_inv {H : Hp} {q : Nd} {v : V} (h : Is K H q.D v) : ∃ a vs, v = .ref a ∧ SqT K H a (.str q.word :: vs) ∧ IsL K H q.args vs := by
  obtain ⟨a, xs, rfl, hq, il0⟩ := h.tup_inv
  obtain ⟨v0, vs, rfl, i0, il⟩ := il0.cons_inv
  cases i0.str_inv
  exact ⟨a, vs, rfl, hq, il⟩
theorem any1 {H : Hp} {d : D} {ds : List D} {vs : List V} (h : IsL K H (d :: ds) vs) : ∃ v r, vs = v :: r ∧ Is K H d v ∧ IsL K H ds r := h.cons_inv
theorem opt_inv {H : Hp} {y : Option Nat} {v : V} (h : Is K H (optD y) v) : v = optV y := by
  cases y with
  | none => exact h.non_inv
  | some i => exact h.int_inv
theorem int1 {H : Hp} {i : Int} {ds : List D} {vs : List V} (h : IsL K H (.int i :: ds) vs) : ∃ r, vs = .int i :: r ∧ IsL K H ds r := by
  obtain ⟨v, r, rfl, a, b⟩ := h.cons_inv
  cases a.int_inv
  exact ⟨r, rfl, b⟩
theorem opt1 {H : Hp} {y : Option Nat} {ds : List D} {vs : List V} (h : IsL K H (optD y :: ds) vs) : ∃ r, vs = optV y :: r ∧ IsL K H ds r := by
  obtain ⟨v, r, rfl, a, b⟩ := h.cons_inv
  cases opt_inv a
  exact ⟨r, rfl, b⟩
theorem at_ints {l : List Int} {i : Nat} (h : i < l.length) : (intsV l)[i]? = some (.int (l[i]?.getD 0)) := by
  show (l.map V.int)[i]? = _
  rw [List.getElem?_map, List.getElem?_eq_getElem h]; rfl
theorem ok_gives (F : Fun K "gives" "gives" s_gives f fd) (T : TabG K mg a_GIVING a_PLACING) : FnOk P w K mg base CX0 (n + 1) f fd ["line"] (spGives K) := by
  refine F.ok sc_gives (fun vs H Q E h => ?_) (fun cdv A outer s H vs Q E hr h => ?_)
  · obtain ⟨l, v, rfl, _⟩ := h
    rfl
  obtain ⟨l, v, rfl, hi, q⟩ := h
  have sc := sc_gives
  have m_GIVING := T.mv
  refine ⟨_, (pss_one (ps_ret (pe_ifExp (pt_cmpR op_in_seq (pe_ix ix_tup (pv 0) pe_int (fun _ _ => rfl)) (pe_glob rfl m_GIVING (v := .ref a_GIVING) rfl) (by with_unfolding_all rfl)) (pe_ix ix_tup (pv 0) pe_int (fun _ _ => rfl)) pe_non))), ?_⟩
  obtain ⟨a, vs, rfl, hq, il⟩ := ln_inv hi
  refine ⟨_, rfl, a, _, 0, _, rfl, rfl, hq, at0 _ _, a_GIVING, _, rfl, .inr (T.gv H), rfl, flat_strs _, _, rfl, ?_⟩
  cases l with
  | deed d k =>
    cases d with
    | set x y c => obtain ⟨r, rfl, _⟩ := int1 il; exact iteT ⟨_, rfl, a, _, 1, _, rfl, rfl, hq, at1 _ _ _, q⟩
    | sum x z y => obtain ⟨r, rfl, _⟩ := int1 il; exact iteT ⟨_, rfl, a, _, 1, _, rfl, rfl, hq, at1 _ _ _, q⟩
    | len x r => obtain ⟨r, rfl, _⟩ := int1 il; exact iteT ⟨_, rfl, a, _, 1, _, rfl, rfl, hq, at1 _ _ _, q⟩
    | take x => obtain ⟨r, rfl, _⟩ := int1 il; exact iteT ⟨_, rfl, a, _, 1, _, rfl, rfl, hq, at1 _ _ _, q⟩
    | tell x => exact iteF q
    | get x r y c => obtain ⟨r, rfl, _⟩ := int1 il; exact iteT ⟨_, rfl, a, _, 1, _, rfl, rfl, hq, at1 _ _ _, q⟩
    | put r y c z => exact iteF q
  | test y w c k m => exact iteF q
  | ask bs k m => exact iteF q
  | stop => exact iteF q
theorem ok_is_place (F : Fun K "is_place" "is_place" s_is_place f fd) (T : TabG K mg a_GIVING a_PLACING) : FnOk P w K mg base CX0 (n + 1) f fd ["line"] (spPlace K) := by
  refine F.ok sc_is_place (fun vs H Q E h => ?_) (fun cdv A outer s H vs Q E hr h => ?_)
  · obtain ⟨l, v, rfl, _⟩ := h
    rfl
  obtain ⟨l, v, rfl, hi, q⟩ := h
  have sc := sc_is_place
  have m_PLACING := T.mp
  refine ⟨_, (pss_one (ps_ret (pe_cmpR op_in_seq (pe_ix ix_tup (pv 0) pe_int (fun _ _ => rfl)) (pe_glob rfl m_PLACING (v := .ref a_PLACING) rfl) (by with_unfolding_all rfl)))), ?_⟩
  obtain ⟨a, vs, rfl, hq, il⟩ := ln_inv hi
  refine ⟨_, rfl, a, _, 0, _, rfl, rfl, hq, at0 _ _, a_PLACING, _, rfl, .inr (T.pl H), rfl, flat_strs _, ?_⟩
  cases l with
  | deed d k => cases d <;> exact q
  | test y w c k m => exact q
  | ask bs k m => exact q
  | stop => exact q
theorem ok_place_of (F : Fun K "place_of" "place_of" s_place_of f fd) : FnOk P w K mg base CX0 (n + 1) f fd ["line"] (spPlaceOf K) := by
  refine F.ok sc_place_of (fun vs H Q E h => ?_) (fun cdv A outer s H vs Q E hr h => ?_)
  · obtain ⟨d, k, v, s, rfl, _⟩ := h
    rfl
  obtain ⟨d, k, v, s, rfl, hi, hs, q⟩ := h
  have sc := sc_place_of
  refine ⟨_, (pss_one (ps_ret (pe_ifExp (pt_cmpR op_eq (pe_ix ix_tup (pv 0) pe_int (fun _ _ => rfl)) pe_str (nomark _)) (pe_slice sl_tupW (pv 0) (po_some pe_int) (po_some pe_int)) (pe_slice sl_tupW (pv 0) (po_some pe_int) (po_some pe_int))))), ?_⟩
  obtain ⟨a, vs, rfl, hq, il⟩ := ln_inv (l := .deed d k) hi
  refine ⟨_, rfl, a, _, 0, _, rfl, rfl, hq, at0 _ _, rfl, _, rfl, ?_⟩
  cases d with
  | get x r y c =>
    obtain ⟨r1, rfl, i1⟩ := int1 il
    obtain ⟨r2, rfl, i2⟩ := int1 i1
    obtain ⟨r3, rfl, i3⟩ := opt1 i2
    obtain ⟨r4, rfl, i4⟩ := int1 i3
    obtain ⟨r5, rfl, i5⟩ := int1 i4
    cases i5.nil_inv
    cases hs
    exact iteT ⟨_, rfl, _, rfl, _, rfl, a, _, rfl, hq, fun t H' s' q' => q H' t s' q'⟩
  | put r y c z =>
    obtain ⟨r2, rfl, i2⟩ := int1 il
    obtain ⟨r3, rfl, i3⟩ := opt1 i2
    obtain ⟨r4, rfl, i4⟩ := int1 i3
    obtain ⟨r5, rfl, i5⟩ := int1 i4
    obtain ⟨r6, rfl, i6⟩ := int1 i5
    cases i6.nil_inv
    cases hs
    exact iteF ⟨_, rfl, _, rfl, _, rfl, a, _, rfl, hq, fun t H' s' q' => q H' t s' q'⟩
  | set x y c => cases hs
  | sum x z y => cases hs
  | len x r => cases hs
  | take x => cases hs
  | tell x => cases hs
theorem slot_ok {d : Deed} {s : Nat × Option Nat × Int} {nm rw : Nat} (hs : d.slot = some s) (hk : d.Ok nm rw) : s.1 < rw ∧ OptOk nm s.2.1 := by
  cases d with
  | get x r y c => cases hs; exact ⟨hk.2.1, hk.2.2⟩
  | put r y c z => cases hs; exact ⟨hk.1, hk.2.1⟩
  | set x y c => cases hs
  | sum x z y => cases hs
  | len x r => cases hs
  | take x => cases hs
  | tell x => cases hs
theorem ints_set {l : List Int} {i : Nat} {v : Int} : (intsV l).set i (.int v) = intsV (l.set i v) := by unfold intsV; rw [List.map_set]
theorem ixN_nat {n i : Nat} (h : i < n) : ixN n (i : Int) = some i := by
  unfold ixN
  rw [if_pos (by omega), if_pos (by omega)]
  rfl
end
end K43
set_option Elab.async false
set_option linter.all false
set_option maxRecDepth 100000
set_option maxHeartbeats 4000000
namespace K43
open PySem PySem.Spec PyProof.Rows L2
noncomputable def zeroD : D := .tup [.str "zero"]
noncomputable def nameD (x : Nat) (v : Int) : D := .tup [.str "name", .int (x : Int), .int v]
noncomputable def lenD (r : Nat) : D := .tup [.str "len", .int (r : Int)]
noncomputable def ndV (now : List Int) : Option Nat → D
  | none => zeroD
  | some x => nameD x (now[x]?.getD 0)
structure Ft where
  a : D
  b : D
  c : Int
noncomputable def Ft.D (f : Ft) : D := .tup [f.a, f.b, .int f.c]
noncomputable def Ft.turn (f : Ft) : Ft := ⟨f.b, f.a, -1 - f.c⟩
noncomputable def Nd.now (now : List Int) : Nd → L2.D
  | .zero => zeroD
  | .name x => nameD x (now[x]?.getD 0)
  | .len r => lenD r
noncomputable def Bd.now (now : List Int) (q : Bd) : Ft := ⟨q.a.now now, q.b.now now, q.c⟩
noncomputable def alikeF (a b : D) (c : Int) : List Ft := [⟨a, b, c⟩, ⟨b, a, -c⟩]
noncomputable def branch (k : Nat) (fs : List Ft) : List Ft := if k = 0 then fs else match fs with
  | [f] => [f.turn]
  | _ => []
theorem branch_one {k : Nat} {f : Ft} (h : k ≠ 0) : branch k [f] = [f.turn] := by unfold branch; rw [if_neg h]
theorem branch_nil {k : Nat} {fs : List Ft} (h : k ≠ 0) (hl : fs.length ≠ 1) : branch k fs = [] := by
  unfold branch; rw [if_neg h]
  match fs, hl with
  | [], _ => rfl
  | [_], h => exact absurd rfl h
  | _ :: _ :: _, _ => rfl
noncomputable def Ln.given : Ln → Option Nat
  | .deed (.set x _ _) _ => some x
  | .deed (.sum x _ _) _ => some x
  | .deed (.len x _) _ => some x
  | .deed (.take x) _ => some x
  | .deed (.get x _ _ _) _ => some x
  | _ => none
theorem gives_given (l : Ln) : l.gives = optV l.given := by
  cases l with
  | deed d k => cases d <;> rfl
  | _ => rfl
noncomputable def bump (now : List Int) : Option Nat → List Int
  | none => now
  | some x => now.set x (now[x]?.getD 0 + 1)
noncomputable def Ln.behind (l : Ln) (now : List Int) : List Int := bump now l.given
theorem bump_len (now : List Int) (y : Option Nat) : (bump now y).length = now.length := by
  cases y with
  | none => rfl
  | some x => exact List.length_set
noncomputable def newD (now : List Int) (x : Nat) : D := nameD x (now[x]?.getD 0 + 1)
noncomputable def lowF (now : List Int) (s : Nat × Option Nat × Int) : Ft := ⟨zeroD, ndV now s.2.1, s.2.2⟩
noncomputable def highF (now : List Int) (s : Nat × Option Nat × Int) : Ft := ⟨ndV now s.2.1, lenD s.1, -1 - s.2.2⟩
noncomputable def Ln.facts (k : Nat) (now : List Int) : Ln → List Ft
  | .deed (.set x y c) _ => alikeF (newD now x) (ndV now y) c
  | .deed (.len x r) _ => alikeF (newD now x) (lenD r) 0
  | .deed (.get _ r y c) _ => [lowF now (r, y, c), highF now (r, y, c)]
  | .deed (.put r y c _) _ => [lowF now (r, y, c), highF now (r, y, c)]
  | .deed _ _ => []
  | .test y w c _ _ => branch k [⟨ndV now y, ndV now w, c⟩]
  | .ask bs _ _ => branch k (bs.map (Bd.now now))
  | .stop => []
noncomputable def Ln.nways : Ln → Nat
  | .deed _ _ => 1
  | .test .. => 2
  | .ask .. => 2
  | .stop => 0
noncomputable def OkN (ls : List Ln) (nm rw nl : Nat) : Prop := ∀ l ∈ ls, l.Ok nm rw nl
noncomputable def stepD (s : Nat × Nat) : D := .tup [.int (s.1 : Int), .int (s.2 : Int)]
noncomputable def StepOk (ls : List Ln) (s : Nat × Nat) : Prop := ∃ l, ls[s.1]? = some l ∧ s.2 < l.nways
noncomputable def rowF (rw : Nat) : List Ft := (List.range rw).map fun r => ⟨zeroD, lenD r, 0⟩
noncomputable def goS (ls : List Ln) (st : List Ft × List Int) (s : Nat × Nat) : List Ft × List Int := match ls[s.1]? with
  | some l => (st.1 ++ l.facts s.2 st.2, l.behind st.2)
  | none => st
noncomputable def along (ls : List Ln) (nm rw : Nat) (st : List (Nat × Nat)) (j : Nat) : List Ft × List Int := (st.take j).foldl (goS ls) (rowF rw, List.replicate nm 0)
theorem along_next {ls : List Ln} {nm rw j : Nat} {st : List (Nat × Nat)} {s : Nat × Nat} (h : st[j]? = some s) : along ls nm rw st (j + 1) = goS ls (along ls nm rw st j) s := by
  unfold along
  rw [List.take_succ, List.foldl_append, h]
  rfl
theorem goS_some {ls : List Ln} {st : List Ft × List Int} {s : Nat × Nat} {l : Ln} (h : ls[s.1]? = some l) : goS ls st s = (st.1 ++ l.facts s.2 st.2, l.behind st.2) := by unfold goS; rw [h]
theorem facts_len {k : Nat} {now : List Int} {nm rw nl : Nat} {l : Ln} (h : l.Ok nm rw nl) : (l.facts k now).length ≤ 100 := by
  have br : ∀ fs : List Ft, fs.length ≤ 100 → (branch k fs).length ≤ 100 := fun fs hf => by
    unfold branch
    split
    · exact hf
    · split
      · exact Nat.le_of_ble_eq_true rfl
      · exact Nat.zero_le _
  cases l with
  | deed d m => cases d <;> exact Nat.le_of_ble_eq_true rfl
  | test y w c k2 m => exact br _ (Nat.le_of_ble_eq_true rfl)
  | ask bs k2 m => exact br _ (by rw [List.length_map]; exact h.2.1.2)
  | stop => exact Nat.zero_le _
theorem given_ok {nm rw nl : Nat} {l : Ln} (h : l.Ok nm rw nl) : OptOk nm l.given := by
  cases l with
  | deed d k =>
    cases d with
    | set x y c => exact h.1.1
    | sum x z y => exact h.1.1
    | len x r => exact h.1.1
    | take x => exact h.1
    | tell x => trivial
    | get x r y c => exact h.1.1
    | put r y c z => trivial
  | test y w c k m => trivial
  | ask bs k m => trivial
  | stop => trivial
structure Far (nm rw j : Nat) (st : List Ft × List Int) : Prop where
  f : st.1.length ≤ rw + 100 * j
  n : st.2.length = nm
theorem along_far {ls : List Ln} {nm rw nl : Nat} (ok : OkN ls nm rw nl) {st : List (Nat × Nat)} (hs : ∀ s ∈ st, StepOk ls s) : ∀ {j : Nat}, j ≤ st.length → Far nm rw j (along ls nm rw st j)
  | 0, _ => ⟨by show (rowF rw).length ≤ _; unfold rowF; rw [List.length_map, List.length_range]; omega, List.length_replicate⟩
  | j + 1, h => by
    have ih := along_far ok hs (j := j) (by omega)
    have ej := List.getElem?_eq_getElem (show j < st.length by omega)
    obtain ⟨l, el, _⟩ := hs _ (List.mem_of_getElem? ej)
    rw [along_next ej, goS_some el]
    refine ⟨?_, (bump_len _ _).trans ih.n⟩
    have h1 := ih.f
    have h2 := facts_len (k := (st[j]).2) (now := (along ls nm rw st j).2) (ok l (List.mem_of_getElem? el))
    show List.length (_ ++ _) ≤ _
    rw [List.length_append]; omega
structure TabZ (K : PySem.W.Frag) (mg : Str → Option Value) (a_ZERO : Addr) : Prop where
  mz : mg "ZERO" = some (.ref a_ZERO)
  z : ∀ H : Hp, SqT K H a_ZERO [.str "zero"]
theorem TabZ.is {K : PySem.W.Frag} {mg : Str → Option Value} {a : Addr} (Z : TabZ K mg a) (H : Hp) : Is K H zeroD (.ref a) := is_tup (Z.z H) (isl_cons is_str isl_nil)
noncomputable abbrev s_value_node : Stmt := top 2
noncomputable abbrev s_node_now : Stmt := top 3
noncomputable abbrev s_bound_now : Stmt := top 4
noncomputable abbrev s_against : Stmt := top 5
noncomputable abbrev s_facts_of : Stmt := top 14
noncomputable abbrev s_versions : Stmt := top 15
noncomputable abbrev s_at_end : Stmt := top 16
noncomputable abbrev s_first_versions : Stmt := top 17
noncomputable abbrev s_versions_behind : Stmt := top 18
noncomputable abbrev s_step_facts : Stmt := top 19
noncomputable abbrev s_given_node : Stmt := top 20
noncomputable abbrev s_alike : Stmt := top 21
noncomputable abbrev s_low_bound : Stmt := top 22
noncomputable abbrev s_high_bound : Stmt := top 23
noncomputable abbrev s_branch_facts : Stmt := top 24
theorem sc_value_node : FnScope ["value", "now"] ["value", "now"] (defScope s_value_node) := ⟨rfl, rfl, rfl, by decide +kernel, rfl, by decide +kernel, by decide +kernel⟩
theorem sc_node_now : FnScope ["node", "now"] ["node", "now"] (defScope s_node_now) := ⟨rfl, rfl, rfl, by decide +kernel, rfl, by decide +kernel, by decide +kernel⟩
theorem sc_bound_now : FnScope ["bound", "now"] ["bound", "now"] (defScope s_bound_now) := ⟨rfl, rfl, rfl, by decide +kernel, rfl, by decide +kernel, by decide +kernel⟩
theorem sc_against : FnScope ["bound"] ["bound"] (defScope s_against) := ⟨rfl, rfl, rfl, by decide +kernel, rfl, by decide +kernel, by decide +kernel⟩
theorem sc_first_versions : FnScope ["program"] ["program"] (defScope s_first_versions) := ⟨rfl, rfl, rfl, by decide +kernel, rfl, by decide +kernel, by decide +kernel⟩
theorem sc_versions_behind : FnScope ["line", "now", "given"] ["line", "now"] (defScope s_versions_behind) := ⟨rfl, rfl, rfl, by decide +kernel, rfl, by decide +kernel, by decide +kernel⟩
theorem sc_given_node : FnScope ["line", "now"] ["line", "now"] (defScope s_given_node) := ⟨rfl, rfl, rfl, by decide +kernel, rfl, by decide +kernel, by decide +kernel⟩
theorem sc_alike : FnScope ["a", "b", "c"] ["a", "b", "c"] (defScope s_alike) := ⟨rfl, rfl, rfl, by decide +kernel, rfl, by decide +kernel, by decide +kernel⟩
theorem sc_low_bound : FnScope ["line", "now", "place"] ["line", "now"] (defScope s_low_bound) := ⟨rfl, rfl, rfl, by decide +kernel, rfl, by decide +kernel, by decide +kernel⟩
theorem sc_high_bound : FnScope ["line", "now", "place"] ["line", "now"] (defScope s_high_bound) := ⟨rfl, rfl, rfl, by decide +kernel, rfl, by decide +kernel, by decide +kernel⟩
theorem sc_branch_facts : FnScope ["bounds", "which"] ["bounds", "which"] (defScope s_branch_facts) := ⟨rfl, rfl, rfl, by decide +kernel, rfl, by decide +kernel, by decide +kernel⟩
noncomputable def NewL (K : PySem.W.Frag) (H : Hp) (Q : VK) (ds : List D) : Prop := ∀ H' p xs, Same H H' → H' p = some (.lst xs) → H p = none → IsL K H' ds xs → Q (.ref p) H'
noncomputable def spValueNode (K : PySem.W.Frag) : Sp := fun vs H Q _ => ExQ Q (fun (y : Option Nat) Q => ExQ Q (fun (an : Addr) Q => ExQ Q (fun (now : List Int) Q => vs = [optV y, .ref an] ∧ SqL K H an (intsV now) ∧ OptOk now.length y ∧ ∀ v H', Same H H' → Is K H' (ndV now y) v → Q v H')))
noncomputable def spNodeNow (K : PySem.W.Frag) : Sp := fun vs H Q _ => ExQ Q (fun (q : Nd) Q => ExQ Q (fun (v : V) Q => ExQ Q (fun (an : Addr) Q => ExQ Q (fun (now : List Int) Q => ExQ Q (fun (rw : Nat) Q => vs = [v, .ref an] ∧ SqL K H an (intsV now) ∧ Is K H q.D v ∧ q.Ok now.length rw ∧ ∀ v H', Same H H' → Is K H' (q.now now) v → Q v H')))))
noncomputable def spBoundNow (K : PySem.W.Frag) : Sp := fun vs H Q _ => ExQ Q (fun (q : Bd) Q => ExQ Q (fun (v : V) Q => ExQ Q (fun (an : Addr) Q => ExQ Q (fun (now : List Int) Q => ExQ Q (fun (rw : Nat) Q => vs = [v, .ref an] ∧ SqL K H an (intsV now) ∧ Is K H q.D v ∧ q.Ok now.length rw ∧ ∀ v H', Same H H' → Is K H' (q.now now).D v → Q v H')))))
noncomputable def spAgainst (K : PySem.W.Frag) : Sp := fun vs H Q _ => ExQ Q (fun (f : Ft) Q => ExQ Q (fun (v : V) Q => vs = [v] ∧ Is K H f.D v ∧ ∀ v H', Same H H' → Is K H' f.turn.D v → Q v H'))
noncomputable def spFirst (K : PySem.W.Frag) : Sp := fun vs H Q _ => ExQ Q (fun (t : Addr) Q => ExQ Q (fun (nm : Nat) Q => ExQ Q (fun (xr : List V) Q => vs = [.ref t] ∧ SqT K H t (.int (nm : Int) :: xr) ∧ nm ≤ 100 ∧ ∀ H' p, Same H H' → H' p = some (.lst (intsV (List.replicate nm 0))) → H p = none → Q (.ref p) H')))
noncomputable def spBehind (K : PySem.W.Frag) : Sp := fun vs H Q _ => ExQ Q (fun (l : Ln) Q => ExQ Q (fun (v : V) Q => ExQ Q (fun (an : Addr) Q => ExQ Q (fun (now : List Int) Q => vs = [v, .ref an] ∧ SqL K H an (intsV now) ∧ Is K H l.D v ∧ OptOk now.length l.given ∧ now.length ≤ 100 ∧ ∀ H' p, Same H H' → H' p = some (.lst (intsV (l.behind now))) → H p = none → Q (.ref p) H'))))
noncomputable def spGivenNode (K : PySem.W.Frag) : Sp := fun vs H Q _ => ExQ Q (fun (l : Ln) Q => ExQ Q (fun (v : V) Q => ExQ Q (fun (an : Addr) Q => ExQ Q (fun (now : List Int) Q => ExQ Q (fun (x : Nat) Q => vs = [v, .ref an] ∧ SqL K H an (intsV now) ∧ Is K H l.D v ∧ l.given = some x ∧ x < now.length ∧ now.length ≤ 100 ∧ ∀ v H', Same H H' → Is K H' (newD now x) v → Q v H')))))
noncomputable def spAlike (K : PySem.W.Frag) : Sp := fun vs H Q _ => ExQ Q (fun (a : D) Q => ExQ Q (fun (b : D) Q => ExQ Q (fun (va : V) Q => ExQ Q (fun (vb : V) Q => ExQ Q (fun (c : Int) Q => vs = [va, vb, .int c] ∧ Is K H a va ∧ Is K H b vb ∧ NewL K H Q ((alikeF a b c).map Ft.D))))))
noncomputable def spLow (K : PySem.W.Frag) : Sp := fun vs H Q _ => ExQ Q (fun (d : Deed) Q => ExQ Q (fun (k : Nat) Q => ExQ Q (fun (v : V) Q => ExQ Q (fun (s : Nat × Option Nat × Int) Q => ExQ Q (fun (an : Addr) Q => ExQ Q (fun (now : List Int) Q => vs = [v, .ref an] ∧ SqL K H an (intsV now) ∧ Is K H (d.line k) v ∧ d.slot = some s ∧ OptOk now.length s.2.1 ∧ ∀ v H', Same H H' → Is K H' (lowF now s).D v → Q v H'))))))
noncomputable def spHigh (K : PySem.W.Frag) : Sp := fun vs H Q _ => ExQ Q (fun (d : Deed) Q => ExQ Q (fun (k : Nat) Q => ExQ Q (fun (v : V) Q => ExQ Q (fun (s : Nat × Option Nat × Int) Q => ExQ Q (fun (an : Addr) Q => ExQ Q (fun (now : List Int) Q => vs = [v, .ref an] ∧ SqL K H an (intsV now) ∧ Is K H (d.line k) v ∧ d.slot = some s ∧ OptOk now.length s.2.1 ∧ ∀ v H', Same H H' → Is K H' (highF now s).D v → Q v H'))))))
noncomputable def spBranch (K : PySem.W.Frag) : Sp := fun vs H Q _ => ExQ Q (fun (p : Addr) Q => ExQ Q (fun (xs : List V) Q => ExQ Q (fun (fs : List Ft) Q => ExQ Q (fun (k : Nat) Q => vs = [.ref p, .int (k : Int)] ∧ H p = some (.lst xs) ∧ IsL K H (fs.map Ft.D) xs ∧ ∀ H' p' xs', Same H H' → H' p' = some (.lst xs') → (p' = p ∨ H p' = none) → IsL K H' ((branch k fs).map Ft.D) xs' → Q (.ref p') H'))))
section
variable {P : Program} {w : World} {K : PySem.W.Frag} {mg : Str → Option Value} {base : Heap} {f : Addr} {fd : FuncData} {n : Nat} {a_ZERO : Addr}
theorem len_ints (l : List Int) : (intsV l).length = l.length := by unfold intsV; rw [List.length_map]
theorem is_name {H : Hp} {t : Addr} {x : Nat} {v : Int} (e : H t = some (.tup [.str "name", .int (x : Int), .int v])) : Is K H (nameD x v) (.ref t) := is_tup (SqT.of e) (isl_cons is_str (isl_cons is_int (isl_cons is_int isl_nil)))
theorem is_len {H : Hp} {t : Addr} {r : Nat} (e : H t = some (.tup [.str "len", .int (r : Int)])) : Is K H (lenD r) (.ref t) := is_tup (SqT.of e) (isl_cons is_str (isl_cons is_int isl_nil))
theorem is_ft {H : Hp} {t : Addr} {a b : D} {va vb : V} {c : Int} (e : H t = some (.tup [va, vb, .int c])) (ha : Is K H a va) (hb : Is K H b vb) : Is K H (Ft.D ⟨a, b, c⟩) (.ref t) := is_tup (SqT.of e) (isl_cons ha (isl_cons hb (isl_cons is_int isl_nil)))
theorem rep_flat (v : V) : ∀ m, (List.replicate m [v]).flatten = List.replicate m v
  | 0 => rfl
  | m + 1 => by rw [List.replicate_succ, List.flatten_cons, rep_flat v m, List.replicate_succ]; rfl
theorem rep_ints (nm : Nat) : (List.replicate nm [V.int 0]).flatten = intsV (List.replicate nm 0) := by
  rw [rep_flat]; unfold intsV; rw [List.map_replicate]
theorem ok_value_node (F : Fun K "value_node" "value_node" s_value_node f fd) (Z : TabZ K mg a_ZERO) : FnOk P w K mg base CX0 (n + 1) f fd ["value", "now"] (spValueNode K) := by
  refine F.ok sc_value_node (fun vs H Q E h => ?_) (fun cdv A outer s H vs Q E hr h => ?_)
  · obtain ⟨y, an, now, rfl, _⟩ := h
    rfl
  obtain ⟨y, an, now, rfl, hn, hy, q⟩ := h
  have sc := sc_value_node
  have m_ZERO := Z.mz
  refine ⟨_, (pss_one (ps_ret (pe_ifExp (pt_cmpR op_isN (pv 0) pe_non (nomark _)) (pe_glob rfl m_ZERO (v := .ref a_ZERO) rfl) (pe_tup (pa_cons pe_str (pa_cons (pv 0) (pa_cons (pe_ix ix_list (pv 1) (pv 0) (fun _ _ => rfl)) pa_nil))))))), ?_⟩
  cases y with
  | none => exact ⟨_, rfl, rfl, _, rfl, iteT (q _ _ (Same.refl _) (Z.is H))⟩
  | some x =>
    refine ⟨_, rfl, rfl, _, rfl, iteF ⟨_, rfl, _, rfl, _, rfl, an, _, _, _, rfl, rfl, hn, atI_nat (at_ints hy), Nat.le_of_ble_eq_true rfl, fun t nt => ?_⟩⟩
    exact q _ _ (same_new nt _) (is_name upd_same)
theorem ok_node_now (F : Fun K "node_now" "node_now" s_node_now f fd) (m_len : mg "len" = none) (c_value_node : Cl P w K mg base "value_node" n ["value", "now"] (spValueNode K)) : FnOk P w K mg base CX0 (n + 1) f fd ["node", "now"] (spNodeNow K) := by
  refine F.ok sc_node_now (fun vs H Q E h => ?_) (fun cdv A outer s H vs Q E hr h => ?_)
  · obtain ⟨q, v, an, now, rw, rfl, _⟩ := h
    rfl
  obtain ⟨nd, v, an, now, rw, rfl, hn, hi, hk, q⟩ := h
  have sc := sc_node_now
  refine ⟨_, (@pss_cons _ _ _ _ _ (ps_if (PW.pt (pw_and (pt_cmpR op_eq (pe_ix ix_tup (pv 0) pe_int (fun _ _ => rfl)) pe_str (nomark _)) (pw_and1 (pt_cmpR op_lt (pe_ix ix_tup (pv 0) pe_int (fun _ _ => rfl)) (pe_callB call_len_seq rfl m_len PySem.boot_len (pa_cons (pv 1) pa_nil)) (nomark _))))) (pss_one (ps_ret (pe_cl c_value_node hr rfl (pa_cons (pe_ix ix_tup (pv 0) pe_int (fun _ _ => rfl)) (pa_cons (pv 1) pa_nil))))) pss_nil)
      (pss_one (ps_ret (pv 0)))), ?_⟩
  obtain ⟨a, vs, rfl, hq, il⟩ := nd_inv hi
  dsimp only [gName, tSeq, tIfS, tAnd, tNext]
  refine ⟨_, rfl, a, _, 0, _, rfl, rfl, hq, at0 _ _, rfl, _, rfl, ?_⟩
  cases nd with
  | zero => exact iteF (iteF ⟨_, rfl, q _ _ (Same.refl _) hi⟩)
  | len r => exact iteF (iteF ⟨_, rfl, q _ _ (Same.refl _) hi⟩)
  | name x =>
    obtain ⟨r, rfl, _⟩ := int1 il
    have hx : x < now.length := hk
    refine iteT ⟨_, rfl, a, _, 1, _, rfl, rfl, hq, at1 _ _ _, _, rfl, an, _, rfl, .inl hn, _, _, rfl, rfl, _, rfl, ite2 (fun c => ?_) (fun c => ?_)⟩
    · exact ⟨_, rfl, a, _, 1, _, rfl, rfl, hq, at1 _ _ _, _, rfl, some x, an, now, rfl, hn, hx, fun v H' s' h' => q v H' s' h'⟩
    · exact absurd (decide_eq_true (by rw [len_ints]; omega)) c
theorem ok_bound_now (F : Fun K "bound_now" "bound_now" s_bound_now f fd) (c_node_now : Cl P w K mg base "node_now" n ["node", "now"] (spNodeNow K)) : FnOk P w K mg base CX0 (n + 1) f fd ["bound", "now"] (spBoundNow K) := by
  refine F.ok sc_bound_now (fun vs H Q E h => ?_) (fun cdv A outer s H vs Q E hr h => ?_)
  · obtain ⟨q, v, an, now, rw, rfl, _⟩ := h
    rfl
  obtain ⟨b, v, an, now, rw, rfl, hn, hi, hk, q⟩ := h
  have sc := sc_bound_now
  refine ⟨_, (pss_one (ps_ret (pe_tup (pa_cons (pe_cl c_node_now hr rfl (pa_cons (pe_ix ix_tup (pv 0) pe_int (fun _ _ => rfl)) (pa_cons (pv 1) pa_nil))) (pa_cons (pe_cl c_node_now hr rfl (pa_cons (pe_ix ix_tup (pv 0) pe_int (fun _ _ => rfl)) (pa_cons (pv 1) pa_nil))) (pa_cons (pe_ix ix_tup (pv 0) pe_int (fun _ _ => rfl)) pa_nil)))))), ?_⟩
  obtain ⟨a, zs, rfl, hqa, ila⟩ := hi.tup_inv
  obtain ⟨va, r1, rfl, ia, il1⟩ := any1 ila
  obtain ⟨vb, r2, rfl, ib, il2⟩ := any1 il1
  obtain ⟨r3, rfl, il3⟩ := int1 il2
  refine ⟨_, rfl, a, _, 0, _, rfl, rfl, hqa, at0 _ _, _, rfl, b.a, va, an, now, rw, rfl, hn, ia, hk.1, fun v1 H1 s1 i1 => ?_⟩
  refine ⟨_, rfl, a, _, 1, _, rfl, rfl, s1.tups.sq hqa, at1 _ _ _, _, rfl, b.b, vb, an, now, rw, rfl, s1.seq hn, ib.mono s1.tups, hk.2, fun v2 H2 s2 i2 => ?_⟩
  refine ⟨_, rfl, a, _, 2, _, rfl, rfl, (s1.trans s2).tups.sq hqa, at2 _ _ _ _, Nat.le_of_ble_eq_true rfl, fun t nt => ?_⟩
  have u := same_new nt (.tup [v1, v2, .int b.c])
  exact q _ _ (s1.trans (s2.trans u)) (is_ft upd_same (i1.mono (s2.trans u).tups) (i2.mono u.tups))
theorem ok_against (F : Fun K "against" "against" s_against f fd) : FnOk P w K mg base CX0 (n + 1) f fd ["bound"] (spAgainst K) := by
  refine F.ok sc_against (fun vs H Q E h => ?_) (fun cdv A outer s H vs Q E hr h => ?_)
  · obtain ⟨f, v, rfl, _⟩ := h
    rfl
  obtain ⟨ft, v, rfl, hi, q⟩ := h
  have sc := sc_against
  refine ⟨_, (pss_one (ps_ret (pe_tup (pa_cons (pe_ix ix_tup (pv 0) pe_int (fun _ _ => rfl)) (pa_cons (pe_ix ix_tup (pv 0) pe_int (fun _ _ => rfl)) (pa_cons (pe_op op_sub (pe_un un_neg pe_int) (pe_ix ix_tup (pv 0) pe_int (fun _ _ => rfl))) pa_nil)))))), ?_⟩
  obtain ⟨a, zs, rfl, hqa, ila⟩ := hi.tup_inv
  obtain ⟨va, r1, rfl, ia, il1⟩ := any1 ila
  obtain ⟨vb, r2, rfl, ib, il2⟩ := any1 il1
  obtain ⟨r3, rfl, il3⟩ := int1 il2
  refine ⟨_, rfl, a, _, 1, _, rfl, rfl, hqa, at1 _ _ _, _, rfl, a, _, 0, _, rfl, rfl, hqa, at0 _ _, _, rfl, _, rfl, a, _, 2, _, rfl, rfl, hqa, at2 _ _ _ _, _, _, rfl, rfl, Nat.le_of_ble_eq_true rfl, fun t nt => ?_⟩
  have u := same_new nt (.tup [vb, va, .int (-1 - ft.c)])
  exact q _ _ u (is_ft upd_same (ib.mono u.tups) (ia.mono u.tups))
theorem ok_first_versions (F : Fun K "first_versions" "first_versions" s_first_versions f fd) : FnOk P w K mg base CX0 (n + 1) f fd ["program"] (spFirst K) := by
  refine F.ok sc_first_versions (fun vs H Q E h => ?_) (fun cdv A outer s H vs Q E hr h => ?_)
  · obtain ⟨t, nm, xr, rfl, _⟩ := h
    rfl
  obtain ⟨t, nm, xr, rfl, hq, hnm, q⟩ := h
  have sc := sc_first_versions
  refine ⟨_, (pss_one (ps_ret (pe_op op_rep (pe_lst (pa_cons pe_int pa_nil)) (pe_ix ix_tup (pv 0) pe_int (fun _ _ => rfl))))), ?_⟩
  refine ⟨Nat.le_of_ble_eq_true rfl, fun lz nlz => ?_⟩
  have s1 := same_new nlz (.lst [.int 0])
  refine ⟨_, rfl, t, _, 0, _, rfl, rfl, s1.tups.sq hq, at0 _ _, lz, _, [.int 0], rfl, rfl, upd_same, by omega, by omega, (by rw [sizeLine_eq, Int.toNat_natCast, List.length_singleton]; omega), fun an nan => ?_⟩
  rw [Int.toNat_natCast, rep_ints]
  exact q _ an (s1.trans (same_new nan _)) upd_same (none_of_same s1 nan)
theorem ok_versions_behind (F : Fun K "versions_behind" "versions_behind" s_versions_behind f fd) (m_enumerate : mg "enumerate" = none) (c_gives : Cl P w K mg base "gives" n ["line"] (spGives K)) : FnOk P w K mg base CX0 (n + 1) f fd ["line", "now"] (spBehind K) := by
  refine F.ok sc_versions_behind (fun vs H Q E h => ?_) (fun cdv A outer s H vs Q E hr h => ?_)
  · obtain ⟨l, v, an, now, rfl, _⟩ := h
    rfl
  obtain ⟨l, v, an, now, rfl, hn, hi, hg, h100, q⟩ := h
  have sc := sc_versions_behind
  refine ⟨_, (@pss_cons _ _ _ _ _ (ps_set (i := 2) sc.nd rfl (Or.inr rfl) (pe_cl c_gives hr rfl (pa_cons (pv 0) pa_nil)))
      (pss_one (ps_ret (pe_comp ["name", "version"] rfl (cmp_ok (N := ["line", "now", "given"]) (so := defScope s_versions_behind) rfl rfl (by decide +kernel)) (pi_enum rfl m_enumerate (pa_cons (pv 1) pa_nil)) (fun _ _ _ _ _ _ => (pg_tupK (K := K) (n := 2) rfl rfl (pgs_cons (pg_name (i := 0) (show List.Nodup (α := Str) ["name", "version", "line", "now", "given"] by decide +kernel) rfl (Or.inl rfl) (Or.inr rfl)) (pgs_cons (pg_name (i := 1) (show List.Nodup (α := Str) ["name", "version", "line", "now", "given"] by decide +kernel) rfl (Or.inl rfl) (Or.inr rfl)) pgs_nil)))) (fun _ _ _ _ _ _ => pifs_nil) (fun _ _ _ _ _ _ => (pe_ifExp (pt_cmpR op_eq (pv 0) (pv 4) (nomark _)) (pe_op op_add (pv 1) pe_int) (pv 1))))))), ?_⟩
  refine ⟨_, rfl, l, v, rfl, hi, ?_⟩
  rw [gives_given]
  refine ⟨_, rfl, an, rfl, ⟨_, hn⟩, fun p np => ?_⟩
  refine comp_enum (xs := intsV now) (fun i H' => Same H H' ∧ H' p = some (.lst (intsV ((l.behind now).take i)))) ⟨same_new np _, upd_same⟩ (fun i H' _ h => h.1.seq hn) (fun i y H' t ey h nt => ?_) (fun H' h => ?_)
  · have hil : i < now.length := by have := (List.getElem?_eq_some_iff.mp ey).1; rw [len_ints] at this; exact this
    rw [at_ints hil] at ey
    cases ey
    have u := same_new nt (.tup [.int (i : Int), .int (now[i]?.getD 0)])
    refine ⟨t, _, rfl, SqT.of upd_same, rfl, _, _, rfl, _, _, rfl, rfl, ⟨⟨[some (.int (i : Int)), some (.int (now[i]?.getD 0))], rfl, rfl⟩, tTrue_ite ?_⟩⟩
    have hbl : i < (l.behind now).length := by unfold Ln.behind; rw [bump_len]; exact hil
    have fin : ∀ z : Int, (l.behind now)[i]?.getD 0 = z → ∃ acc, upd H' t (.tup [.int (i : Int), .int (now[i]?.getD 0)]) p = some (.lst acc) ∧ acc.length < sizeLine ∧ Same H (upd (upd H' t (.tup [.int (i : Int), .int (now[i]?.getD 0)])) p (.lst (acc ++ [.int z]))) ∧ upd (upd H' t (.tup [.int (i : Int), .int (now[i]?.getD 0)])) p (.lst (acc ++ [.int z])) p = some (.lst (intsV ((l.behind now).take (i + 1)))) := fun z ez => by
      refine ⟨_, u _ _ h.2, small1000 (by rw [len_ints, List.length_take]; omega), Same.new (h.1.trans u) np, ?_⟩
      rw [upd_same, List.take_succ, List.getElem?_eq_getElem hbl]
      have e2 : (l.behind now)[i] = z := by rw [List.getElem?_eq_getElem hbl] at ez; exact ez
      rw [e2]
      unfold intsV
      rw [List.map_append]
      rfl
    cases hgv : l.given with
    | none =>
      refine ⟨_, rfl, _, rfl, rfl, _, rfl, iteF ⟨_, rfl, fin _ ?_⟩⟩
      unfold Ln.behind; rw [hgv]; rfl
    | some x =>
      refine ⟨_, rfl, _, rfl, rfl, _, rfl, ite2 (fun c => ?_) (fun c => ?_)⟩
      · have e : (i : Int) = (x : Int) := by have := of_decide_eq_true c; injection this
        have e' : i = x := by omega
        refine ⟨_, rfl, _, _, rfl, rfl, fin _ ?_⟩
        unfold Ln.behind; rw [hgv, e']
        show (now.set x _)[x]?.getD 0 = _
        rw [List.getElem?_set_self (by omega)]; rfl
      · have e' : ¬ x = i := fun z => c (decide_eq_true (by rw [z]; rfl))
        refine ⟨_, rfl, fin _ ?_⟩
        unfold Ln.behind; rw [hgv]
        show (now.set x _)[i]?.getD 0 = _
        rw [List.getElem?_set_ne e']
  · have e : (intsV now).length = (l.behind now).length := by rw [len_ints]; unfold Ln.behind; rw [bump_len]
    rw [e, List.take_length] at h
    exact q H' p h.1 h.2 np
theorem ok_given_node (F : Fun K "given_node" "given_node" s_given_node f fd) (c_gives : Cl P w K mg base "gives" n ["line"] (spGives K)) (c_value_node : Cl P w K mg base "value_node" n ["value", "now"] (spValueNode K)) (c_versions_behind : Cl P w K mg base "versions_behind" n ["line", "now"] (spBehind K)) :
    FnOk P w K mg base CX0 (n + 1) f fd ["line", "now"] (spGivenNode K) := by
  refine F.ok sc_given_node (fun vs H Q E h => ?_) (fun cdv A outer s H vs Q E hr h => ?_)
  · obtain ⟨l, v, an, now, x, rfl, _⟩ := h
    rfl
  obtain ⟨l, v, an, now, x, rfl, hn, hi, hg, hx, h100, q⟩ := h
  have sc := sc_given_node
  refine ⟨_, (pss_one (ps_ret (pe_cl c_value_node hr rfl (pa_cons (pe_cl c_gives hr rfl (pa_cons (pv 0) pa_nil)) (pa_cons (pe_cl c_versions_behind hr rfl (pa_cons (pv 0) (pa_cons (pv 1) pa_nil))) pa_nil))))), ?_⟩
  refine ⟨_, rfl, l, v, rfl, hi, ?_⟩
  refine ⟨_, rfl, _, rfl, l, v, an, now, rfl, hn, hi, by rw [hg]; exact hx, h100, fun H1 p s1 ep np => ?_⟩
  rw [gives_given, hg]
  refine ⟨some x, p, l.behind now, rfl, SqL.of ep, by unfold Ln.behind; rw [bump_len]; exact hx, fun v H' s' i' => q v H' (s1.trans s') ?_⟩
  have e : ndV (l.behind now) (some x) = newD now x := by
    unfold Ln.behind ndV newD; rw [hg]
    show nameD x ((now.set x _)[x]?.getD 0) = _
    rw [List.getElem?_set_self hx]; rfl
  rw [← e]; exact i'
theorem ok_alike (F : Fun K "alike" "alike" s_alike f fd) : FnOk P w K mg base CX0 (n + 1) f fd ["a", "b", "c"] (spAlike K) := by
  refine F.ok sc_alike (fun vs H Q E h => ?_) (fun cdv A outer s H vs Q E hr h => ?_)
  · obtain ⟨a, b, va, vb, c, rfl, _⟩ := h
    rfl
  obtain ⟨a, b, va, vb, c, rfl, ha, hb, q⟩ := h
  have sc := sc_alike
  refine ⟨_, (pss_one (ps_ret (pe_lst (pa_cons (pe_tup (pa_cons (pv 0) (pa_cons (pv 1) (pa_cons (pv 2) pa_nil)))) (pa_cons (pe_tup (pa_cons (pv 1) (pa_cons (pv 0) (pa_cons (pe_un un_neg (pv 2)) pa_nil)))) pa_nil))))), ?_⟩
  refine ⟨_, rfl, _, rfl, _, rfl, Nat.le_of_ble_eq_true rfl, fun t1 n1 => ?_⟩
  have u1 := same_new n1 (.tup [va, vb, .int c])
  refine ⟨_, rfl, _, rfl, _, rfl, _, rfl, Nat.le_of_ble_eq_true rfl, fun t2 n2 => ⟨Nat.le_of_ble_eq_true rfl, fun p np => ?_⟩⟩
  have u2 := same_new n2 (.tup [vb, va, .int (-c)])
  have u3 := same_new np (.lst [.ref t1, .ref t2])
  have u123 := u1.trans (u2.trans u3)
  refine q _ p _ u123 upd_same (none_of_same (u1.trans u2) np) (isl_cons ?_ (isl_cons ?_ isl_nil))
  · exact is_ft ((u2.trans u3) _ _ upd_same) (ha.mono u123.tups) (hb.mono u123.tups)
  · exact is_ft (u3 _ _ upd_same) (hb.mono u123.tups) (ha.mono u123.tups)
theorem ok_low_bound (F : Fun K "low_bound" "low_bound" s_low_bound f fd) (Z : TabZ K mg a_ZERO) (c_place_of : Cl P w K mg base "place_of" n ["line"] (spPlaceOf K)) (c_value_node : Cl P w K mg base "value_node" n ["value", "now"] (spValueNode K)) : FnOk P w K mg base CX0 (n + 1) f fd ["line", "now"] (spLow K) := by
  refine F.ok sc_low_bound (fun vs H Q E h => ?_) (fun cdv A outer s H vs Q E hr h => ?_)
  · obtain ⟨d, k, v, sl, an, now, rfl, _⟩ := h
    rfl
  obtain ⟨d, k, v, sl, an, now, rfl, hn, hi, hs, hy, q⟩ := h
  have sc := sc_low_bound
  have m_ZERO := Z.mz
  refine ⟨_, (@pss_cons _ _ _ _ _ (ps_set (i := 2) sc.nd rfl (Or.inl rfl) (pe_cl c_place_of hr rfl (pa_cons (pv 0) pa_nil)))
      (pss_one (ps_ret (pe_tup (pa_cons (pe_glob rfl m_ZERO (v := .ref a_ZERO) rfl) (pa_cons (pe_cl c_value_node hr rfl (pa_cons (pe_ix ix_tup (pv 2) pe_int (fun _ _ => rfl)) (pa_cons (pv 1) pa_nil))) (pa_cons (pe_ix ix_tup (pv 2) pe_int (fun _ _ => rfl)) pa_nil))))))), ?_⟩
  refine ⟨_, rfl, d, k, v, sl, rfl, hi, hs, fun H1 t s1 et => ?_⟩
  refine ⟨_, rfl, t, _, 1, _, rfl, rfl, et, at1 _ _ _, _, rfl, sl.2.1, an, now, rfl, s1.seq hn, hy, fun v2 H2 s2 i2 => ?_⟩
  refine ⟨_, rfl, t, _, 2, _, rfl, rfl, s2.tups.sq et, at2 _ _ _ _, Nat.le_of_ble_eq_true rfl, fun t3 n3 => ?_⟩
  have u := same_new n3 (.tup [.ref a_ZERO, v2, .int sl.2.2])
  exact q _ _ (s1.trans (s2.trans u)) (is_ft upd_same (Z.is _) (i2.mono u.tups))
theorem ok_high_bound (F : Fun K "high_bound" "high_bound" s_high_bound f fd) (c_place_of : Cl P w K mg base "place_of" n ["line"] (spPlaceOf K)) (c_value_node : Cl P w K mg base "value_node" n ["value", "now"] (spValueNode K)) : FnOk P w K mg base CX0 (n + 1) f fd ["line", "now"] (spHigh K) := by
  refine F.ok sc_high_bound (fun vs H Q E h => ?_) (fun cdv A outer s H vs Q E hr h => ?_)
  · obtain ⟨d, k, v, sl, an, now, rfl, _⟩ := h
    rfl
  obtain ⟨d, k, v, sl, an, now, rfl, hn, hi, hs, hy, q⟩ := h
  have sc := sc_high_bound
  refine ⟨_, (@pss_cons _ _ _ _ _ (ps_set (i := 2) sc.nd rfl (Or.inl rfl) (pe_cl c_place_of hr rfl (pa_cons (pv 0) pa_nil)))
      (pss_one (ps_ret (pe_tup (pa_cons (pe_cl c_value_node hr rfl (pa_cons (pe_ix ix_tup (pv 2) pe_int (fun _ _ => rfl)) (pa_cons (pv 1) pa_nil))) (pa_cons (pe_tup (pa_cons pe_str (pa_cons (pe_ix ix_tup (pv 2) pe_int (fun _ _ => rfl)) pa_nil))) (pa_cons (pe_op op_sub (pe_un un_neg pe_int) (pe_ix ix_tup (pv 2) pe_int (fun _ _ => rfl))) pa_nil))))))), ?_⟩
  refine ⟨_, rfl, d, k, v, sl, rfl, hi, hs, fun H1 t s1 et => ?_⟩
  refine ⟨_, rfl, t, _, 1, _, rfl, rfl, et, at1 _ _ _, _, rfl, sl.2.1, an, now, rfl, s1.seq hn, hy, fun v2 H2 s2 i2 => ?_⟩
  refine ⟨_, rfl, t, _, 0, _, rfl, rfl, s2.tups.sq et, at0 _ _, Nat.le_of_ble_eq_true rfl, fun t3 n3 => ?_⟩
  have u := same_new n3 (.tup [.str "len", .int (sl.1 : Int)])
  refine ⟨_, rfl, _, rfl, t, _, 2, _, rfl, rfl, (s2.trans u).tups.sq et, at2 _ _ _ _, _, _, rfl, rfl, Nat.le_of_ble_eq_true rfl, fun t4 n4 => ?_⟩
  have u2 := same_new n4 (.tup [v2, .ref t3, .int (-1 - sl.2.2)])
  exact q _ _ (s1.trans (s2.trans (u.trans u2))) (is_ft upd_same (i2.mono (u.trans u2).tups) (is_len (u2 _ _ upd_same)))
theorem ok_branch_facts (F : Fun K "branch_facts" "branch_facts" s_branch_facts f fd) (m_len : mg "len" = none) (c_against : Cl P w K mg base "against" n ["bound"] (spAgainst K)) : FnOk P w K mg base CX0 (n + 1) f fd ["bounds", "which"] (spBranch K) := by
  refine F.ok sc_branch_facts (fun vs H Q E h => ?_) (fun cdv A outer s H vs Q E hr h => ?_)
  · obtain ⟨p, xs, fs, k, rfl, _⟩ := h
    rfl
  obtain ⟨p, xs, fs, k, rfl, hp, il, q⟩ := h
  have sc := sc_branch_facts
  refine ⟨_, (@pss_cons _ _ _ _ _ (ps_if (pt_cmpR op_eq (pv 1) pe_int (nomark _)) (pss_one (ps_ret (pv 0))) pss_nil)
      (pss_one (ps_ret (pe_ifExp (pt_cmpR op_eq (pe_callB call_len_seq rfl m_len PySem.boot_len (pa_cons (pv 0) pa_nil)) pe_int (nomark _)) (pe_lst (pa_cons (pe_cl c_against hr rfl (pa_cons (pe_ix ix_list (pv 0) pe_int (fun _ _ => rfl)) pa_nil)) pa_nil)) (pe_lst pa_nil))))), ?_⟩
  have ll : fs.length = xs.length := by have := il.length; rw [List.length_map] at this; exact this
  refine ⟨_, rfl, rfl, _, rfl, ite2 (fun c => ?_) (fun c => ?_)⟩
  · have e : (k : Int) = 0 := by have := of_decide_eq_true c; injection this
    have e' : k = 0 := by omega
    refine ⟨_, rfl, q H p xs (Same.refl H) hp (.inl rfl) ?_⟩
    unfold branch; rw [if_pos e']; exact il
  have hk : k ≠ 0 := fun z => c (decide_eq_true (by rw [z]; rfl))
  refine ⟨_, rfl, p, _, rfl, .inl (SqL.of hp), rfl, _, rfl, ite2 (fun c1 => ?_) (fun c1 => ?_)⟩
  · have e : (xs.length : Int) = 1 := by have := of_decide_eq_true c1; injection this
    have hx : xs.length = 1 := by omega
    obtain ⟨ft, rfl⟩ := List.length_eq_one_iff.mp (ll.trans hx)
    obtain ⟨v, r, rfl, i0, i1⟩ := il.cons_inv
    cases i1.nil_inv
    refine ⟨_, rfl, p, _, 0, _, rfl, rfl, SqL.of hp, at0 _ _, ft, v, rfl, i0, fun v1 H1 s1 i1 => ⟨Nat.le_of_ble_eq_true rfl, fun l nl => ?_⟩⟩
    have u := same_new nl (.lst [v1])
    refine q _ l _ (s1.trans u) upd_same (.inr (none_of_same s1 nl)) ?_
    rw [branch_one hk]
    exact isl_cons (i1.mono u.tups) isl_nil
  · refine ⟨Nat.le_of_ble_eq_true rfl, fun l nl => q _ l [] (same_new nl _) upd_same (.inr nl) ?_⟩
    have hx : fs.length ≠ 1 := fun z => c1 (decide_eq_true (by rw [← ll, z]; rfl))
    rw [branch_nil hk hx]; exact isl_nil
end
end K43
set_option Elab.async false
set_option linter.all false
set_option maxRecDepth 100000
set_option maxHeartbeats 4000000
namespace K43
open PySem PySem.Spec PyProof.Rows L2
theorem sc_step_facts : FnScope ["line", "which", "now"] ["line", "which", "now"] (defScope s_step_facts) := ⟨rfl, rfl, rfl, by decide +kernel, rfl, by decide +kernel, by decide +kernel⟩
theorem sc_facts_of : FnScope ["program", "steps", "facts", "now", "at", "which", "line"] ["program", "steps"] (defScope s_facts_of) := ⟨rfl, rfl, rfl, by decide +kernel, rfl, by decide +kernel, by decide +kernel⟩
theorem sc_versions : FnScope ["program", "steps", "now", "at", "which"] ["program", "steps"] (defScope s_versions) := ⟨rfl, rfl, rfl, by decide +kernel, rfl, by decide +kernel, by decide +kernel⟩
theorem sc_at_end : FnScope ["program", "steps", "bound"] ["program", "steps", "bound"] (defScope s_at_end) := ⟨rfl, rfl, rfl, by decide +kernel, rfl, by decide +kernel, by decide +kernel⟩
noncomputable def spStepFacts (K : PySem.W.Frag) : Sp := fun vs H Q _ => ExQ Q (fun (l : Ln) Q => ExQ Q (fun (v : V) Q => ExQ Q (fun (k : Nat) Q => ExQ Q (fun (an : Addr) Q => ExQ Q (fun (now : List Int) Q => ExQ Q (fun (rw : Nat) Q => ExQ Q (fun (nl : Nat) Q => vs = [v, .int (k : Int), .ref an] ∧ SqL K H an (intsV now) ∧ Is K H l.D v ∧ l.Ok now.length rw nl ∧ k < l.nways ∧ now.length ≤ 100 ∧ NewL K H Q ((l.facts k now).map Ft.D))))))))
structure Walked (K : PySem.W.Frag) (H : Hp) (t as_ : Addr) (nm rw : Nat) (ls : List Ln) (st : List (Nat × Nat)) : Prop where
  prog : ∃ al xs, SqT K H t [.int (nm : Int), .int (rw : Int), .ref al] ∧ SqL K H al xs ∧ IsL K H (ls.map Ln.D) xs
  steps : ∃ ys, SqL K H as_ ys ∧ IsL K H (st.map stepD) ys
  ok : OkN ls nm rw ls.length
  sok : ∀ s ∈ st, StepOk ls s
  nm : nm ≤ 100
  rw : rw ≤ 100
  len : st.length ≤ 100
theorem Walked.same {K : PySem.W.Frag} {H H' : Hp} {t as_ : Addr} {nm rw : Nat} {ls : List Ln} {st : List (Nat × Nat)} (h : Walked K H t as_ nm rw ls st) (s : Same H H') : Walked K H' t as_ nm rw ls st := by
  obtain ⟨⟨al, xs, h1, h2, h3⟩, ⟨ys, h4, h5⟩, h6, h7, h8, h9, h10⟩ := h
  exact ⟨⟨al, xs, s.tups.sq h1, s.seq h2, h3.mono s.tups⟩, ⟨ys, s.seq h4, h5.mono s.tups⟩, h6, h7, h8, h9, h10⟩
noncomputable def spFactsOf (K : PySem.W.Frag) : Sp := fun vs H Q _ => ExQ Q (fun (t : Addr) Q => ExQ Q (fun (as_ : Addr) Q => ExQ Q (fun (nm : Nat) Q => ExQ Q (fun (rw : Nat) Q => ExQ Q (fun (ls : List Ln) Q => ExQ Q (fun (st : List (Nat × Nat)) Q => vs = [.ref t, .ref as_] ∧ Walked K H t as_ nm rw ls st ∧ NewL K H Q ((along ls nm rw st st.length).1.map Ft.D)))))))
noncomputable def spVersions (K : PySem.W.Frag) : Sp := fun vs H Q _ => ExQ Q (fun (t : Addr) Q => ExQ Q (fun (as_ : Addr) Q => ExQ Q (fun (nm : Nat) Q => ExQ Q (fun (rw : Nat) Q => ExQ Q (fun (ls : List Ln) Q => ExQ Q (fun (st : List (Nat × Nat)) Q => vs = [.ref t, .ref as_] ∧ Walked K H t as_ nm rw ls st ∧ ∀ H' p, Same H H' → H' p = some (.lst (intsV (along ls nm rw st st.length).2)) → H p = none → Q (.ref p) H'))))))
noncomputable def spAtEnd (K : PySem.W.Frag) : Sp := fun vs H Q _ => ExQ Q (fun (t : Addr) Q => ExQ Q (fun (as_ : Addr) Q => ExQ Q (fun (nm : Nat) Q => ExQ Q (fun (rw : Nat) Q => ExQ Q (fun (ls : List Ln) Q => ExQ Q (fun (st : List (Nat × Nat)) Q => ExQ Q (fun (q : Bd) Q => ExQ Q (fun (v : V) Q => vs = [.ref t, .ref as_, v] ∧ Walked K H t as_ nm rw ls st ∧ Is K H q.D v ∧ q.Ok nm rw ∧ ∀ v H', Same H H' → Is K H' (q.now (along ls nm rw st st.length).2).D v → Q v H'))))))))
section
variable {P : Program} {w : World} {K : PySem.W.Frag} {mg : Str → Option Value} {base : Heap} {f : Addr} {fd : FuncData} {n : Nat} {a_ZERO : Addr}
theorem place_slot {d : Deed} {k : Nat} (h : (Ln.deed d k).isPlace = true) : ∃ s, d.slot = some s := by
  cases d with
  | get x r y c => exact ⟨_, rfl⟩
  | put r y c z => exact ⟨_, rfl⟩
  | _ => cases h
theorem word_set {l : Ln} (h : l.word = "set") : ∃ x y c m, l = .deed (.set x y c) m := by
  cases l with
  | deed d m =>
    cases d with
    | set x y c => exact ⟨x, y, c, m, rfl⟩
    | sum x z y => exact absurd h (show ¬ (("sum" : Str) = "set") by decide)
    | len x r => exact absurd h (show ¬ (("len" : Str) = "set") by decide)
    | take x => exact absurd h (show ¬ (("take" : Str) = "set") by decide)
    | tell x => exact absurd h (show ¬ (("tell" : Str) = "set") by decide)
    | get x r y c => exact absurd h (show ¬ (("get" : Str) = "set") by decide)
    | put r y c z => exact absurd h (show ¬ (("put" : Str) = "set") by decide)
  | test y u c m1 m2 => exact absurd h (show ¬ (("test" : Str) = "set") by decide)
  | ask bs m1 m2 => exact absurd h (show ¬ (("ask" : Str) = "set") by decide)
  | stop  => exact absurd h (show ¬ (("end" : Str) = "set") by decide)
theorem word_len {l : Ln} (h : l.word = "len") : ∃ x r m, l = .deed (.len x r) m := by
  cases l with
  | deed d m =>
    cases d with
    | set x y c => exact absurd h (show ¬ (("set" : Str) = "len") by decide)
    | sum x z y => exact absurd h (show ¬ (("sum" : Str) = "len") by decide)
    | len x r => exact ⟨x, r, m, rfl⟩
    | take x => exact absurd h (show ¬ (("take" : Str) = "len") by decide)
    | tell x => exact absurd h (show ¬ (("tell" : Str) = "len") by decide)
    | get x r y c => exact absurd h (show ¬ (("get" : Str) = "len") by decide)
    | put r y c z => exact absurd h (show ¬ (("put" : Str) = "len") by decide)
  | test y u c m1 m2 => exact absurd h (show ¬ (("test" : Str) = "len") by decide)
  | ask bs m1 m2 => exact absurd h (show ¬ (("ask" : Str) = "len") by decide)
  | stop  => exact absurd h (show ¬ (("end" : Str) = "len") by decide)
theorem word_test {l : Ln} (h : l.word = "test") : ∃ y u c m1 m2, l = .test y u c m1 m2 := by
  cases l with
  | deed d m =>
    cases d with
    | set x y c => exact absurd h (show ¬ (("set" : Str) = "test") by decide)
    | sum x z y => exact absurd h (show ¬ (("sum" : Str) = "test") by decide)
    | len x r => exact absurd h (show ¬ (("len" : Str) = "test") by decide)
    | take x => exact absurd h (show ¬ (("take" : Str) = "test") by decide)
    | tell x => exact absurd h (show ¬ (("tell" : Str) = "test") by decide)
    | get x r y c => exact absurd h (show ¬ (("get" : Str) = "test") by decide)
    | put r y c z => exact absurd h (show ¬ (("put" : Str) = "test") by decide)
  | test y u c m1 m2 => exact ⟨y, u, c, m1, m2, rfl⟩
  | ask bs m1 m2 => exact absurd h (show ¬ (("ask" : Str) = "test") by decide)
  | stop  => exact absurd h (show ¬ (("end" : Str) = "test") by decide)
theorem word_ask {l : Ln} (h : l.word = "ask") : ∃ bs m1 m2, l = .ask bs m1 m2 := by
  cases l with
  | deed d m =>
    cases d with
    | set x y c => exact absurd h (show ¬ (("set" : Str) = "ask") by decide)
    | sum x z y => exact absurd h (show ¬ (("sum" : Str) = "ask") by decide)
    | len x r => exact absurd h (show ¬ (("len" : Str) = "ask") by decide)
    | take x => exact absurd h (show ¬ (("take" : Str) = "ask") by decide)
    | tell x => exact absurd h (show ¬ (("tell" : Str) = "ask") by decide)
    | get x r y c => exact absurd h (show ¬ (("get" : Str) = "ask") by decide)
    | put r y c z => exact absurd h (show ¬ (("put" : Str) = "ask") by decide)
  | test y u c m1 m2 => exact absurd h (show ¬ (("test" : Str) = "ask") by decide)
  | ask bs m1 m2 => exact ⟨bs, m1, m2, rfl⟩
  | stop  => exact absurd h (show ¬ (("end" : Str) = "ask") by decide)
theorem ask_iff {l : Ln} : decide (l.word = ("ask" : Str)) = true ↔ ∃ bs k m, l = .ask bs k m := by
  constructor
  · intro h; exact word_ask (of_decide_eq_true h)
  · rintro ⟨bs, k, m, rfl⟩; rfl
theorem ok_step_facts (F : Fun K "step_facts" "step_facts" s_step_facts f fd) (c_alike : Cl P w K mg base "alike" n ["a", "b", "c"] (spAlike K)) (c_given_node : Cl P w K mg base "given_node" n ["line", "now"] (spGivenNode K)) (c_value_node : Cl P w K mg base "value_node" n ["value", "now"] (spValueNode K)) (c_is_place : Cl P w K mg base "is_place" n ["line"] (spPlace K)) (c_is_ask : Cl P w K mg base "is_ask" n ["line"] (spIsAsk K))
    (c_low_bound : Cl P w K mg base "low_bound" n ["line", "now"] (spLow K)) (c_high_bound : Cl P w K mg base "high_bound" n ["line", "now"] (spHigh K)) (c_branch_facts : Cl P w K mg base "branch_facts" n ["bounds", "which"] (spBranch K)) (c_bound_now : Cl P w K mg base "bound_now" n ["bound", "now"] (spBoundNow K)) : FnOk P w K mg base CX0 (n + 1) f fd ["line", "which", "now"] (spStepFacts K) := by
  refine F.ok sc_step_facts (fun vs H Q E h => ?_) (fun cdv A outer s H vs Q E hr h => ?_)
  · obtain ⟨l, v, k, an, now, rw, nl, rfl, _⟩ := h
    rfl
  obtain ⟨l, v, k, an, now, rw, nl, rfl, hn, hi, hok, hk, h100, q⟩ := h
  have sc := sc_step_facts
  refine ⟨_, (@pss_cons _ _ _ _ _ (ps_if (pt_cmpR op_eq (pe_ix ix_tup (pv 0) pe_int (fun _ _ => rfl)) pe_str (nomark _)) (pss_one (ps_ret (pe_cl c_alike hr rfl (pa_cons (pe_cl c_given_node hr rfl (pa_cons (pv 0) (pa_cons (pv 2) pa_nil))) (pa_cons (pe_cl c_value_node hr rfl (pa_cons (pe_ix ix_tup (pv 0) pe_int (fun _ _ => rfl)) (pa_cons (pv 2) pa_nil))) (pa_cons (pe_ix ix_tup (pv 0) pe_int (fun _ _ => rfl)) pa_nil)))))) pss_nil)
      (@pss_cons _ _ _ _ _ (ps_if (pt_cmpR op_eq (pe_ix ix_tup (pv 0) pe_int (fun _ _ => rfl)) pe_str (nomark _)) (pss_one (ps_ret (pe_cl c_alike hr rfl (pa_cons (pe_cl c_given_node hr rfl (pa_cons (pv 0) (pa_cons (pv 2) pa_nil))) (pa_cons (pe_tup (pa_cons pe_str (pa_cons (pe_ix ix_tup (pv 0) pe_int (fun _ _ => rfl)) pa_nil))) (pa_cons pe_int pa_nil)))))) pss_nil)
      (@pss_cons _ _ _ _ _ (ps_if (pt_val (pe_cl c_is_place hr rfl (pa_cons (pv 0) pa_nil))) (pss_one (ps_ret (pe_lst (pa_cons (pe_cl c_low_bound hr rfl (pa_cons (pv 0) (pa_cons (pv 2) pa_nil))) (pa_cons (pe_cl c_high_bound hr rfl (pa_cons (pv 0) (pa_cons (pv 2) pa_nil))) pa_nil))))) pss_nil)
      (@pss_cons _ _ _ _ _ (ps_if (pt_cmpR op_eq (pe_ix ix_tup (pv 0) pe_int (fun _ _ => rfl)) pe_str (nomark _)) (pss_one (ps_ret (pe_cl c_branch_facts hr rfl (pa_cons (pe_lst (pa_cons (pe_tup (pa_cons (pe_cl c_value_node hr rfl (pa_cons (pe_ix ix_tup (pv 0) pe_int (fun _ _ => rfl)) (pa_cons (pv 2) pa_nil))) (pa_cons (pe_cl c_value_node hr rfl (pa_cons (pe_ix ix_tup (pv 0) pe_int (fun _ _ => rfl)) (pa_cons (pv 2) pa_nil))) (pa_cons (pe_ix ix_tup (pv 0) pe_int (fun _ _ => rfl)) pa_nil)))) pa_nil)) (pa_cons (pv 1) pa_nil))))) pss_nil)
      (@pss_cons _ _ _ _ _ (ps_if (pt_val (pe_cl c_is_ask hr rfl (pa_cons (pv 0) pa_nil))) (pss_one (ps_ret (pe_cl c_branch_facts hr rfl (pa_cons (pe_comp ["bound"] rfl (cmp_ok (N := ["line", "which", "now"]) (so := defScope s_step_facts) rfl rfl (by decide +kernel)) (pi_tup (pe_ix ix_tup (pv 0) pe_int (fun _ _ => rfl))) (fun _ _ _ _ _ _ => (pg_name (i := 0) (show List.Nodup (α := Str) ["bound", "line", "which", "now"] by decide +kernel) rfl (Or.inl rfl) (Or.inr rfl))) (fun _ _ _ _ _ _ => pifs_nil) (fun _ _ _ _ _ _ => (pe_cl c_bound_now hr rfl (pa_cons (pv 0) (pa_cons (pv 3) pa_nil))))) (pa_cons (pv 1) pa_nil))))) pss_nil)
      (pss_one (ps_ret (pe_lst pa_nil)))))))), ?_⟩
  obtain ⟨a, vs, rfl, hq, il⟩ := ln_inv hi
  refine ⟨_, rfl, a, _, 0, _, rfl, rfl, hq, at0 _ _, rfl, _, rfl, ite2 (fun c => ?_) (fun c => ?_)⟩
  · -- set
    have hw : l.word = "set" := str_t c
    obtain ⟨x, y, cc, m, rfl⟩ : ∃ x y cc m, l = .deed (.set x y cc) m := word_set hw
    obtain ⟨r1, rfl, i1⟩ := int1 il
    obtain ⟨r2, rfl, i2⟩ := opt1 i1
    obtain ⟨r3, rfl, i3⟩ := int1 i2
    refine ⟨_, rfl, _, rfl, .deed (.set x y cc) m, .ref a, an, now, x, rfl, hn, hi, rfl, hok.1.1, h100, fun v1 H1 s1 j1 => ?_⟩
    refine ⟨_, rfl, a, _, 2, _, rfl, rfl, s1.tups.sq hq, at2 _ _ _ _, _, rfl, y, an, now, rfl, s1.seq hn, hok.1.2, fun v2 H2 s2 j2 => ?_⟩
    exact ⟨_, rfl, a, _, 3, _, rfl, rfl, (s1.trans s2).tups.sq hq, at3 _ _ _ _ _, newD now x, ndV now y, v1, v2, cc, rfl, j1.mono s2.tups, j2, fun H' p xs s' e' n' i' => q H' p xs (s1.trans (s2.trans s')) e' (none_of_same (s1.trans s2) n') i'⟩
  have ns := str_f c
  refine ⟨_, rfl, a, _, 0, _, rfl, rfl, hq, at0 _ _, rfl, _, rfl, ite2 (fun c2 => ?_) (fun c2 => ?_)⟩
  · have hw : l.word = "len" := str_t c2
    obtain ⟨x, r, m, rfl⟩ : ∃ x r m, l = .deed (.len x r) m := word_len hw
    obtain ⟨r1, rfl, i1⟩ := int1 il
    obtain ⟨r2, rfl, i2⟩ := int1 i1
    refine ⟨_, rfl, _, rfl, .deed (.len x r) m, .ref a, an, now, x, rfl, hn, hi, rfl, hok.1.1, h100, fun v1 H1 s1 j1 => ?_⟩
    refine ⟨_, rfl, a, _, 2, _, rfl, rfl, s1.tups.sq hq, at2 _ _ _ _, Nat.le_of_ble_eq_true rfl, fun t nt => ?_⟩
    have s2 := same_new nt (.tup [.str "len", .int (r : Int)])
    exact ⟨newD now x, lenD r, v1, .ref t, 0, rfl, j1.mono s2.tups, is_len upd_same, fun H' p xs s' e' n' i' => q H' p xs (s1.trans (s2.trans s')) e' (none_of_same (s1.trans s2) n') i'⟩
  have nl' := str_f c2
  refine ⟨_, rfl, l, .ref a, rfl, hi, _, rfl, ite2 (fun c3 => ?_) (fun c3 => ?_)⟩
  · obtain ⟨d, m, rfl⟩ : ∃ d m, l = .deed d m := by
      cases l with
      | deed d m => exact ⟨d, m, rfl⟩
      | _ => cases c3
    obtain ⟨sl, hsl⟩ := place_slot c3
    have hy := (slot_ok hsl hok.1).2
    have ef : (Ln.deed d m).facts k now = [lowF now sl, highF now sl] := by
      cases d with
      | get x r y c => cases hsl; rfl
      | put r y c z => cases hsl; rfl
      | _ => cases hsl
    rw [ef] at q
    refine ⟨_, rfl, _, rfl, d, m, .ref a, sl, an, now, rfl, hn, hi, hsl, hy, fun v1 H1 s1 j1 => ?_⟩
    refine ⟨_, rfl, _, rfl, d, m, .ref a, sl, an, now, rfl, s1.seq hn, hi.mono s1.tups, hsl, hy, fun v2 H2 s2 j2 => ⟨Nat.le_of_ble_eq_true rfl, fun p np => ?_⟩⟩
    have u := same_new np (.lst [v1, v2])
    exact q _ p _ (s1.trans (s2.trans u)) upd_same (none_of_same (s1.trans s2) np) (isl_cons (j1.mono (s2.trans u).tups) (isl_cons (j2.mono u.tups) isl_nil))
  refine ⟨_, rfl, a, _, 0, _, rfl, rfl, hq, at0 _ _, rfl, _, rfl, ite2 (fun c4 => ?_) (fun c4 => ?_)⟩
  · have hw : l.word = "test" := str_t c4
    obtain ⟨y, u, cc, m1, m2, rfl⟩ : ∃ y u cc m1 m2, l = .test y u cc m1 m2 := word_test hw
    obtain ⟨r1, rfl, i1⟩ := opt1 il
    obtain ⟨r2, rfl, i2⟩ := opt1 i1
    obtain ⟨r3, rfl, i3⟩ := int1 i2
    refine ⟨_, rfl, a, _, 1, _, rfl, rfl, hq, at1 _ _ _, _, rfl, y, an, now, rfl, hn, hok.1, fun v1 H1 s1 j1 => ?_⟩
    refine ⟨_, rfl, a, _, 2, _, rfl, rfl, s1.tups.sq hq, at2 _ _ _ _, _, rfl, u, an, now, rfl, s1.seq hn, hok.2.1, fun v2 H2 s2 j2 => ?_⟩
    refine ⟨_, rfl, a, _, 3, _, rfl, rfl, (s1.trans s2).tups.sq hq, at3 _ _ _ _ _, Nat.le_of_ble_eq_true rfl, fun t nt => ⟨Nat.le_of_ble_eq_true rfl, fun p np => ?_⟩⟩
    have u1 := same_new nt (.tup [v1, v2, .int cc])
    have u2 := same_new np (.lst [.ref t])
    refine ⟨_, rfl, p, _, [⟨ndV now y, ndV now u, cc⟩], k, rfl, upd_same, isl_cons (is_ft (u2 _ _ upd_same) (j1.mono (s2.trans (u1.trans u2)).tups) (j2.mono (u1.trans u2).tups)) isl_nil, fun H' p' xs' s' e' n' i' => q H' p' xs' (s1.trans (s2.trans (u1.trans (u2.trans s')))) e' ?_ i'⟩
    rcases n' with z | z
    · rw [z]; exact none_of_same (s1.trans (s2.trans u1)) np
    · exact none_of_same (s1.trans (s2.trans (u1.trans u2))) z
  have nt' := str_f c4
  refine ⟨_, rfl, .ref a, l.word, l.args, rfl, hi, _, rfl, ite2 (fun c5 => ?_) (fun c5 => ?_)⟩
  · obtain ⟨bs, m1, m2, rfl⟩ := ask_iff.mp c5
    obtain ⟨vb, r1, rfl, ib, i1⟩ := any1 il
    obtain ⟨ab, ys, rfl, hqb, ilb⟩ := ib.tup_inv
    have ly : bs.length = ys.length := by have := ilb.length; rw [List.length_map] at this; exact this
    refine ⟨_, rfl, a, _, 1, _, rfl, rfl, hq, at1 _ _ _, ab, rfl, ⟨_, hqb⟩, fun p np => ?_⟩
    refine comp_tup (xs := ys) (fun i H' => Same H H' ∧ ∃ acc, H' p = some (.lst acc) ∧ IsL K H' (((bs.take i).map (Bd.now now)).map Ft.D) acc) ⟨same_new np _, [], upd_same, isl_nil⟩ (fun i H' _ h => h.1.tups.sq hqb) (fun i y H' ey h => ?_) (fun H' h => ?_)
    · obtain ⟨sm, acc, ea, ia⟩ := h
      have hil : i < bs.length := by have := (List.getElem?_eq_some_iff.mp ey).1; omega
      have eb := List.getElem?_eq_getElem hil
      obtain ⟨y', ey', iy⟩ := ilb.get (j := i) (d := bs[i].D) (by rw [List.getElem?_map, eb]; rfl)
      rw [ey] at ey'; cases ey'
      refine ⟨⟨[some y], rfl, rfl⟩, tTrue_ite ⟨_, rfl, _, rfl, bs[i], y, an, now, rw, rfl, sm.seq hn, iy.mono sm.tups, hok.1 _ (List.getElem_mem hil), fun v1 H1 s1 j1 => ?_⟩⟩
      have la := ia.length
      rw [List.length_map, List.length_map, List.length_take] at la
      have h4 := hok.2.1
      refine ⟨acc, s1 _ _ ea, small1000 (by omega), Same.new (sm.trans s1) np, acc ++ [v1], upd_same, ?_⟩
      have tl := Tups.lst (ys := acc ++ [v1]) (s1 _ _ ea)
      rw [List.take_succ, eb]
      simp only [Option.toList_some, List.map_append, List.map_cons, List.map_nil]
      exact IsL.append ((ia.mono s1.tups).mono tl) (isl_cons (j1.mono tl) isl_nil)
    · obtain ⟨sm, acc, ea, ia⟩ := h
      rw [← ly, List.take_length] at ia
      refine ⟨_, rfl, p, _, bs.map (Bd.now now), k, rfl, ea, ia, fun H2 p' xs' s' e' n' i' => q H2 p' xs' (sm.trans s') e' ?_ i'⟩
      rcases n' with z | z
      · rw [z]; exact np
      · exact none_of_same sm z
  · refine ⟨Nat.le_of_ble_eq_true rfl, fun p np => q _ p [] (same_new np _) upd_same np ?_⟩
    have e : l.facts k now = [] := by
      cases l with
      | deed d m =>
        cases d with
        | set x y cc => exact absurd rfl ns
        | len x r => exact absurd rfl nl'
        | get x r y cc => exact absurd rfl c3
        | put r y cc z => exact absurd rfl c3
        | _ => rfl
      | test => exact absurd rfl nt'
      | ask => exact absurd (decide_eq_true rfl) c5
      | stop => rfl
    rw [e]; exact isl_nil
theorem step_read {H : Hp} {st : List (Nat × Nat)} {ys : List V} {j : Nat} {y : V} (il : IsL K H (st.map stepD) ys) (ey : ys[j]? = some y) : ∃ s t, st[j]? = some s ∧ y = .ref t ∧ SqT K H t [.int (s.1 : Int), .int (s.2 : Int)] := by
  obtain ⟨d, ed, id⟩ := il.get' ey
  rw [List.getElem?_map] at ed
  obtain ⟨s, es, rfl⟩ := Option.map_eq_some_iff.mp ed
  obtain ⟨t, zs, rfl, hq, ilz⟩ := id.tup_inv
  obtain ⟨r1, rfl, i1⟩ := int1 ilz
  obtain ⟨r2, rfl, i2⟩ := int1 i1
  cases i2.nil_inv
  exact ⟨s, t, es, rfl, hq⟩
theorem ok_facts_of (F : Fun K "facts_of" "facts_of" s_facts_of f fd) (Z : TabZ K mg a_ZERO) (m_range : mg "range" = none) (c_first_versions : Cl P w K mg base "first_versions" n ["program"] (spFirst K)) (c_step_facts : Cl P w K mg base "step_facts" n ["line", "which", "now"] (spStepFacts K)) (c_versions_behind : Cl P w K mg base "versions_behind" n ["line", "now"] (spBehind K)) : FnOk P w K mg base CX0 (n + 1) f fd ["program", "steps"] (spFactsOf K) := by
  refine F.ok sc_facts_of (fun vs H Q E h => ?_) (fun cdv A outer s H vs Q E hr h => ?_)
  · obtain ⟨t, as_, nm, rw, ls, st, rfl, _⟩ := h
    rfl
  obtain ⟨t, as_, nm, rw, ls, st, rfl, W, q⟩ := h
  obtain ⟨⟨al, xs, hq, hal, iL⟩, ⟨ys, hys, iS⟩, ok, sok, hnm, hrw, hst⟩ := W
  have sc := sc_facts_of
  have m_ZERO := Z.mz
  refine ⟨_, (@pss_cons _ _ _ _ _ (ps_setcomp (i := 2) ["row"] rfl (cmp_ok (N := ["program", "steps", "facts", "now", "at", "which", "line"]) (so := defScope s_facts_of) rfl rfl (by decide +kernel)) sc.nd rfl (Or.inl rfl) (pi_range1 rfl m_range (pa_cons (pe_ix ix_tup (pv 0) pe_int (fun _ _ => rfl)) pa_nil)) (fun _ _ _ _ _ _ => (pg_name (i := 0) (show List.Nodup (α := Str) ["row", "program", "steps", "facts", "now", "at", "which", "line"] by decide +kernel) rfl (Or.inl rfl) (Or.inr rfl))) (fun _ _ _ _ _ _ => pifs_nil) (fun _ _ _ _ _ _ => (pe_tup (pa_cons (pe_glob rfl m_ZERO (v := .ref a_ZERO) rfl) (pa_cons (pe_tup (pa_cons pe_str (pa_cons (pv 0) pa_nil))) (pa_cons pe_int pa_nil))))) rfl)
      (@pss_cons _ _ _ _ _ (ps_set (i := 3) sc.nd rfl (Or.inl rfl) (pe_cl c_first_versions hr rfl (pa_cons (pv 0) pa_nil)))
      (@pss_cons _ _ _ _ _ (ps_for PassesOwn.never rfl (pi_list (pv 1)) (pg_tup rfl (pgs_cons (pg_name (i := 4) sc.nd rfl (Or.inl rfl)) (pgs_cons (pg_name (i := 5) sc.nd rfl (Or.inl rfl)) pgs_nil))) (@pss_cons _ _ _ _ _ (ps_set (i := 6) sc.nd rfl (Or.inl rfl) (pe_ix ix_list (pe_ix ix_tup (pv 0) pe_int (fun _ _ => rfl)) (pv 4) (fun _ _ => rfl)))
      (@pss_cons _ _ _ _ _ (ps_expr (pe_bm PySem.F.plainAttrs_list PySem.F.slot_list_extend PySem.F.type_list_extend mt_extend (pv 2) (pa_cons (pe_cl c_step_facts hr rfl (pa_cons (pv 6) (pa_cons (pv 5) (pa_cons (pv 3) pa_nil)))) pa_nil)))
      (pss_one (ps_set (i := 3) sc.nd rfl (Or.inl rfl) (pe_cl c_versions_behind hr rfl (pa_cons (pv 6) (pa_cons (pv 3) pa_nil))))))))
      (pss_one (ps_ret (pv 2)))))), ?_⟩
  refine ⟨_, rfl, t, _, 1, _, rfl, rfl, hq, at1 _ _ _, _, rfl, by omega, by omega, fun p np => ?_⟩
  rw [Int.toNat_natCast]
  refine comp_range (n := rw) (fun i H' => Same H H' ∧ ∃ acc, H' p = some (.lst acc) ∧ IsL K H' ((rowF i).map Ft.D) acc) ⟨same_new np _, [], upd_same, isl_nil⟩ (fun i H' hi h => ?_) (fun H1 h => ?_)
  · obtain ⟨sm, acc, ea, ia⟩ := h
    refine ⟨⟨[some (.int (0 + (i : Int)))], rfl, rfl⟩, tTrue_ite ?_⟩
    rw [Int.zero_add]
    refine ⟨_, rfl, Nat.le_of_ble_eq_true rfl, fun t1 n1 => ⟨Nat.le_of_ble_eq_true rfl, fun t2 n2 => ?_⟩⟩
    have u1 := same_new n1 (.tup [.str "len", .int (i : Int)])
    have u2 := same_new n2 (.tup [.ref a_ZERO, .ref t1, .int 0])
    have u12 := u1.trans u2
    have la := ia.length
    unfold rowF at la
    rw [List.length_map, List.length_map, List.length_range] at la
    have ea2 := u12 _ _ ea
    refine ⟨acc, ea2, small1000 (by omega), Same.new (sm.trans u12) np, acc ++ [.ref t2], upd_same, ?_⟩
    have tl := Tups.lst (ys := acc ++ [.ref t2]) ea2
    have e : rowF (i + 1) = rowF i ++ [⟨zeroD, lenD i, 0⟩] := by unfold rowF; rw [List.range_succ, List.map_append]; rfl
    rw [e, List.map_append]
    exact IsL.append ((ia.mono u12.tups).mono tl) (isl_cons ((is_ft upd_same (Z.is _) (is_len (u2 _ _ upd_same))).mono tl) isl_nil)
  obtain ⟨sm1, acc, ea, ia⟩ := h
  refine ⟨_, rfl, t, nm, _, rfl, sm1.tups.sq hq, hnm, fun H2 pn s2 en nn => ?_⟩
  have sm2 := sm1.trans s2
  refine ⟨_, rfl, as_, rfl, ⟨_, sm2.seq hys⟩, for_list (xs := ys) (fun j σ H' => ∃ pn y4 y5 y6 acc, σ = [some (.ref t), some (.ref as_), some (.ref p), some (.ref pn), y4, y5, y6] ∧ pn ≠ p ∧ Same H H' ∧ H' p = some (.lst acc) ∧ IsL K H' ((along ls nm rw st j).1.map Ft.D) acc ∧ H' pn = some (.lst (intsV (along ls nm rw st j).2)))
    ⟨_, _, _, _, acc, rfl, (ne_p ea nn).symm, sm2, s2 _ _ ea, ia.mono s2.tups, en⟩ (fun j σ H' _ h => ?_) (fun j y σ H' ey h => ?_) (fun σ H' h => ?_)⟩
  · obtain ⟨_, _, _, _, _, _, _, s', _⟩ := h
    exact s'.seq hys
  · obtain ⟨pn, y4, y5, y6, acc, rfl, ppn, s', ep, ia', en⟩ := h
    obtain ⟨sp, ts, esp, rfl, hqs⟩ := step_read (iS.mono s'.tups) ey
    have hjl : j < st.length := (List.getElem?_eq_some_iff.mp esp).1
    obtain ⟨l, el, hw⟩ := sok sp (List.mem_of_getElem? esp)
    have far := along_far ok sok (j := j) (by omega)
    have okl := ok l (List.mem_of_getElem? el)
    refine ⟨ts, _, rfl, hqs, rfl, _, _, rfl, _, _, rfl, rfl, ?_⟩
    obtain ⟨vl, evl, ivl⟩ := (iL.mono s'.tups).get (j := sp.1) (d := l.D) (by rw [List.getElem?_map, el]; rfl)
    refine ⟨_, rfl, t, _, 2, _, rfl, rfl, s'.tups.sq hq, at2 _ _ _ _, _, rfl, al, xs, _, _, rfl, rfl, s'.seq hal, atI_nat evl, ?_⟩
    refine ⟨_, rfl, .inl ⟨rfl, _, SqL.of ep⟩, ?_⟩
    refine ⟨_, rfl, _, rfl, _, rfl, l, vl, sp.2, pn, (along ls nm rw st j).2, rw, ls.length, rfl, SqL.of en, ivl, by rw [far.n]; exact okl, hw, by rw [far.n]; exact hnm, fun H3 pf fs s3 ef nf iff => ?_⟩
    have ep3 := s3 _ _ ep
    have la := ia'.length
    rw [List.length_map] at la
    have lf := iff.length
    rw [List.length_map] at lf
    have h1 := far.f
    have h2 := facts_len (k := sp.2) (now := (along ls nm rw st j).2) okl
    refine ⟨p, pf, acc, fs, rfl, rfl, ep3, ef, (by rw [sizeLine_eq]; omega), ?_⟩
    have tl := Tups.lst (ys := acc ++ fs) ep3
    have en4 : upd H3 p (.lst (acc ++ fs)) pn = some (.lst (intsV (along ls nm rw st j).2)) := by rw [upd_ne ppn]; exact s3 _ _ en
    have s4 : Same H (upd H3 p (.lst (acc ++ fs))) := Same.new (s'.trans s3) np
    refine ⟨_, rfl, _, rfl, l, vl, pn, (along ls nm rw st j).2, rfl, SqL.of en4, (ivl.mono s3.tups).mono tl, by rw [far.n]; exact given_ok okl, by rw [far.n]; exact hnm, fun H5 p5 s5 e5 n5 => ?_⟩
    refine ⟨p5, _, _, _, acc ++ fs, rfl, (ne_p upd_same n5).symm, s4.trans s5, s5 _ _ upd_same, ?_, ?_⟩
    · rw [along_next esp, goS_some el]
      show IsL K H5 (List.map Ft.D (_ ++ _)) _
      rw [List.map_append]
      exact (IsL.append ((ia'.mono s3.tups).mono tl) (iff.mono tl)).mono s5.tups
    · rw [along_next esp, goS_some el]; exact e5
  · obtain ⟨pn, y4, y5, y6, acc, rfl, ppn, s', ep, ia', en⟩ := h
    have ly : ys.length = st.length := by have := iS.length; rw [List.length_map] at this; exact this.symm
    rw [ly] at ia'
    exact ⟨_, rfl, q H' p acc s' ep np ia'⟩
theorem ok_versions (F : Fun K "versions" "versions" s_versions f fd) (c_first_versions : Cl P w K mg base "first_versions" n ["program"] (spFirst K)) (c_versions_behind : Cl P w K mg base "versions_behind" n ["line", "now"] (spBehind K)) : FnOk P w K mg base CX0 (n + 1) f fd ["program", "steps"] (spVersions K) := by
  refine F.ok sc_versions (fun vs H Q E h => ?_) (fun cdv A outer s H vs Q E hr h => ?_)
  · obtain ⟨t, as_, nm, rw, ls, st, rfl, _⟩ := h
    rfl
  obtain ⟨t, as_, nm, rw, ls, st, rfl, W, q⟩ := h
  obtain ⟨⟨al, xs, hq, hal, iL⟩, ⟨ys, hys, iS⟩, ok, sok, hnm, hrw, hst⟩ := W
  have sc := sc_versions
  refine ⟨_, (@pss_cons _ _ _ _ _ (ps_set (i := 2) sc.nd rfl (Or.inl rfl) (pe_cl c_first_versions hr rfl (pa_cons (pv 0) pa_nil)))
      (@pss_cons _ _ _ _ _ (ps_for PassesOwn.never rfl (pi_list (pv 1)) (pg_tup rfl (pgs_cons (pg_name (i := 3) sc.nd rfl (Or.inl rfl)) (pgs_cons (pg_name (i := 4) sc.nd rfl (Or.inl rfl)) pgs_nil))) (pss_one (ps_set (i := 2) sc.nd rfl (Or.inl rfl) (pe_cl c_versions_behind hr rfl (pa_cons (pe_ix ix_list (pe_ix ix_tup (pv 0) pe_int (fun _ _ => rfl)) (pv 3) (fun _ _ => rfl)) (pa_cons (pv 2) pa_nil))))))
      (pss_one (ps_ret (pv 2))))), ?_⟩
  refine ⟨_, rfl, t, nm, _, rfl, hq, hnm, fun H2 pn s2 en nn => ?_⟩
  refine ⟨_, rfl, as_, rfl, ⟨_, s2.seq hys⟩, for_list (xs := ys) (fun j σ H' => ∃ pn y4 y5, σ = [some (.ref t), some (.ref as_), some (.ref pn), y4, y5] ∧ Same H H' ∧ H pn = none ∧ H' pn = some (.lst (intsV (along ls nm rw st j).2)))
    ⟨_, _, _, rfl, s2, nn, en⟩ (fun j σ H' _ h => ?_) (fun j y σ H' ey h => ?_) (fun σ H' h => ?_)⟩
  · obtain ⟨_, _, _, _, s', _⟩ := h
    exact s'.seq hys
  · obtain ⟨pn, y4, y5, rfl, s', nn', en'⟩ := h
    obtain ⟨sp, ts, esp, rfl, hqs⟩ := step_read (iS.mono s'.tups) ey
    have hjl : j < st.length := (List.getElem?_eq_some_iff.mp esp).1
    obtain ⟨l, el, hw⟩ := sok sp (List.mem_of_getElem? esp)
    have far := along_far ok sok (j := j) (by omega)
    have okl := ok l (List.mem_of_getElem? el)
    refine ⟨ts, _, rfl, hqs, rfl, _, _, rfl, _, _, rfl, rfl, ?_⟩
    obtain ⟨vl, evl, ivl⟩ := (iL.mono s'.tups).get (j := sp.1) (d := l.D) (by rw [List.getElem?_map, el]; rfl)
    refine ⟨_, rfl, t, _, 2, _, rfl, rfl, s'.tups.sq hq, at2 _ _ _ _, _, rfl, al, xs, _, _, rfl, rfl, s'.seq hal, atI_nat evl, ?_⟩
    refine ⟨_, rfl, l, vl, pn, (along ls nm rw st j).2, rfl, SqL.of en', ivl, by rw [far.n]; exact given_ok okl, by rw [far.n]; exact hnm, fun H5 p5 s5 e5 n5 => ?_⟩
    refine ⟨p5, _, _, rfl, s'.trans s5, none_of_same s' n5, ?_⟩
    rw [along_next esp, goS_some el]; exact e5
  · obtain ⟨pn, y4, y5, rfl, s', nn', en'⟩ := h
    have ly : ys.length = st.length := by have := iS.length; rw [List.length_map] at this; exact this.symm
    rw [ly] at en'
    exact ⟨_, rfl, q H' pn s' en' nn'⟩
theorem ok_at_end (F : Fun K "at_end" "at_end" s_at_end f fd) (c_bound_now : Cl P w K mg base "bound_now" n ["bound", "now"] (spBoundNow K)) (c_versions : Cl P w K mg base "versions" n ["program", "steps"] (spVersions K)) : FnOk P w K mg base CX0 (n + 1) f fd ["program", "steps", "bound"] (spAtEnd K) := by
  refine F.ok sc_at_end (fun vs H Q E h => ?_) (fun cdv A outer s H vs Q E hr h => ?_)
  · obtain ⟨t, as_, nm, rw, ls, st, q, v, rfl, _⟩ := h
    rfl
  obtain ⟨t, as_, nm, rw, ls, st, b, v, rfl, W, hi, hk, q⟩ := h
  have sc := sc_at_end
  refine ⟨_, (pss_one (ps_ret (pe_cl c_bound_now hr rfl (pa_cons (pv 2) (pa_cons (pe_cl c_versions hr rfl (pa_cons (pv 0) (pa_cons (pv 1) pa_nil))) pa_nil))))), ?_⟩
  refine ⟨_, rfl, _, rfl, _, rfl, t, as_, nm, rw, ls, st, rfl, W, fun H1 p s1 ep np => ?_⟩
  have far := along_far W.ok W.sok (j := st.length) (Nat.le_refl _)
  exact ⟨b, v, p, _, rw, rfl, SqL.of ep, hi.mono s1.tups, by rw [far.n]; exact hk, fun v' H' s' i' => q v' H' (s1.trans s') i'⟩
end
end K43
set_option Elab.async false
set_option linter.all false
set_option maxRecDepth 100000
set_option maxHeartbeats 4000000
namespace K43
open PySem PySem.Spec PyProof.Rows L2
noncomputable abbrev s_node : Stmt := top 30
noncomputable abbrev s_ask : Stmt := top 31
noncomputable def NodeD (names rows : Int) (d : D) : Prop := d = .tup [.str "zero"] ∨ (∃ k : Int, 0 ≤ k ∧ k < names ∧ d = .tup [.str "name", .int k, .int 0]) ∨ ∃ k : Int, 0 ≤ k ∧ k < rows ∧ d = .tup [.str "len", .int k]
theorem node_nd {nm rw : Nat} {d : D} (h : NodeD (nm : Int) (rw : Int) d) : ∃ q : Nd, q.Ok nm rw ∧ d = q.D := by
  rcases h with rfl | ⟨k, k0, k1, rfl⟩ | ⟨k, k0, k1, rfl⟩
  · exact ⟨.zero, trivial, rfl⟩
  · obtain ⟨i, rfl⟩ : ∃ i : Nat, k = (i : Int) := ⟨k.toNat, by omega⟩
    exact ⟨.name i, by show i < nm; omega, rfl⟩
  · obtain ⟨i, rfl⟩ : ∃ i : Nat, k = (i : Int) := ⟨k.toNat, by omega⟩
    exact ⟨.len i, by show i < rw; omega, rfl⟩
theorem is_opt {K : PySem.W.Frag} {H : Hp} (y : Option Nat) : Is K H (optD y) (optV y) := by
  cases y with
  | none => exact is_non
  | some i => exact is_int
theorem maybe_opt {nm : Nat} {v : V} (h : MaybeV (nm : Int) v) : ∃ y, OptOk nm y ∧ v = optV y := by
  rcases h with rfl | ⟨i, i0, i1, rfl⟩
  · exact ⟨none, trivial, rfl⟩
  · obtain ⟨j, rfl⟩ : ∃ j : Nat, i = (j : Int) := ⟨i.toNat, by omega⟩
    exact ⟨some j, by show j < nm; omega, rfl⟩
structure Ctx (K : PySem.W.Frag) (H : Hp) (a : Addr) (ns : List Int) (al : Addr) (ls : List Ln) : Prop where
  s : SqL K H a (ns.map V.int)
  n : ns.length ≤ 63
  l : ∃ xs, H al = some (.lst xs) ∧ IsL K H (ls.map Ln.D) xs
theorem Ctx.same {K : PySem.W.Frag} {H H' : Hp} {a : Addr} {ns : List Int} {al : Addr} {ls : List Ln} (h : Ctx K H a ns al ls) (s : Same H H') : Ctx K H' a ns al ls := by
  obtain ⟨h1, h2, xs, h3, h4⟩ := h
  exact ⟨s.seq h1, h2, xs, s _ _ h3, h4.mono s.tups⟩
noncomputable def spNode (K : PySem.W.Frag) : Sp := fun vs H Q _ => ExQ Q (fun (c : Int) Q => ExQ Q (fun (names : Int) Q => ExQ Q (fun (rows : Int) Q => vs = [.int c, .int names, .int rows] ∧ 0 ≤ names ∧ names ≤ 100 ∧ 0 ≤ rows ∧ rows ≤ 100 ∧ ∀ (d : D) (v : V) (H' : Hp), NodeD names rows d → Same H H' → Is K H' d v → Q v H')))
noncomputable def spLn (K : PySem.W.Frag) (top : Int) : Sp := fun vs H Q _ => ExQ Q (fun (a : Addr) Q => ExQ Q (fun (ns : List Int) Q => ExQ Q (fun (start : Int) Q => ExQ Q (fun (nm : Nat) Q => ExQ Q (fun (rw : Nat) Q => ExQ Q (fun (at_ : Nat) Q => ExQ Q (fun (many : Nat) Q => ExQ Q (fun (al : Addr) Q => ExQ Q (fun (ls : List Ln) Q => vs = [.ref a, .int start, .int (nm : Int), .int (rw : Int), .int (at_ : Int), .ref al, .int (many : Int)] ∧ Ctx K H a ns al ls ∧ ls.length = at_ ∧ 0 ≤ start ∧ start ≤ top ∧ nm ≤ 100 ∧ rw ≤ 100 ∧ at_ + 1 < many ∧ many ≤ 100 ∧
  ∀ (l : Ln) (v : V) (H' : Hp), l.Ok nm rw many → Same H H' → Is K H' l.D v → Q v H')))))))))
section
variable {P : Program} {w : World} {K : PySem.W.Frag} {mg : Str → Option Value} {base : Heap} {f : Addr} {fd : FuncData} {n : Nat}
theorem sc_node : FnScope ["_law_cell", "_law_names", "_law_rows", "_law_some"] ["_law_cell", "_law_names", "_law_rows"] (defScope s_node) := ⟨rfl, rfl, rfl, by decide +kernel, rfl, by decide +kernel, by decide +kernel⟩
theorem sc_ask : FnScope ["_law_script", "_law_start", "_law_names", "_law_rows", "_law_at", "_law_lines", "_law_many", "_law_bounds", "_law_k", "_law_goals", "_law_cell", "_law_a", "_law_goal_here"] ["_law_script", "_law_start", "_law_names", "_law_rows", "_law_at", "_law_lines", "_law_many"] (defScope s_ask) := ⟨rfl, rfl, rfl, by decide +kernel, rfl, by decide +kernel, by decide +kernel⟩
theorem ok_node (F : Fun K "_law_node" "_law_node" s_node f fd) (m_len : mg "len" = none) (m_range : mg "range" = none) : FnOk P w K mg base CX0 (n + 1) f fd ["_law_cell", "_law_names", "_law_rows"] (spNode K) := by
  refine F.ok sc_node (fun vs H Q E h => ?_) (fun cdv A outer s H vs Q E hr h => ?_)
  · obtain ⟨c, names, rows, rfl, _⟩ := h
    rfl
  obtain ⟨c, names, rows, rfl, n0, n1, r0, r1, q⟩ := h
  have sc := sc_node
  refine ⟨_, (@pss_cons _ _ _ _ _ (ps_set (i := 3) sc.nd rfl (Or.inl rfl) (pe_op op_cat (pe_op op_cat (pe_lst (pa_cons (pe_tup (pa_cons pe_str pa_nil)) pa_nil)) (pe_comp ["_law_k"] rfl (cmp_ok (N := ["_law_cell", "_law_names", "_law_rows", "_law_some"]) (so := defScope s_node) rfl rfl (by decide +kernel)) (pi_range1 rfl m_range (pa_cons (pv 1) pa_nil)) (fun _ _ _ _ _ _ => (pg_name (i := 0) (show List.Nodup (α := Str) ["_law_k", "_law_cell", "_law_names", "_law_rows", "_law_some"] by decide +kernel) rfl (Or.inl rfl) (Or.inr rfl))) (fun _ _ _ _ _ _ => pifs_nil) (fun _ _ _ _ _ _ => (pe_tup (pa_cons pe_str (pa_cons (pv 0) (pa_cons pe_int pa_nil))))))) (pe_comp ["_law_k"] rfl (cmp_ok (N := ["_law_cell", "_law_names", "_law_rows", "_law_some"]) (so := defScope s_node) rfl rfl (by decide +kernel)) (pi_range1 rfl m_range (pa_cons (pv 2) pa_nil)) (fun _ _ _ _ _ _ => (pg_name (i := 0) (show List.Nodup (α := Str) ["_law_k", "_law_cell", "_law_names", "_law_rows", "_law_some"] by decide +kernel) rfl (Or.inl rfl) (Or.inr rfl))) (fun _ _ _ _ _ _ => pifs_nil) (fun _ _ _ _ _ _ => (pe_tup (pa_cons pe_str (pa_cons (pv 0) pa_nil)))))))
      (pss_one (ps_ret (pe_ix ix_list (pv 3) (pe_op op_mod (pv 0) (pe_callB call_len_seq rfl m_len PySem.boot_len (pa_cons (pv 3) pa_nil))) (fun _ _ => rfl))))), ?_⟩
  refine ⟨Nat.le_of_ble_eq_true rfl, fun t ht => ⟨Nat.le_of_ble_eq_true rfl, fun l hl => ?_⟩⟩
  refine ⟨_, rfl, names, rfl, by omega, by omega, fun p hp => ?_⟩
  have H1s : Same H (upd (upd H t (.tup [.str "zero"])) l (.lst [.ref t])) := (same_new ht _).trans (same_new hl _)
  generalize hH1 : upd (upd H t (.tup [.str "zero"])) l (.lst [.ref t]) = H1 at H1s hp
  have e_l : H1 l = some (.lst [.ref t]) := by rw [← hH1]; exact upd_same
  have e_t : H1 t = some (.tup [.str "zero"]) := by rw [← hH1, upd_ne (ne_p (upd_same) hl)]; exact upd_same
  refine comp_range (fun i H' => Same H1 H' ∧ ∃ acc, H' p = some (.lst acc) ∧ IsL K H' ((List.range i).map fun (k : Nat) => D.tup [.str "name", .int (k : Int), .int 0]) acc) ⟨same_new hp _, [], upd_same, isl_nil⟩ (fun i H' hi h => ?_) (fun H' h => ?_)
  · obtain ⟨sm, acc, ea, il⟩ := h
    refine ⟨⟨[some (.int (0 + (i : Int)))], rfl, rfl⟩, ?_⟩
    refine tTrue_ite ?_
    refine ⟨_, rfl, Nat.le_of_ble_eq_true rfl, fun t2 ht2 => ?_⟩
    have tn := Tups.new (o := .tup [.str "name", .int (0 + (i : Int)), .int 0]) ht2
    have ea2 : upd H' t2 (.tup [.str "name", .int (0 + (i : Int)), .int 0]) p = some (.lst acc) := by rw [upd_ne (ne_p ea ht2)]; exact ea
    have ln := il.length
    rw [List.length_map, List.length_range] at ln
    refine ⟨acc, ea2, small1000 (by omega), ?_, acc ++ [.ref t2], upd_same, ?_⟩
    · exact Same.new (Same.new sm (none_of_same sm ht2)) hp
    · rw [List.range_succ, List.map_append]
      refine IsL.append ((il.mono tn).mono (Tups.lst ea2)) (isl_cons ?_ isl_nil)
      have et : upd (upd H' t2 (.tup [.str "name", .int (0 + (i : Int)), .int 0])) p (.lst (acc ++ [.ref t2])) t2 = some (.tup [.str "name", .int (0 + (i : Int)), .int 0]) := by
        rw [upd_ne (ne_p ea ht2).symm]; exact upd_same
      refine is_tup (SqT.of et) (isl_cons is_str (isl_cons ?_ (isl_cons is_int isl_nil)))
      rw [Int.zero_add]; exact is_int
  · obtain ⟨sm, acc, ea, il⟩ := h
    have ln := il.length
    rw [List.length_map, List.length_range] at ln
    have e_l2 := sm _ _ e_l
    refine ⟨l, p, _, acc, rfl, rfl, e_l2, ea, small (by simp; omega), fun l3 hl3 => ?_⟩
    refine ⟨_, rfl, rows, rfl, by omega, by omega, fun p4 hp4 => ?_⟩
    have t3 := Tups.new (o := .lst ([.ref t] ++ acc)) hl3
    have s3 : Same H1 (upd H' l3 (.lst ([.ref t] ++ acc))) := sm.trans (same_new hl3 _)
    have il3 := il.mono t3
    have e3 : upd H' l3 (.lst ([.ref t] ++ acc)) l3 = some (.lst ([.ref t] ++ acc)) := upd_same
    generalize upd H' l3 (.lst ([.ref t] ++ acc)) = H3 at t3 s3 il3 e3 hp4
    refine comp_range (fun i H' => Same H3 H' ∧ ∃ acc, H' p4 = some (.lst acc) ∧ IsL K H' ((List.range i).map fun (k : Nat) => D.tup [.str "len", .int (k : Int)]) acc) ⟨same_new hp4 _, [], upd_same, isl_nil⟩ (fun i H' hi h => ?_) (fun H' h => ?_)
    · obtain ⟨sm, acc, ea, il⟩ := h
      refine ⟨⟨[some (.int (0 + (i : Int)))], rfl, rfl⟩, ?_⟩
      refine tTrue_ite ?_
      refine ⟨_, rfl, Nat.le_of_ble_eq_true rfl, fun t2 ht2 => ?_⟩
      have tn := Tups.new (o := .tup [.str "len", .int (0 + (i : Int))]) ht2
      have ea2 : upd H' t2 (.tup [.str "len", .int (0 + (i : Int))]) p4 = some (.lst acc) := by rw [upd_ne (ne_p ea ht2)]; exact ea
      have ln := il.length
      rw [List.length_map, List.length_range] at ln
      refine ⟨acc, ea2, small1000 (by omega), ?_, acc ++ [.ref t2], upd_same, ?_⟩
      · exact Same.new (Same.new sm (none_of_same sm ht2)) hp4
      · rw [List.range_succ, List.map_append]
        refine IsL.append ((il.mono tn).mono (Tups.lst ea2)) (isl_cons ?_ isl_nil)
        have et : upd (upd H' t2 (.tup [.str "len", .int (0 + (i : Int))])) p4 (.lst (acc ++ [.ref t2])) t2 = some (.tup [.str "len", .int (0 + (i : Int))]) := by
          rw [upd_ne (ne_p ea ht2).symm]; exact upd_same
        refine is_tup (SqT.of et) (isl_cons is_str (isl_cons ?_ isl_nil))
        rw [Int.zero_add]; exact is_int
    · obtain ⟨sm5, acc5, ea5, il5⟩ := h
      have ln5 := il5.length
      rw [List.length_map, List.length_range] at ln5
      refine ⟨l3, p4, _, acc5, rfl, rfl, sm5 _ _ e3, ea5, small (by simp; omega), fun l6 hl6 => ?_⟩
      -- the whole list, by data
      have t6 := Tups.new (o := .lst (([.ref t] ++ acc) ++ acc5)) hl6
      have it : Is K (upd H' l6 (.lst (([.ref t] ++ acc) ++ acc5))) (.tup [.str "zero"]) (.ref t) := (is_tup (SqT.of (sm5 _ _ (s3 _ _ e_t))) (isl_cons is_str isl_nil)).mono t6
      have all := IsL.append (IsL.append (isl_cons it isl_nil) ((il3.mono sm5.tups).mono t6)) (il5.mono t6)
      have e6 : upd H' l6 (.lst (([.ref t] ++ acc) ++ acc5)) l6 = some (.lst (([.ref t] ++ acc) ++ acc5)) := upd_same
      have s6 : Same H (upd H' l6 (.lst (([.ref t] ++ acc) ++ acc5))) := H1s.trans (s3.trans (sm5.trans (same_new hl6 _)))
      generalize upd H' l6 (.lst (([.ref t] ++ acc) ++ acc5)) = H6 at e6 all s6
      obtain ⟨j, v, ev, ej⟩ := atI_mod (xs := ([.ref t] ++ acc) ++ acc5) (c := c) (by simp)
      refine ⟨_, rfl, _, rfl, _, rfl, l6, _, rfl, .inl (SqL.of e6), _, _, rfl, rfl, by show (0 : Int) < _; simp; omega, l6, _, _, v, rfl, rfl, SqL.of e6, ev, ?_⟩
      obtain ⟨d, ed, isd⟩ := all.get' ej
      refine q d v H6 ?_ s6 isd
      have md := List.mem_of_getElem? ed
      rcases List.mem_append.mp md with md | md
      · rcases List.mem_append.mp md with md | md
        · rw [List.mem_singleton.mp md]; exact .inl rfl
        · obtain ⟨k, hk, rfl⟩ := List.mem_map.mp md
          have := List.mem_range.mp hk
          exact .inr (.inl ⟨k, by omega, by omega, rfl⟩)
      · obtain ⟨k, hk, rfl⟩ := List.mem_map.mp md
        have := List.mem_range.mp hk
        exact .inr (.inr ⟨k, by omega, by omega, rfl⟩)

theorem ok_ask (F : Fun K "_law_ask" "_law_ask" s_ask f fd) (m_range : mg "range" = none) (m_tuple : mg "tuple" = none) (c_law_draw : Cl P w K mg base "_law_draw" n ["_law_script", "_law_k"] (spDraw K)) (c_law_number : Cl P w K mg base "_law_number" n ["_law_cell"] spNumber)
    (c_law_node : Cl P w K mg base "_law_node" n ["_law_cell", "_law_names", "_law_rows"] (spNode K)) (c_law_goal : Cl P w K mg base "_law_goal" n ["_law_cell", "_law_at", "_law_many"] spGoal) : FnOk P w K mg base CX0 (n + 1) f fd ["_law_script", "_law_start", "_law_names", "_law_rows", "_law_at", "_law_lines", "_law_many"] (spLn K 900) := by
  refine F.ok sc_ask (fun vs H Q E h => ?_) (fun cdv A outer s H vs Q E hr h => ?_)
  · obtain ⟨a, ns, start, nm, rw, at_, many, al, ls, rfl, _⟩ := h
    rfl
  obtain ⟨a, ns, start, nm, rw, at_, many, al, ls, rfl, C, hat, z0, z1, hnm, hrw, ha, hm, q⟩ := h
  have sc := sc_ask
  refine ⟨_, (@pss_cons _ _ _ _ _ (ps_set (i := 7) sc.nd rfl (Or.inl rfl) (pe_lst pa_nil))
      (@pss_cons _ _ _ _ _ (ps_for PassesOwn.never rfl (pi_range1 rfl m_range (pa_cons (pe_op op_add pe_int (pe_op op_mod (pe_cl c_law_draw hr rfl (pa_cons (pv 0) (pa_cons (pv 1) pa_nil))) pe_int)) pa_nil)) (pg_name (i := 8) sc.nd rfl (Or.inl rfl)) (@pss_cons _ _ _ _ _ (ps_set (i := 10) sc.nd rfl (Or.inl rfl) (pe_cl c_law_draw hr rfl (pa_cons (pv 0) (pa_cons (pe_op op_add (pe_op op_add (pv 1) pe_int) (pv 8)) pa_nil))))
      (@pss_cons _ _ _ _ _ (ps_set (i := 11) sc.nd rfl (Or.inl rfl) (pe_cl c_law_node hr rfl (pa_cons (pv 10) (pa_cons (pv 2) (pa_cons (pv 3) pa_nil)))))
      (pss_one (ps_expr (pe_bm PySem.F.plainAttrs_list PySem.F.slot_list_append PySem.F.type_list_append mt_append (pv 7) (pa_cons (pe_tup (pa_cons (pv 11) (pa_cons (pe_cl c_law_node hr rfl (pa_cons (pe_op op_fdiv (pv 10) pe_int) (pa_cons (pv 2) (pa_cons (pv 3) pa_nil)))) (pa_cons (pe_cl c_law_number hr rfl (pa_cons (pe_op op_fdiv (pv 10) pe_int) pa_nil)) pa_nil)))) pa_nil)))))))
      (@pss_cons _ _ _ _ _ (ps_set (i := 9) sc.nd rfl (Or.inl rfl) (pe_lst pa_nil))
      (@pss_cons _ _ _ _ _ (ps_for PassesOwn.never rfl (pi_range1 rfl m_range (pa_cons pe_int pa_nil)) (pg_name (i := 8) sc.nd rfl (Or.inl rfl)) (@pss_cons _ _ _ _ _ (ps_set (i := 12) sc.nd rfl (Or.inl rfl) (pe_cl c_law_goal hr rfl (pa_cons (pe_op op_fdiv (pe_cl c_law_draw hr rfl (pa_cons (pv 0) (pa_cons (pv 1) pa_nil))) (pe_op op_add pe_int (pe_op op_mul pe_int (pv 8)))) (pa_cons (pv 4) (pa_cons (pv 6) pa_nil)))))
      (@pss_cons _ _ _ _ _ (ps_if (PW.pt (pw_or (pt_cmpR op_eq (pv 12) (pv 4) (nomark _)) (pw_or1 (PW.pt (pw_and (pt_cmpR op_lt (pv 12) (pv 4) (nomark _)) (pw_and1 (pt_cmpR op_eq (pe_ix ix_tup (pe_ix ix_list (pv 5) (pv 12) (fun _ _ => rfl)) pe_int (fun _ _ => rfl)) pe_str (nomark _)))))))) (pss_one (ps_set (i := 12) sc.nd rfl (Or.inl rfl) (pe_op op_add (pv 4) pe_int))) pss_nil)
      (pss_one (ps_expr (pe_bm PySem.F.plainAttrs_list PySem.F.slot_list_append PySem.F.type_list_append mt_append (pv 9) (pa_cons (pv 12) pa_nil)))))))
      (pss_one (ps_ret (pe_tup (pa_cons pe_str (pa_cons (pe_callTy call_tuple_of rfl m_tuple PyProof.Rows.boot_tuple (pa_cons (pv 7) pa_nil)) (pa_cons (pe_ix ix_list (pv 9) pe_int (fun _ _ => rfl)) (pa_cons (pe_ix ix_list (pv 9) pe_int (fun _ _ => rfl)) pa_nil))))))))))), ?_⟩
  refine ⟨Nat.le_of_ble_eq_true rfl, fun l hl => ?_⟩
  have C1 := C.same (same_new hl (.lst []))
  refine ⟨_, rfl, _, rfl, a, ns, start, rfl, C1.s, C.n, by omega, by omega, fun c0 => ⟨_, _, rfl, rfl, by show (0 : Int) < 4; decide, _, _, rfl, rfl, _, rfl, by omega, by omega, ?_⟩⟩
  refine for_range (fun j σ H' => Same H H' ∧ ∃ acc bs y8 y10 y11, H' l = some (.lst acc) ∧ IsL K H' (bs.map Bd.D) acc ∧ bs.length = j ∧ (∀ b ∈ bs, Bd.Ok nm rw b) ∧
      σ = [some (.ref a), some (.int start), some (.int (nm : Int)), some (.int (rw : Int)), some (.int (at_ : Int)), some (.ref al), some (.int (many : Int)), some (.ref l), y8, none, y10, y11, none]) ⟨same_new hl _, [], [], _, _, _, upd_same, isl_nil, rfl, fun d hd => by simp at hd, rfl⟩ (fun j σ H' hj h => ?_) (fun σ H' h => ?_)
  · obtain ⟨sm, acc, bs, y8, y10, y11, el, il, ln, hb, rfl⟩ := h
    have hj4 : j < 4 := by omega
    refine ⟨_, rfl, _, rfl, _, _, rfl, rfl, _, rfl, _, _, rfl, rfl, a, ns, _, rfl, (C.same sm).s, C.n, by omega, by omega, fun c1 => ?_⟩
    refine ⟨_, rfl, _, rfl, _, rfl, c1, (nm : Int), (rw : Int), rfl, by omega, by omega, by omega, by omega, fun d1 v1 H1 nd1 s1 is1 => ?_⟩
    refine ⟨_, rfl, .inl ⟨rfl, _, SqL.of (s1 _ _ el)⟩, _, rfl, _, rfl, _, _, rfl, rfl, ⟨by decide, by decide⟩, _, rfl, _, rfl, _, (nm : Int), (rw : Int), rfl, by omega, by omega, by omega, by omega, fun d2 v2 H2 nd2 s2 is2 => ?_⟩
    refine ⟨_, rfl, _, _, rfl, rfl, ⟨by decide, by decide⟩, _, rfl, fun c3 c30 c31 H3 s3 => ⟨Nat.le_of_ble_eq_true rfl, fun t ht => ?_⟩⟩
    obtain ⟨q1, ok1, rfl⟩ := node_nd nd1
    obtain ⟨q2, ok2, rfl⟩ := node_nd nd2
    have el3 := s3 _ _ (s2 _ _ (s1 _ _ el))
    have tn := Tups.new (o := .tup [v1, v2, .int c3]) ht
    have el4 : upd H3 t (.tup [v1, v2, .int c3]) l = some (.lst acc) := by rw [upd_ne (ne_p el3 ht)]; exact el3
    have la := il.length
    rw [List.length_map] at la
    refine ⟨l, acc, .ref t, rfl, rfl, el4, small1000 (by omega), ?_, acc ++ [.ref t], bs ++ [⟨q1, q2, c3⟩], _, _, _, upd_same, ?_, by simp [ln], fun d hd => ?_, rfl⟩
    · exact Same.new (Same.new (sm.trans (s1.trans (s2.trans s3))) (none_of_same (sm.trans (s1.trans (s2.trans s3))) ht)) hl
    · have tl := Tups.lst (ys := acc ++ [.ref t]) el4
      rw [List.map_append]
      refine IsL.append ((((il.mono (s1.trans (s2.trans s3)).tups).mono tn).mono tl)) (isl_cons ?_ isl_nil)
      have et : upd (upd H3 t (.tup [v1, v2, .int c3])) l (.lst (acc ++ [.ref t])) t = some (.tup [v1, v2, .int c3]) := by rw [upd_ne (ne_p el3 ht).symm]; exact upd_same
      exact is_tup (SqT.of et) (isl_cons ((((is1.mono (s2.trans s3).tups).mono tn).mono tl)) (isl_cons (((is2.mono s3.tups).mono tn).mono tl) (isl_cons is_int isl_nil)))
    · rcases List.mem_append.mp hd with hd | hd
      · exact hb d hd
      · rw [List.mem_singleton.mp hd]
        exact ⟨ok1, ok2⟩
  · obtain ⟨sm, acc, bs, y8, y10, y11, el, il, ln, hb, rfl⟩ := h
    have hb4 : 0 < bs.length ∧ bs.length ≤ 4 := by omega
    refine ⟨Nat.le_of_ble_eq_true rfl, fun lg hlg => ?_⟩
    have nlg := none_of_same sm hlg
    have s1 := same_new hlg (.lst [])
    refine ⟨_, rfl, by decide, by decide, ?_⟩
    refine for_range (fun j σ H' => Same H H' ∧ H' l = some (.lst acc) ∧ IsL K H' (bs.map Bd.D) acc ∧ ∃ (gs : List Int) (y8 y10 y11 y12 : Option V), H' lg = some (.lst (gs.map V.int)) ∧ gs.length = j ∧ (∀ g ∈ gs, 0 ≤ g ∧ g < (many : Int)) ∧
        σ = [some (.ref a), some (.int start), some (.int (nm : Int)), some (.int (rw : Int)), some (.int (at_ : Int)), some (.ref al), some (.int (many : Int)), some (.ref l), y8, some (.ref lg), y10, y11, y12]) ⟨sm.trans s1, s1 _ _ el, il.mono s1.tups, [], _, _, _, _, upd_same, rfl, fun g hg => by simp at hg, rfl⟩ (fun j σ H2 hj h => ?_) (fun σ H2 h => ?_)
    · obtain ⟨s2, el2, il2, gs, z8, z10, z11, z12, eg, lg', hg, rfl⟩ := h
      have C2 := C.same s2
      have hj2 : j < 2 := hj
      refine ⟨_, rfl, _, rfl, a, ns, start, rfl, C2.s, C.n, by omega, by omega, fun c1 => ?_⟩
      refine ⟨_, rfl, _, _, rfl, rfl, .inl ⟨by decide, by decide⟩, _, _, rfl, rfl, _, _, rfl, rfl, ⟨by show (0 : Int) < 4 + 96 * (0 + (j : Int)); omega, by show 4 + 96 * (0 + (j : Int)) < 1073741824; omega⟩, _, rfl, _, rfl, _, _, _, rfl, by omega, by omega, by omega, fun g g0 g1 => ?_⟩
      obtain ⟨gn, rfl⟩ : ∃ i : Nat, g = (i : Int) := ⟨g.toNat, by omega⟩
      dsimp only [gName, tSeq]
      refine ifs_nx (fun σ' H' => ∃ g : Int, 0 ≤ g ∧ g < (many : Int) ∧ σ' = [some (.ref a), some (.int start), some (.int (nm : Int)), some (.int (rw : Int)), some (.int (at_ : Int)), some (.ref al), some (.int (many : Int)), some (.ref l), some (.int (0 + (j : Int))), some (.ref lg), z10, z11, some (.int g)] ∧ H2 = H') (fun σ' H' h => ?_) (fun D' kk => ?_)
      rotate_left
      · dsimp only [tIfS, tAnd, tOr, tSeq, tNext]
        refine ⟨_, rfl, _, rfl, rfl, _, rfl, ite2 (fun ca => iteT ⟨_, rfl, _, _, rfl, rfl, kk _ _ ⟨_, by omega, by omega, rfl, rfl⟩⟩) (fun ca => ?_)⟩
        refine ⟨_, rfl, _, rfl, _, _, rfl, rfl, _, rfl, ite2 (fun cb => ?_) (fun cb => iteF (kk _ _ ⟨_, g0, g1, rfl, rfl⟩))⟩
        have hlt : gn < at_ := by have := of_decide_eq_true cb; omega
        obtain ⟨xs, exs, iL⟩ := C2.l
        have eL := List.getElem?_eq_getElem (show gn < ls.length by omega)
        obtain ⟨vl, evl, ivl⟩ := iL.get (j := gn) (d := (ls[gn]'(by omega)).D) (by rw [List.getElem?_map, eL]; rfl)
        obtain ⟨tl, vs', rfl, hq, _⟩ := ln_inv ivl
        refine ⟨_, rfl, _, rfl, al, xs, _, _, rfl, rfl, SqL.of exs, atI_nat evl, tl, _, 0, _, rfl, rfl, hq, at0 _ _, rfl, _, rfl, ite2 (fun cc => ?_) (fun cc => kk _ _ ⟨_, g0, g1, rfl, rfl⟩)⟩
        exact ⟨_, rfl, _, _, rfl, rfl, kk _ _ ⟨_, by omega, by omega, rfl, rfl⟩⟩
      obtain ⟨g', g0', g1', rfl, rfl⟩ := h
      have lgl : lg ≠ l := (ne_p el hlg).symm
      refine ⟨_, rfl, .inl ⟨rfl, _, SqL.of eg⟩, _, rfl, lg, _, _, rfl, rfl, eg, small1000 (by rw [List.length_map]; omega), Same.new s2 nlg, ?_, il2.mono (Tups.lst eg), gs ++ [g'], _, _, _, _, ?_, by simp [lg'], fun x hx => ?_, rfl⟩
      · rw [upd_ne lgl.symm]; exact el2
      · rw [List.map_append]; exact upd_same
      · rcases List.mem_append.mp hx with hx | hx
        · exact hg x hx
        · rw [List.mem_singleton.mp hx]; exact ⟨g0', g1'⟩
    · obtain ⟨s2, el2, il2, gs, z8, z10, z11, z12, eg, lg', hg, rfl⟩ := h
      obtain ⟨g1, g2, rfl⟩ : ∃ g1 g2, gs = [g1, g2] := by
        match gs, lg' with
        | [g1, g2], _ => exact ⟨g1, g2, rfl⟩
      have h1 := hg g1 (List.mem_cons_self ..)
      have h2 := hg g2 (List.mem_cons_of_mem _ (List.mem_cons_self ..))
      obtain ⟨k, rfl⟩ : ∃ i : Nat, g1 = (i : Int) := ⟨g1.toNat, by omega⟩
      obtain ⟨m, rfl⟩ : ∃ i : Nat, g2 = (i : Int) := ⟨g2.toNat, by omega⟩
      refine ⟨_, rfl, l, acc, rfl, .inl ⟨SqL.of el2, fun t2 ht2 => ?_⟩⟩
      have u2 := same_new ht2 (.tup acc)
      have eg2 := u2 _ _ eg
      refine ⟨_, rfl, lg, _, 0, _, rfl, rfl, SqL.of eg2, at0 _ _, _, rfl, lg, _, 1, _, rfl, rfl, SqL.of eg2, at1 _ _ _, Nat.le_of_ble_eq_true rfl, fun t3 ht3 => ?_⟩
      have u3 := same_new ht3 (.tup [.str "ask", .ref t2, .int (k : Int), .int (m : Int)])
      refine q (.ask bs k m) _ _ ⟨hb, ⟨hb4.1, by omega⟩, by omega, by omega⟩ (s2.trans (u2.trans u3)) ?_
      exact is_tup (SqT.of upd_same) (isl_cons is_str (isl_cons ((is_tup (SqT.of upd_same) (il2.mono u2.tups)).mono u3.tups) (isl_cons is_int (isl_cons is_int isl_nil))))
end
end K43
set_option Elab.async false
set_option linter.all false
set_option maxRecDepth 100000
set_option maxHeartbeats 4000000
namespace K43
open PySem PySem.Spec PyProof.Rows L2
noncomputable abbrev s_line : Stmt := top 32
noncomputable abbrev s_program : Stmt := top 33
theorem in2 {x a b : Str} : inV (.str x) [.str a, .str b] = true ↔ x = a ∨ x = b := by
  show (([V.str a, V.str b]).any fun y => eqV y (.str x)) = true ↔ _
  simp only [List.any_cons, List.any_nil, Bool.or_false, Bool.or_eq_true]
  show (a == x) = true ∨ (b == x) = true ↔ _
  simp only [beq_iff_eq]
  constructor
  · rintro (h | h); exact .inl h.symm; exact .inr h.symm
  · rintro (h | h); exact .inl h.symm; exact .inr h.symm
theorem and_pure {t u : TT} {σ : L2.St} {H : Hp} {Q : Bool → Hp → Prop} (b1 b2 : Bool) (ht : ∀ Q' : Bool → Hp → Prop, Q' b1 H → t σ H Q') (hu : b1 = true → ∀ Q' : Bool → Hp → Prop, Q' b2 H → u σ H Q') (h : Q (b1 && b2) H) : tAnd t u σ H Q := by
  refine ht _ ?_
  cases b1 with
  | true => rw [if_pos rfl]; exact hu rfl _ (by simpa using h)
  | false => rw [if_neg Bool.false_ne_true]; simpa using h
theorem isI {K : PySem.W.Frag} {H : Hp} {i j : Int} (h : j = i) : Is K H (.int i) (.int j) := h ▸ is_int
theorem two_v {x y : V} (b : Bool) : ∃ z : V, atI [x, y] (if b then 1 else 0) = some z ∧ ((b = false ∧ z = x) ∨ (b = true ∧ z = y)) := by
  cases b with
  | true => exact ⟨y, rfl, .inr ⟨rfl, rfl⟩⟩
  | false => exact ⟨x, rfl, .inl ⟨rfl, rfl⟩⟩
theorem at_mem {xs : List V} {i : Int} (h0 : 0 ≤ i) (h1 : i < (xs.length : Int)) : ∃ v, atI xs i = some v ∧ v ∈ xs := by
  obtain ⟨j, rfl⟩ : ∃ j : Nat, i = (j : Int) := ⟨i.toNat, by omega⟩
  have hj : j < xs.length := by omega
  exact ⟨xs[j], atI_nat (List.getElem?_eq_getElem hj), List.getElem_mem hj⟩
noncomputable def WordOk (nm rw : Nat) (w : Str) : Prop := w = "test" ∨ w = "ask" ∨ w = "end" ∨ (0 < nm ∧ (w = "set" ∨ w = "sum" ∨ w = "take" ∨ w = "tell")) ∨ (0 < nm ∧ 0 < rw ∧ (w = "len" ∨ w = "get" ∨ w = "put"))
noncomputable abbrev wA : List V := [.str "test", .str "ask", .str "end", .str "test"]
noncomputable abbrev wB : List V := [.str "set", .str "sum", .str "take", .str "tell", .str "set", .str "test"]
noncomputable abbrev wC : List V := [.str "len", .str "get", .str "put", .str "get", .str "put"]
noncomputable abbrev wD : List V := [.str "len", .str "get", .str "put", .str "get", .str "put", .str "test", .str "set"]
theorem mem_A {nm rw : Nat} {v : V} (h : v ∈ wA) : ∃ w, v = .str w ∧ WordOk nm rw w := by
  simp only [wA, List.mem_cons, List.not_mem_nil, or_false] at h
  rcases h with rfl | rfl | rfl | rfl
  · exact ⟨_, rfl, .inl rfl⟩
  · exact ⟨_, rfl, .inr (.inl rfl)⟩
  · exact ⟨_, rfl, .inr (.inr (.inl rfl))⟩
  · exact ⟨_, rfl, .inl rfl⟩
theorem mem_B {nm rw : Nat} {v : V} (hn : 0 < nm) (h : v ∈ wB) : ∃ w, v = .str w ∧ WordOk nm rw w := by
  simp only [wB, List.mem_cons, List.not_mem_nil, or_false] at h
  rcases h with rfl | rfl | rfl | rfl | rfl | rfl
  · exact ⟨_, rfl, .inr (.inr (.inr (.inl ⟨hn, .inl rfl⟩)))⟩
  · exact ⟨_, rfl, .inr (.inr (.inr (.inl ⟨hn, .inr (.inl rfl)⟩)))⟩
  · exact ⟨_, rfl, .inr (.inr (.inr (.inl ⟨hn, .inr (.inr (.inl rfl))⟩)))⟩
  · exact ⟨_, rfl, .inr (.inr (.inr (.inl ⟨hn, .inr (.inr (.inr rfl))⟩)))⟩
  · exact ⟨_, rfl, .inr (.inr (.inr (.inl ⟨hn, .inl rfl⟩)))⟩
  · exact ⟨_, rfl, .inl rfl⟩
theorem mem_D {nm rw : Nat} {v : V} (hn : 0 < nm) (hr : 0 < rw) (h : v ∈ wD) : ∃ w, v = .str w ∧ WordOk nm rw w := by
  simp only [wD, List.mem_cons, List.not_mem_nil, or_false] at h
  rcases h with rfl | rfl | rfl | rfl | rfl | rfl | rfl
  · exact ⟨_, rfl, .inr (.inr (.inr (.inr ⟨hn, hr, .inl rfl⟩)))⟩
  · exact ⟨_, rfl, .inr (.inr (.inr (.inr ⟨hn, hr, .inr (.inl rfl)⟩)))⟩
  · exact ⟨_, rfl, .inr (.inr (.inr (.inr ⟨hn, hr, .inr (.inr rfl)⟩)))⟩
  · exact ⟨_, rfl, .inr (.inr (.inr (.inr ⟨hn, hr, .inr (.inl rfl)⟩)))⟩
  · exact ⟨_, rfl, .inr (.inr (.inr (.inr ⟨hn, hr, .inr (.inr rfl)⟩)))⟩
  · exact ⟨_, rfl, .inl rfl⟩
  · exact ⟨_, rfl, .inr (.inr (.inr (.inl ⟨hn, .inl rfl⟩)))⟩
theorem mem_C {nm rw : Nat} {v : V} (hn : 0 < nm) (hr : 0 < rw) (h : v ∈ wC) : ∃ w, v = .str w ∧ WordOk nm rw w := by
  refine mem_D hn hr ?_
  simp only [wC, List.mem_cons, List.not_mem_nil, or_false] at h
  simp only [wD, List.mem_cons, List.not_mem_nil, or_false]
  rcases h with rfl | rfl | rfl | rfl | rfl
  · exact .inl rfl
  · exact .inr (.inl rfl)
  · exact .inr (.inr (.inl rfl))
  · exact .inr (.inl rfl)
  · exact .inr (.inr (.inl rfl))
noncomputable def On (nm : Nat) (τ : Int) : Prop := (τ = 0 ∧ nm = 0) ∨ (τ = 1 ∧ 0 < nm)
noncomputable def On2 (nm rw : Nat) (τ : Int) : Prop := τ = 0 ∨ (τ = 1 ∧ 0 < nm ∧ 0 < rw)
theorem on_ex (nm : Nat) : ∃ τ : Int, (if decide ((0 : Int) < (nm : Int)) = true then (1 : Int) else 0) = τ ∧ On nm τ := by
  by_cases h : (0 : Int) < (nm : Int)
  · exact ⟨1, if_pos (decide_eq_true h), .inr ⟨rfl, by omega⟩⟩
  · exact ⟨0, if_neg (fun z => h (of_decide_eq_true z)), .inl ⟨rfl, by omega⟩⟩
theorem pos_mul {nm rw : Nat} (h : (0 : Int) < (nm : Int) * (rw : Int)) : 0 < nm ∧ 0 < rw := by
  rcases Nat.eq_zero_or_pos nm with e | h1
  · rw [e, show ((0 : Nat) : Int) = 0 from rfl, Int.zero_mul] at h; omega
  rcases Nat.eq_zero_or_pos rw with e | h2
  · rw [e, show ((0 : Nat) : Int) = 0 from rfl, Int.mul_zero] at h; omega
  exact ⟨h1, h2⟩
theorem on2_ex (nm rw : Nat) : ∃ τ : Int, (if decide ((0 : Int) < (nm : Int) * (rw : Int)) = true then (1 : Int) else 0) = τ ∧ On2 nm rw τ := by
  by_cases h : (0 : Int) < (nm : Int) * (rw : Int)
  · exact ⟨1, if_pos (decide_eq_true h), .inr ⟨rfl, pos_mul h⟩⟩
  · exact ⟨0, if_neg (fun z => h (of_decide_eq_true z)), .inl rfl⟩
theorem On.b {nm : Nat} {τ : Int} (h : On nm τ) : 0 ≤ τ ∧ τ ≤ 1 := by rcases h with ⟨rfl, _⟩ | ⟨rfl, _⟩ <;> decide
theorem On2.b {nm rw : Nat} {τ : Int} (h : On2 nm rw τ) : 0 ≤ τ ∧ τ ≤ 1 := by rcases h with rfl | ⟨rfl, _⟩ <;> decide
theorem rep_b {τ : Int} (h : 0 ≤ τ ∧ τ ≤ 1) {xs : List V} (hx : xs.length ≤ 10) : -(2 ^ 63) ≤ τ ∧ τ < 2 ^ 63 ∧ xs.length * τ.toNat ≤ sizeLine := by
  refine ⟨by omega, by omega, small (Nat.le_trans (Nat.mul_le_mul_left _ (show τ.toNat ≤ 1 by omega)) (by omega))⟩
theorem rep_len {τ : Int} (h : 0 ≤ τ ∧ τ ≤ 1) {xs : List V} (hx : xs.length ≤ 10) : (List.replicate τ.toNat xs).flatten.length ≤ 10 := by
  rw [len_rep]
  exact Nat.le_trans (Nat.mul_le_mul_right _ (show τ.toNat ≤ 1 by omega)) (by omega)
theorem mem_rep {τ : Int} {xs : List V} {v : V} (h : v ∈ (List.replicate τ.toNat xs).flatten) : τ ≠ 0 ∧ v ∈ xs := by
  obtain ⟨l, hl, hv⟩ := List.mem_flatten.mp h
  obtain ⟨h1, h2⟩ := List.mem_replicate.mp hl
  exact ⟨fun e => h1 (by rw [e]; rfl), h2 ▸ hv⟩
theorem line_word {c τ1 τ2 : Int} {nm rw : Nat} (h1 : On nm τ1) (h2 : On2 nm rw τ2) : ∃ wd, atI ((wA ++ (List.replicate τ1.toNat wB).flatten) ++ (List.replicate τ2.toNat wC).flatten) (c % 17 % (4 + 6 * τ1)) = some (.str wd) ∧ WordOk nm rw wd := by
  have hb := h1.b
  have i0 : 0 ≤ c % 17 % (4 + 6 * τ1) := Int.emod_nonneg _ (by omega)
  have i1 : c % 17 % (4 + 6 * τ1) < 4 + 6 * τ1 := Int.emod_lt_of_pos _ (by omega)
  obtain ⟨v, ev, mv⟩ := at_mem (xs := (wA ++ (List.replicate τ1.toNat wB).flatten) ++ (List.replicate τ2.toNat wC).flatten) i0 (by
    rw [List.length_append, List.length_append, len_rep, len_rep]
    have e1 : wA.length = 4 := rfl
    have e2 : wB.length = 6 := rfl
    rw [e1, e2]
    omega)
  have hv : ∃ w, v = .str w ∧ WordOk nm rw w := by
    rcases List.mem_append.mp mv with m | m
    · rcases List.mem_append.mp m with m | m
      · exact mem_A m
      · obtain ⟨t, m⟩ := mem_rep m
        rcases h1 with ⟨e, _⟩ | ⟨_, hn⟩
        · exact absurd e t
        · exact mem_B hn m
    · obtain ⟨t, m⟩ := mem_rep m
      rcases h2 with e | ⟨_, hn, hr⟩
      · exact absurd e t
      · exact mem_C hn hr m
  obtain ⟨w, rfl, hw⟩ := hv
  exact ⟨w, ev, hw⟩
theorem line_word2 {c : Int} {nm rw : Nat} (hn : 0 < nm) (hr : 0 < rw) (h : (9 : Int) < c % 17) : ∃ wd, atI wD (c % 17 - 10) = some (.str wd) ∧ WordOk nm rw wd := by
  have h2 : c % 17 < 17 := Int.emod_lt_of_pos _ (by decide)
  obtain ⟨v, ev, mv⟩ := at_mem (xs := wD) (i := c % 17 - 10) (by omega) (by show _ < (7 : Int); omega)
  obtain ⟨w, rfl, hw⟩ := mem_D (nm := nm) (rw := rw) hn hr mv
  exact ⟨w, ev, hw⟩
theorem sc_line : FnScope ["_law_script", "_law_start", "_law_names", "_law_rows", "_law_at", "_law_lines", "_law_many", "_law_cell", "_law_some", "_law_word", "_law_rest", "_law_goal_here", "_law_x", "_law_y", "_law_c", "_law_row"] ["_law_script", "_law_start", "_law_names", "_law_rows", "_law_at", "_law_lines", "_law_many"] (defScope s_line) := ⟨rfl, rfl, rfl, by decide +kernel, rfl, by decide +kernel, by decide +kernel⟩
section
variable {P : Program} {w : World} {K : PySem.W.Frag} {mg : Str → Option Value} {base : Heap} {f : Addr} {fd : FuncData} {n : Nat}
theorem is_deed {H : Hp} {d : Deed} {k : Nat} {t : Addr} {vs : List V} (e : H t = some (.tup (.str d.word :: vs))) (h : IsL K H (d.args ++ [.int (k : Int)]) vs) : Is K H (Ln.D (.deed d k)) (.ref t) := is_tup (SqT.of e) (isl_cons is_str h)
theorem ok_line (F : Fun K "_law_line" "_law_line" s_line f fd) (m_int : mg "int" = none) (c_law_draw : Cl P w K mg base "_law_draw" n ["_law_script", "_law_k"] (spDraw K)) (c_law_number : Cl P w K mg base "_law_number" n ["_law_cell"] spNumber)
    (c_law_goal : Cl P w K mg base "_law_goal" n ["_law_cell", "_law_at", "_law_many"] spGoal) (c_law_maybe : Cl P w K mg base "_law_maybe" n ["_law_cell", "_law_names"] spMaybe) (c_law_ask : Cl P w K mg base "_law_ask" n ["_law_script", "_law_start", "_law_names", "_law_rows", "_law_at", "_law_lines", "_law_many"] (spLn K 900)) :
    FnOk P w K mg base CX0 (n + 1) f fd ["_law_script", "_law_start", "_law_names", "_law_rows", "_law_at", "_law_lines", "_law_many"] (spLn K 800) := by
  refine F.ok sc_line (fun vs H Q E h => ?_) (fun cdv A outer s H vs Q E hr h => ?_)
  · obtain ⟨a, ns, start, nm, rw, at_, many, al, ls, rfl, _⟩ := h
    rfl
  obtain ⟨a, ns, start, nm, rw, at_, many, al, ls, rfl, C, hat, z0, z1, hnm, hrw, ha, hm, q⟩ := h
  have sc := sc_line
  refine ⟨_, (@pss_cons _ _ _ _ _ (@ps_set _ _ (7) _ _ _ _ sc.nd rfl (Or.inl rfl) (@pe_cl _ _ _ _ _ _ _ _ _ _ c_law_draw hr rfl (@pa_cons _ _ _ _ _ (@pv _ 0 _ _ (by first | rfl | decide | exact .inl rfl | exact .inr rfl) (by first | rfl | decide | exact .inl rfl | exact .inr rfl) (by first | rfl | decide | exact .inl rfl | exact .inr rfl) (by first | rfl | decide | exact .inl rfl | exact .inr rfl)) (@pa_cons _ _ _ _ _ (@pv _ 1 _ _ (by first | rfl | decide | exact .inl rfl | exact .inr rfl) (by first | rfl | decide | exact .inl rfl | exact .inr rfl) (by first | rfl | decide | exact .inl rfl | exact .inr rfl) (by first | rfl | decide | exact .inl rfl | exact .inr rfl)) (@pa_nil _) (by first | rfl | decide | exact .inl rfl | exact .inr rfl)) (by first | rfl | decide | exact .inl rfl | exact .inr rfl)) (by first | rfl | decide | exact .inl rfl | exact .inr rfl) (by first | rfl | decide | exact .inl rfl | exact .inr rfl) (by first | rfl | decide | exact .inl rfl | exact .inr rfl)) (by first | rfl | decide | exact .inl rfl | exact .inr rfl) (by first | rfl | decide | exact .inl rfl | exact .inr rfl)) (@pss_cons _ _ _ _ _ (@ps_set _ _ (8) _ _ _ _ sc.nd rfl (Or.inl rfl) (@pe_op _ _ _ _ _ _ _ _ (@op_cat _) (@pe_lst _ _ _ _ (@pa_consts _ _ _ rfl)) (@pe_op _ _ _ _ _ _ _ _ (@op_rep _) (@pe_lst _ _ _ _ (@pa_consts _ _ _ rfl)) (@pe_callTy _ _ _ _ _ _ _ _ _ (@call_int1 _) rfl m_int PyProof.Rows.boot_int (@pa_cons _ _ _ _ _ (@pe_cmpR _ _ _ _ _ _ _ _ (@op_gt _) (@pv _ 2 _ _ (by first | rfl | decide | exact .inl rfl | exact .inr rfl) (by first | rfl | decide | exact .inl rfl | exact .inr rfl) (by first | rfl | decide | exact .inl rfl | exact .inr rfl) (by first | rfl | decide | exact .inl rfl | exact .inr rfl)) (@pe_int _ _ _ _) (nomark _)) (@pa_nil _) (by first | rfl | decide | exact .inl rfl | exact .inr rfl)) (by first | rfl | decide | exact .inl rfl | exact .inr rfl) (by first | rfl | decide | exact .inl rfl | exact .inr rfl) (by first | rfl | decide | exact .inl rfl | exact .inr rfl) (by first | rfl | decide | exact .inl rfl | exact .inr rfl)))) (by first | rfl | decide | exact .inl rfl | exact .inr rfl) (by first | rfl | decide | exact .inl rfl | exact .inr rfl)) (@pss_cons _ _ _ _ _ (@ps_set _ _ (9) _ _ _ _ sc.nd rfl (Or.inl rfl) (@pe_ix _ _ _ _ _ _ _ (@ix_list _) (@pe_op _ _ _ _ _ _ _ _ (@op_cat _) (@pv _ 8 _ _ (by first | rfl | decide | exact .inl rfl | exact .inr rfl) (by first | rfl | decide | exact .inl rfl | exact .inr rfl) (by first | rfl | decide | exact .inl rfl | exact .inr rfl) (by first | rfl | decide | exact .inl rfl | exact .inr rfl)) (@pe_op _ _ _ _ _ _ _ _ (@op_rep _) (@pe_lst _ _ _ _ (@pa_consts _ _ _ rfl)) (@pe_callTy _ _ _ _ _ _ _ _ _ (@call_int1 _) rfl m_int PyProof.Rows.boot_int (@pa_cons _ _ _ _ _ (@pe_cmpR _ _ _ _ _ _ _ _ (@op_gt _) (@pe_op _ _ _ _ _ _ _ _ (@op_mul _) (@pv _ 2 _ _ (by first | rfl | decide | exact .inl rfl | exact .inr rfl) (by first | rfl | decide | exact .inl rfl | exact .inr rfl) (by first | rfl | decide | exact .inl rfl | exact .inr rfl) (by first | rfl | decide | exact .inl rfl | exact .inr rfl)) (@pv _ 3 _ _ (by first | rfl | decide | exact .inl rfl | exact .inr rfl) (by first | rfl | decide | exact .inl rfl | exact .inr rfl) (by first | rfl | decide | exact .inl rfl | exact .inr rfl) (by first | rfl | decide | exact .inl rfl | exact .inr rfl))) (@pe_int _ _ _ _) (nomark _)) (@pa_nil _) (by first | rfl | decide | exact .inl rfl | exact .inr rfl)) (by first | rfl | decide | exact .inl rfl | exact .inr rfl) (by first | rfl | decide | exact .inl rfl | exact .inr rfl) (by first | rfl | decide | exact .inl rfl | exact .inr rfl) (by first | rfl | decide | exact .inl rfl | exact .inr rfl)))) (@pe_op _ _ _ _ _ _ _ _ (@op_mod _) (@pe_op _ _ _ _ _ _ _ _ (@op_mod _) (@pv _ 7 _ _ (by first | rfl | decide | exact .inl rfl | exact .inr rfl) (by first | rfl | decide | exact .inl rfl | exact .inr rfl) (by first | rfl | decide | exact .inl rfl | exact .inr rfl) (by first | rfl | decide | exact .inl rfl | exact .inr rfl)) (@pe_int _ _ _ _)) (@pe_op _ _ _ _ _ _ _ _ (@op_add _) (@pe_int _ _ _ _) (@pe_op _ _ _ _ _ _ _ _ (@op_mul _) (@pe_int _ _ _ _) (@pe_callTy _ _ _ _ _ _ _ _ _ (@call_int1 _) rfl m_int PyProof.Rows.boot_int (@pa_cons _ _ _ _ _ (@pe_cmpR _ _ _ _ _ _ _ _ (@op_gt _) (@pv _ 2 _ _ (by first | rfl | decide | exact .inl rfl | exact .inr rfl) (by first | rfl | decide | exact .inl rfl | exact .inr rfl) (by first | rfl | decide | exact .inl rfl | exact .inr rfl) (by first | rfl | decide | exact .inl rfl | exact .inr rfl)) (@pe_int _ _ _ _) (nomark _)) (@pa_nil _) (by first | rfl | decide | exact .inl rfl | exact .inr rfl)) (by first | rfl | decide | exact .inl rfl | exact .inr rfl) (by first | rfl | decide | exact .inl rfl | exact .inr rfl) (by first | rfl | decide | exact .inl rfl | exact .inr rfl) (by first | rfl | decide | exact .inl rfl | exact .inr rfl))))) (fun _ _ => rfl)) (by first | rfl | decide | exact .inl rfl | exact .inr rfl) (by first | rfl | decide | exact .inl rfl | exact .inr rfl)) (@pss_cons _ _ _ _ _ (@ps_if _ _ _ _ _ _ _ _ (@PW.pt _ _ _ (@pw_and _ _ _ _ _ _ _ (@pt_cmpR _ _ _ _ _ _ _ _ (@op_gt _) (@pe_op _ _ _ _ _ _ _ _ (@op_mul _) (@pv _ 2 _ _ (by first | rfl | decide | exact .inl rfl | exact .inr rfl) (by first | rfl | decide | exact .inl rfl | exact .inr rfl) (by first | rfl | decide | exact .inl rfl | exact .inr rfl) (by first | rfl | decide | exact .inl rfl | exact .inr rfl)) (@pv _ 3 _ _ (by first | rfl | decide | exact .inl rfl | exact .inr rfl) (by first | rfl | decide | exact .inl rfl | exact .inr rfl) (by first | rfl | decide | exact .inl rfl | exact .inr rfl) (by first | rfl | decide | exact .inl rfl | exact .inr rfl))) (@pe_int _ _ _ _) (nomark _)) (@pw_and1 _ _ _ _ (@pt_cmpR _ _ _ _ _ _ _ _ (@op_gt _) (@pe_op _ _ _ _ _ _ _ _ (@op_mod _) (@pv _ 7 _ _ (by first | rfl | decide | exact .inl rfl | exact .inr rfl) (by first | rfl | decide | exact .inl rfl | exact .inr rfl) (by first | rfl | decide | exact .inl rfl | exact .inr rfl) (by first | rfl | decide | exact .inl rfl | exact .inr rfl)) (@pe_int _ _ _ _)) (@pe_int _ _ _ _) (nomark _))))) (@pss_one _ _ _ (@ps_set _ _ (9) _ _ _ _ sc.nd rfl (Or.inl rfl) (@pe_ix _ _ _ _ _ _ _ (@ix_list _) (@pe_lst _ _ _ _ (@pa_consts _ _ _ rfl)) (@pe_op _ _ _ _ _ _ _ _ (@op_sub _) (@pe_op _ _ _ _ _ _ _ _ (@op_mod _) (@pv _ 7 _ _ (by first | rfl | decide | exact .inl rfl | exact .inr rfl) (by first | rfl | decide | exact .inl rfl | exact .inr rfl) (by first | rfl | decide | exact .inl rfl | exact .inr rfl) (by first | rfl | decide | exact .inl rfl | exact .inr rfl)) (@pe_int _ _ _ _)) (@pe_int _ _ _ _)) (fun _ _ => rfl)) (by first | rfl | decide | exact .inl rfl | exact .inr rfl) (by first | rfl | decide | exact .inl rfl | exact .inr rfl))) (@pss_nil _)) (@pss_cons _ _ _ _ _ (@ps_set _ _ (10) _ _ _ _ sc.nd rfl (Or.inl rfl) (@pe_op _ _ _ _ _ _ _ _ (@op_fdiv _) (@pv _ 7 _ _ (by first | rfl | decide | exact .inl rfl | exact .inr rfl) (by first | rfl | decide | exact .inl rfl | exact .inr rfl) (by first | rfl | decide | exact .inl rfl | exact .inr rfl) (by first | rfl | decide | exact .inl rfl | exact .inr rfl)) (@pe_int _ _ _ _)) (by first | rfl | decide | exact .inl rfl | exact .inr rfl) (by first | rfl | decide | exact .inl rfl | exact .inr rfl)) (@pss_cons _ _ _ _ _ (@ps_set _ _ (11) _ _ _ _ sc.nd rfl (Or.inl rfl) (@pe_cl _ _ _ _ _ _ _ _ _ _ c_law_goal hr rfl (@pa_cons _ _ _ _ _ (@pe_op _ _ _ _ _ _ _ _ (@op_fdiv _) (@pv _ 10 _ _ (by first | rfl | decide | exact .inl rfl | exact .inr rfl) (by first | rfl | decide | exact .inl rfl | exact .inr rfl) (by first | rfl | decide | exact .inl rfl | exact .inr rfl) (by first | rfl | decide | exact .inl rfl | exact .inr rfl)) (@pe_int _ _ _ _)) (@pa_cons _ _ _ _ _ (@pv _ 4 _ _ (by first | rfl | decide | exact .inl rfl | exact .inr rfl) (by first | rfl | decide | exact .inl rfl | exact .inr rfl) (by first | rfl | decide | exact .inl rfl | exact .inr rfl) (by first | rfl | decide | exact .inl rfl | exact .inr rfl)) (@pa_cons _ _ _ _ _ (@pv _ 6 _ _ (by first | rfl | decide | exact .inl rfl | exact .inr rfl) (by first | rfl | decide | exact .inl rfl | exact .inr rfl) (by first | rfl | decide | exact .inl rfl | exact .inr rfl) (by first | rfl | decide | exact .inl rfl | exact .inr rfl)) (@pa_nil _) (by first | rfl | decide | exact .inl rfl | exact .inr rfl)) (by first | rfl | decide | exact .inl rfl | exact .inr rfl)) (by first | rfl | decide | exact .inl rfl | exact .inr rfl)) (by first | rfl | decide | exact .inl rfl | exact .inr rfl) (by first | rfl | decide | exact .inl rfl | exact .inr rfl) (by first | rfl | decide | exact .inl rfl | exact .inr rfl)) (by first | rfl | decide | exact .inl rfl | exact .inr rfl) (by first | rfl | decide | exact .inl rfl | exact .inr rfl)) (@pss_cons _ _ _ _ _ (@ps_if _ _ _ _ _ _ _ _ (@pt_cmpR _ _ _ _ _ _ _ _ (@op_eq _) (@pv _ 9 _ _ (by first | rfl | decide | exact .inl rfl | exact .inr rfl) (by first | rfl | decide | exact .inl rfl | exact .inr rfl) (by first | rfl | decide | exact .inl rfl | exact .inr rfl) (by first | rfl | decide | exact .inl rfl | exact .inr rfl)) (@pe_str _ _ _ _) (nomark _)) (@pss_one _ _ _ (@ps_ret _ _ _ _ (@pe_cl _ _ _ _ _ _ _ _ _ _ c_law_ask hr rfl (@pa_cons _ _ _ _ _ (@pv _ 0 _ _ (by first | rfl | decide | exact .inl rfl | exact .inr rfl) (by first | rfl | decide | exact .inl rfl | exact .inr rfl) (by first | rfl | decide | exact .inl rfl | exact .inr rfl) (by first | rfl | decide | exact .inl rfl | exact .inr rfl)) (@pa_cons _ _ _ _ _ (@pe_op _ _ _ _ _ _ _ _ (@op_add _) (@pv _ 1 _ _ (by first | rfl | decide | exact .inl rfl | exact .inr rfl) (by first | rfl | decide | exact .inl rfl | exact .inr rfl) (by first | rfl | decide | exact .inl rfl | exact .inr rfl) (by first | rfl | decide | exact .inl rfl | exact .inr rfl)) (@pe_int _ _ _ _)) (@pa_cons _ _ _ _ _ (@pv _ 2 _ _ (by first | rfl | decide | exact .inl rfl | exact .inr rfl) (by first | rfl | decide | exact .inl rfl | exact .inr rfl) (by first | rfl | decide | exact .inl rfl | exact .inr rfl) (by first | rfl | decide | exact .inl rfl | exact .inr rfl)) (@pa_cons _ _ _ _ _ (@pv _ 3 _ _ (by first | rfl | decide | exact .inl rfl | exact .inr rfl) (by first | rfl | decide | exact .inl rfl | exact .inr rfl) (by first | rfl | decide | exact .inl rfl | exact .inr rfl) (by first | rfl | decide | exact .inl rfl | exact .inr rfl)) (@pa_cons _ _ _ _ _ (@pv _ 4 _ _ (by first | rfl | decide | exact .inl rfl | exact .inr rfl) (by first | rfl | decide | exact .inl rfl | exact .inr rfl) (by first | rfl | decide | exact .inl rfl | exact .inr rfl) (by first | rfl | decide | exact .inl rfl | exact .inr rfl)) (@pa_cons _ _ _ _ _ (@pv _ 5 _ _ (by first | rfl | decide | exact .inl rfl | exact .inr rfl) (by first | rfl | decide | exact .inl rfl | exact .inr rfl) (by first | rfl | decide | exact .inl rfl | exact .inr rfl) (by first | rfl | decide | exact .inl rfl | exact .inr rfl)) (@pa_cons _ _ _ _ _ (@pv _ 6 _ _ (by first | rfl | decide | exact .inl rfl | exact .inr rfl) (by first | rfl | decide | exact .inl rfl | exact .inr rfl) (by first | rfl | decide | exact .inl rfl | exact .inr rfl) (by first | rfl | decide | exact .inl rfl | exact .inr rfl)) (@pa_nil _) (by first | rfl | decide | exact .inl rfl | exact .inr rfl)) (by first | rfl | decide | exact .inl rfl | exact .inr rfl)) (by first | rfl | decide | exact .inl rfl | exact .inr rfl)) (by first | rfl | decide | exact .inl rfl | exact .inr rfl)) (by first | rfl | decide | exact .inl rfl | exact .inr rfl)) (by first | rfl | decide | exact .inl rfl | exact .inr rfl)) (by first | rfl | decide | exact .inl rfl | exact .inr rfl)) (by first | rfl | decide | exact .inl rfl | exact .inr rfl) (by first | rfl | decide | exact .inl rfl | exact .inr rfl) (by first | rfl | decide | exact .inl rfl | exact .inr rfl)))) (@pss_nil _)) (@pss_cons _ _ _ _ _ (@ps_if _ _ _ _ _ _ _ _ (@pt_cmpR _ _ _ _ _ _ _ _ (@op_eq _) (@pv _ 9 _ _ (by first | rfl | decide | exact .inl rfl | exact .inr rfl) (by first | rfl | decide | exact .inl rfl | exact .inr rfl) (by first | rfl | decide | exact .inl rfl | exact .inr rfl) (by first | rfl | decide | exact .inl rfl | exact .inr rfl)) (@pe_str _ _ _ _) (nomark _)) (@pss_one _ _ _ (@ps_ret _ _ _ _ (@pe_ix _ _ _ _ _ _ _ (@ix_list _) (@pe_lst _ _ _ _ (@pa_cons _ _ _ _ _ (@pe_tup _ _ _ _ _ (@pa_cons _ _ _ _ _ (@pe_str _ _ _ _) (@pa_nil _) (by first | rfl | decide | exact .inl rfl | exact .inr rfl))) (@pa_cons _ _ _ _ _ (@pe_tup _ _ _ _ _ (@pa_cons _ _ _ _ _ (@pe_str _ _ _ _) (@pa_cons _ _ _ _ _ (@pe_non _ _ _) (@pa_cons _ _ _ _ _ (@pe_non _ _ _) (@pa_cons _ _ _ _ _ (@pe_int _ _ _ _) (@pa_cons _ _ _ _ _ (@pv _ 11 _ _ (by first | rfl | decide | exact .inl rfl | exact .inr rfl) (by first | rfl | decide | exact .inl rfl | exact .inr rfl) (by first | rfl | decide | exact .inl rfl | exact .inr rfl) (by first | rfl | decide | exact .inl rfl | exact .inr rfl)) (@pa_cons _ _ _ _ _ (@pv _ 4 _ _ (by first | rfl | decide | exact .inl rfl | exact .inr rfl) (by first | rfl | decide | exact .inl rfl | exact .inr rfl) (by first | rfl | decide | exact .inl rfl | exact .inr rfl) (by first | rfl | decide | exact .inl rfl | exact .inr rfl)) (@pa_nil _) (by first | rfl | decide | exact .inl rfl | exact .inr rfl)) (by first | rfl | decide | exact .inl rfl | exact .inr rfl)) (by first | rfl | decide | exact .inl rfl | exact .inr rfl)) (by first | rfl | decide | exact .inl rfl | exact .inr rfl)) (by first | rfl | decide | exact .inl rfl | exact .inr rfl)) (by first | rfl | decide | exact .inl rfl | exact .inr rfl))) (@pa_nil _) (by first | rfl | decide | exact .inl rfl | exact .inr rfl)) (by first | rfl | decide | exact .inl rfl | exact .inr rfl))) (@pe_callTy _ _ _ _ _ _ _ _ _ (@call_int1 _) rfl m_int PyProof.Rows.boot_int (@pa_cons _ _ _ _ _ (@pe_cmpR _ _ _ _ _ _ _ _ (@op_gt _) (@pe_op _ _ _ _ _ _ _ _ (@op_mod _) (@pv _ 10 _ _ (by first | rfl | decide | exact .inl rfl | exact .inr rfl) (by first | rfl | decide | exact .inl rfl | exact .inr rfl) (by first | rfl | decide | exact .inl rfl | exact .inr rfl) (by first | rfl | decide | exact .inl rfl | exact .inr rfl)) (@pe_int _ _ _ _)) (@pe_int _ _ _ _) (nomark _)) (@pa_nil _) (by first | rfl | decide | exact .inl rfl | exact .inr rfl)) (by first | rfl | decide | exact .inl rfl | exact .inr rfl) (by first | rfl | decide | exact .inl rfl | exact .inr rfl) (by first | rfl | decide | exact .inl rfl | exact .inr rfl) (by first | rfl | decide | exact .inl rfl | exact .inr rfl)) (fun _ _ => rfl)))) (@pss_nil _)) (@pss_cons _ _ _ _ _ (@ps_if _ _ _ _ _ _ _ _ (@PW.pt _ _ _ (@pw_and _ _ _ _ _ _ _ (@pt_cmpR _ _ _ _ _ _ _ _ (@op_eq _) (@pv _ 9 _ _ (by first | rfl | decide | exact .inl rfl | exact .inr rfl) (by first | rfl | decide | exact .inl rfl | exact .inr rfl) (by first | rfl | decide | exact .inl rfl | exact .inr rfl) (by first | rfl | decide | exact .inl rfl | exact .inr rfl)) (@pe_str _ _ _ _) (nomark _)) (@pw_and1 _ _ _ _ (@pt_cmpR _ _ _ _ _ _ _ _ (@op_eq _) (@pv _ 2 _ _ (by first | rfl | decide | exact .inl rfl | exact .inr rfl) (by first | rfl | decide | exact .inl rfl | exact .inr rfl) (by first | rfl | decide | exact .inl rfl | exact .inr rfl) (by first | rfl | decide | exact .inl rfl | exact .inr rfl)) (@pe_int _ _ _ _) (nomark _))))) (@pss_one _ _ _ (@ps_ret _ _ _ _ (@pe_tup _ _ _ _ _ (@pa_cons _ _ _ _ _ (@pv _ 9 _ _ (by first | rfl | decide | exact .inl rfl | exact .inr rfl) (by first | rfl | decide | exact .inl rfl | exact .inr rfl) (by first | rfl | decide | exact .inl rfl | exact .inr rfl) (by first | rfl | decide | exact .inl rfl | exact .inr rfl)) (@pa_cons _ _ _ _ _ (@pe_non _ _ _) (@pa_cons _ _ _ _ _ (@pe_non _ _ _) (@pa_cons _ _ _ _ _ (@pe_cl _ _ _ _ _ _ _ _ _ _ c_law_number hr rfl (@pa_cons _ _ _ _ _ (@pv _ 10 _ _ (by first | rfl | decide | exact .inl rfl | exact .inr rfl) (by first | rfl | decide | exact .inl rfl | exact .inr rfl) (by first | rfl | decide | exact .inl rfl | exact .inr rfl) (by first | rfl | decide | exact .inl rfl | exact .inr rfl)) (@pa_nil _) (by first | rfl | decide | exact .inl rfl | exact .inr rfl)) (by first | rfl | decide | exact .inl rfl | exact .inr rfl) (by first | rfl | decide | exact .inl rfl | exact .inr rfl) (by first | rfl | decide | exact .inl rfl | exact .inr rfl)) (@pa_cons _ _ _ _ _ (@pv _ 11 _ _ (by first | rfl | decide | exact .inl rfl | exact .inr rfl) (by first | rfl | decide | exact .inl rfl | exact .inr rfl) (by first | rfl | decide | exact .inl rfl | exact .inr rfl) (by first | rfl | decide | exact .inl rfl | exact .inr rfl)) (@pa_cons _ _ _ _ _ (@pe_cl _ _ _ _ _ _ _ _ _ _ c_law_goal hr rfl (@pa_cons _ _ _ _ _ (@pe_op _ _ _ _ _ _ _ _ (@op_fdiv _) (@pv _ 10 _ _ (by first | rfl | decide | exact .inl rfl | exact .inr rfl) (by first | rfl | decide | exact .inl rfl | exact .inr rfl) (by first | rfl | decide | exact .inl rfl | exact .inr rfl) (by first | rfl | decide | exact .inl rfl | exact .inr rfl)) (@pe_int _ _ _ _)) (@pa_cons _ _ _ _ _ (@pv _ 4 _ _ (by first | rfl | decide | exact .inl rfl | exact .inr rfl) (by first | rfl | decide | exact .inl rfl | exact .inr rfl) (by first | rfl | decide | exact .inl rfl | exact .inr rfl) (by first | rfl | decide | exact .inl rfl | exact .inr rfl)) (@pa_cons _ _ _ _ _ (@pv _ 6 _ _ (by first | rfl | decide | exact .inl rfl | exact .inr rfl) (by first | rfl | decide | exact .inl rfl | exact .inr rfl) (by first | rfl | decide | exact .inl rfl | exact .inr rfl) (by first | rfl | decide | exact .inl rfl | exact .inr rfl)) (@pa_nil _) (by first | rfl | decide | exact .inl rfl | exact .inr rfl)) (by first | rfl | decide | exact .inl rfl | exact .inr rfl)) (by first | rfl | decide | exact .inl rfl | exact .inr rfl)) (by first | rfl | decide | exact .inl rfl | exact .inr rfl) (by first | rfl | decide | exact .inl rfl | exact .inr rfl) (by first | rfl | decide | exact .inl rfl | exact .inr rfl)) (@pa_nil _) (by first | rfl | decide | exact .inl rfl | exact .inr rfl)) (by first | rfl | decide | exact .inl rfl | exact .inr rfl)) (by first | rfl | decide | exact .inl rfl | exact .inr rfl)) (by first | rfl | decide | exact .inl rfl | exact .inr rfl)) (by first | rfl | decide | exact .inl rfl | exact .inr rfl)) (by first | rfl | decide | exact .inl rfl | exact .inr rfl))))) (@pss_nil _)) (@pss_cons _ _ _ _ _ (@ps_set _ _ (12) _ _ _ _ sc.nd rfl (Or.inl rfl) (@pe_op _ _ _ _ _ _ _ _ (@op_mod _) (@pv _ 10 _ _ (by first | rfl | decide | exact .inl rfl | exact .inr rfl) (by first | rfl | decide | exact .inl rfl | exact .inr rfl) (by first | rfl | decide | exact .inl rfl | exact .inr rfl) (by first | rfl | decide | exact .inl rfl | exact .inr rfl)) (@pv _ 2 _ _ (by first | rfl | decide | exact .inl rfl | exact .inr rfl) (by first | rfl | decide | exact .inl rfl | exact .inr rfl) (by first | rfl | decide | exact .inl rfl | exact .inr rfl) (by first | rfl | decide | exact .inl rfl | exact .inr rfl))) (by first | rfl | decide | exact .inl rfl | exact .inr rfl) (by first | rfl | decide | exact .inl rfl | exact .inr rfl)) (@pss_cons _ _ _ _ _ (@ps_set _ _ (13) _ _ _ _ sc.nd rfl (Or.inl rfl) (@pe_cl _ _ _ _ _ _ _ _ _ _ c_law_maybe hr rfl (@pa_cons _ _ _ _ _ (@pe_op _ _ _ _ _ _ _ _ (@op_fdiv _) (@pv _ 10 _ _ (by first | rfl | decide | exact .inl rfl | exact .inr rfl) (by first | rfl | decide | exact .inl rfl | exact .inr rfl) (by first | rfl | decide | exact .inl rfl | exact .inr rfl) (by first | rfl | decide | exact .inl rfl | exact .inr rfl)) (@pe_int _ _ _ _)) (@pa_cons _ _ _ _ _ (@pv _ 2 _ _ (by first | rfl | decide | exact .inl rfl | exact .inr rfl) (by first | rfl | decide | exact .inl rfl | exact .inr rfl) (by first | rfl | decide | exact .inl rfl | exact .inr rfl) (by first | rfl | decide | exact .inl rfl | exact .inr rfl)) (@pa_nil _) (by first | rfl | decide | exact .inl rfl | exact .inr rfl)) (by first | rfl | decide | exact .inl rfl | exact .inr rfl)) (by first | rfl | decide | exact .inl rfl | exact .inr rfl) (by first | rfl | decide | exact .inl rfl | exact .inr rfl) (by first | rfl | decide | exact .inl rfl | exact .inr rfl)) (by first | rfl | decide | exact .inl rfl | exact .inr rfl) (by first | rfl | decide | exact .inl rfl | exact .inr rfl)) (@pss_cons _ _ _ _ _ (@ps_set _ _ (14) _ _ _ _ sc.nd rfl (Or.inl rfl) (@pe_cl _ _ _ _ _ _ _ _ _ _ c_law_number hr rfl (@pa_cons _ _ _ _ _ (@pe_op _ _ _ _ _ _ _ _ (@op_fdiv _) (@pv _ 10 _ _ (by first | rfl | decide | exact .inl rfl | exact .inr rfl) (by first | rfl | decide | exact .inl rfl | exact .inr rfl) (by first | rfl | decide | exact .inl rfl | exact .inr rfl) (by first | rfl | decide | exact .inl rfl | exact .inr rfl)) (@pe_int _ _ _ _)) (@pa_nil _) (by first | rfl | decide | exact .inl rfl | exact .inr rfl)) (by first | rfl | decide | exact .inl rfl | exact .inr rfl) (by first | rfl | decide | exact .inl rfl | exact .inr rfl) (by first | rfl | decide | exact .inl rfl | exact .inr rfl)) (by first | rfl | decide | exact .inl rfl | exact .inr rfl) (by first | rfl | decide | exact .inl rfl | exact .inr rfl)) (@pss_cons _ _ _ _ _ (@ps_if _ _ _ _ _ _ _ _ (@pt_cmpR _ _ _ _ _ _ _ _ (@op_eq _) (@pv _ 9 _ _ (by first | rfl | decide | exact .inl rfl | exact .inr rfl) (by first | rfl | decide | exact .inl rfl | exact .inr rfl) (by first | rfl | decide | exact .inl rfl | exact .inr rfl) (by first | rfl | decide | exact .inl rfl | exact .inr rfl)) (@pe_str _ _ _ _) (nomark _)) (@pss_one _ _ _ (@ps_ret _ _ _ _ (@pe_tup _ _ _ _ _ (@pa_cons _ _ _ _ _ (@pv _ 9 _ _ (by first | rfl | decide | exact .inl rfl | exact .inr rfl) (by first | rfl | decide | exact .inl rfl | exact .inr rfl) (by first | rfl | decide | exact .inl rfl | exact .inr rfl) (by first | rfl | decide | exact .inl rfl | exact .inr rfl)) (@pa_cons _ _ _ _ _ (@pe_cl _ _ _ _ _ _ _ _ _ _ c_law_maybe hr rfl (@pa_cons _ _ _ _ _ (@pe_op _ _ _ _ _ _ _ _ (@op_fdiv _) (@pv _ 10 _ _ (by first | rfl | decide | exact .inl rfl | exact .inr rfl) (by first | rfl | decide | exact .inl rfl | exact .inr rfl) (by first | rfl | decide | exact .inl rfl | exact .inr rfl) (by first | rfl | decide | exact .inl rfl | exact .inr rfl)) (@pe_int _ _ _ _)) (@pa_cons _ _ _ _ _ (@pv _ 2 _ _ (by first | rfl | decide | exact .inl rfl | exact .inr rfl) (by first | rfl | decide | exact .inl rfl | exact .inr rfl) (by first | rfl | decide | exact .inl rfl | exact .inr rfl) (by first | rfl | decide | exact .inl rfl | exact .inr rfl)) (@pa_nil _) (by first | rfl | decide | exact .inl rfl | exact .inr rfl)) (by first | rfl | decide | exact .inl rfl | exact .inr rfl)) (by first | rfl | decide | exact .inl rfl | exact .inr rfl) (by first | rfl | decide | exact .inl rfl | exact .inr rfl) (by first | rfl | decide | exact .inl rfl | exact .inr rfl)) (@pa_cons _ _ _ _ _ (@pv _ 13 _ _ (by first | rfl | decide | exact .inl rfl | exact .inr rfl) (by first | rfl | decide | exact .inl rfl | exact .inr rfl) (by first | rfl | decide | exact .inl rfl | exact .inr rfl) (by first | rfl | decide | exact .inl rfl | exact .inr rfl)) (@pa_cons _ _ _ _ _ (@pv _ 14 _ _ (by first | rfl | decide | exact .inl rfl | exact .inr rfl) (by first | rfl | decide | exact .inl rfl | exact .inr rfl) (by first | rfl | decide | exact .inl rfl | exact .inr rfl) (by first | rfl | decide | exact .inl rfl | exact .inr rfl)) (@pa_cons _ _ _ _ _ (@pv _ 11 _ _ (by first | rfl | decide | exact .inl rfl | exact .inr rfl) (by first | rfl | decide | exact .inl rfl | exact .inr rfl) (by first | rfl | decide | exact .inl rfl | exact .inr rfl) (by first | rfl | decide | exact .inl rfl | exact .inr rfl)) (@pa_cons _ _ _ _ _ (@pe_cl _ _ _ _ _ _ _ _ _ _ c_law_goal hr rfl (@pa_cons _ _ _ _ _ (@pe_op _ _ _ _ _ _ _ _ (@op_fdiv _) (@pv _ 10 _ _ (by first | rfl | decide | exact .inl rfl | exact .inr rfl) (by first | rfl | decide | exact .inl rfl | exact .inr rfl) (by first | rfl | decide | exact .inl rfl | exact .inr rfl) (by first | rfl | decide | exact .inl rfl | exact .inr rfl)) (@pe_int _ _ _ _)) (@pa_cons _ _ _ _ _ (@pv _ 4 _ _ (by first | rfl | decide | exact .inl rfl | exact .inr rfl) (by first | rfl | decide | exact .inl rfl | exact .inr rfl) (by first | rfl | decide | exact .inl rfl | exact .inr rfl) (by first | rfl | decide | exact .inl rfl | exact .inr rfl)) (@pa_cons _ _ _ _ _ (@pv _ 6 _ _ (by first | rfl | decide | exact .inl rfl | exact .inr rfl) (by first | rfl | decide | exact .inl rfl | exact .inr rfl) (by first | rfl | decide | exact .inl rfl | exact .inr rfl) (by first | rfl | decide | exact .inl rfl | exact .inr rfl)) (@pa_nil _) (by first | rfl | decide | exact .inl rfl | exact .inr rfl)) (by first | rfl | decide | exact .inl rfl | exact .inr rfl)) (by first | rfl | decide | exact .inl rfl | exact .inr rfl)) (by first | rfl | decide | exact .inl rfl | exact .inr rfl) (by first | rfl | decide | exact .inl rfl | exact .inr rfl) (by first | rfl | decide | exact .inl rfl | exact .inr rfl)) (@pa_nil _) (by first | rfl | decide | exact .inl rfl | exact .inr rfl)) (by first | rfl | decide | exact .inl rfl | exact .inr rfl)) (by first | rfl | decide | exact .inl rfl | exact .inr rfl)) (by first | rfl | decide | exact .inl rfl | exact .inr rfl)) (by first | rfl | decide | exact .inl rfl | exact .inr rfl)) (by first | rfl | decide | exact .inl rfl | exact .inr rfl))))) (@pss_nil _)) (@pss_cons _ _ _ _ _ (@ps_if _ _ _ _ _ _ _ _ (@pt_cmpR _ _ _ _ _ _ _ _ (@op_eq _) (@pv _ 9 _ _ (by first | rfl | decide | exact .inl rfl | exact .inr rfl) (by first | rfl | decide | exact .inl rfl | exact .inr rfl) (by first | rfl | decide | exact .inl rfl | exact .inr rfl) (by first | rfl | decide | exact .inl rfl | exact .inr rfl)) (@pe_str _ _ _ _) (nomark _)) (@pss_one _ _ _ (@ps_ret _ _ _ _ (@pe_tup _ _ _ _ _ (@pa_cons _ _ _ _ _ (@pv _ 9 _ _ (by first | rfl | decide | exact .inl rfl | exact .inr rfl) (by first | rfl | decide | exact .inl rfl | exact .inr rfl) (by first | rfl | decide | exact .inl rfl | exact .inr rfl) (by first | rfl | decide | exact .inl rfl | exact .inr rfl)) (@pa_cons _ _ _ _ _ (@pv _ 12 _ _ (by first | rfl | decide | exact .inl rfl | exact .inr rfl) (by first | rfl | decide | exact .inl rfl | exact .inr rfl) (by first | rfl | decide | exact .inl rfl | exact .inr rfl) (by first | rfl | decide | exact .inl rfl | exact .inr rfl)) (@pa_cons _ _ _ _ _ (@pv _ 13 _ _ (by first | rfl | decide | exact .inl rfl | exact .inr rfl) (by first | rfl | decide | exact .inl rfl | exact .inr rfl) (by first | rfl | decide | exact .inl rfl | exact .inr rfl) (by first | rfl | decide | exact .inl rfl | exact .inr rfl)) (@pa_cons _ _ _ _ _ (@pv _ 14 _ _ (by first | rfl | decide | exact .inl rfl | exact .inr rfl) (by first | rfl | decide | exact .inl rfl | exact .inr rfl) (by first | rfl | decide | exact .inl rfl | exact .inr rfl) (by first | rfl | decide | exact .inl rfl | exact .inr rfl)) (@pa_cons _ _ _ _ _ (@pv _ 11 _ _ (by first | rfl | decide | exact .inl rfl | exact .inr rfl) (by first | rfl | decide | exact .inl rfl | exact .inr rfl) (by first | rfl | decide | exact .inl rfl | exact .inr rfl) (by first | rfl | decide | exact .inl rfl | exact .inr rfl)) (@pa_nil _) (by first | rfl | decide | exact .inl rfl | exact .inr rfl)) (by first | rfl | decide | exact .inl rfl | exact .inr rfl)) (by first | rfl | decide | exact .inl rfl | exact .inr rfl)) (by first | rfl | decide | exact .inl rfl | exact .inr rfl)) (by first | rfl | decide | exact .inl rfl | exact .inr rfl))))) (@pss_nil _)) (@pss_cons _ _ _ _ _ (@ps_if _ _ _ _ _ _ _ _ (@pt_cmpR _ _ _ _ _ _ _ _ (@op_eq _) (@pv _ 9 _ _ (by first | rfl | decide | exact .inl rfl | exact .inr rfl) (by first | rfl | decide | exact .inl rfl | exact .inr rfl) (by first | rfl | decide | exact .inl rfl | exact .inr rfl) (by first | rfl | decide | exact .inl rfl | exact .inr rfl)) (@pe_str _ _ _ _) (nomark _)) (@pss_one _ _ _ (@ps_ret _ _ _ _ (@pe_tup _ _ _ _ _ (@pa_cons _ _ _ _ _ (@pv _ 9 _ _ (by first | rfl | decide | exact .inl rfl | exact .inr rfl) (by first | rfl | decide | exact .inl rfl | exact .inr rfl) (by first | rfl | decide | exact .inl rfl | exact .inr rfl) (by first | rfl | decide | exact .inl rfl | exact .inr rfl)) (@pa_cons _ _ _ _ _ (@pv _ 12 _ _ (by first | rfl | decide | exact .inl rfl | exact .inr rfl) (by first | rfl | decide | exact .inl rfl | exact .inr rfl) (by first | rfl | decide | exact .inl rfl | exact .inr rfl) (by first | rfl | decide | exact .inl rfl | exact .inr rfl)) (@pa_cons _ _ _ _ _ (@pe_op _ _ _ _ _ _ _ _ (@op_mod _) (@pe_op _ _ _ _ _ _ _ _ (@op_fdiv _) (@pv _ 10 _ _ (by first | rfl | decide | exact .inl rfl | exact .inr rfl) (by first | rfl | decide | exact .inl rfl | exact .inr rfl) (by first | rfl | decide | exact .inl rfl | exact .inr rfl) (by first | rfl | decide | exact .inl rfl | exact .inr rfl)) (@pe_int _ _ _ _)) (@pv _ 2 _ _ (by first | rfl | decide | exact .inl rfl | exact .inr rfl) (by first | rfl | decide | exact .inl rfl | exact .inr rfl) (by first | rfl | decide | exact .inl rfl | exact .inr rfl) (by first | rfl | decide | exact .inl rfl | exact .inr rfl))) (@pa_cons _ _ _ _ _ (@pv _ 13 _ _ (by first | rfl | decide | exact .inl rfl | exact .inr rfl) (by first | rfl | decide | exact .inl rfl | exact .inr rfl) (by first | rfl | decide | exact .inl rfl | exact .inr rfl) (by first | rfl | decide | exact .inl rfl | exact .inr rfl)) (@pa_cons _ _ _ _ _ (@pv _ 11 _ _ (by first | rfl | decide | exact .inl rfl | exact .inr rfl) (by first | rfl | decide | exact .inl rfl | exact .inr rfl) (by first | rfl | decide | exact .inl rfl | exact .inr rfl) (by first | rfl | decide | exact .inl rfl | exact .inr rfl)) (@pa_nil _) (by first | rfl | decide | exact .inl rfl | exact .inr rfl)) (by first | rfl | decide | exact .inl rfl | exact .inr rfl)) (by first | rfl | decide | exact .inl rfl | exact .inr rfl)) (by first | rfl | decide | exact .inl rfl | exact .inr rfl)) (by first | rfl | decide | exact .inl rfl | exact .inr rfl))))) (@pss_nil _)) (@pss_cons _ _ _ _ _ (@ps_if _ _ _ _ _ _ _ _ (@pt_cmpR _ _ _ _ _ _ _ _ (@op_in_seq _) (@pv _ 9 _ _ (by first | rfl | decide | exact .inl rfl | exact .inr rfl) (by first | rfl | decide | exact .inl rfl | exact .inr rfl) (by first | rfl | decide | exact .inl rfl | exact .inr rfl) (by first | rfl | decide | exact .inl rfl | exact .inr rfl)) (@pe_tup _ _ _ _ _ (@pa_consts _ _ _ rfl)) (by with_unfolding_all rfl)) (@pss_one _ _ _ (@ps_ret _ _ _ _ (@pe_tup _ _ _ _ _ (@pa_cons _ _ _ _ _ (@pv _ 9 _ _ (by first | rfl | decide | exact .inl rfl | exact .inr rfl) (by first | rfl | decide | exact .inl rfl | exact .inr rfl) (by first | rfl | decide | exact .inl rfl | exact .inr rfl) (by first | rfl | decide | exact .inl rfl | exact .inr rfl)) (@pa_cons _ _ _ _ _ (@pv _ 12 _ _ (by first | rfl | decide | exact .inl rfl | exact .inr rfl) (by first | rfl | decide | exact .inl rfl | exact .inr rfl) (by first | rfl | decide | exact .inl rfl | exact .inr rfl) (by first | rfl | decide | exact .inl rfl | exact .inr rfl)) (@pa_cons _ _ _ _ _ (@pv _ 11 _ _ (by first | rfl | decide | exact .inl rfl | exact .inr rfl) (by first | rfl | decide | exact .inl rfl | exact .inr rfl) (by first | rfl | decide | exact .inl rfl | exact .inr rfl) (by first | rfl | decide | exact .inl rfl | exact .inr rfl)) (@pa_nil _) (by first | rfl | decide | exact .inl rfl | exact .inr rfl)) (by first | rfl | decide | exact .inl rfl | exact .inr rfl)) (by first | rfl | decide | exact .inl rfl | exact .inr rfl))))) (@pss_nil _)) (@pss_cons _ _ _ _ _ (@ps_set _ _ (15) _ _ _ _ sc.nd rfl (Or.inl rfl) (@pe_op _ _ _ _ _ _ _ _ (@op_mod _) (@pe_op _ _ _ _ _ _ _ _ (@op_fdiv _) (@pv _ 10 _ _ (by first | rfl | decide | exact .inl rfl | exact .inr rfl) (by first | rfl | decide | exact .inl rfl | exact .inr rfl) (by first | rfl | decide | exact .inl rfl | exact .inr rfl) (by first | rfl | decide | exact .inl rfl | exact .inr rfl)) (@pe_int _ _ _ _)) (@pv _ 3 _ _ (by first | rfl | decide | exact .inl rfl | exact .inr rfl) (by first | rfl | decide | exact .inl rfl | exact .inr rfl) (by first | rfl | decide | exact .inl rfl | exact .inr rfl) (by first | rfl | decide | exact .inl rfl | exact .inr rfl))) (by first | rfl | decide | exact .inl rfl | exact .inr rfl) (by first | rfl | decide | exact .inl rfl | exact .inr rfl)) (@pss_cons _ _ _ _ _ (@ps_if _ _ _ _ _ _ _ _ (@pt_cmpR _ _ _ _ _ _ _ _ (@op_eq _) (@pv _ 9 _ _ (by first | rfl | decide | exact .inl rfl | exact .inr rfl) (by first | rfl | decide | exact .inl rfl | exact .inr rfl) (by first | rfl | decide | exact .inl rfl | exact .inr rfl) (by first | rfl | decide | exact .inl rfl | exact .inr rfl)) (@pe_str _ _ _ _) (nomark _)) (@pss_one _ _ _ (@ps_ret _ _ _ _ (@pe_tup _ _ _ _ _ (@pa_cons _ _ _ _ _ (@pv _ 9 _ _ (by first | rfl | decide | exact .inl rfl | exact .inr rfl) (by first | rfl | decide | exact .inl rfl | exact .inr rfl) (by first | rfl | decide | exact .inl rfl | exact .inr rfl) (by first | rfl | decide | exact .inl rfl | exact .inr rfl)) (@pa_cons _ _ _ _ _ (@pv _ 12 _ _ (by first | rfl | decide | exact .inl rfl | exact .inr rfl) (by first | rfl | decide | exact .inl rfl | exact .inr rfl) (by first | rfl | decide | exact .inl rfl | exact .inr rfl) (by first | rfl | decide | exact .inl rfl | exact .inr rfl)) (@pa_cons _ _ _ _ _ (@pv _ 15 _ _ (by first | rfl | decide | exact .inl rfl | exact .inr rfl) (by first | rfl | decide | exact .inl rfl | exact .inr rfl) (by first | rfl | decide | exact .inl rfl | exact .inr rfl) (by first | rfl | decide | exact .inl rfl | exact .inr rfl)) (@pa_cons _ _ _ _ _ (@pv _ 11 _ _ (by first | rfl | decide | exact .inl rfl | exact .inr rfl) (by first | rfl | decide | exact .inl rfl | exact .inr rfl) (by first | rfl | decide | exact .inl rfl | exact .inr rfl) (by first | rfl | decide | exact .inl rfl | exact .inr rfl)) (@pa_nil _) (by first | rfl | decide | exact .inl rfl | exact .inr rfl)) (by first | rfl | decide | exact .inl rfl | exact .inr rfl)) (by first | rfl | decide | exact .inl rfl | exact .inr rfl)) (by first | rfl | decide | exact .inl rfl | exact .inr rfl))))) (@pss_nil _)) (@pss_cons _ _ _ _ _ (@ps_if _ _ _ _ _ _ _ _ (@pt_cmpR _ _ _ _ _ _ _ _ (@op_eq _) (@pv _ 9 _ _ (by first | rfl | decide | exact .inl rfl | exact .inr rfl) (by first | rfl | decide | exact .inl rfl | exact .inr rfl) (by first | rfl | decide | exact .inl rfl | exact .inr rfl) (by first | rfl | decide | exact .inl rfl | exact .inr rfl)) (@pe_str _ _ _ _) (nomark _)) (@pss_one _ _ _ (@ps_ret _ _ _ _ (@pe_tup _ _ _ _ _ (@pa_cons _ _ _ _ _ (@pv _ 9 _ _ (by first | rfl | decide | exact .inl rfl | exact .inr rfl) (by first | rfl | decide | exact .inl rfl | exact .inr rfl) (by first | rfl | decide | exact .inl rfl | exact .inr rfl) (by first | rfl | decide | exact .inl rfl | exact .inr rfl)) (@pa_cons _ _ _ _ _ (@pv _ 12 _ _ (by first | rfl | decide | exact .inl rfl | exact .inr rfl) (by first | rfl | decide | exact .inl rfl | exact .inr rfl) (by first | rfl | decide | exact .inl rfl | exact .inr rfl) (by first | rfl | decide | exact .inl rfl | exact .inr rfl)) (@pa_cons _ _ _ _ _ (@pv _ 15 _ _ (by first | rfl | decide | exact .inl rfl | exact .inr rfl) (by first | rfl | decide | exact .inl rfl | exact .inr rfl) (by first | rfl | decide | exact .inl rfl | exact .inr rfl) (by first | rfl | decide | exact .inl rfl | exact .inr rfl)) (@pa_cons _ _ _ _ _ (@pv _ 13 _ _ (by first | rfl | decide | exact .inl rfl | exact .inr rfl) (by first | rfl | decide | exact .inl rfl | exact .inr rfl) (by first | rfl | decide | exact .inl rfl | exact .inr rfl) (by first | rfl | decide | exact .inl rfl | exact .inr rfl)) (@pa_cons _ _ _ _ _ (@pv _ 14 _ _ (by first | rfl | decide | exact .inl rfl | exact .inr rfl) (by first | rfl | decide | exact .inl rfl | exact .inr rfl) (by first | rfl | decide | exact .inl rfl | exact .inr rfl) (by first | rfl | decide | exact .inl rfl | exact .inr rfl)) (@pa_cons _ _ _ _ _ (@pv _ 11 _ _ (by first | rfl | decide | exact .inl rfl | exact .inr rfl) (by first | rfl | decide | exact .inl rfl | exact .inr rfl) (by first | rfl | decide | exact .inl rfl | exact .inr rfl) (by first | rfl | decide | exact .inl rfl | exact .inr rfl)) (@pa_nil _) (by first | rfl | decide | exact .inl rfl | exact .inr rfl)) (by first | rfl | decide | exact .inl rfl | exact .inr rfl)) (by first | rfl | decide | exact .inl rfl | exact .inr rfl)) (by first | rfl | decide | exact .inl rfl | exact .inr rfl)) (by first | rfl | decide | exact .inl rfl | exact .inr rfl)) (by first | rfl | decide | exact .inl rfl | exact .inr rfl))))) (@pss_nil _)) (@pss_one _ _ _ (@ps_ret _ _ _ _ (@pe_tup _ _ _ _ _ (@pa_cons _ _ _ _ _ (@pv _ 9 _ _ (by first | rfl | decide | exact .inl rfl | exact .inr rfl) (by first | rfl | decide | exact .inl rfl | exact .inr rfl) (by first | rfl | decide | exact .inl rfl | exact .inr rfl) (by first | rfl | decide | exact .inl rfl | exact .inr rfl)) (@pa_cons _ _ _ _ _ (@pv _ 15 _ _ (by first | rfl | decide | exact .inl rfl | exact .inr rfl) (by first | rfl | decide | exact .inl rfl | exact .inr rfl) (by first | rfl | decide | exact .inl rfl | exact .inr rfl) (by first | rfl | decide | exact .inl rfl | exact .inr rfl)) (@pa_cons _ _ _ _ _ (@pv _ 13 _ _ (by first | rfl | decide | exact .inl rfl | exact .inr rfl) (by first | rfl | decide | exact .inl rfl | exact .inr rfl) (by first | rfl | decide | exact .inl rfl | exact .inr rfl) (by first | rfl | decide | exact .inl rfl | exact .inr rfl)) (@pa_cons _ _ _ _ _ (@pv _ 14 _ _ (by first | rfl | decide | exact .inl rfl | exact .inr rfl) (by first | rfl | decide | exact .inl rfl | exact .inr rfl) (by first | rfl | decide | exact .inl rfl | exact .inr rfl) (by first | rfl | decide | exact .inl rfl | exact .inr rfl)) (@pa_cons _ _ _ _ _ (@pv _ 12 _ _ (by first | rfl | decide | exact .inl rfl | exact .inr rfl) (by first | rfl | decide | exact .inl rfl | exact .inr rfl) (by first | rfl | decide | exact .inl rfl | exact .inr rfl) (by first | rfl | decide | exact .inl rfl | exact .inr rfl)) (@pa_cons _ _ _ _ _ (@pv _ 11 _ _ (by first | rfl | decide | exact .inl rfl | exact .inr rfl) (by first | rfl | decide | exact .inl rfl | exact .inr rfl) (by first | rfl | decide | exact .inl rfl | exact .inr rfl) (by first | rfl | decide | exact .inl rfl | exact .inr rfl)) (@pa_nil _) (by first | rfl | decide | exact .inl rfl | exact .inr rfl)) (by first | rfl | decide | exact .inl rfl | exact .inr rfl)) (by first | rfl | decide | exact .inl rfl | exact .inr rfl)) (by first | rfl | decide | exact .inl rfl | exact .inr rfl)) (by first | rfl | decide | exact .inl rfl | exact .inr rfl)) (by first | rfl | decide | exact .inl rfl | exact .inr rfl)))))))))))))))))))))))), ?_⟩
  refine ⟨_, rfl, _, rfl, a, ns, start, rfl, C.s, C.n, by omega, by omega, fun c => ?_⟩
  obtain ⟨τ1, e1, o1⟩ := on_ex nm
  obtain ⟨τ2, e2, o2⟩ := on2_ex nm rw
  have r1 := rep_b o1.b (xs := wB) (Nat.le_of_ble_eq_true rfl)
  have r2 := rep_b o2.b (xs := wC) (Nat.le_of_ble_eq_true rfl)
  have g1 := rep_len o1.b (xs := wB) (Nat.le_of_ble_eq_true rfl)
  have g2 := rep_len o2.b (xs := wC) (Nat.le_of_ble_eq_true rfl)
  have b64 : -(2 ^ 64 : Int) < (nm : Int) ∧ (nm : Int) < (2 ^ 64 : Int) := ⟨by omega, by omega⟩
  obtain ⟨wd, ew, hw⟩ := line_word (c := c) o1 o2
  refine ⟨Nat.le_of_ble_eq_true rfl, fun l1 n1 => ⟨Nat.le_of_ble_eq_true rfl, fun l2 n2 => ?_⟩⟩
  have u1 := same_new n1 (.lst wA)
  have u2 := same_new n2 (.lst wB)
  refine ⟨_, rfl, _, _, rfl, rfl, .inr ⟨_, rfl, l2, τ1, wB, rfl, congrArg V.int e1, upd_same, r1.1, r1.2.1, r1.2.2, fun p3 n3 => ?_⟩⟩
  have u3 := same_new n3 (.lst (List.replicate τ1.toNat wB).flatten)
  refine ⟨l1, p3, wA, _, rfl, rfl, u3 _ _ (u2 _ _ upd_same), upd_same, small (Nat.le_trans (Nat.add_le_add_left g1 _) (Nat.le_of_ble_eq_true rfl)), fun p4 n4 => ?_⟩
  have u4 := same_new n4 (.lst (wA ++ (List.replicate τ1.toNat wB).flatten))
  refine ⟨_, rfl, Nat.le_of_ble_eq_true rfl, fun l5 n5 => ?_⟩
  have u5 := same_new n5 (.lst wC)
  refine ⟨_, rfl, _, rfl, _, _, rfl, rfl, .inl b64, _, _, rfl, rfl, .inr ⟨_, rfl, l5, τ2, wC, rfl, congrArg V.int e2, upd_same, r2.1, r2.2.1, r2.2.2, fun p6 n6 => ?_⟩⟩
  have u6 := same_new n6 (.lst (List.replicate τ2.toNat wC).flatten)
  refine ⟨p4, p6, _, _, rfl, rfl, u6 _ _ (u5 _ _ upd_same), upd_same, small (by rw [List.length_append]; have : wA.length = 4 := rfl; omega), fun p7 n7 => ?_⟩
  have u7 := same_new n7 (.lst ((wA ++ (List.replicate τ1.toNat wB).flatten) ++ (List.replicate τ2.toNat wC).flatten))
  have s7 := u1.trans (u2.trans (u3.trans (u4.trans (u5.trans (u6.trans u7)))))
  refine ⟨_, rfl, _, _, rfl, rfl, by show (0 : Int) < 17; decide, _, rfl, _, _, rfl, rfl, .inr ⟨_, rfl, _, τ1, rfl, congrArg V.int e1, .inl ⟨by decide, by decide⟩, _, _, rfl, rfl, _, _, rfl, rfl, by show (0 : Int) < 4 + 6 * τ1; have := o1.b; omega, p7, _, _, _, rfl, rfl, SqL.of upd_same, ew, ?_⟩⟩
  dsimp only [gName, tSeq]
  refine ifs_nx (fun σ' H' => ∃ (wd : Str) (y8 : Option V), WordOk nm rw wd ∧ Same H H' ∧ σ' = [some (.ref a), some (.int start), some (.int (nm : Int)), some (.int (rw : Int)), some (.int (at_ : Int)), some (.ref al), some (.int (many : Int)), some (.int c), y8, some (.str wd), none, none, none, none, none, none]) (fun σ' H0 h => ?_) (fun D' kk => ?_)
  rotate_left
  · have back := kk _ _ ⟨wd, some (.ref p4), hw, s7, rfl⟩
    dsimp only [tIfS, tAnd, tSeq, tNext]
    refine ⟨_, rfl, _, rfl, _, _, rfl, rfl, .inl b64, _, _, rfl, rfl, _, rfl, ite2 (fun ca => ?_) (fun ca => iteF back)⟩
    refine ⟨_, rfl, _, _, rfl, rfl, by show (0 : Int) < 17; decide, _, _, rfl, rfl, _, rfl, ite2 (fun cb => ?_) (fun cb => back)⟩
    obtain ⟨pn, pr⟩ := pos_mul (of_decide_eq_true ca)
    obtain ⟨wd2, ew2, hw2⟩ := line_word2 pn pr (of_decide_eq_true cb)
    refine ⟨Nat.le_of_ble_eq_true rfl, fun l8 n8 => ⟨_, rfl, _, _, rfl, rfl, by show (0 : Int) < 17; decide, _, _, rfl, rfl, l8, _, _, _, rfl, rfl, SqL.of upd_same, ew2, kk _ _ ⟨wd2, _, hw2, s7.trans (same_new n8 _), rfl⟩⟩⟩
  clear u1 u2 u3 u4 u5 u6 u7 s7 n1 n2 n3 n4 n5 n6 n7 ew hw
  obtain ⟨wd, y8, hw, s0, rfl⟩ := h
  have C0 := C.same s0
  refine ⟨_, rfl, _, _, rfl, rfl, ⟨by decide, by decide⟩, ?_⟩
  refine ⟨_, rfl, _, _, rfl, rfl, ⟨by decide, by decide⟩, _, rfl, _, rfl, _, _, _, rfl, by omega, by omega, by omega, fun g g0 g1 => ?_⟩
  obtain ⟨gn, rfl⟩ : ∃ i : Nat, g = (i : Int) := ⟨g.toNat, by omega⟩
  have hg : gn < many := by omega
  refine ⟨_, rfl, rfl, _, rfl, ite2 (fun cc => ?_) (fun cc => ?_)⟩
  · exact ⟨_, rfl, _, rfl, _, _, rfl, rfl, _, rfl, _, rfl, _, rfl, _, rfl, _, rfl, a, ns, start + 1, nm, rw, at_, many, al, ls, rfl, C0, hat, by omega, by omega, hnm, hrw, ha, hm, fun l v H' ok s' i' => q l v H' ok (s0.trans s') i'⟩
  have w1 := str_f cc
  refine ⟨_, rfl, rfl, _, rfl, ite2 (fun cc => ?_) (fun cc => ?_)⟩
  · refine ⟨Nat.le_of_ble_eq_true rfl, fun t1 n1 => ⟨_, rfl, _, rfl, Nat.le_of_ble_eq_true rfl, fun t2 n2 => ⟨Nat.le_of_ble_eq_true rfl, fun l n3 => ?_⟩⟩⟩
    obtain ⟨z, ez, hz⟩ := two_v (x := .ref t1) (y := .ref t2) (decide ((0 : Int) < c / 17 % 3))
    refine ⟨_, rfl, _, _, rfl, rfl, by show (0 : Int) < 3; decide, _, _, rfl, rfl, .inr ⟨_, rfl, l, _, _, z, rfl, rfl, SqL.of upd_same, ez, ?_⟩⟩
    have v1 := same_new n1 (.tup [.str "end"])
    have v2 := same_new n2 (.tup [.str "test", .non, .non, .int 0, .int (gn : Int), .int (at_ : Int)])
    have v3 := same_new n3 (.lst [.ref t1, .ref t2])
    have s3 := s0.trans (v1.trans (v2.trans v3))
    rcases hz with ⟨_, rfl⟩ | ⟨_, rfl⟩
    · exact q .stop _ _ trivial s3 (is_tup (SqT.of (v3 _ _ (v2 _ _ upd_same))) (isl_cons is_str isl_nil))
    · exact q (.test none none 0 gn at_) _ _ ⟨trivial, trivial, hg, by omega⟩ s3 (is_tup (SqT.of (v3 _ _ upd_same)) (isl_cons is_str (isl_cons is_non (isl_cons is_non (isl_cons is_int (isl_cons is_int (isl_cons is_int isl_nil)))))))
  have w2 := str_f cc
  dsimp only [gName, tSeq, tIfS, tNext]
  refine and_pure (decide (V.str wd = V.str "test")) (decide (V.int (nm : Int) = V.int 0)) (fun Q' h => ⟨_, rfl, rfl, _, rfl, h⟩) (fun _ Q' h => ⟨_, rfl, rfl, _, rfl, h⟩) (ite2 (fun cc => ?_) (fun cc => ?_))
  · rw [Bool.and_eq_true] at cc
    obtain rfl := str_t cc.1
    refine ⟨_, rfl, _, rfl, _, rfl, fun cn cn0 cn1 H1 s1 => ?_⟩
    refine ⟨_, rfl, _, rfl, _, _, rfl, rfl, ⟨by decide, by decide⟩, _, rfl, _, rfl, _, _, _, rfl, by omega, by omega, by omega, fun m m0 m1 => ⟨Nat.le_of_ble_eq_true rfl, fun t ht => ?_⟩⟩
    obtain ⟨mn, rfl⟩ : ∃ i : Nat, m = (i : Int) := ⟨m.toNat, by omega⟩
    exact q (.test none none cn gn mn) _ _ ⟨trivial, trivial, hg, by omega⟩ (s0.trans (s1.trans (same_new ht _))) (is_tup (SqT.of upd_same) (isl_cons is_str (isl_cons is_non (isl_cons is_non (isl_cons is_int (isl_cons is_int (isl_cons is_int isl_nil)))))))
  have hn : 0 < nm := by
    rcases hw with rfl | e | e | e | e
    · rcases Nat.eq_zero_or_pos nm with rfl | h
      · exact absurd (show (decide (V.str "test" = V.str "test") && decide (V.int ((0 : Nat) : Int) = V.int 0)) = true from rfl) cc
      · exact h
    · exact absurd e w1
    · exact absurd e w2
    · exact e.1
    · exact e.1
  refine ⟨_, rfl, _, rfl, _, _, rfl, rfl, by show (0 : Int) < (nm : Int); omega, ?_⟩
  obtain ⟨xn, ex, hx⟩ : ∃ i : Nat, c / 17 % (nm : Int) = (i : Int) ∧ i < nm := ⟨(c / 17 % (nm : Int)).toNat, by have := Int.emod_nonneg (c / 17) (show (nm : Int) ≠ 0 by omega); omega, by have := Int.emod_lt_of_pos (c / 17) (show (0 : Int) < (nm : Int) by omega); omega⟩
  refine ⟨_, rfl, _, _, rfl, rfl, ⟨by decide, by decide⟩, _, rfl, _, _, rfl, by omega, fun y hy => ?_⟩
  obtain ⟨yo, oy, rfl⟩ := maybe_opt hy
  refine ⟨_, rfl, _, _, rfl, rfl, ⟨by decide, by decide⟩, _, rfl, fun cn cn0 cn1 H1 s1 => ?_⟩
  have s01 := s0.trans s1
  refine ⟨_, rfl, rfl, _, rfl, ite2 (fun cc => ?_) (fun cc => ?_)⟩
  · obtain rfl := str_t cc
    refine ⟨_, rfl, _, rfl, _, _, rfl, rfl, ⟨by decide, by decide⟩, _, rfl, _, _, rfl, by omega, fun u hu => ?_⟩
    obtain ⟨uo, ou, rfl⟩ := maybe_opt hu
    refine ⟨_, rfl, _, rfl, _, rfl, _, rfl, _, _, rfl, rfl, ⟨by decide, by decide⟩, _, rfl, _, rfl, _, _, _, rfl, by omega, by omega, by omega, fun m m0 m1 => ⟨Nat.le_of_ble_eq_true rfl, fun t ht => ?_⟩⟩
    obtain ⟨mn, rfl⟩ : ∃ i : Nat, m = (i : Int) := ⟨m.toNat, by omega⟩
    exact q (.test uo yo cn gn mn) _ _ ⟨ou, oy, hg, by omega⟩ (s01.trans (same_new ht _)) (is_tup (SqT.of upd_same) (isl_cons is_str (isl_cons (is_opt _) (isl_cons (is_opt _) (isl_cons is_int (isl_cons is_int (isl_cons is_int isl_nil)))))))
  have w3 := str_f cc
  refine ⟨_, rfl, rfl, _, rfl, ite2 (fun cc => ?_) (fun cc => ?_)⟩
  · obtain rfl := str_t cc
    refine ⟨_, rfl, _, rfl, _, rfl, _, rfl, _, rfl, Nat.le_of_ble_eq_true rfl, fun t ht => ?_⟩
    exact q (.deed (.set xn yo cn) gn) _ _ ⟨⟨hx, oy⟩, hg⟩ (s01.trans (same_new ht _)) (is_deed upd_same (isl_cons (isI ex) (isl_cons (is_opt _) (isl_cons is_int (isl_cons is_int isl_nil)))))
  have w4 := str_f cc
  refine ⟨_, rfl, rfl, _, rfl, ite2 (fun cc => ?_) (fun cc => ?_)⟩
  · obtain rfl := str_t cc
    obtain ⟨zn, ezn, hzn⟩ : ∃ i : Nat, c / 17 / 64 % (nm : Int) = (i : Int) ∧ i < nm := ⟨(c / 17 / 64 % (nm : Int)).toNat, by have := Int.emod_nonneg (c / 17 / 64) (show (nm : Int) ≠ 0 by omega); omega, by have := Int.emod_lt_of_pos (c / 17 / 64) (show (0 : Int) < (nm : Int) by omega); omega⟩
    refine ⟨_, rfl, _, rfl, _, rfl, _, _, rfl, rfl, ⟨by decide, by decide⟩, _, rfl, _, _, rfl, rfl, by show (0 : Int) < (nm : Int); omega, _, rfl, _, rfl, Nat.le_of_ble_eq_true rfl, fun t ht => ?_⟩
    exact q (.deed (.sum xn zn yo) gn) _ _ ⟨⟨hx, hzn, oy⟩, hg⟩ (s01.trans (same_new ht _)) (is_deed upd_same (isl_cons (isI ex) (isl_cons (isI ezn) (isl_cons (is_opt _) (isl_cons is_int isl_nil)))))
  have w5 := str_f cc
  refine ⟨_, rfl, Nat.le_of_ble_eq_true rfl, fun t2 ht2 => ⟨t2, _, rfl, .inr (SqT.of upd_same), rfl, rfl, _, rfl, ite2 (fun cc => ?_) (fun cc => ?_)⟩⟩
  · have cc' : inV (.str wd) [.str "take", .str "tell"] = true := cc
    have s2 := s01.trans (same_new ht2 (.tup [.str "take", .str "tell"]))
    refine ⟨_, rfl, _, rfl, _, rfl, Nat.le_of_ble_eq_true rfl, fun t ht => ?_⟩
    rcases in2.mp cc' with rfl | rfl
    · exact q (.deed (.take xn) gn) _ _ ⟨hx, hg⟩ (s2.trans (same_new ht _)) (is_deed upd_same (isl_cons (isI ex) (isl_cons is_int isl_nil)))
    · exact q (.deed (.tell xn) gn) _ _ ⟨hx, hg⟩ (s2.trans (same_new ht _)) (is_deed upd_same (isl_cons (isI ex) (isl_cons is_int isl_nil)))
  have cc' : ¬ inV (.str wd) [.str "take", .str "tell"] = true := cc
  have w6 : ¬ (wd = "take" ∨ wd = "tell") := fun e => cc' (in2.mpr e)
  have s2 := s01.trans (same_new ht2 (.tup [.str "take", .str "tell"]))
  have hw' : 0 < rw ∧ (wd = "len" ∨ wd = "get" ∨ wd = "put") := by
    rcases hw with e | e | e | ⟨_, e | e | e | e⟩ | e
    · exact absurd e w3
    · exact absurd e w1
    · exact absurd e w2
    · exact absurd e w4
    · exact absurd e w5
    · exact absurd (.inl e) w6
    · exact absurd (.inr e) w6
    · exact e.2
  have hr0 : (0 : Int) < (rw : Int) := by have := hw'.1; omega
  obtain ⟨rn, ern, hrn⟩ : ∃ i : Nat, c / 17 / 64 % (rw : Int) = (i : Int) ∧ i < rw := ⟨(c / 17 / 64 % (rw : Int)).toNat, by have := Int.emod_nonneg (c / 17 / 64) (show (rw : Int) ≠ 0 by omega); omega, by have := Int.emod_lt_of_pos (c / 17 / 64) hr0; omega⟩
  refine ⟨_, rfl, _, _, rfl, rfl, ⟨by decide, by decide⟩, _, rfl, _, _, rfl, rfl, hr0, ?_⟩
  refine ⟨_, rfl, rfl, _, rfl, ite2 (fun cc => ?_) (fun cc => ?_)⟩
  · obtain rfl := str_t cc
    refine ⟨_, rfl, _, rfl, _, rfl, _, rfl, Nat.le_of_ble_eq_true rfl, fun t ht => ?_⟩
    exact q (.deed (.len xn rn) gn) _ _ ⟨⟨hx, hrn⟩, hg⟩ (s2.trans (same_new ht _)) (is_deed upd_same (isl_cons (isI ex) (isl_cons (isI ern) (isl_cons is_int isl_nil))))
  have w7 := str_f cc
  refine ⟨_, rfl, rfl, _, rfl, ite2 (fun cc => ?_) (fun cc => ?_)⟩
  · obtain rfl := str_t cc
    refine ⟨_, rfl, _, rfl, _, rfl, _, rfl, _, rfl, _, rfl, Nat.le_of_ble_eq_true rfl, fun t ht => ?_⟩
    exact q (.deed (.get xn rn yo cn) gn) _ _ ⟨⟨hx, hrn, oy⟩, hg⟩ (s2.trans (same_new ht _)) (is_deed upd_same (isl_cons (isI ex) (isl_cons (isI ern) (isl_cons (is_opt _) (isl_cons is_int (isl_cons is_int isl_nil))))))
  have w8 := str_f cc
  obtain rfl : wd = "put" := by
    rcases hw'.2 with e | e | e
    · exact absurd e w7
    · exact absurd e w8
    · exact e
  refine ⟨_, rfl, _, rfl, _, rfl, _, rfl, _, rfl, _, rfl, Nat.le_of_ble_eq_true rfl, fun t ht => ?_⟩
  exact q (.deed (.put rn yo cn xn) gn) _ _ ⟨⟨hrn, oy, hx⟩, hg⟩ (s2.trans (same_new ht _)) (is_deed upd_same (isl_cons (isI ern) (isl_cons (is_opt _) (isl_cons is_int (isl_cons (isI ex) (isl_cons is_int isl_nil))))))
end
end K43
set_option Elab.async false
set_option linter.all false
set_option maxRecDepth 100000
set_option maxHeartbeats 4000000
namespace K43
open PySem PySem.Spec PyProof.Rows L2
theorem sc_program : FnScope ["_law_script", "_law_at", "_law_most", "_law_names", "_law_rows", "_law_many", "_law_lines", "_law_k"] ["_law_script", "_law_at", "_law_most"] (defScope s_program) := ⟨rfl, rfl, rfl, by decide +kernel, rfl, by decide +kernel, by decide +kernel⟩
structure Prog (nm rw : Nat) (ls : List Ln) : Prop where
  hn : nm ≤ 6
  hr : rw ≤ 3
  l0 : 0 < ls.length
  l1 : ls.length ≤ 100
  ok : OkN ls nm rw ls.length
noncomputable def spProgram (K : PySem.W.Frag) : Sp := fun vs H Q _ => ExQ Q (fun (a : Addr) Q => ExQ Q (fun (ns : List Int) Q => vs = [.ref a, .int 0, .int 20] ∧ SqL K H a (ns.map V.int) ∧ ns.length ≤ 63 ∧
  ∀ (nm rw : Nat) (ls : List Ln) (xs : List V) (t l : Addr) (H' : Hp), Same H H' → H' t = some (.tup [.int (nm : Int), .int (rw : Int), .ref l]) → H' l = some (.lst xs) → H l = none → IsL K H' (ls.map Ln.D) xs → Prog nm rw ls → Q (.ref t) H'))
section
variable {P : Program} {w : World} {K : PySem.W.Frag} {mg : Str → Option Value} {base : Heap} {f : Addr} {fd : FuncData} {n : Nat}
theorem ok_program (F : Fun K "_law_program" "_law_program" s_program f fd) (m_range : mg "range" = none) (c_law_draw : Cl P w K mg base "_law_draw" n ["_law_script", "_law_k"] (spDraw K)) (c_law_line : Cl P w K mg base "_law_line" n ["_law_script", "_law_start", "_law_names", "_law_rows", "_law_at", "_law_lines", "_law_many"] (spLn K 800)) :
    FnOk P w K mg base CX0 (n + 1) f fd ["_law_script", "_law_at", "_law_most"] (spProgram K) := by
  refine F.ok sc_program (fun vs H Q E h => ?_) (fun cdv A outer s H vs Q E hr h => ?_)
  · obtain ⟨a, ns, rfl, _⟩ := h
    rfl
  obtain ⟨a, ns, rfl, hS, h63, q⟩ := h
  have sc := sc_program
  refine ⟨_, (@pss_cons _ _ _ _ _ (ps_set (i := 3) sc.nd rfl (Or.inl rfl) (pe_op op_mod (pe_cl c_law_draw hr rfl (pa_cons (pv 0) (pa_cons (pv 1) pa_nil))) pe_int))
      (@pss_cons _ _ _ _ _ (ps_set (i := 4) sc.nd rfl (Or.inl rfl) (pe_op op_mod (pe_cl c_law_draw hr rfl (pa_cons (pv 0) (pa_cons (pe_op op_add (pv 1) pe_int) pa_nil))) pe_int))
      (@pss_cons _ _ _ _ _ (ps_set (i := 5) sc.nd rfl (Or.inl rfl) (pe_op op_add pe_int (pe_op op_mod (pe_cl c_law_draw hr rfl (pa_cons (pv 0) (pa_cons (pe_op op_add (pv 1) pe_int) pa_nil))) (pv 2))))
      (@pss_cons _ _ _ _ _ (ps_if (pt_cmpR op_eq (pe_op op_mod (pe_op op_fdiv (pe_cl c_law_draw hr rfl (pa_cons (pv 0) (pa_cons (pe_op op_add (pv 1) pe_int) pa_nil))) (pv 2)) pe_int) pe_int (nomark _)) (pss_one (ps_set (i := 5) sc.nd rfl (Or.inl rfl) (pe_op op_sub pe_int (pe_op op_mod (pe_op op_fdiv (pe_op op_fdiv (pe_cl c_law_draw hr rfl (pa_cons (pv 0) (pa_cons (pe_op op_add (pv 1) pe_int) pa_nil))) (pv 2)) pe_int) pe_int)))) pss_nil)
      (@pss_cons _ _ _ _ _ (ps_set (i := 6) sc.nd rfl (Or.inl rfl) (pe_lst pa_nil))
      (@pss_cons _ _ _ _ _ (ps_for PassesOwn.never rfl (pi_range1 rfl m_range (pa_cons (pe_op op_sub (pv 5) pe_int) pa_nil)) (pg_name (i := 7) sc.nd rfl (Or.inl rfl)) (pss_one (ps_expr (pe_bm PySem.F.plainAttrs_list PySem.F.slot_list_append PySem.F.type_list_append mt_append (pv 6) (pa_cons (pe_cl c_law_line hr rfl (pa_cons (pv 0) (pa_cons (pe_op op_add (pe_op op_add (pv 1) pe_int) (pv 7)) (pa_cons (pv 3) (pa_cons (pv 4) (pa_cons (pv 7) (pa_cons (pv 6) (pa_cons (pv 5) pa_nil)))))))) pa_nil)))))
      (pss_one (ps_ret (pe_tup (pa_cons (pv 3) (pa_cons (pv 4) (pa_cons (pe_op op_cat (pv 6) (pe_lst (pa_cons (pe_tup (pa_cons pe_str pa_nil)) pa_nil))) pa_nil)))))))))))), ?_⟩
  refine ⟨_, rfl, _, rfl, a, ns, 0, rfl, hS, h63, by decide, by decide, fun c0 => ⟨_, _, rfl, rfl, by show (0 : Int) < 7; decide, ?_⟩⟩
  refine ⟨_, rfl, _, rfl, _, _, rfl, rfl, a, ns, _, rfl, hS, h63, by decide, by decide, fun c1 => ⟨_, _, rfl, rfl, by show (0 : Int) < 4; decide, ?_⟩⟩
  refine ⟨_, rfl, _, rfl, _, _, rfl, rfl, a, ns, _, rfl, hS, h63, by decide, by decide, fun c2 => ⟨_, rfl, _, _, rfl, rfl, by show (0 : Int) < 20; decide, _, _, rfl, rfl, ?_⟩⟩
  dsimp only [gName, tSeq]
  refine ifs_nx (fun σ' H' => ∃ nm rw many : Nat, nm ≤ 6 ∧ rw ≤ 3 ∧ 2 ≤ many ∧ many ≤ 70 ∧ σ' = [some (.ref a), some (.int 0), some (.int 20), some (.int (nm : Int)), some (.int (rw : Int)), some (.int (many : Int)), none, none] ∧ H = H') (fun σ' H' h => ?_) (fun D' kk => ?_)
  rotate_left
  · have tn : ∀ {i : Int}, 0 ≤ i → (i.toNat : Int) = i := fun h => Int.toNat_of_nonneg h
    have a0 : 0 ≤ c0 % 7 := by omega
    have a1 : 0 ≤ c1 % 4 := by omega
    have a2 : 0 ≤ 2 + c2 % 20 := by omega
    refine ⟨_, rfl, _, rfl, _, _, rfl, rfl, a, ns, _, rfl, hS, h63, by decide, by decide, fun c3 => ⟨_, rfl, _, _, rfl, rfl, ⟨by decide, by decide⟩, _, _, rfl, rfl, by show (0 : Int) < 16; decide, rfl, _, rfl, ite2 (fun cc => ?_) (fun cc => ?_)⟩⟩
    · refine ⟨_, rfl, _, rfl, _, _, rfl, rfl, a, ns, _, rfl, hS, h63, by decide, by decide, fun c4 => ⟨_, rfl, _, _, rfl, rfl, ⟨by decide, by decide⟩, _, _, rfl, rfl, ⟨by decide, by decide⟩, _, _, rfl, rfl, by show (0 : Int) < 9; decide, _, _, rfl, rfl, kk _ _ ⟨(c0 % 7).toNat, (c1 % 4).toNat, (70 - c4 / 20 / 16 % 9).toNat, by omega, by omega, by omega, by omega, ?_, rfl⟩⟩⟩
      rw [tn a0, tn a1, tn (show 0 ≤ 70 - c4 / 20 / 16 % 9 by omega)]; rfl
    · refine kk _ _ ⟨(c0 % 7).toNat, (c1 % 4).toNat, (2 + c2 % 20).toNat, by omega, by omega, by omega, by omega, ?_, rfl⟩
      rw [tn a0, tn a1, tn a2]; rfl
  obtain ⟨nm, rw, many, hnm, hrw, m0, m1, rfl, rfl⟩ := h
  refine ⟨Nat.le_of_ble_eq_true rfl, fun pl npl => ?_⟩
  refine ⟨_, rfl, _, _, rfl, rfl, _, rfl, by omega, by omega, ?_⟩
  have em : ((many : Int) - 1).toNat = many - 1 := by omega
  rw [em]
  refine for_range (n := many - 1) (fun i σ H' => Same H H' ∧ ∃ acc ls y7, H' pl = some (.lst acc) ∧ IsL K H' (ls.map Ln.D) acc ∧ ls.length = i ∧ OkN ls nm rw many ∧
      σ = [some (.ref a), some (.int 0), some (.int 20), some (.int (nm : Int)), some (.int (rw : Int)), some (.int (many : Int)), some (.ref pl), y7]) ⟨same_new npl _, [], [], _, upd_same, isl_nil, rfl, fun l hl => by simp at hl, rfl⟩ (fun i σ H' hi h => ?_) (fun σ H' h => ?_)
  · obtain ⟨sm, acc, ls, y7, el, il, ln, ok, rfl⟩ := h
    refine ⟨_, rfl, .inl ⟨rfl, _, SqL.of el⟩, _, rfl, _, rfl, _, _, rfl, rfl, _, rfl, _, _, rfl, rfl, _, rfl, _, rfl, _, rfl, _, rfl, _, rfl, a, ns, 0 + 3 + (i : Int), nm, rw, i, many, pl, ls, by simp only [Int.zero_add], ⟨sm.seq hS, h63, acc, el, il⟩, ln, by omega, by omega, by omega, by omega, by omega, by omega, fun l v H7 okl s7 i7 => ?_⟩
    have el7 := s7 _ _ el
    have la := il.length
    rw [List.length_map] at la
    refine ⟨pl, acc, v, rfl, rfl, el7, small1000 (by omega), Same.new (sm.trans s7) npl, acc ++ [v], ls ++ [l], _, upd_same, ?_, by simp [ln], fun x hx => ?_, rfl⟩
    · rw [List.map_append]
      exact IsL.append ((il.mono s7.tups).mono (Tups.lst el7)) (isl_cons (i7.mono (Tups.lst el7)) isl_nil)
    · rcases List.mem_append.mp hx with hx | hx
      · exact ok x hx
      · rw [List.mem_singleton.mp hx]; exact okl
  · obtain ⟨sm, acc, ls, y7, el, il, ln, ok, rfl⟩ := h
    have la := il.length
    rw [List.length_map] at la
    refine ⟨_, rfl, _, rfl, _, rfl, Nat.le_of_ble_eq_true rfl, fun t1 n1 => ⟨Nat.le_of_ble_eq_true rfl, fun l1 nl1 => ?_⟩⟩
    have s5 := same_new n1 (.tup [.str "end"])
    have s6 := same_new nl1 (.lst [.ref t1])
    refine ⟨pl, l1, _, _, rfl, rfl, s6 _ _ (s5 _ _ el), upd_same, small (by simp only [List.length_singleton]; omega), fun l2 nl2 => ⟨Nat.le_of_ble_eq_true rfl, fun t nt => ?_⟩⟩
    have s7 := same_new nl2 (.lst (acc ++ [.ref t1]))
    have s8 := same_new nt (.tup [.int (nm : Int), .int (rw : Int), .ref l2])
    have et := s8 _ _ (s7 _ _ (s6 _ _ (upd_same (H := H') (a := t1) (o := .tup [.str "end"]))))
    have hlen : (ls ++ [Ln.stop]).length = many := by simp; omega
    refine q nm rw (ls ++ [.stop]) (acc ++ [.ref t1]) t l2 _ (sm.trans (s5.trans (s6.trans (s7.trans s8)))) upd_same (s8 _ _ upd_same) (none_of_same (sm.trans (s5.trans s6)) nl2) ?_ ⟨hnm, hrw, by omega, by omega, fun x hx => ?_⟩
    · rw [List.map_append]
      exact IsL.append (il.mono (s5.trans (s6.trans (s7.trans s8))).tups) (isl_cons (is_tup (SqT.of et) (isl_cons is_str isl_nil)) isl_nil)
    · rw [hlen]
      rcases List.mem_append.mp hx with hx | hx
      · exact ok x hx
      · rw [List.mem_singleton.mp hx]; trivial
end
end K43
set_option Elab.async false
set_option linter.all false
set_option maxRecDepth 100000
set_option maxHeartbeats 4000000
namespace K43
open PySem PySem.Spec PyProof.Rows L2
noncomputable abbrev s_ways : Stmt := top 34
noncomputable abbrev s_steps : Stmt := top 35
theorem sc_ways : FnScope ["_law_line_here"] ["_law_line_here"] (defScope s_ways) := ⟨rfl, rfl, rfl, by decide +kernel, rfl, by decide +kernel, by decide +kernel⟩
theorem sc_steps : FnScope ["_law_script", "_law_lines", "_law_many", "_law_here_here", "_law_steps_here", "_law_k", "_law_some", "_law_which"] ["_law_script", "_law_lines"] (defScope s_steps) := ⟨rfl, rfl, rfl, by decide +kernel, rfl, by decide +kernel, by decide +kernel⟩
theorem isl_snoc_inv {K : PySem.W.Frag} {H : Hp} : ∀ {ds : List D} {e : D} {vs : List V}, IsL K H (ds ++ [e]) vs → ∃ us v, vs = us ++ [v] ∧ IsL K H ds us ∧ Is K H e v
  | [], e, vs, h => by
    obtain ⟨v, r, rfl, h1, h2⟩ := IsL.cons_inv h
    rw [h2.nil_inv]
    exact ⟨[], v, rfl, isl_nil, h1⟩
  | d :: ds, e, vs, h => by
    obtain ⟨v, r, rfl, h1, h2⟩ := IsL.cons_inv h
    obtain ⟨us, z, rfl, h3, h4⟩ := isl_snoc_inv h2
    exact ⟨v :: us, z, rfl, isl_cons h1 h3, h4⟩
theorem at_last (x : V) (xs : List V) (v : V) : atI (x :: (xs ++ [v])) (-1) = some v := by
  have hl : (x :: (xs ++ [v])).length = xs.length + 2 := by simp
  unfold atI ixN
  rw [if_neg (by decide), hl, if_pos (by omega)]
  have e : (-1 + ((xs.length + 2 : Nat) : Int)).toNat = xs.length + 1 := by omega
  rw [e]
  show (x :: (xs ++ [v]))[xs.length + 1]? = some v
  rw [List.getElem?_cons_succ, List.getElem?_append_right (Nat.le_refl _), Nat.sub_self]
  rfl
noncomputable def Ln.ways : Ln → List Int
  | .deed _ k => [(k : Int)]
  | .test _ _ _ k m => [(k : Int), (m : Int)]
  | .ask _ k m => [(k : Int), (m : Int)]
  | .stop => []
theorem ways_len (l : Ln) : l.ways.length = l.nways := by cases l <;> rfl
theorem ways_ok {nm rw nl : Nat} {l : Ln} (h : l.Ok nm rw nl) : ∀ g ∈ l.ways, 0 ≤ g ∧ g < (nl : Int) := by
  intro g hg
  cases l with
  | deed d k =>
    rw [List.mem_singleton.mp (show g ∈ [(k : Int)] from hg)]
    have := h.2
    exact ⟨by omega, by omega⟩
  | test y u c k m =>
    have h1 := h.2.2.1
    have h2 := h.2.2.2
    rcases List.mem_cons.mp (show g ∈ [(k : Int), (m : Int)] from hg) with e | e
    · rw [e]; exact ⟨by omega, by omega⟩
    · rw [List.mem_singleton.mp e]; exact ⟨by omega, by omega⟩
  | ask bs k m =>
    have h1 := h.2.2.1
    have h2 := h.2.2.2
    rcases List.mem_cons.mp (show g ∈ [(k : Int), (m : Int)] from hg) with e | e
    · rw [e]; exact ⟨by omega, by omega⟩
    · rw [List.mem_singleton.mp e]; exact ⟨by omega, by omega⟩
  | stop => cases hg
noncomputable def spWays (K : PySem.W.Frag) : Sp := fun vs H Q _ => ExQ Q (fun (l : Ln) Q => ExQ Q (fun (v : V) Q => vs = [v] ∧ Is K H l.D v ∧ ∀ H' p, Same H H' → H' p = some (.lst (intsV l.ways)) → H p = none → Q (.ref p) H'))
noncomputable def spSteps (K : PySem.W.Frag) : Sp := fun vs H Q _ => ExQ Q (fun (a : Addr) Q => ExQ Q (fun (ns : List Int) Q => ExQ Q (fun (al : Addr) Q => ExQ Q (fun (xs : List V) Q => ExQ Q (fun (nm : Nat) Q => ExQ Q (fun (rw : Nat) Q => ExQ Q (fun (ls : List Ln) Q => vs = [.ref a, .ref al] ∧ SqL K H a (ns.map V.int) ∧ ns.length ≤ 63 ∧ SqL K H al xs ∧ IsL K H (ls.map Ln.D) xs ∧ Prog nm rw ls ∧
  ∀ (st : List (Nat × Nat)) (H' : Hp) (p : Addr) (ys : List V), Same H H' → H' p = some (.lst ys) → H p = none → IsL K H' (st.map stepD) ys → (∀ s ∈ st, StepOk ls s) → st.length ≤ 60 → Q (.ref p) H')))))))
section
variable {P : Program} {w : World} {K : PySem.W.Frag} {mg : Str → Option Value} {base : Heap} {f : Addr} {fd : FuncData} {n : Nat}
theorem ok_ways (F : Fun K "_law_ways" "_law_ways" s_ways f fd) : FnOk P w K mg base CX0 (n + 1) f fd ["_law_line_here"] (spWays K) := by
  refine F.ok sc_ways (fun vs H Q E h => ?_) (fun cdv A outer s H vs Q E hr h => ?_)
  · obtain ⟨l, v, rfl, _⟩ := h
    rfl
  obtain ⟨l, v, rfl, hi, q⟩ := h
  have sc := sc_ways
  refine ⟨_, (@pss_cons _ _ _ _ _ (ps_if (pt_cmpR op_in_seq (pe_ix ix_tup (pv 0) pe_int (fun _ _ => rfl)) (pe_tup (pa_consts rfl)) (by with_unfolding_all rfl)) (pss_one (ps_ret (pe_lst (pa_cons (pe_ix ix_tup (pv 0) (pe_un un_neg pe_int) (fun _ _ => rfl)) (pa_cons (pe_ix ix_tup (pv 0) (pe_un un_neg pe_int) (fun _ _ => rfl)) pa_nil))))) pss_nil)
      (@pss_cons _ _ _ _ _ (ps_if (pt_cmpR op_eq (pe_ix ix_tup (pv 0) pe_int (fun _ _ => rfl)) pe_str (nomark _)) (pss_one (ps_ret (pe_lst pa_nil))) pss_nil)
      (pss_one (ps_ret (pe_lst (pa_cons (pe_ix ix_tup (pv 0) (pe_un un_neg pe_int) (fun _ _ => rfl)) pa_nil)))))), ?_⟩
  obtain ⟨t, vs, rfl, hq, il⟩ := ln_inv hi
  refine ⟨_, rfl, t, _, 0, _, rfl, rfl, hq, at0 _ _, Nat.le_of_ble_eq_true rfl, fun t2 n2 => ⟨t2, _, rfl, .inr (SqT.of upd_same), rfl, rfl, _, rfl, ?_⟩⟩
  have s2 := same_new n2 (.tup [.str "test", .str "ask"])
  have hq2 := s2.tups.sq hq
  cases l with
  | deed d k =>
    obtain ⟨us, z, rfl, iu, iz⟩ := isl_snoc_inv (show IsL K H (d.args ++ [.int (k : Int)]) vs from il)
    cases iz.int_inv
    have back : ∃ p' : Prop, p' := ⟨True, trivial⟩
    have fin : ∀ Q' : Prop, (∀ p, upd H t2 (.tup [.str "test", .str "ask"]) p = none → Q (.ref p) (upd (upd H t2 (.tup [.str "test", .str "ask"])) p (.lst [.int (k : Int)]))) := fun _ p np => q _ p (s2.trans (same_new np _)) upd_same (none_of_same s2 np)
    cases d <;> exact iteF ⟨_, rfl, t, _, 0, _, rfl, rfl, hq2, at0 _ _, rfl, _, rfl, iteF ⟨_, rfl, _, rfl, t, _, _, _, rfl, rfl, hq2, at_last _ _ _, Nat.le_of_ble_eq_true rfl, fin True⟩⟩
  | test y u c k m =>
    obtain ⟨r1, rfl, i1⟩ := opt1 il
    obtain ⟨r2, rfl, i2⟩ := opt1 i1
    obtain ⟨r3, rfl, i3⟩ := int1 i2
    obtain ⟨r4, rfl, i4⟩ := int1 i3
    obtain ⟨r5, rfl, i5⟩ := int1 i4
    cases i5.nil_inv
    exact iteT ⟨_, rfl, _, rfl, t, _, _, _, rfl, rfl, hq2, rfl, _, rfl, _, rfl, t, _, _, _, rfl, rfl, hq2, rfl, Nat.le_of_ble_eq_true rfl, fun p np => q _ p (s2.trans (same_new np _)) upd_same (none_of_same s2 np)⟩
  | ask bs k m =>
    obtain ⟨v1, r1, rfl, _, i1⟩ := any1 il
    obtain ⟨r4, rfl, i4⟩ := int1 i1
    obtain ⟨r5, rfl, i5⟩ := int1 i4
    cases i5.nil_inv
    exact iteT ⟨_, rfl, _, rfl, t, _, _, _, rfl, rfl, hq2, rfl, _, rfl, _, rfl, t, _, _, _, rfl, rfl, hq2, rfl, Nat.le_of_ble_eq_true rfl, fun p np => q _ p (s2.trans (same_new np _)) upd_same (none_of_same s2 np)⟩
  | stop =>
    cases il.nil_inv
    exact iteF ⟨_, rfl, t, _, 0, _, rfl, rfl, hq2, at0 _ _, rfl, _, rfl, iteT ⟨Nat.le_of_ble_eq_true rfl, fun p np => q _ p (s2.trans (same_new np _)) upd_same (none_of_same s2 np)⟩⟩
theorem ok_steps (F : Fun K "_law_steps" "_law_steps" s_steps f fd) (m_range : mg "range" = none) (m_len : mg "len" = none) (c_law_draw : Cl P w K mg base "_law_draw" n ["_law_script", "_law_k"] (spDraw K)) (c_law_ways : Cl P w K mg base "_law_ways" n ["_law_line_here"] (spWays K)) :
    FnOk P w K mg base CX0 (n + 1) f fd ["_law_script", "_law_lines"] (spSteps K) := by
  refine F.ok sc_steps (fun vs H Q E h => ?_) (fun cdv A outer s H vs Q E hr h => ?_)
  · obtain ⟨a, ns, al, xs, nm, rw, ls, rfl, _⟩ := h
    rfl
  obtain ⟨a, ns, al, xs, nm, rw, ls, rfl, hS, h63, hal, iL, hP, q⟩ := h
  have sc := sc_steps
  have lx : ls.length = xs.length := by have := iL.length; rw [List.length_map] at this; exact this
  have l0 := hP.l0
  have l1 := hP.l1
  refine ⟨_, (@pss_cons _ _ _ _ _ (ps_set (i := 2) sc.nd rfl (Or.inl rfl) (pe_op op_mod (pe_cl c_law_draw hr rfl (pa_cons (pv 0) (pa_cons pe_int pa_nil))) pe_int))
      (@pss_cons _ _ _ _ _ (ps_if (pt_cmpR op_eq (pe_op op_mod (pe_op op_fdiv (pe_cl c_law_draw hr rfl (pa_cons (pv 0) (pa_cons pe_int pa_nil))) pe_int) pe_int) pe_int (nomark _)) (pss_one (ps_set (i := 2) sc.nd rfl (Or.inl rfl) (pe_op op_add pe_int (pe_op op_mod (pe_op op_fdiv (pe_cl c_law_draw hr rfl (pa_cons (pv 0) (pa_cons pe_int pa_nil))) pe_int) pe_int)))) pss_nil)
      (@pss_cons _ _ _ _ _ (ps_set (i := 3) sc.nd rfl (Or.inl rfl) (pe_op op_mod (pe_cl c_law_draw hr rfl (pa_cons (pv 0) (pa_cons pe_int pa_nil))) (pe_callB call_len_seq rfl m_len PySem.boot_len (pa_cons (pv 1) pa_nil))))
      (@pss_cons _ _ _ _ _ (ps_set (i := 4) sc.nd rfl (Or.inl rfl) (pe_lst pa_nil))
      (@pss_cons _ _ _ _ _ (ps_for PassesOwn.never rfl (pi_range1 rfl m_range (pa_cons (pv 2) pa_nil)) (pg_name (i := 5) sc.nd rfl (Or.inl rfl)) (@pss_cons _ _ _ _ _ (ps_set (i := 6) sc.nd rfl (Or.inl rfl) (pe_cl c_law_ways hr rfl (pa_cons (pe_ix ix_list (pv 1) (pv 3) (fun _ _ => rfl)) pa_nil)))
      (pss_one (ps_if (pt_cmpR op_gt (pe_callB call_len_seq rfl m_len PySem.boot_len (pa_cons (pv 6) pa_nil)) pe_int (nomark _)) (@pss_cons _ _ _ _ _ (ps_set (i := 7) sc.nd rfl (Or.inl rfl) (pe_op op_mod (pe_cl c_law_draw hr rfl (pa_cons (pv 0) (pa_cons (pe_op op_add pe_int (pv 5)) pa_nil))) (pe_callB call_len_seq rfl m_len PySem.boot_len (pa_cons (pv 6) pa_nil))))
      (@pss_cons _ _ _ _ _ (ps_expr (pe_bm PySem.F.plainAttrs_list PySem.F.slot_list_append PySem.F.type_list_append mt_append (pv 4) (pa_cons (pe_tup (pa_cons (pv 3) (pa_cons (pv 7) pa_nil))) pa_nil)))
      (pss_one (ps_set (i := 3) sc.nd rfl (Or.inl rfl) (pe_ix ix_list (pv 6) (pv 7) (fun _ _ => rfl)))))) pss_nil))))
      (pss_one (ps_ret (pv 4)))))))), ?_⟩
  refine ⟨_, rfl, a, ns, 70, rfl, hS, h63, by decide, by decide, fun c0 => ⟨_, _, rfl, rfl, by show (0 : Int) < 25; decide, ?_⟩⟩
  dsimp only [gName, tSeq]
  refine ifs_nx (fun σ' H' => ∃ many : Nat, many ≤ 60 ∧ σ' = [some (.ref a), some (.ref al), some (.int (many : Int)), none, none, none, none, none] ∧ H = H') (fun σ' H' h => ?_) (fun D' kk => ?_)
  rotate_left
  · refine ⟨_, rfl, a, ns, 70, rfl, hS, h63, by decide, by decide, fun c1 => ⟨_, _, rfl, rfl, ⟨by decide, by decide⟩, _, _, rfl, rfl, by show (0 : Int) < 16; decide, rfl, _, rfl, ite2 (fun cc => ?_) (fun cc => ?_)⟩⟩
    · refine ⟨_, rfl, a, ns, 70, rfl, hS, h63, by decide, by decide, fun c2 => ⟨_, _, rfl, rfl, ⟨by decide, by decide⟩, _, _, rfl, rfl, by show (0 : Int) < 36; decide, _, _, rfl, rfl, kk _ _ ⟨(25 + c2 / 400 % 36).toNat, by omega, ?_, rfl⟩⟩⟩
      rw [Int.toNat_of_nonneg (show 0 ≤ 25 + c2 / 400 % 36 by omega)]; rfl
    · refine kk _ _ ⟨(c0 % 25).toNat, by omega, ?_, rfl⟩
      rw [Int.toNat_of_nonneg (show 0 ≤ c0 % 25 by omega)]; rfl
  obtain ⟨many, hm, rfl, rfl⟩ := h
  refine ⟨_, rfl, a, ns, 71, rfl, hS, h63, by decide, by decide, fun c1 => ⟨_, rfl, al, xs, rfl, .inl hal, _, _, rfl, rfl, by show (0 : Int) < (xs.length : Int); omega, ?_⟩⟩
  refine ⟨Nat.le_of_ble_eq_true rfl, fun ps nps => ?_⟩
  refine ⟨_, rfl, _, rfl, by omega, by omega, ?_⟩
  rw [Int.toNat_natCast]
  have b0 : 0 ≤ c1 % (xs.length : Int) := Int.emod_nonneg _ (by omega)
  have b1 : c1 % (xs.length : Int) < (xs.length : Int) := Int.emod_lt_of_pos _ (by omega)
  refine for_range (n := many) (fun j σ H' => Same H H' ∧ ∃ (hv : Int) (st : List (Nat × Nat)) (ys : List V) (y5 y6 y7 : Option V), 0 ≤ hv ∧ hv < (ls.length : Int) ∧ H' ps = some (.lst ys) ∧ IsL K H' (st.map stepD) ys ∧ st.length ≤ j ∧ (∀ s ∈ st, StepOk ls s) ∧
      σ = [some (.ref a), some (.ref al), some (.int (many : Int)), some (.int hv), some (.ref ps), y5, y6, y7]) ⟨same_new nps _, _, [], [], _, _, _, b0, by omega, upd_same, isl_nil, Nat.le_refl _, fun s hs => by simp at hs, rfl⟩ (fun j σ H' hj h => ?_) (fun σ H' h => ?_)
  · obtain ⟨sm, hv, st, ys, y5, y6, y7, h0, h1, es, iy, ln, sok, rfl⟩ := h
    obtain ⟨hn, rfl⟩ : ∃ i : Nat, hv = (i : Int) := ⟨hv.toNat, by omega⟩
    have eL := List.getElem?_eq_getElem (show hn < ls.length by omega)
    obtain ⟨vl, evl, ivl⟩ := (iL.mono sm.tups).get (j := hn) (d := (ls[hn]'(by omega)).D) (by rw [List.getElem?_map, eL]; rfl)
    have okl := hP.ok _ (List.mem_of_getElem? eL)
    generalize ls[hn]'(by omega) = l at eL ivl okl
    refine ⟨_, rfl, _, rfl, al, xs, _, _, rfl, rfl, sm.seq hal, atI_nat evl, l, vl, rfl, ivl, fun H2 pw s2 ew nw => ?_⟩
    have sm2 := sm.trans s2
    have es2 := s2 _ _ es
    refine ⟨_, rfl, pw, _, rfl, .inl (SqL.of ew), _, _, rfl, rfl, _, rfl, ite2 (fun cc => ?_) (fun cc => ⟨sm2, _, st, ys, _, _, _, h0, h1, es2, iy.mono s2.tups, by omega, sok, rfl⟩)⟩
    have hlen : 0 < (intsV l.ways).length := by have := of_decide_eq_true cc; omega
    refine ⟨_, rfl, _, rfl, _, _, rfl, rfl, a, ns, _, rfl, sm2.seq hS, h63, by omega, by omega, fun c2 => ⟨_, rfl, pw, _, rfl, .inl (SqL.of ew), _, _, rfl, rfl, by show (0 : Int) < ((intsV l.ways).length : Int); omega, ?_⟩⟩
    obtain ⟨wn, ewn, hwn⟩ : ∃ i : Nat, c2 % ((intsV l.ways).length : Int) = (i : Int) ∧ i < (intsV l.ways).length := ⟨(c2 % ((intsV l.ways).length : Int)).toNat, by have := Int.emod_nonneg c2 (show ((intsV l.ways).length : Int) ≠ 0 by omega); omega, by have := Int.emod_lt_of_pos c2 (show (0 : Int) < ((intsV l.ways).length : Int) by omega); omega⟩
    refine ⟨_, rfl, .inl ⟨rfl, _, SqL.of es2⟩, _, rfl, _, rfl, Nat.le_of_ble_eq_true rfl, fun t nt => ?_⟩
    have s3 := same_new nt (.tup [.int (hn : Int), .int (c2 % ((intsV l.ways).length : Int))])
    have es3 := s3 _ _ es2
    have ew3 := s3 _ _ ew
    have ly := iy.length
    rw [List.length_map] at ly
    have npw : pw ≠ ps := (ne_p es nw).symm
    have s4 : Same H (upd (upd H2 t (.tup [.int (hn : Int), .int (c2 % ((intsV l.ways).length : Int))])) ps (.lst (ys ++ [.ref t]))) := Same.new (sm2.trans s3) nps
    have ew4 : upd (upd H2 t (.tup [.int (hn : Int), .int (c2 % ((intsV l.ways).length : Int))])) ps (.lst (ys ++ [.ref t])) pw = some (.lst (intsV l.ways)) := by rw [upd_ne npw]; exact ew3
    refine ⟨ps, ys, .ref t, rfl, rfl, es3, small1000 (by omega), ?_⟩
    have hwl : wn < l.ways.length := by rw [len_ints] at hwn; exact hwn
    have hg := ways_ok okl (l.ways[wn]?.getD 0) (by rw [List.getElem?_eq_getElem hwl]; exact List.getElem_mem hwl)
    refine ⟨_, rfl, _, rfl, pw, _, _, _, rfl, rfl, SqL.of ew4, by rw [ewn]; exact atI_nat (at_ints hwl), s4, _, st ++ [(hn, wn)], ys ++ [.ref t], _, _, _, hg.1, hg.2, upd_same, ?_, by simp; omega, fun s hs => ?_, rfl⟩
    · have tl := Tups.lst (ys := ys ++ [.ref t]) es3
      rw [List.map_append]
      refine IsL.append (((iy.mono s2.tups).mono s3.tups).mono tl) (isl_cons ?_ isl_nil)
      exact (is_tup (SqT.of upd_same) (isl_cons is_int (isl_cons (isI ewn) isl_nil))).mono tl
    · rcases List.mem_append.mp hs with hs | hs
      · exact sok s hs
      · rw [List.mem_singleton.mp hs]
        exact ⟨l, eL, by rw [← ways_len]; exact hwl⟩
  · obtain ⟨sm, hv, st, ys, y5, y6, y7, h0, h1, es, iy, ln, sok, rfl⟩ := h
    exact ⟨_, rfl, q st H' ps ys sm es nps iy sok (by omega)⟩
end
end K43
set_option Elab.async false
set_option linter.all false
set_option maxRecDepth 100000
set_option maxHeartbeats 4000000
namespace K43
open PySem PySem.Spec PyProof.Rows L2
noncomputable abbrev s_named : Stmt := top 36
noncomputable abbrev s_here : Stmt := top 37
noncomputable abbrev s_asked : Stmt := top 38
noncomputable abbrev s_law_step_facts : Stmt := top 39
theorem sc_named : FnScope ["_law_name", "_law_counts"] ["_law_name", "_law_counts"] (defScope s_named) := ⟨rfl, rfl, rfl, by decide +kernel, rfl, by decide +kernel, by decide +kernel⟩
theorem sc_here : FnScope ["_law_bound", "_law_counts", "_law_nodes", "_law_k"] ["_law_bound", "_law_counts"] (defScope s_here) := ⟨rfl, rfl, rfl, by decide +kernel, rfl, by decide +kernel, by decide +kernel⟩
theorem sc_asked : FnScope ["_law_line_here", "_law_which", "_law_counts", "_law_some", "_law_a", "_law_b", "_law_c"] ["_law_line_here", "_law_which", "_law_counts"] (defScope s_asked) := ⟨rfl, rfl, rfl, by decide +kernel, rfl, by decide +kernel, by decide +kernel⟩
theorem sc_law_step_facts : FnScope ["_law_line_here", "_law_which", "_law_counts", "_law_word", "_law_a", "_law_b", "_law_row", "_law_place", "_law_c", "_law_new", "_law_old"] ["_law_line_here", "_law_which", "_law_counts"] (defScope s_law_step_facts) := ⟨rfl, rfl, rfl, by decide +kernel, rfl, by decide +kernel, by decide +kernel⟩
noncomputable def spAsked (K : PySem.W.Frag) : Sp := fun vs H Q _ => ExQ Q (fun (bs : List Bd) Q => ExQ Q (fun (k : Nat) Q => ExQ Q (fun (m : Nat) Q => ExQ Q (fun (v : V) Q => ExQ Q (fun (i : Nat) Q => ExQ Q (fun (an : Addr) Q => ExQ Q (fun (now : List Int) Q => ExQ Q (fun (rw : Nat) Q => vs = [v, .int (i : Int), .ref an] ∧ SqL K H an (intsV now) ∧ Is K H (Ln.ask bs k m).D v ∧ (∀ q ∈ bs, Bd.Ok now.length rw q) ∧ 0 < bs.length ∧ bs.length ≤ 100 ∧ NewL K H Q ((branch i (bs.map (Bd.now now))).map Ft.D)))))))))
section
variable {P : Program} {w : World} {K : PySem.W.Frag} {mg : Str → Option Value} {base : Heap} {f : Addr} {fd : FuncData} {n : Nat}
theorem is_ftI {H : Hp} {t : Addr} {a b : D} {va vb : V} {c c' : Int} (e : H t = some (.tup [va, vb, .int c'])) (ha : Is K H a va) (hb : Is K H b vb) (h : c' = c) : Is K H (Ft.D ⟨a, b, c⟩) (.ref t) := is_tup (SqT.of e) (isl_cons ha (isl_cons hb (isl_cons (isI h) isl_nil)))
theorem is_zero {H : Hp} {t : Addr} (e : H t = some (.tup [.str "zero"])) : Is K H zeroD (.ref t) := is_tup (SqT.of e) (isl_cons is_str isl_nil)
theorem bd_inv {H : Hp} {q : Bd} {v : V} (h : Is K H q.D v) : ∃ t va vb, v = .ref t ∧ SqT K H t [va, vb, .int q.c] ∧ Is K H q.a.D va ∧ Is K H q.b.D vb := by
  obtain ⟨t, xs, rfl, hq, il⟩ := h.tup_inv
  obtain ⟨va, r1, rfl, ia, i1⟩ := any1 il
  obtain ⟨vb, r2, rfl, ib, i2⟩ := any1 i1
  obtain ⟨r3, rfl, i3⟩ := int1 i2
  cases i3.nil_inv
  exact ⟨t, va, vb, rfl, hq, ia, ib⟩
theorem ft_inv {H : Hp} {q : Ft} {v : V} (h : Is K H q.D v) : ∃ t va vb, v = .ref t ∧ SqT K H t [va, vb, .int q.c] ∧ Is K H q.a va ∧ Is K H q.b vb := by
  obtain ⟨t, xs, rfl, hq, il⟩ := h.tup_inv
  obtain ⟨va, r1, rfl, ia, i1⟩ := any1 il
  obtain ⟨vb, r2, rfl, ib, i2⟩ := any1 i1
  obtain ⟨r3, rfl, i3⟩ := int1 i2
  cases i3.nil_inv
  exact ⟨t, va, vb, rfl, hq, ia, ib⟩
theorem ok_named (F : Fun K "_law_named" "_law_named" s_named f fd) : FnOk P w K mg base CX0 (n + 1) f fd ["_law_name", "_law_counts"] (spValueNode K) := by
  refine F.ok sc_named (fun vs H Q E h => ?_) (fun cdv A outer s H vs Q E hr h => ?_)
  · obtain ⟨y, an, now, rfl, _⟩ := h
    rfl
  obtain ⟨y, an, now, rfl, hn, hy, q⟩ := h
  have sc := sc_named
  refine ⟨_, (@pss_cons _ _ _ _ _ (ps_if (pt_cmpR op_isN (pv 0) pe_non (nomark _)) (pss_one (ps_ret (pe_tup (pa_cons pe_str pa_nil)))) pss_nil)
      (pss_one (ps_ret (pe_tup (pa_cons pe_str (pa_cons (pv 0) (pa_cons (pe_ix ix_list (pv 1) (pv 0) (fun _ _ => rfl)) pa_nil))))))), ?_⟩
  cases y with
  | none => exact ⟨_, rfl, rfl, _, rfl, iteT ⟨Nat.le_of_ble_eq_true rfl, fun t nt => q _ _ (same_new nt _) (is_zero upd_same)⟩⟩
  | some x =>
    refine ⟨_, rfl, rfl, _, rfl, iteF ⟨_, rfl, _, rfl, _, rfl, an, _, _, _, rfl, rfl, hn, atI_nat (at_ints hy), Nat.le_of_ble_eq_true rfl, fun t nt => ?_⟩⟩
    exact q _ _ (same_new nt _) (is_name upd_same)
theorem ok_here (F : Fun K "_law_here" "_law_here" s_here f fd) (m_range : mg "range" = none) : FnOk P w K mg base CX0 (n + 1) f fd ["_law_bound", "_law_counts"] (spBoundNow K) := by
  refine F.ok sc_here (fun vs H Q E h => ?_) (fun cdv A outer s H vs Q E hr h => ?_)
  · obtain ⟨b, v, an, now, rw, rfl, _⟩ := h
    rfl
  obtain ⟨b, v, an, now, rw, rfl, hn, hi, hk, q⟩ := h
  have sc := sc_here
  refine ⟨_, (@pss_cons _ _ _ _ _ (ps_set (i := 2) sc.nd rfl (Or.inl rfl) (pe_lst (pa_cons (pe_ix ix_tup (pv 0) pe_int (fun _ _ => rfl)) (pa_cons (pe_ix ix_tup (pv 0) pe_int (fun _ _ => rfl)) pa_nil))))
      (@pss_cons _ _ _ _ _ (ps_for PassesOwn.never rfl (pi_range1 rfl m_range (pa_cons pe_int pa_nil)) (pg_name (i := 3) sc.nd rfl (Or.inl rfl)) (pss_one (ps_if (pt_cmpR op_eq (pe_ix ix_tup (pe_ix ix_list (pv 2) (pv 3) (fun _ _ => rfl)) pe_int (fun _ _ => rfl)) pe_str (nomark _)) (pss_one (ps_asg (pe_tup (pa_cons pe_str (pa_cons (pe_ix ix_tup (pe_ix ix_list (pv 2) (pv 3) (fun _ _ => rfl)) pe_int (fun _ _ => rfl)) (pa_cons (pe_ix ix_list (pv 1) (pe_ix ix_tup (pe_ix ix_list (pv 2) (pv 3) (fun _ _ => rfl)) pe_int (fun _ _ => rfl)) (fun _ _ => rfl)) pa_nil)))) (pg_sub (pv 2) (pv 3) set_list))) pss_nil)))
      (pss_one (ps_ret (pe_tup (pa_cons (pe_ix ix_list (pv 2) pe_int (fun _ _ => rfl)) (pa_cons (pe_ix ix_list (pv 2) pe_int (fun _ _ => rfl)) (pa_cons (pe_ix ix_tup (pv 0) pe_int (fun _ _ => rfl)) pa_nil)))))))), ?_⟩
  obtain ⟨t, va, vb, rfl, hq, ia, ib⟩ := bd_inv hi
  refine ⟨_, rfl, t, _, 0, _, rfl, rfl, hq, at0 _ _, _, rfl, t, _, 1, _, rfl, rfl, hq, at1 _ _ _, Nat.le_of_ble_eq_true rfl, fun pl npl => ?_⟩
  have s1 := same_new npl (.lst [va, vb])
  refine ⟨_, rfl, by decide, by decide, ?_⟩
  refine for_range (fun j σ H' => Same H H' ∧ ∃ (x0 x1 : V) (y3 : Option V), H' pl = some (.lst [x0, x1]) ∧ Is K H' (if 0 < j then b.a.now now else b.a.D) x0 ∧ Is K H' (if 1 < j then b.b.now now else b.b.D) x1 ∧
      σ = [some (.ref t), some (.ref an), some (.ref pl), y3]) ⟨s1, va, vb, _, upd_same, ia.mono s1.tups, ib.mono s1.tups, rfl⟩ (fun j σ H' hj h => ?_) (fun σ H' h => ?_)
  · obtain ⟨sm, x0, x1, y3, epl, i0, i1, rfl⟩ := h
    have hj2 : j < 2 := hj
    have hx : ∃ (nd : Nd) (x : V), [x0, x1][j]? = some x ∧ Is K H' nd.D x ∧ nd.Ok now.length rw ∧ ∀ (H2 : Hp) (x' : V), Same H H2 → (∀ d v, Is K H' d v → Is K H2 d v) → H2 pl = some (.lst ([x0, x1].set j x')) → Is K H2 (nd.now now) x' →
        Same H H2 ∧ ∃ (x0 x1 : V) (y3 : Option V), H2 pl = some (.lst [x0, x1]) ∧ Is K H2 (if 0 < j + 1 then b.a.now now else b.a.D) x0 ∧ Is K H2 (if 1 < j + 1 then b.b.now now else b.b.D) x1 ∧ [some (V.ref t), some (.ref an), some (.ref pl), some (.int (0 + (j : Int)))] = [some (.ref t), some (.ref an), some (.ref pl), y3] := by
      rcases (show j = 0 ∨ j = 1 by omega) with rfl | rfl
      · exact ⟨b.a, x0, rfl, i0, hk.1, fun H2 x' s2 mo e2 i2 => ⟨s2, x', x1, _, e2, i2, mo _ _ i1, rfl⟩⟩
      · exact ⟨b.b, x1, rfl, i1, hk.2, fun H2 x' s2 mo e2 i2 => ⟨s2, x0, x', _, e2, mo _ _ i0, i2, rfl⟩⟩
    obtain ⟨nd, x, ex, ix, okn, kk⟩ := hx
    obtain ⟨tq, vs, rfl, hqq, iq⟩ := nd_inv ix
    have ea : atI [x0, x1] (0 + (j : Int)) = some (.ref tq) := by rw [Int.zero_add]; exact atI_nat ex
    refine ⟨_, rfl, _, rfl, pl, _, _, _, rfl, rfl, SqL.of epl, ea, tq, _, 0, _, rfl, rfl, hqq, at0 _ _, rfl, _, rfl, ?_⟩
    have stay : [x0, x1].set j (.ref tq) = [x0, x1] := by
      rcases (show j = 0 ∨ j = 1 by omega) with rfl | rfl
      · cases ex; rfl
      · cases ex; rfl
    cases nd with
    | zero => exact iteF (kk H' _ sm (fun _ _ h => h) (by rw [stay]; exact epl) ix)
    | len r => exact iteF (kk H' _ sm (fun _ _ h => h) (by rw [stay]; exact epl) ix)
    | name y =>
      obtain ⟨r, rfl, _⟩ := int1 iq
      have hy : y < now.length := okn
      refine iteT ⟨_, rfl, _, rfl, pl, _, _, _, rfl, rfl, SqL.of epl, ea, tq, _, 1, _, rfl, rfl, hqq, at1 _ _ _, _, rfl, _, rfl, _, rfl, pl, _, _, _, rfl, rfl, SqL.of epl, ea, tq, _, 1, _, rfl, rfl, hqq, at1 _ _ _, an, _, _, _, rfl, rfl, sm.seq hn, atI_nat (at_ints hy), Nat.le_of_ble_eq_true rfl, fun tn nn => ?_⟩
      have s2 := same_new nn (.tup [.str "name", .int (y : Int), .int (now[y]?.getD 0)])
      have epl2 := s2 _ _ epl
      refine ⟨_, rfl, _, rfl, pl, _, _, j, rfl, rfl, epl2, by rw [Int.zero_add]; exact ixN_nat hj2, ?_⟩
      have tl := Tups.lst (ys := [x0, x1].set j (.ref tn)) epl2
      exact kk _ (.ref tn) (Same.new (sm.trans s2) npl) (fun d v h => (h.mono s2.tups).mono tl) upd_same ((is_name upd_same).mono tl)
  · obtain ⟨sm, x0, x1, y3, epl, i0, i1, rfl⟩ := h
    refine ⟨_, rfl, pl, _, 0, _, rfl, rfl, SqL.of epl, at0 _ _, _, rfl, pl, _, 1, _, rfl, rfl, SqL.of epl, at1 _ _ _, _, rfl, t, _, 2, _, rfl, rfl, sm.tups.sq hq, at2 _ _ _ _, Nat.le_of_ble_eq_true rfl, fun tr nr => ?_⟩
    have s2 := same_new nr (.tup [x0, x1, .int b.c])
    exact q _ _ (sm.trans s2) (is_ft upd_same (i0.mono s2.tups) (i1.mono s2.tups))
theorem ok_asked (F : Fun K "_law_asked" "_law_asked" s_asked f fd) (m_len : mg "len" = none) (c_law_here : Cl P w K mg base "_law_here" n ["_law_bound", "_law_counts"] (spBoundNow K)) : FnOk P w K mg base CX0 (n + 1) f fd ["_law_line_here", "_law_which", "_law_counts"] (spAsked K) := by
  refine F.ok sc_asked (fun vs H Q E h => ?_) (fun cdv A outer s H vs Q E hr h => ?_)
  · obtain ⟨bs, k, m, v, i, an, now, rw, rfl, _⟩ := h
    rfl
  obtain ⟨bs, k, m, v, wi, an, now, rw, rfl, hn, hi, hok, hb0, hb1, q⟩ := h
  have sc := sc_asked
  refine ⟨_, (@pss_cons _ _ _ _ _ (ps_setcomp (i := 3) ["_law_bound"] rfl (cmp_ok (N := ["_law_line_here", "_law_which", "_law_counts", "_law_some", "_law_a", "_law_b", "_law_c"]) (so := defScope s_asked) rfl rfl (by decide +kernel)) sc.nd rfl (Or.inl rfl) (pi_tup (pe_ix ix_tup (pv 0) pe_int (fun _ _ => rfl))) (fun _ _ _ _ _ _ => (pg_name (i := 0) (show List.Nodup (α := Str) ["_law_bound", "_law_line_here", "_law_which", "_law_counts", "_law_some", "_law_a", "_law_b", "_law_c"] by decide +kernel) rfl (Or.inl rfl) (Or.inr rfl))) (fun _ _ _ _ _ _ => pifs_nil) (fun _ _ _ _ _ _ => (pe_cl c_law_here hr rfl (pa_cons (pv 0) (pa_cons (pv 3) pa_nil)))) rfl)
      (@pss_cons _ _ _ _ _ (ps_if (pt_cmpR op_eq (pv 1) pe_int (nomark _)) (pss_one (ps_ret (pv 3))) pss_nil)
      (@pss_cons _ _ _ _ _ (ps_if (pt_cmpR op_gt (pe_callB call_len_seq rfl m_len PySem.boot_len (pa_cons (pv 3) pa_nil)) pe_int (nomark _)) (pss_one (ps_ret (pe_lst pa_nil))) pss_nil)
      (@pss_cons _ _ _ _ _ (ps_asg (pe_ix ix_list (pv 3) pe_int (fun _ _ => rfl)) (pg_tup rfl (pgs_cons (pg_name (i := 4) sc.nd rfl (Or.inl rfl)) (pgs_cons (pg_name (i := 5) sc.nd rfl (Or.inl rfl)) (pgs_cons (pg_name (i := 6) sc.nd rfl (Or.inl rfl)) pgs_nil)))))
      (pss_one (ps_ret (pe_lst (pa_cons (pe_tup (pa_cons (pv 5) (pa_cons (pv 4) (pa_cons (pe_op op_sub (pe_op op_sub pe_int (pv 6)) pe_int) pa_nil)))) pa_nil)))))))), ?_⟩
  obtain ⟨a, vs, rfl, hq, il⟩ := ln_inv hi
  obtain ⟨vb, r1, rfl, ib, i1⟩ := any1 il
  obtain ⟨ab, ys, rfl, hqb, ilb⟩ := ib.tup_inv
  have ly : bs.length = ys.length := by have := ilb.length; rw [List.length_map] at this; exact this
  refine ⟨_, rfl, a, _, 1, _, rfl, rfl, hq, at1 _ _ _, ab, rfl, ⟨_, hqb⟩, fun p np => ?_⟩
  refine comp_tup (xs := ys) (fun i H' => Same H H' ∧ ∃ acc, H' p = some (.lst acc) ∧ IsL K H' (((bs.take i).map (Bd.now now)).map Ft.D) acc) ⟨same_new np _, [], upd_same, isl_nil⟩ (fun i H' _ h => h.1.tups.sq hqb) (fun i y H' ey h => ?_) (fun H' h => ?_)
  · obtain ⟨sm, acc, ea, ia⟩ := h
    have hil : i < bs.length := by have := (List.getElem?_eq_some_iff.mp ey).1; omega
    have eb := List.getElem?_eq_getElem hil
    obtain ⟨y', ey', iy⟩ := ilb.get (j := i) (d := bs[i].D) (by rw [List.getElem?_map, eb]; rfl)
    rw [ey] at ey'; cases ey'
    refine ⟨⟨[some y], rfl, rfl⟩, tTrue_ite ⟨_, rfl, _, rfl, bs[i], y, an, now, rw, rfl, sm.seq hn, iy.mono sm.tups, hok _ (List.getElem_mem hil), fun v1 H1 s1 j1 => ?_⟩⟩
    have la := ia.length
    rw [List.length_map, List.length_map, List.length_take] at la
    refine ⟨acc, s1 _ _ ea, small1000 (by omega), Same.new (sm.trans s1) np, acc ++ [v1], upd_same, ?_⟩
    have tl := Tups.lst (ys := acc ++ [v1]) (s1 _ _ ea)
    rw [List.take_succ, eb]
    simp only [Option.toList_some, List.map_append, List.map_cons, List.map_nil]
    exact IsL.append ((ia.mono s1.tups).mono tl) (isl_cons (j1.mono tl) isl_nil)
  · obtain ⟨sm, acc, ea, ia⟩ := h
    rw [← ly, List.take_length] at ia
    have la := ia.length
    rw [List.length_map, List.length_map] at la
    refine ⟨_, rfl, rfl, _, rfl, ite2 (fun cc => ?_) (fun cc => ?_)⟩
    · have e : wi = 0 := by have := of_decide_eq_true cc; injection this with h; omega
      subst e
      exact ⟨_, rfl, q H' p acc sm ea np (by rw [show branch 0 (bs.map (Bd.now now)) = bs.map (Bd.now now) from rfl]; exact ia)⟩
    have hw : wi ≠ 0 := fun e => cc (decide_eq_true (by rw [e]; rfl))
    refine ⟨_, rfl, p, _, rfl, .inl (SqL.of ea), _, _, rfl, rfl, _, rfl, ite2 (fun c2 => ?_) (fun c2 => ?_)⟩
    · have h1 := of_decide_eq_true c2
      refine ⟨Nat.le_of_ble_eq_true rfl, fun p2 n2 => q _ p2 [] (sm.trans (same_new n2 _)) upd_same (none_of_same sm n2) ?_⟩
      rw [branch_nil hw (by rw [List.length_map]; omega)]
      exact isl_nil
    have h1 : bs.length = 1 := by
      have : ¬ ((1 : Int) < (acc.length : Int)) := fun z => c2 (decide_eq_true z)
      omega
    obtain ⟨b, rfl⟩ : ∃ b, bs = [b] := List.length_eq_one_iff.mp h1
    obtain ⟨v1, r1, rfl, j1, j2⟩ := any1 ia
    cases j2.nil_inv
    obtain ⟨t, va, vb, rfl, hqt, ja, jb⟩ := ft_inv j1
    refine ⟨_, rfl, p, _, 0, _, rfl, rfl, SqL.of ea, at0 _ _, t, _, rfl, hqt, rfl, _, _, rfl, _, _, rfl, _, _, rfl, rfl, ?_⟩
    refine ⟨_, rfl, _, rfl, _, rfl, _, _, rfl, rfl, _, _, rfl, rfl, Nat.le_of_ble_eq_true rfl, fun t2 n2 => ⟨Nat.le_of_ble_eq_true rfl, fun p2 n3 => ?_⟩⟩
    have u1 := same_new n2 (.tup [vb, va, .int (0 - (b.now now).c - 1)])
    have u2 := same_new n3 (.lst [.ref t2])
    refine q _ p2 _ (sm.trans (u1.trans u2)) upd_same (none_of_same (sm.trans u1) n3) ?_
    rw [show List.map (Bd.now now) [b] = [b.now now] from rfl, branch_one hw]
    exact isl_cons (is_ftI (u2 _ _ upd_same) (jb.mono (u1.trans u2).tups) (ja.mono (u1.trans u2).tups) (by omega)) isl_nil
end
end K43
set_option Elab.async false
set_option linter.all false
set_option maxRecDepth 100000
set_option maxHeartbeats 4000000
namespace K43
open PySem PySem.Spec PyProof.Rows L2
section
variable {P : Program} {w : World} {K : PySem.W.Frag} {mg : Str → Option Value} {base : Heap} {f : Addr} {fd : FuncData} {n : Nat}
theorem or_pure {t u : TT} {σ : L2.St} {H : Hp} {Q : Bool → Hp → Prop} (b1 b2 : Bool) (ht : ∀ Q' : Bool → Hp → Prop, Q' b1 H → t σ H Q') (hu : ∀ Q' : Bool → Hp → Prop, Q' b2 H → u σ H Q') (h : Q (b1 || b2) H) : tOr t u σ H Q := by
  refine ht _ ?_
  cases b1 with
  | true => rw [if_pos rfl]; simpa using h
  | false => rw [if_neg Bool.false_ne_true]; exact hu _ (by simpa using h)
theorem or_str {x a b : Str} : (decide (V.str x = V.str a) || decide (V.str x = V.str b)) = true ↔ x = a ∨ x = b := by
  rw [Bool.or_eq_true, decide_eq_true_eq, decide_eq_true_eq]
  constructor
  · rintro (h | h)
    · exact .inl (V.str.inj h)
    · exact .inr (V.str.inj h)
  · rintro (h | h)
    · exact .inl (by rw [h])
    · exact .inr (by rw [h])
theorem place_of_word {l : Ln} (h : l.word = "get" ∨ l.word = "put") : ∃ d m, l = .deed d m ∧ ((∃ x r y c, d = .get x r y c) ∨ ∃ r y c z, d = .put r y c z) := by
  cases l with
  | deed d m =>
    cases d with
    | get x r y c => exact ⟨_, m, rfl, .inl ⟨x, r, y, c, rfl⟩⟩
    | put r y c z => exact ⟨_, m, rfl, .inr ⟨r, y, c, z, rfl⟩⟩
    | set x y c => exact absurd h (show ¬ (("set" : Str) = "get" ∨ ("set" : Str) = "put") by decide)
    | sum x z y => exact absurd h (show ¬ (("sum" : Str) = "get" ∨ ("sum" : Str) = "put") by decide)
    | len x r => exact absurd h (show ¬ (("len" : Str) = "get" ∨ ("len" : Str) = "put") by decide)
    | take x => exact absurd h (show ¬ (("take" : Str) = "get" ∨ ("take" : Str) = "put") by decide)
    | tell x => exact absurd h (show ¬ (("tell" : Str) = "get" ∨ ("tell" : Str) = "put") by decide)
  | test y u c m1 m2 => exact absurd h (show ¬ (("test" : Str) = "get" ∨ ("test" : Str) = "put") by decide)
  | ask bs m1 m2 => exact absurd h (show ¬ (("ask" : Str) = "get" ∨ ("ask" : Str) = "put") by decide)
  | stop => exact absurd h (show ¬ (("end" : Str) = "get" ∨ ("end" : Str) = "put") by decide)
theorem ask_of_word {l : Ln} (h : l.word = "ask") : ∃ bs m1 m2, l = .ask bs m1 m2 := ask_iff.mp (decide_eq_true h)
theorem ok_law_step_facts (F : Fun K "_law_step_facts" "_law_step_facts" s_law_step_facts f fd) (m_int : mg "int" = none) (c_law_named : Cl P w K mg base "_law_named" n ["_law_name", "_law_counts"] (spValueNode K)) (c_law_asked : Cl P w K mg base "_law_asked" n ["_law_line_here", "_law_which", "_law_counts"] (spAsked K)) :
    FnOk P w K mg base CX0 (n + 1) f fd ["_law_line_here", "_law_which", "_law_counts"] (spStepFacts K) := by
  refine F.ok sc_law_step_facts (fun vs H Q E h => ?_) (fun cdv A outer s H vs Q E hr h => ?_)
  · obtain ⟨l, v, k, an, now, rw, nl, rfl, _⟩ := h
    rfl
  obtain ⟨l, v, k, an, now, rw, nl, rfl, hn, hi, hok, hk, h100, q⟩ := h
  have sc := sc_law_step_facts
  refine ⟨_, (@pss_cons _ _ _ _ _ (ps_set (i := 3) sc.nd rfl (Or.inl rfl) (pe_ix ix_tup (pv 0) pe_int (fun _ _ => rfl)))
      (@pss_cons _ _ _ _ _ (ps_if (pt_cmpR op_eq (pv 3) pe_str (nomark _)) (pss_one (ps_ret (pe_cl c_law_asked hr rfl (pa_cons (pv 0) (pa_cons (pv 1) (pa_cons (pv 2) pa_nil)))))) pss_nil)
      (@pss_cons _ _ _ _ _ (ps_if (pt_cmpR op_eq (pv 3) pe_str (nomark _)) (@pss_cons _ _ _ _ _ (ps_set (i := 4) sc.nd rfl (Or.inl rfl) (pe_cl c_law_named hr rfl (pa_cons (pe_ix ix_tup (pv 0) pe_int (fun _ _ => rfl)) (pa_cons (pv 2) pa_nil))))
      (@pss_cons _ _ _ _ _ (ps_set (i := 5) sc.nd rfl (Or.inl rfl) (pe_cl c_law_named hr rfl (pa_cons (pe_ix ix_tup (pv 0) pe_int (fun _ _ => rfl)) (pa_cons (pv 2) pa_nil))))
      (pss_one (ps_ret (pe_ix ix_list (pe_lst (pa_cons (pe_lst (pa_cons (pe_tup (pa_cons (pv 4) (pa_cons (pv 5) (pa_cons (pe_ix ix_tup (pv 0) pe_int (fun _ _ => rfl)) pa_nil)))) pa_nil)) (pa_cons (pe_lst (pa_cons (pe_tup (pa_cons (pv 5) (pa_cons (pv 4) (pa_cons (pe_op op_sub (pe_op op_sub pe_int (pe_ix ix_tup (pv 0) pe_int (fun _ _ => rfl))) pe_int) pa_nil)))) pa_nil)) pa_nil))) (pv 1) (fun _ _ => rfl)))))) pss_nil)
      (@pss_cons _ _ _ _ _ (ps_if (PW.pt (pw_or (pt_cmpR op_eq (pv 3) pe_str (nomark _)) (pw_or1 (pt_cmpR op_eq (pv 3) pe_str (nomark _))))) (@pss_cons _ _ _ _ _ (ps_set (i := 6) sc.nd rfl (Or.inl rfl) (pe_ix ix_tup (pv 0) (pe_op op_sub pe_int (pe_callTy call_int1 rfl m_int PyProof.Rows.boot_int (pa_cons (pe_cmpR op_eq (pv 3) pe_str (nomark _)) pa_nil))) (fun _ _ => rfl)))
      (@pss_cons _ _ _ _ _ (ps_set (i := 7) sc.nd rfl (Or.inl rfl) (pe_cl c_law_named hr rfl (pa_cons (pe_ix ix_tup (pv 0) (pe_op op_sub pe_int (pe_callTy call_int1 rfl m_int PyProof.Rows.boot_int (pa_cons (pe_cmpR op_eq (pv 3) pe_str (nomark _)) pa_nil))) (fun _ _ => rfl)) (pa_cons (pv 2) pa_nil))))
      (@pss_cons _ _ _ _ _ (ps_set (i := 8) sc.nd rfl (Or.inl rfl) (pe_ix ix_tup (pv 0) (pe_op op_sub pe_int (pe_callTy call_int1 rfl m_int PyProof.Rows.boot_int (pa_cons (pe_cmpR op_eq (pv 3) pe_str (nomark _)) pa_nil))) (fun _ _ => rfl)))
      (pss_one (ps_ret (pe_lst (pa_cons (pe_tup (pa_cons (pe_tup (pa_cons pe_str pa_nil)) (pa_cons (pv 7) (pa_cons (pv 8) pa_nil)))) (pa_cons (pe_tup (pa_cons (pv 7) (pa_cons (pe_tup (pa_cons pe_str (pa_cons (pv 6) pa_nil))) (pa_cons (pe_op op_sub (pe_op op_sub pe_int (pv 8)) pe_int) pa_nil)))) pa_nil)))))))) pss_nil)
      (@pss_cons _ _ _ _ _ (ps_if (PW.pt (pw_or (pt_cmpR op_eq (pv 3) pe_str (nomark _)) (pw_or1 (pt_cmpR op_eq (pv 3) pe_str (nomark _))))) (@pss_cons _ _ _ _ _ (ps_set (i := 9) sc.nd rfl (Or.inl rfl) (pe_tup (pa_cons pe_str (pa_cons (pe_ix ix_tup (pv 0) pe_int (fun _ _ => rfl)) (pa_cons (pe_op op_add (pe_ix ix_list (pv 2) (pe_ix ix_tup (pv 0) pe_int (fun _ _ => rfl)) (fun _ _ => rfl)) pe_int) pa_nil)))))
      (@pss_cons _ _ _ _ _ (ps_set (i := 10) sc.nd rfl (Or.inl rfl) (pe_tup (pa_cons pe_str (pa_cons (pe_ix ix_tup (pv 0) pe_int (fun _ _ => rfl)) pa_nil))))
      (@pss_cons _ _ _ _ _ (ps_set (i := 8) sc.nd rfl (Or.inl rfl) pe_int)
      (@pss_cons _ _ _ _ _ (ps_if (pt_cmpR op_eq (pv 3) pe_str (nomark _)) (@pss_cons _ _ _ _ _ (ps_set (i := 10) sc.nd rfl (Or.inl rfl) (pe_cl c_law_named hr rfl (pa_cons (pe_ix ix_tup (pv 0) pe_int (fun _ _ => rfl)) (pa_cons (pv 2) pa_nil))))
      (pss_one (ps_set (i := 8) sc.nd rfl (Or.inl rfl) (pe_ix ix_tup (pv 0) pe_int (fun _ _ => rfl))))) pss_nil)
      (pss_one (ps_ret (pe_lst (pa_cons (pe_tup (pa_cons (pv 9) (pa_cons (pv 10) (pa_cons (pv 8) pa_nil)))) (pa_cons (pe_tup (pa_cons (pv 10) (pa_cons (pv 9) (pa_cons (pe_op op_sub pe_int (pv 8)) pa_nil)))) pa_nil))))))))) pss_nil)
      (pss_one (ps_ret (pe_lst pa_nil)))))))), ?_⟩
  obtain ⟨a, vs, rfl, hq, il⟩ := ln_inv hi
  refine ⟨_, rfl, a, _, 0, _, rfl, rfl, hq, at0 _ _, ?_⟩
  refine ⟨_, rfl, rfl, _, rfl, ite2 (fun c1 => ?_) (fun c1 => ?_)⟩
  · obtain ⟨bs, m1, m2, rfl⟩ := ask_of_word (str_t c1)
    exact ⟨_, rfl, _, rfl, _, rfl, bs, m1, m2, .ref a, k, an, now, rw, rfl, hn, hi, hok.1, hok.2.1.1, hok.2.1.2, q⟩
  have na := str_f c1
  refine ⟨_, rfl, rfl, _, rfl, ite2 (fun c2 => ?_) (fun c2 => ?_)⟩
  · obtain ⟨y, u, cc, m1, m2, rfl⟩ := word_test (str_t c2)
    obtain ⟨r1, rfl, i1⟩ := opt1 il
    obtain ⟨r2, rfl, i2⟩ := opt1 i1
    obtain ⟨r3, rfl, i3⟩ := int1 i2
    refine ⟨_, rfl, a, _, 1, _, rfl, rfl, hq, at1 _ _ _, _, rfl, y, an, now, rfl, hn, hok.1, fun v1 H1 s1 j1 => ?_⟩
    refine ⟨_, rfl, a, _, 2, _, rfl, rfl, s1.tups.sq hq, at2 _ _ _ _, _, rfl, u, an, now, rfl, s1.seq hn, hok.2.1, fun v2 H2 s2 j2 => ?_⟩
    have s12 := s1.trans s2
    refine ⟨_, rfl, _, rfl, _, rfl, a, _, 3, _, rfl, rfl, s12.tups.sq hq, at3 _ _ _ _ _, Nat.le_of_ble_eq_true rfl, fun t1 n1 => ⟨Nat.le_of_ble_eq_true rfl, fun p1 np1 => ?_⟩⟩
    have u1 := same_new n1 (.tup [v1, v2, .int cc])
    have u2 := same_new np1 (.lst [.ref t1])
    refine ⟨_, rfl, _, rfl, _, rfl, a, _, 3, _, rfl, rfl, (s12.trans (u1.trans u2)).tups.sq hq, at3 _ _ _ _ _, _, _, rfl, rfl, _, _, rfl, rfl, Nat.le_of_ble_eq_true rfl, fun t2 n2 => ⟨Nat.le_of_ble_eq_true rfl, fun p2 np2 => ⟨Nat.le_of_ble_eq_true rfl, fun p3 np3 => ?_⟩⟩⟩
    have u3 := same_new n2 (.tup [v2, v1, .int (0 - cc - 1)])
    have u4 := same_new np2 (.lst [.ref t2])
    have u5 := same_new np3 (.lst [.ref p1, .ref p2])
    have k2 : k = 0 ∨ k = 1 := by have : k < 2 := hk; omega
    rcases k2 with rfl | rfl
    · refine ⟨_, rfl, p3, _, _, _, rfl, rfl, SqL.of upd_same, at0 _ _, ?_⟩
      have u := u1.trans (u2.trans (u3.trans (u4.trans u5)))
      exact q _ p1 _ (s12.trans u) ((u3.trans (u4.trans u5)) _ _ upd_same) (none_of_same (s12.trans u1) np1) (isl_cons (is_ft ((u2.trans (u3.trans (u4.trans u5))) _ _ upd_same) (j1.mono (s2.trans u).tups) (j2.mono u.tups)) isl_nil)
    · refine ⟨_, rfl, p3, _, _, _, rfl, rfl, SqL.of upd_same, at1 _ _ _, ?_⟩
      have u := u1.trans (u2.trans (u3.trans (u4.trans u5)))
      exact q _ p2 _ (s12.trans u) (u5 _ _ upd_same) (none_of_same (s12.trans (u1.trans (u2.trans u3))) np2) (isl_cons (is_ftI ((u4.trans u5) _ _ upd_same) (j2.mono u.tups) (j1.mono (s2.trans u).tups) (by show 0 - cc - 1 = -1 - cc; omega)) isl_nil)
  have nt := str_f c2
  dsimp only [gName, tSeq, tIfS, tNext]
  refine or_pure (decide (V.str l.word = V.str "get")) (decide (V.str l.word = V.str "put")) (fun Q' h => ⟨_, rfl, rfl, _, rfl, h⟩) (fun Q' h => ⟨_, rfl, rfl, _, rfl, h⟩) (ite2 (fun c3 => ?_) (fun c3 => ?_))
  · obtain ⟨d, m, rfl, hd⟩ := place_of_word (or_str.mp c3)
    have main : ∀ (r : Nat) (y : Option Nat) (c : Int), OptOk now.length y → (Ln.deed d m).facts k now = [lowF now (r, y, c), highF now (r, y, c)] → ∀ (v1 : V) (H1 : Hp), Same H H1 → Is K H1 (ndV now y) v1 → ∀ t0 t1 t2 t3 p : Addr, H1 t0 = none → upd H1 t0 (.tup [.str "zero"]) t1 = none → upd (upd H1 t0 (.tup [.str "zero"])) t1 (.tup [.ref t0, v1, .int c]) t2 = none → upd (upd (upd H1 t0 (.tup [.str "zero"])) t1 (.tup [.ref t0, v1, .int c])) t2 (.tup [.str "len", .int (r : Int)]) t3 = none →
        upd (upd (upd (upd H1 t0 (.tup [.str "zero"])) t1 (.tup [.ref t0, v1, .int c])) t2 (.tup [.str "len", .int (r : Int)])) t3 (.tup [v1, .ref t2, .int (0 - c - 1)]) p = none →
        Q (.ref p) (upd (upd (upd (upd (upd H1 t0 (.tup [.str "zero"])) t1 (.tup [.ref t0, v1, .int c])) t2 (.tup [.str "len", .int (r : Int)])) t3 (.tup [v1, .ref t2, .int (0 - c - 1)])) p (.lst [.ref t1, .ref t3])) := by
      intro r y c oy ef v1 H1 s1 j1 t0 t1 t2 t3 p n0 n1 n2 n3 np
      rw [ef] at q
      have u0 := same_new n0 (.tup [.str "zero"])
      have u1 := same_new n1 (.tup [.ref t0, v1, .int c])
      have u2 := same_new n2 (.tup [.str "len", .int (r : Int)])
      have u3 := same_new n3 (.tup [v1, .ref t2, .int (0 - c - 1)])
      have u4 := same_new np (.lst [.ref t1, .ref t3])
      have e1 := (u2.trans (u3.trans u4)) _ _ (upd_same (H := upd H1 t0 (.tup [.str "zero"])) (a := t1) (o := .tup [.ref t0, v1, .int c]))
      have u := u0.trans (u1.trans (u2.trans (u3.trans u4)))
      refine q _ p _ (s1.trans u) upd_same (none_of_same (s1.trans (u0.trans (u1.trans (u2.trans u3)))) np) (isl_cons (is_ft e1 (is_zero ((u1.trans (u2.trans (u3.trans u4))) _ _ upd_same)) (j1.mono u.tups)) (isl_cons (is_ftI (u4 _ _ upd_same) (j1.mono u.tups) (is_len ((u3.trans u4) _ _ upd_same)) (by show 0 - c - 1 = -1 - c; omega)) isl_nil))
    rcases hd with ⟨x, r, y, c, rfl⟩ | ⟨r, y, c, z, rfl⟩
    · obtain ⟨r1, rfl, i1⟩ := int1 il
      obtain ⟨r2, rfl, i2⟩ := int1 i1
      obtain ⟨r3, rfl, i3⟩ := opt1 i2
      obtain ⟨r4, rfl, i4⟩ := int1 i3
      refine ⟨_, rfl, _, rfl, rfl, .inr ⟨_, rfl, _, _, rfl, rfl, a, _, _, _, rfl, rfl, hq, at2 _ _ _ _, ?_⟩⟩
      refine ⟨_, rfl, _, rfl, rfl, .inr ⟨_, rfl, _, _, rfl, rfl, a, _, _, _, rfl, rfl, hq, at3 _ _ _ _ _, _, rfl, y, an, now, rfl, hn, hok.1.2.2, fun v1 H1 s1 j1 => ?_⟩⟩
      refine ⟨_, rfl, _, rfl, rfl, .inr ⟨_, rfl, _, _, rfl, rfl, a, _, _, _, rfl, rfl, s1.tups.sq hq, at4 _ _ _ _ _ _, ?_⟩⟩
      exact ⟨Nat.le_of_ble_eq_true rfl, fun t0 n0 => ⟨_, rfl, _, rfl, Nat.le_of_ble_eq_true rfl, fun t1 n1 => ⟨_, rfl, _, rfl, Nat.le_of_ble_eq_true rfl, fun t2 n2 => ⟨_, rfl, _, _, rfl, rfl, _, _, rfl, rfl, Nat.le_of_ble_eq_true rfl, fun t3 n3 => ⟨Nat.le_of_ble_eq_true rfl, fun p np => main r y c hok.1.2.2 rfl v1 H1 s1 j1 t0 t1 t2 t3 p n0 n1 n2 n3 np⟩⟩⟩⟩⟩
    · obtain ⟨r2, rfl, i2⟩ := int1 il
      obtain ⟨r3, rfl, i3⟩ := opt1 i2
      obtain ⟨r4, rfl, i4⟩ := int1 i3
      refine ⟨_, rfl, _, rfl, rfl, .inr ⟨_, rfl, _, _, rfl, rfl, a, _, _, _, rfl, rfl, hq, at1 _ _ _, ?_⟩⟩
      refine ⟨_, rfl, _, rfl, rfl, .inr ⟨_, rfl, _, _, rfl, rfl, a, _, _, _, rfl, rfl, hq, at2 _ _ _ _, _, rfl, y, an, now, rfl, hn, hok.1.2.1, fun v1 H1 s1 j1 => ?_⟩⟩
      refine ⟨_, rfl, _, rfl, rfl, .inr ⟨_, rfl, _, _, rfl, rfl, a, _, _, _, rfl, rfl, s1.tups.sq hq, at3 _ _ _ _ _, ?_⟩⟩
      exact ⟨Nat.le_of_ble_eq_true rfl, fun t0 n0 => ⟨_, rfl, _, rfl, Nat.le_of_ble_eq_true rfl, fun t1 n1 => ⟨_, rfl, _, rfl, Nat.le_of_ble_eq_true rfl, fun t2 n2 => ⟨_, rfl, _, _, rfl, rfl, _, _, rfl, rfl, Nat.le_of_ble_eq_true rfl, fun t3 n3 => ⟨Nat.le_of_ble_eq_true rfl, fun p np => main r y c hok.1.2.1 rfl v1 H1 s1 j1 t0 t1 t2 t3 p n0 n1 n2 n3 np⟩⟩⟩⟩⟩
  have np' : ¬ (l.word = "get" ∨ l.word = "put") := fun z => c3 (or_str.mpr z)
  refine or_pure (decide (V.str l.word = V.str "set")) (decide (V.str l.word = V.str "len")) (fun Q' h => ⟨_, rfl, rfl, _, rfl, h⟩) (fun Q' h => ⟨_, rfl, rfl, _, rfl, h⟩) (ite2 (fun c4 => ?_) (fun c4 => ?_))
  · have fin : ∀ (x : Nat) (old : D) (c : Int) (tn : Addr) (vo : V) (H2 : Hp), l.facts k now = alikeF (newD now x) old c → Same H H2 → H2 tn = some (.tup [.str "name", .int (x : Int), .int (now[x]?.getD 0 + 1)]) → Is K H2 old vo → ∀ t1 t2 p : Addr, H2 t1 = none → upd H2 t1 (.tup [.ref tn, vo, .int c]) t2 = none → upd (upd H2 t1 (.tup [.ref tn, vo, .int c])) t2 (.tup [vo, .ref tn, .int (0 - c)]) p = none →
        Q (.ref p) (upd (upd (upd H2 t1 (.tup [.ref tn, vo, .int c])) t2 (.tup [vo, .ref tn, .int (0 - c)])) p (.lst [.ref t1, .ref t2])) := by
      intro x old c tn vo H2 ef s2 en jo t1 t2 p n1 n2 np
      rw [ef] at q
      have u1 := same_new n1 (.tup [.ref tn, vo, .int c])
      have u2 := same_new n2 (.tup [vo, .ref tn, .int (0 - c)])
      have u3 := same_new np (.lst [.ref t1, .ref t2])
      have u := u1.trans (u2.trans u3)
      exact q _ p _ (s2.trans u) upd_same (none_of_same (s2.trans (u1.trans u2)) np) (isl_cons (is_ft ((u2.trans u3) _ _ upd_same) (is_name (u _ _ en)) (jo.mono u.tups)) (isl_cons (is_ftI (u3 _ _ upd_same) (jo.mono u.tups) (is_name (u _ _ en)) (by show 0 - c = -c; omega)) isl_nil))
    rcases or_str.mp c4 with hw | hw
    · obtain ⟨x, y, c, m, rfl⟩ := word_set hw
      obtain ⟨r1, rfl, i1⟩ := int1 il
      obtain ⟨r2, rfl, i2⟩ := opt1 i1
      obtain ⟨r3, rfl, i3⟩ := int1 i2
      refine ⟨_, rfl, a, _, 1, _, rfl, rfl, hq, at1 _ _ _, _, rfl, _, rfl, a, _, 1, _, rfl, rfl, hq, at1 _ _ _, an, _, _, _, rfl, rfl, hn, atI_nat (at_ints hok.1.1), _, _, rfl, rfl, Nat.le_of_ble_eq_true rfl, fun tn nn => ?_⟩
      have s1 := same_new nn (.tup [.str "name", .int (x : Int), .int (now[x]?.getD 0 + 1)])
      refine ⟨_, rfl, a, _, 2, _, rfl, rfl, s1.tups.sq hq, at2 _ _ _ _, Nat.le_of_ble_eq_true rfl, fun tl nl' => ?_⟩
      have s2 := s1.trans (same_new nl' (.tup [.str "len", optV y]))
      have en := (same_new nl' (.tup [.str "len", optV y])) _ _ (upd_same (H := H) (a := tn) (o := .tup [.str "name", .int (x : Int), .int (now[x]?.getD 0 + 1)]))
      dsimp only [gName, tSeq, tIfS, tNext]
      refine ⟨_, rfl, rfl, _, rfl, iteT ?_⟩
      refine ⟨_, rfl, a, _, 2, _, rfl, rfl, s2.tups.sq hq, at2 _ _ _ _, _, rfl, y, an, now, rfl, s2.seq hn, hok.1.2, fun v3 H3 s3 j3 => ?_⟩
      refine ⟨_, rfl, a, _, 3, _, rfl, rfl, (s2.trans s3).tups.sq hq, at3 _ _ _ _ _, ?_⟩
      exact ⟨_, rfl, _, rfl, _, rfl, Nat.le_of_ble_eq_true rfl, fun t1 n1 => ⟨_, rfl, _, rfl, _, rfl, _, _, rfl, rfl, Nat.le_of_ble_eq_true rfl, fun t2 n2 => ⟨Nat.le_of_ble_eq_true rfl, fun p np => fin x _ c tn v3 H3 rfl (s2.trans s3) (s3 _ _ en) j3 t1 t2 p n1 n2 np⟩⟩⟩
    · obtain ⟨x, r, m, rfl⟩ := word_len hw
      obtain ⟨r1, rfl, i1⟩ := int1 il
      obtain ⟨r2, rfl, i2⟩ := int1 i1
      refine ⟨_, rfl, a, _, 1, _, rfl, rfl, hq, at1 _ _ _, _, rfl, _, rfl, a, _, 1, _, rfl, rfl, hq, at1 _ _ _, an, _, _, _, rfl, rfl, hn, atI_nat (at_ints hok.1.1), _, _, rfl, rfl, Nat.le_of_ble_eq_true rfl, fun tn nn => ?_⟩
      have s1 := same_new nn (.tup [.str "name", .int (x : Int), .int (now[x]?.getD 0 + 1)])
      refine ⟨_, rfl, a, _, 2, _, rfl, rfl, s1.tups.sq hq, at2 _ _ _ _, Nat.le_of_ble_eq_true rfl, fun tl nl' => ?_⟩
      have s2 := s1.trans (same_new nl' (.tup [.str "len", .int (r : Int)]))
      have en := (same_new nl' (.tup [.str "len", .int (r : Int)])) _ _ (upd_same (H := H) (a := tn) (o := .tup [.str "name", .int (x : Int), .int (now[x]?.getD 0 + 1)]))
      dsimp only [gName, tSeq, tIfS, tNext]
      refine ⟨_, rfl, rfl, _, rfl, iteF ?_⟩
      exact ⟨_, rfl, _, rfl, _, rfl, Nat.le_of_ble_eq_true rfl, fun t1 n1 => ⟨_, rfl, _, rfl, _, rfl, _, _, rfl, rfl, Nat.le_of_ble_eq_true rfl, fun t2 n2 => ⟨Nat.le_of_ble_eq_true rfl, fun p np => fin x _ 0 tn (.ref tl) _ rfl s2 en (is_len upd_same) t1 t2 p n1 n2 np⟩⟩⟩
  have ns' : ¬ (l.word = "set" ∨ l.word = "len") := fun z => c4 (or_str.mpr z)
  refine ⟨Nat.le_of_ble_eq_true rfl, fun p np => q _ p [] (same_new np _) upd_same np ?_⟩
  have e : l.facts k now = [] := by
    cases l with
    | deed d m =>
      cases d with
      | set x y cc => exact absurd (.inl rfl) ns'
      | len x r => exact absurd (.inr rfl) ns'
      | get x r y cc => exact absurd (.inl rfl) np'
      | put r y cc z => exact absurd (.inr rfl) np'
      | _ => rfl
    | test => exact absurd rfl nt
    | ask => exact absurd rfl na
    | stop => rfl
  rw [e]; exact isl_nil
end
end K43
set_option Elab.async false
set_option linter.all false
set_option maxRecDepth 100000
set_option maxHeartbeats 4000000
namespace K43
open PySem PySem.Spec PyProof.Rows L2
noncomputable abbrev s_due : Stmt := top 40
noncomputable abbrev s_plain : Stmt := top 41
theorem sc_due : FnScope ["_law_program_here", "_law_steps_here", "_law_counts", "_law_facts", "_law_at", "_law_which", "_law_line_here"] ["_law_program_here", "_law_steps_here"] (defScope s_due) := ⟨rfl, rfl, rfl, by decide +kernel, rfl, by decide +kernel, by decide +kernel⟩
theorem sc_plain : FnScope ["_law_found", "_law_due_here"] ["_law_found", "_law_due_here"] (defScope s_plain) := ⟨rfl, rfl, rfl, by decide +kernel, rfl, by decide +kernel, by decide +kernel⟩
noncomputable def spDue (K : PySem.W.Frag) : Sp := fun vs H Q _ => ExQ Q (fun (t : Addr) Q => ExQ Q (fun (as_ : Addr) Q => ExQ Q (fun (nm : Nat) Q => ExQ Q (fun (rw : Nat) Q => ExQ Q (fun (ls : List Ln) Q => ExQ Q (fun (st : List (Nat × Nat)) Q => vs = [.ref t, .ref as_] ∧ Walked K H t as_ nm rw ls st ∧
  ∀ (H' : Hp) (p pf pc : Addr) (fs : List V), Same H H' → H' p = some (.lst [.ref pf, .ref pc]) → H' pf = some (.lst fs) → H' pc = some (.lst (intsV (along ls nm rw st st.length).2)) → IsL K H' ((along ls nm rw st st.length).1.map Ft.D) fs → Q (.ref p) H'))))))
noncomputable def Flat (d : D) : Prop := ∃ ds, d = .tup ds ∧ ds ≠ [] ∧ ds.length ≤ 3 ∧ ∀ e ∈ ds, (∃ x, e = .str x) ∨ ∃ i, e = .int i
theorem flat_zero : Flat zeroD := ⟨[.str "zero"], rfl, by simp, by simp, fun e he => by rw [List.mem_singleton.mp he]; exact .inl ⟨_, rfl⟩⟩
theorem flat_name (x : Nat) (v : Int) : Flat (nameD x v) := ⟨[.str "name", .int (x : Int), .int v], rfl, by simp, by simp, fun e he => by
  simp only [List.mem_cons, List.not_mem_nil, or_false] at he
  rcases he with rfl | rfl | rfl
  · exact .inl ⟨_, rfl⟩
  · exact .inr ⟨_, rfl⟩
  · exact .inr ⟨_, rfl⟩⟩
theorem flat_len (r : Nat) : Flat (lenD r) := ⟨[.str "len", .int (r : Int)], rfl, by simp, by simp, fun e he => by
  simp only [List.mem_cons, List.not_mem_nil, or_false] at he
  rcases he with rfl | rfl
  · exact .inl ⟨_, rfl⟩
  · exact .inr ⟨_, rfl⟩⟩
theorem flat_ndV (now : List Int) (y : Option Nat) : Flat (ndV now y) := by
  cases y with
  | none => exact flat_zero
  | some x => exact flat_name _ _
theorem flat_now (now : List Int) (q : Nd) : Flat (q.now now) := by
  cases q with
  | zero => exact flat_zero
  | name x => exact flat_name _ _
  | len r => exact flat_len _
noncomputable def Ft.Flat (f : Ft) : Prop := K43.Flat f.a ∧ K43.Flat f.b
theorem flat_branch {k : Nat} {fs : List Ft} (h : ∀ f ∈ fs, f.Flat) : ∀ f ∈ branch k fs, f.Flat := by
  intro f hf
  unfold branch at hf
  split at hf
  · exact h f hf
  · split at hf
    · rename_i g
      rw [List.mem_singleton.mp hf]
      have := h g (List.mem_singleton.mpr rfl)
      exact ⟨this.2, this.1⟩
    · cases hf
theorem flat_alike {a b : D} {c : Int} (ha : Flat a) (hb : Flat b) : ∀ f ∈ alikeF a b c, f.Flat := by
  intro f hf
  rcases List.mem_cons.mp (show f ∈ [(⟨a, b, c⟩ : Ft), ⟨b, a, -c⟩] from hf) with rfl | hf
  · exact ⟨ha, hb⟩
  · rw [List.mem_singleton.mp hf]; exact ⟨hb, ha⟩
theorem flat_two {now : List Int} {s : Nat × Option Nat × Int} : ∀ f ∈ [lowF now s, highF now s], f.Flat := by
  intro f hf
  rcases List.mem_cons.mp hf with rfl | hf
  · exact ⟨flat_zero, flat_ndV _ _⟩
  · rw [List.mem_singleton.mp hf]; exact ⟨flat_ndV _ _, flat_len _⟩
theorem flat_none : ∀ f ∈ ([] : List Ft), f.Flat := fun f hf => by cases hf
theorem flat_facts {k : Nat} {now : List Int} (l : Ln) : ∀ f ∈ l.facts k now, f.Flat := by
  cases l with
  | deed d m =>
    cases d with
    | set x y c => exact flat_alike (flat_name _ _) (flat_ndV _ _)
    | len x r => exact flat_alike (flat_name _ _) (flat_len _)
    | get x r y c => exact flat_two
    | put r y c z => exact flat_two
    | sum x z y => exact flat_none
    | take x => exact flat_none
    | tell x => exact flat_none
  | test y u c k2 m => exact flat_branch fun f hf => by rw [List.mem_singleton.mp hf]; exact ⟨flat_ndV _ _, flat_ndV _ _⟩
  | ask bs k2 m =>
    refine flat_branch fun f hf => ?_
    obtain ⟨q, _, rfl⟩ := List.mem_map.mp hf
    exact ⟨flat_now _ _, flat_now _ _⟩
  | stop => exact flat_none
theorem flat_along {ls : List Ln} {nm rw : Nat} {st : List (Nat × Nat)} : ∀ j, j ≤ st.length → ∀ f ∈ (along ls nm rw st j).1, f.Flat
  | 0, _ => fun f hf => by
    obtain ⟨r, _, rfl⟩ := List.mem_map.mp (show f ∈ (List.range rw).map fun r => (⟨zeroD, lenD r, 0⟩ : Ft) from hf)
    exact ⟨flat_zero, flat_len _⟩
  | j + 1, h => fun f hf => by
    rw [along_next (List.getElem?_eq_getElem (show j < st.length by omega))] at hf
    unfold goS at hf
    split at hf
    · rcases List.mem_append.mp hf with hf | hf
      · exact flat_along j (by omega) f hf
      · exact flat_facts _ f hf
    · exact flat_along j (by omega) f hf
theorem dep_str (x : Str) : D.dep (.str x) = 0 := by unfold D.dep; rfl
theorem dep_int (x : Int) : D.dep (.int x) = 0 := by unfold D.dep; rfl
theorem dep_non : D.dep .non = 0 := by unfold D.dep; rfl
theorem dep_tup (l : List D) : D.dep (.tup l) = 1 + D.depL l := by conv => lhs; unfold D.dep
theorem depL_nil : D.depL [] = 0 := by unfold D.depL; rfl
theorem depL_cons (d : D) (l : List D) : D.depL (d :: l) = max d.dep (D.depL l) := by conv => lhs; unfold D.depL
theorem depL_le {l : List D} {n : Nat} (h : ∀ d ∈ l, d.dep ≤ n) : D.depL l ≤ n := by
  induction l with
  | nil => rw [depL_nil]; exact Nat.zero_le _
  | cons d l ih =>
    rw [depL_cons]
    exact Nat.max_le.mpr ⟨h d List.mem_cons_self, ih fun x hx => h x (List.mem_cons_of_mem _ hx)⟩
theorem dep_flat {d : D} (h : Flat d) : d.dep ≤ 1 := by
  obtain ⟨ds, rfl, _, _, he⟩ := h
  have : D.depL ds ≤ 0 := depL_le fun e hd => by
    rcases he e hd with ⟨x, rfl⟩ | ⟨i, rfl⟩
    · rw [dep_str]; exact Nat.le_refl _
    · rw [dep_int]; exact Nat.le_refl _
  rw [dep_tup]; omega
noncomputable def spPlain (K : PySem.W.Frag) : Sp := fun vs H Q _ => ExQ Q (fun (f : Ft) Q => ExQ Q (fun (v : V) Q => ExQ Q (fun (u : V) Q => vs = [v, u] ∧ f.Flat ∧ Is K H f.D v ∧ Is K H f.D u ∧ ∀ H', Same H H' → Q (.bl true) H')))
section
variable {P : Program} {w : World} {K : PySem.W.Frag} {mg : Str → Option Value} {base : Heap} {f : Addr} {fd : FuncData} {n : Nat}
theorem flat_inv {H : Hp} {d : D} {v : V} (hf : Flat d) (h : Is K H d v) : ∃ a xs, v = .ref a ∧ SqT K H a xs ∧ xs ≠ [] ∧ xs.length ≤ 3 ∧ ∀ x ∈ xs, (∃ z, x = .str z) ∨ ∃ i, x = .int i := by
  obtain ⟨ds, rfl, hne, hl, he⟩ := hf
  obtain ⟨a, xs, rfl, hq, il⟩ := h.tup_inv
  have ln := il.length
  refine ⟨a, xs, rfl, hq, fun e => hne ?_, by omega, fun x hx => ?_⟩
  · rw [e] at ln; exact List.length_eq_zero_iff.mp ln
  · obtain ⟨j, hj⟩ := List.mem_iff_getElem?.mp hx
    obtain ⟨d, ed, id⟩ := il.get' hj
    rcases he d (List.mem_of_getElem? ed) with ⟨z, rfl⟩ | ⟨i, rfl⟩
    · exact .inl ⟨z, id.str_inv⟩
    · exact .inr ⟨i, id.int_inv⟩
theorem ok_plain (F : Fun K "_law_plain" "_law_plain" s_plain f fd) (m_isinstance : mg "isinstance" = none) (m_bool : mg "bool" = none) (m_tuple : mg "tuple" = none) (m_any : mg "any" = none) : FnOk P w K mg base CX0 (n + 1) f fd ["_law_found", "_law_due_here"] (spPlain K) := by
  refine F.ok sc_plain (fun vs H Q E h => ?_) (fun cdv A outer s H vs Q E hr h => ?_)
  · obtain ⟨f, v, u, rfl, _⟩ := h
    rfl
  obtain ⟨ft, v, u, rfl, hf, hv, hu', q⟩ := h
  have sc := sc_plain
  have hu : (A.deeper (envOfC "_law_plain" (defScope s_plain) s.heap.objs.size f cdv)).units + 1 + 9 < cLine := by have := hr.units; omega
  refine ⟨_, (@pss_cons _ _ _ _ _ (ps_if (PW.pt (pw_or (pt_not (pt_val (pe_callB call_isiQ rfl m_isinstance PyProof.Rows.boot_isinstance (pa_cons (pv 0) (pa_cons (pe_bltn rfl m_tuple PyProof.Rows.boot_tuple (v := .ty "tuple") rfl) pa_nil))))) (pw_or (pt_cmpR (op_neD (n := 9) hu) (pv 0) (pv 1) (nomark _)) (pw_or1 (pt_val (pe_callB call_isi rfl m_isinstance PyProof.Rows.boot_isinstance (pa_cons (pe_ix ix_tup (pv 0) pe_int (fun _ _ => rfl)) (pa_cons (pe_bltn rfl m_bool PyProof.Rows.boot_bool (v := .ty "bool") rfl) pa_nil)))))))) (pss_one (ps_ret pe_bl)) pss_nil)
      (pss_one (ps_ret (pe_not (pe_callB (call_any rfl) rfl m_any PyProof.Rows.boot_any (pa_cons (pe_comp ["_law_part"] rfl (cmp_ok (N := ["_law_found", "_law_due_here"]) (so := defScope s_plain) rfl rfl (by decide +kernel)) (pi_tup (pe_op op_catT (pe_ix ix_tup (pv 0) pe_int (fun _ _ => rfl)) (pe_ix ix_tup (pv 0) pe_int (fun _ _ => rfl)))) (fun _ _ _ _ _ _ => (pg_name (i := 0) (show List.Nodup (α := Str) ["_law_part", "_law_found", "_law_due_here"] by decide +kernel) rfl (Or.inl rfl) (Or.inr rfl))) (fun _ _ _ _ _ _ => pifs_nil) (fun _ _ _ _ _ _ => (pe_callB (call_isiK (K := K) rfl) rfl m_isinstance PyProof.Rows.boot_isinstance (pa_cons (pv 0) (pa_cons (pe_bltn rfl m_bool PyProof.Rows.boot_bool (v := .ty "bool") rfl) pa_nil))))) pa_nil)))))), ?_⟩
  obtain ⟨t, va, vb, rfl, hq, ia, ib⟩ := ft_inv hv
  have dd : D.depL [ft.a, ft.b, .int ft.c] < 9 := by
    have h1 := dep_flat hf.1
    have h2 := dep_flat hf.2
    rw [depL_cons, depL_cons, depL_cons, depL_nil, dep_int]; omega
  dsimp only [gName, tSeq, tIfS]
  refine ⟨_, rfl, t, _, rfl, hq, _, rfl, iteF ?_⟩
  refine ⟨_, rfl, _, rfl, _, _, hv, hu', dd, false, by rw [D.beqL_self]; rfl, iteF ?_⟩
  refine ⟨_, rfl, t, _, 2, _, rfl, rfl, hq, at2 _ _ _ _, _, "bool", _, false, rfl, .int ft.c, by with_unfolding_all rfl, _, rfl, iteF ?_⟩
  obtain ⟨ta, xa, rfl, qa, nea, la, fa⟩ := flat_inv hf.1 ia
  obtain ⟨tb, xb, rfl, qb, neb, lb, fb⟩ := flat_inv hf.2 ib
  refine ⟨_, rfl, t, _, 0, _, rfl, rfl, hq, at0 _ _, _, rfl, t, _, 1, _, rfl, rfl, hq, at1 _ _ _, ta, tb, xa, xb, rfl, rfl, qa, qb, nea, small (by omega), fun e => absurd e neb, fun _ p hp => ?_⟩
  have s1 := same_new hp (.tup (xa ++ xb))
  refine ⟨p, rfl, ⟨_, SqT.of upd_same⟩, fun pc npc => ?_⟩
  have fall : ∀ x ∈ xa ++ xb, (∃ z, x = .str z) ∨ ∃ i, x = .int i := fun x hx => by
    rcases List.mem_append.mp hx with h | h
    · exact fa x h
    · exact fb x h
  have hpc : H pc = none := none_of_same s1 npc
  have e1 : upd H p (.tup (xa ++ xb)) p = some (.tup (xa ++ xb)) := upd_same
  generalize upd H p (.tup (xa ++ xb)) = H1 at s1 npc e1
  refine comp_tup (xs := xa ++ xb) (fun i H' => Same H1 H' ∧ H' pc = some (.lst ((List.replicate i false).map V.bl))) ⟨same_new npc _, upd_same⟩ (fun i H' _ h => SqT.of (h.1 _ _ e1)) (fun i y H' ey h => ?_) (fun H' h => ?_)
  · obtain ⟨sm, ec⟩ := h
    have hi := (List.getElem?_eq_some_iff.mp ey).1
    rw [List.length_append] at hi
    have fin : ∃ acc, H' pc = some (.lst acc) ∧ acc.length < sizeLine ∧ Same H1 (upd H' pc (.lst (acc ++ [.bl false]))) ∧ upd H' pc (.lst (acc ++ [.bl false])) pc = some (.lst ((List.replicate (i + 1) false).map V.bl)) := by
      refine ⟨_, ec, small1000 (by rw [List.length_map, List.length_replicate]; omega), Same.new sm npc, ?_⟩
      rw [List.replicate_succ', List.map_append]; exact upd_same
    rcases fall y (List.mem_of_getElem? ey) with ⟨z, rfl⟩ | ⟨z, rfl⟩
    · exact ⟨⟨[some (.str z)], rfl, rfl⟩, tTrue_ite ⟨_, rfl, _, "bool", _, false, rfl, .str z, by with_unfolding_all rfl, fin⟩⟩
    · exact ⟨⟨[some (.int z)], rfl, rfl⟩, tTrue_ite ⟨_, rfl, _, "bool", _, false, rfl, .int z, by with_unfolding_all rfl, fin⟩⟩
  · obtain ⟨sm, ec⟩ := h
    refine ⟨pc, _, rfl, SqL.of ec, false, ?_, q _ (s1.trans sm)⟩
    have e : (List.replicate (xa ++ xb).length false).any id = false := by
      rw [List.any_eq_false]
      intro x hx
      rw [(List.mem_replicate.mp hx).2]; decide
    rw [e]
theorem word_in (l : Ln) : inV (.str l.word) [.str "set", .str "sum", .str "len", .str "take", .str "get"] = l.given.isSome := by
  cases l with
  | deed d k => cases d <;> rfl
  | test y u c k m => rfl
  | ask bs k m => rfl
  | stop => rfl
theorem given_arg {H : Hp} {l : Ln} {x : Nat} {vs : List V} (h : l.given = some x) (il : IsL K H l.args vs) : ∃ r, vs = .int (x : Int) :: r := by
  cases l with
  | deed d k =>
    cases d with
    | set x y c => cases h; obtain ⟨r, rfl, _⟩ := int1 il; exact ⟨r, rfl⟩
    | sum x z y => cases h; obtain ⟨r, rfl, _⟩ := int1 il; exact ⟨r, rfl⟩
    | len x r => cases h; obtain ⟨r, rfl, _⟩ := int1 il; exact ⟨r, rfl⟩
    | take x => cases h; obtain ⟨r, rfl, _⟩ := int1 il; exact ⟨r, rfl⟩
    | get x r y c => cases h; obtain ⟨r, rfl, _⟩ := int1 il; exact ⟨r, rfl⟩
    | tell x => cases h
    | put r y c z => cases h
  | test y u c k m => cases h
  | ask bs k m => cases h
  | stop => cases h
theorem ok_due (F : Fun K "_law_due" "_law_due" s_due f fd) (m_range : mg "range" = none) (c_law_step_facts : Cl P w K mg base "_law_step_facts" n ["_law_line_here", "_law_which", "_law_counts"] (spStepFacts K)) : FnOk P w K mg base CX0 (n + 1) f fd ["_law_program_here", "_law_steps_here"] (spDue K) := by
  refine F.ok sc_due (fun vs H Q E h => ?_) (fun cdv A outer s H vs Q E hr h => ?_)
  · obtain ⟨t, as_, nm, rw, ls, st, rfl, _⟩ := h
    rfl
  obtain ⟨t, as_, nm, rw, ls, st, rfl, W, q⟩ := h
  obtain ⟨⟨al, xs, hq, hal, iL⟩, ⟨ys, hys, iS⟩, ok, sok, hnm, hrw, hst⟩ := W
  have sc := sc_due
  refine ⟨_, (@pss_cons _ _ _ _ _ (ps_set (i := 2) sc.nd rfl (Or.inl rfl) (pe_op op_rep (pe_lst (pa_cons pe_int pa_nil)) (pe_ix ix_tup (pv 0) pe_int (fun _ _ => rfl))))
      (@pss_cons _ _ _ _ _ (ps_setcomp (i := 3) ["_law_row"] rfl (cmp_ok (N := ["_law_program_here", "_law_steps_here", "_law_counts", "_law_facts", "_law_at", "_law_which", "_law_line_here"]) (so := defScope s_due) rfl rfl (by decide +kernel)) sc.nd rfl (Or.inl rfl) (pi_range1 rfl m_range (pa_cons (pe_ix ix_tup (pv 0) pe_int (fun _ _ => rfl)) pa_nil)) (fun _ _ _ _ _ _ => (pg_name (i := 0) (show List.Nodup (α := Str) ["_law_row", "_law_program_here", "_law_steps_here", "_law_counts", "_law_facts", "_law_at", "_law_which", "_law_line_here"] by decide +kernel) rfl (Or.inl rfl) (Or.inr rfl))) (fun _ _ _ _ _ _ => pifs_nil) (fun _ _ _ _ _ _ => (pe_tup (pa_cons (pe_tup (pa_cons pe_str pa_nil)) (pa_cons (pe_tup (pa_cons pe_str (pa_cons (pv 0) pa_nil))) (pa_cons pe_int pa_nil))))) rfl)
      (@pss_cons _ _ _ _ _ (ps_for PassesOwn.never rfl (pi_list (pv 1)) (pg_tup rfl (pgs_cons (pg_name (i := 4) sc.nd rfl (Or.inl rfl)) (pgs_cons (pg_name (i := 5) sc.nd rfl (Or.inl rfl)) pgs_nil))) (@pss_cons _ _ _ _ _ (ps_set (i := 6) sc.nd rfl (Or.inl rfl) (pe_ix ix_list (pe_ix ix_tup (pv 0) pe_int (fun _ _ => rfl)) (pv 4) (fun _ _ => rfl)))
      (@pss_cons _ _ _ _ _ (ps_set (i := 3) sc.nd rfl (Or.inl rfl) (pe_op op_cat (pv 3) (pe_cl c_law_step_facts hr rfl (pa_cons (pv 6) (pa_cons (pv 5) (pa_cons (pv 2) pa_nil))))))
      (pss_one (ps_if (pt_cmpR op_in_seq (pe_ix ix_tup (pv 6) pe_int (fun _ _ => rfl)) (pe_tup (pa_consts rfl)) (by with_unfolding_all rfl)) (pss_one (ps_asg (pe_op op_add (pe_ix ix_list (pv 2) (pe_ix ix_tup (pv 6) pe_int (fun _ _ => rfl)) (fun _ _ => rfl)) pe_int) (pg_sub (pv 2) (pe_ix ix_tup (pv 6) pe_int (fun _ _ => rfl)) set_list))) pss_nil)))))
      (pss_one (ps_ret (pe_lst (pa_cons (pv 3) (pa_cons (pv 2) pa_nil)))))))), ?_⟩
  refine ⟨Nat.le_of_ble_eq_true rfl, fun lz nlz => ?_⟩
  have s0 := same_new nlz (.lst [.int 0])
  refine ⟨_, rfl, t, _, 0, _, rfl, rfl, s0.tups.sq hq, at0 _ _, lz, _, [.int 0], rfl, rfl, upd_same, by omega, by omega, (by rw [sizeLine_eq, Int.toNat_natCast, List.length_singleton]; omega), fun pc npc => ?_⟩
  rw [Int.toNat_natCast, rep_ints]
  have s1 := s0.trans (same_new npc (.lst (intsV (List.replicate nm 0))))
  have npc0 : H pc = none := none_of_same s0 npc
  have ec0 : upd (upd H lz (.lst [.int 0])) pc (.lst (intsV (List.replicate nm 0))) pc = some (.lst (intsV (List.replicate nm 0))) := upd_same
  generalize upd (upd H lz (.lst [.int 0])) pc (.lst (intsV (List.replicate nm 0))) = H1 at s1 ec0
  refine ⟨_, rfl, t, _, 1, _, rfl, rfl, s1.tups.sq hq, at1 _ _ _, _, rfl, by omega, by omega, fun p np => ?_⟩
  rw [Int.toNat_natCast]
  refine comp_range (n := rw) (fun i H' => Same H1 H' ∧ ∃ acc, H' p = some (.lst acc) ∧ IsL K H' ((rowF i).map Ft.D) acc) ⟨same_new np _, [], upd_same, isl_nil⟩ (fun i H' hi h => ?_) (fun H2 h => ?_)
  · obtain ⟨sm, acc, ea, ia⟩ := h
    refine ⟨⟨[some (.int (0 + (i : Int)))], rfl, rfl⟩, tTrue_ite ?_⟩
    rw [Int.zero_add]
    refine ⟨Nat.le_of_ble_eq_true rfl, fun t0 n0 => ⟨_, rfl, Nat.le_of_ble_eq_true rfl, fun t1 n1 => ⟨Nat.le_of_ble_eq_true rfl, fun t2 n2 => ?_⟩⟩⟩
    have u0 := same_new n0 (.tup [.str "zero"])
    have u1 := same_new n1 (.tup [.str "len", .int (i : Int)])
    have u2 := same_new n2 (.tup [.ref t0, .ref t1, .int 0])
    have u12 := u0.trans (u1.trans u2)
    have la := ia.length
    unfold rowF at la
    rw [List.length_map, List.length_map, List.length_range] at la
    have ea2 := u12 _ _ ea
    refine ⟨acc, ea2, small1000 (by omega), Same.new (sm.trans u12) np, acc ++ [.ref t2], upd_same, ?_⟩
    have tl := Tups.lst (ys := acc ++ [.ref t2]) ea2
    have e : rowF (i + 1) = rowF i ++ [⟨zeroD, lenD i, 0⟩] := by unfold rowF; rw [List.range_succ, List.map_append]; rfl
    rw [e, List.map_append]
    exact IsL.append ((ia.mono u12.tups).mono tl) (isl_cons ((is_ft upd_same (is_zero ((u1.trans u2) _ _ upd_same)) (is_len (u2 _ _ upd_same))).mono tl) isl_nil)
  obtain ⟨sm2, acc, ea, ia⟩ := h
  have s2 := s1.trans sm2
  have pcp : pc ≠ p := (ne_p ec0 np)
  refine ⟨_, rfl, as_, rfl, ⟨_, s2.seq hys⟩, for_list (xs := ys) (fun j σ H' => ∃ (pf : Addr) (y4 y5 y6 : Option V) (acc : List V), σ = [some (.ref t), some (.ref as_), some (.ref pc), some (.ref pf), y4, y5, y6] ∧ pc ≠ pf ∧ Same H H' ∧ H' pf = some (.lst acc) ∧ IsL K H' ((along ls nm rw st j).1.map Ft.D) acc ∧ H' pc = some (.lst (intsV (along ls nm rw st j).2)))
    ⟨p, _, _, _, acc, rfl, pcp, s2, ea, ia, sm2 _ _ ec0⟩ (fun j σ H' _ h => ?_) (fun j y σ H' ey h => ?_) (fun σ H' h => ?_)⟩
  · obtain ⟨_, _, _, _, _, _, _, s', _⟩ := h
    exact s'.seq hys
  · obtain ⟨pf, y4, y5, y6, acc, rfl, pcf, s', ep, ia', ec⟩ := h
    obtain ⟨sp, ts, esp, rfl, hqs⟩ := step_read (iS.mono s'.tups) ey
    have hjl : j < st.length := (List.getElem?_eq_some_iff.mp esp).1
    obtain ⟨l, el, hw⟩ := sok sp (List.mem_of_getElem? esp)
    have far := along_far ok sok (j := j) (by omega)
    have okl := ok l (List.mem_of_getElem? el)
    rw [along_next esp, goS_some el]
    refine ⟨ts, _, rfl, hqs, rfl, _, _, rfl, _, _, rfl, rfl, ?_⟩
    obtain ⟨vl, evl, ivl⟩ := (iL.mono s'.tups).get (j := sp.1) (d := l.D) (by rw [List.getElem?_map, el]; rfl)
    obtain ⟨tl, vs, rfl, hql, ilv⟩ := ln_inv ivl
    have h1 := far.f
    have h3 := far.n
    generalize along ls nm rw st j = now at *
    refine ⟨_, rfl, t, _, 2, _, rfl, rfl, s'.tups.sq hq, at2 _ _ _ _, _, rfl, al, xs, _, _, rfl, rfl, s'.seq hal, atI_nat evl, ?_⟩
    refine ⟨_, rfl, _, rfl, _, rfl, _, rfl, l, .ref tl, sp.2, pc, now.2, rw, ls.length, rfl, SqL.of ec, ivl, by rw [h3]; exact okl, hw, by omega, fun H3 pf' fs s3 ef nf iff => ?_⟩
    have ep3 := s3 _ _ ep
    have la := ia'.length
    rw [List.length_map] at la
    have lf := iff.length
    rw [List.length_map] at lf
    have h2 := facts_len (k := sp.2) (now := now.2) okl
    refine ⟨pf, pf', acc, fs, rfl, rfl, ep3, ef, (by rw [sizeLine_eq]; omega), fun p4 n4 => ?_⟩
    have u4 := same_new n4 (.lst (acc ++ fs))
    have s4 := s3.trans u4
    have ec4 := s4 _ _ ec
    have i4 : IsL K (upd H3 p4 (.lst (acc ++ fs))) ((now.1 ++ l.facts sp.2 now.2).map Ft.D) (acc ++ fs) := by rw [List.map_append]; exact IsL.append (ia'.mono s4.tups) (iff.mono u4.tups)
    have e4 : upd H3 p4 (.lst (acc ++ fs)) p4 = some (.lst (acc ++ fs)) := upd_same
    have pc4 : pc ≠ p4 := ne_p (s3 _ _ ec) n4
    generalize upd H3 p4 (.lst (acc ++ fs)) = H4 at s4 ec4 i4 e4
    have hql4 := s4.tups.sq hql
    refine ⟨_, rfl, tl, _, 0, _, rfl, rfl, hql4, at0 _ _, Nat.le_of_ble_eq_true rfl, fun t5 n5 => ⟨t5, _, rfl, .inr (SqT.of upd_same), rfl, rfl, _, rfl, ?_⟩⟩
    have u5 := same_new n5 (.tup [.str "set", .str "sum", .str "len", .str "take", .str "get"])
    have s5 := s'.trans (s4.trans u5)
    have ec5 := u5 _ _ ec4
    have e5 := u5 _ _ e4
    have i5 := i4.mono u5.tups
    have hb : (inV (.str l.word) [.str "set", .str "sum", .str "len", .str "take", .str "get"]) = l.given.isSome := word_in l
    have hgo := given_ok okl
    refine ite2 (fun cc => ?_) (fun cc => ?_)
    · obtain ⟨x, hx⟩ : ∃ x, l.given = some x := Option.isSome_iff_exists.mp (by rw [← hb]; exact cc)
      obtain ⟨r, rfl⟩ := given_arg hx ilv
      have hxl : x < now.2.length := by rw [hx] at hgo; rw [h3]; exact hgo
      have hql5 := u5.tups.sq hql4
      refine ⟨_, rfl, _, rfl, tl, _, 1, _, rfl, rfl, hql5, at1 _ _ _, pc, _, _, _, rfl, rfl, SqL.of ec5, atI_nat (at_ints hxl), _, _, rfl, rfl, _, rfl, _, rfl, tl, _, 1, _, rfl, rfl, hql5, at1 _ _ _, pc, _, _, x, rfl, rfl, ec5, by rw [len_ints]; exact ixN_nat hxl, ?_⟩
      have tl5 := Tups.lst (ys := (intsV now.2).set x (.int (now.2[x]?.getD 0 + 1))) ec5
      refine ⟨p4, _, _, _, acc ++ fs, rfl, pc4, Same.new s5 npc0, ?_, i5.mono tl5, ?_⟩
      · rw [upd_ne pc4.symm]; exact e5
      · rw [upd_same, ints_set]
        show _ = some (HO.lst (intsV (bump now.2 l.given)))
        rw [hx]; rfl
    · have hx : l.given = none := by
        cases hg : l.given with
        | none => rfl
        | some x => exact absurd (by rw [hb, hg]; rfl) cc
      refine ⟨p4, _, _, _, acc ++ fs, rfl, pc4, s5, e5, i5, ?_⟩
      show _ = some (HO.lst (intsV (bump now.2 l.given)))
      rw [hx]; exact ec5
  · obtain ⟨pf, y4, y5, y6, acc, rfl, pcf, s', ep, ia', ec⟩ := h
    have ly : ys.length = st.length := by have := iS.length; rw [List.length_map] at this; exact this.symm
    rw [ly] at ia' ec
    refine ⟨_, rfl, _, rfl, Nat.le_of_ble_eq_true rfl, fun pr npr => ?_⟩
    have u := same_new npr (.lst [.ref pf, .ref pc])
    exact q _ pr pf pc acc (s'.trans u) upd_same (u _ _ ep) (u _ _ ec) (ia'.mono u.tups)
end
end K43
set_option Elab.async false
set_option linter.all false
set_option maxRecDepth 100000
set_option maxHeartbeats 4000000
namespace K43
open PySem PySem.Spec PyProof.Rows L2
noncomputable abbrev s_law : Stmt := top 42
theorem sc_law : FnScope ["_law_script", "_law_program_here", "_law_handed", "_law_steps_here", "_law_given", "_law_again", "_law_k", "_law_facts", "_law_counts", "_law_found", "_law_told", "_law_cell", "_law_a", "_law_b", "_law_c", "_law_one", "_law_due_here"] ["_law_script"] (defScope s_law) := ⟨rfl, rfl, rfl, by decide +kernel, rfl, by decide +kernel, by decide +kernel⟩
noncomputable def spLaw (K : PySem.W.Frag) : Sp := fun vs H Q _ => ExQ Q (fun (a : Addr) Q => ExQ Q (fun (ns : List Int) Q => vs = [.ref a] ∧ SqL K H a (ns.map V.int) ∧ ns.length ≤ 63 ∧ ∀ H', Q (.bl true) H'))
theorem dep_opt (y : Option Nat) : (optD y).dep = 0 := by cases y with | none => exact dep_non | some i => exact dep_int _
theorem dep_nd (q : Nd) : q.D.dep ≤ 1 := by
  cases q <;> simp [Nd.D, Nd.args, dep_tup, depL_cons, depL_nil, dep_str, dep_int]
theorem dep_bd (q : Bd) : q.D.dep ≤ 2 := by
  have h1 := dep_nd q.a
  have h2 := dep_nd q.b
  unfold Bd.D
  rw [dep_tup, depL_cons, depL_cons, depL_cons, depL_nil, dep_int]; omega
theorem dep_ln (l : Ln) : l.D.dep ≤ 4 := by
  cases l with
  | deed d k => cases d <;> simp [Ln.D, Ln.args, Deed.args, dep_tup, depL_cons, depL_nil, dep_str, dep_int, dep_opt]
  | test y u c k m => simp [Ln.D, Ln.args, dep_tup, depL_cons, depL_nil, dep_str, dep_int, dep_opt]
  | ask bs k m =>
    have h : D.depL (bs.map Bd.D) ≤ 2 := depL_le fun d hd => by
      obtain ⟨q, _, rfl⟩ := List.mem_map.mp hd
      exact dep_bd q
    unfold Ln.D Ln.args
    rw [dep_tup, depL_cons, dep_str, depL_cons, depL_cons, depL_cons, depL_nil, dep_tup, dep_int, dep_int]; omega
  | stop => simp [Ln.D, Ln.args, dep_tup, depL_cons, depL_nil, dep_str]
theorem dep_step (s : Nat × Nat) : (stepD s).dep ≤ 4 := by
  unfold stepD
  rw [dep_tup, depL_cons, depL_cons, depL_nil, dep_int, dep_int]; omega
theorem tdepL_cons (t : T) (ts : List T) : T.depL (t :: ts) = max t.dep (T.depL ts) := by conv => lhs; unfold T.depL
theorem tdepL_nil : T.depL [] = 0 := by unfold T.depL; rfl
theorem tdep_d (d : D) : T.dep (.d d) = d.dep := by unfold T.dep; rfl
theorem tdep_int (i : Int) : T.dep (.d (.int i)) = 0 := by rw [tdep_d]; unfold D.dep; rfl
theorem tdep_ds : ∀ {ds : List D} {n : Nat}, (∀ d ∈ ds, d.dep ≤ n) → T.depL (ds.map T.d) ≤ n
  | [], n, _ => by rw [List.map_nil, tdepL_nil]; exact Nat.zero_le _
  | d :: ds, n, h => by
    rw [List.map_cons, tdepL_cons, tdep_d]
    exact Nat.max_le.mpr ⟨h d List.mem_cons_self, tdep_ds fun x hx => h x (List.mem_cons_of_mem _ hx)⟩
theorem tdep_lst (ts : List T) : T.dep (.lst ts) = 1 + T.depL ts := by conv => lhs; unfold T.dep
theorem dep_intl : ∀ (l : List Int), D.depL (l.map D.int) = 0
  | [] => by unfold D.depL; rfl
  | i :: l => by rw [List.map_cons, depL_cons, dep_int, dep_intl l]; rfl
section
variable {P : Program} {w : World} {K : PySem.W.Frag} {mg : Str → Option Value} {base : Heap} {f : Addr} {fd : FuncData} {n : Nat}
theorem intV_isl {H : Hp} : ∀ (l : List Int), IsL K H (l.map D.int) (intsV l)
  | [] => isl_nil
  | i :: l => isl_cons is_int (intV_isl l)
theorem ok_law (F : Fun K "law" "law" s_law f fd) (m_range : mg "range" = none) (m_zip : mg "zip" = none) (m_any : mg "any" = none) (m_isinstance : mg "isinstance" = none) (m_bool : mg "bool" = none) (m_list : mg "list" = none) (m_len : mg "len" = none)
    (c_law_program : Cl P w K mg base "_law_program" n ["_law_script", "_law_at", "_law_most"] (spProgram K)) (c_law_steps : Cl P w K mg base "_law_steps" n ["_law_script", "_law_lines"] (spSteps K)) (c_law_due : Cl P w K mg base "_law_due" n ["_law_program_here", "_law_steps_here"] (spDue K))
    (c_facts_of : Cl P w K mg base "facts_of" n ["program", "steps"] (spFactsOf K)) (c_versions : Cl P w K mg base "versions" n ["program", "steps"] (spVersions K)) (c_law_plain : Cl P w K mg base "_law_plain" n ["_law_found", "_law_due_here"] (spPlain K))
    (c_law_draw : Cl P w K mg base "_law_draw" n ["_law_script", "_law_k"] (spDraw K)) (c_law_node : Cl P w K mg base "_law_node" n ["_law_cell", "_law_names", "_law_rows"] (spNode K)) (c_at_end : Cl P w K mg base "at_end" n ["program", "steps", "bound"] (spAtEnd K)) (c_law_here : Cl P w K mg base "_law_here" n ["_law_bound", "_law_counts"] (spBoundNow K)) :
    FnOk P w K mg base CX0 (n + 1) f fd ["_law_script"] (spLaw K) := by
  refine F.ok sc_law (fun vs H Q E h => ?_) (fun cdv A outer s H vs Q E hr h => ?_)
  · obtain ⟨a, ns, rfl, _⟩ := h
    rfl
  obtain ⟨a, ns, rfl, hS, h63, q⟩ := h
  have sc := sc_law
  have hu : (A.deeper (envOfC "law" (defScope s_law) s.heap.objs.size f cdv)).units + 1 + 9 < cLine := by have := hr.units; omega
  have hu1 : (A.deeper (envOfC "law" (defScope s_law) s.heap.objs.size f cdv)).units + 1 + 1 < cLine := by omega
  refine ⟨_, (@pss_cons _ _ _ _ _ (ps_set (i := 1) sc.nd rfl (Or.inl rfl) (pe_cl c_law_program hr rfl (pa_cons (pv 0) (pa_cons pe_int (pa_cons pe_int pa_nil)))))
      (@pss_cons _ _ _ _ _ (ps_set (i := 2) sc.nd rfl (Or.inl rfl) (pe_tup (pa_cons (pe_ix ix_tup (pv 1) pe_int (fun _ _ => rfl)) (pa_cons (pe_ix ix_tup (pv 1) pe_int (fun _ _ => rfl)) (pa_cons (pe_callTy call_list_of rfl m_list PyProof.Rows.boot_list (pa_cons (pe_ix ix_tup (pv 1) pe_int (fun _ _ => rfl)) pa_nil)) pa_nil)))))
      (@pss_cons _ _ _ _ _ (ps_set (i := 3) sc.nd rfl (Or.inl rfl) (pe_cl c_law_steps hr rfl (pa_cons (pv 0) (pa_cons (pe_ix ix_tup (pv 1) pe_int (fun _ _ => rfl)) pa_nil))))
      (@pss_cons _ _ _ _ _ (ps_set (i := 4) sc.nd rfl (Or.inl rfl) (pe_callTy call_list_of rfl m_list PyProof.Rows.boot_list (pa_cons (pv 3) pa_nil)))
      (@pss_cons _ _ _ _ _ (ps_asg (pe_cl c_law_due hr rfl (pa_cons (pv 1) (pa_cons (pv 3) pa_nil))) (pg_lst rfl (pgs_cons (pg_name (i := 7) sc.nd rfl (Or.inl rfl)) (pgs_cons (pg_name (i := 8) sc.nd rfl (Or.inl rfl)) pgs_nil))))
      (@pss_cons _ _ _ _ _ (ps_for PassesOwn.never rfl (pi_range1 rfl m_range (pa_cons pe_int pa_nil)) (pg_name (i := 5) sc.nd rfl (Or.inl rfl)) (@pss_cons _ _ _ _ _ (ps_set (i := 9) sc.nd rfl (Or.inl rfl) (pe_cl c_facts_of hr rfl (pa_cons (pv 2) (pa_cons (pv 4) pa_nil))))
      (@pss_cons _ _ _ _ _ (ps_set (i := 10) sc.nd rfl (Or.inl rfl) (pe_cl c_versions hr rfl (pa_cons (pv 2) (pa_cons (pv 4) pa_nil))))
      (@pss_cons _ _ _ _ _ (ps_if (PW.pt (pw_or (pt_not (pt_val (pe_callB call_isi rfl m_isinstance PyProof.Rows.boot_isinstance (pa_cons (pv 9) (pa_cons (pe_bltn rfl m_list PyProof.Rows.boot_list (v := .ty "list") rfl) pa_nil))))) (pw_or (pt_cmpR op_ne (pe_callB call_len_seq rfl m_len PySem.boot_len (pa_cons (pv 9) pa_nil)) (pe_callB call_len_seq rfl m_len PySem.boot_len (pa_cons (pv 7) pa_nil)) (nomark _)) (pw_or (pt_not (pt_val (pe_callB call_isi rfl m_isinstance PyProof.Rows.boot_isinstance (pa_cons (pv 10) (pa_cons (pe_bltn rfl m_list PyProof.Rows.boot_list (v := .ty "list") rfl) pa_nil))))) (pw_or1 (pt_cmpR (op_neDL (n := 1) hu1) (pv 10) (pv 8) (nomark _))))))) (pss_one (ps_ret pe_bl)) pss_nil)
      (@pss_cons _ _ _ _ _ (ps_if (pt_val (pe_callB (call_any rfl) rfl m_any PyProof.Rows.boot_any (pa_cons (pe_comp ["_law_number_here"] rfl (cmp_ok (N := ["_law_script", "_law_program_here", "_law_handed", "_law_steps_here", "_law_given", "_law_again", "_law_k", "_law_facts", "_law_counts", "_law_found", "_law_told", "_law_cell", "_law_a", "_law_b", "_law_c", "_law_one", "_law_due_here"]) (so := defScope s_law) rfl rfl (by decide +kernel)) (pi_list (pv 10)) (fun _ _ _ _ _ _ => (pg_name (i := 0) (show List.Nodup (α := Str) ["_law_number_here", "_law_script", "_law_program_here", "_law_handed", "_law_steps_here", "_law_given", "_law_again", "_law_k", "_law_facts", "_law_counts", "_law_found", "_law_told", "_law_cell", "_law_a", "_law_b", "_law_c", "_law_one", "_law_due_here"] by decide +kernel) rfl (Or.inl rfl) (Or.inr rfl))) (fun _ _ _ _ _ _ => pifs_nil) (fun _ _ _ _ _ _ => (pe_callB (call_isiK (K := K) rfl) rfl m_isinstance PyProof.Rows.boot_isinstance (pa_cons (pv 0) (pa_cons (pe_bltn rfl m_bool PyProof.Rows.boot_bool (v := .ty "bool") rfl) pa_nil))))) pa_nil))) (pss_one (ps_ret pe_bl)) pss_nil)
      (@pss_cons _ _ _ _ _ (ps_for PassesOwn.never rfl (pi_zip rfl m_zip (pa_cons (pv 9) (pa_cons (pv 7) pa_nil))) (pg_tup rfl (pgs_cons (pg_name (i := 15) sc.nd rfl (Or.inl rfl)) (pgs_cons (pg_name (i := 16) sc.nd rfl (Or.inl rfl)) pgs_nil))) (pss_one (ps_if (pt_not (pt_val (pe_cl c_law_plain hr rfl (pa_cons (pv 15) (pa_cons (pv 16) pa_nil))))) (pss_one (ps_ret pe_bl)) pss_nil)))
      (@pss_cons _ _ _ _ _ (ps_expr (pe_bm PySem.F.plainAttrs_list PySem.F.slot_list_append PySem.F.type_list_append mt_append (pv 9) (pa_cons pe_non pa_nil)))
      (pss_one (ps_expr (pe_bm PySem.F.plainAttrs_list PySem.F.slot_list_append PySem.F.type_list_append mt_append (pv 10) (pa_cons pe_int pa_nil)))))))))))
      (@pss_cons _ _ _ _ _ (ps_for PassesOwn.never rfl (pi_range1 rfl m_range (pa_cons pe_int pa_nil)) (pg_name (i := 6) sc.nd rfl (Or.inl rfl)) (@pss_cons _ _ _ _ _ (ps_set (i := 11) sc.nd rfl (Or.inl rfl) (pe_cl c_law_draw hr rfl (pa_cons (pv 0) (pa_cons (pe_op op_add pe_int (pv 6)) pa_nil))))
      (@pss_cons _ _ _ _ _ (ps_set (i := 12) sc.nd rfl (Or.inl rfl) (pe_cl c_law_node hr rfl (pa_cons (pv 11) (pa_cons (pe_ix ix_tup (pv 1) pe_int (fun _ _ => rfl)) (pa_cons (pe_ix ix_tup (pv 1) pe_int (fun _ _ => rfl)) pa_nil)))))
      (@pss_cons _ _ _ _ _ (ps_set (i := 13) sc.nd rfl (Or.inl rfl) (pe_cl c_law_node hr rfl (pa_cons (pe_op op_fdiv (pv 11) pe_int) (pa_cons (pe_ix ix_tup (pv 1) pe_int (fun _ _ => rfl)) (pa_cons (pe_ix ix_tup (pv 1) pe_int (fun _ _ => rfl)) pa_nil)))))
      (@pss_cons _ _ _ _ _ (ps_set (i := 14) sc.nd rfl (Or.inl rfl) (pe_op op_sub (pe_op op_mod (pe_op op_fdiv (pv 11) pe_int) (pe_op op_add (pe_op op_mul pe_int (pe_op op_pow pe_int pe_int)) pe_int)) (pe_op op_pow pe_int pe_int)))
      (pss_one (ps_if (pt_not (pt_val (pe_cl c_law_plain hr rfl (pa_cons (pe_cl c_at_end hr rfl (pa_cons (pv 2) (pa_cons (pv 4) (pa_cons (pe_tup (pa_cons (pv 12) (pa_cons (pv 13) (pa_cons (pv 14) pa_nil)))) pa_nil)))) (pa_cons (pe_cl c_law_here hr rfl (pa_cons (pe_tup (pa_cons (pv 12) (pa_cons (pv 13) (pa_cons (pv 14) pa_nil)))) (pa_cons (pv 8) pa_nil))) pa_nil))))) (pss_one (ps_ret pe_bl)) pss_nil)))))))
      (pss_one (ps_ret (pe_and (pe_cmpR (op_eqT (n := 9) hu) (pv 2) (pv 1) (nomark _)) (pe_one (pe_cmpR (op_eqT (n := 9) hu) (pv 4) (pv 3) (nomark _))))))))))))), ?_⟩
  refine ⟨_, rfl, a, ns, rfl, hS, h63, fun nm rw ls xs tp al H1 s1 etp eal nal il hP => ?_⟩
  have hnm := hP.hn
  have hrw := hP.hr
  refine ⟨_, rfl, tp, _, 0, _, rfl, rfl, SqT.of etp, at0 _ _, _, rfl, tp, _, 1, _, rfl, rfl, SqT.of etp, at1 _ _ _, _, rfl, tp, _, 2, _, rfl, rfl, SqT.of etp, at2 _ _ _ _, al, xs, rfl, .inl (SqL.of eal), fun l2 nl2 => ⟨Nat.le_of_ble_eq_true rfl, fun th nth => ?_⟩⟩
  have u1 := same_new nl2 (.lst xs)
  have u2 := same_new nth (.tup [.int (nm : Int), .int (rw : Int), .ref l2])
  have u12 := u1.trans u2
  have el2 := u2 _ _ (upd_same (H := H1) (a := l2) (o := .lst xs))
  have eth : upd (upd H1 l2 (.lst xs)) th (.tup [.int (nm : Int), .int (rw : Int), .ref l2]) th = some (.tup [.int (nm : Int), .int (rw : Int), .ref l2]) := upd_same
  have etp2 := u12 _ _ etp
  have eal2 := u12 _ _ eal
  have il2 := il.mono u12.tups
  have s2 := s1.trans u12
  generalize upd (upd H1 l2 (.lst xs)) th (.tup [.int (nm : Int), .int (rw : Int), .ref l2]) = H2 at el2 eth etp2 eal2 il2 s2
  clear u1 u2 u12 nl2 nth etp eal il s1 nal
  refine ⟨_, rfl, _, rfl, tp, _, 2, _, rfl, rfl, SqT.of etp2, at2 _ _ _ _, a, ns, al, xs, nm, rw, ls, rfl, s2.seq hS, h63, SqL.of eal2, il2, hP, fun st H4 ps ys s4 eps nps iys sok hst => ?_⟩
  refine ⟨_, rfl, ps, ys, rfl, .inl (SqL.of eps), fun pg npg => ?_⟩
  have u5 := same_new npg (.lst ys)
  have s5 := s4.trans u5
  have W1 : Walked K (upd H4 pg (.lst ys)) tp ps nm rw ls st := ⟨⟨al, xs, SqT.of (s5 _ _ etp2), SqL.of (s5 _ _ eal2), il2.mono s5.tups⟩, ⟨ys, SqL.of (u5 _ _ eps), iys.mono u5.tups⟩, hP.ok, sok, by omega, by omega, by omega⟩
  have W2 : Walked K (upd H4 pg (.lst ys)) th pg nm rw ls st := ⟨⟨l2, xs, SqT.of (s5 _ _ eth), SqL.of (s5 _ _ el2), il2.mono s5.tups⟩, ⟨ys, SqL.of upd_same, iys.mono u5.tups⟩, hP.ok, sok, by omega, by omega, by omega⟩
  have far := along_far hP.ok sok (j := st.length) (Nat.le_refl _)
  have eg : upd H4 pg (.lst ys) pg = some (.lst ys) := upd_same
  have eps5 := u5 _ _ eps
  generalize upd H4 pg (.lst ys) = H5 at s5 W1 W2 eg eps5 u5
  refine ⟨_, rfl, _, rfl, tp, ps, nm, rw, ls, st, rfl, W1, fun H6 pd pf pc fs s6 ed ef ec iff => ⟨pd, _, rfl, SqL.of ed, rfl, _, _, rfl, _, _, rfl, rfl, ?_⟩⟩
  have s06 := s2.trans (s5.trans s6)
  have s26 := s5.trans s6
  have hS6 := s06.seq hS
  have W6 := W2.same s6
  have lf : (along ls nm rw st st.length).1.length = fs.length := by have := iff.length; rw [List.length_map] at this; exact this
  have flat := flat_along (ls := ls) (nm := nm) (rw := rw) (st := st) st.length (Nat.le_refl _)
  have hfar := far.f
  have hn := far.n
  refine ⟨_, rfl, by decide, by decide, ?_⟩
  refine for_range (fun j σ H' => Same H6 H' ∧ ∃ y5 y9 y10 y15 y16 : Option V, σ = [some (.ref a), some (.ref tp), some (.ref th), some (.ref ps), some (.ref pg), y5, none, some (.ref pf), some (.ref pc), y9, y10, none, none, none, none, y15, y16]) ⟨Same.refl _, _, _, _, _, _, rfl⟩ (fun j σ H' hj h => ?_) (fun σ H' h => ?_)
  · obtain ⟨sm, y5, y9, y10, y15, y16, rfl⟩ := h
    refine ⟨_, rfl, _, rfl, th, pg, nm, rw, ls, st, rfl, W6.same sm, fun H7 p7 xs7 s7 e7 n7 i7 => ?_⟩
    refine ⟨_, rfl, _, rfl, th, pg, nm, rw, ls, st, rfl, W6.same (sm.trans s7), fun H8 p8 s8 e8 n8 => ?_⟩
    have e78 := s8 _ _ e7
    have i78 := i7.mono s8.tups
    have p78 : p7 ≠ p8 := ne_p e7 n8
    have s68 := sm.trans (s7.trans s8)
    have np7 := none_of_same sm n7
    have np8 := none_of_same (sm.trans s7) n8
    have l7 : xs7.length = fs.length := by have := i7.length; rw [List.length_map] at this; omega
    clear e7 i7
    dsimp only [gName, tSeq, tIfS]
    refine ⟨_, rfl, _, "list", _, true, rfl, .lst e78, rfl, _, rfl, iteF ?_⟩
    refine ⟨_, rfl, p7, _, rfl, .inl (SqL.of e78), _, rfl, pf, _, rfl, .inl (SqL.of (s68 _ _ ef)), rfl, false, by rw [l7, decide_eq_true rfl]; rfl, iteF ?_⟩
    refine ⟨_, rfl, _, "list", _, true, rfl, .lst e8, rfl, _, rfl, iteF ?_⟩
    refine ⟨_, rfl, _, rfl, p8, pc, _, _, _, _, rfl, rfl, SqL.of e8, SqL.of (s68 _ _ ec), intV_isl _, intV_isl _, by rw [dep_intl]; decide, false, by rw [D.beqL_self]; rfl, iteF ?_⟩
    refine ⟨_, rfl, p8, rfl, ⟨_, SqL.of e8⟩, fun pq npq => ?_⟩
    refine comp_list (xs := intsV (along ls nm rw st st.length).2) (fun i H' => Same H8 H' ∧ H' pq = some (.lst ((List.replicate i false).map V.bl))) ⟨same_new npq _, upd_same⟩ (fun i H' _ h => SqL.of (h.1 _ _ e8)) (fun i y H' ey h => ?_) (fun H9 h => ?_)
    · obtain ⟨sq, eq⟩ := h
      have hi := (List.getElem?_eq_some_iff.mp ey).1
      rw [len_ints] at hi
      have ei := at_ints hi
      rw [ey] at ei
      cases ei
      refine ⟨⟨[some _], rfl, rfl⟩, tTrue_ite ⟨_, rfl, _, "bool", _, false, rfl, .int _, by with_unfolding_all rfl, _, eq, small1000 (by rw [List.length_map, List.length_replicate]; omega), Same.new sq npq, ?_⟩⟩
      rw [List.replicate_succ', List.map_append]; exact upd_same
    obtain ⟨sq, eq⟩ := h
    have eany : (List.replicate (intsV (along ls nm rw st st.length).2).length false).any id = false := by
      rw [List.any_eq_false]
      intro x hx
      rw [(List.mem_replicate.mp hx).2]; decide
    refine ⟨pq, _, rfl, SqL.of eq, false, by rw [eany], iteF ?_⟩
    have e79 := sq _ _ e78
    have e89 := sq _ _ e8
    have s69 := s68.trans sq
    have i79 := i78.mono sq.tups
    clear e78 e8 i78 s68 eq npq
    refine ⟨_, rfl, _, rfl, p7, pf, rfl, ⟨_, SqL.of e79⟩, ⟨_, SqL.of (s69 _ _ ef)⟩, for_zip (xs := xs7) (ys := fs) (fun i σ H' => Same H9 H' ∧ ∃ y15 y16 : Option V, σ = [some (.ref a), some (.ref tp), some (.ref th), some (.ref ps), some (.ref pg), some (.int (0 + (j : Int))), none, some (.ref pf), some (.ref pc), some (.ref p7), some (.ref p8), none, none, none, none, y15, y16]) l7 ⟨Same.refl _, _, _, rfl⟩ (fun i σ H' _ h => ⟨SqL.of (h.1 _ _ e79), SqL.of ((s69.trans h.1) _ _ ef)⟩) (fun i x y σ H' t ex ey h ht => ?_) (fun σ H' h => ?_)⟩
    · obtain ⟨sz, y15, y16, rfl⟩ := h
      have ut := same_new ht (.tup [x, y])
      obtain ⟨d, ed, id⟩ := i79.get' ex
      rw [List.getElem?_map] at ed
      obtain ⟨ft, eft, rfl⟩ := Option.map_eq_some_iff.mp ed
      obtain ⟨y', ey', iy⟩ := iff.get (j := i) (d := ft.D) (by rw [List.getElem?_map, eft]; rfl)
      rw [ey] at ey'; cases ey'
      refine ⟨t, _, rfl, SqT.of upd_same, rfl, _, _, rfl, _, _, rfl, rfl, ?_⟩
      exact ⟨_, rfl, _, rfl, ft, x, y, rfl, flat ft (List.mem_of_getElem? eft), id.mono (sz.trans ut).tups, iy.mono (s69.trans (sz.trans ut)).tups, fun H10 s10 => ⟨_, rfl, iteF ⟨sz.trans (ut.trans s10), _, _, rfl⟩⟩⟩
    · obtain ⟨sz, y15, y16, rfl⟩ := h
      have e7z := sz _ _ e79
      have e8z := sz _ _ e89
      refine ⟨_, rfl, .inl ⟨rfl, _, SqL.of e7z⟩, p7, xs7, .non, rfl, rfl, e7z, by rw [sizeLine_eq]; omega, ?_⟩
      have e8y : upd H' p7 (.lst (xs7 ++ [.non])) p8 = some (.lst (intsV (along ls nm rw st st.length).2)) := by rw [upd_ne p78.symm]; exact e8z
      refine ⟨_, rfl, .inl ⟨rfl, _, SqL.of e8y⟩, p8, _, .int 7, rfl, rfl, e8y, by rw [len_ints, sizeLine_eq]; omega, ?_⟩
      exact ⟨Same.new (Same.new (s69.trans sz) np7) np8, _, _, _, _, _, rfl⟩
  obtain ⟨sm, y5, y9, y10, y15, y16, rfl⟩ := h
  refine ⟨_, rfl, by decide, by decide, ?_⟩
  refine for_range (fun j σ H' => Same H6 H' ∧ ∃ y6 y11 y12 y13 y14 : Option V, σ = [some (.ref a), some (.ref tp), some (.ref th), some (.ref ps), some (.ref pg), y5, y6, some (.ref pf), some (.ref pc), y9, y10, y11, y12, y13, y14, y15, y16]) ⟨sm, _, _, _, _, _, rfl⟩ (fun j σ H' hj h => ?_) (fun σ H' h => ?_)
  · obtain ⟨sm, y6, y11, y12, y13, y14, rfl⟩ := h
    have hj4 : j < 4 := hj
    have etp6 := (s26.trans sm) _ _ etp2
    refine ⟨_, rfl, _, rfl, _, _, rfl, rfl, a, ns, _, rfl, sm.seq hS6, h63, by omega, by omega, fun c => ?_⟩
    refine ⟨_, rfl, _, rfl, tp, _, 0, _, rfl, rfl, SqT.of etp6, at0 _ _, _, rfl, tp, _, 1, _, rfl, rfl, SqT.of etp6, at1 _ _ _, c, (nm : Int), (rw : Int), rfl, by omega, by omega, by omega, by omega, fun d1 v1 H7 nd1 s7 is1 => ?_⟩
    have etp7 := s7 _ _ etp6
    refine ⟨_, rfl, _, _, rfl, rfl, ⟨by decide, by decide⟩, _, rfl, tp, _, 0, _, rfl, rfl, SqT.of etp7, at0 _ _, _, rfl, tp, _, 1, _, rfl, rfl, SqT.of etp7, at1 _ _ _, _, (nm : Int), (rw : Int), rfl, by omega, by omega, by omega, by omega, fun d2 v2 H8 nd2 s8 is2 => ?_⟩
    obtain ⟨q1, ok1, rfl⟩ := node_nd nd1
    obtain ⟨q2, ok2, rfl⟩ := node_nd nd2
    refine ⟨_, rfl, _, _, rfl, rfl, ⟨by decide, by decide⟩, _, _, rfl, rfl, ⟨by decide, by decide, by decide⟩, _, _, rfl, rfl, .inl ⟨by decide, by decide⟩, _, _, rfl, rfl, _, _, rfl, rfl, (by show (0 : Int) < 2 * 10 ^ Int.toNat 12 + 1; decide), _, _, rfl, rfl, ⟨by decide, by decide, by decide⟩, _, _, rfl, rfl, ?_⟩
    dsimp only [gName, tSeq]
    generalize c / 256 % (2 * 10 ^ (12 : Int).toNat + 1) - 10 ^ (12 : Int).toNat = cc
    have s68 := sm.trans (s7.trans s8)
    refine ⟨_, rfl, _, rfl, _, rfl, _, rfl, _, rfl, Nat.le_of_ble_eq_true rfl, fun t1 n1 => ?_⟩
    have v1' := same_new n1 (.tup [v1, v2, .int cc])
    refine ⟨th, pg, nm, rw, ls, st, ⟨q1, q2, cc⟩, .ref t1, rfl, W6.same (s68.trans v1'), is_tup (SqT.of upd_same) (isl_cons (is1.mono (s8.trans v1').tups) (isl_cons (is2.mono v1'.tups) (isl_cons is_int isl_nil))), ⟨ok1, ok2⟩, fun v3 H9 s9 i9 => ?_⟩
    have s89 := v1'.trans s9
    refine ⟨_, rfl, _, rfl, _, rfl, Nat.le_of_ble_eq_true rfl, fun t2 n2 => ?_⟩
    have v2' := same_new n2 (.tup [v1, v2, .int cc])
    have s80 := s89.trans v2'
    refine ⟨_, rfl, ⟨q1, q2, cc⟩, .ref t2, pc, _, rw, rfl, SqL.of ((s68.trans s80) _ _ ec), is_tup (SqT.of upd_same) (isl_cons (is1.mono (s8.trans s80).tups) (isl_cons (is2.mono s80.tups) (isl_cons is_int isl_nil))), by rw [hn]; exact ⟨ok1, ok2⟩, fun v4 H10 s10 i10 => ?_⟩
    exact ⟨_, v3, v4, rfl, ⟨flat_now _ _, flat_now _ _⟩, i9.mono (v2'.trans s10).tups, i10, fun H11 s11 => ⟨_, rfl, iteF ⟨s68.trans (s80.trans (s10.trans s11)), _, _, _, _, _, rfl⟩⟩⟩
  obtain ⟨sm, y6, y11, y12, y13, y14, rfl⟩ := h
  have s2e := s26.trans sm
  have s5e := s6.trans sm
  have dd : T.depL ((ls.map Ln.D).map T.d) ≤ 4 := tdep_ds fun d hd => by
    obtain ⟨l, _, rfl⟩ := List.mem_map.mp hd
    exact dep_ln l
  have ds : T.depL ((st.map stepD).map T.d) ≤ 4 := tdep_ds fun d hd => by
    obtain ⟨l, _, rfl⟩ := List.mem_map.mp hd
    exact dep_step l
  have itl : IsTL K H' ((ls.map Ln.D).map T.d) xs := istl_ds (il2.mono s2e.tups)
  have its : IsTL K H' ((st.map stepD).map T.d) ys := istl_ds (iys.mono (u5.trans s5e).tups)
  refine ⟨_, rfl, _, rfl, [.d (.int (nm : Int)), .d (.int (rw : Int)), .lst ((ls.map Ln.D).map T.d)], .inr ⟨ist_tup (SqT.of (s2e _ _ eth)) (istl_cons (ist_d is_int) (istl_cons (ist_d is_int) (istl_cons (ist_lst (SqL.of (s2e _ _ el2)) itl) istl_nil))), ist_tup (SqT.of (s2e _ _ etp2)) (istl_cons (ist_d is_int) (istl_cons (ist_d is_int) (istl_cons (ist_lst (SqL.of (s2e _ _ eal2)) itl) istl_nil)))⟩, ?_, _, rfl, iteT ?_⟩
  · rw [tdepL_cons, tdepL_cons, tdepL_cons, tdepL_nil, tdep_int, tdep_int, tdep_lst]; omega
  exact ⟨_, rfl, _, rfl, (st.map stepD).map T.d, .inl ⟨ist_lst (SqL.of (s5e _ _ eg)) its, ist_lst (SqL.of (s5e _ _ eps5)) its⟩, by omega, q _⟩
end
end K43
set_option Elab.async false
set_option linter.all false
set_option maxRecDepth 100000
set_option maxHeartbeats 4000000
namespace K43
open PySem PySem.Spec PyProof.Rows L2
theorem tabG_mk {K : PySem.W.Frag} {mg : Str → Option Value} {aG aL : Addr} {oG oL : Obj} {nG nL : Nat} {iG iL : Array Value} (mv : mg "GIVING" = some (.ref aG)) (lG : K.lookup aG = some oG) (cG : oG.cls = .type "tuple") (dG : oG.data = .seq iG nG) (zG : iG.size ≤ sizeLine) (vG : Vals (givingL.map V.str) iG.toList)
    (ml : mg "PLACING" = some (.ref aL)) (lL : K.lookup aL = some oL) (cL : oL.cls = .type "tuple") (dL : oL.data = .seq iL nL) (zL : iL.size ≤ sizeLine) (vL : Vals (placingL.map V.str) iL.toList) : TabG K mg aG aL :=
  ⟨mv, fun H => .inr ⟨oG, iG, nG, lG, cG, dG, zG, vG⟩, ml, fun H => .inr ⟨oL, iL, nL, lL, cL, dL, zL, vL⟩⟩
theorem tabZ_mk {K : PySem.W.Frag} {mg : Str → Option Value} {aZ : Addr} {oZ : Obj} {nZ : Nat} {iZ : Array Value} (mz : mg "ZERO" = some (.ref aZ)) (lZ : K.lookup aZ = some oZ) (cZ : oZ.cls = .type "tuple") (dZ : oZ.data = .seq iZ nZ) (zZ : iZ.size ≤ sizeLine) (vZ : Vals [.str "zero"] iZ.toList) : TabZ K mg aZ :=
  ⟨mz, fun H => .inr ⟨oZ, iZ, nZ, lZ, cZ, dZ, zZ, vZ⟩⟩
end K43
set_option Elab.async false
set_option linter.all false
set_option maxRecDepth 100000
set_option maxHeartbeats 4000000
namespace K43
open PySem PySem.Spec PyProof.Rows L2
theorem lenS {n : Nat} {us : List Value} (hl : us.length = n + 1) : ∃ a t, us = a :: t ∧ t.length = n := by
  cases us with
  | nil => cases hl
  | cons a t => exact ⟨a, t, rfl, Nat.succ.inj hl⟩
theorem len1 {p : List Value → Prop} {us : List Value} (hl : us.length = 1) (h : ∀ a, p [a]) : p us := by
  obtain ⟨a, t, rfl, e⟩ := lenS hl
  obtain rfl := List.eq_nil_of_length_eq_zero e
  exact h a
theorem len2 {p : List Value → Prop} {us : List Value} (hl : us.length = 2) (h : ∀ a0 a1, p [a0, a1]) : p us := by
  obtain ⟨a, t, rfl, e⟩ := lenS hl
  exact len1 (p := fun t => p (a :: t)) e (h a)
theorem len3 {p : List Value → Prop} {us : List Value} (hl : us.length = 3) (h : ∀ a0 a1 a2, p [a0, a1, a2]) : p us := by
  obtain ⟨a, t, rfl, e⟩ := lenS hl
  exact len2 (p := fun t => p (a :: t)) e (h a)
theorem len4 {p : List Value → Prop} {us : List Value} (hl : us.length = 4) (h : ∀ a0 a1 a2 a3, p [a0, a1, a2, a3]) : p us := by
  obtain ⟨a, t, rfl, e⟩ := lenS hl
  exact len3 (p := fun t => p (a :: t)) e (h a)
theorem len5 {p : List Value → Prop} {us : List Value} (hl : us.length = 5) (h : ∀ a0 a1 a2 a3 a4, p [a0, a1, a2, a3, a4]) : p us := by
  obtain ⟨a, t, rfl, e⟩ := lenS hl
  exact len4 (p := fun t => p (a :: t)) e (h a)
theorem len6 {p : List Value → Prop} {us : List Value} (hl : us.length = 6) (h : ∀ a0 a1 a2 a3 a4 a5, p [a0, a1, a2, a3, a4, a5]) : p us := by
  obtain ⟨a, t, rfl, e⟩ := lenS hl
  exact len5 (p := fun t => p (a :: t)) e (h a)
theorem len7 {p : List Value → Prop} {us : List Value} (hl : us.length = 7) (h : ∀ a0 a1 a2 a3 a4 a5 a6, p [a0, a1, a2, a3, a4, a5, a6]) : p us := by
  obtain ⟨a, t, rfl, e⟩ := lenS hl
  exact len6 (p := fun t => p (a :: t)) e (h a)
theorem all_mk {l : PySem.W.OpenLaw} {w : World} {K : PySem.W.Frag} {h : Heap} {mg : Str → Option Value} {fa : Addr} (X : K.In h) (G : h.Ns mainGlobals mg) (hfa : mg "law" = some (.ref fa))
    {f1 : Addr} {od1 an1 : Option Addr} {sl1 : Array (Option Value)} {oc1 kV1 dc1 pm1 cd1 ct1 : Value}
    {f2 : Addr} {od2 an2 : Option Addr} {sl2 : Array (Option Value)} {oc2 kV2 dc2 pm2 cd2 ct2 : Value}
    {f3 : Addr} {od3 an3 : Option Addr} {sl3 : Array (Option Value)} {oc3 kV3 dc3 pm3 cd3 ct3 : Value}
    {f4 : Addr} {od4 an4 : Option Addr} {sl4 : Array (Option Value)} {oc4 kV4 dc4 pm4 cd4 ct4 : Value}
    {f5 : Addr} {od5 an5 : Option Addr} {sl5 : Array (Option Value)} {oc5 kV5 dc5 pm5 cd5 ct5 : Value}
    {f6 : Addr} {od6 an6 : Option Addr} {sl6 : Array (Option Value)} {oc6 kV6 dc6 pm6 cd6 ct6 : Value}
    {f7 : Addr} {od7 an7 : Option Addr} {sl7 : Array (Option Value)} {oc7 kV7 dc7 pm7 cd7 ct7 : Value}
    {f8 : Addr} {od8 an8 : Option Addr} {sl8 : Array (Option Value)} {oc8 kV8 dc8 pm8 cd8 ct8 : Value}
    {f9 : Addr} {od9 an9 : Option Addr} {sl9 : Array (Option Value)} {oc9 kV9 dc9 pm9 cd9 ct9 : Value}
    {f10 : Addr} {od10 an10 : Option Addr} {sl10 : Array (Option Value)} {oc10 kV10 dc10 pm10 cd10 ct10 : Value}
    {f11 : Addr} {od11 an11 : Option Addr} {sl11 : Array (Option Value)} {oc11 kV11 dc11 pm11 cd11 ct11 : Value}
    {f12 : Addr} {od12 an12 : Option Addr} {sl12 : Array (Option Value)} {oc12 kV12 dc12 pm12 cd12 ct12 : Value}
    {f13 : Addr} {od13 an13 : Option Addr} {sl13 : Array (Option Value)} {oc13 kV13 dc13 pm13 cd13 ct13 : Value}
    {f14 : Addr} {od14 an14 : Option Addr} {sl14 : Array (Option Value)} {oc14 kV14 dc14 pm14 cd14 ct14 : Value}
    {f15 : Addr} {od15 an15 : Option Addr} {sl15 : Array (Option Value)} {oc15 kV15 dc15 pm15 cd15 ct15 : Value}
    {f16 : Addr} {od16 an16 : Option Addr} {sl16 : Array (Option Value)} {oc16 kV16 dc16 pm16 cd16 ct16 : Value}
    {f17 : Addr} {od17 an17 : Option Addr} {sl17 : Array (Option Value)} {oc17 kV17 dc17 pm17 cd17 ct17 : Value}
    {f18 : Addr} {od18 an18 : Option Addr} {sl18 : Array (Option Value)} {oc18 kV18 dc18 pm18 cd18 ct18 : Value}
    {f19 : Addr} {od19 an19 : Option Addr} {sl19 : Array (Option Value)} {oc19 kV19 dc19 pm19 cd19 ct19 : Value}
    {f20 : Addr} {od20 an20 : Option Addr} {sl20 : Array (Option Value)} {oc20 kV20 dc20 pm20 cd20 ct20 : Value}
    {f21 : Addr} {od21 an21 : Option Addr} {sl21 : Array (Option Value)} {oc21 kV21 dc21 pm21 cd21 ct21 : Value}
    {f22 : Addr} {od22 an22 : Option Addr} {sl22 : Array (Option Value)} {oc22 kV22 dc22 pm22 cd22 ct22 : Value}
    {f23 : Addr} {od23 an23 : Option Addr} {sl23 : Array (Option Value)} {oc23 kV23 dc23 pm23 cd23 ct23 : Value}
    {f24 : Addr} {od24 an24 : Option Addr} {sl24 : Array (Option Value)} {oc24 kV24 dc24 pm24 cd24 ct24 : Value}
    {f25 : Addr} {od25 an25 : Option Addr} {sl25 : Array (Option Value)} {oc25 kV25 dc25 pm25 cd25 ct25 : Value}
    {f26 : Addr} {od26 an26 : Option Addr} {sl26 : Array (Option Value)} {oc26 kV26 dc26 pm26 cd26 ct26 : Value}
    {f27 : Addr} {od27 an27 : Option Addr} {sl27 : Array (Option Value)} {oc27 kV27 dc27 pm27 cd27 ct27 : Value}
    {f28 : Addr} {od28 an28 : Option Addr} {sl28 : Array (Option Value)} {oc28 kV28 dc28 pm28 cd28 ct28 : Value}
    {f29 : Addr} {od29 an29 : Option Addr} {sl29 : Array (Option Value)} {oc29 kV29 dc29 pm29 cd29 ct29 : Value}
    {f30 : Addr} {od30 an30 : Option Addr} {sl30 : Array (Option Value)} {oc30 kV30 dc30 pm30 cd30 ct30 : Value}
    {f31 : Addr} {od31 an31 : Option Addr} {sl31 : Array (Option Value)} {oc31 kV31 dc31 pm31 cd31 ct31 : Value}
    {f32 : Addr} {od32 an32 : Option Addr} {sl32 : Array (Option Value)} {oc32 kV32 dc32 pm32 cd32 ct32 : Value}
    {f33 : Addr} {od33 an33 : Option Addr} {sl33 : Array (Option Value)} {oc33 kV33 dc33 pm33 cd33 ct33 : Value}
    {f34 : Addr} {od34 an34 : Option Addr} {sl34 : Array (Option Value)} {oc34 kV34 dc34 pm34 cd34 ct34 : Value}
    {f35 : Addr} {od35 an35 : Option Addr} {sl35 : Array (Option Value)} {oc35 kV35 dc35 pm35 cd35 ct35 : Value}
    {f36 : Addr} {od36 an36 : Option Addr} {sl36 : Array (Option Value)} {oc36 kV36 dc36 pm36 cd36 ct36 : Value}
    {aG aL aZ : Addr} {oG oL oZ : Obj} {nG nL nZ : Nat} {iG iL iZ : Array Value}
    (a1 : PySem.W.nsIn K mainGlobals "value_node" = some (some (.ref f1))) (l1 : K.lookup f1 = some ⟨oc1, od1, .func (PySem.W.fnOf "value_node" "value_node" (defArgs s_value_node) (defBody s_value_node) (defScope s_value_node) .none kV1 dc1 pm1 an1 cd1 ct1), sl1⟩) (d1 : PySem.W.codeIn K cd1 "value_node" = true) (k1 : PySem.W.keepIn K (.ref f1) = true)
    (a2 : PySem.W.nsIn K mainGlobals "node_now" = some (some (.ref f2))) (l2 : K.lookup f2 = some ⟨oc2, od2, .func (PySem.W.fnOf "node_now" "node_now" (defArgs s_node_now) (defBody s_node_now) (defScope s_node_now) .none kV2 dc2 pm2 an2 cd2 ct2), sl2⟩) (d2 : PySem.W.codeIn K cd2 "node_now" = true) (k2 : PySem.W.keepIn K (.ref f2) = true)
    (a3 : PySem.W.nsIn K mainGlobals "bound_now" = some (some (.ref f3))) (l3 : K.lookup f3 = some ⟨oc3, od3, .func (PySem.W.fnOf "bound_now" "bound_now" (defArgs s_bound_now) (defBody s_bound_now) (defScope s_bound_now) .none kV3 dc3 pm3 an3 cd3 ct3), sl3⟩) (d3 : PySem.W.codeIn K cd3 "bound_now" = true) (k3 : PySem.W.keepIn K (.ref f3) = true)
    (a4 : PySem.W.nsIn K mainGlobals "against" = some (some (.ref f4))) (l4 : K.lookup f4 = some ⟨oc4, od4, .func (PySem.W.fnOf "against" "against" (defArgs s_against) (defBody s_against) (defScope s_against) .none kV4 dc4 pm4 an4 cd4 ct4), sl4⟩) (d4 : PySem.W.codeIn K cd4 "against" = true) (k4 : PySem.W.keepIn K (.ref f4) = true)
    (a5 : PySem.W.nsIn K mainGlobals "gives" = some (some (.ref f5))) (l5 : K.lookup f5 = some ⟨oc5, od5, .func (PySem.W.fnOf "gives" "gives" (defArgs s_gives) (defBody s_gives) (defScope s_gives) .none kV5 dc5 pm5 an5 cd5 ct5), sl5⟩) (d5 : PySem.W.codeIn K cd5 "gives" = true) (k5 : PySem.W.keepIn K (.ref f5) = true)
    (a6 : PySem.W.nsIn K mainGlobals "is_place" = some (some (.ref f6))) (l6 : K.lookup f6 = some ⟨oc6, od6, .func (PySem.W.fnOf "is_place" "is_place" (defArgs s_is_place) (defBody s_is_place) (defScope s_is_place) .none kV6 dc6 pm6 an6 cd6 ct6), sl6⟩) (d6 : PySem.W.codeIn K cd6 "is_place" = true) (k6 : PySem.W.keepIn K (.ref f6) = true)
    (a7 : PySem.W.nsIn K mainGlobals "place_of" = some (some (.ref f7))) (l7 : K.lookup f7 = some ⟨oc7, od7, .func (PySem.W.fnOf "place_of" "place_of" (defArgs s_place_of) (defBody s_place_of) (defScope s_place_of) .none kV7 dc7 pm7 an7 cd7 ct7), sl7⟩) (d7 : PySem.W.codeIn K cd7 "place_of" = true) (k7 : PySem.W.keepIn K (.ref f7) = true)
    (a8 : PySem.W.nsIn K mainGlobals "is_ask" = some (some (.ref f8))) (l8 : K.lookup f8 = some ⟨oc8, od8, .func (PySem.W.fnOf "is_ask" "is_ask" (defArgs s_is_ask) (defBody s_is_ask) (defScope s_is_ask) .none kV8 dc8 pm8 an8 cd8 ct8), sl8⟩) (d8 : PySem.W.codeIn K cd8 "is_ask" = true) (k8 : PySem.W.keepIn K (.ref f8) = true)
    (a9 : PySem.W.nsIn K mainGlobals "facts_of" = some (some (.ref f9))) (l9 : K.lookup f9 = some ⟨oc9, od9, .func (PySem.W.fnOf "facts_of" "facts_of" (defArgs s_facts_of) (defBody s_facts_of) (defScope s_facts_of) .none kV9 dc9 pm9 an9 cd9 ct9), sl9⟩) (d9 : PySem.W.codeIn K cd9 "facts_of" = true) (k9 : PySem.W.keepIn K (.ref f9) = true)
    (a10 : PySem.W.nsIn K mainGlobals "versions" = some (some (.ref f10))) (l10 : K.lookup f10 = some ⟨oc10, od10, .func (PySem.W.fnOf "versions" "versions" (defArgs s_versions) (defBody s_versions) (defScope s_versions) .none kV10 dc10 pm10 an10 cd10 ct10), sl10⟩) (d10 : PySem.W.codeIn K cd10 "versions" = true) (k10 : PySem.W.keepIn K (.ref f10) = true)
    (a11 : PySem.W.nsIn K mainGlobals "at_end" = some (some (.ref f11))) (l11 : K.lookup f11 = some ⟨oc11, od11, .func (PySem.W.fnOf "at_end" "at_end" (defArgs s_at_end) (defBody s_at_end) (defScope s_at_end) .none kV11 dc11 pm11 an11 cd11 ct11), sl11⟩) (d11 : PySem.W.codeIn K cd11 "at_end" = true) (k11 : PySem.W.keepIn K (.ref f11) = true)
    (a12 : PySem.W.nsIn K mainGlobals "first_versions" = some (some (.ref f12))) (l12 : K.lookup f12 = some ⟨oc12, od12, .func (PySem.W.fnOf "first_versions" "first_versions" (defArgs s_first_versions) (defBody s_first_versions) (defScope s_first_versions) .none kV12 dc12 pm12 an12 cd12 ct12), sl12⟩) (d12 : PySem.W.codeIn K cd12 "first_versions" = true) (k12 : PySem.W.keepIn K (.ref f12) = true)
    (a13 : PySem.W.nsIn K mainGlobals "versions_behind" = some (some (.ref f13))) (l13 : K.lookup f13 = some ⟨oc13, od13, .func (PySem.W.fnOf "versions_behind" "versions_behind" (defArgs s_versions_behind) (defBody s_versions_behind) (defScope s_versions_behind) .none kV13 dc13 pm13 an13 cd13 ct13), sl13⟩) (d13 : PySem.W.codeIn K cd13 "versions_behind" = true) (k13 : PySem.W.keepIn K (.ref f13) = true)
    (a14 : PySem.W.nsIn K mainGlobals "step_facts" = some (some (.ref f14))) (l14 : K.lookup f14 = some ⟨oc14, od14, .func (PySem.W.fnOf "step_facts" "step_facts" (defArgs s_step_facts) (defBody s_step_facts) (defScope s_step_facts) .none kV14 dc14 pm14 an14 cd14 ct14), sl14⟩) (d14 : PySem.W.codeIn K cd14 "step_facts" = true) (k14 : PySem.W.keepIn K (.ref f14) = true)
    (a15 : PySem.W.nsIn K mainGlobals "given_node" = some (some (.ref f15))) (l15 : K.lookup f15 = some ⟨oc15, od15, .func (PySem.W.fnOf "given_node" "given_node" (defArgs s_given_node) (defBody s_given_node) (defScope s_given_node) .none kV15 dc15 pm15 an15 cd15 ct15), sl15⟩) (d15 : PySem.W.codeIn K cd15 "given_node" = true) (k15 : PySem.W.keepIn K (.ref f15) = true)
    (a16 : PySem.W.nsIn K mainGlobals "alike" = some (some (.ref f16))) (l16 : K.lookup f16 = some ⟨oc16, od16, .func (PySem.W.fnOf "alike" "alike" (defArgs s_alike) (defBody s_alike) (defScope s_alike) .none kV16 dc16 pm16 an16 cd16 ct16), sl16⟩) (d16 : PySem.W.codeIn K cd16 "alike" = true) (k16 : PySem.W.keepIn K (.ref f16) = true)
    (a17 : PySem.W.nsIn K mainGlobals "low_bound" = some (some (.ref f17))) (l17 : K.lookup f17 = some ⟨oc17, od17, .func (PySem.W.fnOf "low_bound" "low_bound" (defArgs s_low_bound) (defBody s_low_bound) (defScope s_low_bound) .none kV17 dc17 pm17 an17 cd17 ct17), sl17⟩) (d17 : PySem.W.codeIn K cd17 "low_bound" = true) (k17 : PySem.W.keepIn K (.ref f17) = true)
    (a18 : PySem.W.nsIn K mainGlobals "high_bound" = some (some (.ref f18))) (l18 : K.lookup f18 = some ⟨oc18, od18, .func (PySem.W.fnOf "high_bound" "high_bound" (defArgs s_high_bound) (defBody s_high_bound) (defScope s_high_bound) .none kV18 dc18 pm18 an18 cd18 ct18), sl18⟩) (d18 : PySem.W.codeIn K cd18 "high_bound" = true) (k18 : PySem.W.keepIn K (.ref f18) = true)
    (a19 : PySem.W.nsIn K mainGlobals "branch_facts" = some (some (.ref f19))) (l19 : K.lookup f19 = some ⟨oc19, od19, .func (PySem.W.fnOf "branch_facts" "branch_facts" (defArgs s_branch_facts) (defBody s_branch_facts) (defScope s_branch_facts) .none kV19 dc19 pm19 an19 cd19 ct19), sl19⟩) (d19 : PySem.W.codeIn K cd19 "branch_facts" = true) (k19 : PySem.W.keepIn K (.ref f19) = true)
    (a20 : PySem.W.nsIn K mainGlobals "_law_draw" = some (some (.ref f20))) (l20 : K.lookup f20 = some ⟨oc20, od20, .func (PySem.W.fnOf "_law_draw" "_law_draw" (defArgs s_draw) (defBody s_draw) (defScope s_draw) .none kV20 dc20 pm20 an20 cd20 ct20), sl20⟩) (d20 : PySem.W.codeIn K cd20 "_law_draw" = true) (k20 : PySem.W.keepIn K (.ref f20) = true)
    (a21 : PySem.W.nsIn K mainGlobals "_law_number" = some (some (.ref f21))) (l21 : K.lookup f21 = some ⟨oc21, od21, .func (PySem.W.fnOf "_law_number" "_law_number" (defArgs s_number) (defBody s_number) (defScope s_number) .none kV21 dc21 pm21 an21 cd21 ct21), sl21⟩) (d21 : PySem.W.codeIn K cd21 "_law_number" = true) (k21 : PySem.W.keepIn K (.ref f21) = true)
    (a22 : PySem.W.nsIn K mainGlobals "_law_goal" = some (some (.ref f22))) (l22 : K.lookup f22 = some ⟨oc22, od22, .func (PySem.W.fnOf "_law_goal" "_law_goal" (defArgs s_goal) (defBody s_goal) (defScope s_goal) .none kV22 dc22 pm22 an22 cd22 ct22), sl22⟩) (d22 : PySem.W.codeIn K cd22 "_law_goal" = true) (k22 : PySem.W.keepIn K (.ref f22) = true)
    (a23 : PySem.W.nsIn K mainGlobals "_law_maybe" = some (some (.ref f23))) (l23 : K.lookup f23 = some ⟨oc23, od23, .func (PySem.W.fnOf "_law_maybe" "_law_maybe" (defArgs s_maybe) (defBody s_maybe) (defScope s_maybe) .none kV23 dc23 pm23 an23 cd23 ct23), sl23⟩) (d23 : PySem.W.codeIn K cd23 "_law_maybe" = true) (k23 : PySem.W.keepIn K (.ref f23) = true)
    (a24 : PySem.W.nsIn K mainGlobals "_law_node" = some (some (.ref f24))) (l24 : K.lookup f24 = some ⟨oc24, od24, .func (PySem.W.fnOf "_law_node" "_law_node" (defArgs s_node) (defBody s_node) (defScope s_node) .none kV24 dc24 pm24 an24 cd24 ct24), sl24⟩) (d24 : PySem.W.codeIn K cd24 "_law_node" = true) (k24 : PySem.W.keepIn K (.ref f24) = true)
    (a25 : PySem.W.nsIn K mainGlobals "_law_ask" = some (some (.ref f25))) (l25 : K.lookup f25 = some ⟨oc25, od25, .func (PySem.W.fnOf "_law_ask" "_law_ask" (defArgs s_ask) (defBody s_ask) (defScope s_ask) .none kV25 dc25 pm25 an25 cd25 ct25), sl25⟩) (d25 : PySem.W.codeIn K cd25 "_law_ask" = true) (k25 : PySem.W.keepIn K (.ref f25) = true)
    (a26 : PySem.W.nsIn K mainGlobals "_law_line" = some (some (.ref f26))) (l26 : K.lookup f26 = some ⟨oc26, od26, .func (PySem.W.fnOf "_law_line" "_law_line" (defArgs s_line) (defBody s_line) (defScope s_line) .none kV26 dc26 pm26 an26 cd26 ct26), sl26⟩) (d26 : PySem.W.codeIn K cd26 "_law_line" = true) (k26 : PySem.W.keepIn K (.ref f26) = true)
    (a27 : PySem.W.nsIn K mainGlobals "_law_program" = some (some (.ref f27))) (l27 : K.lookup f27 = some ⟨oc27, od27, .func (PySem.W.fnOf "_law_program" "_law_program" (defArgs s_program) (defBody s_program) (defScope s_program) .none kV27 dc27 pm27 an27 cd27 ct27), sl27⟩) (d27 : PySem.W.codeIn K cd27 "_law_program" = true) (k27 : PySem.W.keepIn K (.ref f27) = true)
    (a28 : PySem.W.nsIn K mainGlobals "_law_ways" = some (some (.ref f28))) (l28 : K.lookup f28 = some ⟨oc28, od28, .func (PySem.W.fnOf "_law_ways" "_law_ways" (defArgs s_ways) (defBody s_ways) (defScope s_ways) .none kV28 dc28 pm28 an28 cd28 ct28), sl28⟩) (d28 : PySem.W.codeIn K cd28 "_law_ways" = true) (k28 : PySem.W.keepIn K (.ref f28) = true)
    (a29 : PySem.W.nsIn K mainGlobals "_law_steps" = some (some (.ref f29))) (l29 : K.lookup f29 = some ⟨oc29, od29, .func (PySem.W.fnOf "_law_steps" "_law_steps" (defArgs s_steps) (defBody s_steps) (defScope s_steps) .none kV29 dc29 pm29 an29 cd29 ct29), sl29⟩) (d29 : PySem.W.codeIn K cd29 "_law_steps" = true) (k29 : PySem.W.keepIn K (.ref f29) = true)
    (a30 : PySem.W.nsIn K mainGlobals "_law_named" = some (some (.ref f30))) (l30 : K.lookup f30 = some ⟨oc30, od30, .func (PySem.W.fnOf "_law_named" "_law_named" (defArgs s_named) (defBody s_named) (defScope s_named) .none kV30 dc30 pm30 an30 cd30 ct30), sl30⟩) (d30 : PySem.W.codeIn K cd30 "_law_named" = true) (k30 : PySem.W.keepIn K (.ref f30) = true)
    (a31 : PySem.W.nsIn K mainGlobals "_law_here" = some (some (.ref f31))) (l31 : K.lookup f31 = some ⟨oc31, od31, .func (PySem.W.fnOf "_law_here" "_law_here" (defArgs s_here) (defBody s_here) (defScope s_here) .none kV31 dc31 pm31 an31 cd31 ct31), sl31⟩) (d31 : PySem.W.codeIn K cd31 "_law_here" = true) (k31 : PySem.W.keepIn K (.ref f31) = true)
    (a32 : PySem.W.nsIn K mainGlobals "_law_asked" = some (some (.ref f32))) (l32 : K.lookup f32 = some ⟨oc32, od32, .func (PySem.W.fnOf "_law_asked" "_law_asked" (defArgs s_asked) (defBody s_asked) (defScope s_asked) .none kV32 dc32 pm32 an32 cd32 ct32), sl32⟩) (d32 : PySem.W.codeIn K cd32 "_law_asked" = true) (k32 : PySem.W.keepIn K (.ref f32) = true)
    (a33 : PySem.W.nsIn K mainGlobals "_law_step_facts" = some (some (.ref f33))) (l33 : K.lookup f33 = some ⟨oc33, od33, .func (PySem.W.fnOf "_law_step_facts" "_law_step_facts" (defArgs s_law_step_facts) (defBody s_law_step_facts) (defScope s_law_step_facts) .none kV33 dc33 pm33 an33 cd33 ct33), sl33⟩) (d33 : PySem.W.codeIn K cd33 "_law_step_facts" = true) (k33 : PySem.W.keepIn K (.ref f33) = true)
    (a34 : PySem.W.nsIn K mainGlobals "_law_due" = some (some (.ref f34))) (l34 : K.lookup f34 = some ⟨oc34, od34, .func (PySem.W.fnOf "_law_due" "_law_due" (defArgs s_due) (defBody s_due) (defScope s_due) .none kV34 dc34 pm34 an34 cd34 ct34), sl34⟩) (d34 : PySem.W.codeIn K cd34 "_law_due" = true) (k34 : PySem.W.keepIn K (.ref f34) = true)
    (a35 : PySem.W.nsIn K mainGlobals "_law_plain" = some (some (.ref f35))) (l35 : K.lookup f35 = some ⟨oc35, od35, .func (PySem.W.fnOf "_law_plain" "_law_plain" (defArgs s_plain) (defBody s_plain) (defScope s_plain) .none kV35 dc35 pm35 an35 cd35 ct35), sl35⟩) (d35 : PySem.W.codeIn K cd35 "_law_plain" = true) (k35 : PySem.W.keepIn K (.ref f35) = true)
    (a36 : PySem.W.nsIn K mainGlobals "law" = some (some (.ref f36))) (l36 : K.lookup f36 = some ⟨oc36, od36, .func (PySem.W.fnOf "law" "law" (defArgs s_law) (defBody s_law) (defScope s_law) .none kV36 dc36 pm36 an36 cd36 ct36), sl36⟩) (d36 : PySem.W.codeIn K cd36 "law" = true) (k36 : PySem.W.keepIn K (.ref f36) = true)
    (z_len : PySem.W.nsIn K mainGlobals "len" = some none)
    (z_list : PySem.W.nsIn K mainGlobals "list" = some none)
    (z_range : PySem.W.nsIn K mainGlobals "range" = some none)
    (z_tuple : PySem.W.nsIn K mainGlobals "tuple" = some none)
    (z_int : PySem.W.nsIn K mainGlobals "int" = some none)
    (z_zip : PySem.W.nsIn K mainGlobals "zip" = some none)
    (z_any : PySem.W.nsIn K mainGlobals "any" = some none)
    (z_isinstance : PySem.W.nsIn K mainGlobals "isinstance" = some none)
    (z_bool : PySem.W.nsIn K mainGlobals "bool" = some none)
    (z_min : PySem.W.nsIn K mainGlobals "min" = some none)
    (z_enumerate : PySem.W.nsIn K mainGlobals "enumerate" = some none)
    (gG : PySem.W.nsIn K mainGlobals "GIVING" = some (some (.ref aG)))
    (lG : K.lookup aG = some oG)
    (cG : oG.cls = .type "tuple")
    (dG : oG.data = .seq iG nG)
    (zG : iG.size ≤ sizeLine)
    (vG : Vals (givingL.map V.str) iG.toList)
    (gL : PySem.W.nsIn K mainGlobals "PLACING" = some (some (.ref aL)))
    (lL : K.lookup aL = some oL)
    (cL : oL.cls = .type "tuple")
    (dL : oL.data = .seq iL nL)
    (zL : iL.size ≤ sizeLine)
    (vL : Vals (placingL.map V.str) iL.toList)
    (gZ : PySem.W.nsIn K mainGlobals "ZERO" = some (some (.ref aZ)))
    (lZ : K.lookup aZ = some oZ)
    (cZ : oZ.cls = .type "tuple")
    (dZ : oZ.data = .seq iZ nZ)
    (zZ : iZ.size ≤ sizeLine)
    (vZ : Vals [.str "zero"] iZ.toList) :
    ∃ fd : FuncData, (∀ (s : Shared) (v : Value), BindsTo s fd ⟨[v], []⟩ [("_law_script", v)]) ∧ ∀ base : Heap, K.In base → base.Ns mainGlobals mg → FnOk l.prog w K mg base CX0 20 fa fd ["_law_script"] (spLaw K) := by
  have e := hfa.symm.trans (PySem.W.mg_of X G a36)
  cases e
  have F1 := fun_mk (st := s_value_node) l1 d1 k1
  have F2 := fun_mk (st := s_node_now) l2 d2 k2
  have F3 := fun_mk (st := s_bound_now) l3 d3 k3
  have F4 := fun_mk (st := s_against) l4 d4 k4
  have F5 := fun_mk (st := s_gives) l5 d5 k5
  have F6 := fun_mk (st := s_is_place) l6 d6 k6
  have F7 := fun_mk (st := s_place_of) l7 d7 k7
  have F8 := fun_mk (st := s_is_ask) l8 d8 k8
  have F9 := fun_mk (st := s_facts_of) l9 d9 k9
  have F10 := fun_mk (st := s_versions) l10 d10 k10
  have F11 := fun_mk (st := s_at_end) l11 d11 k11
  have F12 := fun_mk (st := s_first_versions) l12 d12 k12
  have F13 := fun_mk (st := s_versions_behind) l13 d13 k13
  have F14 := fun_mk (st := s_step_facts) l14 d14 k14
  have F15 := fun_mk (st := s_given_node) l15 d15 k15
  have F16 := fun_mk (st := s_alike) l16 d16 k16
  have F17 := fun_mk (st := s_low_bound) l17 d17 k17
  have F18 := fun_mk (st := s_high_bound) l18 d18 k18
  have F19 := fun_mk (st := s_branch_facts) l19 d19 k19
  have F20 := fun_mk (st := s_draw) l20 d20 k20
  have F21 := fun_mk (st := s_number) l21 d21 k21
  have F22 := fun_mk (st := s_goal) l22 d22 k22
  have F23 := fun_mk (st := s_maybe) l23 d23 k23
  have F24 := fun_mk (st := s_node) l24 d24 k24
  have F25 := fun_mk (st := s_ask) l25 d25 k25
  have F26 := fun_mk (st := s_line) l26 d26 k26
  have F27 := fun_mk (st := s_program) l27 d27 k27
  have F28 := fun_mk (st := s_ways) l28 d28 k28
  have F29 := fun_mk (st := s_steps) l29 d29 k29
  have F30 := fun_mk (st := s_named) l30 d30 k30
  have F31 := fun_mk (st := s_here) l31 d31 k31
  have F32 := fun_mk (st := s_asked) l32 d32 k32
  have F33 := fun_mk (st := s_law_step_facts) l33 d33 k33
  have F34 := fun_mk (st := s_due) l34 d34 k34
  have F35 := fun_mk (st := s_plain) l35 d35 k35
  have F36 := fun_mk (st := s_law) l36 d36 k36
  have m_len := PySem.W.mg_none_of X G z_len
  have m_list := PySem.W.mg_none_of X G z_list
  have m_range := PySem.W.mg_none_of X G z_range
  have m_tuple := PySem.W.mg_none_of X G z_tuple
  have m_int := PySem.W.mg_none_of X G z_int
  have m_zip := PySem.W.mg_none_of X G z_zip
  have m_any := PySem.W.mg_none_of X G z_any
  have m_isinstance := PySem.W.mg_none_of X G z_isinstance
  have m_bool := PySem.W.mg_none_of X G z_bool
  have m_min := PySem.W.mg_none_of X G z_min
  have m_enumerate := PySem.W.mg_none_of X G z_enumerate
  have TG : TabG K mg aG aL := tabG_mk (PySem.W.mg_of X G gG) lG cG dG zG vG (PySem.W.mg_of X G gL) lL cL dL zL vL
  have TZ : TabZ K mg aZ := tabZ_mk (PySem.W.mg_of X G gZ) lZ cZ dZ zZ vZ
  refine ⟨PySem.W.fnOf "law" "law" (defArgs s_law) (defBody s_law) (defScope s_law) .none kV36 dc36 pm36 an36 cd36 ct36, fun s v => .of_eq rfl, fun base _ _ => ?_⟩
  have c5 : Cl l.prog w K mg base "gives" 1 ["line"] _ := F5.cl (ok_gives (n := 0) F5 TG) (PySem.W.mg_of X G a5) fun _ _ _ _ _ _ us hl => len1 (hl := hl) (p := fun us => bindArgs _ ⟨us, []⟩ = pure (List.zip _ us)) (fun _ => rfl)
  have c6 : Cl l.prog w K mg base "is_place" 1 ["line"] _ := F6.cl (ok_is_place (n := 0) F6 TG) (PySem.W.mg_of X G a6) fun _ _ _ _ _ _ us hl => len1 (hl := hl) (p := fun us => bindArgs _ ⟨us, []⟩ = pure (List.zip _ us)) (fun _ => rfl)
  have c7 : Cl l.prog w K mg base "place_of" 1 ["line"] _ := F7.cl (ok_place_of (n := 0) F7 ) (PySem.W.mg_of X G a7) fun _ _ _ _ _ _ us hl => len1 (hl := hl) (p := fun us => bindArgs _ ⟨us, []⟩ = pure (List.zip _ us)) (fun _ => rfl)
  have c8 : Cl l.prog w K mg base "is_ask" 1 ["line"] _ := F8.cl (ok_is_ask (n := 0) F8 ) (PySem.W.mg_of X G a8) fun _ _ _ _ _ _ us hl => len1 (hl := hl) (p := fun us => bindArgs _ ⟨us, []⟩ = pure (List.zip _ us)) (fun _ => rfl)
  have c1 : Cl l.prog w K mg base "value_node" 1 ["value", "now"] _ := F1.cl (ok_value_node (n := 0) F1 TZ) (PySem.W.mg_of X G a1) fun _ _ _ _ _ _ us hl => len2 (hl := hl) (p := fun us => bindArgs _ ⟨us, []⟩ = pure (List.zip _ us)) (fun _ _ => rfl)
  have c2 : Cl l.prog w K mg base "node_now" 2 ["node", "now"] _ := F2.cl (ok_node_now (n := 1) F2 m_len c1) (PySem.W.mg_of X G a2) fun _ _ _ _ _ _ us hl => len2 (hl := hl) (p := fun us => bindArgs _ ⟨us, []⟩ = pure (List.zip _ us)) (fun _ _ => rfl)
  have c3 : Cl l.prog w K mg base "bound_now" 3 ["bound", "now"] _ := F3.cl (ok_bound_now (n := 2) F3 c2) (PySem.W.mg_of X G a3) fun _ _ _ _ _ _ us hl => len2 (hl := hl) (p := fun us => bindArgs _ ⟨us, []⟩ = pure (List.zip _ us)) (fun _ _ => rfl)
  have c4 : Cl l.prog w K mg base "against" 1 ["bound"] _ := F4.cl (ok_against (n := 0) F4 ) (PySem.W.mg_of X G a4) fun _ _ _ _ _ _ us hl => len1 (hl := hl) (p := fun us => bindArgs _ ⟨us, []⟩ = pure (List.zip _ us)) (fun _ => rfl)
  have c12 : Cl l.prog w K mg base "first_versions" 1 ["program"] _ := F12.cl (ok_first_versions (n := 0) F12 ) (PySem.W.mg_of X G a12) fun _ _ _ _ _ _ us hl => len1 (hl := hl) (p := fun us => bindArgs _ ⟨us, []⟩ = pure (List.zip _ us)) (fun _ => rfl)
  have c13 : Cl l.prog w K mg base "versions_behind" 2 ["line", "now"] _ := F13.cl (ok_versions_behind (n := 1) F13 m_enumerate c5) (PySem.W.mg_of X G a13) fun _ _ _ _ _ _ us hl => len2 (hl := hl) (p := fun us => bindArgs _ ⟨us, []⟩ = pure (List.zip _ us)) (fun _ _ => rfl)
  have c15 : Cl l.prog w K mg base "given_node" 3 ["line", "now"] _ := F15.cl (ok_given_node (n := 2) F15 (c5.mono (by decide : 1 ≤ 2)) (c1.mono (by decide : 1 ≤ 2)) c13) (PySem.W.mg_of X G a15) fun _ _ _ _ _ _ us hl => len2 (hl := hl) (p := fun us => bindArgs _ ⟨us, []⟩ = pure (List.zip _ us)) (fun _ _ => rfl)
  have c16 : Cl l.prog w K mg base "alike" 1 ["a", "b", "c"] _ := F16.cl (ok_alike (n := 0) F16 ) (PySem.W.mg_of X G a16) fun _ _ _ _ _ _ us hl => len3 (hl := hl) (p := fun us => bindArgs _ ⟨us, []⟩ = pure (List.zip _ us)) (fun _ _ _ => rfl)
  have c17 : Cl l.prog w K mg base "low_bound" 2 ["line", "now"] _ := F17.cl (ok_low_bound (n := 1) F17 TZ c7 c1) (PySem.W.mg_of X G a17) fun _ _ _ _ _ _ us hl => len2 (hl := hl) (p := fun us => bindArgs _ ⟨us, []⟩ = pure (List.zip _ us)) (fun _ _ => rfl)
  have c18 : Cl l.prog w K mg base "high_bound" 2 ["line", "now"] _ := F18.cl (ok_high_bound (n := 1) F18 c7 c1) (PySem.W.mg_of X G a18) fun _ _ _ _ _ _ us hl => len2 (hl := hl) (p := fun us => bindArgs _ ⟨us, []⟩ = pure (List.zip _ us)) (fun _ _ => rfl)
  have c19 : Cl l.prog w K mg base "branch_facts" 2 ["bounds", "which"] _ := F19.cl (ok_branch_facts (n := 1) F19 m_len c4) (PySem.W.mg_of X G a19) fun _ _ _ _ _ _ us hl => len2 (hl := hl) (p := fun us => bindArgs _ ⟨us, []⟩ = pure (List.zip _ us)) (fun _ _ => rfl)
  have c14 : Cl l.prog w K mg base "step_facts" 4 ["line", "which", "now"] _ := F14.cl (ok_step_facts (n := 3) F14 (c16.mono (by decide : 1 ≤ 3)) c15 (c1.mono (by decide : 1 ≤ 3)) (c6.mono (by decide : 1 ≤ 3)) (c8.mono (by decide : 1 ≤ 3)) (c17.mono (by decide : 2 ≤ 3)) (c18.mono (by decide : 2 ≤ 3)) (c19.mono (by decide : 2 ≤ 3)) c3) (PySem.W.mg_of X G a14) fun _ _ _ _ _ _ us hl => len3 (hl := hl) (p := fun us => bindArgs _ ⟨us, []⟩ = pure (List.zip _ us)) (fun _ _ _ => rfl)
  have c9 : Cl l.prog w K mg base "facts_of" 5 ["program", "steps"] _ := F9.cl (ok_facts_of (n := 4) F9 TZ m_range (c12.mono (by decide : 1 ≤ 4)) c14 (c13.mono (by decide : 2 ≤ 4))) (PySem.W.mg_of X G a9) fun _ _ _ _ _ _ us hl => len2 (hl := hl) (p := fun us => bindArgs _ ⟨us, []⟩ = pure (List.zip _ us)) (fun _ _ => rfl)
  have c10 : Cl l.prog w K mg base "versions" 3 ["program", "steps"] _ := F10.cl (ok_versions (n := 2) F10 (c12.mono (by decide : 1 ≤ 2)) c13) (PySem.W.mg_of X G a10) fun _ _ _ _ _ _ us hl => len2 (hl := hl) (p := fun us => bindArgs _ ⟨us, []⟩ = pure (List.zip _ us)) (fun _ _ => rfl)
  have c11 : Cl l.prog w K mg base "at_end" 4 ["program", "steps", "bound"] _ := F11.cl (ok_at_end (n := 3) F11 c3 c10) (PySem.W.mg_of X G a11) fun _ _ _ _ _ _ us hl => len3 (hl := hl) (p := fun us => bindArgs _ ⟨us, []⟩ = pure (List.zip _ us)) (fun _ _ _ => rfl)
  have c20 : Cl l.prog w K mg base "_law_draw" 1 ["_law_script", "_law_k"] _ := F20.cl (ok_draw (n := 0) F20 m_len) (PySem.W.mg_of X G a20) fun _ _ _ _ _ _ us hl => len2 (hl := hl) (p := fun us => bindArgs _ ⟨us, []⟩ = pure (List.zip _ us)) (fun _ _ => rfl)
  have c21 : Cl l.prog w K mg base "_law_number" 1 ["_law_cell"] _ := F21.cl (ok_number (n := 0) F21 m_int) (PySem.W.mg_of X G a21) fun _ _ _ _ _ _ us hl => len1 (hl := hl) (p := fun us => bindArgs _ ⟨us, []⟩ = pure (List.zip _ us)) (fun _ => rfl)
  have c22 : Cl l.prog w K mg base "_law_goal" 1 ["_law_cell", "_law_at", "_law_many"] _ := F22.cl (ok_goal (n := 0) F22 m_min) (PySem.W.mg_of X G a22) fun _ _ _ _ _ _ us hl => len3 (hl := hl) (p := fun us => bindArgs _ ⟨us, []⟩ = pure (List.zip _ us)) (fun _ _ _ => rfl)
  have c23 : Cl l.prog w K mg base "_law_maybe" 1 ["_law_cell", "_law_names"] _ := F23.cl (ok_maybe (n := 0) F23 ) (PySem.W.mg_of X G a23) fun _ _ _ _ _ _ us hl => len2 (hl := hl) (p := fun us => bindArgs _ ⟨us, []⟩ = pure (List.zip _ us)) (fun _ _ => rfl)
  have c24 : Cl l.prog w K mg base "_law_node" 1 ["_law_cell", "_law_names", "_law_rows"] _ := F24.cl (ok_node (n := 0) F24 m_len m_range) (PySem.W.mg_of X G a24) fun _ _ _ _ _ _ us hl => len3 (hl := hl) (p := fun us => bindArgs _ ⟨us, []⟩ = pure (List.zip _ us)) (fun _ _ _ => rfl)
  have c25 : Cl l.prog w K mg base "_law_ask" 2 ["_law_script", "_law_start", "_law_names", "_law_rows", "_law_at", "_law_lines", "_law_many"] _ := F25.cl (ok_ask (n := 1) F25 m_range m_tuple c20 c21 c24 c22) (PySem.W.mg_of X G a25) fun _ _ _ _ _ _ us hl => len7 (hl := hl) (p := fun us => bindArgs _ ⟨us, []⟩ = pure (List.zip _ us)) (fun _ _ _ _ _ _ _ => rfl)
  have c26 : Cl l.prog w K mg base "_law_line" 3 ["_law_script", "_law_start", "_law_names", "_law_rows", "_law_at", "_law_lines", "_law_many"] _ := F26.cl (ok_line (n := 2) F26 m_int (c20.mono (by decide : 1 ≤ 2)) (c21.mono (by decide : 1 ≤ 2)) (c22.mono (by decide : 1 ≤ 2)) (c23.mono (by decide : 1 ≤ 2)) c25) (PySem.W.mg_of X G a26) fun _ _ _ _ _ _ us hl => len7 (hl := hl) (p := fun us => bindArgs _ ⟨us, []⟩ = pure (List.zip _ us)) (fun _ _ _ _ _ _ _ => rfl)
  have c27 : Cl l.prog w K mg base "_law_program" 4 ["_law_script", "_law_at", "_law_most"] _ := F27.cl (ok_program (n := 3) F27 m_range (c20.mono (by decide : 1 ≤ 3)) c26) (PySem.W.mg_of X G a27) fun _ _ _ _ _ _ us hl => len3 (hl := hl) (p := fun us => bindArgs _ ⟨us, []⟩ = pure (List.zip _ us)) (fun _ _ _ => rfl)
  have c28 : Cl l.prog w K mg base "_law_ways" 1 ["_law_line_here"] _ := F28.cl (ok_ways (n := 0) F28 ) (PySem.W.mg_of X G a28) fun _ _ _ _ _ _ us hl => len1 (hl := hl) (p := fun us => bindArgs _ ⟨us, []⟩ = pure (List.zip _ us)) (fun _ => rfl)
  have c29 : Cl l.prog w K mg base "_law_steps" 2 ["_law_script", "_law_lines"] _ := F29.cl (ok_steps (n := 1) F29 m_range m_len c20 c28) (PySem.W.mg_of X G a29) fun _ _ _ _ _ _ us hl => len2 (hl := hl) (p := fun us => bindArgs _ ⟨us, []⟩ = pure (List.zip _ us)) (fun _ _ => rfl)
  have c30 : Cl l.prog w K mg base "_law_named" 1 ["_law_name", "_law_counts"] _ := F30.cl (ok_named (n := 0) F30 ) (PySem.W.mg_of X G a30) fun _ _ _ _ _ _ us hl => len2 (hl := hl) (p := fun us => bindArgs _ ⟨us, []⟩ = pure (List.zip _ us)) (fun _ _ => rfl)
  have c31 : Cl l.prog w K mg base "_law_here" 1 ["_law_bound", "_law_counts"] _ := F31.cl (ok_here (n := 0) F31 m_range) (PySem.W.mg_of X G a31) fun _ _ _ _ _ _ us hl => len2 (hl := hl) (p := fun us => bindArgs _ ⟨us, []⟩ = pure (List.zip _ us)) (fun _ _ => rfl)
  have c32 : Cl l.prog w K mg base "_law_asked" 2 ["_law_line_here", "_law_which", "_law_counts"] _ := F32.cl (ok_asked (n := 1) F32 m_len c31) (PySem.W.mg_of X G a32) fun _ _ _ _ _ _ us hl => len3 (hl := hl) (p := fun us => bindArgs _ ⟨us, []⟩ = pure (List.zip _ us)) (fun _ _ _ => rfl)
  have c33 : Cl l.prog w K mg base "_law_step_facts" 3 ["_law_line_here", "_law_which", "_law_counts"] _ := F33.cl (ok_law_step_facts (n := 2) F33 m_int (c30.mono (by decide : 1 ≤ 2)) c32) (PySem.W.mg_of X G a33) fun _ _ _ _ _ _ us hl => len3 (hl := hl) (p := fun us => bindArgs _ ⟨us, []⟩ = pure (List.zip _ us)) (fun _ _ _ => rfl)
  have c34 : Cl l.prog w K mg base "_law_due" 4 ["_law_program_here", "_law_steps_here"] _ := F34.cl (ok_due (n := 3) F34 m_range c33) (PySem.W.mg_of X G a34) fun _ _ _ _ _ _ us hl => len2 (hl := hl) (p := fun us => bindArgs _ ⟨us, []⟩ = pure (List.zip _ us)) (fun _ _ => rfl)
  have c35 : Cl l.prog w K mg base "_law_plain" 1 ["_law_found", "_law_due_here"] _ := F35.cl (ok_plain (n := 0) F35 m_isinstance m_bool m_tuple m_any) (PySem.W.mg_of X G a35) fun _ _ _ _ _ _ us hl => len2 (hl := hl) (p := fun us => bindArgs _ ⟨us, []⟩ = pure (List.zip _ us)) (fun _ _ => rfl)
  exact ok_law (n := 19) F36 m_range m_zip m_any m_isinstance m_bool m_list m_len (c27.mono (by decide : 4 ≤ 19)) (c29.mono (by decide : 2 ≤ 19)) (c34.mono (by decide : 4 ≤ 19)) (c9.mono (by decide : 5 ≤ 19)) (c10.mono (by decide : 3 ≤ 19)) (c35.mono (by decide : 1 ≤ 19)) (c20.mono (by decide : 1 ≤ 19)) (c24.mono (by decide : 1 ≤ 19)) (c11.mono (by decide : 4 ≤ 19)) (c31.mono (by decide : 1 ≤ 19))
theorem walk {l : PySem.W.OpenLaw} {q : Program} {loose : List Str} {XP : (Str → Option Value) → Heap → Prop} {YP : World → Heap → Prop} {d : DefRec} {K : Params → PySem.W.Frag} (hn : l.most = some 63) (hdf : d.params.defaults = [])
    (hY : ∀ (w : World) (h : Heap), YP w h → (K w.params).In h)
    (F : ∀ (w : World) (mg : Str → Option Value) (fa : Addr) (h : Heap), (K w.params).In h → h.Ns mainGlobals mg → mg d.name = some (.ref fa) →
      ∃ fd : FuncData, (∀ (s : Shared) (u : Value), BindsTo s fd ⟨[u], []⟩ [("_law_script", u)]) ∧ ∀ base : Heap, (K w.params).In base → base.Ns mainGlobals mg → FnOk l.prog w (K w.params) mg base CX0 20 fa fd ["_law_script"] (spLaw (K w.params))) :
    PySem.W.WalkO q loose XP YP l.row.toRowW d [] (fun f vs => PySem.call f vs) :=
  L2.walk_of (n := 63) (k := 20) (x := "_law_script") (CX := fun _ => CX0) (sp := fun w => spLaw (K w.params)) hn (by decide) hdf ⟨rfl, by decide, by decide⟩ hY F (fun _ _ a ns hl _ hS => ⟨a, ns, rfl, hS, hl, fun _ => rfl⟩) fun _ _ _ _ _ z => z
end K43
open PySem PySem.W PyProof.Rows
set_option maxRecDepth 100000 in
set_option maxHeartbeats 0 in
theorem PySem.Challenge.cw_lookspare_k43_facts_along_steps_holds : PySem.Challenge.rw_lookspare_k43_facts_along_steps.Holds := by
  w_on; o_law; k_head; (case hw => w_witness2)
  k_fill
  refine K43.walk (l := PySem.Challenge.rw_lookspare_k43_facts_along_steps) rfl rfl (fun w h Y => PySem.W.kIn_of Y) ?F
  case F =>
    intro w mg fa h KX G hmg
    refine' K43.all_mk KX G hmg ?a1 ?l1 ?d1 ?k1 ?a2 ?l2 ?d2 ?k2 ?a3 ?l3 ?d3 ?k3 ?a4 ?l4 ?d4 ?k4 ?a5 ?l5 ?d5 ?k5 ?a6 ?l6 ?d6 ?k6 ?a7 ?l7 ?d7 ?k7 ?a8 ?l8 ?d8 ?k8 ?a9 ?l9 ?d9 ?k9 ?a10 ?l10 ?d10 ?k10 ?a11 ?l11 ?d11 ?k11 ?a12 ?l12 ?d12 ?k12 ?a13 ?l13 ?d13 ?k13 ?a14 ?l14 ?d14 ?k14 ?a15 ?l15 ?d15 ?k15 ?a16 ?l16 ?d16 ?k16 ?a17 ?l17 ?d17 ?k17 ?a18 ?l18 ?d18 ?k18 ?a19 ?l19 ?d19 ?k19 ?a20 ?l20 ?d20 ?k20 ?a21 ?l21 ?d21 ?k21 ?a22 ?l22 ?d22 ?k22 ?a23 ?l23 ?d23 ?k23 ?a24 ?l24 ?d24 ?k24 ?a25 ?l25 ?d25 ?k25 ?a26 ?l26 ?d26 ?k26 ?a27 ?l27 ?d27 ?k27 ?a28 ?l28 ?d28 ?k28 ?a29 ?l29 ?d29 ?k29 ?a30 ?l30 ?d30 ?k30 ?a31 ?l31 ?d31 ?k31 ?a32 ?l32 ?d32 ?k32 ?a33 ?l33 ?d33 ?k33 ?a34 ?l34 ?d34 ?k34 ?a35 ?l35 ?d35 ?k35 ?a36 ?l36 ?d36 ?k36 ?z_len ?z_list ?z_range ?z_tuple ?z_int ?z_zip ?z_any ?z_isinstance ?z_bool ?z_min ?z_enumerate ?gG ?lG ?cG ?dG ?zG ?vG ?gL ?lL ?cL ?dL ?zL ?vL ?gZ ?lZ ?cZ ?dZ ?zZ ?vZ
    (case a1 => k_is); (case l1 => k_is); (case d1 => k_is); (case k1 => k_is)
    (case a2 => k_is); (case l2 => k_is); (case d2 => k_is); (case k2 => k_is)
    (case a3 => k_is); (case l3 => k_is); (case d3 => k_is); (case k3 => k_is)
    (case a4 => k_is); (case l4 => k_is); (case d4 => k_is); (case k4 => k_is)
    (case a5 => k_is); (case l5 => k_is); (case d5 => k_is); (case k5 => k_is)
    (case a6 => k_is); (case l6 => k_is); (case d6 => k_is); (case k6 => k_is)
    (case a7 => k_is); (case l7 => k_is); (case d7 => k_is); (case k7 => k_is)
    (case a8 => k_is); (case l8 => k_is); (case d8 => k_is); (case k8 => k_is)
    (case a9 => k_is); (case l9 => k_is); (case d9 => k_is); (case k9 => k_is)
    (case a10 => k_is); (case l10 => k_is); (case d10 => k_is); (case k10 => k_is)
    (case a11 => k_is); (case l11 => k_is); (case d11 => k_is); (case k11 => k_is)
    (case a12 => k_is); (case l12 => k_is); (case d12 => k_is); (case k12 => k_is)
    (case a13 => k_is); (case l13 => k_is); (case d13 => k_is); (case k13 => k_is)
    (case a14 => k_is); (case l14 => k_is); (case d14 => k_is); (case k14 => k_is)
    (case a15 => k_is); (case l15 => k_is); (case d15 => k_is); (case k15 => k_is)
    (case a16 => k_is); (case l16 => k_is); (case d16 => k_is); (case k16 => k_is)
    (case a17 => k_is); (case l17 => k_is); (case d17 => k_is); (case k17 => k_is)
    (case a18 => k_is); (case l18 => k_is); (case d18 => k_is); (case k18 => k_is)
    (case a19 => k_is); (case l19 => k_is); (case d19 => k_is); (case k19 => k_is)
    (case a20 => k_is); (case l20 => k_is); (case d20 => k_is); (case k20 => k_is)
    (case a21 => k_is); (case l21 => k_is); (case d21 => k_is); (case k21 => k_is)
    (case a22 => k_is); (case l22 => k_is); (case d22 => k_is); (case k22 => k_is)
    (case a23 => k_is); (case l23 => k_is); (case d23 => k_is); (case k23 => k_is)
    (case a24 => k_is); (case l24 => k_is); (case d24 => k_is); (case k24 => k_is)
    (case a25 => k_is); (case l25 => k_is); (case d25 => k_is); (case k25 => k_is)
    (case a26 => k_is); (case l26 => k_is); (case d26 => k_is); (case k26 => k_is)
    (case a27 => k_is); (case l27 => k_is); (case d27 => k_is); (case k27 => k_is)
    (case a28 => k_is); (case l28 => k_is); (case d28 => k_is); (case k28 => k_is)
    (case a29 => k_is); (case l29 => k_is); (case d29 => k_is); (case k29 => k_is)
    (case a30 => k_is); (case l30 => k_is); (case d30 => k_is); (case k30 => k_is)
    (case a31 => k_is); (case l31 => k_is); (case d31 => k_is); (case k31 => k_is)
    (case a32 => k_is); (case l32 => k_is); (case d32 => k_is); (case k32 => k_is)
    (case a33 => k_is); (case l33 => k_is); (case d33 => k_is); (case k33 => k_is)
    (case a34 => k_is); (case l34 => k_is); (case d34 => k_is); (case k34 => k_is)
    (case a35 => k_is); (case l35 => k_is); (case d35 => k_is); (case k35 => k_is)
    (case a36 => k_is); (case l36 => k_is); (case d36 => k_is); (case k36 => k_is)
    (case z_len => k_is)
    (case z_list => k_is)
    (case z_range => k_is)
    (case z_tuple => k_is)
    (case z_int => k_is)
    (case z_zip => k_is)
    (case z_any => k_is)
    (case z_isinstance => k_is)
    (case z_bool => k_is)
    (case z_min => k_is)
    (case z_enumerate => k_is)
    (case gG => k_is)
    (case lG => k_is)
    (case cG => exact rfl)
    (case dG => exact rfl)
    (case zG => exact Nat.le_of_ble_eq_true rfl)
    (case vG => repeat (first | exact .nil | refine .cons ⟨_, rfl⟩ ?_))
    (case gL => k_is)
    (case lL => k_is)
    (case cL => exact rfl)
    (case dL => exact rfl)
    (case zL => exact Nat.le_of_ble_eq_true rfl)
    (case vL => repeat (first | exact .nil | refine .cons ⟨_, rfl⟩ ?_))
    (case gZ => k_is)
    (case lZ => k_is)
    (case cZ => exact rfl)
    (case dZ => exact rfl)
    (case zZ => exact Nat.le_of_ble_eq_true rfl)
    (case vZ => repeat (first | exact .nil | refine .cons ⟨_, rfl⟩ ?_))
