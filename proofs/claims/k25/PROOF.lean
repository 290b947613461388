import PyProof.Rows.All
import Wide.All
import OpenK.AllK
import Wide.FinOn
import Lean
import PyProof.EqAt
import PyProof.EqKinds
import PyProof.TupleCall
import PyProof.NeKinds
import PySem.Challenge.RW_lookspare_k25_whole_walks
set_option Elab.async false
set_option linter.all false
set_option maxRecDepth 100000
namespace L2
noncomputable def appQ.{u, v} {α : Sort u} {κ : Sort v} (Q : κ) (P : α → κ → Prop) (x : α) : Prop := P x Q
noncomputable def ExQ.{u, v} {α : Sort u} {κ : Sort v} (Q : κ) (P : α → κ → Prop) : Prop := Exists (appQ Q P)
open PySem PySem.Spec PyProof.Rows

noncomputable abbrev Key := Sum Int Str
noncomputable def keyIs : Key → Value → Bool
  | .inl k, v => Value.isInt k v
  | .inr x, v => Value.isStrOf x v
noncomputable def keyH (w : World) : Key → Int
  | .inl k => hashInt k
  | .inr x => hashStr w x
theorem keyIs_shape : ∀ {k : Key} {v : Value}, keyIs k v = true → (∃ i t, k = Sum.inl i ∧ v = Value.int i t) ∨ (∃ x t, k = Sum.inr x ∧ v = Value.str x t)
  | .inl i, v, h => by
    obtain ⟨t, e⟩ := Value.isInt_shape (k := i) (v := v) h
    exact .inl ⟨i, t, rfl, e⟩
  | .inr x, v, h => by
    obtain ⟨t, e⟩ := Value.isStrOf_shape (x := x) (v := v) h
    exact .inr ⟨x, t, rfl, e⟩
theorem keyIs_int (i : Int) (t : Tok) : keyIs (.inl i) (.int i t) = true := by simp [keyIs, Value.isInt]
theorem keyIs_str (x : Str) (t : Tok) : keyIs (.inr x) (.str x t) = true := by simp [keyIs, Value.isStrOf]
theorem key_ll (a b : Int) : decide ((Sum.inl a : Key) = Sum.inl b) = (a == b) := by
  by_cases e : a = b
  · subst e; simp
  · have h : ¬ (Sum.inl a : Key) = Sum.inl b := fun q => e (Sum.inl.inj q)
    rw [decide_eq_false h]
    exact (beq_eq_false_iff_ne.mpr e).symm
theorem key_rr (a b : Str) : decide ((Sum.inr a : Key) = Sum.inr b) = decide (a = b) := by
  by_cases e : a = b
  · subst e; simp
  · have h : ¬ (Sum.inr a : Key) = Sum.inr b := fun q => e (Sum.inr.inj q)
    rw [decide_eq_false h, decide_eq_false e]
theorem key_lr (a : Int) (b : Str) : decide ((Sum.inl a : Key) = Sum.inr b) = false := decide_eq_false (fun q => nomatch q)
theorem key_rl (a : Str) (b : Int) : decide ((Sum.inr a : Key) = Sum.inl b) = false := decide_eq_false (fun q => nomatch q)

noncomputable def mixKind (prog : Program) (w : World) : PySem.KeyKind prog w Key where
  is := keyIs
  hash := keyH w
  inj := fun v a b ha hb => by
    rcases keyIs_shape ha with ⟨i, t, rfl, rfl⟩ | ⟨x, t, rfl, rfl⟩
    · rcases keyIs_shape hb with ⟨j, u, rfl, e⟩ | ⟨y, u, rfl, e⟩
      · injection e with e1 _; rw [e1]
      · exact nomatch e
    · rcases keyIs_shape hb with ⟨j, u, rfl, e⟩ | ⟨y, u, rfl, e⟩
      · exact nomatch e
      · injection e with e1 _; rw [e1]
  byValue := fun k v h => by
    rcases keyIs_shape h with ⟨i, t, rfl, rfl⟩ | ⟨x, t, rfl, rfl⟩ <;> rfl
  pyHash := fun hv h => by
    rcases keyIs_shape hv with ⟨i, t, rfl, rfl⟩ | ⟨x, t, rfl, rfl⟩
    · exact wpAny_pyHash_int h
    · exact wpAny_pyHash_str h
  eqBool := fun hu hv h => by
    rcases keyIs_shape hu with ⟨i, t, rfl, rfl⟩ | ⟨x, t, rfl, rfl⟩
    · rcases keyIs_shape hv with ⟨j, u, rfl, rfl⟩ | ⟨y, u, rfl, rfl⟩
      · rw [key_ll] at h; exact wpAny_eqBool_int h
      · rw [key_lr] at h; exact SeqAt.EqAt.int_str i t y u _ _ _ _ h
    · rcases keyIs_shape hv with ⟨j, u, rfl, rfl⟩ | ⟨y, u, rfl, rfl⟩
      · rw [key_rl] at h; exact SeqAt.EqAt.str_int x t j u _ _ _ _ h
      · rw [key_rr] at h; exact wpAny_eqBool_str h
  «strs» := fun k x t v h => by
    rcases keyIs_shape h with ⟨i, u, rfl, e⟩ | ⟨y, u, rfl, e⟩
    · exact nomatch e
    · injection e with e1 _
      subst e1
      cases v <;> rfl

theorem mixKind_int (prog : Program) (w : World) (i : Int) (t : Tok) : (mixKind prog w).is (.inl i) (.int i t) = true := keyIs_int i t
theorem mixKind_str (prog : Program) (w : World) (x : Str) (t : Tok) : (mixKind prog w).is (.inr x) (.str x t) = true := keyIs_str x t
end L2

namespace L2
open PySem PySem.Spec PyProof.Rows

inductive V where
  | non | bl (b : Bool) | int (i : Int) | str (x : Str) | byt (b : Array UInt8) | flt (b : UInt64) | ref (a : Addr) | ty (n : String)
  deriving DecidableEq

noncomputable def RelV : V → Value → Prop
  | .non, u => u = Value.none
  | .bl b, u => u = Value.bool b
  | .int i, u => ∃ t, u = Value.int i t
  | .str x, u => ∃ t, u = Value.str x t
  | .byt b, u => ∃ t, u = Value.bytes b t
  | .flt b, u => ∃ t, u = Value.float b t
  | .ref a, u => u = Value.ref a
  | .ty n, u => u = Value.type n

noncomputable abbrev Vals : List V → List Value → Prop := Paired RelV
theorem Vals.length {xs : List V} {us : List Value} (r : Vals xs us) : xs.length = us.length := Paired.length r
theorem Vals.get : ∀ {xs : List V} {us : List Value} {i : Nat} {x : V}, Vals xs us → xs[i]? = some x → ∃ u, us[i]? = some u ∧ RelV x u
  | _, _, _, _, .nil, e => by simp at e
  | _, _, 0, _, .cons r _, e => by simp at e; subst e; exact ⟨_, rfl, r⟩
  | _, _, i + 1, x, .cons _ t, e => by
    obtain ⟨u, h1, h2⟩ := Vals.get (i := i) (x := x) t (by simpa using e)
    exact ⟨u, by simpa using h1, h2⟩
theorem Vals.set {x : V} {u : Value} (r : RelV x u) : ∀ {xs : List V} {us : List Value} (i : Nat), Vals xs us → Vals (xs.set i x) (us.set i u)
  | _, _, _, .nil => .nil
  | _, _, 0, .cons _ t => .cons r t
  | _, _, i + 1, .cons q t => .cons q (Vals.set r i t)
theorem Vals.append : ∀ {xs ys : List V} {us ws : List Value}, Vals xs us → Vals ys ws → Vals (xs ++ ys) (us ++ ws)
  | _, _, _, _, .nil, s => s
  | _, _, _, _, .cons r t, s => .cons r (Vals.append t s)
theorem Vals.take : ∀ {xs : List V} {us : List Value} (n : Nat), Vals xs us → Vals (xs.take n) (us.take n)
  | _, _, 0, _ => .nil
  | _, _, _ + 1, .nil => .nil
  | _, _, n + 1, .cons r t => .cons r (Vals.take n t)
theorem Vals.drop : ∀ {xs : List V} {us : List Value} (n : Nat), Vals xs us → Vals (xs.drop n) (us.drop n)
  | _, _, 0, r => r
  | _, _, _ + 1, .nil => .nil
  | _, _, n + 1, .cons _ t => Vals.drop n t
theorem Vals.none_of : ∀ {xs : List V} {us : List Value} {i : Nat}, Vals xs us → xs[i]? = none → us[i]? = none := fun {xs us i} r e => by
  have h1 := r.length
  have h2 : xs.length ≤ i := List.getElem?_eq_none_iff.mp e
  exact List.getElem?_eq_none_iff.mpr (by omega)

noncomputable def RelO : Option V → Option Value → Prop
  | some v, some u => RelV v u
  | none, none => True
  | _, _ => False
noncomputable def KV {κ : Type} : List (κ × V) → List (κ × Value) → Prop := Paired fun (p : κ × V) (q : κ × Value) => p.1 = q.1 ∧ RelV p.2 q.2

noncomputable def kV : Key → V
  | .inl i => .int i
  | .inr x => .str x

inductive HO where
    | lst (xs : List V)
    | tup (xs : List V)
    | dK (kvs : List (Key × V)) | dT (kvs : List (List Key × V))
    | set (S : Int → Bool) (n : Nat)
    | ins (C dx : Addr) (fs : List (Str × V))
    | own (x : Addr)
    | xd (fs : List (Str × V))
    | met (f x : Addr)
    | rng (lo hi : Int)
    | frz (o : Obj) (u : HO)
    | tbl (ps : Array Value)
    | ext (φ : Heap → Prop)

noncomputable abbrev Hp := Addr → Option HO
noncomputable def upd (H : Hp) (a : Addr) (o : HO) : Hp := fun b => if b = a then some o else H b
theorem upd_same {H : Hp} {a : Addr} {o : HO} : upd H a o a = some o := by unfold upd; rw [if_pos rfl]
theorem upd_ne {H : Hp} {a b : Addr} {o : HO} (h : b ≠ a) : upd H a o b = H b := by unfold upd; rw [if_neg h]
theorem ne_of {H : Hp} {a b : Addr} {o u : HO} (h : H a = some o) (h' : H b = some u) (d : o ≠ u) : a ≠ b := by
  intro e; subst e; rw [h] at h'; exact d (Option.some.inj h')
theorem ne_of_none {H : Hp} {a b : Addr} {o : HO} (h : H a = some o) (h' : H b = none) : a ≠ b := by
  intro e; subst e; rw [h] at h'; cases h'

section
variable (P : Program) (w : World)
noncomputable def ObjOk (H : Hp) (h : Heap) (a : Addr) : HO → Prop
  | .lst xs => xs.length ≤ sizeLine ∧ ∃ (its : List Value) (n : Nat), Vals xs its ∧ h.get? a = some { cls := .type "list", data := .seq its.toArray n }
  | .tup xs => xs.length ≤ sizeLine ∧ ∃ its : List Value, Vals xs its ∧ IsTup h a its.toArray
  | .dK kvs => kvs.length ≤ sizeLine ∧ (a == sysModules) = false ∧ ∃ vs, KV kvs vs ∧ h.DictOf (mixKind P w) a vs
  | .dT kvs => kvs.length ≤ sizeLine ∧ (a == sysModules) = false ∧ ∃ xs : List (List Key × Addr × Value),
      Paired (fun (p : List Key × V) (q : List Key × Addr × Value) => p.1 = q.1 ∧ H q.2.1 = some (.tup (p.1.map kV)) ∧ RelV p.2 q.2.2) kvs xs ∧
      ∃ o es ep, h.get? a = some o ∧ o.ExactDict ∧ o.data = .dict es ep ∧ es.toList = xs.map (entryOfKey (tupleKind (mixKind P w))) ∧ (xs.map (·.1)).Nodup
  | .set S n => h.SetOf (intKind P w) a S n
  | .ins C dx fs => H dx = some (.own a) ∧ fs.length ≤ 1000 ∧ dx ≠ a ∧ h.get? a = some (PySem.W.instObj C dx) ∧
      ∃ mA, h.Ns1 dx mA ∧ (∀ f, RelO (fs.lookup f) (mA f)) ∧ PySem.Within mA (fs.map (·.1))
  | .own _ => ∃ o, h.get? a = some o
  | .xd fs => ∃ mA, h.Ns1 a mA ∧ ∀ f, RelO (fs.lookup f) (mA f)
  | .rng lo hi => ∃ t u v, h.get? a = some { cls := .type "range", data := .fields #[.int lo t, .int hi u, .int 1 v] }
  | .frz o u => h.get? a = some o ∧ ObjOk H h a u
  | .tbl ps => h.get? a = some { cls := .none, data := .fields ps }
  | .met f x => h.get? a = some (PySem.W.methodObj (.ref f) (.ref x))
  | .ext φ => φ h ∧ (∃ o, h.get? a = some o) ∧ ∀ h1 h2 : Heap, φ h1 → (∀ o, h1.get? a = some o → h2.get? a = some o) → φ h2
noncomputable def HOk (H : Hp) (h : Heap) : Prop := ∀ a o, H a = some o → ObjOk P w H h a o
end

section
variable {P : Program} {w : World} {H H' : Hp} {h h' : Heap} {a : Addr} {o : HO}
theorem ObjOk.lt (x : ObjOk P w H h a o) : a < h.objs.size := by
  cases o with
  | lst xs => obtain ⟨_, _, _, _, e⟩ := x; exact Heap.lt_size e
  | tup xs => obtain ⟨_, _, _, p⟩ := x; exact p.lt
  | dK kvs => obtain ⟨_, _, _, _, o, _, _, e, _⟩ := x; exact Heap.lt_size e
  | dT kvs => obtain ⟨_, _, _, _, o, _, _, e, _⟩ := x; exact Heap.lt_size e
  | set S n => obtain ⟨o, _, _, _, e, _⟩ := x; exact Heap.lt_size e
  | ins C dx fs => obtain ⟨_, _, _, e, _⟩ := x; exact Heap.lt_size e
  | own y => obtain ⟨_, e⟩ := x; exact Heap.lt_size e
  | xd fs => obtain ⟨_, ⟨_, _, _, e, _⟩, _⟩ := x; exact Heap.lt_size e
  | rng lo hi => obtain ⟨_, _, _, e⟩ := x; exact Heap.lt_size e
  | frz ob u => obtain ⟨e, _⟩ := x; exact Heap.lt_size e
  | tbl ps => exact Heap.lt_size (show h.get? a = some _ from x)
  | met f y => exact Heap.lt_size (show h.get? a = some _ from x)
  | ext φ => obtain ⟨_, ⟨_, e⟩, _⟩ := x; exact Heap.lt_size e
theorem Paired.mapP {α β : Type} {F G : α → β → Prop} : ∀ {l₁ : List α} {l₂ : List β}, Paired F l₁ l₂ → (∀ a b, F a b → G a b) → Paired G l₁ l₂
  | _, _, .nil, _ => .nil
  | _, _, .cons r t, f => .cons (f _ _ r) (Paired.mapP t f)
theorem ObjOk.stay (x : ObjOk P w H h a o) (k : ∀ b u, (b = a ∨ H b = some (.own a)) → h.get? b = some u → h'.get? b = some u)
    (ho : ∀ b, H b = some (.own a) → H' b = some (.own a)) (ht : ∀ b xs, H b = some (.tup xs) → H' b = some (.tup xs)) : ObjOk P w H' h' a o := by
  induction o with
  | lst xs => obtain ⟨z, its, n, r, e⟩ := x; exact ⟨z, its, n, r, k _ _ (.inl rfl) e⟩
  | tup xs => obtain ⟨z, its, r, ob, e, c⟩ := x; exact ⟨z, its, r, ob, k _ _ (.inl rfl) e, c⟩
  | dK kvs => obtain ⟨z, y, vs, r, ob, es, ep, e, c⟩ := x; exact ⟨z, y, vs, r, ob, es, ep, k _ _ (.inl rfl) e, c⟩
  | dT kvs =>
    obtain ⟨z, y, xs, r, ob, es, ep, e, c⟩ := x
    exact ⟨z, y, xs, Paired.mapP r fun p q z => ⟨z.1, ht _ _ z.2.1, z.2.2⟩, ob, es, ep, k _ _ (.inl rfl) e, c⟩
  | set S n => obtain ⟨ob, es, ep, t, e, c⟩ := x; exact ⟨ob, es, ep, t, k _ _ (.inl rfl) e, c⟩
  | ins C dx fs =>
    obtain ⟨d, z, ne, e, mA, ⟨od, es, ep, e2, c⟩, r⟩ := x
    exact ⟨ho _ d, z, ne, k _ _ (.inl rfl) e, mA, ⟨od, es, ep, k _ _ (.inr d) e2, c⟩, r⟩
  | own y => obtain ⟨ob, e⟩ := x; exact ⟨ob, k _ _ (.inl rfl) e⟩
  | xd fs => obtain ⟨mA, ⟨od, es, ep, e, c⟩, r⟩ := x; exact ⟨mA, ⟨od, es, ep, k _ _ (.inl rfl) e, c⟩, r⟩
  | rng lo hi => obtain ⟨t, u, v, e⟩ := x; exact ⟨t, u, v, k _ _ (.inl rfl) e⟩
  | frz ob u ih => obtain ⟨e, q⟩ := x; exact ⟨k _ _ (.inl rfl) e, ih q⟩
  | tbl ps =>
    have e : h.get? a = some { cls := .none, data := .fields ps } := x
    show h'.get? a = some { cls := .none, data := .fields ps }
    exact k a _ (.inl rfl) e
  | met f y =>
    have e : h.get? a = some (PySem.W.methodObj (.ref f) (.ref y)) := x
    show h'.get? a = some (PySem.W.methodObj (.ref f) (.ref y))
    exact k a _ (.inl rfl) e
  | ext φ => obtain ⟨p, ⟨o, e⟩, st⟩ := x; exact ⟨st _ _ p fun o q => k _ _ (.inl rfl) q, ⟨o, k _ _ (.inl rfl) e⟩, st⟩
theorem HOk.lt (x : HOk P w H h) (e : H a = some o) : a < h.objs.size := (x a o e).lt
theorem HOk.fresh (x : HOk P w H h) (e : h.objs.size ≤ a) : H a = none := by
  cases q : H a with
  | none => rfl
  | some u => exact absurd (Nat.lt_of_lt_of_le (x.lt q) e) (Nat.lt_irrefl _)
theorem HOk.kept (x : HOk P w H h) (k : ∀ b u, h.get? b = some u → h'.get? b = some u) : HOk P w H h' := fun a o e =>
  (x a o e).stay (fun b u _ q => k b u q) (fun _ q => q) fun _ _ q => q
theorem HOk.laid (x : HOk P w H h) (k : ∀ b u, h.get? b = some u → h'.get? b = some u) (hp : h.objs.size ≤ a) (new : ObjOk P w (upd H a o) h' a o) : HOk P w (upd H a o) h' := fun b u e => by
  have hn := x.fresh hp
  by_cases hb : b = a
  · subst hb; rw [upd_same] at e; cases e; exact new
  · rw [upd_ne hb] at e
    exact (x b u e).stay (fun c v _ q => k c v q) (fun c q => by rw [upd_ne (ne_of_none q hn)]; exact q) fun c xs q => by rw [upd_ne (ne_of_none q hn)]; exact q
end

noncomputable def Rd (H : Hp) (a : Addr) (u : HO) : Prop := H a = some u ∨ ∃ o, H a = some (.frz o u)
theorem Rd.of {H : Hp} {a : Addr} {u : HO} (h : H a = some u) : Rd H a u := .inl h
theorem Rd.ok {P : Program} {w : World} {H : Hp} {h : Heap} {a : Addr} {u : HO} (r : Rd H a u) (x : HOk P w H h) : ObjOk P w H h a u := by
  rcases r with r | ⟨o, r⟩
  · exact x a u r
  · obtain ⟨_, q⟩ := x a _ r
    exact q
noncomputable def Mut : Option HO → Prop
  | some (.lst _) => True
  | some (.dK _) => True
  | some (.dT _) => True
  | some (.set _ _) => True
  | some (.ins _ _ _) => True
  | some (.ext _) => True
  | _ => False
section
variable {P : Program} {w : World} {H : Hp} {h h' : Heap} {x e : Addr} {o' : HO}
theorem HOk.write (ok : HOk P w H h) (mu : Mut (H x)) (he : e = x ∨ H e = some (.own x)) (k : ∀ b u, b ≠ e → h.get? b = some u → h'.get? b = some u) (heo : ∃ u, h'.get? e = some u)
    (new : ObjOk P w (upd H x o') h' x o') : HOk P w (upd H x o') h' := fun b u q => by
  have nown : ∀ c y, H c = some (.own y) → c ≠ x := fun c y r z => by subst z; rw [r] at mu; exact mu
  have ntup : ∀ c xs, H c = some (.tup xs) → c ≠ x := fun c xs r z => by subst z; rw [r] at mu; exact mu
  by_cases hb : b = x
  · subst hb; rw [upd_same] at q; cases q; exact new
  · rw [upd_ne hb] at q
    by_cases hbe : b = e
    · have q' : H b = some (.own x) := by
        rcases he with z | z
        · exact absurd (hbe.trans z) hb
        · rw [hbe]; exact z
      rw [q] at q'; cases q'
      obtain ⟨v, hv⟩ := heo
      exact ⟨v, by rw [hbe]; exact hv⟩
    · refine (ok b u q).stay (fun c v hc r => k c v ?_ r) (fun c r => by rw [upd_ne (nown c b r)]; exact r) fun c xs r => by rw [upd_ne (ntup c xs r)]; exact r
      rcases hc with rfl | hc
      · exact hbe
      · rintro rfl
        rcases he with z | z
        · exact nown c b hc z
        · rw [hc] at z; cases z; exact hb rfl
end

structure Un (fs ex : List Addr) (H H' : Hp) (h h' : Heap) : Prop where
  keep : ∀ b o, h.get? b = some o → H b = none → b ∉ fs → b ∉ ex → h'.get? b = some o
  slot : ∀ b o, h.get? b = some o → H b = none → b ∈ fs → b ∉ ex → ∃ sl, h'.get? b = some { o with slots := sl }
  free : ∀ b o, h.get? b = some o → H b = none → b ∉ ex → H' b = none
  there : ∀ b o, h.get? b = some o → b ∉ ex → ∃ o', h'.get? b = some o'
  tups : ∀ b xs, H b = some (.tup xs) → H' b = some (.tup xs)
  frzs : ∀ b o u, H b = some (.frz o u) → H' b = some (.frz o u)
  tbls : ∀ b ps, H b = some (.tbl ps) → ∃ more, H' b = some (.tbl (ps ++ more))
section
variable {fs fs' ex ex' : List Addr} {H H1 H2 : Hp} {h h1 h2 h' : Heap} {a x e : Addr} {o : HO}
theorem Un.any (u : Un fs ex H H1 h h1) {b : Addr} {ob : Obj} (q : h.get? b = some ob) (n : H b = none) (hx : b ∉ ex) : ∃ sl, h1.get? b = some { ob with slots := sl } := by
  by_cases hb : b ∈ fs
  · exact u.slot b ob q n hb hx
  · exact ⟨ob.slots, u.keep b ob q n hb hx⟩
theorem Un.trans (a : Un fs ex H H1 h h1) (b : Un fs ex H1 H2 h1 h2) : Un fs ex H H2 h h2 where
  keep := fun c ob q n hc hx => b.keep c ob (a.keep c ob q n hc hx) (a.free c ob q n hx) hc hx
  slot := fun c ob q n hc hx => by
    obtain ⟨sl, e1⟩ := a.slot c ob q n hc hx
    obtain ⟨sl', e2⟩ := b.slot c _ e1 (a.free c ob q n hx) hc hx
    exact ⟨sl', e2⟩
  free := fun c ob q n hx => by
    obtain ⟨o', e1⟩ := a.there c ob q hx
    exact b.free c o' e1 (a.free c ob q n hx) hx
  there := fun c ob q hx => by
    obtain ⟨o', e1⟩ := a.there c ob q hx
    exact b.there c o' e1 hx
  tups := fun c xs q => b.tups c xs (a.tups c xs q)
  frzs := fun c ob xs q => b.frzs c ob xs (a.frzs c ob xs q)
  tbls := fun c ps q => by
    obtain ⟨m1, e1⟩ := a.tbls c ps q
    obtain ⟨m2, e2⟩ := b.tbls c _ e1
    exact ⟨m1 ++ m2, by rw [e2, Array.append_assoc]⟩
theorem Un.kept (k : ∀ b u, h.get? b = some u → h'.get? b = some u) : Un fs ex H H h h' :=
  ⟨fun b ob q _ _ _ => k b ob q, fun b ob q _ _ _ => ⟨ob.slots, k b ob q⟩, fun _ _ _ n _ => n, fun b ob q _ => ⟨ob, k b ob q⟩, fun _ _ q => q, fun _ _ _ q => q, fun _ ps q => ⟨#[], by rw [q]; simp⟩⟩
theorem Un.refl : Un fs ex H H h h := Un.kept fun _ _ q => q
theorem Un.laid (k : ∀ b u, h.get? b = some u → h'.get? b = some u) (hp : h.objs.size ≤ a) (hn : H a = none) : Un fs ex H (upd H a o) h h' where
  keep := fun b u q _ _ _ => k b u q
  slot := fun b u q _ _ _ => ⟨u.slots, k b u q⟩
  free := fun b u q n _ => by rw [upd_ne (Nat.ne_of_lt (Nat.lt_of_lt_of_le (Heap.lt_size q) hp))]; exact n
  there := fun b u q _ => ⟨u, k b u q⟩
  tups := fun b xs q => by rw [upd_ne (ne_of_none q hn)]; exact q
  frzs := fun b u xs q => by rw [upd_ne (ne_of_none q hn)]; exact q
  tbls := fun b ps q => ⟨#[], by rw [upd_ne (ne_of_none q hn), q]; simp⟩
theorem Un.write (mu : Mut (H x)) (he : e = x ∨ H e = some (.own x)) (k : ∀ b u, b ≠ e → h.get? b = some u → h'.get? b = some u) (heo : ∃ u, h'.get? e = some u) : Un fs ex H (upd H x o) h h' := by
  have hx : ∀ b, H b = none → b ≠ x := fun b n z => by subst z; rw [n] at mu; exact mu
  have hb : ∀ b, H b = none → b ≠ e := fun b n z => by
    subst z
    rcases he with r | r
    · exact hx b n r
    · rw [n] at r; cases r
  have hm : ∀ b u, H b = some u → ¬ Mut (some u) → b ≠ x := fun b u q nm z => by subst z; rw [q] at mu; exact nm mu
  refine ⟨fun b u q n _ _ => k b u (hb b n) q, fun b u q n _ _ => ⟨u.slots, k b u (hb b n) q⟩, fun b u q n _ => by rw [upd_ne (hx b n)]; exact n, fun b u q _ => ?_,
    fun b xs q => by rw [upd_ne (hm b _ q fun z => z)]; exact q, fun b u xs q => by rw [upd_ne (hm b _ q fun z => z)]; exact q, fun b ps q => ⟨#[], by rw [upd_ne (hm b _ q fun z => z), q]; simp⟩⟩
  by_cases hbe : b = e
  · subst hbe; exact heo
  · exact ⟨u, k b u hbe q⟩
theorem Un.mono (u : Un fs ex H H1 h h1) (hs : ∀ b ∈ fs, b ∈ fs') (hx : ∀ b ∈ ex, b ∈ ex') : Un fs' ex' H H1 h h1 :=
  ⟨fun b ob q n hb he => u.keep b ob q n (fun z => hb (hs b z)) fun z => he (hx b z), fun _ _ q n _ he => u.any q n fun z => he (hx _ z), fun b ob q n he => u.free b ob q n fun z => he (hx b z), fun b ob q he => u.there b ob q fun z => he (hx b z), u.tups, u.frzs, u.tbls⟩
end

noncomputable def trk (h : Heap) (H : Hp) : List Addr := (List.range h.objs.size).filter fun a => (H a).isSome
noncomputable def hidT (h : Heap) (H : Hp) : Heap := PySem.W.hideAll h (trk h H)
theorem hidT_size (h : Heap) (H : Hp) : (hidT h H).objs.size = h.objs.size := PySem.W.hideAll_size _ _
theorem hidT_get {h : Heap} {H : Hp} {b : Addr} {o : Obj} (e : h.get? b = some o) (n : H b = none) : (hidT h H).get? b = some o :=
  PySem.W.hideAll_get _ e fun hm => by
    have q : (H b).isSome = true := (List.mem_filter.mp hm).2
    rw [n] at q; simp at q
theorem of_hidT {h : Heap} {H : Hp} {b : Addr} {o : Obj} (e : (hidT h H).get? b = some o) : h.get? b = some o ∧ H b = none := by
  have e' : h.get? b = some o := PySem.W.of_hideAll (trk h H) e
  refine ⟨e', ?_⟩
  cases q : H b with
  | none => rfl
  | some x =>
    have hm : b ∈ trk h H := List.mem_filter.mpr ⟨List.mem_range.mpr (Heap.lt_size e'), by simp [q]⟩
    have z : (hidT h H).get? b = none := PySem.W.hideAll_none (trk h H) hm
    rw [z] at e; cases e

noncomputable def allNews (g h : Heap) (L : Addr) : List (Addr × Obj) := (List.range h.objs.size).filterMap fun a => if a = L ∨ (g.get? a).isSome = true then none else (h.get? a).map fun o => (a, o)
noncomputable def rest (g h : Heap) (L d : Addr) : List (Addr × Obj) := (allNews g h L).filter fun p => decide (p.1 ≠ d)
end L2

namespace L2
open PySem PySem.Spec PyProof.Rows

structure Mod (K : PySem.W.Frag) (mg : Str → Option Value) (base : Heap) : Prop where
  kin : K.In base
  glob : base.Ns mainGlobals mg
  blt : ∃ mb, base.Ns builtinsNs mb ∧ ∀ x : Str, x ≠ "__name__" → mb x = bootBuiltins x
  nolimit : base.NoLimit

structure Cx where
  prog : Program
  w : World
  K : PySem.W.Frag
  mg : Str → Option Value
  base : Heap
  A : Around
  N : List Str
  s₀ : Shared
  H₀ : Hp
  env : Env
  outer : List Env
  stack : List Env
  ex : List Addr
  fn : Str → Bool
  calm : Bool
  pn : List (Addr × Obj)
  xe : Value → Shared → Prop
noncomputable def frs (l : List Env) : List Addr := l.filterMap (·.frame)
noncomputable abbrev Cx.fs (X : Cx) : List Addr := frs X.outer

noncomputable def Vis (sc : Scope) (x : Str) : Prop := sc.names.lookup x = some .local ∨ sc.names.lookup x = some .cell ∨ sc.names.lookup x = some .free
noncomputable def Loc (sc : Scope) (x : Str) : Prop := sc.names.lookup x = some .local ∨ sc.names.lookup x = some .cell
noncomputable def Look (env : Env) (h : Heap) (m : Str → Option Value) (x : Str) (u : Value) : Prop :=
  (env.kindOf x = some .local ∧ m x = some u) ∨ ((env.kindOf x = some .cell ∨ env.kindOf x = some .free) ∧ ∃ c, env.cells.lookup x = some c ∧ h.IsCell c (some u))

structure Cx.Ok (X : Cx) : Prop where
  mod : Mod X.K X.mg X.base
  kind : X.env.scope.kind = .function
  glob : X.env.globals = mainGlobals
  blt : X.env.builtins = builtinsNs
  above : X.s₀.heap.objs.size ≤ X.env.locals
  inj : ∀ x y c, X.env.cells.lookup x = some c → X.env.cells.lookup y = some c → x = y
  has : ∀ x, (X.env.kindOf x = some .cell ∨ X.env.kindOf x = some .free) → ∃ c, X.env.cells.lookup x = some c
  cab : ∀ x c, X.fn x = true → X.env.cells.lookup x = some c → X.s₀.heap.objs.size ≤ c
  hd : X.calm = true → X.A.handled = none
  frames : X.A.frames = some X.stack
  stk : X.stack = X.outer ∨ (X.stack = X.env :: X.outer ∧ X.env.frame = some X.env.locals)
  exf : ∀ b ∈ X.ex, b ≠ X.env.locals ∧ ∀ x c, X.env.cells.lookup x = some c → c ≠ b
  bs : ∀ b o, X.base.get? b = some o → X.s₀.heap.get? b = some o ∧ X.H₀ b = none
  bsz : X.base.objs.size ≤ X.s₀.heap.objs.size
  noex : ∀ b o, X.base.get? b = some o → b ∉ X.ex
  exfs : ∀ b ∈ X.ex, b ∉ X.fs
  funs : X.s₀.heap.FunFrames X.base X.outer
  frf : ∀ b ∈ X.fs, X.H₀ b = none

structure Inv (X : Cx) (pins : List (Addr × Obj)) (σ : List (Option V)) (H : Hp) (s : Shared) : Prop where
  ok : X.Ok
  os : s.os = X.s₀.os
  bare : AllBare s.gens
  base : Un X.fs X.ex X.H₀ H X.s₀.heap s.heap
  loc : ∃ m, s.heap.Ns X.env.locals m ∧ ∀ (i : Nat) (x : Str) (v : V), X.N[i]? = some x → σ[i]? = some (some v) → Vis X.env.scope x → ∃ u, RelV v u ∧ Look X.env s.heap m x u
  cell : ∀ x c, X.env.cells.lookup x = some c → ∃ v, s.heap.IsCell c v
  free : H X.env.locals = none
  freeC : ∀ x c, X.env.cells.lookup x = some c → H c = none
  pin : ∀ p ∈ X.pn ++ pins, s.heap.get? p.1 = some p.2 ∧ H p.1 = none ∧ p.1 ≠ X.env.locals ∧ p.1 ∉ X.fs ∧ ∀ v, p.2.data ≠ .cell v
  hok : HOk X.prog X.w H s.heap
  len : σ.length = X.N.length

section
variable {X : Cx} {pins : List (Addr × Obj)} {σ : List (Option V)} {H H' : Hp} {s : Shared} {h' : Heap}

theorem Cx.Ok.nofr (ok : X.Ok) {b : Addr} {o : Obj} (e : X.base.get? b = some o) : b ∉ X.fs := fun hb => by
  have := (ok.funs.mem hb).1
  rw [e] at this; cases this
theorem Inv.bs (I : Inv X pins σ H s) : ∀ b o, X.base.get? b = some o → s.heap.get? b = some o ∧ H b = none := fun b o e =>
  ⟨I.base.keep b o (I.ok.bs b o e).1 (I.ok.bs b o e).2 (I.ok.nofr e) (I.ok.noex b o e), I.base.free b o (I.ok.bs b o e).1 (I.ok.bs b o e).2 (I.ok.noex b o e)⟩
theorem Inv.bk (I : Inv X pins σ H s) : ∀ b o, X.base.get? b = some o → s.heap.get? b = some o := fun b o e => (I.bs b o e).1
theorem Inv.mod (I : Inv X pins σ H s) : Mod X.K X.mg X.base := I.ok.mod
theorem Inv.kIn (I : Inv X pins σ H s) : X.K.In s.heap := I.ok.mod.kin.keeps I.bk
theorem Inv.nolimit (I : Inv X pins σ H s) : s.heap.NoLimit := I.ok.mod.nolimit.keeps I.bk
theorem Inv.fr (I : Inv X pins σ H s) : ∃ m, Fr X.base X.env.locals s.heap m :=
  let ⟨m, hn, _⟩ := I.loc
  ⟨m, hn, I.bk, Nat.le_trans I.ok.bsz I.ok.above⟩
theorem Inv.lt (I : Inv X pins σ H s) : X.env.locals < s.heap.objs.size := let ⟨_, hn, _⟩ := I.loc; hn.lt
theorem Inv.sz (I : Inv X pins σ H s) : X.s₀.heap.objs.size ≤ s.heap.objs.size := Nat.le_trans I.ok.above (Nat.le_of_lt I.lt)
theorem Inv.nofs (I : Inv X pins σ H s) {a : Addr} (h : s.heap.objs.size ≤ a) : a ∉ X.fs := fun hb => by
  obtain ⟨_, o, ho, _⟩ := I.ok.funs.mem hb
  exact absurd (Nat.lt_of_lt_of_le (Heap.lt_size ho) (Nat.le_trans I.sz h)) (Nat.lt_irrefl _)
theorem Inv.cne (I : Inv X pins σ H s) : ∀ x c, X.env.cells.lookup x = some c → c ≠ X.env.locals := fun x c e z => by
  obtain ⟨v, o, ho, hd⟩ := I.cell x c e
  obtain ⟨m, ⟨o', es, ep, ho', hd', _⟩, _⟩ := I.loc
  rw [z, ho'] at ho; cases ho; rw [hd'] at hd; cases hd
theorem Inv.funs (I : Inv X pins σ H s) : s.heap.FunFrames X.base X.outer := by
  have all : ∀ (l : List Env), (∀ b ∈ frs l, b ∈ X.fs) → X.s₀.heap.FunFrames X.base l → s.heap.FunFrames X.base l := by
    intro l
    induction l with
    | nil => intro _ _; trivial
    | cons env r ih =>
      intro hs hl
      obtain ⟨hk, ⟨L, o, hf, hn, ho, hd⟩, hr⟩ := hl
      have hL : L ∈ X.fs := hs L (by unfold frs; rw [List.filterMap_cons, hf]; exact List.mem_cons_self)
      obtain ⟨sl, e⟩ := I.base.slot L o ho (I.ok.frf L hL) hL fun z => I.ok.exfs L z hL
      exact ⟨hk, ⟨L, _, hf, hn, e, hd⟩, ih (fun b hb => hs b (by unfold frs; rw [List.filterMap_cons, hf]; exact List.mem_cons_of_mem _ hb)) hr⟩
  exact all X.outer (fun _ hb => hb) I.ok.funs

theorem Inv.stack (I : Inv X pins σ H s) : s.heap.FunFrames X.base X.stack := by
  rcases I.ok.stk with e | ⟨e, hf⟩
  · rw [e]; exact I.funs
  · rw [e]
    obtain ⟨m, hn, _⟩ := I.loc
    refine .cons (by rw [I.ok.kind]; decide) hf hn ?_ I.funs
    exact Heap.get?_none_of_le (Nat.le_trans I.ok.bsz I.ok.above)
theorem Inv.stkSub (I : Inv X pins σ H s) : ∀ b ∈ frs X.stack, b ∈ X.env.locals :: X.fs := fun b hb => by
  rcases I.ok.stk with e | ⟨e, hf⟩
  · rw [e] at hb; exact List.mem_cons_of_mem _ hb
  · rw [e] at hb
    unfold frs at hb
    rw [List.filterMap_cons, hf] at hb
    exact hb
theorem Inv.stkFree (I : Inv X pins σ H s) : ∀ b ∈ frs X.stack, H b = none := fun b hb => by
  rcases List.mem_cons.mp (I.stkSub b hb) with e | hb
  · rw [e]; exact I.free
  · obtain ⟨_, o, ho, _⟩ := I.ok.funs.mem hb
    exact I.base.free b o ho (I.ok.frf b hb) fun z => I.ok.exfs b z hb

theorem Inv.step {g' : Array GenState} {t' : Nat} {d' : Drawn} {ch : List Addr} (I : Inv X pins σ H s)
    (hch : ∀ b ∈ ch, (b ∈ X.ex ∨ X.s₀.heap.objs.size ≤ b) ∧ b ≠ X.env.locals ∧ (∀ x c, X.env.cells.lookup x = some c → c ≠ b) ∧ ∀ p ∈ X.pn ++ pins, p.1 ≠ b)
    (keep : ∀ b o, b ≠ X.env.locals → b ∉ X.fs → b ∉ ch → s.heap.get? b = some o → H b = none → h'.get? b = some o)
    (slot : ∀ b o, b ≠ X.env.locals → b ∈ X.fs → b ∉ ch → s.heap.get? b = some o → H b = none → ∃ sl, h'.get? b = some { o with slots := sl }) (free : ∀ b o, b ∉ ch → s.heap.get? b = some o → H b = none → H' b = none)
    (there : ∀ b o, b ∉ ch → s.heap.get? b = some o → ∃ o', h'.get? b = some o')
    (tups : ∀ b xs, H b = some (.tup xs) → H' b = some (.tup xs)) (frzs : ∀ b o u, H b = some (.frz o u) → H' b = some (.frz o u)) (tbls : ∀ b ps, H b = some (.tbl ps) → ∃ more, H' b = some (.tbl (ps ++ more)))
    (ns : ∀ m, s.heap.Ns X.env.locals m → h'.Ns X.env.locals m) (hok : HOk X.prog X.w H' h') (hg : AllBare g') :
    Inv X pins σ H' { s with heap := h', gens := g', drawn := d', toks := t' } := by
  have neL : ∀ b o, X.s₀.heap.get? b = some o → b ≠ X.env.locals := fun b o e => Nat.ne_of_lt (Nat.lt_of_lt_of_le (Heap.lt_size e) I.ok.above)
  have neC : ∀ b o, X.s₀.heap.get? b = some o → b ∉ X.ex → b ∉ ch := fun b o e hx hb => by
    rcases (hch b hb).1 with z | z
    · exact hx z
    · exact absurd (Nat.lt_of_lt_of_le (Heap.lt_size e) z) (Nat.lt_irrefl _)
  have cellK : ∀ x c, X.env.cells.lookup x = some c → ∀ v, s.heap.IsCell c v → h'.IsCell c v := fun x c e v ⟨o, ho, hd⟩ => by
    have nch : c ∉ ch := fun z => (hch c z).2.2.1 x c e rfl
    by_cases hc : c ∈ X.fs
    · obtain ⟨sl, q⟩ := slot c o (I.cne x c e) hc nch ho (I.freeC x c e)
      exact ⟨_, q, hd⟩
    · exact ⟨o, keep c o (I.cne x c e) hc nch ho (I.freeC x c e), hd⟩
  refine ⟨I.ok, I.os, hg, ⟨fun b o e n hb hx => ?_, fun b o e n hb hx => ?_, fun b o e n hx => ?_, fun b o e hx => ?_, fun b xs e => tups b xs (I.base.tups b xs e), fun b o xs e => frzs b o xs (I.base.frzs b o xs e), fun b ps e => ?_⟩, ?_, fun x c e => ?_, ?_, fun x c e => ?_, fun p hp => ?_, hok, I.len⟩
  · exact keep b o (neL b o e) hb (neC b o e hx) (I.base.keep b o e n hb hx) (I.base.free b o e n hx)
  · obtain ⟨sl, e1⟩ := I.base.slot b o e n hb hx
    obtain ⟨sl', e2⟩ := slot b _ (neL b o e) hb (neC b o e hx) e1 (I.base.free b o e n hx)
    exact ⟨sl', e2⟩
  · obtain ⟨o', e1⟩ := I.base.there b o e hx
    exact free b o' (neC b o e hx) e1 (I.base.free b o e n hx)
  · obtain ⟨o', e1⟩ := I.base.there b o e hx
    exact there b o' (neC b o e hx) e1
  · obtain ⟨m1, e1⟩ := I.base.tbls b ps e
    obtain ⟨m2, e2⟩ := tbls b _ e1
    exact ⟨m1 ++ m2, by rw [e2, Array.append_assoc]⟩
  · obtain ⟨m, hn, hl⟩ := I.loc
    refine ⟨m, ns m hn, fun i x v e1 e2 e3 => ?_⟩
    obtain ⟨u, r, l⟩ := hl i x v e1 e2 e3
    refine ⟨u, r, ?_⟩
    rcases l with l | ⟨k, c, e, z⟩
    · exact .inl l
    · exact .inr ⟨k, c, e, cellK x c e _ z⟩
  · obtain ⟨v, z⟩ := I.cell x c e
    exact ⟨v, cellK x c e v z⟩
  · obtain ⟨m, ⟨o, _, _, ho, _⟩, _⟩ := I.loc
    exact free _ o (fun z => (hch _ z).2.1 rfl) ho I.free
  · obtain ⟨v, o, ho, hd⟩ := I.cell x c e
    exact free c o (fun z => (hch c z).2.2.1 x c e rfl) ho (I.freeC x c e)
  · obtain ⟨e, n, ne, nf, d⟩ := I.pin p hp
    have nch : p.1 ∉ ch := fun z => (hch p.1 z).2.2.2 p hp rfl
    exact ⟨keep p.1 p.2 ne nf nch e n, free p.1 p.2 nch e n, ne, nf, d⟩
theorem Inv.un {t' : Nat} (I : Inv X pins σ H s) (u : Un X.fs [] H H' s.heap h') (hok : HOk X.prog X.w H' h') : Inv X pins σ H' { s with heap := h', toks := t' } := by
  obtain ⟨m, ⟨o, es, ep, ho, r⟩, _⟩ := id I.loc
  obtain ⟨sl, hL⟩ := u.any ho I.free (by simp)
  exact I.step (g' := s.gens) (d' := s.drawn) (ch := []) (fun _ z => nomatch z) (fun b o _ hb _ e n => u.keep b o e n hb (by simp)) (fun b o _ hb _ e n => u.slot b o e n hb (by simp)) (fun b o _ e n => u.free b o e n (by simp)) (fun b o _ e => u.there b o e (by simp)) u.tups u.frzs u.tbls (fun m' hm => by
    obtain ⟨o', es', ep', ho', r'⟩ := hm
    rw [ho] at ho'; cases ho'
    exact ⟨_, es', ep', hL, r'⟩) hok I.bare
theorem Inv.call {g' : Array GenState} {t' : Nat} {d' : Drawn} {ch : List Addr} (I : Inv X pins σ H s) (u : Un (frs X.stack) ch H H' s.heap h') (hok : HOk X.prog X.w H' h') (hg : AllBare g')
    (hch : ∀ b ∈ ch, (b ∈ X.ex ∨ X.s₀.heap.objs.size ≤ b) ∧ b ≠ X.env.locals ∧ (∀ x c, X.env.cells.lookup x = some c → c ≠ b) ∧ ∀ p ∈ X.pn ++ pins, p.1 ≠ b) :
    Inv X pins σ H' { s with heap := h', gens := g', drawn := d', toks := t' } := by
  obtain ⟨m, ⟨o, es, ep, ho, r⟩, _⟩ := id I.loc
  obtain ⟨sl, hL⟩ := u.any ho I.free fun z => (hch _ z).2.1 rfl
  exact I.step (ch := ch) hch (fun b o hL hb hc e n => u.keep b o e n (fun z => (List.mem_cons.mp (I.stkSub b z)).elim hL hb) hc) (fun b o _ _ hc e n => u.any e n hc) (fun b o hc e n => u.free b o e n hc) (fun b o hc e => u.there b o e hc) u.tups u.frzs u.tbls (fun m' hm => by
    obtain ⟨o', es', ep', ho', r'⟩ := hm
    rw [ho] at ho'; cases ho'
    exact ⟨_, es', ep', hL, r'⟩) hok hg
theorem Inv.turned {t' : Nat} {it : Addr} (I : Inv X pins σ H s) (k : ∀ b o, b ≠ it → s.heap.get? b = some o → h'.get? b = some o) (hn : H it = none) (hL : it ≠ X.env.locals)
    (h1 : it ∈ X.ex ∨ X.s₀.heap.objs.size ≤ it) (h2 : ∀ x c, X.env.cells.lookup x = some c → c ≠ it) (h3 : ∀ p ∈ X.pn ++ pins, p.1 ≠ it) : Inv X pins σ H { s with heap := h', toks := t' } := by
  have nit : ∀ b u, H b = some u → b ≠ it := fun b u e z => by rw [z, hn] at e; cases e
  refine I.step (g' := s.gens) (d' := s.drawn) (ch := [it]) (fun b hb => ?_) (fun b o _ _ hc e _ => k b o (fun z => hc (by simp [z])) e) (fun b o _ _ hc e _ => ⟨o.slots, k b o (fun z => hc (by simp [z])) e⟩) (fun _ _ _ _ n => n)
    (fun b o hc e => ⟨o, k b o (fun z => hc (by simp [z])) e⟩) (fun _ _ e => e) (fun _ _ _ e => e) (fun b ps e => ⟨#[], by rw [e]; simp⟩) (fun m hm => ?_) (fun b u e => ?_) I.bare
  · have e : b = it := by simpa using hb
    subst e
    exact ⟨h1, hL, h2, h3⟩
  · obtain ⟨o, es, ep, ho, r⟩ := hm
    exact ⟨o, es, ep, k _ o (Ne.symm hL) ho, r⟩
  · refine (I.hok b u e).stay (fun c v hc q => k c v ?_ q) (fun _ q => q) fun _ _ q => q
    rcases hc with z | z
    · rw [z]; exact nit b u e
    · exact nit c _ z
theorem Inv.tok (I : Inv X pins σ H s) (t : Nat) : Inv X pins σ H { s with toks := t } := I.un (h' := s.heap) (t' := t) Un.refl I.hok
theorem Inv.kept {t' : Nat} (I : Inv X pins σ H s) (k : ∀ b u, s.heap.get? b = some u → h'.get? b = some u) : Inv X pins σ H { s with heap := h', toks := t' } := I.un (Un.kept k) (I.hok.kept k)
theorem Inv.laid {a : Addr} {o : HO} {t' : Nat} (I : Inv X pins σ H s) (k : ∀ b u, s.heap.get? b = some u → h'.get? b = some u) (hp : s.heap.objs.size ≤ a) (new : ObjOk X.prog X.w (upd H a o) h' a o) :
    Inv X pins σ (upd H a o) { s with heap := h', toks := t' } := I.un (Un.laid k hp (I.hok.fresh hp)) (I.hok.laid k hp new)
theorem Inv.write {x e : Addr} {o : HO} {t' : Nat} (I : Inv X pins σ H s) (mu : Mut (H x)) (he : e = x ∨ H e = some (.own x)) (k : ∀ b u, b ≠ e → s.heap.get? b = some u → h'.get? b = some u) (heo : ∃ u, h'.get? e = some u)
    (new : ObjOk X.prog X.w (upd H x o) h' x o) : Inv X pins σ (upd H x o) { s with heap := h', toks := t' } := I.un (Un.write mu he k heo) (I.hok.write mu he k heo new)
theorem Inv.weak {σ' : List (Option V)} (I : Inv X pins σ H s) (hl : σ'.length = σ.length) (w : ∀ (i : Nat) v, σ'[i]? = some (some v) → σ[i]? = some (some v)) : Inv X pins σ' H s :=
  ⟨I.ok, I.os, I.bare, I.base, let ⟨m, hn, hl'⟩ := I.loc; ⟨m, hn, fun i x v e1 e2 e3 => hl' i x v e1 (w i v e2) e3⟩, I.cell, I.free, I.freeC, I.pin, I.hok, hl.trans I.len⟩
theorem Inv.pins_of {pins' : List (Addr × Obj)} (I : Inv X pins σ H s) (h : ∀ p ∈ pins', s.heap.get? p.1 = some p.2 ∧ H p.1 = none ∧ p.1 ≠ X.env.locals ∧ p.1 ∉ X.fs ∧ ∀ v, p.2.data ≠ .cell v) : Inv X pins' σ H s :=
  ⟨I.ok, I.os, I.bare, I.base, I.loc, I.cell, I.free, I.freeC, fun p hp => (List.mem_append.mp hp).elim (fun z => I.pin p (List.mem_append_left _ z)) (h p), I.hok, I.len⟩

theorem nodup_ix {N : List Str} (hN : N.Nodup) {i j : Nat} {x : Str} (a : N[i]? = some x) (b : N[j]? = some x) : i = j := by
  obtain ⟨h1, e1⟩ := List.getElem?_eq_some_iff.mp a
  obtain ⟨h2, e2⟩ := List.getElem?_eq_some_iff.mp b
  exact (List.getElem_inj hN).mp (e1.trans e2.symm)

theorem store_ok2 {M : Model} {A : Around} {E : Value → Shared → Prop} {i : Nat} {x : Str} {v : V} {u : Value} {Q : Unit → Shared → Prop} (I : Inv X pins σ H s) (hN : X.N.Nodup) (hi : X.N[i]? = some x) (hx : Loc X.env.scope x) (r : RelV v u)
    (h : ∀ s', Inv X pins (σ.set i (some v)) H s' → (∃ a, Heap.SameBut a s.heap s'.heap ∧ (a = X.env.locals ∨ X.env.cells.lookup x = some a)) → Q () s') (hf : X.fn x = true ∨ X.env.scope.names.lookup x = some .local := by first | exact .inl rfl | exact .inr rfl | assumption) : wpAny M A (storeName X.env x u) Q E s := by
  obtain ⟨m, hn, hl⟩ := id I.loc
  have hcls : (X.env.scope.kind == .class || (X.env.scope.kind == .module && X.env.locals != X.env.globals)) = false := by rw [I.ok.kind]; rfl
  have hiσ : i < σ.length := by rw [I.len]; exact (List.getElem?_eq_some_iff.mp hi).1
  have cne := I.cne
  have tracked : ∀ {a : Addr} {h' : Heap}, (∃ o, s.heap.get? a = some o ∧ H a = none) → Heap.SameBut a s.heap h' → HOk X.prog X.w H h' := fun {a h'} ha hs b ob e => by
    obtain ⟨_, _, hfree⟩ := ha
    refine (I.hok b ob e).stay (fun c w' hc q => (hs.2 c ?_).trans q) (fun _ q => q) fun _ _ q => q
    rintro rfl
    rcases hc with rfl | hc
    · rw [hfree] at e; cases e
    · rw [hfree] at hc; cases hc
  rcases hx with hk | hk
  · refine wpAny_storeName_local hk hn (fun h' hn' hs => ?_) hcls
    obtain ⟨oL, _, _, hoL, _⟩ := id hn
    refine h _ ⟨I.ok, I.os, I.bare, ⟨fun b o e n hb hx => ?_, fun b o e n hb hx => ?_, I.base.free, fun b o e hx => ?_, I.base.tups, I.base.frzs, I.base.tbls⟩, ⟨_, hn', fun j y v' e1 e2 e3 => ?_⟩, fun y c e => ?_, I.free, I.freeC, fun p hp => ?_, tracked ⟨oL, hoL, I.free⟩ hs, by simpa using I.len⟩ ⟨_, hs, .inl rfl⟩
    · exact (hs.2 b (Nat.ne_of_lt (Nat.lt_of_lt_of_le (Heap.lt_size e) I.ok.above))).trans (I.base.keep b o e n hb hx)
    · obtain ⟨sl, e1⟩ := I.base.slot b o e n hb hx
      exact ⟨sl, (hs.2 b (Nat.ne_of_lt (Nat.lt_of_lt_of_le (Heap.lt_size e) I.ok.above))).trans e1⟩
    · obtain ⟨o', e1⟩ := I.base.there b o e hx
      exact ⟨o', (hs.2 b (Nat.ne_of_lt (Nat.lt_of_lt_of_le (Heap.lt_size e) I.ok.above))).trans e1⟩
    · by_cases hj : j = i
      · subst hj
        rw [hi] at e1; cases e1
        rw [List.getElem?_set_self hiσ] at e2
        cases e2
        exact ⟨u, r, .inl ⟨hk, by simp⟩⟩
      · rw [List.getElem?_set_ne (Ne.symm hj)] at e2
        obtain ⟨u', r', q⟩ := hl j y v' e1 e2 e3
        refine ⟨u', r', ?_⟩
        rcases q with ⟨k, e⟩ | ⟨k, c, e, z⟩
        · refine .inl ⟨k, ?_⟩
          have : y ≠ x := fun e => hj (nodup_ix hN e1 (e ▸ hi))
          simp [this, e]
        · exact .inr ⟨k, c, e, z.sameBut hs (cne y c e)⟩
    · obtain ⟨w', z⟩ := I.cell y c e
      exact ⟨w', z.sameBut hs (cne y c e)⟩
    · obtain ⟨e, n, ne, nf, d⟩ := I.pin p hp
      exact ⟨(hs.2 p.1 ne).trans e, n, ne, nf, d⟩
  · have hfn : X.fn x = true := by
      rcases hf with z | z
      · exact z
      · rw [z] at hk; cases hk
    obtain ⟨c, hc⟩ := I.ok.has x (.inl hk)
    obtain ⟨w', z⟩ := I.cell x c hc
    refine wpAny_storeName_cell I.ok.kind hk hc z (fun h' hc' hs => ?_)
    obtain ⟨oc, hoc, hocd⟩ := id z
    refine h { s with heap := h' } ⟨I.ok, I.os, I.bare, ⟨fun b o e n hb hx => ?_, fun b o e n hb hx => ?_, I.base.free, fun b o e hx => ?_, I.base.tups, I.base.frzs, I.base.tbls⟩, ⟨m, hn.sameBut hs (Ne.symm (cne x c hc)), fun j y v' e1 e2 e3 => ?_⟩, fun y c' e => ?_, I.free, I.freeC, fun p hp => ?_, tracked ⟨oc, hoc, I.freeC x c hc⟩ hs, by simpa using I.len⟩ ⟨c, hs, .inr hc⟩
    · exact (hs.2 b (Nat.ne_of_lt (Nat.lt_of_lt_of_le (Heap.lt_size e) (I.ok.cab x c hfn hc)))).trans (I.base.keep b o e n hb hx)
    · obtain ⟨sl, e1⟩ := I.base.slot b o e n hb hx
      exact ⟨sl, (hs.2 b (Nat.ne_of_lt (Nat.lt_of_lt_of_le (Heap.lt_size e) (I.ok.cab x c hfn hc)))).trans e1⟩
    · obtain ⟨o', e1⟩ := I.base.there b o e hx
      exact ⟨o', (hs.2 b (Nat.ne_of_lt (Nat.lt_of_lt_of_le (Heap.lt_size e) (I.ok.cab x c hfn hc)))).trans e1⟩
    · by_cases hj : j = i
      · subst hj
        rw [hi] at e1; cases e1
        rw [List.getElem?_set_self hiσ] at e2
        cases e2
        exact ⟨u, r, .inr ⟨.inl hk, c, hc, hc'⟩⟩
      · rw [List.getElem?_set_ne (Ne.symm hj)] at e2
        obtain ⟨u', r', q⟩ := hl j y v' e1 e2 e3
        refine ⟨u', r', ?_⟩
        rcases q with q | ⟨k, c', e, z'⟩
        · exact .inl q
        · refine .inr ⟨k, c', e, z'.sameBut hs ?_⟩
          rintro rfl
          exact hj (nodup_ix hN e1 (I.ok.inj _ _ _ e hc ▸ hi))
    · by_cases hcc : c' = c
      · subst hcc; exact ⟨_, hc'⟩
      · obtain ⟨w2, z2⟩ := I.cell y c' e
        exact ⟨w2, z2.sameBut hs hcc⟩
    · obtain ⟨e, n, ne, nf, d⟩ := I.pin p hp
      refine ⟨(hs.2 p.1 ?_).trans e, n, ne, nf, d⟩
      intro q
      rw [q, hoc] at e
      have q' : oc = p.2 := Option.some.inj e
      exact d w' (by rw [← q']; exact hocd)
theorem store_ok {M : Model} {A : Around} {E : Value → Shared → Prop} {i : Nat} {x : Str} {v : V} {u : Value} {Q : Unit → Shared → Prop} (I : Inv X pins σ H s) (hN : X.N.Nodup) (hi : X.N[i]? = some x) (hx : Loc X.env.scope x) (r : RelV v u)
    (h : ∀ s', Inv X pins (σ.set i (some v)) H s' → Q () s') (hf : X.fn x = true ∨ X.env.scope.names.lookup x = some .local := by first | exact .inl rfl | exact .inr rfl | assumption) : wpAny M A (storeName X.env x u) Q E s :=
  store_ok2 I hN hi hx r (fun s' I' _ => h s' I') hf
theorem Inv.call' {s' : Shared} {ch : List Addr} (I : Inv X pins σ H s) (ho : s'.os = s.os) (u : Un (frs X.stack) ch H H' s.heap s'.heap) (hok : HOk X.prog X.w H' s'.heap) (hg : AllBare s'.gens)
    (hch : ∀ b ∈ ch, (b ∈ X.ex ∨ X.s₀.heap.objs.size ≤ b) ∧ b ≠ X.env.locals ∧ (∀ x c, X.env.cells.lookup x = some c → c ≠ b) ∧ ∀ p ∈ X.pn ++ pins, p.1 ≠ b) : Inv X pins σ H' s' := by
  obtain ⟨h', g', d', t', o'⟩ := s'
  have e : o' = s.os := ho
  subst e
  exact I.call (g' := g') (t' := t') (d' := d') u hok hg hch
end

noncomputable abbrev XK := Value → Option Addr → Hp → Prop
noncomputable abbrev St := List (Option V)
noncomputable abbrev VK := V → Hp → Prop
noncomputable abbrev TE := St → Hp → VK → Prop
noncomputable abbrev TT := St → Hp → (Bool → Hp → Prop) → Prop
noncomputable abbrev TA := St → Hp → (List V → Hp → Prop) → Prop
structure Ends where
  nx : St → Hp → Prop
  rt : VK
  bk : St → Hp → Prop := fun _ _ => False
  ct : St → Hp → Prop := fun _ _ => False
noncomputable abbrev TS := Ends → St → Hp → Prop

noncomputable def EP (X : Cx) (pins : List (Addr × Obj)) (σ : St) (Q : VK) (u : Value) (s' : Shared) : Prop := ∃ v H', Inv X pins σ H' s' ∧ RelV v u ∧ Q v H'
noncomputable def TP (X : Cx) (pins : List (Addr × Obj)) (σ : St) (Q : Bool → Hp → Prop) (b : Bool) (s' : Shared) : Prop := ∃ H', Inv X pins σ H' s' ∧ Q b H'
noncomputable def AP (X : Cx) (pins : List (Addr × Obj)) (σ : St) (Q : List V → Hp → Prop) (us : List Value) (s' : Shared) : Prop := ∃ vs H', Inv X pins σ H' s' ∧ Vals vs us ∧ Q vs H'
noncomputable def SP (X : Cx) (pins : List (Addr × Obj)) (D : Ends) (f : Flow) (s' : Shared) : Prop :=
  match f with
  | .next => ∃ σ' H', Inv X pins σ' H' s' ∧ D.nx σ' H'
  | .brk => ∃ σ' H', Inv X pins σ' H' s' ∧ D.bk σ' H'
  | .cont => ∃ σ' H', Inv X pins σ' H' s' ∧ D.ct σ' H'
  | .ret u => ∃ v σ' H', Inv X pins σ' H' s' ∧ RelV v u ∧ D.rt v H'

noncomputable def PE (X : Cx) (e : Expr) (t : TE) : Prop :=
  ∀ (pins : List (Addr × Obj)) (s : Shared) (σ : St) (H : Hp) (Q : VK), Inv X pins σ H s → t σ H Q → wpAny (model X.prog X.w) X.A (eval e X.env) (EP X pins σ Q) X.xe s
noncomputable def PT (X : Cx) (e : Expr) (t : TT) : Prop :=
  ∀ (pins : List (Addr × Obj)) (s : Shared) (σ : St) (H : Hp) (Q : Bool → Hp → Prop), Inv X pins σ H s → t σ H Q → wpAny (model X.prog X.w) X.A (isTrue e X.env (eval e X.env)) (TP X pins σ Q) X.xe s
noncomputable def PW (X : Cx) (e : Expr) (t : TT) : Prop :=
  ∀ (whole : Sem Value) (pins : List (Addr × Obj)) (s : Shared) (σ : St) (H : Hp) (Q : Bool → Hp → Prop), Inv X pins σ H s → t σ H Q → wpAny (model X.prog X.w) X.A (isTrue e X.env whole) (TP X pins σ Q) X.xe s
theorem PW.pt {X : Cx} {e : Expr} {t : TT} (h : PW X e t) : PT X e t := h _
noncomputable def PA (X : Cx) (es : List Expr) (t : TA) : Prop :=
  ∀ (pos : Pos) (pins : List (Addr × Obj)) (s : Shared) (σ : St) (H : Hp) (Q : List V → Hp → Prop), Inv X pins σ H s → t σ H Q → wpAny (model X.prog X.w) X.A (spliced (backTo pos (starEach es X.env))) (AP X pins σ Q) X.xe s
noncomputable def PS (X : Cx) (st : Stmt) (t : TS) : Prop :=
  ∀ (pins : List (Addr × Obj)) (s : Shared) (σ : St) (H : Hp) (D : Ends), Inv X pins σ H s → t D σ H → wpAny (model X.prog X.w) X.A (exec st X.env) (SP X pins D) X.xe s
noncomputable def PSs (X : Cx) (st : List Stmt) (t : TS) : Prop :=
  ∀ (pins : List (Addr × Obj)) (s : Shared) (σ : St) (H : Hp) (D : Ends), Inv X pins σ H s → t D σ H → wpAny (model X.prog X.w) X.A (execs st X.env) (SP X pins D) X.xe s
theorem thn {α : Type} {t : Sem α} {Q Q' : α → Shared → Prop} {M : Model} {A : Around} {E : Value → Shared → Prop} {s : Shared} (h : wpAny M A t Q E s) (hQ : ∀ a s, Q a s → Q' a s) : wpAny M A t Q' E s := wpAny_mono h hQ fun _ _ x => x
end L2

namespace L2
open PySem PySem.Spec PyProof.Rows
section
variable {X : Cx}

noncomputable def tVar (i : Nat) : TE := fun σ H Q => ExQ Q (fun v Q => σ[i]? = some (some v) ∧ Q v H)
noncomputable def tC (v : V) : TE := fun _ H Q => Q v H
theorem pe_var {i : Nat} {x : Str} {pos : Pos} (hN : X.N[i]? = some x) (hv : Vis X.env.scope x) (hd : (x == ("__debug__" : Str)) = false := by decide) (hcd : (x == ("__classdict__" : Str)) = false := by decide) : PE X (.Name x pos) (tVar i) := by
  intro pins s σ H Q I h
  obtain ⟨v, e, h⟩ := h
  obtain ⟨m, hn, hl⟩ := I.loc
  obtain ⟨u, r, l⟩ := hl i x v hN e hv
  have fin : EP X pins σ Q u s := ⟨v, H, I, r, h⟩
  rcases l with ⟨hk, hm⟩ | ⟨hk, c, hc, hcell⟩
  · exact wpAny_Name (wpAny_loadName_local I.ok.kind hk hn hm fin) hd
  · rcases hk with hk | hk
    · exact wpAny_Name (wpAny_loadName_cell I.ok.kind hk hc hcell fin) hd
    · exact wpAny_Name (wpAny_loadName_free I.ok.kind hk hc hcell fin hcd) hd
theorem pe_int {i j pos} : PE X (.Constant (.int i) j pos) (tC (.int i)) := fun _ _ _ H _ I h => wpAny_Constant_int ⟨.int i, H, I.tok _, ⟨_, rfl⟩, h⟩
theorem pe_bl {b j pos} : PE X (.Constant (.bool b) j pos) (tC (.bl b)) := fun _ _ _ H _ I h => Constant_bool ⟨.bl b, H, I, rfl, h⟩
theorem pe_non {j pos} : PE X (.Constant .none j pos) (tC .non) := fun _ _ _ H _ I h => Constant_none ⟨.non, H, I, rfl, h⟩
theorem pe_str {x j pos} : PE X (.Constant (.str x) j pos) (tC (.str x)) := fun _ _ _ H _ I h => Calls.Constant_str ⟨.str x, H, I.tok _, ⟨_, rfl⟩, h⟩

noncomputable def Gl (X : Cx) (x : Str) : Prop := X.env.kindOf x = some .globalImplicit
theorem ld_glob {E : Value → Shared → Prop} {pins : List (Addr × Obj)} {s : Shared} {σ : St} {H : Hp} {x : Str} {u : Value} {pos : Pos} {Q : Value → Shared → Prop} (I : Inv X pins σ H s) (hg : Gl X x) (hm : X.mg x = some u) (h : Q u s)
    (hd : (x == ("__debug__" : Str)) = false := by decide) : wpAny (model X.prog X.w) X.A (eval (.Name x pos) X.env) Q E s :=
  Calls.Name_function_global I.ok.kind hg (Calls.loadGlobal_global (by rw [I.ok.glob]; exact I.mod.glob.keeps I.bk) hm h) hd
theorem ld_blt {E : Value → Shared → Prop} {pins : List (Addr × Obj)} {s : Shared} {σ : St} {H : Hp} {x : Str} {u : Value} {pos : Pos} {Q : Value → Shared → Prop} (I : Inv X pins σ H s) (hg : Gl X x) (hm : X.mg x = none) (hv : bootBuiltins x = some u) (h : Q u s)
    (hn : x ≠ "__name__" := by decide) (hd : (x == ("__debug__" : Str)) = false := by decide) : wpAny (model X.prog X.w) X.A (eval (.Name x pos) X.env) Q E s := by
  obtain ⟨mb, h1, h2⟩ := I.mod.blt
  exact Calls.Name_function_global I.ok.kind hg (Calls.loadGlobal_builtin (by rw [I.ok.glob]; exact I.mod.glob.keeps I.bk) hm (by rw [I.ok.blt]; exact h1.keeps I.bk) ((h2 x hn).trans hv) h) hd
theorem pe_glob {x : Str} {v : V} {u : Value} {pos : Pos} (hg : Gl X x) (hm : X.mg x = some u) (r : RelV v u) (hd : (x == ("__debug__" : Str)) = false := by decide) : PE X (.Name x pos) (tC v) :=
  fun _ _ _ H _ I h => ld_glob I hg hm ⟨v, H, I, r, h⟩ hd
theorem pe_bltn {x : Str} {v : V} {u : Value} {pos : Pos} (hg : Gl X x) (hm : X.mg x = none) (hv : bootBuiltins x = some u) (r : RelV v u) (hn : x ≠ "__name__" := by decide) (hd : (x == ("__debug__" : Str)) = false := by decide) : PE X (.Name x pos) (tC v) :=
  fun _ _ _ H _ I h => ld_blt I hg hm hv ⟨v, H, I, r, h⟩ hn hd

variable {a b : Expr} {ta tb : TE} {pos : Pos}
noncomputable def tB (t : TE) : TT := fun σ H Q => t σ H fun x H1 => ExQ Q (fun c Q => x = .bl c ∧ Q c H1)
theorem pt_val {e : Expr} {t : TE} (h : PE X e t) (he : ∀ whole, isTrue e X.env whole = (do let v ← whole; standAt e.pos; holding [v] (truthy v)) := by intro _; rfl) : PT X e (tB t) := by
  intro pins s σ H Q I hw
  refine isTrue_plain (thn (h pins s σ H _ I hw) fun v s1 hpat => ?_) (he _)
  obtain ⟨x, H1, I1, r1, q1⟩ := hpat
  obtain ⟨d, rfl, q⟩ := q1
  cases r1
  exact wpAny_truthy_bool ⟨H1, I1, q⟩

variable {tA tB' : TT} {rest : List Expr}
noncomputable def tAnd (t u : TT) : TT := fun σ H Q => t σ H fun c H1 => if c = true then u σ H1 Q else Q false H1
noncomputable def tOr (t u : TT) : TT := fun σ H Q => t σ H fun c H1 => if c = true then Q true H1 else u σ H1 Q
noncomputable def tNot (t : TT) : TT := fun σ H Q => t σ H fun c H1 => Q (!c) H1
theorem pw_and1 (ha : PT X a tA) : PW X (.BoolOp .And [a] pos) tA := by
  intro wh pins s σ H Q I h
  refine isTrue_and (thn (ha pins s σ H Q I h) fun c s1 e => ?_)
  cases c with
  | true => exact isTrue_and_nil e
  | false => exact e
theorem pw_or1 (ha : PT X a tA) : PW X (.BoolOp .Or [a] pos) tA := by
  intro wh pins s σ H Q I h
  refine isTrue_or (thn (ha pins s σ H Q I h) fun c s1 e => ?_)
  cases c with
  | false => exact isTrue_or_nil e
  | true => exact e
theorem pw_and (ha : PT X a tA) (hb : PW X (.BoolOp .And (b :: rest) pos) tB') : PW X (.BoolOp .And (a :: b :: rest) pos) (tAnd tA tB') := by
  intro wh pins s σ H Q I h
  refine isTrue_and (thn (ha pins s σ H _ I h) fun c s1 hpat => ?_)
  obtain ⟨H1, I1, q1⟩ := hpat
  cases c with
  | true => exact hb wh pins s1 σ H1 Q I1 q1
  | false => exact ⟨H1, I1, q1⟩
theorem pw_or (ha : PT X a tA) (hb : PW X (.BoolOp .Or (b :: rest) pos) tB') : PW X (.BoolOp .Or (a :: b :: rest) pos) (tOr tA tB') := by
  intro wh pins s σ H Q I h
  refine isTrue_or (thn (ha pins s σ H _ I h) fun c s1 hpat => ?_)
  obtain ⟨H1, I1, q1⟩ := hpat
  cases c with
  | true => exact ⟨H1, I1, q1⟩
  | false => exact hb wh pins s1 σ H1 Q I1 q1
theorem pt_not (ha : PT X a tA) : PT X (.UnaryOp .Not a pos) (tNot tA) := by
  intro pins s σ H Q I h
  exact isTrue_not (ha pins s σ H (fun c H1 => Q (!c) H1) I h)
noncomputable def tAndV (ta tb : TE) : TE := fun σ H Q => ta σ H fun x H1 => ExQ Q (fun c Q => x = .bl c ∧ if c = true then tb σ H1 Q else Q (.bl false) H1)
theorem pe_one {op} {t : TE} (h : PE X a t) : PE X (.BoolOp op [a] pos) t := fun pins s σ H Q I hw => BoolOp_one (h pins s σ H Q I hw)
theorem pe_and (ha : PE X a ta) (hb : PE X (.BoolOp .And (b :: rest) pos) tb) : PE X (.BoolOp .And (a :: b :: rest) pos) (tAndV ta tb) := by
  intro pins s σ H Q I h
  refine BoolOp_and (thn (ha pins s σ H _ I h) fun v s1 hpat => ?_)
  obtain ⟨x, H1, I1, r1, q1⟩ := hpat
  obtain ⟨c, rfl, q1⟩ := q1
  cases r1
  refine wpAny_truthy_bool ?_
  cases c with
  | true => exact hb pins s1 σ H1 Q I1 q1
  | false => exact ⟨.bl false, H1, I1, rfl, q1⟩
noncomputable def tIf (t : TT) (ta tb : TE) : TE := fun σ H Q => t σ H fun c H1 => if c = true then ta σ H1 Q else tb σ H1 Q
theorem pe_ifExp {c : Expr} (hc : PT X c tA) (ha : PE X a ta) (hb : PE X b tb) : PE X (.IfExp c a b pos) (tIf tA ta tb) := by
  intro pins s σ H Q I h
  refine wpAny_IfExp (thn (hc pins s σ H _ I h) fun d s1 hpat => ?_)
  obtain ⟨H1, I1, q1⟩ := hpat
  cases d with
  | true => exact ha pins s1 σ H1 Q I1 q1
  | false => exact hb pins s1 σ H1 Q I1 q1
end
end L2

namespace L2
open PySem PySem.Spec PyProof.Rows

noncomputable def SqL (K : PySem.W.Frag) (H : Hp) (a : Addr) (xs : List V) : Prop :=
  Rd H a (.lst xs) ∨
    ∃ (o : Obj) (its : Array Value) (n : Nat), K.lookup a = some o ∧ o.cls = .type "list" ∧ o.dict = none ∧ o.data = .seq its n ∧ its.size ≤ sizeLine ∧ Vals xs its.toList
noncomputable def SqT (K : PySem.W.Frag) (H : Hp) (a : Addr) (xs : List V) : Prop :=
  Rd H a (.tup xs) ∨
    ∃ (o : Obj) (its : Array Value) (n : Nat), K.lookup a = some o ∧ o.cls = .type "tuple" ∧ o.data = .seq its n ∧ its.size ≤ sizeLine ∧ Vals xs its.toList
noncomputable def absV : Value → Option V
  | .none => some .non
  | .bool b => some (.bl b)
  | .int i _ => some (.int i)
  | .str x _ => some (.str x)
  | .bytes b _ => some (.byt b)
  | .float b _ => some (.flt b)
  | .ref a => some (.ref a)
  | .type n => some (.ty n)
  | _ => none
theorem RelV.abs {x : V} {u : Value} (r : RelV x u) : absV u = some x := by
  cases x with
  | non => cases r; rfl
  | bl _ => cases r; rfl
  | int _ => obtain ⟨t, rfl⟩ := r; rfl
  | str _ => obtain ⟨t, rfl⟩ := r; rfl
  | byt _ => obtain ⟨t, rfl⟩ := r; rfl
  | flt _ => obtain ⟨t, rfl⟩ := r; rfl
  | ref _ => cases r; rfl
  | ty _ => cases r; rfl
theorem RelV.inj {x y : V} {u : Value} (r : RelV x u) (q : RelV y u) : x = y := Option.some.inj (r.abs.symm.trans q.abs)
theorem Vals.inj : ∀ {xs ys : List V} {us : List Value}, Vals xs us → Vals ys us → xs = ys
  | _, _, _, .nil, .nil => rfl
  | _, _, _, .cons r t, .cons r' t' => by rw [r.inj r', Vals.inj t t']
section
variable {X : Cx} {pins : List (Addr × Obj)} {σ : St} {H : Hp} {s : Shared} {a : Addr} {xs ys : List V}
theorem SqL.of {K : PySem.W.Frag} (h : H a = some (.lst xs)) : SqL K H a xs := .inl (.inl h)
theorem SqT.of {K : PySem.W.Frag} (h : H a = some (.tup xs)) : SqT K H a xs := .inl (.inl h)
theorem Inv.list (I : Inv X pins σ H s) (h : SqL X.K H a xs) : ∃ its : List Value, Vals xs its ∧ PlainL s.heap a its.toArray ∧ xs.length ≤ sizeLine := by
  rcases h with h | ⟨o, its, n, hk, hc, hd, hs, hz, r⟩
  · obtain ⟨z, its, n, r, e⟩ := h.ok I.hok
    exact ⟨its, r, ⟨_, n, e, rfl, rfl, rfl⟩, z⟩
  · refine ⟨its.toList, r, ⟨o, n, I.kIn a o hk, hc, hd, by simpa using hs⟩, ?_⟩
    have e := r.length
    simp only [Array.length_toList] at e
    omega
theorem Inv.tuple (I : Inv X pins σ H s) (h : SqT X.K H a xs) : ∃ its : List Value, Vals xs its ∧ IsTup s.heap a its.toArray ∧ xs.length ≤ sizeLine := by
  rcases h with h | ⟨o, its, n, hk, hc, hs, hz, r⟩
  · obtain ⟨z, its, r, p⟩ := h.ok I.hok
    exact ⟨its, r, p, z⟩
  · refine ⟨its.toList, r, ⟨o, I.kIn a o hk, hc, n, by simpa using hs⟩, ?_⟩
    have e := r.length
    simp only [Array.length_toList] at e
    omega
theorem Inv.list_inj (I : Inv X pins σ H s) (h : SqL X.K H a xs) (h' : SqL X.K H a ys) : xs = ys := by
  obtain ⟨its, r, ⟨o, n, e, _, _, d⟩, _⟩ := I.list h
  obtain ⟨its', r', ⟨o', n', e', _, _, d'⟩, _⟩ := I.list h'
  rw [e] at e'; cases e'
  rw [d] at d'
  injection d' with d1 _
  have : its = its' := by simpa using congrArg Array.toList d1
  subst this
  exact r.inj r'
theorem Inv.tuple_inj (I : Inv X pins σ H s) (h : SqT X.K H a xs) (h' : SqT X.K H a ys) : xs = ys := by
  obtain ⟨its, r, ⟨o, e, _, n, d⟩, _⟩ := I.tuple h
  obtain ⟨its', r', ⟨o', e', _, n', d'⟩, _⟩ := I.tuple h'
  rw [e] at e'; cases e'
  rw [d] at d'
  injection d' with d1 _
  have : its = its' := by simpa using congrArg Array.toList d1
  subst this
  exact r.inj r'
end

noncomputable abbrev Cx.wish (X : Cx) (E : Value → Shared → Prop) : Cx := { X with xe := E }
noncomputable abbrev Cx.nox (X : Cx) : Cx := X.wish fun _ _ => False
theorem Cx.Ok.wish {X : Cx} (ok : X.Ok) (E : Value → Shared → Prop) : (X.wish E).Ok :=
  ⟨ok.mod, ok.kind, ok.glob, ok.blt, ok.above, ok.inj, ok.has, ok.cab, ok.hd, ok.frames, ok.stk, ok.exf, ok.bs, ok.bsz, ok.noex, ok.exfs, ok.funs, ok.frf⟩
theorem Cx.Ok.unwish {X : Cx} {E : Value → Shared → Prop} (ok : (X.wish E).Ok) : X.Ok :=
  ⟨ok.mod, ok.kind, ok.glob, ok.blt, ok.above, ok.inj, ok.has, ok.cab, ok.hd, ok.frames, ok.stk, ok.exf, ok.bs, ok.bsz, ok.noex, ok.exfs, ok.funs, ok.frf⟩
section
variable {X : Cx} {pins : List (Addr × Obj)} {σ : St} {H : Hp} {s : Shared} {E : Value → Shared → Prop}
theorem Inv.wish (I : Inv X pins σ H s) (E : Value → Shared → Prop) : Inv (X.wish E) pins σ H s := ⟨I.ok.wish E, I.os, I.bare, I.base, I.loc, I.cell, I.free, I.freeC, I.pin, I.hok, I.len⟩
theorem Inv.unwish (I : Inv (X.wish E) pins σ H s) : Inv X pins σ H s := ⟨I.ok.unwish, I.os, I.bare, I.base, I.loc, I.cell, I.free, I.freeC, I.pin, I.hok, I.len⟩
theorem SP.unwish {D : Ends} {f : Flow} {s' : Shared} (h : SP (X.wish E) pins D f s') : SP X pins D f s' := by
  cases f with
  | next => obtain ⟨σ', H', I, q⟩ := h; exact ⟨σ', H', I.unwish, q⟩
  | brk => obtain ⟨σ', H', I, q⟩ := h; exact ⟨σ', H', I.unwish, q⟩
  | cont => obtain ⟨σ', H', I, q⟩ := h; exact ⟨σ', H', I.unwish, q⟩
  | ret u => obtain ⟨v, σ', H', I, r, q⟩ := h; exact ⟨v, σ', H', I.unwish, r, q⟩
theorem PE.nox {e : Expr} {t : TE} (h : PE X.nox e t) : PE X e t := fun pins s σ H Q I hw =>
  wpAny_mono (h pins s σ H Q (I.wish _) hw) (fun _ _ hp2 => by obtain ⟨v, H', I', r, q⟩ := hp2; exact ⟨v, H', I'.unwish, r, q⟩) fun _ _ z => False.elim z
theorem PT.nox {e : Expr} {t : TT} (h : PT X.nox e t) : PT X e t := fun pins s σ H Q I hw =>
  wpAny_mono (h pins s σ H Q (I.wish _) hw) (fun _ _ hp2 => by obtain ⟨H', I', q⟩ := hp2; exact ⟨H', I'.unwish, q⟩) fun _ _ z => False.elim z
theorem PSs.nox {st : List Stmt} {t : TS} (h : PSs X.nox st t) : PSs X st t := fun pins s σ H D I hw =>
  wpAny_mono (h pins s σ H D (I.wish _) hw) (fun _ _ q => q.unwish) fun _ _ z => False.elim z
end

section
variable {X : Cx} {st : Stmt} {rest : List Stmt} {t u : TS} {e : Expr} {te : TE} {pos : Pos}
noncomputable def tNext : TS := fun D σ H => D.nx σ H
noncomputable def tSeq (t u : TS) : TS := fun D σ H => t { D with nx := u D } σ H
theorem pss_nil : PSs X [] tNext := fun _ _ σ H _ I h => wpAny_execs_nil ⟨σ, H, I, h⟩
theorem pss_cons (h1 : PS X st t) (h2 : PSs X rest u) : PSs X (st :: rest) (tSeq t u) := by
  intro pins s σ H D I h
  refine wpAny_execs_cons (thn (h1 pins s σ H { D with nx := u D } I h) fun f s1 q => ?_)
  cases f with
  | next =>
    obtain ⟨σ', H', I', q⟩ := q
    exact h2 pins s1 σ' H' D I' q
  | ret v => exact q
  | brk => exact q
  | cont => exact q
theorem pss_one (h1 : PS X st t) : PSs X [st] t := by
  intro pins s σ H D I h
  refine wpAny_execs_cons (thn (h1 pins s σ H D I h) fun f s1 q => ?_)
  cases f with
  | next => exact wpAny_execs_nil q
  | ret v => exact q
  | brk => exact q
  | cont => exact q
theorem Inv.quiet {pins : List (Addr × Obj)} {σ : St} {H : Hp} {s : Shared} (I : Inv X pins σ H s) : interactive X.env = false := by simp [interactive, I.ok.kind]
noncomputable def tDrop (te : TE) : TS := fun D σ H => te σ H fun _ H1 => D.nx σ H1
theorem ps_expr (he : PE X e te) (hs : swapsWith e none pos.line X.env = pure false := by rfl) : PS X (.Expr e pos) (tDrop te) := by
  intro pins s σ H D I h
  exact wpAny_Expr_any (thn (he pins s σ H _ I h) fun v s1 hp2 => by obtain ⟨x, H1, I1, r1, q1⟩ := hp2; exact ⟨σ, H1, I1, q1⟩) I.quiet hs
noncomputable def tRet (te : TE) : TS := fun D σ H => te σ H D.rt
theorem ps_ret (he : PE X e te) : PS X (.Return (some e) pos) (tRet te) := by
  intro pins s σ H D I h
  exact wpAny_Return_some (thn (he pins s σ H _ I h) fun v s1 hp2 => by obtain ⟨x, H1, I1, r1, q1⟩ := hp2; exact ⟨x, σ, H1, I1, r1, q1⟩)
noncomputable def tRetN : TS := fun D _ H => D.rt .non H
theorem ps_retN : PS X (.Return none pos) tRetN := fun _ _ σ H _ I h => wpAny_Return_none ⟨.non, σ, H, I, rfl, h⟩
noncomputable def tIfS (c : TT) (t u : TS) : TS := fun D σ H => c σ H fun b H1 => if b = true then t D σ H1 else u D σ H1
theorem ps_if {c : Expr} {a b : List Stmt} {tc : TT} (hc : PT X c tc) (ha : PSs X a t) (hb : PSs X b u) : PS X (.If c a b pos) (tIfS tc t u) := by
  intro pins s σ H D I h
  refine wpAny_If (thn (hc pins s σ H _ I h) fun d s1 hpat => ?_)
  obtain ⟨H1, I1, q1⟩ := hpat
  cases d with
  | true => exact ha pins s1 σ H1 D I1 q1
  | false => exact hb pins s1 σ H1 D I1 q1
end

noncomputable abbrev TG := V → St → Hp → (St → Hp → Prop) → Prop
noncomputable abbrev TGs := List V → St → Hp → (St → Hp → Prop) → Prop
noncomputable def PG (X : Cx) (target : Expr) (t : TG) : Prop :=
  ∀ (pins : List (Addr × Obj)) (s : Shared) (σ : St) (H : Hp) (v : V) (u : Value) (Q : St → Hp → Prop), Inv X pins σ H s → RelV v u → t v σ H Q →
    wpAny (model X.prog X.w) X.A (assign target X.env u) (fun _ s' => ∃ σ' H', Inv X pins σ' H' s' ∧ Q σ' H') X.xe s
noncomputable def PGs (X : Cx) (ts : List Expr) (t : TGs) : Prop :=
  ∀ (pins : List (Addr × Obj)) (s : Shared) (σ : St) (H : Hp) (vs : List V) (us : List Value) (Q : St → Hp → Prop), Inv X pins σ H s → Vals vs us → t vs σ H Q →
    wpAny (model X.prog X.w) X.A (assignInOrder ((assignEach ts X.env).map (·.2)) us) (fun _ s' => ∃ σ' H', Inv X pins σ' H' s' ∧ Q σ' H') X.xe s
noncomputable abbrev TSet := V → V → V → Hp → (Hp → Prop) → Prop
noncomputable def PSet (X : Cx) (t : TSet) : Prop :=
  ∀ (pins : List (Addr × Obj)) (s : Shared) (σ : St) (H : Hp) (o i v : V) (ov iv u : Value) (Q : Hp → Prop), Inv X pins σ H s → RelV o ov → RelV i iv → RelV v u → t o i v H Q →
    wpAny (model X.prog X.w) X.A (setItem ov iv u) (fun _ s' => ∃ H', Inv X pins σ H' s' ∧ Q H') X.xe s
section
variable {X : Cx} {pos : Pos}
noncomputable def gName (i : Nat) : TG := fun v σ H Q => Q (σ.set i (some v)) H
theorem pg_name {i : Nat} {x : Str} (hN : X.N.Nodup) (hi : X.N[i]? = some x) (hx : Loc X.env.scope x) (hf : X.fn x = true ∨ X.env.scope.names.lookup x = some .local := by first | exact .inl rfl | exact .inr rfl | assumption) : PG X (.Name x pos) (gName i) := by
  intro pins s σ H v u Q I r h
  exact wpAny_assign_Name (store_ok I hN hi hx r (fun s' I' => ⟨_, H, I', h⟩) hf)
noncomputable def gNil : TGs := fun vs σ H Q => vs = [] ∧ Q σ H
noncomputable def gCons (t : TG) (u : TGs) : TGs := fun vs σ H Q => ExQ Q (fun v Q => ExQ Q (fun r Q => vs = v :: r ∧ t v σ H fun σ' H' => u r σ' H' Q))
theorem pgs_nil : PGs X [] gNil := by
  intro pins s σ H vs us Q I r h
  obtain ⟨e, h⟩ := h
  subst e
  cases r
  exact assignInOrder_nil ⟨σ, H, I, h⟩
theorem pgs_cons {e : Expr} {es : List Expr} {t : TG} {u : TGs} (h1 : PG X e t) (h2 : PGs X es u)
    (hs : (assignEach (e :: es) X.env).map (·.2) = assign e X.env :: (assignEach es X.env).map (·.2) := by rfl) : PGs X (e :: es) (gCons t u) := by
  intro pins s σ H vs us Q I r h
  obtain ⟨v, vr, e1, h⟩ := h
  subst e1
  cases r with
  | cons r rr =>
    rw [hs]
    refine assignInOrder_cons (thn (h1 pins s σ H _ _ _ I r h) fun _ s1 hpat => ?_)
    obtain ⟨σ1, H1, I1, q1⟩ := hpat
    exact h2 pins s1 σ1 H1 _ _ Q I1 rr q1
noncomputable def gTup (K : PySem.W.Frag) (n : Nat) (t : TGs) : TG := fun v σ H Q => ExQ Q (fun a Q => ExQ Q (fun xs Q => v = .ref a ∧ SqT K H a xs ∧ xs.length = n ∧ t xs σ H Q))
theorem pg_tup {es : List Expr} {k : Nat} {t : TGs} {n : Nat} (hc : X.calm = true) (h : PGs X es t)
    (hn : (assignEach es X.env).length = n := by rfl) (hst : (assignEach es X.env).findIdx? (·.1) = none := by rfl) : PG X (.Tuple es k pos) (gTup X.K n t) := by
  intro pins s σ H v u Q I r hw
  obtain ⟨a, xs, e1, hq, hl, hw⟩ := hw
  subst e1
  cases r
  obtain ⟨its, rv, ht, hz⟩ := I.tuple hq
  refine assign_Tuple_tuple (I.ok.hd hc) ht (by simp [hn, ← hl, rv.length]) hst fun h' hx => ?_
  have I1 : Inv X pins σ H { s with heap := h' } := I.kept (t' := s.toks) fun b o e => hx b o (Nat.ne_of_lt (Heap.lt_size e)) e
  exact h pins _ σ H xs _ Q I1 (by simpa using rv) hw
noncomputable def gSub (to ti : TE) (t : TSet) : TG := fun v σ H Q => to σ H fun o H1 => ti σ H1 fun i H2 => t o i v H2 fun H3 => Q σ H3
theorem pg_sub {o i : Expr} {to ti : TE} {t : TSet} (ho : PE X o to) (hi : PE X i ti) (hs : PSet X t)
    (ha : ∀ v, assign (.Subscript o i pos) X.env v = (do
      let ov ← holding [v] (eval o X.env)
      let iv ← holding [v, ov] (eval i X.env)
      standAt pos
      holding [v, ov, iv] (setItem ov iv v)
      release [v, ov, iv] []) := by intro _; rfl) : PG X (.Subscript o i pos) (gSub to ti t) := by
  intro pins s σ H v u Q I r h
  rw [ha]
  refine wpAny_bind (wpAny_holding (thn (ho pins s σ H _ I h) fun ov s1 hpat => ?_))
  obtain ⟨x, H1, I1, r1, q1⟩ := hpat
  refine wpAny_bind (wpAny_holding (thn (hi pins s1 σ H1 _ I1 q1) fun iv s2 hpat => ?_))
  obtain ⟨y, H2, I2, r2, q2⟩ := hpat
  refine wpAny_bind (wpAny_standAt (wpAny_bind (wpAny_holding (thn (hs pins s2 σ H2 x y v ov iv u _ I2 r1 r2 r q2) fun _ s3 hpat => ?_))))
  obtain ⟨H3, I3, q3⟩ := hpat
  exact wpAny_release ⟨σ, H3, I3, q3⟩
noncomputable def tAsg (te : TE) (g : TG) : TS := fun D σ H => te σ H fun x H1 => g x σ H1 D.nx
theorem ps_asg {tg e : Expr} {te : TE} {g : TG} (he : PE X e te) (hg : PG X tg g) (hs : swapsWithSole [tg] e pos.line X.env = pure false := by rfl) (hw : swappedStores [tg] e X.env = pure none := by rfl)
    (h1 : (assignEach [tg] X.env).map (·.2) = [assign tg X.env] := by rfl) : PS X (.Assign [tg] e pos) (tAsg te g) := by
  intro pins s σ H D I h
  refine wpAny_Assign_stores (thn (he pins s σ H _ I h) fun v s1 hpat => ?_) hs hw
  obtain ⟨x, H1, I1, r1, q1⟩ := hpat
  rw [h1]
  exact thn (hg pins s1 σ H1 x v _ I1 r1 q1) fun _ s2 q => q
theorem ps_set {i : Nat} {x : Str} {e : Expr} {te : TE} {pos' : Pos} (hN : X.N.Nodup) (hi : X.N[i]? = some x) (hx : Loc X.env.scope x) (he : PE X e te) (hs : swapsWith e (some (.Name x pos')) pos.line X.env = pure false := by rfl) (hf : X.fn x = true ∨ X.env.scope.names.lookup x = some .local := by first | exact .inl rfl | exact .inr rfl | assumption) :
    PS X (.Assign [.Name x pos'] e pos) (tAsg te (gName i)) := by
  intro pins s σ H D I h
  refine wpAny_Assign_Name (thn (he pins s σ H _ I h) fun v s1 hpat => ?_) hs
  obtain ⟨y, H1, I1, r1, q1⟩ := hpat
  exact store_ok I1 hN hi hx r1 (fun s2 I2 => ⟨_, H1, I2, q1⟩) hf
end

section
variable {X : Cx} {pos : Pos}
noncomputable def tWhile (c : TT) (tb : TS) : TS := fun D σ H => ∃ W : Nat → St → Hp → Prop, (∃ m, W m σ H) ∧ ∀ m σ H, W m σ H →
  c σ H fun b H1 => if b = true then ∃ N : St → Hp → Prop, (∀ σ' H', N σ' H' → ∃ m', m' < m ∧ W m' σ' H') ∧ tb { D with nx := N, ct := N, bk := D.nx } σ H1 else D.nx σ H1
theorem ps_while {c : Expr} {body : List Stmt} {tc : TT} {tb : TS} (hp : PassesOwn (model X.prog X.w) X.A X.env X.xe) (hc : PT X c tc) (hb : PSs X body tb) : PS X (.While c body [] pos) (tWhile tc tb) := by
  intro pins s σ H D I h
  obtain ⟨W, ⟨m0, w0⟩, turn⟩ := h
  refine wpAny_While (codeAny_whileLoop (fun n s' => ∃ σ' H', Inv X pins σ' H' s' ∧ W n σ' H') ?_ m0 ⟨σ, H, I, w0⟩)
  rintro n s1 ⟨σ1, H1, I1, w1⟩
  refine wpAny_passesOwn hp (thn (hc pins s1 σ1 H1 _ I1 (turn n σ1 H1 w1)) fun b s2 hpat => ?_)
  obtain ⟨H2, I2, q2⟩ := hpat
  cases b with
  | true =>
    obtain ⟨N, hN, q2⟩ := q2
    rw [if_pos rfl]
    refine wpAny_passesOwn hp (thn (hb pins s2 σ1 H2 _ I2 q2) fun f s3 q3 => ?_)
    cases f with
    | next =>
      obtain ⟨σ3, H3, I3, n3⟩ := q3
      obtain ⟨m', hm, w3⟩ := hN σ3 H3 n3
      exact ⟨m', hm, σ3, H3, I3, w3⟩
    | cont =>
      obtain ⟨σ3, H3, I3, n3⟩ := q3
      obtain ⟨m', hm, w3⟩ := hN σ3 H3 n3
      exact ⟨m', hm, σ3, H3, I3, w3⟩
    | brk => exact q3
    | ret v => exact q3
  | false =>
    rw [if_neg Bool.false_ne_true]
    exact wpAny_execs_nil ⟨σ1, H2, I2, q2⟩
end

structure It where
  go : Nat → Hp → Prop
  yld : Nat → Hp → V → Hp → Prop
  stop : Nat → Hp → Prop
noncomputable def FpOk (X : Cx) (pins : List (Addr × Obj)) (H : Hp) (b : Addr) : Prop :=
  H b = none ∧ b ≠ X.env.locals ∧ b ∉ X.fs ∧ (b ∈ X.ex ∨ X.s₀.heap.objs.size ≤ b) ∧ (∀ x c, X.env.cells.lookup x = some c → c ≠ b) ∧ ∀ p ∈ X.pn ++ pins, p.1 ≠ b
theorem Inv.fpOk {X : Cx} {pins : List (Addr × Obj)} {σ : St} {H H' : Hp} {s : Shared} {b : Addr} (I : Inv X pins σ H s) (hb : s.heap.objs.size ≤ b) (hn : H' b = none) : FpOk X pins H' b := by
  refine ⟨hn, Nat.ne_of_gt (Nat.lt_of_lt_of_le I.lt hb), I.nofs hb, .inr (Nat.le_trans I.sz hb), fun x c e z => ?_, fun p hp z => ?_⟩
  · obtain ⟨v, q⟩ := I.cell x c e
    exact absurd (Nat.lt_of_lt_of_le q.lt (by rw [z]; exact hb)) (Nat.lt_irrefl _)
  · exact absurd (Nat.lt_of_lt_of_le (Heap.lt_size (I.pin p hp).1) (by rw [z]; exact hb)) (Nat.lt_irrefl _)
structure Turn (P : Program) (w : World) (K : PySem.W.Frag) (tg : Expr) (J : It) (fp : List Addr) (it : Addr) (tn : Nat → Heap → Prop) : Prop where
  mem : it ∈ fp
  obj : ∀ i h, tn i h → ∀ b ∈ fp, ∃ o, h.get? b = some o ∧ ∀ v, o.data ≠ .cell v
  keep : ∀ i h h', tn i h → (∀ b ∈ fp, ∀ o, h.get? b = some o → h'.get? b = some o) → tn i h'
  item : ∀ (X : Cx), X.prog = P → X.w = w → X.K = K → X.calm = true → ∀ (i : Nat) (pins : List (Addr × Obj)) (s : Shared) (σ : St) (H : Hp) (E : Value → Shared → Prop), Inv X pins σ H s → (∀ b ∈ fp, FpOk X pins H b) → tn i s.heap → J.go i H →
    wpAny (model P w) X.A (pyNext (.ref it)) (fun r s1 => ∃ u, r = some u ∧
      wpAny (model P w) X.A (letOwnedTupleGo tg (.ref it) u) (fun _ s2 => ∃ x H', Inv X pins σ H' s2 ∧ RelV x u ∧ J.yld i H x H' ∧ tn (i + 1) s2.heap ∧ ∀ b ∈ fp, H' b = none) E s1) E s
  done : ∀ (X : Cx), X.prog = P → X.w = w → X.K = K → X.calm = true → ∀ (i : Nat) (pins : List (Addr × Obj)) (s : Shared) (σ : St) (H : Hp) (E : Value → Shared → Prop), Inv X pins σ H s → (∀ b ∈ fp, FpOk X pins H b) → tn i s.heap → J.stop i H →
    wpAny (model P w) X.A (pyNext (.ref it)) (fun r s1 => r = none ∧ Inv X pins σ H s1) E s
  self : ∀ (A : Around) (i : Nat) (s : Shared) (Q : Value → Shared → Prop) (E : Value → Shared → Prop), tn i s.heap → Q (.ref it) s → wpAny (model P w) A (pyIter (.ref it)) Q E s
noncomputable abbrev TI := St → Hp → (It → Hp → Prop) → Prop
noncomputable def PIE (X : Cx) (pins : List (Addr × Obj)) (σ : St) (tg : Expr) (R : It → Hp → Prop) (itv : Value) (s2 : Shared) : Prop :=
  ∃ (it : Addr) (fp : List Addr) (tn : Nat → Heap → Prop) (J : It) (H' : Hp), itv = .ref it ∧ Inv X pins σ H' s2 ∧ Turn X.prog X.w X.K tg J fp it tn ∧ tn 0 s2.heap ∧ (∀ b ∈ fp, FpOk X pins H' b) ∧ R J H'
noncomputable def PI (X : Cx) (tg iter : Expr) (wi : TI) : Prop :=
  ∀ (pins : List (Addr × Obj)) (s : Shared) (σ : St) (H : Hp) (R : It → Hp → Prop), Inv X pins σ H s → wi σ H R →
    wpAny (model X.prog X.w) X.A (eval iter X.env) (fun v s1 => wpAny (model X.prog X.w) X.A (pyIter v) (PIE X pins σ tg R) X.xe s1) X.xe s

theorem go_of {M : Model} {A : Around} {E : Value → Shared → Prop} {s : Shared} {tg : Expr} {it : Addr} {u : Value} {o : Obj} {n : String} {vs : Array Value} {Q : Unit → Shared → Prop} (ho : s.heap.get? it = some o) (hc : o.cls = .type n) (hd : o.data = .fields vs)
    (hn : ["enumerate", "zip", "dict_itemiterator", "dict_reverseitemiterator", "odict_iterator", "itertools.zip_longest", "itertools.pairwise"].contains n = false) (hQ : Q () s) : wpAny M A (letOwnedTupleGo tg (.ref it) u) Q E s := by
  unfold letOwnedTupleGo
  cases tg <;> first
    | exact wpAny_pure hQ
    | (cases u <;> first
        | exact wpAny_pure hQ
        | (refine wpAny_bind (wpAny_load ho ?_)
           rw [hc, hd]
           show wpAny M A (if (["enumerate", "zip", "dict_itemiterator", "dict_reverseitemiterator", "odict_iterator", "itertools.zip_longest", "itertools.pairwise"].contains n && vs[0]? == some (rawInt _)) = true then _ else _) Q E s
           rw [if_neg (by intro h; rw [hn, Bool.false_and] at h; cases h)]
           exact wpAny_pure hQ))

noncomputable def Itl (K : PySem.W.Frag) (a : Addr) : It :=
  ⟨fun i H => ∃ xs x, SqL K H a xs ∧ xs[i]? = some x, fun i H x H' => H' = H ∧ ∀ xs, SqL K H a xs → xs[i]? = some x, fun i H => ∃ xs, SqL K H a xs ∧ xs.length ≤ i⟩
noncomputable def Itt (K : PySem.W.Frag) (a : Addr) : It :=
  ⟨fun i H => ∃ xs x, SqT K H a xs ∧ xs[i]? = some x, fun i H x H' => H' = H ∧ ∀ xs, SqT K H a xs → xs[i]? = some x, fun i H => ∃ xs, SqT K H a xs ∧ xs.length ≤ i⟩
noncomputable def Itr (lo : Int) (n : Nat) : It := ⟨fun i _ => i < n, fun i H x H' => H' = H ∧ x = .int (lo + i), fun i _ => n ≤ i⟩
theorem turn_list {P : Program} {w : World} {K : PySem.W.Frag} {tg : Expr} (a it : Addr) : Turn P w K tg (Itl K a) [it] it (fun i h => h.IsListIter it a i) where
  mem := by simp
  obj := fun i h st b hb => by
    have e : b = it := by simpa using hb
    subst e
    obtain ⟨o, e, c, d⟩ := st
    exact ⟨o, e, fun v z => by rw [d] at z; cases z⟩
  keep := fun i h h' st k => st.at fun o e => k it (by simp) o e
  item := by
    intro X hP hw hK hc i pins s σ H E I hf st hg
    subst hP hw hK
    obtain ⟨xs, x, hq, hx⟩ := hg
    obtain ⟨its, rv, p, hz⟩ := I.list hq
    obtain ⟨u, hu, ru⟩ := rv.get hx
    obtain ⟨f0, f1, f2, f3, f4, f5⟩ := hf it (by simp)
    refine wpAny_pyNext_list_item st p.isList (x := u) (by simpa using hu) fun h' st' sb => ?_
    have I1 : Inv X pins σ H { s with heap := h' } := I.turned (t' := s.toks) (fun b o hb e => (sb.2 b hb).trans e) f0 f1 f3 f4 f5
    obtain ⟨o, e, c, d⟩ := id st'
    exact ⟨u, rfl, go_of (s := { s with heap := h' }) e c d (by decide) ⟨x, H, I1, ru, ⟨rfl, fun ys hy => by rw [I.list_inj hy hq]; exact hx⟩, st', fun b hb => (hf b hb).1⟩⟩
  done := by
    intro X hP hw hK hc i pins s σ H E I hf st hg
    subst hP hw hK
    obtain ⟨xs, hq, hx⟩ := hg
    obtain ⟨its, rv, p, hz⟩ := I.list hq
    obtain ⟨f0, f1, f2, f3, f4, f5⟩ := hf it (by simp)
    have hl := rv.length
    exact wpAny_pyNext_list_end (I.ok.hd hc) st p.isList (by simp; omega) fun h' eb => ⟨rfl, I.turned (t' := s.toks) (fun b o hb e => eb b o hb e) f0 f1 f3 f4 f5⟩
  self := fun _ _ _ _ _ st h => wpAny_pyIter_listiter st h
theorem turn_tuple {P : Program} {w : World} {K : PySem.W.Frag} {tg : Expr} (a it : Addr) : Turn P w K tg (Itt K a) [it] it (fun i h => h.IsTupleIter it a i) where
  mem := by simp
  obj := fun i h st b hb => by
    have e : b = it := by simpa using hb
    subst e
    obtain ⟨o, e, c, d⟩ := st
    exact ⟨o, e, fun v z => by rw [d] at z; cases z⟩
  keep := fun i h h' st k => st.at fun o e => k it (by simp) o e
  item := by
    intro X hP hw hK hc i pins s σ H E I hf st hg
    subst hP hw hK
    obtain ⟨xs, x, hq, hx⟩ := hg
    obtain ⟨its, rv, p, hz⟩ := I.tuple hq
    obtain ⟨u, hu, ru⟩ := rv.get hx
    obtain ⟨f0, f1, f2, f3, f4, f5⟩ := hf it (by simp)
    refine wpAny_pyNext_tuple_item st (show s.heap.IsTuple a its.toArray from p) (x := u) (by simpa using hu) fun h' st' sb => ?_
    have I1 : Inv X pins σ H { s with heap := h' } := I.turned (t' := s.toks) (fun b o hb e => (sb.2 b hb).trans e) f0 f1 f3 f4 f5
    obtain ⟨o, e, c, d⟩ := id st'
    exact ⟨u, rfl, go_of (s := { s with heap := h' }) e c d (by decide) ⟨x, H, I1, ru, ⟨rfl, fun ys hy => by rw [I.tuple_inj hy hq]; exact hx⟩, st', fun b hb => (hf b hb).1⟩⟩
  done := by
    intro X hP hw hK hc i pins s σ H E I hf st hg
    subst hP hw hK
    obtain ⟨xs, hq, hx⟩ := hg
    obtain ⟨its, rv, p, hz⟩ := I.tuple hq
    obtain ⟨f0, f1, f2, f3, f4, f5⟩ := hf it (by simp)
    have hl := rv.length
    exact wpAny_pyNext_tuple_end (I.ok.hd hc) st (show s.heap.IsTuple a its.toArray from p) (by simp; omega) fun h' eb => ⟨rfl, I.turned (t' := s.toks) (fun b o hb e => eb b o hb e) f0 f1 f3 f4 f5⟩
  self := fun _ _ _ _ _ st h => wpAny_pyIter_tupleiter st h
theorem turn_range {P : Program} {w : World} {K : PySem.W.Frag} {tg : Expr} (it : Addr) (lo : Int) (n : Nat) : Turn P w K tg (Itr lo n) [it] it (fun i h => IsRangeIter h it (lo + (i : Nat) * 1) ((n : Int) - (i : Nat)) 1) where
  mem := by simp
  obj := fun i h st b hb => by
    have e : b = it := by simpa using hb
    subst e
    exact ⟨_, st, fun v z => by
      have z' : Data.fields _ = Data.cell v := z
      cases z'⟩
  keep := fun i h h' st k => k it (by simp) _ st
  item := by
    intro X hP hw hK hc i pins s σ H E I hf st hg
    subst hP hw hK
    obtain ⟨f0, f1, f2, f3, f4, f5⟩ := hf it (by simp)
    have W := Walks.range (prog := X.prog) (w := X.w) (I.ok.hd hc) it lo 1 n
    refine W.item i s _ _ hg st fun v h' tk hv st' kk => ?_
    obtain ⟨t, rfl⟩ := hv
    have I1 : Inv X pins σ H { s with heap := h', toks := tk } := I.turned (fun b o hb e => kk b o (by simpa using hb) e) f0 f1 f3 f4 f5
    refine ⟨_, rfl, go_of (s := { s with heap := h', toks := tk }) (n := "range_iterator") st' rfl rfl (by decide) ⟨.int (lo + i), H, I1, ⟨t, ?_⟩, ⟨rfl, rfl⟩, st', fun b hb => (hf b hb).1⟩⟩
    rw [Int.mul_one]
  done := by
    intro X hP hw hK hc i pins s σ H E I hf st hg
    subst hP hw hK
    obtain ⟨f0, f1, f2, f3, f4, f5⟩ := hf it (by simp)
    exact wpAny_pyNext_range_end (I.ok.hd hc) st (by have : n ≤ i := hg; omega) fun h' eb => ⟨rfl, I.turned (t' := s.toks) (fun b o hb e => eb b o hb e) f0 f1 f3 f4 f5⟩
  self := fun _ _ _ _ _ st h => wpAny_pyIter_rangeiter st h
end L2

namespace L2
open PySem PySem.Spec PyProof.Rows
section
variable {X : Cx} {tg : Expr}
noncomputable def iList (K : PySem.W.Frag) (tl : TE) : TI := fun σ H R => tl σ H fun x H1 => ExQ R (fun a R => x = .ref a ∧ (∃ xs, SqL K H1 a xs) ∧ R (Itl K a) H1)
noncomputable def iTup (K : PySem.W.Frag) (tl : TE) : TI := fun σ H R => tl σ H fun x H1 => ExQ R (fun a R => x = .ref a ∧ (∃ xs, SqT K H1 a xs) ∧ R (Itt K a) H1)
theorem pi_list {l : Expr} {tl : TE} (hl : PE X l tl) : PI X tg l (iList X.K tl) := by
  intro pins s σ H R I h
  refine thn (hl pins s σ H _ I h) fun v s1 hpat => ?_
  obtain ⟨x, H1, I1, r1, q1⟩ := hpat
  obtain ⟨a, e, ⟨xs, hq⟩, q⟩ := q1
  subst e
  cases r1
  obtain ⟨its, rv, p, hz⟩ := I1.list hq
  refine wpAny_pyIter_list p.isList ?_
  refine ⟨s1.heap.objs.size, [s1.heap.objs.size], _, _, H1, rfl, I1.kept (t' := s1.toks) fun b o e => Heap.get?_push_of_some _ e, turn_list a _, ⟨_, Heap.get?_push_size _ rfl, rfl, rfl⟩, fun b hb => ?_, q⟩
  have e : b = s1.heap.objs.size := by simpa using hb
  subst e
  exact I1.fpOk (Nat.le_refl _) (I1.hok.fresh (Nat.le_refl _))
theorem pi_tup {l : Expr} {tl : TE} (hl : PE X l tl) : PI X tg l (iTup X.K tl) := by
  intro pins s σ H R I h
  refine thn (hl pins s σ H _ I h) fun v s1 hpat => ?_
  obtain ⟨x, H1, I1, r1, q1⟩ := hpat
  obtain ⟨a, e, ⟨xs, hq⟩, q⟩ := q1
  subst e
  cases r1
  obtain ⟨its, rv, p, hz⟩ := I1.tuple hq
  refine wpAny_pyIter_tuple (show s1.heap.IsTuple a its.toArray from p) ?_
  refine ⟨s1.heap.objs.size, [s1.heap.objs.size], _, _, H1, rfl, I1.kept (t' := s1.toks) fun b o e => Heap.get?_push_of_some _ e, turn_tuple a _, ⟨_, Heap.get?_push_size _ rfl, rfl, rfl⟩, fun b hb => ?_, q⟩
  have e : b = s1.heap.objs.size := by simpa using hb
  subst e
  exact I1.fpOk (Nat.le_refl _) (I1.hok.fresh (Nat.le_refl _))
theorem range_it {pins : List (Addr × Obj)} {σ : St} {H : Hp} {s : Shared} {R : It → Hp → Prop} {E : Value → Shared → Prop} {lo hi : Int} {t u v : Tok} {tk : Nat} (I : Inv X pins σ H s) (h1 : -(2 ^ 62) ≤ lo) (h2 : lo < 2 ^ 62) (h3 : -(2 ^ 62) ≤ hi) (h4 : hi < 2 ^ 62)
    (q : R (Itr lo (hi - lo).toNat) H) : wpAny (model X.prog X.w) X.A (pyIter (.ref s.heap.objs.size)) (PIE X pins σ tg R) E { s with heap := s.heap.push { cls := .type "range", data := .fields #[.int lo t, .int hi u, .int 1 v] }, toks := tk } := by
  refine wpAny_pyIter_range (IsRange.new ..) (small_one h1 h2 h3 h4) ?_
  have I1 : Inv X pins σ H { s with heap := s.heap.push { cls := .type "range", data := .fields #[.int lo t, .int hi u, .int 1 v] }, toks := tk } := I.kept fun b o e => Heap.get?_push_of_some _ e
  refine ⟨(s.heap.push { cls := .type "range", data := .fields #[.int lo t, .int hi u, .int 1 v] }).objs.size, [(s.heap.push { cls := .type "range", data := .fields #[.int lo t, .int hi u, .int 1 v] }).objs.size], _, _, H, rfl,
    I1.kept (t' := tk) fun b o e => Heap.get?_push_of_some _ e, turn_range _ lo (hi - lo).toNat, ?_, fun b hb => ?_, q⟩
  · have e1 : lo + ((0 : Nat) : Int) * 1 = lo := by simp
    have e2 : (((hi - lo).toNat : Nat) : Int) - ((0 : Nat) : Int) = Builtin.Range.rangeSize lo hi 1 := by rw [rangeSize_one]; split <;> omega
    show IsRangeIter _ _ (lo + ((0 : Nat) : Int) * 1) ((((hi - lo).toNat : Nat) : Int) - ((0 : Nat) : Int)) 1
    rw [e1, e2]
    exact Heap.get?_push_size _ rfl
  · have e : b = (s.heap.push { cls := .type "range", data := .fields #[.int lo t, .int hi u, .int 1 v] }).objs.size := by simpa using hb
    subst e
    exact I1.fpOk (Nat.le_refl _) (I1.hok.fresh (Nat.le_refl _))
noncomputable def iRng1 (ta : TA) : TI := fun σ H R => ta σ H fun vs H1 => ExQ R (fun (j : Int) R => vs = [.int j] ∧ -(2 ^ 62) ≤ j ∧ j < 2 ^ 62 ∧ R (Itr 0 j.toNat) H1)
noncomputable def iRng2 (ta : TA) : TI := fun σ H R => ta σ H fun vs H1 => ExQ R (fun (i : Int) R => ExQ R (fun (j : Int) R => vs = [.int i, .int j] ∧ (-(2 ^ 62) ≤ i ∧ i < 2 ^ 62 ∧ -(2 ^ 62) ≤ j ∧ j < 2 ^ 62) ∧ R (Itr i (j - i).toNat) H1))
theorem pi_range1 {a : Expr} {ta : TA} {p pos : Pos} (hg : Gl X "range") (hm : X.mg "range" = none) (ha : PA X [a] ta) (hs : starEach [a] X.env = [(false, eval a X.env)] := by rfl) : PI X tg (.Call (.Name "range" p) [a] [] pos) (iRng1 ta) := by
  intro pins s σ H R I h
  refine Call_ (ld_blt I hg hm boot_range (PyProof.Rows.callWith_type1 (thn (ha pos pins s σ H _ I h) fun us s1 hpat => ?_) hs rfl))
  obtain ⟨vs, H1, I1, r1, q1⟩ := hpat
  obtain ⟨j, e, q1, q2, q⟩ := q1
  subst e
  cases r1 with
  | cons r rr =>
    cases rr
    obtain ⟨t, rfl⟩ := r
    exact call_range_1 (range_it I1 (by omega) (by omega) q1 q2 (by simpa using q))
theorem pi_range2 {a b : Expr} {ta : TA} {p pos : Pos} (hg : Gl X "range") (hm : X.mg "range" = none) (ha : PA X [a, b] ta) (hs : starEach [a, b] X.env = [(false, eval a X.env), (false, eval b X.env)] := by rfl) (hs2 : starEach [b] X.env = [(false, eval b X.env)] := by rfl) :
    PI X tg (.Call (.Name "range" p) [a, b] [] pos) (iRng2 ta) := by
  intro pins s σ H R I h
  refine Call_ (ld_blt I hg hm boot_range (PyProof.Rows.callWith_type1 (thn (ha pos pins s σ H _ I h) fun us s1 ⟨vs, H1, I1, r1, q1⟩ => ?_) (by rw [hs, hs2]) (by rw [hs2]; rfl)))
  obtain ⟨i, j, e, ⟨q1, q2, q3, q4⟩, q⟩ := q1
  subst e
  cases r1 with
  | cons r rr =>
    cases rr with
    | cons r' rr =>
      cases rr
      obtain ⟨t, rfl⟩ := r
      obtain ⟨t', rfl⟩ := r'
      exact call_range_2 (range_it I1 q1 q2 q3 q4 q)

noncomputable def tFor (wi : TI) (g : TG) (tb : TS) : TS := fun D σ H => wi σ H fun J H1 => ∃ W : Nat → Nat → St → Hp → Prop, (∃ m, W 0 m σ H1) ∧ ∀ i m σ H, W i m σ H →
  (J.stop i H ∧ D.nx σ H) ∨ (J.go i H ∧ ∃ N : St → Hp → Prop, (∀ σ' H', N σ' H' → ∃ m', m' < m ∧ W (i + 1) m' σ' H') ∧ ∀ x H', J.yld i H x H' → g x σ H' fun σ2 H2 => tb { D with nx := N, ct := N, bk := D.nx } σ2 H2)
noncomputable def pinsAt (fp : List Addr) (h : Heap) : List (Addr × Obj) := fp.filterMap fun b => (h.get? b).map fun o => (b, o)
theorem mem_pinsAt {fp : List Addr} {h : Heap} {b : Addr} {o : Obj} (hb : b ∈ fp) (e : h.get? b = some o) : (b, o) ∈ pinsAt fp h := List.mem_filterMap.mpr ⟨b, hb, by rw [e]; rfl⟩
theorem of_pinsAt {fp : List Addr} {h : Heap} {p : Addr × Obj} (hp : p ∈ pinsAt fp h) : p.1 ∈ fp ∧ h.get? p.1 = some p.2 := by
  obtain ⟨b, hb, e⟩ := List.mem_filterMap.mp hp
  cases q : h.get? b with
  | none => rw [q] at e; cases e
  | some o =>
    rw [q] at e
    have e' : (b, o) = p := Option.some.inj e
    subst e'
    exact ⟨hb, q⟩
theorem Inv.pinned {pins : List (Addr × Obj)} {σ : St} {H : Hp} {s : Shared} {fp : List Addr} (I : Inv X pins σ H s) (hf : ∀ b ∈ fp, FpOk X pins H b) (ho : ∀ b ∈ fp, ∃ o, s.heap.get? b = some o ∧ ∀ v, o.data ≠ .cell v) : Inv X (pins ++ pinsAt fp s.heap) σ H s :=
  I.pins_of fun p hp => (List.mem_append.mp hp).elim (fun z => I.pin p (List.mem_append_right _ z)) fun z => by
    obtain ⟨hb, e⟩ := of_pinsAt z
    obtain ⟨f0, f1, f2, _⟩ := hf p.1 hb
    obtain ⟨o, e', d⟩ := ho p.1 hb
    rw [e] at e'; cases e'
    exact ⟨e, f0, f1, f2, d⟩
theorem Inv.unpinned {pins pl : List (Addr × Obj)} {σ : St} {H : Hp} {s : Shared} (I : Inv X (pins ++ pl) σ H s) : Inv X pins σ H s := I.pins_of fun p hp => I.pin p (List.mem_append_right _ (List.mem_append_left _ hp))
theorem ps_for {iter : Expr} {body : List Stmt} {wi : TI} {g : TG} {tb : TS} {pos : Pos} (hp : PassesOwn (model X.prog X.w) X.A X.env X.xe) (hc : X.calm = true) (hi : PI X tg iter wi) (hg : PG X tg g) (hb : PSs X body tb)
    (hs : ∀ x, foldedSetIterable iter X.env x = pure x := by intro _; rfl) : PS X (.For tg iter body [] pos) (tFor wi g tb) := by
  intro pins s σ H D I h
  refine wpAny_For (thn (hi pins s σ H _ I h) fun v s1 h1 => thn h1 fun itv s2 h2 => ?_) hs
  obtain ⟨it, fp, tn, J, H2, e, I2, T, st2, f2, W, ⟨m0, w0⟩, turn⟩ := h2
  subst e
  -- what stays true of the iterator's objects through the loop
  have stat : ∀ {H' : Hp}, (∀ b ∈ fp, H' b = none) → ∀ b ∈ fp, FpOk X pins H' b := fun hn b hb => ⟨hn b hb, (f2 b hb).2⟩
  refine codeAny_forLoop_any (fun n s' => ∃ i σ' H', Inv X pins σ' H' s' ∧ tn i s'.heap ∧ (∀ b ∈ fp, H' b = none) ∧ W i n σ' H') ?_ m0 ⟨0, σ, H2, I2, st2, fun b hb => (f2 b hb).1, w0⟩
  rintro n s3 ⟨i, σ3, H3, I3, st3, fr3, w3⟩
  rcases turn i n σ3 H3 w3 with ⟨stop, qn⟩ | ⟨go, N, hN, step⟩
  · refine wpAny_passesOwn hp (thn (T.done X rfl rfl rfl hc i pins s3 σ3 H3 X.xe I3 (stat fr3) st3 stop) fun r s4 hpat => ?_)
    obtain ⟨hr, I4⟩ := hpat
    subst hr
    exact wpAny_execs_nil ⟨σ3, H3, I4, qn⟩
  · refine wpAny_passesOwn hp (thn (T.item X rfl rfl rfl hc i pins s3 σ3 H3 X.xe I3 (stat fr3) st3 go) fun r s4 hpat => ?_)
    obtain ⟨u, hr, h4⟩ := hpat
    subst hr
    refine wpAny_passesOwn hp (thn h4 fun _ s5 hpat => ?_)
    obtain ⟨x, H5, I5, r5, y5, st5, fr5⟩ := hpat
    have I5' := I5.pinned (stat fr5) (T.obj _ _ st5)
    refine wpAny_passesOwn hp (thn (hg _ s5 σ3 H5 x u _ I5' r5 (step x H5 y5)) fun _ s6 hpat => ?_)
    obtain ⟨σ6, H6, I6, q6⟩ := hpat
    refine wpAny_passesOwn hp (thn (hb _ s6 σ6 H6 _ I6 q6) fun f s7 q7 => ?_)
    have again : ∀ {σ7 : St} {H7 : Hp}, Inv X (pins ++ pinsAt fp s5.heap) σ7 H7 s7 → N σ7 H7 → ∃ m, m < n ∧ ∃ i σ' H', Inv X pins σ' H' s7 ∧ tn i s7.heap ∧ (∀ b ∈ fp, H' b = none) ∧ W i m σ' H' := fun {σ7 H7} I7 n7 => by
      obtain ⟨m', hm, w7⟩ := hN σ7 H7 n7
      refine ⟨m', hm, i + 1, σ7, H7, I7.unpinned, T.keep _ _ _ st5 fun b hb o e => (I7.pin (b, o) (List.mem_append_right _ (List.mem_append_right _ (mem_pinsAt hb e)))).1, fun b hb => ?_, w7⟩
      obtain ⟨o, e, d⟩ := T.obj _ _ st5 b hb
      exact (I7.pin (b, o) (List.mem_append_right _ (List.mem_append_right _ (mem_pinsAt hb e)))).2.1
    cases f with
    | next => obtain ⟨σ7, H7, I7, n7⟩ := q7; exact again I7 n7
    | cont => obtain ⟨σ7, H7, I7, n7⟩ := q7; exact again I7 n7
    | brk => obtain ⟨σ7, H7, I7, q7⟩ := q7; exact ⟨σ7, H7, I7.unpinned, q7⟩
    | ret v => obtain ⟨x7, σ7, H7, I7, r7, q7⟩ := q7; exact ⟨x7, σ7, H7, I7.unpinned, r7, q7⟩
end

theorem for_list {K : PySem.W.Frag} {a : Addr} {xs : List V} {g : TG} {tb : TS} {D : Ends} {σ : St} {H : Hp} (Pv : Nat → St → Hp → Prop) (h0 : Pv 0 σ H) (hl : ∀ i σ H, i ≤ xs.length → Pv i σ H → SqL K H a xs)
    (hs : ∀ i x σ H, xs[i]? = some x → Pv i σ H → g x σ H fun σ2 H2 => tb { D with nx := Pv (i + 1), ct := Pv (i + 1), bk := D.nx } σ2 H2) (hd : ∀ σ H, Pv xs.length σ H → D.nx σ H) :
    ∃ W : Nat → Nat → St → Hp → Prop, (∃ m, W 0 m σ H) ∧ ∀ i m σ H, W i m σ H →
      ((Itl K a).stop i H ∧ D.nx σ H) ∨ ((Itl K a).go i H ∧ ∃ N : St → Hp → Prop, (∀ σ' H', N σ' H' → ∃ m', m' < m ∧ W (i + 1) m' σ' H') ∧ ∀ x H', (Itl K a).yld i H x H' → g x σ H' fun σ2 H2 => tb { D with nx := N, ct := N, bk := D.nx } σ2 H2) := by
  refine ⟨fun i m σ H => m = xs.length - i ∧ i ≤ xs.length ∧ Pv i σ H, ⟨xs.length, by simp, Nat.zero_le _, h0⟩, ?_⟩
  rintro i m σ H ⟨rfl, hi, p⟩
  have q := hl i σ H hi p
  by_cases hlt : i < xs.length
  · refine .inr ⟨⟨xs, xs[i], q, by simp [hlt]⟩, Pv (i + 1), fun σ' H' p' => ⟨xs.length - (i + 1), by omega, rfl, hlt, p'⟩, fun x H' y => ?_⟩
    obtain ⟨e, y⟩ := y
    subst e
    exact hs i x σ _ (y xs q) p
  · have e : i = xs.length := by omega
    subst e
    exact .inl ⟨⟨xs, q, Nat.le_refl _⟩, hd σ H p⟩
theorem for_tup {K : PySem.W.Frag} {a : Addr} {xs : List V} {g : TG} {tb : TS} {D : Ends} {σ : St} {H : Hp} (Pv : Nat → St → Hp → Prop) (h0 : Pv 0 σ H) (hl : ∀ i σ H, i ≤ xs.length → Pv i σ H → SqT K H a xs)
    (hs : ∀ i x σ H, xs[i]? = some x → Pv i σ H → g x σ H fun σ2 H2 => tb { D with nx := Pv (i + 1), ct := Pv (i + 1), bk := D.nx } σ2 H2) (hd : ∀ σ H, Pv xs.length σ H → D.nx σ H) :
    ∃ W : Nat → Nat → St → Hp → Prop, (∃ m, W 0 m σ H) ∧ ∀ i m σ H, W i m σ H →
      ((Itt K a).stop i H ∧ D.nx σ H) ∨ ((Itt K a).go i H ∧ ∃ N : St → Hp → Prop, (∀ σ' H', N σ' H' → ∃ m', m' < m ∧ W (i + 1) m' σ' H') ∧ ∀ x H', (Itt K a).yld i H x H' → g x σ H' fun σ2 H2 => tb { D with nx := N, ct := N, bk := D.nx } σ2 H2) := by
  refine ⟨fun i m σ H => m = xs.length - i ∧ i ≤ xs.length ∧ Pv i σ H, ⟨xs.length, by simp, Nat.zero_le _, h0⟩, ?_⟩
  rintro i m σ H ⟨rfl, hi, p⟩
  have q := hl i σ H hi p
  by_cases hlt : i < xs.length
  · refine .inr ⟨⟨xs, xs[i], q, by simp [hlt]⟩, Pv (i + 1), fun σ' H' p' => ⟨xs.length - (i + 1), by omega, rfl, hlt, p'⟩, fun x H' y => ?_⟩
    obtain ⟨e, y⟩ := y
    subst e
    exact hs i x σ _ (y xs q) p
  · have e : i = xs.length := by omega
    subst e
    exact .inl ⟨⟨xs, q, Nat.le_refl _⟩, hd σ H p⟩
theorem for_range {lo : Int} {n : Nat} {g : TG} {tb : TS} {D : Ends} {σ : St} {H : Hp} (Pv : Nat → St → Hp → Prop) (h0 : Pv 0 σ H)
    (hs : ∀ i σ H, i < n → Pv i σ H → g (.int (lo + i)) σ H fun σ2 H2 => tb { D with nx := Pv (i + 1), ct := Pv (i + 1), bk := D.nx } σ2 H2) (hd : ∀ σ H, Pv n σ H → D.nx σ H) :
    ∃ W : Nat → Nat → St → Hp → Prop, (∃ m, W 0 m σ H) ∧ ∀ i m σ H, W i m σ H →
      ((Itr lo n).stop i H ∧ D.nx σ H) ∨ ((Itr lo n).go i H ∧ ∃ N : St → Hp → Prop, (∀ σ' H', N σ' H' → ∃ m', m' < m ∧ W (i + 1) m' σ' H') ∧ ∀ x H', (Itr lo n).yld i H x H' → g x σ H' fun σ2 H2 => tb { D with nx := N, ct := N, bk := D.nx } σ2 H2) := by
  refine ⟨fun i m σ H => m = n - i ∧ i ≤ n ∧ Pv i σ H, ⟨n, by simp, Nat.zero_le _, h0⟩, ?_⟩
  rintro i m σ H ⟨rfl, hi, p⟩
  by_cases hlt : i < n
  · refine .inr ⟨hlt, Pv (i + 1), fun σ' H' p' => ⟨n - (i + 1), by omega, rfl, hlt, p'⟩, fun x H' y => ?_⟩
    obtain ⟨e, y⟩ := y
    subst e y
    exact hs i σ _ hlt p
  · have e : i = n := by omega
    subst e
    exact .inl ⟨Nat.le_refl _, hd σ H p⟩
end L2

namespace L2
open PySem PySem.Spec PyProof.Rows

noncomputable abbrev R2 := V → V → Hp → VK → Prop
noncomputable def OpR (X : Cx) (f : Value → Value → Sem Value) (r : R2) : Prop :=
  ∀ (pins : List (Addr × Obj)) (s : Shared) (σ : St) (H : Hp) (x y : V) (v u : Value) (Q : VK), Inv X pins σ H s → RelV x v → RelV y u → r x y H Q →
    wpAny (model X.prog X.w) X.A (f v u) (EP X pins σ Q) X.xe s
noncomputable def UnR (X : Cx) (f : Value → Sem Value) (r : V → Hp → VK → Prop) : Prop :=
  ∀ (pins : List (Addr × Obj)) (s : Shared) (σ : St) (H : Hp) (x : V) (v : Value) (Q : VK), Inv X pins σ H s → RelV x v → r x H Q →
    wpAny (model X.prog X.w) X.A (f v) (EP X pins σ Q) X.xe s
noncomputable def CallR (X : Cx) (f : Value) (r : List V → Hp → VK → Prop) : Prop :=
  ∀ (pins : List (Addr × Obj)) (s : Shared) (σ : St) (H : Hp) (xs : List V) (us : List Value) (Q : VK), Inv X pins σ H s → Vals xs us → r xs H Q →
    wpAny (model X.prog X.w) X.A (call f us) (EP X pins σ Q) X.xe s
noncomputable def TruR (X : Cx) (r : V → Hp → (Bool → Hp → Prop) → Prop) : Prop :=
  ∀ (pins : List (Addr × Obj)) (s : Shared) (σ : St) (H : Hp) (x : V) (v : Value) (Q : Bool → Hp → Prop), Inv X pins σ H s → RelV x v → r x H Q →
    wpAny (model X.prog X.w) X.A (truthy v) (TP X pins σ Q) X.xe s

noncomputable def tOp (r : R2) (ta tb : TE) : TE := fun σ H Q => ta σ H fun x H1 => tb σ H1 fun y H2 => r x y H2 Q
noncomputable def tUn (r : V → Hp → VK → Prop) (ta : TE) : TE := fun σ H Q => ta σ H fun x H1 => r x H1 Q
noncomputable def rI (C : Int → Int → Prop) (g : Int → Int → V) : R2 := fun x y H Q => ExQ Q (fun i Q => ExQ Q (fun j Q => x = .int i ∧ y = .int j ∧ C i j ∧ Q (g i j) H))
noncomputable def rI0 (g : Int → Int → V) : R2 := fun x y H Q => ExQ Q (fun i Q => ExQ Q (fun j Q => x = .int i ∧ y = .int j ∧ Q (g i j) H))
noncomputable def rU (g : Int → V) : V → Hp → VK → Prop := fun x H Q => ExQ Q (fun i Q => x = .int i ∧ Q (g i) H)

section
variable {X : Cx} {a b c : Expr} {ta tb tc : TE} {pos : Pos}

theorem binT (ha : PE X a ta) (hb : PE X b tb) {pins : List (Addr × Obj)} {s : Shared} {σ : St} {H : Hp} {R : V → V → Hp → Prop} (I : Inv X pins σ H s)
    (h : ta σ H fun x H1 => tb σ H1 fun y H2 => R x y H2) {Q : Value → Shared → Prop} {f : Value → Value → Sem Value}
    (hf : ∀ v u s2 x y H2, Inv X pins σ H2 s2 → RelV x v → RelV y u → R x y H2 → wpAny (model X.prog X.w) X.A (f v u) Q X.xe s2) :
    wpAny (model X.prog X.w) X.A (eval a X.env) (fun v s₁ => wpAny (model X.prog X.w) X.A (eval b X.env) (fun u s₂ => wpAny (model X.prog X.w) X.A (f v u) Q X.xe s₂) X.xe s₁) X.xe s := by
  refine thn (ha pins s σ H _ I h) fun v s1 hpat => ?_
  obtain ⟨x, H1, I1, r1, q1⟩ := hpat
  refine thn (hb pins s1 σ H1 _ I1 q1) fun u s2 hpat => ?_
  obtain ⟨y, H2, I2, r2, q2⟩ := hpat
  exact hf v u s2 x y H2 I2 r1 r2 q2

theorem pe_op {op : Operator} {r : R2} (ho : OpR X (binaryOp op) r) (ha : PE X a ta) (hb : PE X b tb) : PE X (.BinOp a op b pos) (tOp r ta tb) := by
  intro pins s σ H Q I h
  exact wpAny_BinOp (binT ha hb I h fun v u s2 x y H2 I2 rx ry q => ho pins s2 σ H2 x y v u Q I2 rx ry q)
theorem pe_un {op : UnaryOp} {r : V → Hp → VK → Prop} (ho : UnR X (unaryOp op) r) (ha : PE X a ta) : PE X (.UnaryOp op a pos) (tUn r ta) := by
  intro pins s σ H Q I h
  exact UnaryOp_ (thn (ha pins s σ H _ I h) fun v s1 hp2 => by obtain ⟨x, H1, I1, r1, q1⟩ := hp2; exact ho pins s1 σ H1 x v Q I1 r1 q1)
theorem opI {f : Value → Value → Sem Value} {C : Int → Int → Prop} {g : Int → Int → Int}
    (rule : ∀ (i j : Int) (t u : Tok) (s : Shared) (Q : Value → Shared → Prop) (E : Value → Shared → Prop), C i j → Q (.int (g i j) s.toks) { s with toks := s.toks + 1 } → wpAny (model X.prog X.w) X.A (f (.int i t) (.int j u)) Q E s) :
    OpR X f (rI C fun i j => .int (g i j)) := by
  intro pins s σ H x y v u Q I rx ry h
  obtain ⟨i, j, rfl, rfl, hc, q⟩ := h
  obtain ⟨t, rfl⟩ := rx
  obtain ⟨t', rfl⟩ := ry
  exact rule i j t t' s _ _ hc ⟨.int (g i j), H, I.tok _, ⟨_, rfl⟩, q⟩
theorem opI0 {f : Value → Value → Sem Value} {g : Int → Int → Int}
    (rule : ∀ (i j : Int) (t u : Tok) (s : Shared) (Q : Value → Shared → Prop) (E : Value → Shared → Prop), Q (.int (g i j) s.toks) { s with toks := s.toks + 1 } → wpAny (model X.prog X.w) X.A (f (.int i t) (.int j u)) Q E s) :
    OpR X f (rI0 fun i j => .int (g i j)) := by
  intro pins s σ H x y v u Q I rx ry h
  obtain ⟨i, j, rfl, rfl, q⟩ := h
  obtain ⟨t, rfl⟩ := rx
  obtain ⟨t', rfl⟩ := ry
  exact rule i j t t' s _ _ ⟨.int (g i j), H, I.tok _, ⟨_, rfl⟩, q⟩
theorem opB0 {f : Value → Value → Sem Value} {g : Int → Int → Bool}
    (rule : ∀ (i j : Int) (t u : Tok) (s : Shared) (Q : Value → Shared → Prop) (E : Value → Shared → Prop), Q (.bool (g i j)) s → wpAny (model X.prog X.w) X.A (f (.int i t) (.int j u)) Q E s) :
    OpR X f (rI0 fun i j => .bl (g i j)) := by
  intro pins s σ H x y v u Q I rx ry h
  obtain ⟨i, j, rfl, rfl, q⟩ := h
  obtain ⟨t, rfl⟩ := rx
  obtain ⟨t', rfl⟩ := ry
  exact rule i j t t' s _ _ ⟨.bl (g i j), H, I, rfl, q⟩

noncomputable def CDiv (i j : Int) : Prop := 0 < j ∧ j < 1073741824
noncomputable def CPow (i j : Int) : Prop := 0 ≤ j ∧ j ≤ 1000000 ∧ i.natAbs < 2 ^ 64
noncomputable def CMul (i j : Int) : Prop := (-(2 ^ 64) < i ∧ i < 2 ^ 64) ∨ (-(2 ^ 64) < j ∧ j < 2 ^ 64)
theorem CMul.ok {i j : Int} (h : CMul i j) : IntMulOk i j := by
  rcases h with ⟨h1, h2⟩ | ⟨h1, h2⟩
  · exact .of_left (intBits_le_64 h1 h2)
  · exact .of_right (intBits_le_64 h1 h2)
theorem two_pow_nn (k : Nat) : (0 : Int) ≤ 2 ^ k := by
  rw [two_pow_cast]
  exact Int.natCast_nonneg _

theorem op_add : OpR X (binaryOp .Add) (rI0 fun i j => .int (i + j)) := opI0 fun _ _ _ _ _ _ _ q => add_int q
theorem op_sub : OpR X (binaryOp .Sub) (rI0 fun i j => .int (i - j)) := opI0 fun _ _ _ _ _ _ _ q => sub_int q
theorem op_mul : OpR X (binaryOp .Mult) (rI CMul fun i j => .int (i * j)) := opI fun _ _ _ _ _ _ _ hc q => mul_int q hc.ok
theorem op_fdiv : OpR X (binaryOp .FloorDiv) (rI CDiv fun i j => .int (i / j)) := opI fun i j _ _ _ _ _ hc q => by
  have h1 : (0 : Int) < j := hc.1
  have h2 : j < 1073741824 := hc.2
  exact floordiv_int (by omega) (by rw [Int.fdiv_eq_ediv_of_nonneg i (by omega)]; exact q) (.inl (PyProof.noPylong_small (by omega)))
theorem op_mod : OpR X (binaryOp .Mod) (rI (fun _ j => 0 < j) fun i j => .int (i % j)) := opI fun i j _ _ _ _ _ hc q => by
  have h1 : (0 : Int) < j := hc
  exact mod_int' (by omega) (by rw [Int.fmod_eq_emod_of_nonneg i (by omega)]; exact q)
theorem op_pow : OpR X (binaryOp .Pow) (rI CPow fun i j => .int (i ^ j.toNat)) := opI fun _ _ _ _ _ _ _ hc q => pow_int_small hc.1 hc.2.1 hc.2.2 q
theorem op_shr : OpR X (binaryOp .RShift) (rI (fun _ j => 0 ≤ j) fun i j => .int (i / 2 ^ j.toNat)) := opI fun i j _ _ _ _ _ hc q =>
  rshift_int hc (by rw [Int.fdiv_eq_ediv_of_nonneg i (two_pow_nn _)]; exact q)
theorem iop_add : OpR X (inplaceOp .Add) (rI0 fun i j => .int (i + j)) := opI0 fun _ _ _ _ _ _ _ q => iadd_int q
theorem unI {f : Value → Sem Value} {g : Int → Int}
    (rule : ∀ (i : Int) (t : Tok) (s : Shared) (Q : Value → Shared → Prop) (E : Value → Shared → Prop), Q (.int (g i) s.toks) { s with toks := s.toks + 1 } → wpAny (model X.prog X.w) X.A (f (.int i t)) Q E s) :
    UnR X f (rU fun i => .int (g i)) := by
  intro pins s σ H x v Q I rx h
  obtain ⟨i, rfl, q⟩ := h
  obtain ⟨t, rfl⟩ := rx
  exact rule i t s _ _ ⟨.int (g i), H, I.tok _, ⟨_, rfl⟩, q⟩
theorem un_neg : UnR X (unaryOp .USub) (rU fun i => .int (-i)) := unI fun _ _ _ _ _ q => neg_int q
end

noncomputable def scal : V → V → Bool
  | .non, .non => true | .non, .int _ => true | .int _, .non => true | .non, .bl _ => true | .bl _, .non => true | .non, .str _ => true | .str _, .non => true
  | .int _, .int _ => true | .bl _, .bl _ => true | .str _, .str _ => true | .byt _, .byt _ => true
  | .int _, .str _ => true | .str _, .int _ => true | .bl _, .str _ => true | .str _, .bl _ => true
  | _, _ => false
noncomputable def rEq : R2 := fun x y H Q => scal x y = true ∧ Q (.bl (decide (x = y))) H
theorem dec_int {i j : Int} : decide (V.int i = V.int j) = (i == j) := by
  rw [Bool.eq_iff_iff]
  simp
theorem dec_bl {i j : Bool} : decide (V.bl i = V.bl j) = (i == j) := by
  rw [Bool.eq_iff_iff]
  simp
theorem dec_str {i j : Str} : decide (V.str i = V.str j) = (i == j) := by
  rw [Bool.eq_iff_iff]
  simp
theorem dec_byt {i j : Array UInt8} : decide (V.byt i = V.byt j) = (i.toList == j.toList) := by
  rw [Bool.eq_iff_iff]
  cases i
  cases j
  simp

section
variable {X : Cx} {a b c : Expr} {ta tb tc : TE} {pos : Pos}
theorem fin_bl {pins : List (Addr × Obj)} {σ : St} {H : Hp} {s : Shared} {Q : VK} {k k' : Bool} (I : Inv X pins σ H s) (q : Q (.bl k) H) (e : k = k') : EP X pins σ Q (.bool k') s := by
  subst e
  exact ⟨.bl k, H, I, rfl, q⟩
theorem op_eq : OpR X (compareOp .Eq) rEq := by
  intro pins s σ H x y v u Q I rx ry h
  obtain ⟨hs, q⟩ := h
  cases x with
  | non =>
    cases rx
    cases y with
    | non => cases ry; exact PySem.EqNone.eq_none_none (fin_bl I q (by simp))
    | bl j => cases ry; exact PySem.EqNone.eq_none_bool (fin_bl I q (by simp))
    | int j => obtain ⟨t', rfl⟩ := ry; exact PySem.EqNone.eq_none_int (fin_bl I q (by simp))
    | str j => obtain ⟨t', rfl⟩ := ry; exact PySem.EqNone.eq_none_str (fin_bl I q (by simp))
    | _ => exact absurd (show false = true from hs) Bool.false_ne_true
  | bl i =>
    cases rx
    cases y with
    | non => cases ry; exact PySem.EqNone.eq_bool_none (fin_bl I q (by simp))
    | bl j => cases ry; exact eq_bool (fin_bl I q dec_bl)
    | str j => obtain ⟨t', rfl⟩ := ry; exact PySem.EqMixed.eq_bool_str (fin_bl I q (by simp))
    | _ => exact absurd (show false = true from hs) Bool.false_ne_true
  | int i =>
    obtain ⟨t, rfl⟩ := rx
    cases y with
    | non => cases ry; exact PySem.EqNone.eq_int_none (fin_bl I q (by simp))
    | int j => obtain ⟨t', rfl⟩ := ry; exact eq_int (fin_bl I q dec_int)
    | str j => obtain ⟨t', rfl⟩ := ry; exact PySem.EqMixed.eq_int_str (fin_bl I q (by simp))
    | _ => exact absurd (show false = true from hs) Bool.false_ne_true
  | str i =>
    obtain ⟨t, rfl⟩ := rx
    cases y with
    | non => cases ry; exact PySem.EqNone.eq_str_none (fin_bl I q (by simp))
    | bl j => cases ry; exact PySem.EqMixed.eq_str_bool (fin_bl I q (by simp))
    | int j => obtain ⟨t', rfl⟩ := ry; exact PySem.EqMixed.eq_str_int (fin_bl I q (by simp))
    | str j => obtain ⟨t', rfl⟩ := ry; exact eq_str (fin_bl I q dec_str)
    | _ => exact absurd (show false = true from hs) Bool.false_ne_true
  | byt i =>
    obtain ⟨t, rfl⟩ := rx
    cases y with
    | byt j => obtain ⟨t', rfl⟩ := ry; exact PySem.W.eq_bytes (fin_bl I q dec_byt)
    | _ => exact absurd (show false = true from hs) Bool.false_ne_true
  | _ => cases y <;> exact absurd (show false = true from hs) Bool.false_ne_true
theorem op_lt : OpR X (compareOp .Lt) (rI0 fun i j => .bl (decide (i < j))) := opB0 fun _ _ _ _ _ _ _ q => lt_int q
theorem op_le : OpR X (compareOp .LtE) (rI0 fun i j => .bl (decide (i ≤ j))) := opB0 fun _ _ _ _ _ _ _ q => le_int q
theorem op_gt : OpR X (compareOp .Gt) (rI0 fun i j => .bl (decide (j < i))) := opB0 fun _ _ _ _ _ _ _ q => gt_int q
theorem op_ge : OpR X (compareOp .GtE) (rI0 fun i j => .bl (decide (j ≤ i))) := opB0 fun _ _ _ _ _ _ _ q => ge_int q
theorem op_isN : OpR X (compareOp .Is) (fun x y H Q => y = .non ∧ Q (.bl (decide (x = .non))) H) := by
  intro pins s σ H x y v u Q I rx ry h
  obtain ⟨rfl, q⟩ := h
  cases ry
  refine is_none_gen (fin_bl I q ?_)
  cases x <;> first
    | (cases rx; rfl)
    | (obtain ⟨t, rfl⟩ := rx; rfl)
theorem op_notN : OpR X (compareOp .IsNot) (fun x y H Q => y = .non ∧ Q (.bl (!decide (x = .non))) H) := by
  intro pins s σ H x y v u Q I rx ry h
  obtain ⟨rfl, q⟩ := h
  cases ry
  refine isnot_none_gen (fin_bl I q ?_)
  cases x <;> first
    | (cases rx; rfl)
    | (obtain ⟨t, rfl⟩ := rx; rfl)

theorem OpR.or {f : Value → Value → Sem Value} {r r' : R2} (h : OpR X f r) (h' : OpR X f r') : OpR X f (fun x y H Q => r x y H Q ∨ r' x y H Q) := by
  intro pins s σ H x y v u Q I rx ry q
  rcases q with q | q
  · exact h pins s σ H x y v u Q I rx ry q
  · exact h' pins s σ H x y v u Q I rx ry q

theorem nomark (b : Expr) {op : CmpOp} (h : op ≠ .In := by decide) (h2 : op ≠ .NotIn := by decide) : behindInMarks op b = false := by
  have e1 : (op == CmpOp.In) = false := by cases op <;> first | rfl | exact absurd rfl h
  have e2 : (op == CmpOp.NotIn) = false := by cases op <;> first | rfl | exact absurd rfl h2
  cases b <;> simp [behindInMarks, e1, e2]
theorem pe_cmpR {op : CmpOp} {r : R2} (ho : OpR X (compareOp op) r) (ha : PE X a ta) (hb : PE X b tb) (hm : behindInMarks op b = false) : PE X (.Compare a [op] [b] pos) (tOp r ta tb) := by
  intro pins s σ H Q I h
  exact wpAny_Compare1 (binT ha hb I h fun v u s2 x y H2 I2 rx ry q => ho pins s2 σ H2 x y v u Q I2 rx ry q) hm
noncomputable def tTest (t : TE) : TT := fun σ H Q => t σ H fun x H' => ExQ Q (fun k Q => x = .bl k ∧ Q k H')
theorem pt_cmpR {op : CmpOp} {r : R2} (ho : OpR X (compareOp op) r) (ha : PE X a ta) (hb : PE X b tb) (hm : behindInMarks op b = false) : PT X (.Compare a [op] [b] pos) (tTest (tOp r ta tb)) := by
  intro pins s σ H Q I h
  refine wpAny_isTrue_Compare1 (thn (ha pins s σ H _ I h) fun v s1 hpat => ?_) hm
  obtain ⟨x, H1, I1, r1, q1⟩ := hpat
  refine thn (hb pins s1 σ H1 _ I1 q1) fun u s2 hpat => ?_
  obtain ⟨y, H2, I2, r2, q2⟩ := hpat
  refine thn (ho pins s2 σ H2 x y v u _ I2 r1 r2 q2) fun c s3 hpat => ?_
  obtain ⟨z, H3, I3, r3, k, e, q3⟩ := hpat
  subst e
  cases r3
  exact wpAny_truthy_bool ⟨H3, I3, q3⟩
noncomputable def TruV (K : PySem.W.Frag) (x : V) (H : Hp) (k : Bool) : Prop :=
  match x with
  | .non => k = false
  | .bl b => k = b
  | .int i => k = (i != 0)
  | .str y => y.length ≤ sizeLine ∧ k = ((y.length : Int) != 0)
  | .byt y => y.size ≤ sizeLine ∧ k = ((y.size : Int) != 0)
  | .ref p => (∃ xs, SqL K H p xs ∧ k = !xs.isEmpty) ∨ (∃ xs, SqT K H p xs ∧ k = !xs.isEmpty) ∨ ∃ kvs, H p = some (.dK kvs) ∧ k = !kvs.isEmpty
  | _ => False
theorem isEmpty_kv {κ : Type} {kvs : List (κ × V)} {vs : List (κ × Value)} (r : KV kvs vs) : (!vs.isEmpty) = !kvs.isEmpty := by
  cases r <;> rfl
theorem isEmpty_of {xs : List V} {its : List Value} (r : Vals xs its) : (!its.toArray.isEmpty) = !xs.isEmpty := by
  cases r <;> simp
theorem line63 : (sizeLine : Nat) < 2 ^ 63 := by rw [sizeLine_eq]; decide
theorem tru_ok : TruR X (fun x H Q => ∃ k, TruV X.K x H k ∧ Q k H) := by
  intro pins s σ H x v Q I rx h
  obtain ⟨k, e, q⟩ := h
  have hl := line63
  have hs : sizeLine = 16777216 := sizeLine_eq
  cases x with
  | non =>
    cases rx
    have e' : k = false := e
    subst e'
    exact truthy_none ⟨H, I, q⟩
  | bl b =>
    cases rx
    have e' : k = b := e
    subst e'
    exact wpAny_truthy_bool ⟨H, I, q⟩
  | int i =>
    obtain ⟨t, rfl⟩ := rx
    have e' : k = (i != 0) := e
    subst e'
    exact PySem.P.truthy_int ⟨H, I, q⟩
  | str y =>
    obtain ⟨t, rfl⟩ := rx
    obtain ⟨hy, e'⟩ : y.length ≤ sizeLine ∧ k = ((y.length : Int) != 0) := e
    subst e'
    exact PySem.P.truthy_str (by omega) ⟨H, I.tok _, q⟩
  | byt y =>
    obtain ⟨t, rfl⟩ := rx
    obtain ⟨hy, e'⟩ : y.size ≤ sizeLine ∧ k = ((y.size : Int) != 0) := e
    subst e'
    exact PySem.W.truthy_bytes (by omega) ⟨H, I.tok _, q⟩
  | ref p =>
    cases rx
    have e' : (∃ xs, SqL X.K H p xs ∧ k = !xs.isEmpty) ∨ (∃ xs, SqT X.K H p xs ∧ k = !xs.isEmpty) ∨ ∃ kvs, H p = some (.dK kvs) ∧ k = !kvs.isEmpty := e
    rcases e' with ⟨xs, hx, e'⟩ | ⟨xs, hx, e'⟩ | ⟨kvs, hx, e'⟩
    · subst e'
      obtain ⟨its, r, pl, hz⟩ := I.list hx
      have hlen := r.length
      exact wpAny_truthy_list pl.isList (by simp only [List.size_toArray]; omega) ⟨H, I.tok _, by rw [isEmpty_of r]; exact q⟩
    · subst e'
      obtain ⟨its, r, pl, hz⟩ := I.tuple hx
      have hlen := r.length
      exact truthy_tuple pl (by simp only [List.size_toArray]; omega) ⟨H, I.tok _, by rw [isEmpty_of r]; exact q⟩
    · subst e'
      obtain ⟨hz, hS, vs, r, m⟩ : kvs.length ≤ sizeLine ∧ (p == sysModules) = false ∧ ∃ vs, KV kvs vs ∧ s.heap.DictOf (mixKind X.prog X.w) p vs := I.hok p _ hx
      have hlen : kvs.length = vs.length := Paired.length r
      exact wpAny_truthy_dict hS m (by omega) ⟨H, I.tok _, by rw [isEmpty_kv r]; exact q⟩
  | _ => exact (show False from e).elim
theorem pt_truth (ha : PE X a ta) (he : ∀ whole, isTrue a X.env whole = (do let v ← whole; standAt a.pos; holding [v] (truthy v))) :
    PT X a (fun σ H Q => ta σ H fun x H' => ∃ k, TruV X.K x H' k ∧ Q k H') := by
  intro pins s σ H Q I h
  exact isTrue_plain (thn (ha pins s σ H _ I h) fun v s1 hp2 => by obtain ⟨x, H1, I1, r1, q1⟩ := hp2; exact tru_ok pins s1 σ H1 x v Q I1 r1 q1) (he _)

theorem vals1 {x : V} {us : List Value} (r : Vals [x] us) : ∃ u, us = [u] ∧ RelV x u := by
  cases r with
  | cons r1 r2 => cases r2; exact ⟨_, rfl, r1⟩
theorem call_int1 : CallR X (.type "int") (fun xs H Q => (∃ i, xs = [.int i] ∧ Q (.int i) H) ∨ ∃ k, xs = [.bl k] ∧ Q (.int (if k then 1 else 0)) H) := by
  intro pins s σ H xs us Q I r h
  rcases h with ⟨i, rfl, q⟩ | ⟨k, rfl, q⟩
  · obtain ⟨u, rfl, t, rfl⟩ := vals1 r
    exact call_int_int ⟨.int i, H, I, ⟨_, rfl⟩, q⟩
  · obtain ⟨u, rfl, r1⟩ := vals1 r
    cases r1
    exact call_int_bool ⟨.int (if k then 1 else 0), H, I.tok _, ⟨_, rfl⟩, q⟩
end
end L2

namespace L2
open PySem PySem.Spec PyProof.Rows

structure ObjM (h : Heap) (x dx C : Addr) (mA : Str → Option Value) : Prop where
  obj : h.get? x = some (PySem.W.instObj C dx)
  ns : h.Ns1 dx mA
  ne : dx ≠ x

theorem lookIn_ns {h : Heap} {dx : Addr} {mA : Str → Option Value} (n : h.Ns1 dx mA) : ∃ od, h.get? dx = some od ∧ ∀ name, PySem.W.lookIn name od = some (mA name) := by
  obtain ⟨o, es, ep, ho, hd, hk, _, hm⟩ := n
  refine ⟨o, ho, fun name => ?_⟩
  have e := hm name
  unfold nsFind findBy at e
  rw [← Array.find?_toList] at e
  unfold PySem.W.lookIn
  rw [hd]
  dsimp only
  split
  · rename_i y q
    rw [q] at e
    exact congrArg some e
  · rename_i q
    rw [q] at e
    have a : es.toList.any (·.refKey) = false := by
      rw [List.any_eq_false]
      intro y hy
      obtain ⟨z, t, hkey⟩ := hk y (Array.mem_toList_iff.mp hy)
      simp [DictEntry.refKey, hkey]
    have a' : ¬ es.toList.any (·.refKey) = true := by rw [a]; exact Bool.false_ne_true
    rw [if_neg a']
    exact congrArg some e

theorem ObjM.look {h : Heap} {x dx C : Addr} {mA : Str → Option Value} (I : ObjM h x dx C mA) : ∃ od, PySem.W.InstAt h x (PySem.W.instObj C dx) C (some od) ∧ ∀ name, PySem.W.lookIn name od = some (mA name) :=
  let ⟨od, ho, hl⟩ := lookIn_ns I.ns
  ⟨od, ⟨I.obj, rfl, rfl, ho⟩, hl⟩

section
variable {prog : Program} {w : World} {A : Around} {E : Value → Shared → Prop} {s : Shared} {K : PySem.W.Frag} {x dx C f : Addr} {mA : Str → Option Value} {name : Str} {v : Value}

theorem get_map {expr : Bool} {Q : Value → Shared → Prop} (X : K.In s.heap) (I : ObjM s.heap x dx C mA) (hg : PySem.W.plainGet K C name = true) (hh : PySem.W.hasDictIn K C = true)
    (ha : PySem.W.findIn K (.ref C) name = some none) (hv : mA name = some v) (hv' : PySem.W.handedIn v = true) (h : Q v { s with toks := s.toks + 1 }) :
    wpAny (model prog w) A (getAttr (.ref x) name expr) Q E s := by
  obtain ⟨od, J, hl⟩ := I.look
  exact PySem.W.get_value X J (PySem.W.plainGet_of hg).1 (PySem.W.findObj_own hh ha rfl (by rw [hl, hv])) hv' h

theorem get_meth {pl : Sem Bool} {Q : Value × List Value → Shared → Prop} (X : K.In s.heap) (I : ObjM s.heap x dx C mA) (hg : PySem.W.plainGet K C name = true)
    (hf : PySem.W.findIn K (.ref C) name = some (some (.ref f))) (ht : PySem.W.isFn K (.ref f) = true) (hv : mA name = none) (h : Q (.ref f, [.ref x]) s) :
    wpAny (model prog w) A (getMethod (.ref x) name pl) Q E s := by
  obtain ⟨od, J, hl⟩ := I.look
  exact PySem.W.method_fn X J (PySem.W.plainGet_of hg).1 (PySem.W.plainGet_of hg).2 hf (beq_iff_eq.mp ht) (by show (PySem.W.lookIn name od).map (·.isSome) = some false; rw [hl, hv]; rfl) h

theorem set_map {ns : List Str} {Q : Unit → Shared → Prop} (X : K.In s.heap) (I : ObjM s.heap x dx C mA)
    (hs : PySem.W.findIn K (.ref C) "__setattr__" = some (some (.builtin "object.__setattr__"))) (hp : PySem.W.plainOver K C = true) (ht : PySem.W.takerIn K C name = some none) (hh : PySem.W.hasDictIn K C = true)
    (hw : PySem.Within mA ns) (hsz : ns.length ≤ sizeLine)
    (h : ∀ h', ObjM h' x dx C (fun y => if y = name then some v else mA y) → Heap.SameBut dx s.heap h' → Q () { s with heap := h', toks := s.toks + 2 }) :
    wpAny (model prog w) A (setAttr (.ref x) name v) Q E s := by
  obtain ⟨od, J, hl⟩ := I.look
  refine PySem.W.set_plain X J hs (PySem.W.osa_open (s := { s with toks := s.toks + 1 }) (r := none) X J hp ht fun b => ?_)
  obtain ⟨cd, hc, hd'⟩ := PySem.W.any_some hh
  have hx : s.heap.get? x = some ⟨.ref C, some dx, .plain, #[]⟩ := I.obj
  refine wpAny_bind (wpAny_pure (wpAny_bind (wpAny_bind (wpAny_loadPart hx (wpAny_bind (PySem.W.Looks.here (s := { s with toks := s.toks + 1 }) (PySem.W.looks_clsIn X hc) ?_))))))
  rw [hd']
  refine wpAny_pure (a := some dx) (wpAny_bind (wpAny_pure (wpAny_bind ?_)))
  refine wpAny_nsSet1 (s := { s with toks := s.toks + 1 }) I.ns fun h' hn2 hs2 => ?_
  obtain ⟨oD, esD, epD, hoD, hdD, hcD⟩ := hn2.count (PySem.Within.cons name v hw)
  refine wpAny_bind (wpAny_lookBehind hoD (by rw [hdD]; exact pastItsLine_dict (Nat.le_trans hcD (by rw [List.length_cons]; omega))) ?_)
  exact wpAny_pure (h _ ⟨(hs2.2 _ (Ne.symm I.ne)).trans I.obj, hn2, I.ne⟩ hs2)

theorem make_map {R : Result → Shared → Prop} {vs : List Value} {kw : List (Str × Value)} (X : K.In s.heap) (hm : PySem.W.makesIn K C = true)
    (hi : PySem.W.findIn K (.ref C) "__init__" = some (some (.ref f))) (hf : PySem.W.typeIn K (.ref f) = some (.type "function"))
    (h : codeAny (model prog w) (A.under (.builtin "type.__call__" ⟨.ref C :: vs, kw⟩)) (.call (.ref f) ⟨.ref (s.heap.objs.size + 1) :: vs, kw⟩) (PySem.W.InitBack (s.heap.objs.size + 1) R)
      { s with heap := (s.heap.push PySem.W.emptyDict).push (PySem.W.instObj C s.heap.objs.size) }) :
    codeAny (model prog w) A (.call (.ref C) ⟨vs, kw⟩) R s := by
  obtain ⟨hh, g, d, t, os⟩ := s
  exact PySem.W.make_core (PySem.W.makes_of X hm) (PySem.W.looks_findIn X hi) (fun self => PySem.W.bind_fn X self hf) (.inl rfl) h
end

noncomputable def putF (f : Str) (v : V) : List (Str × V) → List (Str × V)
  | [] => [(f, v)]
  | (g, x) :: r => if g = f then (g, v) :: r else (g, x) :: putF f v r
theorem lookup_putF (f g : Str) (v : V) : ∀ fs : List (Str × V), (putF f v fs).lookup g = if g = f then some v else fs.lookup g
  | [] => by
    show List.lookup g [(f, v)] = _
    by_cases h : g = f
    · have hb : (g == f) = true := beq_iff_eq.mpr h
      simp only [List.lookup, hb, if_pos h]
    · have hb : (g == f) = false := beq_eq_false_iff_ne.mpr h
      simp only [List.lookup, hb, if_neg h]
  | (k, x) :: r => by
    have ih := lookup_putF f g v r
    rw [show putF f v ((k, x) :: r) = (if k = f then (k, v) :: r else (k, x) :: putF f v r) from rfl]
    by_cases hk : k = f
    · rw [if_pos hk]
      by_cases h : g = k
      · have hb : (g == k) = true := beq_iff_eq.mpr h
        simp only [List.lookup, hb, if_pos (h.trans hk)]
      · have hb : (g == k) = false := beq_eq_false_iff_ne.mpr h
        simp only [List.lookup, hb, if_neg (fun e : g = f => h (e.trans hk.symm))]
    · rw [if_neg hk]
      by_cases h : g = k
      · have hb : (g == k) = true := beq_iff_eq.mpr h
        simp only [List.lookup, hb, if_neg (fun e : g = f => hk (h.symm.trans e))]
      · have hb : (g == k) = false := beq_eq_false_iff_ne.mpr h
        simp only [List.lookup, hb]
        exact ih
theorem keys_putF (f : Str) (v : V) : ∀ fs : List (Str × V), f ∈ (putF f v fs).map (·.1) ∧ ∀ g, g ∈ fs.map (·.1) → g ∈ (putF f v fs).map (·.1)
  | [] => ⟨by simp [putF], fun g h => by simp at h⟩
  | (k, x) :: r => by
    obtain ⟨i1, i2⟩ := keys_putF f v r
    rw [show putF f v ((k, x) :: r) = (if k = f then (k, v) :: r else (k, x) :: putF f v r) from rfl]
    by_cases hk : k = f
    · rw [if_pos hk]
      subst hk
      exact ⟨by simp, fun g h => by simpa using h⟩
    · rw [if_neg hk]
      refine ⟨?_, fun g h => ?_⟩
      · rw [List.map_cons]
        exact List.mem_cons_of_mem _ i1
      · rw [List.map_cons] at h ⊢
        rcases List.mem_cons.mp h with e | e
        · exact List.mem_cons.mpr (.inl e)
        · exact List.mem_cons_of_mem _ (i2 g e)
theorem length_putF (f : Str) (v : V) : ∀ fs : List (Str × V), (putF f v fs).length ≤ fs.length + 1
  | [] => by simp [putF]
  | (k, x) :: r => by
    have ih := length_putF f v r
    rw [show putF f v ((k, x) :: r) = (if k = f then (k, v) :: r else (k, x) :: putF f v r) from rfl]
    by_cases hk : k = f
    · rw [if_pos hk, List.length_cons, List.length_cons]; omega
    · rw [if_neg hk, List.length_cons, List.length_cons]; omega

theorem RelO.some_of {v : V} {o : Option Value} (r : RelO (some v) o) : ∃ u, o = some u ∧ RelV v u := by
  cases o with
  | none => exact (show False from r).elim
  | some u => exact ⟨u, rfl, r⟩
theorem RelO.none_of {o : Option Value} (r : RelO none o) : o = none := by
  cases o with
  | none => rfl
  | some u => exact (show False from r).elim
theorem handed_of {v : V} {u : Value} (r : RelV v u) : PySem.W.handedIn u = true := by
  cases v with
  | non => cases (show u = Value.none from r); rfl
  | bl b => cases (show u = Value.bool b from r); rfl
  | int i => obtain ⟨t, e⟩ := (show ∃ t, u = Value.int i t from r); cases e; rfl
  | str x => obtain ⟨t, e⟩ := (show ∃ t, u = Value.str x t from r); cases e; rfl
  | byt b => obtain ⟨t, e⟩ := (show ∃ t, u = Value.bytes b t from r); cases e; rfl
  | flt b => obtain ⟨t, e⟩ := (show ∃ t, u = Value.float b t from r); cases e; rfl
  | ref a => cases (show u = Value.ref a from r); rfl
  | ty n => cases (show u = Value.type n from r); rfl

section
variable {P : Program} {w : World} {H H' : Hp} {h h' : Heap} {a C dx : Addr} {fs fs' : List (Str × V)}
theorem ins_get (hok : HOk P w H h) (e : H a = some (.ins C dx fs)) : ∃ mA, ObjM h a dx C mA ∧ (∀ f, RelO (fs.lookup f) (mA f)) ∧ PySem.Within mA (fs.map (·.1)) ∧ fs.length ≤ 1000 ∧ H dx = some (.own a) := by
  obtain ⟨d, z, ne, ob, mA, n, r, q⟩ := (show ObjOk P w H h a (.ins C dx fs) from hok a _ e)
  exact ⟨mA, ⟨ob, n, ne⟩, r, q, z, d⟩
end

structure Cls (K : PySem.W.Frag) (C : Addr) : Prop where
  pg : PySem.W.plainGet K C Str.empty = true
  hd : PySem.W.hasDictIn K C = true
  po : PySem.W.plainOver K C = true
  sa : PySem.W.findIn K (.ref C) "__setattr__" = some (some (.builtin "object.__setattr__"))
theorem Cls.get {K : PySem.W.Frag} {C : Addr} (c : Cls K C) (f : Str) : PySem.W.plainGet K C f = true := c.pg
noncomputable def NoAttr (K : PySem.W.Frag) (C : Addr) (f : Str) : Prop := PySem.W.findIn K (.ref C) f = some none
theorem NoAttr.taker {K : PySem.W.Frag} {C : Addr} {f : Str} (n : NoAttr K C f) : PySem.W.takerIn K C f = some none := by
  unfold PySem.W.takerIn
  rw [show PySem.W.findIn K (.ref C) f = some none from n]
  rfl
structure Con (K : PySem.W.Frag) (C : Addr) (f : Str) (v : V) (u : Value) : Prop where
  at_ : PySem.W.findIn K (.ref C) f = some (some u)
  rel : RelV v u
  get : PySem.W.specialIn K u "__get__" = some none
  cp : PySem.W.copiedNames.contains f = false
structure Meth (K : PySem.W.Frag) (C : Addr) (m : Str) (f : Addr) : Prop where
  at_ : PySem.W.findIn K (.ref C) m = some (some (.ref f))
  fn : PySem.W.isFn K (.ref f) = true
  kp : PySem.W.keepIn K (.ref f) = true

section
variable {X : Cx} {pins : List (Addr × Obj)} {σ : St} {H : Hp} {s : Shared} {a C dx : Addr} {fs : List (Str × V)} {f : Str} {v : V} {A : Around} {E : Value → Shared → Prop}

theorem getattr_ok {b : Bool} {Q : Value → Shared → Prop} (I : Inv X pins σ H s) (e : H a = some (.ins C dx fs)) (c : Cls X.K C) (n : NoAttr X.K C f) (l : fs.lookup f = some v)
    (h : ∀ u s', Inv X pins σ H s' → RelV v u → Q u s') : wpAny (model X.prog X.w) A (getAttr (.ref a) f b) Q E s := by
  obtain ⟨mA, O, r, _, _, _⟩ := ins_get I.hok e
  obtain ⟨u, hu, ru⟩ := RelO.some_of (v := v) (o := mA f) (by rw [← l]; exact r f)
  exact get_map I.kIn O (c.get f) c.hd n hu (handed_of ru) (h u _ (I.tok _) ru)

theorem getmeth_ok {m : Str} {g : Addr} {pl : Sem Bool} {Q : Value × List Value → Shared → Prop} (I : Inv X pins σ H s) (e : H a = some (.ins C dx fs)) (c : Cls X.K C) (k : Meth X.K C m g) (l : fs.lookup m = none)
    (h : Q (.ref g, [.ref a]) s) : wpAny (model X.prog X.w) A (getMethod (.ref a) m pl) Q E s := by
  obtain ⟨mA, O, r, _, _, _⟩ := ins_get I.hok e
  have hn : mA m = none := RelO.none_of (by rw [← l]; exact r m)
  exact get_meth I.kIn O (c.get m) k.at_ k.fn hn h

theorem setattr_ok {y : V} {u : Value} {Q : Unit → Shared → Prop} (I : Inv X pins σ H s) (e : H a = some (.ins C dx fs)) (c : Cls X.K C) (n : NoAttr X.K C f) (hl : fs.length < 1000) (ry : RelV y u)
    (h : ∀ s', Inv X pins σ (upd H a (.ins C dx (putF f y fs))) s' → Q () s') : wpAny (model X.prog X.w) A (setAttr (.ref a) f u) Q E s := by
  obtain ⟨mA, O, r, wi, _, ho⟩ := ins_get I.hok e
  have hz : (fs.map (·.1)).length ≤ sizeLine := by rw [List.length_map, sizeLine_eq]; omega
  refine set_map I.kIn O c.sa c.po n.taker c.hd wi hz fun h' O' sb => h _ ?_
  have hd : ∃ o, h'.get? dx = some o := let ⟨o, _, _, e', _⟩ := O'.ns; ⟨o, e'⟩
  refine I.write (x := a) (e := dx) (by rw [e]; exact True.intro) (.inr ho) (fun b q hb z => (sb.2 b hb).trans z) hd ?_
  refine ⟨by rw [upd_ne O.ne]; exact ho, ?_, O.ne, O'.obj, _, O'.ns, fun g => ?_, fun g hg => ?_⟩
  · have := length_putF f y fs; omega
  · show RelO ((putF f y fs).lookup g) (if g = f then some u else mA g)
    rw [lookup_putF]
    by_cases q : g = f
    · rw [if_pos q, if_pos q]; exact ry
    · rw [if_neg q, if_neg q]; exact r g
  · by_cases q : g = f
    · rw [q]; exact (keys_putF f y fs).1
    · refine (keys_putF f y fs).2 g (wi g fun z => hg ?_)
      show (if g = f then some u else mA g) = none
      rw [if_neg q]; exact z

theorem Inv.made (I : Inv X pins σ H s) : Inv X pins σ (upd (upd H s.heap.objs.size (.own (s.heap.objs.size + 1))) (s.heap.objs.size + 1) (.ins C s.heap.objs.size []))
    { s with heap := (s.heap.push PySem.W.emptyDict).push (PySem.W.instObj C s.heap.objs.size) } := by
  have e1 : (s.heap.push PySem.W.emptyDict).get? s.heap.objs.size = some PySem.W.emptyDict := Heap.get?_push_size s.heap rfl
  have e2 : ((s.heap.push PySem.W.emptyDict).push (PySem.W.instObj C s.heap.objs.size)).get? (s.heap.objs.size + 1) = some (PySem.W.instObj C s.heap.objs.size) := by
    have := Heap.get?_push_size (s.heap.push PySem.W.emptyDict) (o := PySem.W.instObj C s.heap.objs.size) rfl
    rwa [Heap.size_push] at this
  have e3 : (s.heap.push PySem.W.emptyDict).Ns s.heap.objs.size (fun _ => none) := ⟨PySem.W.emptyDict, #[], _, e1, rfl, (fun e he => absurd he (by simp)), fun _ => rfl⟩
  have I1 := I.laid (a := s.heap.objs.size) (o := .own (s.heap.objs.size + 1)) (h' := s.heap.push PySem.W.emptyDict) (t' := s.toks) (fun b u q => Heap.get?_push_of_some _ q) (Nat.le_refl _) ⟨_, e1⟩
  refine I1.laid (a := s.heap.objs.size + 1) (o := .ins C s.heap.objs.size []) (t' := s.toks) (fun b u q => Heap.get?_push_of_some _ q) (Nat.le_of_eq (Heap.size_push _ _)) ?_
  have ne : s.heap.objs.size ≠ s.heap.objs.size + 1 := Nat.ne_of_lt (Nat.lt_succ_self _)
  refine ⟨by rw [upd_ne ne, upd_same], Nat.zero_le _, ne, e2, fun _ => none, (Heap.Ns1.of_empty e3).at fun o q => Heap.get?_push_of_some _ q, fun _ => True.intro, fun y hy => absurd rfl hy⟩

theorem attr_of {prog : Program} {w : World} {env : Env} {e : Expr} {f : Str} {pos : Pos} {s : Shared} {Q : Value → Shared → Prop} (hb : attributeBase e f env (eval e env) = eval e env)
    (h : wpAny (model prog w) A (eval e env) (fun o s₁ => wpAny (model prog w) A (getAttr o f true) Q E s₁) E s) : wpAny (model prog w) A (eval (.Attribute e f pos) env) Q E s :=
  Attribute_any_ h (by rw [arm_eval_Attribute, hb])
end

noncomputable def InOp (X : Cx) (op : Operator) (rd : V → V → Hp → VK → Prop) : Prop :=
  ∀ (pins : List (Addr × Obj)) (s : Shared) (σ : St) (H : Hp) (x y : V) (u v : Value) (Q : VK), Inv X pins σ H s → RelV x u → RelV y v → rd x y H Q → wpAny (model X.prog X.w) X.A (inplaceOp op u v) (EP X pins σ Q) X.xe s
section
variable {X : Cx} {o e value : Expr} {f : Str} {pos pos' tpos : Pos} {ta tv : TE}
theorem methcall_of {pl : Sem Bool} {m : Str} {apos : Pos} {args : List Expr} {pins : List (Addr × Obj)} {s : Shared} {σ : St} {H : Hp} {Q : Value → Shared → Prop} {te : TE} (he : PE X e te) (I : Inv X pins σ H s)
    (h : te σ H fun x H1 => ∃ a C dx fs g, x = .ref a ∧ H1 a = some (.ins C dx fs) ∧ Cls X.K C ∧ Meth X.K C m g ∧ fs.lookup m = none ∧
      ∀ s1, Inv X pins σ H1 s1 → wpAny (model X.prog X.w) X.A (callWith pos (.ref g) [.ref a] (backTo pos (starEach args X.env)) (backToKw pos (keywordEach [] X.env))) Q X.xe s1)
    (ht : eval (.Call (.Attribute e m apos) args [] pos) X.env = (do
      let ov ← eval e X.env
      standAt apos.atName
      let (f, first) ← holding [ov] (getMethod ov m pl)
      callWith pos f first (backTo pos (starEach args X.env)) (backToKw pos (keywordEach [] X.env)))) :
    wpAny (model X.prog X.w) X.A (eval (.Call (.Attribute e m apos) args [] pos) X.env) Q X.xe s := by
  refine PySem.W.methodCall_KW (pl := pl) (thn (he pins s σ H _ I h) fun u s1 hpat => ?_) ht
  obtain ⟨x, H1, I1, rx, a, C, dx, fs, g, ex, ea, c, k, l, q⟩ := hpat
  subst ex
  obtain rfl : u = Value.ref a := rx
  exact getmeth_ok I1 ea c k l (q s1 I1)
end

section
variable {X : Cx} {pins : List (Addr × Obj)} {σ : St} {H : Hp} {s : Shared} {A : Around} {E : Value → Shared → Prop} {Q : Value → Shared → Prop} {c : Value} {b : Bool}
inductive TyOf (K : PySem.W.Frag) (H : Hp) : V → Value → Prop where
  | non : TyOf K H .non (.type "NoneType")
  | bl (x : Bool) : TyOf K H (.bl x) (.type "bool")
  | int (i : Int) : TyOf K H (.int i) (.type "int")
  | str (x : Str) : TyOf K H (.str x) (.type "str")
  | flt (x : UInt64) : TyOf K H (.flt x) (.type "float")
  | lst {a : Addr} {xs : List V} (e : H a = some (.lst xs)) : TyOf K H (.ref a) (.type "list")
  | frz {a : Addr} {o : Obj} {xs : List V} (e : H a = some (.frz o (.lst xs))) : TyOf K H (.ref a) (.type "list")
  | tup {a : Addr} {xs : List V} (e : H a = some (.tup xs)) : TyOf K H (.ref a) (.type "tuple")
  | dK {a : Addr} {kvs : List (Key × V)} (e : H a = some (.dK kvs)) : TyOf K H (.ref a) (.type "dict")
  | dT {a : Addr} {kvs : List (List Key × V)} (e : H a = some (.dT kvs)) : TyOf K H (.ref a) (.type "dict")
  | ins {a C dx : Addr} {fs : List (Str × V)} (e : H a = some (.ins C dx fs)) (cl : Cls K C) (ha : PySem.W.findIn K (.ref C) "__class__" = some (some (.builtin "object.__class__")))
      (hn : PySem.W.specialIn K (.builtin "object.__class__") "__get__" = some (some (.builtin "getset_descriptor.__get__"))) (htk : PySem.W.takesIn K (.builtin "object.__class__") = some true)
      (hm : PySem.W.mroIn K C (.type "object") = some true) : TyOf K H (.ref a) (.ref C)
theorem isinst_ok {x : V} {u t : Value} (I : Inv X pins σ H s) (rx : RelV x u) (ty : TyOf X.K H x t) (e : PySem.W.kitOne X.K t c = some b) (h : ∀ tk, Q (.bool b) { s with toks := tk }) :
    wpAny (model X.prog X.w) A (call (.builtin "isinstance") [u, c]) Q E s := by
  cases ty with
  | non => cases (show u = Value.none from rx); exact PySem.W.kia_one PySem.W.kitx_none I.kIn True.intro e (fun z => nomatch z) h
  | bl y => cases (show u = Value.bool y from rx); exact PySem.W.kia_one PySem.W.kitx_bool I.kIn True.intro e (fun z => nomatch z) h
  | int i => obtain ⟨t, q⟩ := (show ∃ t, u = Value.int i t from rx); cases q; exact PySem.W.kia_one PySem.W.kitx_int I.kIn True.intro e (fun z => nomatch z) h
  | str y => obtain ⟨t, q⟩ := (show ∃ t, u = Value.str y t from rx); cases q; exact PySem.W.kia_one PySem.W.kitx_str I.kIn True.intro e (fun z => nomatch z) h
  | flt y => obtain ⟨t, q⟩ := (show ∃ t, u = Value.float y t from rx); cases q; exact PySem.W.kia_one PySem.W.kitx_float I.kIn True.intro e (fun z => nomatch z) h
  | @lst a xs ea =>
    cases (show u = Value.ref a from rx)
    obtain ⟨_, _, n, _, h1⟩ := (show ObjOk X.prog X.w H s.heap a (.lst xs) from I.hok a _ ea)
    exact PySem.W.kia_one PySem.W.kitx_list I.kIn ⟨_, h1, rfl⟩ e (fun z => nomatch z) h
  | @frz a ob xs ea =>
    cases (show u = Value.ref a from rx)
    obtain ⟨_, _, _, n, _, h1⟩ := (show ObjOk X.prog X.w H s.heap a (.frz ob (.lst xs)) from I.hok a _ ea)
    exact PySem.W.kia_one PySem.W.kitx_list I.kIn ⟨_, h1, rfl⟩ e (fun z => nomatch z) h
  | @tup a xs ea =>
    cases (show u = Value.ref a from rx)
    obtain ⟨_, _, _, p⟩ := (show ObjOk X.prog X.w H s.heap a (.tup xs) from I.hok a _ ea)
    obtain ⟨o, h1, h2, _⟩ := p
    exact PySem.W.kia_one PySem.W.kitx_tuple I.kIn ⟨o, h1, h2⟩ e (fun z => nomatch z) h
  | @dK a kvs ea =>
    cases (show u = Value.ref a from rx)
    obtain ⟨_, _, vs, _, p⟩ := (show ObjOk X.prog X.w H s.heap a (.dK kvs) from I.hok a _ ea)
    obtain ⟨o, es, ep, h1, h2, _⟩ := p
    exact PySem.W.kia_one PySem.W.kitx_dict I.kIn ⟨o, h1, h2.1⟩ e (fun z => nomatch z) h
  | @dT a kvs ea =>
    cases (show u = Value.ref a from rx)
    obtain ⟨_, _, xs, _, o, es, ep, h1, h2, _⟩ := (show ObjOk X.prog X.w H s.heap a (.dT kvs) from I.hok a _ ea)
    exact PySem.W.kia_one PySem.W.kitx_dict I.kIn ⟨o, h1, h2.1⟩ e (fun z => nomatch z) h
  | @ins a C dx fs ea cl ha hn htk hm =>
    cases (show u = Value.ref a from rx)
    obtain ⟨mA, O, _⟩ := ins_get I.hok ea
    obtain ⟨od, J, _⟩ := O.look
    exact PySem.W.kia_one (PySem.W.kitx_own (cl.get _) cl.hd ha hn htk hm) I.kIn J e (fun z => nomatch z) h
end
end L2

namespace L2
open PySem PySem.Spec PyProof.Rows

structure Room (k : Nat) (A : Around) : Prop where
  hd : A.handled = none
  dp : A.depth + 3 * k + 5 < recursionLimit
  un : A.units + 16 * k + 200 < cLine
theorem Room.mono {j k : Nat} {A : Around} (r : Room k A) (h : j ≤ k) : Room j A := ⟨r.hd, by have := r.dp; omega, by have := r.un; omega⟩
theorem Room.deeper {k : Nat} {A : Around} (r : Room (k + 1) A) (env : Env) : Room k (A.deeper env) :=
  ⟨r.hd, by have := r.dp; show A.depth + 1 + 3 * k + 5 < _; omega, by have := r.un; show A.units + 3 + 16 * k + 200 < _; omega⟩
theorem Room.in1 {k : Nat} {A : Around} (r : Room (k + 1) A) : Room k A.in1 :=
  ⟨r.hd, by have := r.dp; show A.depth + 3 * k + 5 < _; omega, by have := r.un; show A.units + 1 + 16 * k + 200 < _; omega⟩
theorem make_depth {A : Around} {C : Addr} {us : List Value} {kw : List (Str × Value)} : (A.under (.builtin "type.__call__" ⟨.ref C :: us, kw⟩)).depth = A.depth + 1 := by
  first | rfl | simp [Around.under, Code.weight, Code.isCreation, Code.isGuard, Code.isCaller, Code.frames, Code.isFrame, guardIds]
theorem make_units {A : Around} {C : Addr} {us : List Value} {kw : List (Str × Value)} : (A.under (.builtin "type.__call__" ⟨.ref C :: us, kw⟩)).units = A.units + 1 := by
  first | rfl | simp [Around.under, Code.cUnits, Code.frames, Code.isFrame]
theorem Room.make {k : Nat} {A : Around} (r : Room (k + 1) A) (C : Addr) (us : List Value) (kw : List (Str × Value)) : Room k (A.under (.builtin "type.__call__" ⟨.ref C :: us, kw⟩)) :=
  ⟨r.hd, by have := r.dp; rw [make_depth]; omega, by have := r.un; rw [make_units]; omega⟩
theorem Room.depth {k : Nat} {A : Around} (r : Room k A) : A.depth < recursionLimit := by have := r.dp; omega
theorem Room.units {k : Nat} {A : Around} (r : Room k A) : A.units + 64 < cLine := by have := r.un; omega
noncomputable def tNil : TA := fun _ H Q => Q [] H
noncomputable def tCons (ta : TE) (tr : TA) : TA := fun σ H Q => ta σ H fun x H1 => tr σ H1 fun xs H2 => Q (x :: xs) H2
section
variable {X : Cx} {e : Expr} {es : List Expr} {te : TE} {t : TA} {pos : Pos}
theorem pa_nil : PA X [] tNil := fun _ _ _ _ H Q I h => Calls.spliced_nil ⟨[], H, I, .nil, h⟩
theorem pa_cons (ha : PE X e te) (hr : PA X es t) (hs : starEach (e :: es) X.env = (false, eval e X.env) :: starEach es X.env := by rfl) : PA X (e :: es) (tCons te t) := by
  intro pos pins s σ H Q I h
  rw [hs]
  show wpAny _ _ (spliced ((false, eval e X.env) :: backTo pos (starEach es X.env))) _ _ s
  refine Calls.spliced_cons (thn (ha pins s σ H _ I h) fun u s1 hpat => ?_)
  obtain ⟨x, H1, I1, r1, q1⟩ := hpat
  exact thn (hr pos pins s1 σ H1 _ I1 q1) fun us s2 hp2 => by obtain ⟨xs, H2, I2, r2, q2⟩ := hp2; exact ⟨x :: xs, H2, I2, .cons r1 r2, q2⟩

noncomputable def tTup (t : TA) : TE := fun σ H Q => t σ H fun xs H1 => xs.length ≤ sizeLine ∧ ∀ p, H1 p = none → Q (.ref p) (upd H1 p (.tup xs))
noncomputable def tLst (t : TA) : TE := fun σ H Q => t σ H fun xs H1 => xs.length ≤ sizeLine ∧ ∀ p, H1 p = none → Q (.ref p) (upd H1 p (.lst xs))
theorem pe_tup {x1} (h : PA X es t) : PE X (.Tuple es x1 pos) (tTup t) := by
  intro pins s σ H Q I hq
  refine wpAny_Tuple_spliced (thn (h pos pins s σ H _ I hq) fun us s1 ⟨xs, H1, I1, r, z, q⟩ => ⟨by rw [← r.length]; exact z, ?_⟩)
  have hf : H1 s1.heap.objs.size = none := I1.hok.fresh (Nat.le_refl _)
  refine ⟨.ref s1.heap.objs.size, upd H1 s1.heap.objs.size (.tup xs), I1.laid (t' := s1.toks) (fun b u e => Heap.get?_push_of_some _ e) (Nat.le_refl _) ?_, rfl, q _ hf⟩
  exact ⟨z, us, r, ⟨_, Heap.get?_push_size _ rfl, rfl, _, rfl⟩⟩
theorem pe_lst (h : PA X es t) : PE X (.List es pos) (tLst t) := by
  intro pins s σ H Q I hq
  refine wpAny_List_spliced (thn (h pos pins s σ H _ I hq) fun us s1 ⟨xs, H1, I1, r, z, q⟩ => ⟨by rw [← r.length]; exact z, ?_⟩)
  have hf : H1 s1.heap.objs.size = none := I1.hok.fresh (Nat.le_refl _)
  refine ⟨.ref s1.heap.objs.size, upd H1 s1.heap.objs.size (.lst xs), I1.laid (t' := s1.toks) (fun b u e => Heap.get?_push_of_some _ e) (Nat.le_refl _) ?_, rfl, q _ hf⟩
  exact ⟨z, us, 0, r, Heap.get?_push_size _ rfl⟩
end

noncomputable abbrev Sp := List V → Hp → VK → XK → Prop
noncomputable abbrev CXT := List Env → Hp → Shared → XK → Value → Shared → Prop

structure Env0 (P : Program) (w : World) (K : PySem.W.Frag) (mg : Str → Option Value) (base : Heap) (A : Around) (outer : List Env) (s : Shared) (H : Hp) : Prop where
  frames : A.frames = some outer
  mod : Mod K mg base
  bs : ∀ b o, base.get? b = some o → s.heap.get? b = some o ∧ H b = none
  bsz : base.objs.size ≤ s.heap.objs.size
  funs : s.heap.FunFrames base outer
  frf : ∀ b ∈ frs outer, H b = none
  hok : HOk P w H s.heap
  bare : AllBare s.gens
noncomputable def CE (outer : List Env) (P : Program) (w : World) (H : Hp) (s : Shared) (Q : VK) (u : Value) (s' : Shared) : Prop :=
  ∃ v H', s'.os = s.os ∧ AllBare s'.gens ∧ Un (frs outer) [] H H' s.heap s'.heap ∧ HOk P w H' s'.heap ∧ RelV v u ∧ Q v H'
noncomputable def CR (CX : CXT) (outer : List Env) (P : Program) (w : World) (H : Hp) (s : Shared) (Q : VK) (E : XK) (r : Result) (s' : Shared) : Prop :=
  match r with
  | .ok (.ret u) => CE outer P w H s Q u s'
  | .ok _ => False
  | .error e => CX outer H s E e s'
structure FnOk (P : Program) (w : World) (K : PySem.W.Frag) (mg : Str → Option Value) (base : Heap) (CX : CXT) (k : Nat) (f : Addr) (fd : FuncData) (ps : List Str) (sp : Sp) : Prop where
  len : ∀ vs H Q E, sp vs H Q E → vs.length = ps.length
  run : ∀ (A : Around) (outer : List Env) (s : Shared) (H : Hp) (args : Args) (us : List Value) (vs : List V) (Q : VK) (E : XK), Room k A → Env0 P w K mg base A outer s H → BindsTo s fd args (ps.zip us) → Vals vs us → sp vs H Q E →
    codeAny (model P w) A (.call (.ref f) args) (CR CX outer P w H s Q E) s
theorem FnOk.mono {P : Program} {w : World} {K : PySem.W.Frag} {mg : Str → Option Value} {base : Heap} {CX : CXT} {j k : Nat} {f : Addr} {fd : FuncData} {ps : List Str} {sp : Sp} (F : FnOk P w K mg base CX j f fd ps sp) (h : j ≤ k) :
    FnOk P w K mg base CX k f fd ps sp := ⟨F.len, fun A outer s H args us vs Q E hr => F.run A outer s H args us vs Q E (hr.mono h)⟩
theorem Env0.make {P : Program} {w : World} {K : PySem.W.Frag} {mg : Str → Option Value} {base : Heap} {A : Around} {outer : List Env} {s : Shared} {H : Hp} (e : Env0 P w K mg base A outer s H) (C : Addr) (us : List Value) (kw : List (Str × Value)) :
    Env0 P w K mg base (A.under (.builtin "type.__call__" ⟨.ref C :: us, kw⟩)) outer s H := ⟨by first | exact e.frames | (simpa [Around.under, Code.envs, Code.isFrame, pushEnvs] using e.frames), e.mod, e.bs, e.bsz, e.funs, e.frf, e.hok, e.bare⟩
theorem Env0.in1 {P : Program} {w : World} {K : PySem.W.Frag} {mg : Str → Option Value} {base : Heap} {A : Around} {outer : List Env} {s : Shared} {H : Hp} (e : Env0 P w K mg base A outer s H) :
    Env0 P w K mg base A.in1 outer s H := ⟨e.frames, e.mod, e.bs, e.bsz, e.funs, e.frf, e.hok, e.bare⟩

section
variable {X : Cx} {pins : List (Addr × Obj)} {σ : St} {H : Hp} {s s' : Shared}
theorem Inv.env0 (I : Inv X pins σ H s) : Env0 X.prog X.w X.K X.mg X.base X.A X.stack s H :=
  ⟨I.ok.frames, I.ok.mod, I.bs, Nat.le_trans I.ok.bsz I.sz, I.stack, I.stkFree, I.hok, I.bare⟩
theorem Inv.after {Q : VK} {u : Value} (I : Inv X pins σ H s) (h : CE X.stack X.prog X.w H s Q u s') : EP X pins σ Q u s' := by
  obtain ⟨v, H', os, bare, un, hok, r, q⟩ := h
  obtain ⟨hh, g, d, t, os'⟩ := s'
  obtain rfl : os' = s.os := os
  exact ⟨v, H', I.call (h' := hh) (g' := g) (d' := d) (t' := t) (ch := []) un hok bare (fun b z => absurd z (by simp)), r, q⟩
end

noncomputable def tCall (sp : Sp) (dvs : List V) (E : XK) (t : TA) : TE := fun σ H Q => t σ H fun vs H1 => sp (vs ++ dvs) H1 Q E
noncomputable def tMeth (C : Addr) (m : Str) (sp : Sp) (dvs : List V) (E : XK) (ta : TE) (t : TA) : TE := fun σ H Q => ta σ H fun x H1 => ExQ Q (fun a Q => ExQ Q (fun dx Q => ExQ Q (fun fs Q => x = .ref a ∧ H1 a = some (.ins C dx fs) ∧ fs.lookup m = none ∧
  t σ H1 fun vs H2 => sp (x :: (vs ++ dvs)) H2 Q E)))
noncomputable def tMake (C : Addr) (sp : Sp) (dvs : List V) (E : XK) (t : TA) : TE := fun σ H Q => t σ H fun vs H1 => ∀ x dx, H1 x = none → H1 dx = none → dx ≠ x →
  sp (.ref x :: (vs ++ dvs)) (upd (upd H1 dx (.own x)) x (.ins C dx [])) (fun v H2 => v = .non ∧ Q (.ref x) H2) E

noncomputable def Binds (K : PySem.W.Frag) (fd : FuncData) (ps : List Str) (ds : List Value) : Prop :=
  ∀ (s : Shared) (us : List Value), K.In s.heap → (us ++ ds).length = ps.length → BindsTo s fd ⟨us, []⟩ (ps.zip (us ++ ds))
theorem Binds.all {K : PySem.W.Frag} {fd : FuncData} {ps : List Str} (h : ∀ us : List Value, us.length = ps.length → bindArgs fd ⟨us, []⟩ = pure (ps.zip us)) : Binds K fd ps [] := fun s us _ hl => by
  rw [List.append_nil] at hl ⊢
  exact .of_eq (h us hl)

noncomputable def Passes (CX : CXT) (X : Cx) (E : XK) : Prop := ∀ (pins : List (Addr × Obj)) (σ : St) (H : Hp) (s : Shared) (e : Value) (s' : Shared), Inv X pins σ H s → CX X.stack H s E e s' → X.xe e s'

section
variable {X : Cx} {CX : CXT} {k : Nat} {f C : Addr} {fd : FuncData} {ps : List Str} {sp : Sp} {dvs : List V} {ds : List Value} {E : XK} {x m : Str} {p pos apos : Pos} {e o : Expr} {es : List Expr} {ta : TE} {t : TA}

theorem run_fn {pins : List (Addr × Obj)} {σ : St} {H : Hp} {s : Shared} {Q : VK} {us : List Value} {vs : List V} (F : FnOk X.prog X.w X.K X.mg X.base CX k f fd ps sp) (hr : Room k X.A) (hb : Binds X.K fd ps ds) (hd : Vals dvs ds) (hx : Passes CX X E)
    (I : Inv X pins σ H s) (r : Vals vs us) (h : sp (vs ++ dvs) H Q E) : wpAny (model X.prog X.w) X.A (call (.ref f) us) (EP X pins σ Q) X.xe s := by
  have r2 : Vals (vs ++ dvs) (us ++ ds) := r.append hd
  have hl : (us ++ ds).length = ps.length := by rw [← r2.length]; exact F.len _ _ _ _ h
  refine wpAny_call (codeAny_mono (F.run X.A X.stack s H ⟨us, []⟩ (us ++ ds) (vs ++ dvs) Q E hr I.env0 (hb s us I.kIn hl) r2 h) fun r s' hq => ?_)
  cases r with
  | error e => exact hx pins σ H s e s' I hq
  | ok fl =>
    cases fl with
    | ret u => exact I.after hq
    | next => exact False.elim hq
    | brk => exact False.elim hq
    | cont => exact False.elim hq

theorem pe_call (F : FnOk X.prog X.w X.K X.mg X.base CX k f fd ps sp) (hr : Room k X.A) (hg : Gl X x) (hm : X.mg x = some (.ref f)) (hk : PySem.W.keepIn X.K (.ref f) = true) (hb : Binds X.K fd ps ds) (hd : Vals dvs ds) (hx : Passes CX X E)
    (ha : PA X (e :: es) t) (hdb : (x == ("__debug__" : Str)) = false := by decide) (he : starEach (e :: es) X.env = (false, eval e X.env) :: starEach es X.env := by rfl) (hpl : (backTo pos (starEach es X.env)).any (·.1) = false := by rfl) :
    PE X (.Call (.Name x p) (e :: es) [] pos) (tCall sp dvs E t) := by
  intro pins s σ H Q I h
  refine wpAny_Call_Name_kw (ld_glob I hg hm ?_ hdb)
  refine PySem.W.callWith_K (h₀ := X.base) I.ok.mod.kin hk (thn (ha pos pins s σ H _ I h) fun us s1 hpat => ?_) he hpl
  obtain ⟨vs, H1, I1, r, q⟩ := hpat
  refine ⟨I1.kIn, ?_⟩
  exact run_fn F hr hb hd hx I1 r q
theorem pe_meth {pl : Sem Bool} (he : PE X o ta) (c : Cls X.K C) (hm : Meth X.K C m f) (F : FnOk X.prog X.w X.K X.mg X.base CX k f fd ps sp) (hr : Room k X.A) (hb : Binds X.K fd ps ds) (hd : Vals dvs ds) (hx : Passes CX X E) (ha : PA X (e :: es) t)
    (hst : starEach (e :: es) X.env = (false, eval e X.env) :: starEach es X.env := by rfl) (hpl : (backTo pos (starEach es X.env)).any (·.1) = false := by rfl)
    (ht : eval (.Call (.Attribute o m apos) (e :: es) [] pos) X.env = (do
      let ov ← eval o X.env
      standAt apos.atName
      let (f, first) ← holding [ov] (getMethod ov m pl)
      callWith pos f first (backTo pos (starEach (e :: es) X.env)) (backToKw pos (keywordEach [] X.env))) := by rfl) :
    PE X (.Call (.Attribute o m apos) (e :: es) [] pos) (tMeth C m sp dvs E ta t) := by
  intro pins s σ H Q I h
  refine PySem.W.methodCall_KW (pl := pl) (thn (he pins s σ H _ I h) fun u s1 hpat => ?_) ht
  obtain ⟨x, H1, I1, rx, a, dx, fs, ex, ea, l, q⟩ := hpat
  subst ex
  obtain rfl : u = Value.ref a := rx
  refine getmeth_ok I1 ea c hm l ?_
  refine PySem.W.callWith_K (first := [.ref a]) (h₀ := X.base) I.ok.mod.kin hm.kp (thn (ha pos pins s1 σ H1 _ I1 q) fun us s2 hpat => ?_) hst hpl
  obtain ⟨vs, H2, I2, r, q2⟩ := hpat
  refine ⟨I2.kIn, ?_⟩
  exact run_fn (us := .ref a :: us) (vs := .ref a :: vs) F hr hb hd hx I2 (.cons rfl r) q2
theorem pe_meth0 {pl : Sem Bool} (he : PE X o ta) (c : Cls X.K C) (hm : Meth X.K C m f) (F : FnOk X.prog X.w X.K X.mg X.base CX k f fd ps sp) (hr : Room k X.A) (hb : Binds X.K fd ps ds) (hd : Vals dvs ds) (hx : Passes CX X E)
    (ht : eval (.Call (.Attribute o m apos) [] [] pos) X.env = (do
      let ov ← eval o X.env
      standAt apos.atName
      let (f, first) ← holding [ov] (getMethod ov m pl)
      callWith pos f first (backTo pos (starEach [] X.env)) (backToKw pos (keywordEach [] X.env))) := by rfl) :
    PE X (.Call (.Attribute o m apos) [] [] pos) (tMeth C m sp dvs E ta tNil) := by
  intro pins s σ H Q I h
  refine PySem.W.methodCall_KW (pl := pl) (thn (he pins s σ H _ I h) fun u s1 hpat => ?_) ht
  obtain ⟨x, H1, I1, rx, a, dx, fs, ex, ea, l, q⟩ := hpat
  subst ex
  obtain rfl : u = Value.ref a := rx
  refine getmeth_ok I1 ea c hm l ?_
  exact PySem.W.callWith_K0 (first := [.ref a]) I1.kIn hm.kp (run_fn (us := [.ref a]) (vs := [.ref a]) F hr hb hd hx I1 (.cons rfl .nil) q)

structure Mk (K : PySem.W.Frag) (C f : Addr) : Prop where
  makes : PySem.W.makesIn K C = true
  init : PySem.W.findIn K (.ref C) "__init__" = some (some (.ref f))
  fn : PySem.W.isFn K (.ref f) = true
  kp : PySem.W.keepIn K (.ref C) = true

theorem run_make {pins : List (Addr × Obj)} {σ : St} {H : Hp} {s : Shared} {Q : VK} {us : List Value} {vs : List V} (M : Mk X.K C f) (F : FnOk X.prog X.w X.K X.mg X.base CX k f fd ps sp) (hr : Room (k + 1) X.A) (hb : Binds X.K fd ps ds) (hd : Vals dvs ds)
    (hx : Passes CX X E) (I : Inv X pins σ H s) (r : Vals vs us)
    (h : ∀ x dx, H x = none → H dx = none → dx ≠ x → sp (.ref x :: (vs ++ dvs)) (upd (upd H dx (.own x)) x (.ins C dx [])) (fun v H2 => v = .non ∧ Q (.ref x) H2) E) :
    wpAny (model X.prog X.w) X.A (call (.ref C) us) (EP X pins σ Q) X.xe s := by
  have hq := h (s.heap.objs.size + 1) s.heap.objs.size (I.hok.fresh (Nat.le_succ _)) (I.hok.fresh (Nat.le_refl _)) (Nat.ne_of_lt (Nat.lt_succ_self _))
  have I2 := Inv.made (C := C) I
  have r2 : Vals (V.ref (s.heap.objs.size + 1) :: (vs ++ dvs)) (Value.ref (s.heap.objs.size + 1) :: (us ++ ds)) := .cons rfl (r.append hd)
  have hl : (Value.ref (s.heap.objs.size + 1) :: us ++ ds).length = ps.length := by
    have e := r2.length
    rw [F.len _ _ _ _ hq] at e
    exact e.symm
  refine wpAny_call (make_map (f := f) I.kIn M.makes M.init (beq_iff_eq.mp M.fn) (codeAny_mono (F.run _ X.stack _ _ ⟨Value.ref (s.heap.objs.size + 1) :: us, []⟩ (Value.ref (s.heap.objs.size + 1) :: (us ++ ds)) _ _ E (hr.make C us [])
    (I2.env0.make C us []) (hb _ (Value.ref (s.heap.objs.size + 1) :: us) I2.kIn hl) r2 hq) fun r s' hq' => ?_))
  cases r with
  | error e => exact hx pins σ _ _ e s' I2 hq'
  | ok fl =>
    cases fl with
    | ret u =>
      obtain ⟨v, H', I3, rv, ev, q3⟩ := I2.after hq'
      subst ev
      exact ⟨rv, ⟨V.ref (s.heap.objs.size + 1), H', I3, rfl, q3⟩⟩
    | next => exact False.elim hq'
    | brk => exact False.elim hq'
    | cont => exact False.elim hq'
theorem pe_make (M : Mk X.K C f) (F : FnOk X.prog X.w X.K X.mg X.base CX k f fd ps sp) (hr : Room (k + 1) X.A) (hg : Gl X x) (hm : X.mg x = some (.ref C)) (hb : Binds X.K fd ps ds) (hd : Vals dvs ds) (hx : Passes CX X E)
    (ha : PA X (e :: es) t) (hdb : (x == ("__debug__" : Str)) = false := by decide) (he : starEach (e :: es) X.env = (false, eval e X.env) :: starEach es X.env := by rfl) (hpl : (backTo pos (starEach es X.env)).any (·.1) = false := by rfl) :
    PE X (.Call (.Name x p) (e :: es) [] pos) (tMake C sp dvs E t) := by
  intro pins s σ H Q I h
  refine wpAny_Call_Name_kw (ld_glob I hg hm ?_ hdb)
  refine PySem.W.callWith_K (h₀ := X.base) I.ok.mod.kin M.kp (thn (ha pos pins s σ H _ I h) fun us s1 hpat => ?_) he hpl
  obtain ⟨vs, H1, I1, r, q⟩ := hpat
  refine ⟨I1.kIn, ?_⟩
  exact run_make M F hr hb hd hx I1 r q
end

section
variable {X : Cx} {CX : CXT} {k : Nat} {f C : Addr} {fd : FuncData} {ps ks : List Str} {sp : Sp} {E : XK} {x m : Str} {p pos apos kpos : Pos} {e o : Expr} {es : List Expr} {kws : List Keyword} {te ta : TE} {t tk : TA} {nm : Option Str}
structure KBinds (K : PySem.W.Frag) (fd : FuncData) (ps ks : List Str) (g : List Value → List Value → List Value) (gV : List V → List V → List V) : Prop where
  to : ∀ (s : Shared) (us ws : List Value), K.In s.heap → (g us ws).length = ps.length → BindsTo s fd ⟨us, ks.zip ws⟩ (ps.zip (g us ws))
  rel : ∀ {vs : List V} {us : List Value} {zs : List V} {ws : List Value}, Vals vs us → Vals zs ws → Vals (gV vs zs) (g us ws)
variable {g : List Value → List Value → List Value} {gV : List V → List V → List V}
end

structure FnScope (N P : List Str) (sc : Scope) : Prop where
  kind : sc.kind = .function
  co : sc.isCoroutine = false
  gen : sc.isGenerator = false
  nd : N.Nodup
  pre : N.take P.length = P
  par : ∀ x ∈ P, sc.names.lookup x = some .local ∨ sc.names.lookup x = some .cell
  nofree : ∀ y ∈ sc.names, y.2 ≠ .free

theorem bindL_out {kindOf : Str → Option NameKind} {x : Str} : ∀ {binds : List (Str × Value)} {m : Str → Option Value}, (∀ v, (x, v) ∉ binds) → bindL kindOf binds m x = m x
  | [], _, _ => rfl
  | (n, v) :: r, m, h => by
    unfold bindL
    rw [bindL_out fun w hw => h w (List.mem_cons_of_mem _ hw)]
    split
    · have : x ≠ n := by rintro rfl; exact h v List.mem_cons_self
      simp [this]
    · rfl
theorem bindC_out {kindOf : Str → Option NameKind} {x : Str} : ∀ {binds : List (Str × Value)} {m : Str → Option Value}, (∀ v, (x, v) ∉ binds) → bindC kindOf binds m x = m x
  | [], _, _ => rfl
  | (n, v) :: r, m, h => by
    unfold bindC
    rw [bindC_out fun w hw => h w (List.mem_cons_of_mem _ hw)]
    split
    · rfl
    · have : x ≠ n := by rintro rfl; exact h v List.mem_cons_self
      simp [this]
theorem bindL_get {kindOf : Str → Option NameKind} {x : Str} {v : Value} : ∀ {P : List Str} {vs : List Value} {i : Nat} {m : Str → Option Value}, P.Nodup → P[i]? = some x → vs[i]? = some v → kindOf x = some .local →
    bindL kindOf (P.zip vs) m x = some v
  | [], _, _, _, _, h, _, _ => by simp at h
  | _ :: _, [], _, _, _, _, h, _ => by simp at h
  | p :: P, w :: vs, 0, m, nd, h1, h2, hk => by
    simp at h1 h2; subst h1; subst h2
    show bindL kindOf ((p, w) :: P.zip vs) m p = _
    unfold bindL
    rw [bindL_out fun v hv => (List.nodup_cons.mp nd).1 (List.of_mem_zip hv).1, if_pos hk]
    simp
  | p :: P, w :: vs, i + 1, m, nd, h1, h2, hk => by
    show bindL kindOf ((p, w) :: P.zip vs) m x = _
    unfold bindL
    exact bindL_get (i := i) (List.nodup_cons.mp nd).2 (by simpa using h1) (by simpa using h2) hk
theorem bindC_get {kindOf : Str → Option NameKind} {x : Str} {v : Value} : ∀ {P : List Str} {vs : List Value} {i : Nat} {m : Str → Option Value}, P.Nodup → P[i]? = some x → vs[i]? = some v → kindOf x ≠ some .local →
    bindC kindOf (P.zip vs) m x = some v
  | [], _, _, _, _, h, _, _ => by simp at h
  | _ :: _, [], _, _, _, _, h, _ => by simp at h
  | p :: P, w :: vs, 0, m, nd, h1, h2, hk => by
    simp at h1 h2; subst h1; subst h2
    show bindC kindOf ((p, w) :: P.zip vs) m p = _
    unfold bindC
    rw [bindC_out fun v hv => (List.nodup_cons.mp nd).1 (List.of_mem_zip hv).1, if_neg hk]
    simp
  | p :: P, w :: vs, i + 1, m, nd, h1, h2, hk => by
    show bindC kindOf ((p, w) :: P.zip vs) m x = _
    unfold bindC
    exact bindC_get (i := i) (List.nodup_cons.mp nd).2 (by simpa using h1) (by simpa using h2) hk

noncomputable def start (N : List Str) (vs : List V) : St := vs.map some ++ List.replicate (N.length - vs.length) none

noncomputable def cxOf (CX : CXT) (P : Program) (w : World) (K : PySem.W.Frag) (mg : Str → Option Value) (base : Heap) (N : List Str) (qual : Str) (scope : Scope) (f : Addr) (cd : Value) (A : Around) (outer : List Env) (s : Shared) (H : Hp) (E : XK) : Cx where
  prog := P
  w := w
  K := K
  mg := mg
  base := base
  A := A.deeper (envOfC qual scope s.heap.objs.size f cd)
  N := N
  s₀ := s
  H₀ := H
  env := envOfC qual scope s.heap.objs.size f cd
  outer := outer
  stack := envOfC qual scope s.heap.objs.size f cd :: outer
  ex := []
  calm := true
  fn := fun _ => true
  pn := []
  xe := fun e s' => wpAny (model P w) (A.deeper (envOfC qual scope s.heap.objs.size f cd)) (leaving (envOfC qual scope s.heap.objs.size f cd) e) (fun _ s'' => CX outer H s E e s'') (fun e' s'' => CX outer H s E e' s'') s'

theorem cell_has {sc : Scope} {n : Nat} {x : Str} (h : sc.names.lookup x = some .cell) : ∃ c, (cellsFrom n sc.names []).lookup x = some c := by
  have q := PySem.W.cellsFrom_some sc.names n [] (.inl h)
  exact Option.isSome_iff_exists.mp q

theorem inv_start {CX : CXT} {P : Program} {w : World} {K : PySem.W.Frag} {mg : Str → Option Value} {base : Heap} {N ps : List Str} {qual : Str} {scope : Scope} {f : Addr} {cd : Value} {A : Around} {outer : List Env} {s s1 : Shared} {H : Hp} {E : XK} {us : List Value} {vs : List V}
    (S : FnScope N ps scope) (hd : A.handled = none) (e0 : Env0 P w K mg base A outer s H) (hl : vs.length = ps.length) (r : Vals vs us)
    (x : InCallC s s.heap.objs.size (bindL (envOfC qual scope s.heap.objs.size f cd).kindOf (ps.zip us) fun _ => none) (cellsFrom (s.heap.objs.size + 1) scope.names []) (bindC (envOfC qual scope s.heap.objs.size f cd).kindOf (ps.zip us) fun _ => none) s1) :
    Inv (cxOf CX P w K mg base N qual scope f cd A outer s H E) [] (start N vs) H s1 := by
  have hpl : ps.length ≤ N.length := by have := congrArg List.length S.pre; rw [List.length_take] at this; omega
  obtain ⟨h1, tk, rfl, hk⟩ := x.done
  have noA : ∀ b : Addr, b ∉ (cxOf CX P w K mg base N qual scope f cd A outer s H E).ex := fun b z => absurd (show b ∈ ([] : List Addr) from z) (by simp)
  refine ⟨⟨e0.mod, S.kind, rfl, rfl, Nat.le_refl _, fun y z c h1 h2 => ?_, fun y hy => ?_, fun y c _ h => ?_, fun _ => hd, Around.frames_deeper e0.frames, .inr ⟨rfl, rfl⟩, fun b z => absurd z (noA b), e0.bs, e0.bsz, fun b _ _ => noA b, fun b z => absurd z (noA b), e0.funs, e0.frf⟩,
    rfl, e0.bare, Un.kept hk, ⟨_, x.toInCall.ns, fun i y v h1 h2 h3 => ?_⟩, fun y c h => ⟨_, x.cell y c h⟩, e0.hok.fresh (Nat.le_refl _), fun y c h => ?_, fun p hp => absurd (show p ∈ ([] : List (Addr × Obj)) from hp) (by simp), e0.hok.kept hk, ?_⟩
  · exact name_of_addr x.apart (PySem.mem_of_lookup h1) (PySem.mem_of_lookup h2)
  · have hy : scope.names.lookup y = some .cell ∨ scope.names.lookup y = some .free := hy
    rcases hy with hy | hy
    · exact cell_has hy
    · exact absurd rfl (S.nofree _ (PySem.mem_of_lookup hy))
  · exact Nat.le_of_lt (x.above y c (PySem.mem_of_lookup h))
  · have hi : i < vs.length := by
      unfold start at h2
      by_cases hi : i < vs.length
      · exact hi
      · rw [List.getElem?_append_right (by simpa using hi)] at h2
        rw [List.getElem?_replicate] at h2
        split at h2 <;> cases h2
    have ha : vs[i]? = some v := by
      unfold start at h2
      rw [List.getElem?_append_left (by simpa using hi), List.getElem?_map] at h2
      cases e : vs[i]? with
      | none => rw [e] at h2; cases h2
      | some a => rw [e] at h2; cases h2; rfl
    obtain ⟨u, hu, rv⟩ := r.get ha
    have hp : ps[i]? = some y := by
      rw [← S.pre, List.getElem?_take_of_lt (by omega)]; exact h1
    have ndP : ps.Nodup := by rw [← S.pre]; exact S.nd.sublist (List.take_sublist _ _)
    refine ⟨u, rv, ?_⟩
    rcases S.par y (List.mem_of_getElem? hp) with k | k
    · exact .inl ⟨k, bindL_get ndP hp hu k⟩
    · obtain ⟨c, e⟩ := cell_has (n := s.heap.objs.size + 1) k
      refine .inr ⟨.inl k, c, e, ?_⟩
      have q := x.cell y c e
      rw [bindC_get ndP hp hu (by show scope.names.lookup y ≠ _; rw [k]; decide)] at q
      exact q
  · exact e0.hok.fresh (Nat.le_of_lt (x.above y c (PySem.mem_of_lookup h)))
  · unfold start
    show _ = N.length
    rw [List.length_append, List.length_map, List.length_replicate]
    omega

theorem fn_of {CX : CXT} {P : Program} {w : World} {K : PySem.W.Frag} {mg : Str → Option Value} {base : Heap} {k : Nat} {f : Addr} {name qual : Str} {params : Arguments} {body : List Stmt} {scope : Scope} {dV kV doc pm cdv ct oc : Value} {an od : Option Addr}
    {osl : Array (Option Value)} {N ps : List Str} {sp : Sp} (lk : K.lookup f = some ⟨oc, od, .func (PySem.W.fnOf name qual params body scope dV kV doc pm an cdv ct), osl⟩) (hcd : PySem.W.codeIn K cdv qual = true) (S : FnScope N ps scope)
    (len : ∀ vs H Q E, sp vs H Q E → vs.length = ps.length)
    (hbody : ∀ (A : Around) (outer : List Env) (s : Shared) (H : Hp) (vs : List V) (Q : VK) (E : XK), Room k (A.deeper (envOfC qual scope s.heap.objs.size f cdv)) → sp vs H Q E →
      ∃ t, PSs (cxOf CX P w K mg base N qual scope f cdv A outer s H E) body t ∧ t { nx := fun _ H' => Q .non H', rt := Q } (start N vs) H) :
    FnOk P w K mg base CX (k + 1) f (PySem.W.fnOf name qual params body scope dV kV doc pm an cdv ct) ps sp := by
  refine ⟨len, fun A outer s H args us vs Q E hr e0 hb r hsp => ?_⟩
  have hl := len _ _ _ _ hsp
  have KX : K.In s.heap := e0.mod.kin.keeps fun b o e => (e0.bs b o e).1
  have lim : s.heap.NoLimit := e0.mod.nolimit.keeps fun b o e => (e0.bs b o e).1
  have hkind : ∀ y ∈ ps.zip us, scope.names.lookup y.1 = some .local ∨ (scope.names.lookup y.1 = some .cell ∧ ((cellsFrom (s.heap.objs.size + 1) scope.names []).lookup y.1).isSome = true) := fun ⟨n, v⟩ hy => by
    rcases S.par n (List.of_mem_zip hy).1 with q | q
    · exact .inl q
    · exact .inr ⟨q, PySem.W.cellsFrom_some _ _ _ (.inl q)⟩
  refine codeAny_call_function hr.depth (KX _ _ lk) rfl S.co S.gen rfl (PySem.W.codeRec_of KX hcd) (hb _ _ _ _ ?_)
  refine wpAny_newFunctionEnv_cells S.kind hkind fun env he s1 x => ?_
  subst he
  refine ⟨lim.keeps x.toInCall.keep, codeAny_func ?_⟩
  obtain ⟨t, ht, hq⟩ := hbody A outer s H vs Q E (hr.deeper _) hsp
  have I : Inv (cxOf CX P w K mg base N qual scope f cdv A outer s H E) [] (start N vs) H s1 := inv_start S hr.hd e0 hl r x
  refine wpAny_mono (ht [] s1 (start N vs) H _ I hq) (fun fl s' hs => ?_) fun e s' hs => hs
  have fin : ∀ {σ' : St} {H' : Hp} {v : V} {u : Value}, Inv (cxOf CX P w K mg base N qual scope f cdv A outer s H E) [] σ' H' s' → RelV v u → Q v H' → CE outer P w H s Q u s' :=
    fun {σ' H' v u} J rv q => ⟨v, H', J.os, J.bare, J.base, J.hok, rv, q⟩
  cases fl with
  | ret u =>
    obtain ⟨v, σ', H', J, rv, q⟩ := hs
    exact fin J rv q
  | next =>
    obtain ⟨σ', H', J, q⟩ := hs
    exact fin (v := V.non) (u := Value.none) J rfl q
  | brk =>
    obtain ⟨_, _, _, q⟩ := hs
    exact False.elim q
  | cont =>
    obtain ⟨_, _, _, q⟩ := hs
    exact False.elim q
end L2

namespace L2
open PySem PySem.Spec PyProof.Rows
section
variable {X : Cx} {x : Str} {p pos : Pos} {e : Expr} {es : List Expr} {t : TA} {id T : String} {r : List V → Hp → VK → Prop}

noncomputable def tCB (r : List V → Hp → VK → Prop) (t : TA) : TE := fun σ H Q => t σ H fun vs H1 => r vs H1 Q
theorem pe_callB (hc : CallR X (.builtin id) r) (hg : Gl X x) (hm : X.mg x = none) (hv : bootBuiltins x = some (.builtin id)) (ha : PA X (e :: es) t) (hn : x ≠ "__name__" := by decide) (hdb : (x == ("__debug__" : Str)) = false := by decide)
    (he : starEach (e :: es) X.env = (false, eval e X.env) :: starEach es X.env := by rfl) (hpl : (backTo pos (starEach es X.env)).any (·.1) = false := by rfl) : PE X (.Call (.Name x p) (e :: es) [] pos) (tCB r t) := by
  intro pins s σ H Q I h
  refine wpAny_Call_Name_kw (ld_blt I hg hm hv ?_ hn hdb)
  exact PyProof.Rows.callWith_builtin1 (thn (ha pos pins s σ H _ I h) fun us s1 hp2 => by obtain ⟨vs, H1, I1, r1, q1⟩ := hp2; exact hc pins s1 σ H1 vs us Q I1 r1 q1) he hpl
theorem pe_callTy (hc : CallR X (.type T) r) (hg : Gl X x) (hm : X.mg x = none) (hv : bootBuiltins x = some (.type T)) (ha : PA X (e :: es) t) (hn : x ≠ "__name__" := by decide) (hdb : (x == ("__debug__" : Str)) = false := by decide)
    (he : starEach (e :: es) X.env = (false, eval e X.env) :: starEach es X.env := by rfl) (hpl : (backTo pos (starEach es X.env)).any (·.1) = false := by rfl) : PE X (.Call (.Name x p) (e :: es) [] pos) (tCB r t) := by
  intro pins s σ H Q I h
  refine wpAny_Call_Name_kw (ld_blt I hg hm hv ?_ hn hdb)
  exact PyProof.Rows.callWith_type1 (thn (ha pos pins s σ H _ I h) fun us s1 hp2 => by obtain ⟨vs, H1, I1, r1, q1⟩ := hp2; exact hc pins s1 σ H1 vs us Q I1 r1 q1) he hpl
end
end L2

namespace HT
open PySem PyProof.Rows

section
open PySem.SeqAt
open PySem.AutoSeq1 (wpAny_loadPart')
open PySem.MeetsSeq PySem.MeetsSeq2 PySem.MeetsSeq3

end

section
variable {prog : Program} {w : World} {A : Around} {E : Value → Shared → Prop} {s : Shared}

theorem cat_tup {t b : Addr} {vs ws : List Value} {Q : Value → Shared → Prop} (ht : IsTup s.heap t vs.toArray) (hb : IsTup s.heap b ws.toArray) (hv : vs ≠ [])
    (h1 : ws = [] → Q (.ref t) s) (h2 : ws ≠ [] → Q (.ref s.heap.objs.size) { s with heap := s.heap.push { cls := .type "tuple", data := .seq (vs ++ ws).toArray } })
    (hsz : vs.length + ws.length ≤ sizeLine) : wpAny (model prog w) A (binaryOp .Add (.ref t) (.ref b)) Q E s := by
  obtain ⟨⟨cls, dd, data, sl⟩, ho, hc, n, hd⟩ := id ht
  obtain ⟨⟨cls2, dd2, data2, sl2⟩, ho2, hc2, n2, hd2⟩ := id hb
  simp only at hc hd hc2 hd2
  subst hc hd hc2 hd2
  have e : vs.toArray ++ ws.toArray = (vs ++ ws).toArray := by simp
  by_cases hw : ws = []
  · exact concat_meets ⟨_, ho, rfl⟩ ⟨_, ho2, rfl⟩ noFill_tuple_add seq_tuple_add PySem.F.slot_tuple_add PySem.F.entry_tuple_add (PySem.F.args_tuple_add_2 _ _)
      (tuple_addW1 t b vs.toArray ws.toArray n n2 dd dd2 sl sl2 (by simpa using hv) (by simp [hw])) ⟨ho, ho2, h1 hw⟩
  · refine concat_meets ⟨_, ho, rfl⟩ ⟨_, ho2, rfl⟩ noFill_tuple_add seq_tuple_add PySem.F.slot_tuple_add PySem.F.entry_tuple_add (PySem.F.args_tuple_add_2 _ _)
      (tuple_addW2 t b vs.toArray ws.toArray n n2 dd dd2 sl sl2 (by simpa using hv) (by simpa using hw) (by rw [List.size_toArray, List.size_toArray]; exact hsz)) ⟨ho, ho2, ?_⟩
    rw [e]
    exact h2 hw

noncomputable def sIx (n d : Nat) : Option Int → Nat
  | none => d
  | some v => if v < 0 then (v + (n : Int)).toNat else min v.toNat n
theorem sIx_none (n d : Nat) : sIx n d none = d := rfl
theorem sIx_nat (n d k : Nat) : sIx n d (some (k : Int)) = min k n := by
  show (if (k : Int) < 0 then ((k : Int) + (n : Int)).toNat else min (k : Int).toNat n) = min k n
  rw [if_neg (by omega), Int.toNat_natCast]
theorem sIx_le (n d : Nat) (hd : d ≤ n) (o : Option Int) : sIx n d o ≤ n := by
  cases o with
  | none => exact hd
  | some v =>
    show (if v < 0 then (v + (n : Int)).toNat else min v.toNat n) ≤ n
    by_cases hv : v < 0
    · rw [if_pos hv]; omega
    · rw [if_neg hv]; exact Nat.min_le_right _ _
theorem clip_eq (v : Int) (n d : Nat) : (if v < 0 then max (v + (n : Int)) 0 else min v (n : Int)) = ((sIx n d (some v) : Nat) : Int) := by
  show (if v < 0 then max (v + (n : Int)) 0 else min v (n : Int)) = (((if v < 0 then (v + (n : Int)).toNat else min v.toNat n) : Nat) : Int)
  by_cases hv : v < 0
  · simp only [if_pos hv]; omega
  · simp only [if_neg hv]; omega
theorem adjust_gen (lo hi : Option Int) (n : Nat) : Builtin.Slice.sliceAdjust lo hi 1 (n : Int) = (((sIx n 0 lo : Nat) : Int), ((sIx n n hi : Nat) : Int)) := by
  have h1 : ¬ ((1 : Int) < 0) := by omega
  unfold Builtin.Slice.sliceAdjust
  simp only [h1, if_false]
  refine Prod.ext ?_ ?_
  · cases lo with
    | none => rfl
    | some v => exact clip_eq v n 0
  · cases hi with
    | none => rfl
    | some v => exact clip_eq v n n
theorem places_gen (i j : Nat) : Builtin.Slice.slicePlaces (i : Int) (j : Int) 1 = j - i := by
  unfold Builtin.Slice.slicePlaces
  have h1 : (1 : Int) > 0 := by omega
  simp only [h1, if_true, Int.ediv_one]
  split <;> omega
theorem slicePart_ {v : Value} {o : Option Int} {Q : Option Int → Shared → Prop} (p : IsPart v o) (h : Q o s) : wpAny (model prog w) A (Builtin.Slice.slicePartIndex v) Q E s := by
  cases p with
  | none => exact slicePart_none h
  | int i t => exact slicePart_int h
theorem sliceApplied_gen {sl : Addr} {vl vu : Value} {lo hi : Option Int} {n : Nat} {Q : Int × Int × Nat → Shared → Prop} (hs : s.heap.IsSliceOf sl vl vu .none) (pl : IsPart vl lo) (pu : IsPart vu hi)
    (h : Q (((sIx n 0 lo : Nat) : Int), 1, sIx n n hi - sIx n 0 lo) s) : wpAny (model prog w) A (Builtin.Slice.sliceApplied (.ref sl) (pure (n : Int))) Q E s := by
  obtain ⟨os, hos, hcs, hds⟩ := id hs
  unfold Builtin.Slice.sliceApplied Builtin.Slice.sliceFields
  refine wpAny_bind (wpAny_bind (wpAny_field hos hds (x := vl) rfl (wpAny_bind (wpAny_field hos hds (x := vu) rfl (wpAny_bind (wpAny_field hos hds (x := .none) rfl (wpAny_pure ?_)))))))
  refine wpAny_bind (slicePart_none ?_)
  show wpAny _ _ (if ((1 : Int) == 0) = true then _ else _) _ _ s
  rw [if_neg (by decide)]
  refine wpAny_bind (slicePart_ pl (wpAny_bind (slicePart_ pu (wpAny_bind (wpAny_pure ?_)))))
  show wpAny _ _ (match Builtin.Slice.sliceAdjust lo hi 1 (n : Int) with | (lo, hi) => pure (lo, (1 : Int), Builtin.Slice.slicePlaces lo hi 1)) _ _ s
  rw [adjust_gen lo hi n]
  show wpAny _ _ (pure (((sIx n 0 lo : Nat) : Int), (1 : Int), Builtin.Slice.slicePlaces ((sIx n 0 lo : Nat) : Int) ((sIx n n hi : Nat) : Int) 1)) _ _ s
  rw [places_gen]
  exact wpAny_pure h
theorem pick_gen (xs : Array Value) (i k : Nat) : ((List.range k).filterMap fun (m : Nat) => xs[((i : Int) + (m : Int) * 1).toNat]?).toArray = ((xs.toList.drop i).take k).toArray := by
  have e : (fun (m : Nat) => xs[((i : Int) + (m : Int) * 1).toNat]?) = fun m => xs[i + m]? := by
    funext m
    have : ((i : Int) + (m : Int) * 1).toNat = i + m := by omega
    rw [this]
  rw [e]
  have := pick_run xs i k
  rw [List.filterMap_map] at this
  have e2 : ((fun x => xs[x]?) ∘ fun x => i + x) = fun m => xs[i + m]? := rfl
  rw [e2] at this
  rw [this]

theorem getItem_tuple_cut {t sl : Addr} {items : Array Value} {vl vu : Value} {lo hi : Option Int} {Q : Value → Shared → Prop} (ht : IsTup s.heap t items) (hs : s.heap.IsSliceOf sl vl vu .none) (pl : IsPart vl lo) (pu : IsPart vu hi)
    (hw : ¬ (sIx items.size 0 lo = 0 ∧ sIx items.size items.size hi = items.size))
    (h : Q (.ref s.heap.objs.size) { s with heap := s.heap.push { cls := .type "tuple", data := .seq ((items.toList.drop (sIx items.size 0 lo)).take (sIx items.size items.size hi - sIx items.size 0 lo)).toArray } })
    (hsz : items.size ≤ sizeLine) : wpAny (model prog w) A (getItem (.ref t) (.ref sl)) Q E s := by
  have htake : sizeOk (.seq ((items.toList.drop (sIx items.size 0 lo)).take (sIx items.size items.size hi - sIx items.size 0 lo)).toArray) := by
    show ((items.toList.drop (sIx items.size 0 lo)).take (sIx items.size items.size hi - sIx items.size 0 lo)).toArray.size ≤ sizeLine
    rw [List.size_toArray, List.length_take, List.length_drop, Array.length_toList]
    omega
  have hj : sIx items.size items.size hi ≤ items.size := sIx_le _ _ (Nat.le_refl _) hi
  obtain ⟨os, hos, hcs, hds⟩ := id hs
  have hTs : s.TypeIs (.ref sl) "slice" := ⟨os, hos, hcs⟩
  unfold getItem
  try with_reducible refine wpAny_holding ?_
  first | refine wpAny_bind (wpAny_pure ?_) | skip
  refine wpAny_bind (wpAny_sequenceKey ht.typeIs (by decide) ?_)
  refine wpAny_bind (wpAny_callSpecial?_slot (name := Str.ofString "__getitem__") ht.typeIs PyProof.Rows.slot_tuple_getitem
    (wpAny_call_entry PyProof.Rows.slot_tuple_getitem ht.typeIs entry_tuple_getitem ?_ (args_tuple_getitem _ _)))
  show wpAny _ _ (Builtin.Tuple.tupleItemsOf (.ref t) >>= _) _ _ s
  refine wpAny_bind (tupleItemsOf_ ht ?_)
  refine wpAny_bind (wpAny_typeOf hTs ?_)
  rw [if_pos (by decide)]
  refine wpAny_bind (sliceApplied_gen hs pl pu ?_)
  have hno : ¬ ((((sIx items.size 0 lo : Nat) : Int) == 0 && (1 : Int) == 1 && (sIx items.size items.size hi - sIx items.size 0 lo) == items.size) = true) := by
    intro q
    rw [Bool.and_eq_true, Bool.and_eq_true] at q
    have q1 : ((sIx items.size 0 lo : Nat) : Int) = 0 := eq_of_beq q.1.1
    have q2 : sIx items.size items.size hi - sIx items.size 0 lo = items.size := eq_of_beq q.2
    exact hw ⟨by omega, by omega⟩
  show wpAny _ _ (if (((sIx items.size 0 lo : Nat) : Int) == 0 && (1 : Int) == 1 && (sIx items.size items.size hi - sIx items.size 0 lo) == items.size) = true then _ else _) _ _ s
  rw [if_neg hno, pick_gen]
  first
    | exact wpAny_bind (m := Builtin.Tuple.tupleExact _) (wpAny_newObj_type (wpAny_pure ⟨_, rfl, wpAny_pure h⟩) htake)
    | exact wpAny_bind (m := Builtin.Tuple.tupleExact _) (wpAny_newObj_type (wpAny_bind (wpAny_pure (wpAny_pure ⟨_, rfl, wpAny_pure h⟩))) htake)
    | exact wpAny_bind (wpAny_bind (m := Builtin.Tuple.tupleExact _) (wpAny_newObj_type (wpAny_pure (wpAny_pure ⟨_, rfl, wpAny_pure h⟩)) htake))
    | exact wpAny_bind (wpAny_bind (m := Builtin.Tuple.tupleExact _) (wpAny_newObj_type (wpAny_pure ⟨_, rfl, wpAny_pure h⟩) htake))
end
end HT

namespace L2
open PySem PySem.Spec PyProof.Rows

noncomputable abbrev TO := St → Hp → (Option Int → Hp → Prop) → Prop
noncomputable def PO (X : Cx) (e : Option Expr) (t : TO) : Prop :=
  ∀ (pins : List (Addr × Obj)) (s : Shared) (σ : St) (H : Hp) (Q : Option Int → Hp → Prop), Inv X pins σ H s → t σ H Q →
    wpAny (model X.prog X.w) X.A (evalPart e X.env) (fun u s' => ∃ o H', Inv X pins σ H' s' ∧ IsPart u o ∧ Q o H') X.xe s
noncomputable def tNoPart : TO := fun _ H Q => Q none H
noncomputable def tPart (t : TE) : TO := fun σ H Q => t σ H fun x H1 => ExQ Q (fun i Q => x = .int i ∧ Q (some i) H1)

section
variable {X : Cx} {e : Expr} {te : TE} {lo hi : Option Expr} {tl th : TO} {pos p2 : Pos}

theorem po_none : PO X none tNoPart := by
  intro pins s σ H Q I h
  rw [evalPart_none]
  exact wpAny_pure ⟨none, H, I, .none, h⟩
theorem po_some (h : PE X e te) : PO X (some e) (tPart te) := by
  intro pins s σ H Q I hw
  rw [evalPart_some]
  refine thn (h pins s σ H _ I hw) fun u s1 hpat => ?_
  obtain ⟨x, H1, I1, r1, q1⟩ := hpat
  obtain ⟨i, rfl, q⟩ := q1
  obtain ⟨t, rfl⟩ := r1
  exact ⟨some i, H1, I1, .int i t, q⟩

noncomputable def SlR (X : Cx) (r : V → Option Int → Option Int → Hp → VK → Prop) : Prop :=
  ∀ (pins : List (Addr × Obj)) (s : Shared) (σ : St) (H : Hp) (x : V) (v vl vu : Value) (lo hi : Option Int) (sl : Addr) (Q : VK), Inv X pins σ H s → RelV x v → s.heap.IsSliceOf sl vl vu .none → IsPart vl lo → IsPart vu hi → r x lo hi H Q →
    ∃ T id, typeLookup (.type T) "__getitem__" = pure (some (.builtin id)) ∧ s.TypeIs v T ∧ wpAny (model X.prog X.w) X.A (getItem v (.ref sl)) (EP X pins σ Q) X.xe s
theorem SlR.or {r r' : V → Option Int → Option Int → Hp → VK → Prop} (h : SlR X r) (h' : SlR X r') : SlR X (fun x lo hi H Q => r x lo hi H Q ∨ r' x lo hi H Q) := by
  intro pins s σ H x v vl vu lo hi sl Q I rx hs pl pu q
  rcases q with q | q
  · exact h pins s σ H x v vl vu lo hi sl Q I rx hs pl pu q
  · exact h' pins s σ H x v vl vu lo hi sl Q I rx hs pl pu q
noncomputable def tSl (r : V → Option Int → Option Int → Hp → VK → Prop) (te : TE) (tl th : TO) : TE := fun σ H Q => te σ H fun x H1 => tl σ H1 fun l H2 => th σ H2 fun u H3 => r x l u H3 Q
theorem pe_slice {r : V → Option Int → Option Int → Hp → VK → Prop} (hr : SlR X r) (he : PE X e te) (hl : PO X lo tl) (hu : PO X hi th) : PE X (.Subscript e (.Slice lo hi none p2) pos) (tSl r te tl th) := by
  intro pins s σ H Q I h
  refine Subscript_ (thn (he pins s σ H _ I h) fun v s1 hpat => ?_)
  obtain ⟨x, H1, I1, r1, q1⟩ := hpat
  refine wpAny_Slice (thn (hl pins s1 σ H1 _ I1 q1) fun vl s2 hpat => ?_)
  obtain ⟨l, H2, I2, pl, q2⟩ := hpat
  refine thn (hu pins s2 σ H2 _ I2 q2) fun vu s3 hpat => ?_
  obtain ⟨u, H3, I3, pu, q3⟩ := hpat
  rw [evalPart_none]
  refine wpAny_pure ?_
  have I4 : Inv X pins σ H3 { s3 with heap := s3.heap.push { cls := .type "slice", data := .fields #[vl, vu, .none] } } := I3.kept (t' := s3.toks) fun b ob q => Heap.get?_push_of_some _ q
  obtain ⟨T, id, hT, ht, hg⟩ := hr pins { s3 with heap := s3.heap.push { cls := .type "slice", data := .fields #[vl, vu, .none] } } σ H3 x v vl vu l u s3.heap.objs.size Q I4 r1 (Heap.IsSliceOf.new ..) pl pu q3
  show wpAny (model X.prog X.w) X.A (subscriptTail e (.Slice lo hi none p2) v (.ref s3.heap.objs.size)) (EP X pins σ Q) X.xe { s3 with heap := s3.heap.push { cls := .type "slice", data := .fields #[vl, vu, .none] } }
  exact tail_any (ops := [.ref s3.heap.objs.size, v]) ht hT hg (by with_unfolding_all rfl)

noncomputable def cutV (xs : List V) (lo hi : Option Int) : List V := (xs.drop (HT.sIx xs.length 0 lo)).take (HT.sIx xs.length xs.length hi - HT.sIx xs.length 0 lo)
theorem cutV_length (xs : List V) (lo hi : Option Int) : (cutV xs lo hi).length ≤ xs.length := by
  unfold cutV
  rw [List.length_take, List.length_drop]
  omega
noncomputable def rSlT (K : PySem.W.Frag) : V → Option Int → Option Int → Hp → VK → Prop := fun x lo hi H Q => ExQ Q (fun a Q => ExQ Q (fun xs Q => x = .ref a ∧ SqT K H a xs ∧
  ¬ (HT.sIx xs.length 0 lo = 0 ∧ HT.sIx xs.length xs.length hi = xs.length) ∧ ∀ p, H p = none → Q (.ref p) (upd H p (.tup (cutV xs lo hi)))))
theorem sl_tup : SlR X (rSlT X.K) := by
  intro pins s σ H x v vl vu lo hi sl Q I rx hs pl pu h
  obtain ⟨a, xs, rfl, hx, hw, q⟩ := h
  cases rx
  obtain ⟨its, r, ht, hz⟩ := I.tuple hx
  have hlen : its.toArray.size = xs.length := by rw [List.size_toArray]; exact r.length.symm
  refine ⟨"tuple", _, PyProof.Rows.slot_tuple_getitem.lookup, ht.typeIs, ?_⟩
  refine HT.getItem_tuple_cut ht hs pl pu (by rw [hlen]; exact hw) ?_ (by rw [hlen]; exact hz)
  rw [hlen]
  refine ⟨.ref s.heap.objs.size, _, I.laid (t' := s.toks) (o := .tup (cutV xs lo hi)) (fun b ob q => Heap.get?_push_of_some _ q) (Nat.le_refl _) ?_, rfl, q _ (I.hok.fresh (Nat.le_refl _))⟩
  exact ⟨Nat.le_trans (cutV_length xs lo hi) hz, _, (r.drop (HT.sIx xs.length 0 lo)).take (HT.sIx xs.length xs.length hi - HT.sIx xs.length 0 lo), IsTup.new _ _⟩

noncomputable def rCatT (K : PySem.W.Frag) : R2 := fun x y H Q => ExQ Q (fun a Q => ExQ Q (fun b Q => ExQ Q (fun xs Q => ExQ Q (fun ys Q => x = .ref a ∧ y = .ref b ∧ SqT K H a xs ∧ SqT K H b ys ∧ xs ≠ [] ∧ xs.length + ys.length ≤ sizeLine ∧
  (ys = [] → Q (.ref a) H) ∧ (ys ≠ [] → ∀ p, H p = none → Q (.ref p) (upd H p (.tup (xs ++ ys))))))))
theorem Vals.nil_iff {xs : List V} {us : List Value} (r : Vals xs us) : us = [] ↔ xs = [] := by
  cases r with
  | nil => simp
  | cons _ _ => simp
theorem op_catT : OpR X (binaryOp .Add) (rCatT X.K) := by
  intro pins s σ H x y v u Q I rx ry h
  obtain ⟨a, b, xs, ys, rfl, rfl, ha, hb, hx, hz, q1, q2⟩ := h
  cases rx
  cases ry
  obtain ⟨its, r1, p1, _⟩ := I.tuple ha
  obtain ⟨its2, r2, p2, _⟩ := I.tuple hb
  refine HT.cat_tup p1 p2 (fun z => hx (r1.nil_iff.mp z)) (fun z => ⟨.ref a, H, I, rfl, q1 (r2.nil_iff.mp z)⟩) (fun z => ?_) (by rw [← r1.length, ← r2.length]; exact hz)
  refine ⟨.ref s.heap.objs.size, _, I.laid (t' := s.toks) (o := .tup (xs ++ ys)) (fun b ob q => Heap.get?_push_of_some _ q) (Nat.le_refl _) ?_, rfl, q2 (fun w => z (r2.nil_iff.mpr w)) _ (I.hok.fresh (Nat.le_refl _))⟩
  exact ⟨by rw [List.length_append]; exact hz, _, r1.append r2, IsTup.new _ _⟩
end
end L2

namespace L2
open PySem PySem.Spec PyProof.Rows

noncomputable def ixN (n : Nat) (i : Int) : Option Nat := if 0 ≤ i then (if i < n then some i.toNat else none) else if -(n : Int) ≤ i then some (i + n).toNat else none
noncomputable def atI {α : Type} (xs : List α) (i : Int) : Option α := (ixN xs.length i).bind fun j => xs[j]?
theorem ixN_seq {n : Nat} {i : Int} {j : Nat} (h : ixN n i = some j) : seqIndex? i n = some j ∧ j < n ∧ -(n : Int) ≤ i ∧ i < n := by
  unfold ixN at h
  by_cases h0 : 0 ≤ i
  · rw [if_pos h0] at h
    by_cases h1 : i < n
    · rw [if_pos h1] at h
      have e : i.toNat = j := Option.some.inj h
      exact ⟨by rw [seqIndex_of h0 h1, e], by omega, by omega, h1⟩
    · rw [if_neg h1] at h; cases h
  · rw [if_neg h0] at h
    by_cases h1 : -(n : Int) ≤ i
    · rw [if_pos h1] at h
      have e : (i + n).toNat = j := Option.some.inj h
      exact ⟨by rw [seqIndex_neg (by omega) h1, e], by omega, h1, by omega⟩
    · rw [if_neg h1] at h; cases h
theorem atI_get {α : Type} {xs : List α} {i : Int} {v : α} (h : atI xs i = some v) : ∃ j, seqIndex? i xs.length = some j ∧ xs[j]? = some v ∧ j < xs.length ∧ -(xs.length : Int) ≤ i ∧ i < xs.length := by
  unfold atI at h
  cases e : ixN xs.length i with
  | none => rw [e] at h; cases h
  | some j =>
    rw [e] at h
    obtain ⟨h1, h2, h3, h4⟩ := ixN_seq e
    exact ⟨j, h1, h, h2, h3, h4⟩
theorem atI_nat {α : Type} {xs : List α} {j : Nat} {v : α} (h : xs[j]? = some v) : atI xs (j : Int) = some v := by
  have hj : j < xs.length := (List.getElem?_eq_some_iff.mp h).1
  have e : ixN xs.length (j : Int) = some j := by
    unfold ixN
    rw [if_pos (by omega), if_pos (by omega)]; simp
  unfold atI; rw [e]; exact h
noncomputable def PlainIx (b : Expr) : Prop := ∀ o i, subscripted b false o i = operate [o, i] (getItem o i)
noncomputable def IxR (X : Cx) (r : R2) : Prop :=
  ∀ (value slice : Expr) (pins : List (Addr × Obj)) (s : Shared) (σ : St) (H : Hp) (x y : V) (v u : Value) (Q : VK), Inv X pins σ H s → RelV x v → RelV y u → r x y H Q →
    subscripted slice false v u = operate [v, u] (getItem v u) → wpAny (model X.prog X.w) X.A (subscriptTail value slice v u) (EP X pins σ Q) X.xe s
noncomputable def MtR (X : Cx) (id : String) (r : V → List V → Hp → VK → Prop) : Prop :=
  ∀ (pins : List (Addr × Obj)) (s : Shared) (σ : St) (H : Hp) (x : V) (xs : List V) (v : Value) (us : List Value) (Q : VK), Inv X pins σ H s → RelV x v → Vals xs us → r x xs H Q →
    wpAny (model X.prog X.w) X.A (call (.builtin id) (v :: us)) (EP X pins σ Q) X.xe s
section
variable {X : Cx} {a b : Expr} {ta tb : TE} {pos : Pos}
theorem IxR.or {r r' : R2} (h : IxR X r) (h' : IxR X r') : IxR X (fun x y H Q => r x y H Q ∨ r' x y H Q) := by
  intro value slice pins s σ H x y v u Q I rx ry q hs
  rcases q with q | q
  · exact h value slice pins s σ H x y v u Q I rx ry q hs
  · exact h' value slice pins s σ H x y v u Q I rx ry q hs
theorem MtR.or {id : String} {r r' : V → List V → Hp → VK → Prop} (h : MtR X id r) (h' : MtR X id r') : MtR X id (fun x xs H Q => r x xs H Q ∨ r' x xs H Q) := by
  intro pins s σ H x xs v us Q I rx rs q
  rcases q with q | q
  · exact h pins s σ H x xs v us Q I rx rs q
  · exact h' pins s σ H x xs v us Q I rx rs q
theorem pe_ix {r : R2} (hr : IxR X r) (ha : PE X a ta) (hb : PE X b tb) (hs : PlainIx b) : PE X (.Subscript a b pos) (tOp r ta tb) := by
  intro pins s σ H Q I h
  exact Subscript_ (binT ha hb I h fun v u s2 x y H2 I2 rx ry q => hr a b pins s2 σ H2 x y v u Q I2 rx ry q (hs _ _))

noncomputable def rIxL (K : PySem.W.Frag) : R2 := fun x y H Q => ExQ Q (fun p Q => ExQ Q (fun xs Q => ExQ Q (fun i Q => ExQ Q (fun v Q => x = .ref p ∧ y = .int i ∧ SqL K H p xs ∧ atI xs i = some v ∧ Q v H))))
noncomputable def rIxT (K : PySem.W.Frag) : R2 := fun x y H Q => ExQ Q (fun p Q => ExQ Q (fun xs Q => ExQ Q (fun i Q => ExQ Q (fun v Q => x = .ref p ∧ y = .int i ∧ SqT K H p xs ∧ atI xs i = some v ∧ Q v H))))
theorem ix_list : IxR X (rIxL X.K) := by
  intro value slice pins s σ H x y v u Q I rx ry h hs
  obtain ⟨p, xs, i, z, rfl, rfl, hq, he, q⟩ := h
  cases rx
  obtain ⟨t, rfl⟩ := ry
  obtain ⟨its, r, pl, hz⟩ := I.list hq
  obtain ⟨j, h1, h2, h3, h4, h5⟩ := atI_get he
  obtain ⟨w, ew, rw'⟩ := r.get h2
  have hl := r.length
  have hn := line63
  have fin : EP X pins σ Q w s := ⟨z, H, I, rw', q⟩
  by_cases h0 : 0 ≤ i
  · have hj : i.toNat = j := by
      rw [seqIndex_of h0 h5] at h1
      exact Option.some.inj h1
    exact item_listR pl.isList h0 (by omega) (by rw [hj]; simpa using ew) fin hs
  · have hj : (i + (its.toArray.size : Int)).toNat = j := by
      rw [seqIndex_neg (by omega) h4] at h1
      rw [List.size_toArray, ← hl]
      exact Option.some.inj h1
    exact subscriptTail_builtinR (x := w) pl.isList.typeIs slot_list_getitem.lookup
      (wpAny_getItem_list_neg (Q := fun r s' => r = w ∧ EP X pins σ Q r s') pl.isList (by omega) (by rw [List.size_toArray] <;> omega) (by omega) (by rw [hj]; simpa using ew) ⟨rfl, fin⟩) hs
theorem ix_tup : IxR X (rIxT X.K) := by
  intro value slice pins s σ H x y v u Q I rx ry h hs
  obtain ⟨p, xs, i, z, rfl, rfl, hq, he, q⟩ := h
  cases rx
  obtain ⟨t, rfl⟩ := ry
  obtain ⟨its, r, pl, hz⟩ := I.tuple hq
  obtain ⟨j, h1, h2, h3, h4, h5⟩ := atI_get he
  obtain ⟨w, ew, rw'⟩ := r.get h2
  have hl := r.length
  have hn := line63
  have fin : EP X pins σ Q w s := ⟨z, H, I, rw', q⟩
  exact subscriptTail_builtinR (x := w) pl.typeIs slot_tuple_getitem.lookup
    (getItem_tuple (j := j) (Q := fun r s' => r = w ∧ EP X pins σ Q r s') pl (by omega) (by omega) (by rw [List.size_toArray, ← hl]; exact h1) (by simpa using ew) ⟨rfl, fin⟩) hs
theorem mapSeq_set (its : List Value) (n j : Nat) (u : Value) : Obj.mapSeq (·.setIfInBounds j u) { cls := .type "list", data := .seq its.toArray n } = { cls := .type "list", data := .seq (its.set j u).toArray n } := by
  simp [Obj.mapSeq]
theorem Inv.lst {pins : List (Addr × Obj)} {σ : St} {H : Hp} {s : Shared} {p : Addr} {xs : List V} (I : Inv X pins σ H s) (h : H p = some (.lst xs)) :
    ∃ (its : List Value) (n : Nat), Vals xs its ∧ s.heap.get? p = some { cls := .type "list", data := .seq its.toArray n } ∧ xs.length ≤ sizeLine := by
  obtain ⟨z, its, n, r, e⟩ := I.hok p _ h
  exact ⟨its, n, r, e, z⟩
theorem Inv.lstUpd {pins : List (Addr × Obj)} {σ : St} {H : Hp} {s : Shared} {p : Addr} {xs ys : List V} {its its' : List Value} {n n' : Nat} {f : Obj → Obj} (I : Inv X pins σ H s) (h : H p = some (.lst xs))
    (ho : s.heap.get? p = some { cls := .type "list", data := .seq its.toArray n }) (hf : f { cls := .type "list", data := .seq its.toArray n } = { cls := .type "list", data := .seq its'.toArray n' }) (r : Vals ys its') (hz : ys.length ≤ sizeLine) (t : Nat) :
    Inv X pins σ (upd H p (.lst ys)) { s with heap := s.heap.update p f, toks := t } := by
  have e : (s.heap.update p f).get? p = some { cls := .type "list", data := .seq its'.toArray n' } := by
    rw [Heap.get?_update_self f ho (by rw [hf] <;> rfl), hf]
  refine I.write (x := p) (e := p) (by rw [h]; trivial) (.inl rfl) (fun b u hb q => (Heap.get?_update_other _ _ (Ne.symm hb)).trans q) ⟨_, e⟩ ?_
  exact ⟨hz, its', n', r, e⟩
noncomputable def rSetL : V → V → V → Hp → (Hp → Prop) → Prop := fun o i v H Q => ExQ Q (fun p Q => ExQ Q (fun xs Q => ExQ Q (fun k Q => ExQ Q (fun j Q => o = .ref p ∧ i = .int k ∧ H p = some (.lst xs) ∧ ixN xs.length k = some j ∧ Q (upd H p (.lst (xs.set j v)))))))
theorem set_list : PSet X rSetL := by
  intro pins s σ H o i v ov iv u Q I ro ri rv h
  obtain ⟨p, xs, k, j, rfl, rfl, hp, hj, q⟩ := h
  cases ro
  obtain ⟨t, rfl⟩ := ri
  obtain ⟨its, n, r, ho, hz⟩ := I.lst hp
  obtain ⟨h1, h2, h3, h4⟩ := ixN_seq hj
  have hl := r.length
  have hn := line63
  have I' : Inv X pins σ (upd H p (.lst (xs.set j v))) { s with heap := s.heap.update p (Obj.mapSeq (·.setIfInBounds j u)) } :=
    I.lstUpd hp ho (mapSeq_set its n j u) (r.set rv j) (by rw [List.length_set]; exact hz) s.toks
  by_cases h0 : 0 ≤ k
  · have hk : k.toNat = j := by
      rw [seqIndex_of h0 h4] at h1
      exact Option.some.inj h1
    exact PySem.W.ki_setAt ho h0 (by omega) (by rw [List.size_toArray, ← hl]; exact h4) (by rw [hk]; exact ⟨_, I', q⟩)
  · have hk : (k + (its.toArray.size : Int)).toNat = j := by
      rw [seqIndex_neg (by omega) h3] at h1
      rw [List.size_toArray, ← hl]
      exact Option.some.inj h1
    exact PySem.W.ki_setBack ho (by omega) (by rw [List.size_toArray, ← hl]; exact h3) (by omega) (by rw [hk]; exact ⟨_, I', q⟩)

theorem slice_bounds (lo hi : Option Int) (n : Nat) : (sliceBounds lo hi none n).1 = ((HT.sIx n 0 lo : Nat) : Int) ∧ (sliceBounds lo hi none n).2.1 = ((HT.sIx n n hi : Nat) : Int) ∧ (sliceBounds lo hi none n).2.2 = 1 := by
  refine ⟨?_, ?_, rfl⟩
  · cases lo with
    | none => simp [sliceBounds, HT.sIx]
    | some i =>
      simp only [sliceBounds, HT.sIx, Option.getD_none, show (1 : Int) > 0 by decide, if_true]
      by_cases h : i < 0
      · simp only [h, if_true] <;> omega
      · simp only [h, if_false] <;> omega
  · cases hi with
    | none => simp [sliceBounds, HT.sIx]
    | some i =>
      simp only [sliceBounds, HT.sIx, Option.getD_none, show (1 : Int) > 0 by decide, if_true]
      by_cases h : i < 0
      · simp only [h, if_true] <;> omega
      · simp only [h, if_false] <;> omega
theorem slicePick_cut (its : List Value) (lo hi : Option Int) : slicePick its.toArray lo hi none = ((its.drop (HT.sIx its.length 0 lo)).take (HT.sIx its.length its.length hi - HT.sIx its.length 0 lo)).toArray := by
  obtain ⟨h1, h2, h3⟩ := slice_bounds lo hi its.toArray.size
  unfold slicePick
  rw [h1, h2, h3]
  simp only [sliceRange_one, pick_run, List.size_toArray] <;> rfl
noncomputable def rSlL (K : PySem.W.Frag) : V → Option Int → Option Int → Hp → VK → Prop := fun x lo hi H Q => ExQ Q (fun a Q => ExQ Q (fun xs Q => x = .ref a ∧ SqL K H a xs ∧ ∀ p, H p = none → Q (.ref p) (upd H p (.lst (cutV xs lo hi)))))
theorem sl_list : SlR X (rSlL X.K) := by
  intro pins s σ H x v vl vu lo hi sl Q I rx hs pl pu h
  obtain ⟨a, xs, rfl, hx, q⟩ := h
  cases rx
  obtain ⟨its, r, ht, hz⟩ := I.list hx
  have hlen := r.length
  refine ⟨"list", _, slot_list_getitem.lookup, ht.isList.typeIs, ?_⟩
  refine wpAny_getItem_list_slice ht.isList hs pl pu .none (by simp) ?_ (by rw [List.size_toArray] <;> omega)
  rw [slicePick_cut, ← hlen]
  refine ⟨.ref s.heap.objs.size, _, I.laid (t' := s.toks) (o := .lst (cutV xs lo hi)) (fun b ob q => Heap.get?_push_of_some _ q) (Nat.le_refl _) ?_, rfl, q _ (I.hok.fresh (Nat.le_refl _))⟩
  exact ⟨Nat.le_trans (cutV_length xs lo hi) hz, _, 0, (r.drop (HT.sIx xs.length 0 lo)).take (HT.sIx xs.length xs.length hi - HT.sIx xs.length 0 lo), Heap.get?_push_size _ rfl⟩

noncomputable def flatV : V → Bool
  | .non => true
  | .bl _ => true
  | .int _ => true
  | .str _ => true
  | _ => false
noncomputable def eqV : V → V → Bool
  | .non, .non => true
  | .bl a, .bl b => a == b
  | .bl a, .int b => (if a then 1 else 0) == b
  | .int a, .bl b => a == (if b then 1 else 0)
  | .int a, .int b => a == b
  | .str a, .str b => a == b
  | _, _ => false
theorem eqAt_V {A : Around} {s : Shared} {y x : V} {u v : Value} (ry : RelV y u) (rx : RelV x v) (fy : flatV y = true) (fx : flatV x = true) : SeqAt.EqAt A s u v (eqV y x) := by
  cases y with
  | non =>
    cases ry
    cases x with
    | non => cases rx; exact SeqAt.EqAt.same _
    | bl b => cases rx; exact SeqAt.EqAt.none_bool b
    | int b => obtain ⟨t, rfl⟩ := rx; exact SeqAt.EqAt.none_int b t
    | str b => obtain ⟨t, rfl⟩ := rx; exact SeqAt.EqAt.none_str b t
    | _ => exact absurd (show false = true from fx) Bool.false_ne_true
  | bl a =>
    cases ry
    cases x with
    | non => cases rx; exact SeqAt.EqAt.bool_none a
    | bl b => cases rx; exact SeqAt.EqAt.bool_bool a b
    | int b => obtain ⟨t, rfl⟩ := rx; exact SeqAt.EqAt.bool_int a b t
    | str b => obtain ⟨t, rfl⟩ := rx; exact SeqAt.EqAt.bool_str a b t
    | _ => exact absurd (show false = true from fx) Bool.false_ne_true
  | int a =>
    obtain ⟨t', rfl⟩ := ry
    cases x with
    | non => cases rx; exact SeqAt.EqAt.int_none a t'
    | bl b => cases rx; exact SeqAt.EqAt.int_bool a t' b
    | int b => obtain ⟨t, rfl⟩ := rx; exact SeqAt.EqAt.int_int a t' b t
    | str b => obtain ⟨t, rfl⟩ := rx; exact SeqAt.EqAt.int_str a t' b t
    | _ => exact absurd (show false = true from fx) Bool.false_ne_true
  | str a =>
    obtain ⟨t', rfl⟩ := ry
    cases x with
    | non => cases rx; exact SeqAt.EqAt.str_none a t'
    | bl b => cases rx; exact SeqAt.EqAt.str_bool a t' b
    | int b => obtain ⟨t, rfl⟩ := rx; exact SeqAt.EqAt.str_int a t' b t
    | str b => obtain ⟨t, rfl⟩ := rx; exact SeqAt.EqAt.str_str a t' b t
    | _ => exact absurd (show false = true from fx) Bool.false_ne_true
  | _ => exact absurd (show false = true from fy) Bool.false_ne_true
noncomputable def eqU (x : V) (u : Value) : Bool := match u with
  | .none => eqV .non x
  | .bool b => eqV (.bl b) x
  | .int i _ => eqV (.int i) x
  | .str z _ => eqV (.str z) x
  | _ => false
theorem eqU_of {x y : V} {u : Value} (r : RelV y u) (f : flatV y = true) : eqU x u = eqV y x := by
  cases y with
  | non => cases r; rfl
  | bl b => cases r; rfl
  | int i => obtain ⟨t, rfl⟩ := r; rfl
  | str z => obtain ⟨t, rfl⟩ := r; rfl
  | _ => exact absurd (show false = true from f) Bool.false_ne_true
theorem any_eqU {x : V} : ∀ {xs : List V} {us : List Value}, Vals xs us → xs.all flatV = true → us.any (eqU x) = xs.any fun y => eqV y x
  | _, _, .nil, _ => rfl
  | y :: xs, u :: us, .cons r t, f => by
    rw [List.all_cons, Bool.and_eq_true] at f
    rw [List.any_cons, List.any_cons, eqU_of r f.1, any_eqU t f.2]
theorem mem_eqAt {A : Around} {s : Shared} {x : V} {v : Value} (rx : RelV x v) (fx : flatV x = true) : ∀ {xs : List V} {us : List Value}, Vals xs us → xs.all flatV = true → ∀ u ∈ us, SeqAt.EqAt A s u v (eqU x u)
  | _, _, .nil, _ => fun u hu => by cases hu
  | y :: xs, u :: us, .cons r t, f => fun u' hu => by
    rw [List.all_cons, Bool.and_eq_true] at f
    rcases List.mem_cons.mp hu with rfl | hu
    · rw [eqU_of r f.1]; exact eqAt_V r rx f.1 fx
    · exact mem_eqAt rx fx t f.2 u' hu
noncomputable def inV (x : V) (xs : List V) : Bool := xs.any fun y => eqV y x
noncomputable def rIn (K : PySem.W.Frag) (neg : Bool) : R2 := fun x y H Q => ExQ Q (fun p Q => ExQ Q (fun xs Q => y = .ref p ∧ (SqL K H p xs ∨ SqT K H p xs) ∧ flatV x = true ∧ xs.all flatV = true ∧ Q (.bl (if neg then !inV x xs else inV x xs)) H))
theorem op_in_seq : OpR X (compareOp .In) (rIn X.K false) := by
  intro pins s σ H x y v u Q I rx ry h
  obtain ⟨p, xs, rfl, hq, fx, fs, q⟩ := h
  cases ry
  rcases hq with hq | hq
  · obtain ⟨its, r, pl, hz⟩ := I.list hq
    refine SeqAt.in_listAt (eqU x) pl.isList (fun w hw => mem_eqAt rx fx r fs w (by simpa using hw)) ⟨.bl _, H, I, rfl, ?_⟩
    rw [show its.toArray.any (eqU x) = its.any (eqU x) by simp, any_eqU r fs]
    exact q
  · obtain ⟨its, r, pl, hz⟩ := I.tuple hq
    refine SeqAt.in_tupleAt (eqU x) pl (fun w hw => mem_eqAt rx fx r fs w (by simpa using hw)) ⟨.bl _, H, I, rfl, ?_⟩
    rw [show its.toArray.any (eqU x) = its.any (eqU x) by simp, any_eqU r fs]
    exact q
theorem op_notIn_seq : OpR X (compareOp .NotIn) (rIn X.K true) := by
  intro pins s σ H x y v u Q I rx ry h
  obtain ⟨p, xs, rfl, hq, fx, fs, q⟩ := h
  cases ry
  rcases hq with hq | hq
  · obtain ⟨its, r, pl, hz⟩ := I.list hq
    refine SeqAt.notIn_listAt (eqU x) pl.isList (fun w hw => mem_eqAt rx fx r fs w (by simpa using hw)) ⟨.bl _, H, I, rfl, ?_⟩
    rw [show its.toArray.any (eqU x) = its.any (eqU x) by simp, any_eqU r fs]
    exact q
  · obtain ⟨its, r, pl, hz⟩ := I.tuple hq
    refine SeqAt.notIn_tupleAt (eqU x) pl (fun w hw => mem_eqAt rx fx r fs w (by simpa using hw)) ⟨.bl _, H, I, rfl, ?_⟩
    rw [show its.toArray.any (eqU x) = its.any (eqU x) by simp, any_eqU r fs]
    exact q
theorem call_len_seq : CallR X (.builtin "len") (fun xs H Q => ∃ p ys, xs = [.ref p] ∧ (SqL X.K H p ys ∨ SqT X.K H p ys) ∧ Q (.int ys.length) H) := by
  intro pins s σ H xs us Q I r h
  obtain ⟨p, ys, rfl, hq, q⟩ := h
  obtain ⟨u, rfl, rx⟩ := vals1 r
  cases rx
  have hn := line63
  rcases hq with hq | hq
  · obtain ⟨its, r', pl, hz⟩ := I.list hq
    have hlen := r'.length
    exact Calls.call_len_list pl.isList (by simp only [List.size_toArray] <;> omega) ⟨.int ys.length, H, I.tok _, ⟨s.toks + 1, by rw [List.size_toArray, hlen]⟩, q⟩
  · obtain ⟨its, r', pl, hz⟩ := I.tuple hq
    have hlen := r'.length
    exact len_tuple pl (by simp only [List.size_toArray] <;> omega) ⟨.int ys.length, H, I.tok _, ⟨s.toks + 1, by rw [List.size_toArray, hlen]⟩, q⟩
theorem CallR.or {f : Value} {r r' : List V → Hp → VK → Prop} (h : CallR X f r) (h' : CallR X f r') : CallR X f (fun xs H Q => r xs H Q ∨ r' xs H Q) := by
  intro pins s σ H xs us Q I rs q
  rcases q with q | q
  · exact h pins s σ H xs us Q I rs q
  · exact h' pins s σ H xs us Q I rs q
theorem call_list_of : CallR X (.type "list") (fun xs H Q => ∃ p ys, xs = [.ref p] ∧ (SqL X.K H p ys ∨ SqT X.K H p ys) ∧ ∀ l, H l = none → Q (.ref l) (upd H l (.lst ys))) := by
  intro pins s σ H xs us Q I r h
  obtain ⟨p, ys, rfl, hq, q⟩ := h
  obtain ⟨u, rfl, rx⟩ := vals1 r
  cases rx
  have fin : ∀ (its : List Value), Vals ys its → ys.length ≤ sizeLine → ∀ (h' : Heap) (c' : Nat), (∀ b o', s.heap.get? b = some o' → h'.get? b = some o') →
      h'.get? s.heap.objs.size = some { cls := .type "list", dict := none, data := .seq its.toArray c', slots := #[] } → EP X pins σ Q (.ref s.heap.objs.size) { s with heap := h' } := fun its r' hz h' c' kp e =>
    ⟨.ref s.heap.objs.size, _, I.laid (t' := s.toks) kp (Nat.le_refl _) (show ObjOk X.prog X.w _ h' _ (.lst ys) from ⟨hz, its, c', r', e⟩), rfl, q _ (I.hok.fresh (Nat.le_refl _))⟩
  rcases hq with hq | hq
  · obtain ⟨its, r', pl, hz⟩ := I.list hq
    have hlen := r'.length
    obtain ⟨o, ho, hc, n, hd⟩ := pl.isList
    exact call_list_seq p (.inl rfl) ho hc hd (fun h' c' kp e => fin its r' hz h' c' kp e) (by simp only [List.size_toArray] <;> omega)
  · obtain ⟨its, r', pl, hz⟩ := I.tuple hq
    have hlen := r'.length
    obtain ⟨o, ho, hc, n, hd⟩ := pl
    exact call_list_seq p (.inr rfl) ho hc hd (fun h' c' kp e => fin its r' hz h' c' kp e) (by simp only [List.size_toArray] <;> omega)
theorem call_tuple_of : CallR X (.type "tuple") (fun xs H Q => ∃ p ys, xs = [.ref p] ∧ ((SqL X.K H p ys ∧ ∀ l, H l = none → Q (.ref l) (upd H l (.tup ys))) ∨ (SqT X.K H p ys ∧ Q (.ref p) H))) := by
  intro pins s σ H xs us Q I r h
  obtain ⟨p, ys, rfl, h⟩ := h
  obtain ⟨u, rfl, rx⟩ := vals1 r
  cases rx
  rcases h with ⟨hq, q⟩ | ⟨hq, q⟩
  · obtain ⟨its, r', pl, hz⟩ := I.list hq
    have hlen := r'.length
    refine call_tuple_list pl.isList (fun h' kp => ?_) (by simp only [List.size_toArray] <;> omega)
    have I1 : Inv X pins σ H { s with heap := h' } := I.kept (t' := s.toks) kp
    have I2 : Inv X pins σ (upd H h'.objs.size (.tup ys)) { s with heap := h'.push { cls := .type "tuple", data := .seq its.toArray } } :=
      I1.laid (t' := s.toks) (fun b o e => Heap.get?_push_of_some _ e) (Nat.le_refl _) (show ObjOk X.prog X.w _ _ _ (.tup ys) from ⟨hz, its, r', IsTup.new _ _⟩)
    exact ⟨.ref h'.objs.size, _, I2, rfl, q _ (I1.hok.fresh (Nat.le_refl _))⟩
  · obtain ⟨its, r', pl, hz⟩ := I.tuple hq
    exact call_tuple_same pl ⟨.ref p, H, I, rfl, q⟩

noncomputable def tyV (K : PySem.W.Frag) (T : String) (x : V) (H : Hp) : Prop := match x with
  | .str _ => T = "str"
  | .int _ => T = "int"
  | .ref p => (T = "list" ∧ ∃ xs, SqL K H p xs) ∨ (T = "tuple" ∧ ∃ o, K.lookup p = some o ∧ o.cls = .type "tuple" ∧ o.dict = none) ∨
      (T = "dict" ∧ ((∃ kvs, H p = some (.dK kvs)) ∨ ∃ kvs, H p = some (.dT kvs))) ∨ (T = "set" ∧ ∃ S n, H p = some (.set S n))
  | _ => False
theorem tyV_is {pins : List (Addr × Obj)} {σ : St} {H : Hp} {s : Shared} {T : String} {x : V} {v : Value} (I : Inv X pins σ H s) (r : RelV x v) (ty : tyV X.K T x H) :
    s.TypeIs v T ∧ ∀ a, v = .ref a → ∃ ob, s.heap.get? a = some ob ∧ ob.dict = none := by
  cases x with
  | str z =>
    obtain ⟨t, rfl⟩ := r
    cases (show T = "str" from ty)
    exact ⟨typeIs_str s z t, fun _ e => nomatch e⟩
  | int i =>
    obtain ⟨t, rfl⟩ := r
    cases (show T = "int" from ty)
    exact ⟨typeIs_int s i t, fun _ e => nomatch e⟩
  | ref p =>
    cases r
    rcases ty with ⟨rfl, xs, hq⟩ | ⟨rfl, o, hk, hc, hd⟩ | ⟨rfl, hk⟩ | ⟨rfl, S, n, hk⟩
    · obtain ⟨its, _, pl, _⟩ := I.list hq
      refine ⟨pl.isList.typeIs, fun a e => ?_⟩
      cases e
      obtain ⟨o, n, e, c, hd, _⟩ := pl
      exact ⟨o, e, hd⟩
    · refine ⟨⟨o, I.kIn p o hk, hc⟩, fun a e => ?_⟩
      cases e
      exact ⟨o, I.kIn _ o hk, hd⟩
    · have z : ∃ o, s.heap.get? p = some o ∧ o.ExactDict := by
        rcases hk with ⟨kvs, hk⟩ | ⟨kvs, hk⟩
        · obtain ⟨_, _, _, _, o, _, _, e, ex, _⟩ := I.hok p _ hk
          exact ⟨o, e, ex⟩
        · obtain ⟨_, _, _, _, o, _, _, e, ex, _⟩ := I.hok p _ hk
          exact ⟨o, e, ex⟩
      obtain ⟨o, e, ex⟩ := z
      refine ⟨⟨o, e, ex.1⟩, fun a e2 => ?_⟩
      cases e2
      exact ⟨o, e, ex.2.1⟩
    · obtain ⟨o, _, _, _, e, ex, _⟩ := I.hok p _ hk
      refine ⟨⟨o, e, ex.1⟩, fun a e2 => ?_⟩
      cases e2
      exact ⟨o, e, ex.2.1⟩
  | _ => exact False.elim ty
noncomputable def tBM0 (K : PySem.W.Frag) (T : String) (r : V → List V → Hp → VK → Prop) (to : TE) : TE := fun σ H Q => to σ H fun x H1 => tyV K T x H1 ∧ r x [] H1 Q
noncomputable def tBM (K : PySem.W.Frag) (T : String) (r : V → List V → Hp → VK → Prop) (to : TE) (t : TA) : TE := fun σ H Q => to σ H fun x H1 => tyV K T x H1 ∧ t σ H1 fun xs H2 => r x xs H2 Q
variable {o e : Expr} {es : List Expr} {to : TE} {t : TA} {name : Str} {apos cpos : Pos} {T id : String} {r : V → List V → Hp → VK → Prop}
theorem pe_bm0 (pa : PlainAttrs T) (slot : Slot T name id) (hty : typeOf (.builtin id) = pure (.type "method_descriptor")) (hm : MtR X id r) (ho : PE X o to)
    (hbase : attributeBase o name X.env (eval o X.env) = eval o X.env := by rfl) (hline : (apos.endLine == cpos.line) = true := by rfl) : PE X (.Call (.Attribute o name apos) [] [] cpos) (tBM0 X.K T r to) := by
  intro pins s σ H Q I h
  refine wpAny_Call_method0_late hbase hline (thn (ho pins s σ H _ I h) fun v s1 hpat => ?_)
  obtain ⟨x, H1, I1, r1, ty, q1⟩ := hpat
  obtain ⟨h1, h2⟩ := tyV_is I1 r1 ty
  exact ⟨T, id, pa, slot, hty, h1, h2, Calls.callWith_builtin rfl (PySem.evalArgs_none (hm pins s1 σ H1 x [] v [] Q I1 r1 .nil q1))⟩
theorem pe_bm (pa : PlainAttrs T) (slot : Slot T name id) (hty : typeOf (.builtin id) = pure (.type "method_descriptor")) (hm : MtR X id r) (ho : PE X o to) (ha : PA X (e :: es) t)
    (hbase : attributeBase o name X.env (eval o X.env) = eval o X.env := by rfl)
    (hfew : ((backTo cpos (starEach (e :: es) X.env)).all (fun x => !x.1) && (backToKw cpos (keywordEach [] X.env)).all (fun x => x.1.isSome)
      && decide ((e :: es).length + ([] : List Keyword).length + (if ([] : List Keyword).isEmpty then 0 else 1) < 30)) = true := by rfl)
    (hline : (apos.endLine == cpos.line) = true := by rfl) (hs : starEach (e :: es) X.env = (false, eval e X.env) :: starEach es X.env := by rfl) (hplain : (backTo cpos (starEach es X.env)).any (·.1) = false := by rfl) :
    PE X (.Call (.Attribute o name apos) (e :: es) [] cpos) (tBM X.K T r to t) := by
  intro pins s σ H Q I h
  refine wpAny_Call_method_late hbase hfew hline rfl (thn (ho pins s σ H _ I h) fun v s1 hpat => ?_)
  obtain ⟨x, H1, I1, r1, ty, q1⟩ := hpat
  obtain ⟨h1, h2⟩ := tyV_is I1 r1 ty
  refine ⟨T, id, pa, slot, hty, h1, h2, ?_⟩
  have hA := ha cpos pins s1 σ H1 _ I1 q1
  rw [hs] at hA ⊢
  refine Calls.callWith_builtin (by show (false || (backTo cpos (starEach es X.env)).any (·.1)) = false; rw [hplain] <;> rfl) (Calls.evalArgs_plain ?_)
  exact thn hA fun us s2 hp2 => by obtain ⟨vs, H2, I2, r2, q2⟩ := hp2; exact hm pins s2 σ H2 x vs v us Q I2 r1 r2 q2
/- xs.append(e), list.index on a module's tuple .. are MtR facts of 06m -/
end
end L2

namespace L2
open PySem PySem.Spec PyProof.Rows

noncomputable def MtM (X : Cx) (id : String) (r : V → List V → Hp → VK → Prop) : Prop :=
  ∀ (pins : List (Addr × Obj)) (s : Shared) (σ : St) (H : Hp) (x : V) (xs : List V) (v : Value) (us : List Value) (Q : VK), Inv X pins σ H s → RelV x v → Vals xs us → r x xs H Q →
    wpAny (model X.prog X.w) X.A (call (.builtin id) (v :: us)) (EP X pins σ Q) X.xe s

theorem Vals.zero {us : List Value} (h : Vals [] us) : us = [] := by
  cases h
  rfl
theorem Vals.consI {x : V} {xs : List V} {us : List Value} (h : Vals (x :: xs) us) : ∃ u r, us = u :: r ∧ RelV x u ∧ Vals xs r := by
  cases h with
  | cons r t => exact ⟨_, _, rfl, r, t⟩
theorem Vals.one {x : V} {us : List Value} (h : Vals [x] us) : ∃ u, us = [u] ∧ RelV x u := by
  obtain ⟨u, r, rfl, a, t⟩ := h.consI
  obtain rfl := t.zero
  exact ⟨u, rfl, a⟩
theorem Vals.two {x y : V} {us : List Value} (h : Vals [x, y] us) : ∃ u v, us = [u, v] ∧ RelV x u ∧ RelV y v := by
  obtain ⟨u, r, rfl, a, t⟩ := h.consI
  obtain ⟨v, rfl, b⟩ := t.one
  exact ⟨u, v, rfl, a, b⟩
theorem Vals.dropLast {xs : List V} {us : List Value} (h : Vals xs us) : Vals xs.dropLast us.dropLast := by
  induction h with
  | nil => exact .nil
  | cons r t ih =>
    cases t with
    | nil => exact .nil
    | cons q t' => exact .cons r ih
theorem Vals.eraseIdx : ∀ {xs : List V} {us : List Value} (i : Nat), Vals xs us → Vals (xs.eraseIdx i) (us.eraseIdx i)
  | _, _, _, .nil => .nil
  | _, _, 0, .cons _ t => t
  | _, _, i + 1, .cons r t => .cons r (Vals.eraseIdx i t)
theorem Vals.reverse {xs : List V} {us : List Value} (h : Vals xs us) : Vals xs.reverse us.reverse := by
  induction h with
  | nil => exact .nil
  | cons r t ih => rw [List.reverse_cons, List.reverse_cons]; exact Vals.append ih (.cons r .nil)
theorem Vals.rep {xs : List V} {us : List Value} (h : Vals xs us) : ∀ k : Nat, Vals (List.replicate k xs).flatten (List.replicate k us).flatten
  | 0 => .nil
  | k + 1 => by
    rw [List.replicate_succ, List.replicate_succ, List.flatten_cons, List.flatten_cons]
    exact Vals.append h (Vals.rep h k)
theorem erase_last {α : Type} (l : List α) : l.eraseIdx (l.length - 1) = l.dropLast := by
  induction l with
  | nil => rfl
  | cons a r ih =>
    cases r with
    | nil => rfl
    | cons b r =>
      have e : (a :: b :: r).length - 1 = ((b :: r).length - 1) + 1 := by
        have h1 : (a :: b :: r).length = r.length + 2 := rfl
        have h2 : (b :: r).length = r.length + 1 := rfl
        omega
      rw [e, List.eraseIdx_cons_succ, ih]
      all_goals rfl
theorem len_erase {α : Type} : ∀ (l : List α) (i : Nat), (l.eraseIdx i).length ≤ l.length
  | [], _ => Nat.le_refl _
  | _ :: _, 0 => Nat.le_succ _
  | _ :: r, i + 1 => Nat.succ_le_succ (len_erase r i)
theorem foldl_rep (its : List Value) : ∀ (k : Nat) (acc : List Value),
    List.foldl (fun x1 x2 => x1 ++ x2) acc.toArray (List.replicate k its.toArray) = (acc ++ (List.replicate k its).flatten).toArray
  | 0, acc => by simp
  | k + 1, acc => by
    have e : acc.toArray ++ its.toArray = (acc ++ its).toArray := by simp
    have e2 : (acc ++ its) ++ (List.replicate k its).flatten = acc ++ (List.replicate (k + 1) its).flatten := by
      rw [List.replicate_succ, List.flatten_cons, List.append_assoc]
    rw [← e2, ← foldl_rep its k (acc ++ its), ← e, List.replicate_succ, List.foldl_cons]

section
variable {X : Cx} {pins : List (Addr × Obj)} {σ : St} {H : Hp} {s : Shared} {l b : Addr} {xs ys zs : List V}

theorem Inv.lset {its its' : List Value} {n : Nat} {f : Array Value → Array Value} {t' : Nat} (I : Inv X pins σ H s) (hH : H l = some (.lst xs))
    (e : s.heap.get? l = some { cls := .type "list", data := .seq its.toArray n }) (hf : f its.toArray = its'.toArray) (hv : Vals ys its') (hz : ys.length ≤ sizeLine) :
    Inv X pins σ (upd H l (.lst ys)) { s with heap := s.heap.update l (Obj.mapSeq f), toks := t' } := by
  have q := PySem.IsL.update e f
  rw [hf] at q
  refine I.write (x := l) (e := l) (by rw [hH]; exact trivial) (.inl rfl) (fun b' u hb hu => (Heap.get?_update_other s.heap (Obj.mapSeq f) (Ne.symm hb)).trans hu) ⟨_, q⟩ ?_
  exact ⟨hz, its', _, hv, q⟩
theorem Inv.lnew {its : List Value} {t' : Nat} (I : Inv X pins σ H s) (hv : Vals ys its) (hz : ys.length ≤ sizeLine) :
    Inv X pins σ (upd H s.heap.objs.size (.lst ys)) { s with heap := s.heap.push { cls := .type "list", data := .seq its.toArray }, toks := t' } :=
  I.laid (fun _ _ q => Heap.get?_push_of_some _ q) (Nat.le_refl _) ⟨hz, its, 0, hv, Heap.get?_push_size _ rfl⟩
theorem Inv.fresh (I : Inv X pins σ H s) : H s.heap.objs.size = none := I.hok.fresh (Nat.le_refl _)
theorem Inv.lstM (I : Inv X pins σ H s) (hH : H l = some (.lst xs)) : xs.length ≤ sizeLine ∧ ∃ (its : List Value) (n : Nat), Vals xs its ∧ xs.length = its.length ∧ s.heap.get? l = some { cls := .type "list", data := .seq its.toArray n } := by
  obtain ⟨z, its, n, r, e⟩ := I.hok l _ hH
  exact ⟨z, its, n, r, r.length, e⟩

theorem notLongL {n : Nat} (h : n ≤ sizeLine) : Builtin.List.listTooLong n = false := by
  unfold Builtin.List.listTooLong
  exact decide_eq_false (by omega)
end

section
variable {X : Cx}

noncomputable def rAppend : V → List V → Hp → VK → Prop := fun x vs H Q => ExQ Q (fun l Q => ExQ Q (fun xs Q => ExQ Q (fun y Q => x = .ref l ∧ vs = [y] ∧ H l = some (.lst xs) ∧ xs.length < sizeLine ∧ Q .non (upd H l (.lst (xs ++ [y]))))))
theorem mt_append : MtM X "list.append" rAppend := by
  intro pins s σ H x vs v us Q I rx rv h
  obtain ⟨l, xs, y, rfl, rfl, hH, hz, q⟩ := h
  cases rx
  obtain ⟨u, rfl, ru⟩ := rv.one
  obtain ⟨z, its, n, r, hl, e⟩ := I.lstM hH
  refine call_meets F.slot_list_append ⟨_, e, rfl⟩ F.entry_list_append (F.args_list_append_2 _ _) (PySem.list_append l its.toArray n u (by rw [List.size_toArray]; omega)) ⟨e, ?_⟩
  refine ⟨.non, _, I.lset (its' := its ++ [u]) hH e (by simp) (r.append (.cons ru .nil)) ?_, rfl, q⟩
  rw [List.length_append, List.length_singleton]
  omega

noncomputable def rExtend : V → List V → Hp → VK → Prop := fun x vs H Q => ExQ Q (fun l Q => ExQ Q (fun b Q => ExQ Q (fun xs Q => ExQ Q (fun zs Q => x = .ref l ∧ vs = [.ref b] ∧ H l = some (.lst xs) ∧ H b = some (.lst zs) ∧ xs.length + zs.length ≤ sizeLine ∧ Q .non (upd H l (.lst (xs ++ zs)))))))
theorem mt_extend : MtM X "list.extend" rExtend := by
  intro pins s σ H x vs v us Q I rx rv h
  obtain ⟨l, b, xs, zs, rfl, rfl, hH, hB, hz, q⟩ := h
  cases rx
  obtain ⟨u, rfl, ru⟩ := rv.one
  cases ru
  obtain ⟨z, its, n, r, hl, e⟩ := I.lstM hH
  obtain ⟨z2, its2, n2, r2, hl2, e2⟩ := I.lstM hB
  have hsz : its.toArray.size + its2.toArray.size ≤ sizeLine := by rw [List.size_toArray, List.size_toArray]; omega
  have hlong : ¬ (!its.toArray.isEmpty && Builtin.List.listTooLong (its.toArray.size + its2.toArray.size)) = true := by
    rw [notLongL hsz, Bool.and_false]
    exact Bool.false_ne_true
  refine call_meets F.slot_list_extend ⟨_, e, rfl⟩ F.entry_list_extend (F.args_list_extend_2 _ _)
    (AutoSeq1.list_extend_list_list_0 l its.toArray n b its2.toArray n2 hlong (by rw [List.size_toArray]; omega) (by omega)) ⟨e, e2, ?_⟩
  refine ⟨.non, _, I.lset (its' := its ++ its2) hH e (by simp) (r.append r2) ?_, rfl, q⟩
  rw [List.length_append]
  omega

noncomputable def rPop : V → List V → Hp → VK → Prop := fun x vs H Q => ExQ Q (fun l Q => ExQ Q (fun xs Q => ExQ Q (fun y Q => x = .ref l ∧ vs = [] ∧ H l = some (.lst xs) ∧ xs[xs.length - 1]? = some y ∧ Q y (upd H l (.lst xs.dropLast)))))
theorem mt_pop : MtM X "list.pop" rPop := by
  intro pins s σ H x vs v us Q I rx rv h
  obtain ⟨l, xs, y, rfl, rfl, hH, hy, q⟩ := h
  cases rx
  have hus := rv.zero
  subst hus
  obtain ⟨z, its, n, r, hl, e⟩ := I.lstM hH
  obtain ⟨u, hu, ru⟩ := r.get hy
  have hy' : its.toArray[its.toArray.size - 1]? = some u := by
    show its.toArray[its.length - 1]? = some u
    rw [← Array.getElem?_toList, ← hl]
    exact hu
  refine call_meets F.slot_list_pop ⟨_, e, rfl⟩ F.entry_list_pop (F.args_list_pop_1 _) (MeetsSeq.list_pop_last l its.toArray n u hy' (by rw [List.size_toArray]; omega)) ⟨e, ?_⟩
  refine ⟨y, _, I.lset (its' := its.dropLast) hH e ?_ r.dropLast ?_, ru, q⟩
  · show its.toArray.eraseIdxIfInBounds (its.toArray.size - 1) = its.dropLast.toArray
    rw [List.size_toArray, List.eraseIdxIfInBounds_toArray, erase_last]
  · rw [List.length_dropLast]
    omega

noncomputable def rPopAt : V → List V → Hp → VK → Prop := fun x vs H Q => ExQ Q (fun l Q => ExQ Q (fun xs Q => ExQ Q (fun i Q => ExQ Q (fun k Q => ExQ Q (fun y Q => x = .ref l ∧ vs = [.int i] ∧ H l = some (.lst xs) ∧ -(2 ^ 63) ≤ i ∧ i < 2 ^ 63 ∧ seqIndex? i xs.length = some k ∧ xs[k]? = some y ∧ Q y (upd H l (.lst (xs.eraseIdx k))))))))
theorem mt_popAt : MtM X "list.pop" rPopAt := by
  intro pins s σ H x vs v us Q I rx rv h
  obtain ⟨l, xs, i, k, y, rfl, rfl, hH, h1, h2, hk, hy, q⟩ := h
  cases rx
  obtain ⟨u, rfl, ru⟩ := rv.one
  obtain ⟨t, rfl⟩ := ru
  obtain ⟨z, its, n, r, hl, e⟩ := I.lstM hH
  obtain ⟨w, hw, rw'⟩ := r.get hy
  refine call_meets F.slot_list_pop ⟨_, e, rfl⟩ F.entry_list_pop (F.args_list_pop_2 _ _)
    (MeetsSeq.list_pop_at l its.toArray n i t k w (fitsIndex_both h1 h2) (by rw [List.size_toArray, ← hl]; exact hk) (by rw [← Array.getElem?_toList]; exact hw) (by rw [List.size_toArray]; omega)) ⟨e, ?_⟩
  refine ⟨y, _, I.lset (its' := its.eraseIdx k) hH e ?_ (r.eraseIdx k) ?_, rw', q⟩
  · show its.toArray.eraseIdxIfInBounds k = (its.eraseIdx k).toArray
    rw [List.eraseIdxIfInBounds_toArray]
  · have := len_erase xs k
    omega

noncomputable def rCat : R2 := fun x y H Q => ExQ Q (fun l Q => ExQ Q (fun b Q => ExQ Q (fun xs Q => ExQ Q (fun zs Q => x = .ref l ∧ y = .ref b ∧ H l = some (.lst xs) ∧ H b = some (.lst zs) ∧ xs.length + zs.length ≤ sizeLine ∧ ∀ p, H p = none → Q (.ref p) (upd H p (.lst (xs ++ zs)))))))
theorem op_cat : OpR X (binaryOp .Add) rCat := by
  intro pins s σ H x y v u Q I rx ry h
  obtain ⟨l, b, xs, zs, rfl, rfl, hH, hB, hz, q⟩ := h
  cases rx
  cases ry
  obtain ⟨z, its, n, r, hl, e⟩ := I.lstM hH
  obtain ⟨z2, its2, n2, r2, hl2, e2⟩ := I.lstM hB
  refine PySem.P.add_list e e2 ?_ (by rw [List.size_toArray, List.size_toArray]; omega)
  have ea : its.toArray ++ its2.toArray = (its ++ its2).toArray := by simp
  rw [ea]
  exact ⟨.ref _, _, I.lnew (t' := s.toks) (r.append r2) (by rw [List.length_append]; omega), rfl, q _ I.fresh⟩
noncomputable def rRep : R2 := fun x y H Q => ExQ Q (fun l Q => ExQ Q (fun k Q => ExQ Q (fun xs Q => x = .ref l ∧ y = .int k ∧ H l = some (.lst xs) ∧ -(2 ^ 63) ≤ k ∧ k < 2 ^ 63 ∧ xs.length * k.toNat ≤ sizeLine ∧
  ∀ p, H p = none → Q (.ref p) (upd H p (.lst (List.replicate k.toNat xs).flatten)))))
theorem len_rep {α : Type} (xs : List α) (k : Nat) : (List.replicate k xs).flatten.length = k * xs.length := by
  induction k with
  | zero => simp
  | succ k ih => rw [List.replicate_succ, List.flatten_cons, List.length_append, ih, Nat.succ_mul, Nat.add_comm]
theorem op_rep : OpR X (binaryOp .Mult) rRep := by
  intro pins s σ H x y v u Q I rx ry h
  obtain ⟨l, k, xs, rfl, rfl, hH, h1, h2, hz, q⟩ := h
  cases rx
  obtain ⟨t, rfl⟩ := ry
  obtain ⟨z, its, n, r, hl, e⟩ := I.lstM hH
  have hlen : its.toArray.size * k.toNat ≤ sizeLine := by rw [List.size_toArray, ← hl]; exact hz
  have hcap : ¬ its.toArray.size * k.toNat > (2 ^ 63 - 1) / 8 := by
    have : (sizeLine : Nat) ≤ (2 ^ 63 - 1) / 8 := by decide
    omega
  have hfit : ¬ (!Builtin.List.listFitsIndex k) = true := by
    rw [fitsIndex_both h1 h2]
    exact Bool.false_ne_true
  have hlong : ¬ Builtin.List.listTooLong (its.toArray.size * k.toNat) = true := by
    rw [notLongL hlen]
    exact Bool.false_ne_true
  have hnew : List.foldl (fun x1 x2 => x1 ++ x2) #[] (List.replicate (if its.toArray.isEmpty = true then 0 else k.toNat) its.toArray) = (List.replicate k.toNat its).flatten.toArray := by
    have f0 : ∀ m : Nat, List.foldl (fun x1 x2 => x1 ++ x2) #[] (List.replicate m its.toArray) = (List.replicate m its).flatten.toArray := fun m => by
      have := foldl_rep its m []
      rw [List.nil_append] at this
      exact this
    rw [f0]
    cases its with
    | nil => simp
    | cons a r' => rw [if_neg (by simp)]
  refine wpAny_binaryOp_repeat_ref (T := "list") (U := "int") (by decide) ⟨_, e, rfl⟩ (fun s' => typeIs_int s' k t) noFill_list_mul F.fills_int_mul F.slot_int_rmul repeat_list F.slot_int_index.lookup
    (call_meets F.slot_int_rmul (typeIs_int s k t) F.entry_int_rmul (F.args_int_rmul_2 _ _) (int___rmul___int_list k t l its.toArray n)
      ⟨e, rfl, ⟨_, e, rfl⟩, call_meets F.slot_list_mul ⟨_, e, rfl⟩ F.entry_list_mul (F.args_list_mul_2 _ _) (AutoListH.list___mul___list_int_3 l its.toArray n k t hfit hcap hlong) ⟨e, ?_⟩⟩)
  rw [hnew]
  exact ⟨.ref _, _, I.lnew (t' := s.toks) (r.rep k.toNat) (by rw [len_rep, Nat.mul_comm]; exact hz), rfl, q _ I.fresh⟩

end

section
variable {prog : Program} {w : World} {A : Around} {E : Value → Shared → Prop} {s : Shared}
set_option maxRecDepth 100000 in
end

section
variable {X : Cx}
end
end L2

namespace Att
open PySem PySem.W PySem.Calls PyProof.Rows

theorem ints_of_wellAll {P : Params} {h : Heap} : ∀ (ns : List Int) (vs : List Value), WellAll P h vs (ns.map WData.int) → IntsAre vs ns := by
  intro ns
  induction ns with
  | nil =>
    intro vs w
    rw [List.map_nil] at w
    cases w
    exact .nil
  | cons n ns ih =>
    intro vs w
    rw [List.map_cons] at w
    cases w with
    | cons a b =>
      cases a
      exact .cons _ _ (ih _ b)

theorem script_of {l : OpenLaw} {n : Nat} (hn : l.most = some n) {P : Params} {h : Heap} {args : List WData} {vals : List Value}
    (hpre : l.row.toRowW.claim.pre args = true) (hwl : WellAll P h vals args) :
    ∃ a vs ns, vals = [Value.ref a] ∧ args = [WData.list (ns.map WData.int)] ∧ h.get? a = some { cls := .type "list", data := .seq vs.toArray } ∧ IntsAre vs ns ∧ ns.length ≤ n := by
  have hsh : WShape.hasAll [] args [.list .int] = true := (pre_splitW hpre).1
  have hc : l.pre.holds [] { args := args } = true := (pre_splitW hpre).2
  obtain ⟨d, r, rfl, h1, h2⟩ := hasAllW_cons hsh
  obtain rfl := hasAllW_nil h2
  obtain ⟨xs, rfl, h3⟩ := hasW_list h1
  obtain ⟨ns, rfl⟩ := items_int h3
  have hlen : ns.length ≤ n := by
    unfold OpenLaw.pre at hc
    have h4 : (WTm.not (.lt (.lit (.int (n : Int))) (.len (.arg 0)))).holds [] { args := [.list (ns.map .int)] } = true := by
      have h4 := (holds_andW hc).1
      rw [hn] at h4
      exact h4
    have h5 := condW_of h4 (w_not (w_lt w_lit (w_len_list (w_arg rfl))))
    rw [List.length_map] at h5
    refine Nat.le_of_not_lt fun q => ?_
    have q' : (n : Int) < ((ns.length : Nat) : Int) := by omega
    first
      | (rw [decide_eq_true q'] at h5; exact absurd h5 (by decide))
      | (simp at h5; omega)
  cases hwl with
  | cons w1 w2 =>
    cases w2
    cases w1 with
    | list ho hall => exact ⟨_, _, ns, rfl, rfl, ho, ints_of_wellAll ns _ hall, hlen⟩

theorem post_true (l : OpenLaw) (args : List WData) : l.row.toRowW.claim.post args (.bool true) args = true :=
  postW_of (r := l.row.toRowW) (X := (true == true))
    (show WShape.has [] (.bool true) .bool = true by first | rfl | decide | simp [WShape.has, WShape.arms, WShape.armsAll])
    (show (WTm.eq .res (.lit (.bool true))).value [] { args := args, res := some (.bool true), after := args } = some (.bool (true == true)) from w_eq_bool (w_res rfl) w_lit) rfl

theorem attach_call {l : OpenLaw} {n : Nat} {q : Program} {loose : List Str} {XP : (Str → Option Value) → Heap → Prop} {YP : World → Heap → Prop} {d : DefRec}
    (hn : l.most = some n) (hdf : d.params.defaults = [])
    (call : ∀ (w : World) (s₀ s₁ : Shared) (mg mb : Str → Option Value) (fa : Addr) (o : Obj) (pm cd doc : Value) (a : Addr) (vs : List Value) (ns : List Int),
      Ground q loose [] XP w s₀ mg mb s₁.heap → YP w s₁.heap →
      s₁.heap.get? fa = some o → o.data = .func (docDef d.name d.params d.body d.scope pm cd doc) → s₁.heap.CodeRec cd d.name → mg d.name = some (.ref fa) →
      s₁.heap.get? a = some { cls := .type "list", data := .seq vs.toArray } → IntsAre vs ns → ns.length ≤ n → s₁.gens = #[] →
      codeAny (model l.prog w) callerA (.call (.ref fa) ⟨[.ref a], []⟩) (fun r s' => r = .ok (.ret (.bool true)) ∧ OldK s₁.heap s'.heap ∧ s'.os = s₁.os ∧ AllBare s'.gens) s₁) :
    WalkO q loose XP YP l.row.toRowW d [] (fun f vs => PySem.call f vs) := by
  intro w s₀ s₁ mg mb G Y fa o pm cd doc dV kV ho hd hcd hD hmg hg args vals as hpre hlay hrd hwl hlo
  obtain rfl : dV = .none := Dflts.none hD hdf
  obtain rfl : kV = .none := Dflts.noKw hD
  obtain ⟨a, vs, ns, rfl, rfl, hobj, hints, hlen⟩ := script_of hn hpre hwl
  refine enter_call (codeAny_mono (call w s₀ s₁ mg mb fa o pm cd doc a vs ns G Y ho (fd_plain hd) hcd hmg hobj hints hlen hg) fun r s' hq => ?_)
  obtain ⟨rfl, h2, h3, h4⟩ := hq
  exact ⟨.inl ⟨.bool true, .bool true, [], rfl, fun _ => rfl, .bool true, post_true l _, fun _ => ⟨List.Pairwise.nil, fun _ hm => (nomatch hm)⟩⟩, h2, h3, h4⟩

section
variable {prog : Program} {w : World} {A : Around} {E : Value → Shared → Prop} {s : Shared} {K : Frag}

noncomputable def ledger (h : Heap) (L d : Addr) : List (Addr × Obj) := (List.range h.objs.size).filterMap fun a => if a = L ∨ a = d then none else (h.get? a).map fun o => (a, o)
end
end Att

namespace L2
open PySem PySem.Spec PyProof.Rows

theorem vals_ints : ∀ {vs : List Value} {ns : List Int}, IntsAre vs ns → Vals (ns.map V.int) vs
  | _, _, .nil => .nil
  | _, _, .cons n t h => .cons ⟨t, rfl⟩ (vals_ints h)

noncomputable def Only (H : Hp) : Prop := ∀ b, H b = none ∨ ∃ o xs, H b = some (.frz o (.lst xs))

theorem law_call {P : Program} {w : World} {K : PySem.W.Frag} {mg mb : Str → Option Value} {CX : CXT} {k : Nat} {fa a : Addr} {fd : FuncData} {x : Str} {sp : Sp} {s₁ : Shared} {vs : List Value} {ns : List Int}
    (KX : K.In s₁.heap) (hns : s₁.heap.Ns mainGlobals mg) (hb : s₁.heap.Ns builtinsNs mb) (hbb : ∀ x : Str, x ≠ "__name__" → mb x = bootBuiltins x) (hlim : s₁.heap.NoLimit) (hg : s₁.gens = #[])
    (ha : s₁.heap.get? a = some { cls := .type "list", data := .seq vs.toArray }) (hi : IntsAre vs ns) (hl : ns.length ≤ sizeLine) (hr : Room k callerA)
    (F : ∀ base : Heap, K.In base → base.Ns mainGlobals mg → FnOk P w K mg base CX k fa fd [x] sp) (hbind : ∀ (s : Shared) (u : Value), BindsTo s fd ⟨[u], []⟩ [(x, u)])
    (hsp : ∀ H : Hp, Only H → SqL K H a (ns.map V.int) → sp [.ref a] H (fun v _ => v = .bl true) fun _ _ _ => False)
    (hCX : ∀ H e s', CX [] H s₁ (fun _ _ _ => False) e s' → False) :
    codeAny (model P w) callerA (.call (.ref fa) ⟨[.ref a], []⟩) (fun r s' => r = .ok (.ret (.bool true)) ∧ OldK s₁.heap s'.heap ∧ s'.os = s₁.os ∧ AllBare s'.gens) s₁ := by
  have rv := vals_ints hi
  have lenV := hi.length
  -- from an abstract heap in which nothing but the script may be tracked
  have core : ∀ H : Hp, Only H → SqL K H a (ns.map V.int) → HOk P w H s₁.heap → (∀ b, H b ≠ none → b = a) → (H a ≠ none → K.lookup a = none) →
      codeAny (model P w) callerA (.call (.ref fa) ⟨[.ref a], []⟩) (fun r s' => r = .ok (.ret (.bool true)) ∧ OldK s₁.heap s'.heap ∧ s'.os = s₁.os ∧ AllBare s'.gens) s₁ := by
    intro H hO hS hok hA hK
    have base_of : ∀ {b : Addr} {o : Obj}, s₁.heap.get? b = some o → H b = none → (hidT s₁.heap H).get? b = some o := fun e n => hidT_get e n
    have noA : ∀ {b : Addr} {o : Obj} {es : Array DictEntry} {ep : Nat}, s₁.heap.get? b = some o → o.data = .dict es ep → H b = none := fun {b o es ep} e d => by
      cases q : H b with
      | none => rfl
      | some u =>
        have e' : b = a := hA b (by rw [q]; simp)
        subst e'
        rw [ha] at e; cases e
        have d' : Data.seq vs.toArray _ = Data.dict es ep := d
        cases d'
    have nsK : ∀ {b : Addr} {m : Str → Option Value}, s₁.heap.Ns b m → (hidT s₁.heap H).Ns b m := fun {b m} hp1 => by obtain ⟨o, es, ep, e, d, r⟩ := hp1; exact ⟨o, es, ep, base_of e (noA e d), d, r⟩
    have hKb : K.In (hidT s₁.heap H) := fun b o e => base_of (KX b o e) (by
      cases q : H b with
      | none => rfl
      | some u =>
        have e' : b = a := hA b (by rw [q]; simp)
        subst e'
        rw [hK (by rw [q]; simp)] at e; cases e)
    have hM : Mod K mg (hidT s₁.heap H) := ⟨hKb, nsK hns, ⟨mb, nsK hb, hbb⟩, let ⟨mc, h1, h2⟩ := hlim; ⟨mc, nsK h1, h2⟩⟩
    have e0 : Env0 P w K mg (hidT s₁.heap H) callerA [] s₁ H := ⟨rfl, hM, fun b o e => of_hidT e, Nat.le_of_eq (hidT_size _ _), trivial, fun b hb => absurd (show b ∈ ([] : List Addr) from hb) (by simp), hok, .of_eq hg⟩
    refine codeAny_mono ((F _ hKb (nsK hns)).run callerA [] s₁ H ⟨[.ref a], []⟩ [.ref a] [.ref a] _ _ hr e0 (hbind s₁ (.ref a)) (.cons rfl .nil) (hsp H hO hS)) fun r s' h => ?_
    cases r with
    | error e => exact (hCX H e s' h).elim
    | ok fl =>
      cases fl with
      | next => exact False.elim h
      | brk => exact False.elim h
      | cont => exact False.elim h
      | ret u =>
        obtain ⟨v, H', os, bare, un, hok', r', q⟩ := h
        have q' : v = .bl true := q
        subst q'
        obtain rfl : u = Value.bool true := r'
        refine ⟨rfl, OldK.of_keep fun b o e => ?_, os, bare⟩
        cases q : H b with
        | none => exact un.keep b o e q (by intro z; exact absurd (show b ∈ ([] : List Addr) from z) (by simp)) (by simp)
        | some u =>
          rcases hO b with z | ⟨ob, xs, z⟩
          · rw [q] at z; cases z
          · have z2 := un.frzs b ob _ z
            obtain ⟨e1, _⟩ := hok b _ z
            obtain ⟨e2, _⟩ := hok' b _ z2
            rw [e] at e1; cases e1
            exact e2
  cases hk : K.lookup a with
  | some o =>
    -- the script is one of the module's own objects
    have e := KX a o hk
    rw [ha] at e
    cases e
    refine core (fun _ => none) (fun _ => .inl rfl) (.inr ⟨_, vs.toArray, _, hk, rfl, rfl, rfl, by rw [List.size_toArray, lenV]; exact hl, by simpa using rv⟩) (fun b u z => by have z' : (none : Option HO) = some u := z; cases z') (fun b z => absurd rfl z) fun z => absurd rfl z
  | none =>
    refine core (fun b => if b = a then some (.frz { cls := .type "list", data := .seq vs.toArray } (.lst (ns.map V.int))) else none) (fun b => ?_) (.inl (.inr ⟨{ cls := .type "list", data := .seq vs.toArray }, if_pos rfl⟩)) (fun b u z => ?_) (fun b z => ?_) fun _ => hk
    · by_cases hb : b = a
      · exact .inr ⟨_, _, if_pos hb⟩
      · exact .inl (if_neg hb)
    · by_cases hb : b = a
      · have z' := (if_pos hb).symm.trans z
        cases z'
        subst hb
        exact ⟨ha, by rw [List.length_map]; exact hl, vs, _, rv, ha⟩
      · have z' := (if_neg hb).symm.trans z
        cases z'
    · by_cases hb : b = a
      · exact hb
      · exact absurd (if_neg hb) z
end L2

namespace L2
open PySem PySem.Spec PyProof.Rows

noncomputable abbrev KOf {K : PySem.W.Frag} {h : Heap} (_ : K.In h) : PySem.W.Frag := K

theorem walk_of {l : PySem.W.OpenLaw} {n k : Nat} {q : Program} {loose : List Str} {XP : (Str → Option Value) → Heap → Prop} {YP : World → Heap → Prop} {d : DefRec} {K : Params → PySem.W.Frag} {CX : World → CXT} {sp : World → Sp} {x : Str}
    (hn : l.most = some n) (hn2 : n ≤ sizeLine) (hdf : d.params.defaults = []) (hr : Room k callerA)
    (hY : ∀ (w : World) (h : Heap), YP w h → (K w.params).In h)
    (F : ∀ (w : World) (mg : Str → Option Value) (fa : Addr) (h : Heap), (K w.params).In h → h.Ns mainGlobals mg → mg d.name = some (.ref fa) →
      ∃ fd : FuncData, (∀ (s : Shared) (u : Value), BindsTo s fd ⟨[u], []⟩ [(x, u)]) ∧
        ∀ base : Heap, (K w.params).In base → base.Ns mainGlobals mg → FnOk l.prog w (K w.params) mg base (CX w) k fa fd [x] (sp w))
    (hsp : ∀ (w : World) (H : Hp) (a : Addr) (ns : List Int), ns.length ≤ n → Only H → SqL (K w.params) H a (ns.map V.int) → sp w [.ref a] H (fun v _ => v = .bl true) fun _ _ _ => False)
    (hCX : ∀ (w : World) (H : Hp) (s : Shared) (e : Value) (s' : Shared), CX w [] H s (fun _ _ _ => False) e s' → False) :
    PySem.W.WalkO q loose XP YP l.row.toRowW d [] (fun f vs => PySem.call f vs) := by
  refine Att.attach_call hn hdf fun w s₀ s₁ mg mb fa o pm cd doc a vs ns G Y ho hd hcd hmg hobj hints hlen hg => ?_
  have KX := hY w _ Y
  obtain ⟨fd, hb, hF⟩ := F w mg fa _ KX G.T.g hmg
  exact law_call KX G.T.g G.T.b G.T.builtins G.T.nolimit hg hobj hints (Nat.le_trans hlen hn2) hr hF hb (fun H hO hS => hsp w H a ns hlen hO hS) fun H e s' => hCX w H s₁ e s'
end L2

/- THE LAST THEOREM (shape; LID, My.* are yours):
   My.Adr: a structure of the addresses that your layer names (classes, functions); My.Txt K t: a structure (Prop) of the equations over K;
   My.txt_mk : {K} {implicit addresses ..} (e1 : nsIn K mainGlobals "law" = some (some (.ref f))) (e2 : K.lookup f = some ⟨oc, od, .func (fnOf "law" "law" params body scope dV kV doc pm an cdv ct), sl⟩) (e3 : codeIn K cdv "law" = true) .. : ∃ t, My.Txt K t

set_option maxRecDepth 100000 in
set_option maxHeartbeats 0 in
theorem PySem.Challenge.cw_LID_holds : PySem.Challenge.rw_LID.Holds := by
  w_on; o_law; k_head; (case hw => w_witness2)
  k_fill
  refine L2.walk_of (l := PySem.Challenge.rw_LID) (n := 63) (k := 40) (x := "script") (CX := fun w => ..) (sp := fun _ => My.sp_law) rfl (by decide) rfl ⟨rfl, by decide, by decide⟩ (fun w h Y => PySem.W.kIn_of Y) ?F ?S ?C
  case F =>
    intro w mg fa h KX G hmg
    have T : ∃ t, My.Txt (L2.KOf KX) t := by
      dsimp only [L2.KOf]                          -- K must stand as «<heap const> w.params» for k_is
      refine' My.txt_mk ?e1 ?e2 ?e3 ..
      (case e1 => PySem.W.k_is)                    -- in the order: a name -> its address -> its object -> its parts
      (case e2 => PySem.W.k_is)
      ..
    obtain ⟨t, T⟩ := T
    have e0 := hmg.symm.trans (PySem.W.mg_of KX G T.law)
    cases e0                                       -- fa is the law's own address
    exact ⟨_, fun s u => .of_eq rfl, fun base kb nb => My.law_fn T kb nb⟩     -- if «.of_eq rfl» comes too early: refine' ⟨_, ?b, fun base kb nb => My.law_fn T kb nb⟩; exact fun s u => .of_eq rfl
  case S => exact fun w H a ns hl hO hS => ..
  case C => exact ..
(the tactic k_is has no namespace: write k_is) -/

namespace L2
open PySem PySem.Spec PyProof.Rows

noncomputable def inClass (s : Stmt) (j : Nat) : Stmt := match s with
  | .ClassDef _ _ _ body _ _ _ _ _ _ _ => body.getD j (.Pass ⟨0, 0, 0, 0⟩)
  | _ => .Pass ⟨0, 0, 0, 0⟩
noncomputable def defArgs (s : Stmt) : Arguments := match s with
  | .FunctionDef _ a _ _ _ _ _ _ _ _ => a
  | _ => { posonlyargs := [], args := [], vararg := none, kwonlyargs := [], kw_defaults := [], kwarg := none, defaults := [] }
noncomputable def defBody (s : Stmt) : List Stmt := match s with
  | .FunctionDef _ _ b _ _ _ _ _ _ _ => b
  | _ => []
noncomputable def defScope (s : Stmt) : Scope := match s with
  | .FunctionDef _ _ _ _ _ _ sc _ _ _ => sc
  | _ => { kind := .function, names := [], isGenerator := false, isCoroutine := false }

noncomputable abbrev CX0 : CXT := fun _ _ _ _ _ _ => False
noncomputable abbrev E0 : XK := fun _ _ _ => False
theorem pass0 {X : Cx} : Passes CX0 X E0 := fun _ _ _ _ _ _ _ h => h.elim

structure Fun (K : PySem.W.Frag) (x qual : Str) (st : Stmt) (f : Addr) (fd : FuncData) : Prop where
  ex : ∃ (oc : Value) (od : Option Addr) (kV doc pm : Value) (an : Option Addr) (cdv ct : Value) (osl : Array (Option Value)),
    fd = PySem.W.fnOf x qual (defArgs st) (defBody st) (defScope st) .none kV doc pm an cdv ct ∧ K.lookup f = some ⟨oc, od, .func fd, osl⟩ ∧ PySem.W.codeIn K cdv qual = true
  kp : PySem.W.keepIn K (.ref f) = true
section
variable {P : Program} {w : World} {K : PySem.W.Frag} {mg : Str → Option Value} {base : Heap}
theorem Fun.ok {x qual : Str} {st : Stmt} {f : Addr} {fd : FuncData} {N ps : List Str} {k : Nat} {sp : Sp} (F : Fun K x qual st f fd) (S : FnScope N ps (defScope st)) (len : ∀ vs H Q E, sp vs H Q E → vs.length = ps.length)
    (hbody : ∀ (cdv : Value) (A : Around) (outer : List Env) (s : Shared) (H : Hp) (vs : List V) (Q : VK) (E : XK), Room k (A.deeper (envOfC qual (defScope st) s.heap.objs.size f cdv)) → sp vs H Q E →
      ∃ t, PSs (cxOf CX0 P w K mg base N qual (defScope st) f cdv A outer s H E).nox (defBody st) t ∧ t { nx := fun _ H' => Q .non H', rt := Q } (start N vs) H) : FnOk P w K mg base CX0 (k + 1) f fd ps sp := by
  obtain ⟨oc, od, kV, doc, pm, an, cdv, ct, osl, rfl, lk, hcd⟩ := F.ex
  refine fn_of lk hcd S len fun A outer s H vs Q E hr hsp => ?_
  obtain ⟨t, h, q⟩ := hbody cdv A outer s H vs Q E hr hsp
  exact ⟨t, h.nox, q⟩
theorem Fun.binds {x qual : Str} {st : Stmt} {f : Addr} {fd : FuncData} {ps : List Str} (F : Fun K x qual st f fd)
    (h : ∀ (kV doc pm : Value) (an : Option Addr) (cdv ct : Value) (us : List Value), us.length = ps.length → bindArgs (PySem.W.fnOf x qual (defArgs st) (defBody st) (defScope st) .none kV doc pm an cdv ct) ⟨us, []⟩ = pure (ps.zip us)) : Binds K fd ps [] := by
  obtain ⟨oc, od, kV, doc, pm, an, cdv, ct, osl, rfl, lk, hcd⟩ := F.ex
  exact .all (h kV doc pm an cdv ct)
theorem fun_mk {x qual : Str} {st : Stmt} {f : Addr} {oc : Value} {od an : Option Addr} {osl : Array (Option Value)} {kV doc pm cdv ct : Value} (l : K.lookup f = some ⟨oc, od, .func (PySem.W.fnOf x qual (defArgs st) (defBody st) (defScope st) .none kV doc pm an cdv ct), osl⟩)
    (c : PySem.W.codeIn K cdv qual = true) (k : PySem.W.keepIn K (.ref f) = true) : Fun K x qual st f (PySem.W.fnOf x qual (defArgs st) (defBody st) (defScope st) .none kV doc pm an cdv ct) := ⟨⟨oc, od, kV, doc, pm, an, cdv, ct, osl, rfl, l, c⟩, k⟩
end
theorem small1000 {n : Nat} (h : n ≤ 1000) : n < sizeLine := Nat.lt_of_le_of_lt h (by decide)

section
variable {X : Cx}
theorem pv (i : Nat) {x : Str} {pos : Pos} (hN : X.N[i]? = some x := by rfl) (hv : Vis X.env.scope x := by first | exact Or.inl rfl | exact Or.inr (Or.inl rfl) | exact Or.inr (Or.inr rfl)) (hd : (x == ("__debug__" : Str)) = false := by decide)
    (hcd : (x == ("__classdict__" : Str)) = false := by decide) : PE X (.Name x pos) (tVar i) := pe_var hN hv hd hcd
end

theorem iteF {A B : Prop} (h : B) : if false = true then A else B := by
  rw [if_neg Bool.false_ne_true]
  exact h
theorem iteT {A B : Prop} (h : A) : if true = true then A else B := by
  rw [if_pos rfl]
  exact h
theorem ite2 {c A B : Prop} [Decidable c] (h1 : c → A) (h2 : ¬ c → B) : if c then A else B := by
  by_cases h : c
  · rw [if_pos h]
    exact h1 h
  · rw [if_neg h]
    exact h2 h
noncomputable def Same (H H' : Hp) : Prop := ∀ b o, H b = some o → H' b = some o
theorem Same.refl (H : Hp) : Same H H := fun _ _ h => h
theorem Same.trans {H H1 H2 : Hp} (a : Same H H1) (b : Same H1 H2) : Same H H2 := fun c o h => b c o (a c o h)
theorem Same.free {H H' : Hp} (e : Same H H') {l : Addr} (h : H' l = Option.none) : H l = Option.none := by
  cases q : H l with
  | none => rfl
  | some o =>
    rw [e l o q] at h
    cases h
theorem Same.seq {K : PySem.W.Frag} {H H' : Hp} {a : Addr} {xs : List V} (e : Same H H') (h : SqL K H a xs) : SqL K H' a xs := by
  rcases h with (h | ⟨o, h⟩) | h
  · exact .inl (.inl (e _ _ h))
  · exact .inl (.inr ⟨o, e _ _ h⟩)
  · exact .inr h

end L2
set_option Elab.async false
set_option linter.all false
set_option maxRecDepth 100000
set_option maxHeartbeats 4000000
namespace L2
open PySem PySem.Spec PyProof.Rows

noncomputable abbrev Cx.cmp (X : Cx) (scope : Scope) (cl : List (Str × Addr)) (vars : List Str) (C : Addr) (s : Shared) (H : Hp) (fp : List Addr) (pins : List (Addr × Obj)) : Cx :=
  { X with N := vars ++ X.N, s₀ := s, H₀ := H, env := compEnvC scope cl C X.env, outer := X.stack, stack := X.stack, ex := fp, fn := fun _ => false, pn := X.pn ++ pins, xe := fun _ _ => False }

structure CmpScope (X : Cx) (scope : Scope) : Prop where
  kind : scope.kind = .function
  nocell : ∀ y ∈ scope.names, y.2 ≠ .cell
  names : ∀ y ∈ scope.names, y.2 = .local → scope.names.lookup y.1 = some .local
  free : ∀ y ∈ scope.names, y.2 = .free → X.env.scope.names.lookup y.1 = some .cell ∨ X.env.scope.names.lookup y.1 = some .free
  locs : ∀ x ∈ X.N, scope.names.lookup x ≠ some .local

noncomputable def cmpB (N : List Str) (so sc : Scope) : Bool := decide (sc.kind = .function) && sc.names.all (fun y => decide (y.2 ≠ .cell)) && sc.names.all (fun y => decide (y.2 = .local → sc.names.lookup y.1 = some .local)) &&
  sc.names.all (fun y => decide (y.2 = .free → so.names.lookup y.1 = some .cell ∨ so.names.lookup y.1 = some .free)) && N.all (fun x => decide (sc.names.lookup x ≠ some .local))
theorem cmp_ok {X : Cx} {scope : Scope} {N : List Str} {so : Scope} (hN : X.N = N) (hs : X.env.scope = so) (h : cmpB N so scope = true) : CmpScope X scope := by
  unfold cmpB at h
  simp only [Bool.and_eq_true, List.all_eq_true, decide_eq_true_eq] at h
  obtain ⟨⟨⟨⟨h1, h2⟩, h3⟩, h4⟩, h5⟩ := h
  subst hN hs
  exact ⟨h1, h2, h3, h4, h5⟩
theorem closure_go {env : Env} : ∀ (names : List (Str × NameKind)) (acc : List (Str × Addr)), (∀ y ∈ names, y.2 = .free → ∃ c, env.cells.lookup y.1 = some c) → (∀ p ∈ acc, env.cells.lookup p.1 = some p.2) →
    ∃ cl, (forIn names acc (fun x cs => (match x with | (name, kind) => if (kind == NameKind.free) = true then do let c ← cellOf env name; pure (ForInStep.yield ((name, c) :: cs)) else pure (ForInStep.yield cs) : Sem (ForInStep (List (Str × Addr)))))) = pure cl ∧
      (∀ p ∈ cl, env.cells.lookup p.1 = some p.2) ∧ (∀ p ∈ acc, p ∈ cl) ∧ ∀ y ∈ names, y.2 = .free → ∃ c, (y.1, c) ∈ cl := by
  intro names
  induction names with
  | nil => intro acc _ h; exact ⟨acc, rfl, h, fun _ z => z, fun y hy => by cases hy⟩
  | cons y r ih =>
    intro acc hn ha
    obtain ⟨n, k⟩ := y
    by_cases hk : k = .free
    · subst hk
      obtain ⟨c, hc⟩ := hn (n, .free) List.mem_cons_self rfl
      obtain ⟨cl, e, h1, h2, h3⟩ := ih ((n, c) :: acc) (fun y hy => hn y (List.mem_cons_of_mem _ hy)) (fun p hp => by
        rcases List.mem_cons.mp hp with rfl | hp
        · exact hc
        · exact ha p hp)
      refine ⟨cl, ?_, h1, fun p hp => h2 p (List.mem_cons_of_mem _ hp), fun y hy hf => ?_⟩
      · rw [List.forIn_cons]
        have e1 : cellOf env n = pure c := by unfold cellOf; rw [hc]
        simp only [beq_self_eq_true, if_true]
        rw [e1]
        exact e
      · rcases List.mem_cons.mp hy with rfl | hy
        · exact ⟨c, h2 _ List.mem_cons_self⟩
        · exact h3 y hy hf
    · obtain ⟨cl, e, h1, h2, h3⟩ := ih acc (fun y hy => hn y (List.mem_cons_of_mem _ hy)) ha
      refine ⟨cl, ?_, h1, h2, fun y hy hf => ?_⟩
      · rw [List.forIn_cons]
        have hb : (k == NameKind.free) = false := by simpa using hk
        simp only [hb, Bool.false_eq_true, if_false]
        exact e
      · rcases List.mem_cons.mp hy with rfl | hy
        · exact absurd hf hk
        · exact h3 y hy hf

theorem closure_ok {scope : Scope} {env : Env} (h : ∀ y ∈ scope.names, y.2 = .free → ∃ c, env.cells.lookup y.1 = some c) :
    ∃ cl, closureFor scope env = pure cl ∧ (∀ p ∈ cl, env.cells.lookup p.1 = some p.2) ∧ ∀ y ∈ scope.names, y.2 = .free → ∃ c, (y.1, c) ∈ cl := by
  obtain ⟨cl, e, h1, _, h3⟩ := closure_go (env := env) scope.names [] h (fun p hp => by cases hp)
  refine ⟨cl, ?_, h1, h3⟩
  unfold closureFor
  dsimp only
  rw [e]
  rfl

theorem lookup_relabel {env : Env} : ∀ {names : List (Str × NameKind)} {x : Str} {k : NameKind},
    (names.map fun (n, k) => if (k == NameKind.free && env.scope.kind == .function && env.kindOf n == some .cell) then (n, NameKind.cell) else (n, k)).lookup x = some k →
    names.lookup x = some k ∨ (k = .cell ∧ names.lookup x = some .free)
  | [], _, _, h => by simp at h
  | (n, k0) :: r, x, k, h => by
    have ih := @lookup_relabel env r x k
    change List.lookup x ((if (k0 == NameKind.free && env.scope.kind == .function && env.kindOf n == some .cell) = true then (n, NameKind.cell) else (n, k0)) :: _) = _ at h
    by_cases hc : (k0 == NameKind.free && env.scope.kind == .function && env.kindOf n == some .cell) = true
    · rw [if_pos hc] at h
      cases hx : x == n with
      | true =>
        simp only [List.lookup_cons, hx] at h ⊢
        have hk0 : k0 = .free := by
          simp only [Bool.and_eq_true] at hc
          simpa using hc.1.1
        subst hk0
        cases h
        exact .inr ⟨rfl, rfl⟩
      | false =>
        simp only [List.lookup_cons, hx] at h ⊢
        exact ih h
    · rw [if_neg hc] at h
      cases hx : x == n with
      | true =>
        simp only [List.lookup_cons, hx] at h ⊢
        exact .inl h
      | false =>
        simp only [List.lookup_cons, hx] at h ⊢
        exact ih h

theorem lookup_mem {α β : Type} [BEq α] [LawfulBEq α] : ∀ {l : List (α × β)} {x : α} {b : β}, (x, b) ∈ l → ∃ c, l.lookup x = some c
  | (y, c) :: r, x, b, h => by
    cases hx : x == y with
    | true => exact ⟨c, by simp only [List.lookup_cons, hx]⟩
    | false =>
      have hr : (x, b) ∈ r := by
        rcases List.mem_cons.mp h with e | e
        · cases e; simp at hx
        · exact e
      obtain ⟨c', e⟩ := lookup_mem hr
      exact ⟨c', by simp only [List.lookup_cons, hx]; exact e⟩

section
variable {X : Cx} {pins : List (Addr × Obj)} {σ : St} {H : Hp} {s : Shared}

theorem inv_cmp {scope : Scope} {cl : List (Str × Addr)} {vars : List Str} {h1 : Heap} {t1 : Nat} {fp : List Addr} (hc : X.calm = true) (S : CmpScope X scope) (I : Inv X pins σ H s)
    (c1 : ∀ p ∈ cl, X.env.cells.lookup p.1 = some p.2) (c2 : ∀ y ∈ scope.names, y.2 = .free → ∃ c, (y.1, c) ∈ cl) (hns : h1.Ns s.heap.objs.size (fun _ => none)) (hk : ∀ b o, s.heap.get? b = some o → h1.get? b = some o)
    (f : ∀ b ∈ fp, FpOk X pins H b) (fo : ∀ b ∈ fp, b < s.heap.objs.size) :
    Inv (X.cmp scope cl vars s.heap.objs.size s H fp pins) [] (List.replicate vars.length none ++ σ) H { s with heap := h1, toks := t1 } := by
  have cl1 : ∀ x c, cl.lookup x = some c → X.env.cells.lookup x = some c := fun x c e => c1 (x, c) (PySem.mem_of_lookup e)
  have fsub : ∀ b ∈ frs X.stack, b ∈ X.env.locals :: X.fs := I.stkSub
  refine ⟨⟨I.ok.mod, S.kind, I.ok.glob, I.ok.blt, Nat.le_refl _, fun x y c h1 h2 => I.ok.inj x y c (cl1 x c h1) (cl1 y c h2), fun x hx => ?_, fun x c hf => absurd hf (by simp), I.ok.hd, I.ok.frames, .inl rfl,
      fun b hb => ⟨Nat.ne_of_lt (fo b hb), fun x c e => (f b hb).2.2.2.2.1 x c (cl1 x c e)⟩, I.bs, Nat.le_trans I.ok.bsz I.sz, fun b o e hb => ?_, fun b hb hm => ?_, I.stack, I.stkFree⟩,
    rfl, I.bare, Un.kept hk, ⟨_, hns, fun i x v e1 e2 e3 => ?_⟩, fun x c e => ?_, I.hok.fresh (Nat.le_refl _), fun x c e => I.freeC x c (cl1 x c e), fun p hp => ?_, I.hok.kept hk, ?_⟩
  · -- has
    have hx' : (relabel scope X.env).names.lookup x = some .cell ∨ (relabel scope X.env).names.lookup x = some .free := hx
    have hfree : scope.names.lookup x = some .free := by
      rcases hx' with q | q
      · rcases lookup_relabel q with z | ⟨_, z⟩
        · exact absurd rfl (S.nocell _ (PySem.mem_of_lookup z))
        · exact z
      · rcases lookup_relabel q with z | ⟨z, _⟩
        · exact z
        · cases z
    obtain ⟨c, hm⟩ := c2 _ (PySem.mem_of_lookup hfree) rfl
    exact lookup_mem hm
  · -- noex
    rcases (f b hb).2.2.2.1 with z | z
    · exact I.ok.noex b o e z
    · exact absurd (Nat.lt_of_lt_of_le (Heap.lt_size (I.ok.bs b o e).1) z) (Nat.lt_irrefl _)
  · -- exfs
    rcases List.mem_cons.mp (fsub b hm) with z | z
    · exact (f b hb).2.1 z
    · exact (f b hb).2.2.1 z
  · -- loc
    have hi : vars.length ≤ i := by
      by_cases hi : i < vars.length
      · rw [List.getElem?_append_left (by simpa using hi), List.getElem?_replicate, if_pos hi] at e2
        cases e2
      · omega
    rw [List.getElem?_append_right (by simpa using hi), List.length_replicate] at e2
    have e1' : X.N[i - vars.length]? = some x := by
      rw [← List.getElem?_append_right hi]; exact e1
    have hfree : scope.names.lookup x = some .free := by
      rcases e3 with q | q | q
      · rcases lookup_relabel q with z | ⟨z, _⟩
        · exact absurd z (S.locs x (List.mem_of_getElem? e1'))
        · cases z
      · rcases lookup_relabel q with z | ⟨_, z⟩
        · exact absurd rfl (S.nocell _ (PySem.mem_of_lookup z))
        · exact z
      · rcases lookup_relabel q with z | ⟨z, _⟩
        · exact z
        · cases z
    have hout := S.free _ (PySem.mem_of_lookup hfree) rfl
    obtain ⟨m, hn, hl⟩ := I.loc
    obtain ⟨u, r, lk⟩ := hl _ x v e1' e2 (by rcases hout with z | z; exact .inr (.inl z); exact .inr (.inr z))
    refine ⟨u, r, .inr ⟨?_, ?_⟩⟩
    · rcases e3 with q | q | q
      · rcases lookup_relabel q with z | ⟨z, _⟩
        · exact absurd z (S.locs x (List.mem_of_getElem? e1'))
        · cases z
      · exact .inl q
      · exact .inr q
    · obtain ⟨c0, hm⟩ := c2 _ (PySem.mem_of_lookup hfree) rfl
      obtain ⟨c, hc'⟩ := lookup_mem hm
      refine ⟨c, hc', ?_⟩
      rcases lk with ⟨z, _⟩ | ⟨_, c', e', z⟩
      · have z' : X.env.scope.names.lookup x = some .local := z
        rcases hout with y | y
        · rw [y] at z'; cases z'
        · rw [y] at z'; cases z'
      · rw [cl1 x c hc'] at e'; cases e'
        exact z.keeps hk
  · -- cell
    obtain ⟨v, z⟩ := I.cell x c (cl1 x c e)
    exact ⟨v, z.keeps hk⟩
  · -- pins
    have hp' : p ∈ X.pn ++ pins := by simpa using hp
    obtain ⟨e, n, ne, nf, d⟩ := I.pin p hp'
    refine ⟨hk _ _ e, n, Nat.ne_of_lt (Heap.lt_size e), fun hm => ?_, d⟩
    rcases List.mem_cons.mp (fsub p.1 hm) with z | z
    · exact ne z
    · exact nf z
  · show (List.replicate vars.length none ++ σ).length = (vars ++ X.N).length
    rw [List.length_append, List.length_append, List.length_replicate, I.len]

theorem inv_cmp_end {scope : Scope} {cl : List (Str × Addr)} {vars : List Str} {H' : Hp} {σ' : St} {s' : Shared} {h' : Heap} {fp : List Addr} (I : Inv X pins σ H s)
    (f : ∀ b ∈ fp, FpOk X pins H b) (J : Inv (X.cmp scope cl vars s.heap.objs.size s H fp pins) [] σ' H' s') (hs : Heap.SameBut s.heap.objs.size s'.heap h') : Inv X pins σ H' { s' with heap := h' } := by
  have u : Un (frs X.stack) fp H H' s.heap s'.heap := J.base
  have ne : ∀ b o, s.heap.get? b = some o → b ≠ s.heap.objs.size := fun b o e => Nat.ne_of_lt (Heap.lt_size e)
  have u' : Un (frs X.stack) fp H H' s.heap h' := ⟨fun b o e n hb hx => (hs.2 b (ne b o e)).trans (u.keep b o e n hb hx), fun b o e n hb hx => by
      obtain ⟨sl, z⟩ := u.slot b o e n hb hx
      exact ⟨sl, (hs.2 b (ne b o e)).trans z⟩, u.free, fun b o e hx => by
      obtain ⟨o', z⟩ := u.there b o e hx
      exact ⟨o', (hs.2 b (ne b o e)).trans z⟩, u.tups, u.frzs, u.tbls⟩
  have hn : H' s.heap.objs.size = none := J.free
  have ok : HOk X.prog X.w H' h' := fun b o e => by
    refine (J.hok b o e).stay (fun c v hc q => (hs.2 c ?_).trans q) (fun _ q => q) fun _ _ q => q
    rintro rfl
    rcases hc with z | z
    · rw [← z, hn] at e; cases e
    · rw [hn] at z; cases z
  exact I.call' (s' := { s' with heap := h' }) (ch := fp) J.os u' ok J.bare fun b hb => ⟨(f b hb).2.2.2.1, (f b hb).2.1, (f b hb).2.2.2.2.1, (f b hb).2.2.2.2.2⟩
end

section
variable {prog : Program} {w : World} {A : Around} {R : Result → Shared → Prop} {s : Shared}
theorem codeAny_compLoop_go {elt target iter : Expr} {ifs : List Expr} {scope : Scope} {pos : Pos} {it acc : Value} {env : Env} (I : Nat → Shared → Prop)
    (turn : ∀ n s, I n s → wpAny (model prog w) A (pyNext it) (fun r s₁ => match r with
      | none => R (.ok .next) s₁
      | some v => wpAny (model prog w) A (letOwnedTupleGo target it v) (fun _ s₂ => wpAny (model prog w) A (assign target env v) (fun _ s₂ =>
          wpAny (model prog w) A (forIn ifs true fun c r => if r = true then do let ok ← isTrue c env (eval c env); pure (ForInStep.yield ok) else pure (ForInStep.yield r)) (fun ok s₃ =>
            if ok = true then wpAny (model prog w) A (eval elt env) (fun x s₄ =>
              wpAny (model prog w) A (call (.builtin "list.append") [acc, x]) (fun _ s₅ => ∃ m, m < n ∧ I m s₅) (fun _ _ => False) s₄) (fun _ _ => False) s₃
            else ∃ m, m < n ∧ I m s₃) (fun _ _ => False) s₂) (fun _ _ => False) s₂) (fun _ _ => False) s₁) (fun _ _ => False) s)
    (n : Nat) (h : I n s) : codeAny (model prog w) A (.compLoop (.ListComp elt [⟨target, iter, ifs, 0⟩] scope pos) 0 it acc env) R s := by
  refine codeAny_loop rfl I (fun n s hI => ?_) n h
  show wpAny _ A ((compTurn (.ListComp elt [⟨target, iter, ifs, 0⟩] scope pos) 0 it acc env).onRaise (fun x => do noteFrame x env; theTreesLotGoes x)) _ _ s
  refine wpAny_noted ?_
  rw [compTurn_list]
  have no : ∀ {E : Value → Shared → Prop} (e : Value) (s : Shared), False → E e s := fun _ _ h => h.elim
  refine wpAny_bind (wpAny_standAt (wpAny_bind (wpAny_mono (turn n s hI) (fun r s₁ h₁ => ?_) no)))
  cases r with
  | none => exact wpAny_pure h₁
  | some v =>
    refine wpAny_bind (wpAny_mono h₁ (fun _ s₂ h₂ => ?_) no)
    refine wpAny_bind (wpAny_mono h₂ (fun _ s₂ h₂ => wpAny_bind (wpAny_mono h₂ (fun ok s₃ h₃ => ?_) no)) no)
    cases ok with
    | false => exact wpAny_pure ⟨rfl, h₃⟩
    | true =>
      exact wpAny_bind (wpAny_bind (wpAny_mono h₃ (fun x s₄ h₄ => wpAny_bind (wpAny_mono h₄ (fun _ s₅ h₅ => wpAny_pure (wpAny_pure ⟨rfl, h₅⟩)) no)) no))
end

noncomputable def PIfs (X : Cx) (ifs : List Expr) (t : TT) : Prop :=
  ∀ (pins : List (Addr × Obj)) (s : Shared) (σ : St) (H : Hp) (Q : Bool → Hp → Prop), Inv X pins σ H s → t σ H Q →
    wpAny (model X.prog X.w) X.A (forIn ifs true fun c r => if r = true then do let ok ← isTrue c X.env (eval c X.env); pure (ForInStep.yield ok) else pure (ForInStep.yield r)) (TP X pins σ Q) X.xe s
noncomputable def tTrue : TT := fun _ H Q => Q true H
theorem pifs_nil {X : Cx} : PIfs X [] tTrue := fun pins s σ H Q I h => wpAny_tests_nil ⟨H, I, h⟩
theorem pifs_one {X : Cx} {c : Expr} {t : TT} (h : PT X c t) : PIfs X [c] t := fun pins s σ H Q I q => wpAny_tests_one (h pins s σ H Q I q)

noncomputable def tCompW (J : It) (vn : Nat) (g : TG) (tc : TT) (te : TE) (σ : St) (p : Addr) (H1 : Hp) (Q : Hp → Prop) : Prop :=
  ∃ W : Nat → Nat → Hp → Prop, (∃ m, W 0 m (upd H1 p (.lst []))) ∧ ∀ i m H, W i m H →
    (J.stop i H ∧ Q H) ∨ (J.go i H ∧ ∃ N : Hp → Prop, (∀ H', N H' → ∃ m', m' < m ∧ W (i + 1) m' H') ∧ ∀ x H', J.yld i H x H' → g x (List.replicate vn none ++ σ) H' fun σ2 H2 => (∃ τ : St, σ2 = τ ++ σ ∧ τ.length = vn) ∧ tc σ2 H2 fun b H3 =>
      if b = true then te σ2 H3 fun v H4 => ∃ acc, H4 p = some (.lst acc) ∧ acc.length < sizeLine ∧ N (upd H4 p (.lst (acc ++ [v]))) else N H3)
noncomputable def tComp (wi : TI) (vn : Nat) (g : TG) (tc : TT) (te : TE) : TE := fun σ H Q => wi σ H fun J H1 => ∀ p, H1 p = none → tCompW J vn g tc te σ p H1 (Q (.ref p))

section
variable {X : Cx}
theorem comp_block {elt tg iter : Expr} {ifs : List Expr} {scope : Scope} {pos : Pos} {vars : List Str} {g : TG} {tc : TT} {te : TE} {cl : List (Str × Addr)} (hc : X.calm = true) (S : CmpScope X scope)
    (hg : ∀ cl C s H fp pins, PG (X.cmp scope cl vars C s H fp pins) tg g) (ht : ∀ cl C s H fp pins, PIfs (X.cmp scope cl vars C s H fp pins) ifs tc) (he : ∀ cl C s H fp pins, PE (X.cmp scope cl vars C s H fp pins) elt te)
    (c1 : ∀ p ∈ cl, X.env.cells.lookup p.1 = some p.2) (c2 : ∀ y ∈ scope.names, y.2 = .free → ∃ c, (y.1, c) ∈ cl)
    {pins : List (Addr × Obj)} {s : Shared} {σ : St} {H : Hp} {it : Addr} {fp : List Addr} {tn : Nat → Heap → Prop} {J : It} {E : Value → Shared → Prop} (I : Inv X pins σ H s) (T : Turn X.prog X.w X.K tg J fp it tn) (st : tn 0 s.heap) (f : ∀ b ∈ fp, FpOk X pins H b)
    {Q : Addr → Hp → Prop} (q : ∀ p, H p = none → tCompW J vars.length g tc te σ p H (Q p)) {RR : Value → Addr → Result → Shared → Prop}
    (hRR : ∀ (p C : Addr) (s' : Shared) (H' : Hp) (m : Str → Option Value), s'.heap.Ns C m → H' C = none → C ≠ X.env.locals → (∀ x c, X.env.cells.lookup x = some c → c ≠ C) → (∀ p ∈ X.pn ++ pins, p.1 ≠ C) → X.s₀.heap.objs.size ≤ C →
      (∀ h', Heap.SameBut C s'.heap h' → Inv X pins σ H' { s' with heap := h' }) → Q p H' → RR (.ref p) C (.ok .next) s') :
    wpAny (model X.prog X.w) X.A (newList []) (fun acc s₃ => wpAny (model X.prog X.w) X.A (newFunctionEnv scope X.env.globals cl [] X.env.qual none .none (some X.env)) (fun cenv s₄ =>
      codeAny (model X.prog X.w) X.A (.compStart (.ListComp elt [⟨tg, iter, ifs, 0⟩] scope pos) 0 (.ref it) acc { cenv with scope := relabel scope X.env }) (RR acc cenv.locals) s₄) E s₃) E s := by
  refine wpAny_newObj_type (wpAny_newFunctionEnv S.nocell (by intro y hy; simp at hy) (fun h₁ hns hsb => ?_) S.kind)
  dsimp only at hns hsb ⊢
  have I3 : Inv X pins σ (upd H s.heap.objs.size (.lst [])) { s with heap := s.heap.push { cls := .type "list", data := .seq ([] : List Value).toArray }, toks := s.toks } := I.lnew (its := []) .nil (Nat.zero_le _)
  generalize hs3 : ({ s with heap := s.heap.push { cls := .type "list", data := .seq ([] : List Value).toArray }, toks := s.toks } : Shared) = s3 at I3
  have hp : H s.heap.objs.size = none := I.fresh
  have eh : s3.heap = s.heap.push { cls := .type "list", data := .seq ([] : List Value).toArray } := by rw [← hs3]
  have sz3 : s3.heap.objs.size = s.heap.objs.size + 1 := by rw [eh, Heap.size_push]
  rw [← eh] at hns hsb
  have fo : ∀ b ∈ fp, b < s.heap.objs.size := fun b hb => by
    obtain ⟨o, e, _⟩ := T.obj _ _ st b hb
    exact Heap.lt_size e
  have f3 : ∀ b ∈ fp, FpOk X pins (upd H s.heap.objs.size (.lst [])) b := fun b hb => by
    refine ⟨?_, (f b hb).2⟩
    rw [upd_ne (Nat.ne_of_lt (fo b hb))]; exact (f b hb).1
  have fo3 : ∀ b ∈ fp, b < s3.heap.objs.size := fun b hb => by rw [sz3]; exact Nat.lt_succ_of_lt (fo b hb)
  have up : ∀ b o, s3.heap.get? b = some o → h₁.get? b = some o := fun b o e => hsb.extBut b o (Nat.ne_of_lt (Heap.lt_size e)) (Heap.get?_push_of_some _ e)
  have st1 : tn 0 h₁ := T.keep 0 _ _ st fun b hb o e => up b o (by rw [eh]; exact Heap.get?_push_of_some _ e)
  have I4 : Inv (X.cmp scope cl vars s3.heap.objs.size s3 (upd H s.heap.objs.size (.lst [])) fp pins) [] (List.replicate vars.length none ++ σ) (upd H s.heap.objs.size (.lst [])) { s3 with heap := h₁, toks := s3.toks + ([] : List (Str × Value)).length } :=
    inv_cmp hc S I3 c1 c2 hns up f3 fo3
  obtain ⟨W, ⟨m0, w0⟩, turn⟩ := q _ hp
  have es : ({ s3 with heap := h₁, toks := s3.toks + ([] : List (Str × Value)).length } : Shared) = { s with heap := h₁, toks := s.toks + ([] : List (Str × Value)).length } := by rw [← hs3]
  -- what stays true of the iterator's objects
  have stat : ∀ {H' : Hp}, (∀ b ∈ fp, H' b = none) → ∀ b ∈ fp, FpOk (X.cmp scope cl vars s3.heap.objs.size s3 (upd H s.heap.objs.size (.lst [])) fp pins) [] H' b := fun hn b hb => by
    refine ⟨hn b hb, Nat.ne_of_lt (fo3 b hb), fun hm => ?_, .inl hb, fun x c e => (f b hb).2.2.2.2.1 x c (c1 (x, c) (PySem.mem_of_lookup e)), fun p hp => (f b hb).2.2.2.2.2 p (by simpa using hp)⟩
    rcases List.mem_cons.mp (I3.stkSub b hm) with z | z
    · exact (f b hb).2.1 z
    · exact (f b hb).2.2.1 z
  have loop : ∀ s₄ : Shared, s₄ = { s3 with heap := h₁, toks := s3.toks + ([] : List (Str × Value)).length } →
      codeAny (model X.prog X.w) X.A (.compLoop (.ListComp elt [⟨tg, iter, ifs, 0⟩] scope pos) 0 (.ref it) (.ref s.heap.objs.size) (compEnvC scope cl s3.heap.objs.size X.env)) (RR (.ref s.heap.objs.size) s3.heap.objs.size) s₄ := by
    rintro s₄ rfl
    refine codeAny_compLoop_go (fun n s' => ∃ i H', Inv (X.cmp scope cl vars s3.heap.objs.size s3 (upd H s.heap.objs.size (.lst [])) fp pins) [] (List.replicate vars.length none ++ σ) H' s' ∧ tn i s'.heap ∧ (∀ b ∈ fp, H' b = none) ∧ W i n H') ?_ m0
      ⟨0, _, I4, st1, fun b hb => (f3 b hb).1, w0⟩
    rintro n s5 ⟨i, H5, I5, st5, fr5, w5⟩
    rcases turn i n H5 w5 with ⟨stop, qn⟩ | ⟨go, N, hN, step⟩
    · refine thn (T.done (X.cmp scope cl vars s3.heap.objs.size s3 (upd H s.heap.objs.size (.lst [])) fp pins) rfl rfl rfl hc i [] s5 _ H5 _ I5 (stat fr5) st5 stop) fun r s6 hpat => ?_
      obtain ⟨hr, I6⟩ := hpat
      subst hr
      obtain ⟨m, hn, _⟩ := id I6.loc
      refine hRR _ _ s6 H5 m hn I6.free ?_ ?_ ?_ ?_ (fun h' hs' => inv_cmp_end I3 f3 I6 hs') qn
      · exact Nat.ne_of_gt I3.lt
      · intro x c e z
        obtain ⟨v, hv⟩ := I3.cell x c e
        exact absurd hv.lt (by rw [z]; exact Nat.lt_irrefl _)
      · intro p hp z
        obtain ⟨e, _⟩ := I3.pin p hp
        exact absurd (Heap.lt_size e) (by rw [z]; exact Nat.lt_irrefl _)
      · exact I3.sz
    · refine thn (T.item (X.cmp scope cl vars s3.heap.objs.size s3 (upd H s.heap.objs.size (.lst [])) fp pins) rfl rfl rfl hc i [] s5 _ H5 _ I5 (stat fr5) st5 go) fun r s6 hpat => ?_
      obtain ⟨u, hr, h6⟩ := hpat
      subst hr
      refine thn h6 fun _ s7 hpat => ?_
      obtain ⟨x, H7, I7, r7, y7, st7, fr7⟩ := hpat
      have I7' := I7.pinned (stat fr7) (T.obj _ _ st7)
      refine thn (hg _ _ _ _ _ _ _ s7 _ H7 x u _ I7' r7 (step x H7 y7)) fun _ s8 hpat => ?_
      obtain ⟨σ8, H8, I8, ⟨τ, e8, l8⟩, q8⟩ := hpat
      have back : ∀ {H9 : Hp} {s9 : Shared} {m' : Nat}, Inv (X.cmp scope cl vars s3.heap.objs.size s3 (upd H s.heap.objs.size (.lst [])) fp pins) ([] ++ pinsAt fp s7.heap) σ8 H9 s9 → m' < n → W (i + 1) m' H9 →
          ∃ m, m < n ∧ ∃ i H', Inv (X.cmp scope cl vars s3.heap.objs.size s3 (upd H s.heap.objs.size (.lst [])) fp pins) [] (List.replicate vars.length none ++ σ) H' s9 ∧ tn i s9.heap ∧ (∀ b ∈ fp, H' b = none) ∧ W i m H' := by
        intro H9 s9 m' I9 hm w9
        refine ⟨m', hm, i + 1, H9, (I9.unpinned (pins := [])).weak ?_ ?_, T.keep _ _ _ st7 fun b hb o e => (I9.pin (b, o) (List.mem_append_right _ (List.mem_append_right _ (mem_pinsAt hb e)))).1, fun b hb => ?_, w9⟩
        · rw [e8, List.length_append, List.length_append, List.length_replicate, l8]
        · intro j v ej
          by_cases hj : j < vars.length
          · rw [List.getElem?_append_left (by simpa using hj), List.getElem?_replicate, if_pos hj] at ej
            cases ej
          · rw [List.getElem?_append_right (by simpa using hj), List.length_replicate] at ej
            rw [e8, List.getElem?_append_right (by omega), l8]
            exact ej
        · obtain ⟨o, e, d⟩ := T.obj _ _ st7 b hb
          exact (I9.pin (b, o) (List.mem_append_right _ (List.mem_append_right _ (mem_pinsAt hb e)))).2.1
      refine thn (ht _ _ _ _ _ _ _ s8 σ8 H8 _ I8 q8) fun b s9 hpat => ?_
      obtain ⟨H9, I9, q9⟩ := hpat
      cases b with
      | false =>
        rw [if_neg Bool.false_ne_true] at q9 ⊢
        obtain ⟨m', hm, w9⟩ := hN _ q9
        exact back I9 hm w9
      | true =>
        rw [if_pos rfl] at q9 ⊢
        refine thn (he _ _ _ _ _ _ _ s9 σ8 H9 _ I9 q9) fun y s10 hpat => ?_
        obtain ⟨v, H10, I10, r10, acc, a10, z10, w10⟩ := hpat
        refine thn (mt_append _ s10 σ8 H10 (.ref s.heap.objs.size) [v] (.ref s.heap.objs.size) [y] (fun _ H11 => N H11) I10 rfl (.cons r10 .nil) ⟨_, acc, v, rfl, rfl, a10, z10, w10⟩) fun _ s11 hpat => ?_
        obtain ⟨_, H11, I11, _, w11⟩ := hpat
        obtain ⟨m', hm, w12⟩ := hN _ w11
        exact back I11 hm w12
  have fin := codeAny_compStart_list (loop _ rfl) (T.self X.A 0 { s3 with heap := h₁, toks := s3.toks + ([] : List (Str × Value)).length } _ _ st1 (loop _ rfl))
  subst hs3
  exact fin

theorem pe_comp {elt tg iter : Expr} {ifs : List Expr} {scope : Scope} {pos : Pos} (vars : List Str) {wi : TI} {g : TG} {tc : TT} {te : TE} (hc : X.calm = true) (S : CmpScope X scope) (hi : PI X tg iter wi)
    (hg : ∀ cl C s H fp pins, PG (X.cmp scope cl vars C s H fp pins) tg g) (ht : ∀ cl C s H fp pins, PIfs (X.cmp scope cl vars C s H fp pins) ifs tc) (he : ∀ cl C s H fp pins, PE (X.cmp scope cl vars C s H fp pins) elt te)
    (hs : ∀ x, foldedSetIterable iter X.env x = pure x := by intro _; rfl) : PE X (.ListComp elt [⟨tg, iter, ifs, 0⟩] scope pos) (tComp wi vars.length g tc te) := by
  intro pins s σ H Q I h
  obtain ⟨cl, hcl, c1, c2⟩ := closure_ok (scope := scope) (env := X.env) fun y hy hf => I.ok.has y.1 (by rcases S.free y hy hf with z | z; exact .inl z; exact .inr z)
  rw [eval_ListComp]
  refine wpAny_comprehension_free (use := none) rfl hs hcl S.kind S.names (thn (hi pins s σ H _ I h) fun v s1 h1 => thn h1 fun itv s2 h2 => ?_)
  obtain ⟨it, fp, tn, J, H2, e, I2, T, st2, f2, q⟩ := h2
  subst e
  refine comp_block (vars := vars) (Q := fun p => Q (.ref p)) hc S hg ht he c1 c2 I2 T st2 f2 q (RR := fun acc C => compPost (model X.prog X.w) X.A X.xe none (EP X pins σ Q) acc C) ?_
  intro p C s' H' m hn _ _ _ _ _ back hq
  exact ⟨m, hn, fun h' hs' => ⟨.ref p, H', back h' hs', rfl, hq⟩⟩

noncomputable def tSetComp (i : Nat) (wi : TI) (vn : Nat) (g : TG) (tc : TT) (te : TE) : TS := fun D σ H => tComp wi vn g tc te σ H fun v H1 => D.nx (σ.set i (some v)) H1
theorem ps_setcomp {elt tg iter : Expr} {ifs : List Expr} {scope : Scope} {pos spos py : Pos} {i : Nat} {y : Str} (vars : List Str) {wi : TI} {g : TG} {tc : TT} {te : TE} (hc : X.calm = true) (S : CmpScope X scope)
    (hN : X.N.Nodup) (hy : X.N[i]? = some y) (hl : Loc X.env.scope y) (hi : PI X tg iter wi)
    (hg : ∀ cl C s H fp pins, PG (X.cmp scope cl vars C s H fp pins) tg g) (ht : ∀ cl C s H fp pins, PIfs (X.cmp scope cl vars C s H fp pins) ifs tc) (he : ∀ cl C s H fp pins, PE (X.cmp scope cl vars C s H fp pins) elt te)
    (hsw : swapsWith (.ListComp elt [⟨tg, iter, ifs, 0⟩] scope pos) (some (.Name y py)) spos.line X.env = pure true)
    (hf : X.fn y = true ∨ X.env.scope.names.lookup y = some .local := by first | exact .inl rfl | exact .inr rfl | assumption)
    (hs : ∀ x, foldedSetIterable iter X.env x = pure x := by intro _; rfl) :
    PS X (.Assign [.Name y py] (.ListComp elt [⟨tg, iter, ifs, 0⟩] scope pos) spos) (tSetComp i wi vars.length g tc te) := by
  intro pins s σ H D I h
  obtain ⟨cl, hcl, c1, c2⟩ := closure_ok (scope := scope) (env := X.env) fun y hy hf => I.ok.has y.1 (by rcases S.free y hy hf with z | z; exact .inl z; exact .inr z)
  rw [exec_Assign_Name_used _ _ _ _ hsw]
  refine wpAny_bind (wpAny_standAt (wpAny_bind ?_))
  show wpAny _ X.A (do let _ ← comprehension (.ListComp elt [⟨tg, iter, ifs, 0⟩] scope pos) scope X.env _ (newList []) false (eval iter X.env) (some (assign (.Name y py) X.env))) _ _ s
  refine wpAny_bind (wpAny_mono (wpAny_comprehension_free (use := some (assign (.Name y py) X.env)) (Q := fun _ s' => SP X pins D .next s') rfl hs hcl S.kind S.names
    (thn (hi pins s σ H _ I h) fun v s1 h1 => thn h1 fun itv s2 h2 => ?_)) (fun _ s' hq => wpAny_pure (wpAny_pure hq)) fun _ _ e => e)
  obtain ⟨it, fp, tn, J, H2, e, I2, T, st2, f2, q⟩ := h2
  subst e
  refine comp_block (vars := vars) (Q := fun p H1 => D.nx (σ.set i (some (.ref p))) H1) hc S hg ht he c1 c2 I2 T st2 f2 q (RR := fun acc C => compPost (model X.prog X.w) X.A X.xe (some (assign (.Name y py) X.env)) (fun _ s' => SP X pins D .next s') acc C) ?_
  intro p C s' H' m hn hC hL hcells hpins hsz back hq
  have I' : Inv X pins σ H' s' := by have := back s'.heap (.refl ..); exact this
  show wpAny _ X.A (assign (.Name y py) X.env (.ref p)) _ _ _
  refine wpAny_assign_Name (store_ok2 I' hN hy hl (v := .ref p) (u := .ref p) rfl (fun s'' I'' hpat => ?_) hf)
  obtain ⟨a, sb, ha⟩ := hpat
  have hCa : C ≠ a := by
    rcases ha with z | z
    · rw [z]; exact hL
    · exact fun w => hcells _ _ z w.symm
  refine ⟨m, hn.sameBut sb hCa, fun h' hs' => ⟨_, H', I''.turned (t' := s''.toks) (it := C) (fun b o hb e => (hs'.2 b hb).trans e) hC hL (.inr hsz) hcells hpins, hq⟩⟩
end

theorem comp_range {lo : Int} {n vn : Nat} {g : TG} {tc : TT} {te : TE} {σ : St} {p : Addr} {H1 : Hp} {Q : Hp → Prop} (Pv : Nat → Hp → Prop) (h0 : Pv 0 (upd H1 p (.lst [])))
    (hs : ∀ i H, i < n → Pv i H → g (.int (lo + i)) (List.replicate vn none ++ σ) H fun σ2 H2 => (∃ τ : St, σ2 = τ ++ σ ∧ τ.length = vn) ∧ tc σ2 H2 fun b H3 =>
      if b = true then te σ2 H3 fun v H4 => ∃ acc, H4 p = some (.lst acc) ∧ acc.length < sizeLine ∧ Pv (i + 1) (upd H4 p (.lst (acc ++ [v]))) else Pv (i + 1) H3) (hd : ∀ H, Pv n H → Q H) : tCompW (Itr lo n) vn g tc te σ p H1 Q := by
  refine ⟨fun i m H => i ≤ n ∧ m = n - i ∧ Pv i H, ⟨n, Nat.zero_le _, rfl, h0⟩, fun i m H hw => ?_⟩
  obtain ⟨hi, rfl, hp⟩ := hw
  by_cases hl : i < n
  · refine .inr ⟨hl, Pv (i + 1), fun H' h' => ⟨n - (i + 1), by omega, by omega, rfl, h'⟩, fun x H' hy => ?_⟩
    obtain ⟨e1, e2⟩ := hy
    subst e1 e2
    exact hs i _ hl hp
  · have e : i = n := by omega
    subst e
    exact .inl ⟨Nat.le_refl _, hd H hp⟩
theorem comp_list {K : PySem.W.Frag} {a : Addr} {xs : List V} {vn : Nat} {g : TG} {tc : TT} {te : TE} {σ : St} {p : Addr} {H1 : Hp} {Q : Hp → Prop} (Pv : Nat → Hp → Prop) (h0 : Pv 0 (upd H1 p (.lst []))) (hl : ∀ i H, i ≤ xs.length → Pv i H → SqL K H a xs)
    (hs : ∀ i x H, xs[i]? = some x → Pv i H → g x (List.replicate vn none ++ σ) H fun σ2 H2 => (∃ τ : St, σ2 = τ ++ σ ∧ τ.length = vn) ∧ tc σ2 H2 fun b H3 =>
      if b = true then te σ2 H3 fun v H4 => ∃ acc, H4 p = some (.lst acc) ∧ acc.length < sizeLine ∧ Pv (i + 1) (upd H4 p (.lst (acc ++ [v]))) else Pv (i + 1) H3) (hd : ∀ H, Pv xs.length H → Q H) : tCompW (Itl K a) vn g tc te σ p H1 Q := by
  refine ⟨fun i m H => i ≤ xs.length ∧ m = xs.length - i ∧ Pv i H, ⟨xs.length, Nat.zero_le _, rfl, h0⟩, fun i m H hw => ?_⟩
  obtain ⟨hi, rfl, hp⟩ := hw
  have hq := hl i H hi hp
  by_cases hlt : i < xs.length
  · refine .inr ⟨⟨xs, xs[i], hq, List.getElem?_eq_getElem hlt⟩, Pv (i + 1), fun H' h' => ⟨xs.length - (i + 1), by omega, by omega, rfl, h'⟩, fun x H' hy => ?_⟩
    obtain ⟨e1, e2⟩ := hy
    subst e1
    exact hs i x _ (e2 xs hq) hp
  · have e : i = xs.length := by omega
    subst e
    exact .inl ⟨⟨xs, hq, Nat.le_refl _⟩, hd H hp⟩
theorem comp_tup {K : PySem.W.Frag} {a : Addr} {xs : List V} {vn : Nat} {g : TG} {tc : TT} {te : TE} {σ : St} {p : Addr} {H1 : Hp} {Q : Hp → Prop} (Pv : Nat → Hp → Prop) (h0 : Pv 0 (upd H1 p (.lst []))) (hl : ∀ i H, i ≤ xs.length → Pv i H → SqT K H a xs)
    (hs : ∀ i x H, xs[i]? = some x → Pv i H → g x (List.replicate vn none ++ σ) H fun σ2 H2 => (∃ τ : St, σ2 = τ ++ σ ∧ τ.length = vn) ∧ tc σ2 H2 fun b H3 =>
      if b = true then te σ2 H3 fun v H4 => ∃ acc, H4 p = some (.lst acc) ∧ acc.length < sizeLine ∧ Pv (i + 1) (upd H4 p (.lst (acc ++ [v]))) else Pv (i + 1) H3) (hd : ∀ H, Pv xs.length H → Q H) : tCompW (Itt K a) vn g tc te σ p H1 Q := by
  refine ⟨fun i m H => i ≤ xs.length ∧ m = xs.length - i ∧ Pv i H, ⟨xs.length, Nat.zero_le _, rfl, h0⟩, fun i m H hw => ?_⟩
  obtain ⟨hi, rfl, hp⟩ := hw
  have hq := hl i H hi hp
  by_cases hlt : i < xs.length
  · refine .inr ⟨⟨xs, xs[i], hq, List.getElem?_eq_getElem hlt⟩, Pv (i + 1), fun H' h' => ⟨xs.length - (i + 1), by omega, by omega, rfl, h'⟩, fun x H' hy => ?_⟩
    obtain ⟨e1, e2⟩ := hy
    subst e1
    exact hs i x _ (e2 xs hq) hp
  · have e : i = xs.length := by omega
    subst e
    exact .inl ⟨⟨xs, hq, Nat.le_refl _⟩, hd H hp⟩
end L2
set_option Elab.async false
set_option linter.all false
set_option maxRecDepth 100000
set_option maxHeartbeats 4000000
namespace ZT
open PySem PySem.Spec PyProof.Rows

section
variable {prog : Program} {w : World} {A : Around} {E : Value → Shared → Prop} {s : Shared}

theorem next_item {it t : Addr} {i : Nat} {items : Array Value} {x : Value} {Q : Value → Shared → Prop} (hit : s.heap.IsTupleIter it t i) (ht : s.heap.IsTuple t items) (hx : items[i]? = some x)
    (hQ : ∀ h', h'.IsTupleIter it t (i + 1) → Heap.SameBut it s.heap h' → Q x { s with heap := h' }) : wpAny (model prog w) A (Builtin.SmallTypes.nextOf (.ref it)) Q E s := by
  obtain ⟨o, ho, hc, hd⟩ := id hit
  obtain ⟨ol, hol, _, nl, hdl⟩ := ht
  unfold Builtin.SmallTypes.nextOf
  refine wpAny_bind (wpAny_callSpecial?_slot (name := Str.ofString "__next__") hit.typeIs F.slot_tuple_iterator_next (wpAny_call_entry F.slot_tuple_iterator_next hit.typeIs F.entry_tuple_iterator_next ?_ (F.args_tuple_iterator_next_1 _)))
  change wpAny _ _ (field (.ref it) 0 >>= _) _ _ s
  refine wpAny_bind (wpAny_field ho hd (x := .ref t) rfl ?_)
  change wpAny _ _ (if (Value.ref t == Value.none) = true then _ else _) _ _ s
  rw [if_neg (show ¬ ((Value.ref t == Value.none) = true) from Bool.false_ne_true)]
  change wpAny _ _ (field (.ref it) 1 >>= _) _ _ s
  refine wpAny_bind (wpAny_field ho hd (x := .int i 0) rfl ?_)
  change wpAny _ _ (seqItems? (.ref t) >>= _) _ _ s
  refine wpAny_bind (wpAny_seqItems hol hdl ?_)
  simp only [Int.toNat_natCast, hx]
  refine wpAny_bind (wpAny_setField ho hd (by simp) (wpAny_pure ⟨x, rfl, wpAny_pure (hQ _ ?_ (Heap.SameBut.update ..))⟩))
  exact ⟨_, Heap.get?_update_self _ ho (Obj.isFreed_of_fields (Obj.data_mapFields hd _)), (Obj.cls_mapFields ..).trans hc, by rw [Obj.data_mapFields hd]; simp [rawInt]⟩

theorem next_end {it t : Addr} {i : Nat} {items : Array Value} {Q : Value → Shared → Prop} (hh : A.handled = none) (hit : s.heap.IsTupleIter it t i) (ht : s.heap.IsTuple t items) (hx : items[i]? = none)
    (hE : ∀ h' e, Heap.ExtBut it s.heap h' → (∃ o, h'.get? e = some o ∧ o.cls = .type "StopIteration") → E (.ref e) { s with heap := h' }) : wpAny (model prog w) A (Builtin.SmallTypes.nextOf (.ref it)) Q E s := by
  obtain ⟨o, ho, hc, hd⟩ := id hit
  obtain ⟨ol, hol, _, nl, hdl⟩ := ht
  unfold Builtin.SmallTypes.nextOf
  refine wpAny_bind (wpAny_callSpecial?_slot (name := Str.ofString "__next__") hit.typeIs F.slot_tuple_iterator_next (wpAny_call_entry F.slot_tuple_iterator_next hit.typeIs F.entry_tuple_iterator_next ?_ (F.args_tuple_iterator_next_1 _)))
  change wpAny _ _ (field (.ref it) 0 >>= _) _ _ s
  refine wpAny_bind (wpAny_field ho hd (x := .ref t) rfl ?_)
  change wpAny _ _ (if (Value.ref t == Value.none) = true then _ else _) _ _ s
  rw [if_neg (show ¬ ((Value.ref t == Value.none) = true) from Bool.false_ne_true)]
  change wpAny _ _ (field (.ref it) 1 >>= _) _ _ s
  refine wpAny_bind (wpAny_field ho hd (x := .int i 0) rfl ?_)
  change wpAny _ _ (seqItems? (.ref t) >>= _) _ _ s
  refine wpAny_bind (wpAny_seqItems hol hdl ?_)
  simp only [Int.toNat_natCast, hx]
  refine wpAny_bind (wpAny_rule (wpAny_bind (wpAny_setField ho hd (by simp) ?_)))
  change wpAny _ _ (newExc (.type "StopIteration") [] >>= _) _ _ _
  refine wpAny_bind ?_
  simp only [newExc, newTuple]
  refine wpAny_bind (wpAny_newObj_type ?_ (by size_fits))
  refine wpAny_bind (m := firstArgMember _ _) (wpAny_of_eq (a := Value.none) (by first | rfl | (simp only [firstArgMember]; rfl)) ?_)
  refine wpAny_newObj_type ?_ (by size_fits)
  simp only [raiseNew]
  refine wpAny_bind (wpAny_handled ?_)
  first | rw [show A.in1.handled = none from hh] | rw [hh]
  refine wpAny_bind (wpAny_pure (wpAny_throw ?_))
  exact hE _ _ (((Heap.SameBut.update ..).extBut.push _).push _) ⟨_, Heap.get?_push_size _ rfl, rfl⟩

noncomputable abbrev IsZ (h : Heap) (z TI TO : Addr) (f0 f1 : Value) : Prop := h.get? z = some { cls := .type "zip", dict := none, data := .fields #[f0, f1, .bool false, .ref TI, .ref TO], slots := #[] }

structure Zt (h : Heap) (z TI TO i1 i2 l1 l2 : Addr) (xs ys : Array Value) (k : Nat) : Prop where
  ti : IsPair h TI (.ref i1) (.ref i2)
  to : ∃ a b, IsPair h TO a b
  n1 : h.IsTupleIter i1 l1 k
  n2 : h.IsTupleIter i2 l2 k
  t1 : h.IsTuple l1 xs
  t2 : h.IsTuple l2 ys

theorem tupleAt {h h' : Heap} {a : Addr} {items : Array Value} (x : h.IsTuple a items) (k : ∀ o, h.get? a = some o → h'.get? a = some o) : h'.IsTuple a items := let ⟨o, e, r⟩ := x; ⟨o, k o e, r⟩

theorem first_item {z TI TO i1 i2 l1 l2 : Addr} {k : Nat} {xs ys : Array Value} {x y : Value} {Q : Value → Shared → Prop} (D : ZipApart z TI TO i1 i2 l1 l2) (hz : IsZ s.heap z TI TO .none (.bool false)) (Z : Zt s.heap z TI TO i1 i2 l1 l2 xs ys k)
    (hx : xs[k]? = some x) (hy : ys[k]? = some y)
    (hQ : ∀ h', IsZ h' z TI TO (rawInt s.heap.objs.size) (.bool false) → Zt h' z TI TO i1 i2 l1 l2 xs ys (k + 1) → IsPair h' s.heap.objs.size x y →
      (∀ c o, c ≠ z → c ≠ TO → c ≠ i1 → c ≠ i2 → s.heap.get? c = some o → h'.get? c = some o) → Q (.ref s.heap.objs.size) { s with heap := h' }) :
    wpAny (model prog w) A (Builtin.«zip.__next__» ⟨[.ref z], []⟩) (fun fin s' => ∃ v, fin = .done (.ret v) ∧ Q v s') E s := by
  obtain ⟨hTI, ⟨a, b, hTO⟩, h1, h2, hl1, hl2⟩ := Z
  change wpAny _ _ (field (.ref z) 2 >>= _) _ _ _
  refine wpAny_bind (wpAny_field hz rfl (x := .bool false) rfl ?_)
  change wpAny _ _ (field (.ref z) 3 >>= _) _ _ _
  refine wpAny_bind (wpAny_field hz rfl (x := .ref TI) rfl ?_)
  refine wpAny_bind (wpAny_seqItems hTI rfl ?_)
  change wpAny _ _ (Builtin.SmallTypes.ownedTupleIsFree (.ref z) >>= _) _ _ _
  refine wpAny_bind ?_
  unfold Builtin.SmallTypes.ownedTupleIsFree
  refine wpAny_bind (wpAny_field hz rfl (x := .none) rfl (wpAny_pure ?_))
  simp only [if_true]
  refine wpAny_bind (wpAny_rule ?_)
  refine wpAny_bind (wpAny_field hz rfl (x := .ref TO) rfl ?_)
  refine wpAny_bind (wpAny_setField_rec hz (by simp) fun g1 z1 b1 => ?_)
  replace z1 : IsZ g1 z TI TO .ellipsis (.bool false) := z1
  refine wpAny_bind ?_
  simp only [List.zipIdx_cons, List.zipIdx_nil, List.forIn_cons, List.forIn_nil]
  refine wpAny_bind (wpAny_bind (wpAny_onRaise ?_))
  change wpAny _ _ (Builtin.SmallTypes.nextOf (.ref i1) >>= _) _ _ _
  refine wpAny_bind (next_item (h1.extBut b1.extBut D.i1z) (hl1.extBut b1.extBut D.l1z) hx fun g2 n2 b2 => wpAny_pure ?_)
  have o2 : IsPair g2 TO a b := b2.extBut _ _ D.TOi1 (b1.extBut _ _ D.TOz hTO)
  refine wpAny_bind (wpAny_seqItems o2 rfl ?_)
  refine wpAny_bind (wpAny_updateSeq_pair o2 fun g3 o3 b3 => ?_)
  replace o3 : IsPair g3 TO x b := o3
  refine wpAny_bind (wpAny_letGo (wpAny_pure ?_))
  refine wpAny_bind (wpAny_bind (wpAny_onRaise ?_))
  change wpAny _ _ (Builtin.SmallTypes.nextOf (.ref i2) >>= _) _ _ _
  refine wpAny_bind (next_item (((h2.extBut b1.extBut D.i2z).extBut b2.extBut D.i12.symm).extBut b3.extBut D.TOi2.symm) (((hl2.extBut b1.extBut D.l2z).extBut b2.extBut D.l2i1).extBut b3.extBut D.l2TO) hy fun g4 n4 b4 => wpAny_pure ?_)
  have o4 : IsPair g4 TO x b := b4.extBut _ _ D.TOi2 o3
  refine wpAny_bind (wpAny_seqItems o4 rfl ?_)
  refine wpAny_bind (wpAny_updateSeq_pair o4 fun g5 o5 b5 => ?_)
  replace o5 : IsPair g5 TO x y := o5
  refine wpAny_bind (wpAny_letGo (wpAny_pure (wpAny_pure ?_)))
  refine wpAny_bind (wpAny_seqItems o5 rfl ?_)
  refine wpAny_bind (wpAny_newTuple ?_)
  have hsz : g5.objs.size = s.heap.objs.size := by rw [b5.1, b4.1, b3.1, b2.1, b1.1]
  have z5 : IsZ g5 z TI TO .ellipsis (.bool false) := b5.extBut _ _ D.TOz.symm (b4.extBut _ _ D.i2z.symm (b3.extBut _ _ D.TOz.symm (b2.extBut _ _ D.i1z.symm z1)))
  have k5 : ∀ c o, c ≠ z → c ≠ TO → c ≠ i1 → c ≠ i2 → s.heap.get? c = some o → g5.get? c = some o := fun c o c1 c2 c3 c4 e =>
    b5.extBut _ _ c2 (b4.extBut _ _ c4 (b3.extBut _ _ c2 (b2.extBut _ _ c3 (b1.extBut _ _ c1 e))))
  have m1 : g5.IsTupleIter i1 l1 (k + 1) := ((n2.extBut b3.extBut D.TOi1.symm).extBut b4.extBut D.i12).extBut b5.extBut D.TOi1.symm
  have m2 : g5.IsTupleIter i2 l2 (k + 1) := n4.extBut b5.extBut D.TOi2.symm
  have zlt : z < g5.objs.size := Heap.lt_size z5
  change wpAny _ _ (Builtin.SmallTypes.ownedTupleHandOut (.ref z) (.ref g5.objs.size) >>= _) _ _ _
  refine wpAny_bind ?_
  unfold Builtin.SmallTypes.ownedTupleHandOut
  have z6 : IsZ (g5.push { cls := .type "tuple", data := .seq #[x, y] }) z TI TO .ellipsis (.bool false) := Heap.get?_push_of_some _ z5
  refine wpAny_bind (wpAny_setField_rec z6 (by simp) fun g7 z7 b7 => ?_)
  replace z7 : IsZ g7 z TI TO (rawInt g5.objs.size) (.bool false) := z7
  refine wpAny_setField_rec z7 (by simp) fun g8 z8 b8 => ?_
  replace z8 : IsZ g8 z TI TO (rawInt g5.objs.size) (.bool false) := z8
  have up : ∀ c o, c ≠ z → g5.get? c = some o → g8.get? c = some o := fun c o c1 e => b8.extBut _ _ c1 (b7.extBut _ _ c1 (Heap.get?_push_of_some _ e))
  have p8 : IsPair g8 g5.objs.size x y := b8.extBut _ _ (Nat.ne_of_gt zlt) (b7.extBut _ _ (Nat.ne_of_gt zlt) (Heap.get?_push_size _ rfl))
  rw [hsz] at z8 p8
  refine wpAny_pure ⟨_, rfl, ?_⟩
  change Q (.ref g5.objs.size) _
  rw [hsz]
  have all : ∀ c o, c ≠ z → c ≠ TO → c ≠ i1 → c ≠ i2 → s.heap.get? c = some o → g8.get? c = some o := fun c o c1 c2 c3 c4 e => up c o c1 (k5 c o c1 c2 c3 c4 e)
  exact hQ g8 z8 ⟨all _ _ D.TIz D.TITO D.TIi1 D.TIi2 hTI, ⟨x, y, up _ _ D.TOz o5⟩, m1.at fun o e => up _ o D.i1z e, m2.at fun o e => up _ o D.i2z e, tupleAt hl1 fun o e => all _ o D.l1z D.l1TO D.l1i1 D.l1i2 e,
    tupleAt hl2 fun o e => all _ o D.l2z D.l2TO D.l2i1 D.l2i2 e⟩ p8 all

theorem more_item {z TI TO i1 i2 l1 l2 T : Addr} {k : Nat} {f : Bool} {oT : Obj} {xs ys : Array Value} {x y : Value} {Q : Value → Shared → Prop} (D : ZipApart z TI TO i1 i2 l1 l2) (hz : IsZ s.heap z TI TO (rawInt T) (.bool f)) (hT : s.heap.get? T = some oT)
    (Z : Zt s.heap z TI TO i1 i2 l1 l2 xs ys k) (hx : xs[k]? = some x) (hy : ys[k]? = some y)
    (hQ : ∀ h', IsZ h' z TI TO (rawInt T) (.bool true) → Zt h' z TI TO i1 i2 l1 l2 xs ys (k + 1) → IsPair h' s.heap.objs.size x y →
      (∀ c o, c ≠ z → c ≠ TO → c ≠ i1 → c ≠ i2 → s.heap.get? c = some o → h'.get? c = some o) → Q (.ref s.heap.objs.size) { s with heap := h' }) :
    wpAny (model prog w) A (Builtin.«zip.__next__» ⟨[.ref z], []⟩) (fun fin s' => ∃ v, fin = .done (.ret v) ∧ Q v s') E s := by
  obtain ⟨hTI, ⟨a, b, hTO⟩, h1, h2, hl1, hl2⟩ := Z
  change wpAny _ _ (field (.ref z) 2 >>= _) _ _ _
  refine wpAny_bind (wpAny_field hz rfl (x := .bool false) rfl ?_)
  change wpAny _ _ (field (.ref z) 3 >>= _) _ _ _
  refine wpAny_bind (wpAny_field hz rfl (x := .ref TI) rfl ?_)
  refine wpAny_bind (wpAny_seqItems hTI rfl ?_)
  change wpAny _ _ (Builtin.SmallTypes.ownedTupleIsFree (.ref z) >>= _) _ _ _
  refine wpAny_bind ?_
  unfold Builtin.SmallTypes.ownedTupleIsFree
  refine wpAny_bind (wpAny_field hz rfl (x := rawInt T) rfl ?_)
  change wpAny _ _ (loadIfAlive ((T : Int).toNat) >>= _) _ _ _
  rw [Int.toNat_natCast]
  refine wpAny_bind (PySem.W.kdx_alive hT ?_)
  simp only [Option.isNone_some, Bool.false_eq_true, if_false]
  refine wpAny_bind (wpAny_field hz rfl (x := .bool f) rfl ?_)
  have tailOk : ∀ g1 : Heap, IsZ g1 z TI TO (rawInt T) (.bool true) → Heap.SameBut z s.heap g1 → ∀ {g2 : Heap}, g2.IsTupleIter i1 l1 (k + 1) → Heap.SameBut i1 g1 g2 → ∀ {g3 : Heap}, g3.IsTupleIter i2 l2 (k + 1) → Heap.SameBut i2 g2 g3 →
      Q (.ref g3.objs.size) { s with heap := g3.push { cls := .type "tuple", data := .seq #[x, y] } } := by
    intro g1 z1 b1 g2 n2 b2 g3 n3 b3
    have hsz : g3.objs.size = s.heap.objs.size := by rw [b3.1, b2.1, b1.1]
    have k3 : ∀ c o, c ≠ z → c ≠ i1 → c ≠ i2 → s.heap.get? c = some o → (g3.push { cls := .type "tuple", data := .seq #[x, y] }).get? c = some o := fun c o c1 c2 c3 e =>
      Heap.get?_push_of_some _ (b3.extBut _ _ c3 (b2.extBut _ _ c2 (b1.extBut _ _ c1 e)))
    have z3 : IsZ (g3.push { cls := .type "tuple", data := .seq #[x, y] }) z TI TO (rawInt T) (.bool true) := Heap.get?_push_of_some _ (b3.extBut _ _ D.i2z.symm (b2.extBut _ _ D.i1z.symm z1))
    have p3 : IsPair (g3.push { cls := .type "tuple", data := .seq #[x, y] }) g3.objs.size x y := Heap.get?_push_size _ rfl
    rw [hsz] at p3 ⊢
    refine hQ _ z3 ⟨k3 _ _ D.TIz D.TIi1 D.TIi2 hTI, ⟨a, b, k3 _ _ D.TOz D.TOi1 D.TOi2 hTO⟩, (n2.extBut b3.extBut D.i12).at fun o e => Heap.get?_push_of_some _ e, n3.at fun o e => Heap.get?_push_of_some _ e,
      tupleAt hl1 fun o e => k3 _ o D.l1z D.l1i1 D.l1i2 e, tupleAt hl2 fun o e => k3 _ o D.l2z D.l2i1 D.l2i2 e⟩ p3 fun c o c1 _ c3 c4 e => k3 c o c1 c3 c4 e
  cases f with
  | true =>
    rw [if_neg (show ¬ ((Value.bool true != Value.bool true) = true) from Bool.false_ne_true)]
    refine wpAny_pure ?_
    simp only [Bool.false_eq_true, if_false, ← Array.forIn_toList, List.forIn_cons, List.forIn_nil]
    refine wpAny_bind (wpAny_bind (wpAny_bind (wpAny_holding ?_)))
    change wpAny _ _ (Builtin.SmallTypes.nextOf (.ref i1) >>= _) _ _ _
    refine wpAny_bind (next_item h1 hl1 hx fun g2 n2 b2 => wpAny_pure (wpAny_pure ?_))
    refine wpAny_bind (wpAny_bind (wpAny_holding ?_))
    change wpAny _ _ (Builtin.SmallTypes.nextOf (.ref i2) >>= _) _ _ _
    refine wpAny_bind (next_item (h2.extBut b2.extBut D.i12.symm) (hl2.extBut b2.extBut D.l2i1) hy fun g3 n3 b3 => wpAny_pure (wpAny_pure (wpAny_pure ?_)))
    refine wpAny_bind (wpAny_newTuple (hsz := by show 2 ≤ sizeLine; decide) (wpAny_pure ⟨_, rfl, ?_⟩))
    exact tailOk s.heap hz (.refl ..) n2 b2 n3 b3
  | false =>
    rw [if_pos (show (Value.bool false != Value.bool true) = true from rfl)]
    refine wpAny_bind (wpAny_setField_rec hz (by simp) fun g1 z1 b1 => ?_)
    replace z1 : IsZ g1 z TI TO (rawInt T) (.bool true) := z1
    refine wpAny_pure ?_
    simp only [Bool.false_eq_true, if_false, ← Array.forIn_toList, List.forIn_cons, List.forIn_nil]
    refine wpAny_bind (wpAny_bind (wpAny_bind (wpAny_holding ?_)))
    change wpAny _ _ (Builtin.SmallTypes.nextOf (.ref i1) >>= _) _ _ _
    refine wpAny_bind (next_item (h1.extBut b1.extBut D.i1z) (hl1.extBut b1.extBut D.l1z) hx fun g2 n2 b2 => wpAny_pure (wpAny_pure ?_))
    refine wpAny_bind (wpAny_bind (wpAny_holding ?_))
    change wpAny _ _ (Builtin.SmallTypes.nextOf (.ref i2) >>= _) _ _ _
    refine wpAny_bind (next_item ((h2.extBut b1.extBut D.i2z).extBut b2.extBut D.i12.symm) ((hl2.extBut b1.extBut D.l2z).extBut b2.extBut D.l2i1) hy fun g3 n3 b3 => wpAny_pure (wpAny_pure (wpAny_pure ?_)))
    refine wpAny_bind (wpAny_newTuple (hsz := by show 2 ≤ sizeLine; decide) (wpAny_pure ⟨_, rfl, ?_⟩))
    exact tailOk g1 z1 b1 n2 b2 n3 b3

theorem zip_end {z TI TO i1 i2 l1 l2 : Addr} {k : Nat} {f0 : Value} {f : Bool} {xs ys : Array Value} {Q : Fin → Shared → Prop} (hh : A.handled = none) (D : ZipApart z TI TO i1 i2 l1 l2) (hz : IsZ s.heap z TI TO f0 (.bool f))
    (hf : f0 = .none ∨ ∃ T oT, f0 = rawInt ((T : Nat) : Int) ∧ s.heap.get? T = some oT) (Z : Zt s.heap z TI TO i1 i2 l1 l2 xs ys k) (hend : xs[k]? = none ∨ ys[k]? = none)
    (hE : ∀ h' e, (∀ c o, c ≠ z → c ≠ TO → c ≠ i1 → c ≠ i2 → s.heap.get? c = some o → h'.get? c = some o) → (∃ o, h'.get? e = some o ∧ o.cls = .type "StopIteration") → E (.ref e) { s with heap := h' }) :
    wpAny (model prog w) A (Builtin.«zip.__next__» ⟨[.ref z], []⟩) Q E s := by
  obtain ⟨hTI, ⟨a, b, hTO⟩, h1, h2, hl1, hl2⟩ := Z
  change wpAny _ _ (field (.ref z) 2 >>= _) _ _ _
  refine wpAny_bind (wpAny_field hz rfl (x := .bool false) rfl ?_)
  change wpAny _ _ (field (.ref z) 3 >>= _) _ _ _
  refine wpAny_bind (wpAny_field hz rfl (x := .ref TI) rfl ?_)
  refine wpAny_bind (wpAny_seqItems hTI rfl ?_)
  change wpAny _ _ (Builtin.SmallTypes.ownedTupleIsFree (.ref z) >>= _) _ _ _
  refine wpAny_bind ?_
  unfold Builtin.SmallTypes.ownedTupleIsFree
  rcases hf with rfl | ⟨T, oT, rfl, hT⟩
  · refine wpAny_bind (wpAny_field hz rfl (x := .none) rfl (wpAny_pure ?_))
    simp only [if_true]
    refine wpAny_bind (wpAny_rule ?_)
    refine wpAny_bind (wpAny_field hz rfl (x := .ref TO) rfl ?_)
    refine wpAny_bind (wpAny_setField_rec hz (by simp) fun g1 z1 b1 => ?_)
    replace z1 : IsZ g1 z TI TO .ellipsis (.bool f) := z1
    refine wpAny_bind ?_
    simp only [List.zipIdx_cons, List.zipIdx_nil, List.forIn_cons, List.forIn_nil]
    refine wpAny_bind (wpAny_bind (wpAny_onRaise ?_))
    change wpAny _ _ (Builtin.SmallTypes.nextOf (.ref i1) >>= _) _ _ _
    cases hx : xs[k]? with
    | none =>
      refine wpAny_bind (next_end hh (h1.extBut b1.extBut D.i1z) (hl1.extBut b1.extBut D.l1z) hx fun g2 e b2 he => ?_)
      obtain ⟨oe, hoe, hce⟩ := he
      have z2 : IsZ g2 z TI TO .ellipsis (.bool f) := b2 _ _ D.i1z.symm z1
      have hez : e ≠ z := fun x => by subst x; rw [z2] at hoe; cases hoe; simp at hce
      exact wpAny_setField_rec z2 (by simp) fun g3 _ b3 => hE g3 e (fun c o c1 _ c3 _ x => b3.extBut _ _ c1 (b2 _ _ c3 (b1.extBut _ _ c1 x))) ⟨oe, b3.extBut _ _ hez hoe, hce⟩
    | some x =>
      have hy : ys[k]? = none := by rcases hend with h | h; rw [hx] at h; cases h; exact h
      refine wpAny_bind (next_item (h1.extBut b1.extBut D.i1z) (hl1.extBut b1.extBut D.l1z) hx fun g2 n2 b2 => wpAny_pure ?_)
      have o2 : IsPair g2 TO a b := b2.extBut _ _ D.TOi1 (b1.extBut _ _ D.TOz hTO)
      refine wpAny_bind (wpAny_seqItems o2 rfl ?_)
      refine wpAny_bind (wpAny_updateSeq_pair o2 fun g3 o3 b3 => ?_)
      refine wpAny_bind (wpAny_letGo (wpAny_pure ?_))
      refine wpAny_bind (wpAny_bind (wpAny_onRaise ?_))
      change wpAny _ _ (Builtin.SmallTypes.nextOf (.ref i2) >>= _) _ _ _
      refine wpAny_bind (next_end hh (((h2.extBut b1.extBut D.i2z).extBut b2.extBut D.i12.symm).extBut b3.extBut D.TOi2.symm) (((hl2.extBut b1.extBut D.l2z).extBut b2.extBut D.l2i1).extBut b3.extBut D.l2TO) hy fun g4 e b4 he => ?_)
      obtain ⟨oe, hoe, hce⟩ := he
      have z4 : IsZ g4 z TI TO .ellipsis (.bool f) := b4 _ _ D.i2z.symm (b3.extBut _ _ D.TOz.symm (b2.extBut _ _ D.i1z.symm z1))
      have hez : e ≠ z := fun x => by subst x; rw [z4] at hoe; cases hoe; simp at hce
      exact wpAny_setField_rec z4 (by simp) fun g5 _ b5 => hE g5 e (fun c o c1 c2 c3 c4 x => b5.extBut _ _ c1 (b4 _ _ c4 (b3.extBut _ _ c2 (b2.extBut _ _ c3 (b1.extBut _ _ c1 x))))) ⟨oe, b5.extBut _ _ hez hoe, hce⟩
  · refine wpAny_bind (wpAny_field hz rfl (x := rawInt T) rfl ?_)
    change wpAny _ _ (loadIfAlive ((T : Int).toNat) >>= _) _ _ _
    rw [Int.toNat_natCast]
    refine wpAny_bind (PySem.W.kdx_alive hT ?_)
    simp only [Option.isNone_some, Bool.false_eq_true, if_false]
    refine wpAny_bind (wpAny_field hz rfl (x := .bool f) rfl ?_)
    have fin : ∀ g1 : Heap, Heap.SameBut z s.heap g1 → (xs[k]? = none → ∀ {g2 : Heap} {e : Addr}, Heap.ExtBut i1 g1 g2 → (∃ o, g2.get? e = some o ∧ o.cls = .type "StopIteration") → E (.ref e) { s with heap := g2 }) ∧
        (∀ {g2 g3 : Heap} {e : Addr}, Heap.SameBut i1 g1 g2 → Heap.ExtBut i2 g2 g3 → (∃ o, g3.get? e = some o ∧ o.cls = .type "StopIteration") → E (.ref e) { s with heap := g3 }) := fun g1 b1 =>
      ⟨fun _ {g2 e} b2 he => hE g2 e (fun c o c1 _ c3 _ x => b2 _ _ c3 (b1.extBut _ _ c1 x)) he, fun {g2 g3 e} b2 b3 he => hE g3 e (fun c o c1 _ c3 c4 x => b3 _ _ c4 (b2.extBut _ _ c3 (b1.extBut _ _ c1 x))) he⟩
    cases f with
    | true =>
      rw [if_neg (show ¬ ((Value.bool true != Value.bool true) = true) from Bool.false_ne_true)]
      refine wpAny_pure ?_
      simp only [Bool.false_eq_true, if_false, ← Array.forIn_toList, List.forIn_cons, List.forIn_nil]
      refine wpAny_bind (wpAny_bind (wpAny_bind (wpAny_holding ?_)))
      change wpAny _ _ (Builtin.SmallTypes.nextOf (.ref i1) >>= _) _ _ _
      cases hx : xs[k]? with
      | none => exact wpAny_bind (next_end hh h1 hl1 hx fun g2 e b2 he => (fin s.heap (.refl ..)).1 hx b2 he)
      | some x =>
        have hy : ys[k]? = none := by rcases hend with h | h; rw [hx] at h; cases h; exact h
        refine wpAny_bind (next_item h1 hl1 hx fun g2 n2 b2 => wpAny_pure (wpAny_pure ?_))
        refine wpAny_bind (wpAny_bind (wpAny_holding ?_))
        change wpAny _ _ (Builtin.SmallTypes.nextOf (.ref i2) >>= _) _ _ _
        exact wpAny_bind (next_end hh (h2.extBut b2.extBut D.i12.symm) (hl2.extBut b2.extBut D.l2i1) hy fun g3 e b3 he => (fin s.heap (.refl ..)).2 b2 b3 he)
    | false =>
      rw [if_pos (show (Value.bool false != Value.bool true) = true from rfl)]
      refine wpAny_bind (wpAny_setField_rec hz (by simp) fun g1 z1 b1 => ?_)
      refine wpAny_pure ?_
      simp only [Bool.false_eq_true, if_false, ← Array.forIn_toList, List.forIn_cons, List.forIn_nil]
      refine wpAny_bind (wpAny_bind (wpAny_bind (wpAny_holding ?_)))
      change wpAny _ _ (Builtin.SmallTypes.nextOf (.ref i1) >>= _) _ _ _
      cases hx : xs[k]? with
      | none => exact wpAny_bind (next_end hh (h1.extBut b1.extBut D.i1z) (hl1.extBut b1.extBut D.l1z) hx fun g2 e b2 he => (fin g1 b1).1 hx b2 he)
      | some x =>
        have hy : ys[k]? = none := by rcases hend with h | h; rw [hx] at h; cases h; exact h
        refine wpAny_bind (next_item (h1.extBut b1.extBut D.i1z) (hl1.extBut b1.extBut D.l1z) hx fun g2 n2 b2 => wpAny_pure (wpAny_pure ?_))
        refine wpAny_bind (wpAny_bind (wpAny_holding ?_))
        change wpAny _ _ (Builtin.SmallTypes.nextOf (.ref i2) >>= _) _ _ _
        exact wpAny_bind (next_end hh ((h2.extBut b1.extBut D.i2z).extBut b2.extBut D.i12.symm) ((hl2.extBut b1.extBut D.l2z).extBut b2.extBut D.l2i1) hy fun g3 e b3 he => (fin g1 b1).2 b2 b3 he)

theorem zip_no_len : typeLookup (.type "zip") "__len__" = pure none := by rw [typeLookup_type, builtinLookup_eq_fast]; kernel_rfl
theorem zip_no_hint : typeLookup (.type "zip") "__length_hint__" = pure none := by rw [typeLookup_type, builtinLookup_eq_fast]; kernel_rfl

noncomputable def Pairs (h : Heap) (S : Addr) (xs ys : Array Value) (acc : Array Value) : Prop := ∀ (j : Nat) (v : Value), acc[j]? = some v → ∃ T x y, v = .ref T ∧ xs[j]? = some x ∧ ys[j]? = some y ∧ S < T ∧ IsPair h T x y

theorem loop {R : Result → Shared → Prop} {z TI TO i1 i2 l1 l2 S : Addr} {xs ys : Array Value} {res : Value} (hh : A.handled = none) (D : ZipApart z TI TO i1 i2 l1 l2) (hS1 : ∀ b ∈ [z, TI, TO, i1, i2, l1, l2], S ≠ b) (hn : min xs.size ys.size ≤ sizeLine) :
    ∀ (r k : Nat) (s : Shared) (acc : Array Value) (c : Nat) (f0 : Value) (f : Bool), min xs.size ys.size - k = r → k ≤ min xs.size ys.size → Zt s.heap z TI TO i1 i2 l1 l2 xs ys k → IsZ s.heap z TI TO f0 (.bool f) →
      ((f0 = .none ∧ f = false) ∨ ∃ T oT, f0 = rawInt ((T : Nat) : Int) ∧ s.heap.get? T = some oT ∧ ∀ b ∈ [z, TO, i1, i2, S], T ≠ b) →
      s.heap.get? S = some { cls := .type "list", dict := none, data := .seq acc c, slots := #[] } → acc.size = k → Pairs s.heap S xs ys acc → (∀ (j : Nat) (T : Addr), acc[j]? = some (.ref T) → ∀ b ∈ [z, TO, i1, i2, S], T ≠ b) →
      (∀ h' acc' c', (∀ b o, b ≠ S → b ≠ z → b ≠ TO → b ≠ i1 → b ≠ i2 → s.heap.get? b = some o → h'.get? b = some o) → h'.get? S = some { cls := .type "list", dict := none, data := .seq acc' c', slots := #[] } →
        acc'.size = min xs.size ys.size → Pairs h' S xs ys acc' → R (.ok (.ret res)) { s with heap := h' }) →
      codeAny (model prog w) A (.builtin "list.extend.loop" ⟨[.ref S, .ref z, res], []⟩) R s := by
  intro r
  have Sz : S ≠ z := hS1 z (by simp)
  have STO : S ≠ TO := hS1 TO (by simp)
  have Si1 : S ≠ i1 := hS1 i1 (by simp)
  have Si2 : S ≠ i2 := hS1 i2 (by simp)
  induction r with
  | zero =>
    intro k s acc c f0 f hr hk Z hz hf hS ha hp hap hR
    have hkn : k = min xs.size ys.size := by omega
    refine codeAny_builtin F.entry_extend_loop ?_
    rw [Around.under_plainId F.plain_extend_loop _]
    change wpAny _ A.in1 (pyNext (.ref z) >>= _) _ _ s
    have hT : s.TypeIs (.ref z) "zip" := ⟨_, hz, rfl⟩
    have hend : xs[k]? = none ∨ ys[k]? = none := by
      rcases Nat.le_total xs.size ys.size with h | h
      · exact .inl (Array.getElem?_eq_none (by rw [hkn, Nat.min_eq_left h]; exact Nat.le_refl _))
      · exact .inr (Array.getElem?_eq_none (by rw [hkn, Nat.min_eq_right h]; exact Nat.le_refl _))
    refine wpAny_bind ?_
    unfold pyNext
    refine wpAny_bind (wpAny_attempt (wpAny_callSpecial?_slot (name := Str.ofString "__next__") hT F.slot_zip_next (wpAny_call_entry F.slot_zip_next hT F.entry_zip_next
      (zip_end hh D hz (by rcases hf with ⟨e, _⟩ | ⟨T, oT, e, eT, _⟩; exact .inl e; exact .inr ⟨T, oT, e, eT⟩) Z hend fun h' e kp he => ?_) (F.args_zip_next_1 _))))
    obtain ⟨o, ho, hc⟩ := he
    refine wpAny_bind (wpAny_isInstance (T := "StopIteration") (b := true) ⟨o, ho, hc⟩ isSubtype_stop ?_)
    refine wpAny_pure (wpAny_pure ?_)
    refine hR h' acc c (fun b o _ b1 b2 b3 b4 e => kp b o b1 b2 b3 b4 e) (kp _ _ Sz STO Si1 Si2 hS) (by omega) (fun j v e => ?_)
    obtain ⟨T, x, y, rfl, ex, ey, lt, pr⟩ := hp j v e
    have q := hap j T e
    exact ⟨T, x, y, rfl, ex, ey, lt, kp _ _ (q z (by simp)) (q TO (by simp)) (q i1 (by simp)) (q i2 (by simp)) pr⟩
  | succ r ih =>
    intro k s acc c f0 f hr hk Z hz hf hS ha hp hap hR
    have hkx : k < xs.size := by omega
    have hky : k < ys.size := by omega
    refine codeAny_builtin F.entry_extend_loop ?_
    rw [Around.under_plainId F.plain_extend_loop _]
    change wpAny _ A.in1 (pyNext (.ref z) >>= _) _ _ s
    have hT : s.TypeIs (.ref z) "zip" := ⟨_, hz, rfl⟩
    have slt : ∀ {b : Addr} {o : Obj}, s.heap.get? b = some o → s.heap.objs.size ≠ b := fun e => Nat.ne_of_gt (Heap.lt_size e)
    obtain ⟨o1, e1, _⟩ := id Z.n1
    obtain ⟨o2, e2, _⟩ := id Z.n2
    obtain ⟨a0, b0, e3⟩ := id Z.to
    have newAp : ∀ b ∈ [z, TO, i1, i2, S], s.heap.objs.size ≠ b := by
      intro b hb
      simp only [List.mem_cons, List.not_mem_nil, or_false] at hb
      rcases hb with rfl | rfl | rfl | rfl | rfl
      · exact slt hz
      · exact slt e3
      · exact slt e1
      · exact slt e2
      · exact slt hS
    -- what follows when the pair has come
    have next : ∀ (h' : Heap) (f0' : Value) (f' : Bool), IsZ h' z TI TO f0' (.bool f') → ((f0' = .none ∧ f' = false) ∨ ∃ T oT, f0' = rawInt ((T : Nat) : Int) ∧ h'.get? T = some oT ∧ ∀ b ∈ [z, TO, i1, i2, S], T ≠ b) →
        Zt h' z TI TO i1 i2 l1 l2 xs ys (k + 1) → IsPair h' s.heap.objs.size xs[k] ys[k] → (∀ c o, c ≠ z → c ≠ TO → c ≠ i1 → c ≠ i2 → s.heap.get? c = some o → h'.get? c = some o) →
        wpAny (model prog w) A.in1 (updateSeq S (·.push (.ref s.heap.objs.size)) >>= fun _ => again (.builtin "list.extend.loop" ⟨[.ref S, .ref z, res], []⟩))
          (fun fin s' => match fin with | .done f => R (.ok f) s' | .again c' => c'.quiet = true ∧ codeAny (model prog w) A c' R s') (fun e s' => R (.error e) s') { s with heap := h' } := by
      intro h' f0' f' z' hf' Z' pr kp
      have S' : h'.get? S = some { cls := .type "list", dict := none, data := .seq acc c, slots := #[] } := kp _ _ Sz STO Si1 Si2 hS
      refine wpAny_bind (wpAny_updateSeq S' rfl (wpAny_pure ⟨plainId_quiet F.plain_extend_loop _, ?_⟩) (by rw [ha]; omega) (by show (acc.push _).size ≤ sizeLine + 1; rw [Array.size_push, ha]; omega))
      have oth : ∀ b o, b ≠ S → h'.get? b = some o → (h'.update S (Obj.mapSeq (·.push (Value.ref s.heap.objs.size)))).get? b = some o := fun b o hb e => (Heap.get?_update_other _ _ (Ne.symm hb)).trans e
      have S7 : ∀ b ∈ [z, TI, TO, i1, i2, l1, l2], b ≠ S := fun b hb => (hS1 b hb).symm
      refine ih (k + 1) _ (acc.push (.ref s.heap.objs.size)) _ f0' f' (by omega) (by omega) ?_ (oth _ _ Sz.symm z') ?_ (Heap.get?_update_self _ S' rfl) (by rw [Array.size_push, ha]) ?_ ?_ ?_
      · obtain ⟨q1, ⟨qa, qb, q2⟩, q3, q4, q5, q6⟩ := Z'
        exact ⟨oth _ _ (S7 TI (by simp)) q1, ⟨qa, qb, oth _ _ (S7 TO (by simp)) q2⟩, q3.at fun o e => oth _ o (S7 i1 (by simp)) e, q4.at fun o e => oth _ o (S7 i2 (by simp)) e, tupleAt q5 fun o e => oth _ o (S7 l1 (by simp)) e, tupleAt q6 fun o e => oth _ o (S7 l2 (by simp)) e⟩
      · rcases hf' with q | ⟨T, oT, q1, q2, q3⟩
        · exact .inl q
        · exact .inr ⟨T, oT, q1, oth _ _ (q3 S (by simp)) q2, q3⟩
      · intro j v e
        rw [Array.getElem?_push] at e
        split at e
        · rename_i ej
          cases e
          rw [ha] at ej
          subst ej
          exact ⟨_, xs[j], ys[j], rfl, Array.getElem?_eq_getElem hkx, Array.getElem?_eq_getElem hky, Heap.lt_size hS, oth _ _ (newAp S (by simp)) pr⟩
        · obtain ⟨T, x, y, rfl, ex, ey, lt0, pr0⟩ := hp j v e
          have q := hap j T e
          exact ⟨T, x, y, rfl, ex, ey, lt0, oth _ _ (q S (by simp)) (kp _ _ (q z (by simp)) (q TO (by simp)) (q i1 (by simp)) (q i2 (by simp)) pr0)⟩
      · intro j T e
        rw [Array.getElem?_push] at e
        split at e
        · cases e; exact newAp
        · exact hap j T e
      · intro h'' acc' c' kp2 g1 g2 g3
        exact hR h'' acc' c' (fun b o b0 b1 b2 b3 b4 e => kp2 b o b0 b1 b2 b3 b4 (oth _ _ b0 (kp _ _ b1 b2 b3 b4 e))) g1 g2 g3
    refine wpAny_bind ?_
    unfold pyNext
    rcases hf with ⟨rfl, rfl⟩ | ⟨T, oT, rfl, eT, aT⟩
    · refine wpAny_bind (wpAny_attempt (wpAny_callSpecial?_slot (name := Str.ofString "__next__") hT F.slot_zip_next (wpAny_call_entry F.slot_zip_next hT F.entry_zip_next
        (first_item D hz Z (Array.getElem?_eq_getElem hkx) (Array.getElem?_eq_getElem hky) fun h' z' Z' pr kp => wpAny_pure ?_) (F.args_zip_next_1 _))))
      exact next h' _ false z' (.inr ⟨_, _, rfl, pr, newAp⟩) Z' pr kp
    · refine wpAny_bind (wpAny_attempt (wpAny_callSpecial?_slot (name := Str.ofString "__next__") hT F.slot_zip_next (wpAny_call_entry F.slot_zip_next hT F.entry_zip_next
        (more_item D hz eT Z (Array.getElem?_eq_getElem hkx) (Array.getElem?_eq_getElem hky) fun h' z' Z' pr kp => wpAny_pure ?_) (F.args_zip_next_1 _))))
      exact next h' _ true z' (.inr ⟨T, oT, rfl, kp _ _ (aT z (by simp)) (aT TO (by simp)) (aT i1 (by simp)) (aT i2 (by simp)) eT, aT⟩) Z' pr kp

theorem extend {R : Result → Shared → Prop} {z TI TO i1 i2 l1 l2 S : Addr} {xs ys : Array Value} {res : Value} {c₀ : Nat} (hh : A.handled = none) (D : ZipApart z TI TO i1 i2 l1 l2) (hS1 : ∀ b ∈ [z, TI, TO, i1, i2, l1, l2], S ≠ b) (hn : min xs.size ys.size ≤ sizeLine)
    (Z : Zt s.heap z TI TO i1 i2 l1 l2 xs ys 0) (hz : IsZ s.heap z TI TO .none (.bool false)) (hS : s.heap.get? S = some { cls := .type "list", data := .seq #[] c₀ })
    (hR : ∀ h' acc' c', (∀ b o, b ≠ S → b ≠ z → b ≠ TO → b ≠ i1 → b ≠ i2 → s.heap.get? b = some o → h'.get? b = some o) → h'.get? S = some { cls := .type "list", dict := none, data := .seq acc' c', slots := #[] } →
      acc'.size = min xs.size ys.size → Pairs h' S xs ys acc' → R (.ok (.ret res)) { s with heap := h' }) :
    wpAny (model prog w) A.in1 (Builtin.List.listExtendWith (.ref S) (.ref z) res)
      (fun fin s' => match fin with | .done f => R (.ok f) s' | .again c' => c'.quiet = true ∧ codeAny (model prog w) A c' R s') (fun e s' => R (.error e) s') s := by
  have hT : s.TypeIs (.ref z) "zip" := ⟨_, hz, rfl⟩
  have Sz : S ≠ z := hS1 z (by simp)
  unfold Builtin.List.listExtendWith
  refine wpAny_bind (wpAny_typeOf hT ?_)
  have q1 : Builtin.List.listSameRef (.ref S) (.ref z) = false := by simp [Builtin.List.listSameRef, Sz]
  have q2 : (Value.type "zip" == Value.type "list") = false := by decide
  have q3 : (Value.type "zip" == Value.type "tuple") = false := by decide
  simp only [q1, q2, q3, Bool.or_false, Bool.false_eq_true, if_false]
  refine wpAny_bind (wpAny_pyIter_slot hT F.slot_zip_iter (wpAny_call_entry F.slot_zip_iter hT F.entry_zip_iter (wpAny_pure ⟨_, rfl, "zip", _, hT, F.slot_zip_next.lookup, ?_⟩) (F.args_zip_iter_1 _)))
  refine wpAny_bind (wpAny_holding ?_)
  unfold Builtin.List.listLengthHint
  refine wpAny_bind (wpAny_specialOf hT zip_no_len ?_)
  change wpAny _ A.in1 (specialOf (Value.ref z) (Str.ofString "__length_hint__") >>= _) _ _ _
  refine wpAny_bind (wpAny_specialOf hT zip_no_hint ?_)
  refine wpAny_pure ?_
  change wpAny _ A.in1 (rule "list.extend.makes-room" >>= fun _ => Builtin.List.listTouch (.ref S) >>= fun _ => again (.builtin "list.extend.loop" ⟨[.ref S, .ref z, res], []⟩)) _ _ _
  refine wpAny_bind (wpAny_rule (wpAny_bind ?_))
  change wpAny _ A.in1 (updateSeq S (·.push .none) >>= fun _ => updateSeq S (·.pop)) _ _ _
  refine wpAny_bind (wpAny_updateSeq hS rfl ?_)
  have S2 := Heap.get?_update_self (Obj.mapSeq (·.push Value.none)) hS rfl
  refine wpAny_updateSeq (hz := by seq_fits) S2 rfl ?_
  have S3 := Heap.get?_update_self (Obj.mapSeq (·.pop)) S2 rfl
  have oth : ∀ b o, b ≠ S → s.heap.get? b = some o → ((s.heap.update S (Obj.mapSeq (·.push Value.none))).update S (Obj.mapSeq (·.pop))).get? b = some o :=
    fun b o hb e => (Heap.get?_update_other _ _ (Ne.symm hb)).trans ((Heap.get?_update_other _ _ (Ne.symm hb)).trans e)
  have S7 : ∀ b ∈ [z, TI, TO, i1, i2, l1, l2], b ≠ S := fun b hb => (hS1 b hb).symm
  obtain ⟨p1, ⟨pa, pb, p2⟩, p3, p4, p5, p6⟩ := Z
  refine wpAny_pure ⟨plainId_quiet F.plain_extend_loop _, loop hh D hS1 hn _ 0 _ _ _ .none false rfl (Nat.zero_le _)
    ⟨oth _ _ (S7 TI (by simp)) p1, ⟨pa, pb, oth _ _ (S7 TO (by simp)) p2⟩, p3.at fun o e => oth _ o (S7 i1 (by simp)) e, p4.at fun o e => oth _ o (S7 i2 (by simp)) e, tupleAt p5 fun o e => oth _ o (S7 l1 (by simp)) e, tupleAt p6 fun o e => oth _ o (S7 l2 (by simp)) e⟩
    (oth _ _ Sz.symm hz) (.inl ⟨rfl, rfl⟩) S3 rfl (fun j v e => by simp at e) (fun j T e => by simp at e) fun h' acc' c' kp g1 g2 g3 => ?_⟩
  exact hR h' acc' c' (fun b o b0 b1 b2 b3 b4 e => kp b o b0 b1 b2 b3 b4 (oth _ _ b0 e)) g1 g2 g3

theorem call_list {z TI TO i1 i2 l1 l2 : Addr} {xs ys : Array Value} {Q : Value → Shared → Prop} (hh : A.handled = none) (D : ZipApart z TI TO i1 i2 l1 l2) (hn : min xs.size ys.size ≤ sizeLine)
    (Z : Zt s.heap z TI TO i1 i2 l1 l2 xs ys 0) (hz : IsZ s.heap z TI TO .none (.bool false)) (lt : ∀ b ∈ [z, TI, TO, i1, i2, l1, l2], b < s.heap.objs.size)
    (hQ : ∀ h' acc' c', (∀ b o, b ≠ z → b ≠ TO → b ≠ i1 → b ≠ i2 → s.heap.get? b = some o → h'.get? b = some o) → h'.get? s.heap.objs.size = some { cls := .type "list", dict := none, data := .seq acc' c', slots := #[] } →
      acc'.size = min xs.size ys.size → Pairs h' s.heap.objs.size xs ys acc' → Q (.ref s.heap.objs.size) { s with heap := h' }) : wpAny (model prog w) A (call (.type "list") [.ref z]) Q E s := by
  refine callType_codes (Q₁ := fun obj s₁ => obj = .ref s.heap.objs.size ∧ s₁ = { s with heap := s.heap.push { cls := .type "list", data := .seq #[] } }) F.called_list (F.typeCall_list_1 _) F.entry_list_init (code_list_new _ ⟨rfl, rfl⟩) fun obj s₁ h₁ => ?_
  obtain ⟨rfl, rfl⟩ := h₁
  have hS : (s.heap.push { cls := .type "list", data := .seq #[] }).get? s.heap.objs.size = some { cls := .type "list", data := .seq #[] } := Heap.get?_push_size _ rfl
  refine ⟨⟨_, hS, rfl⟩, F.args_list_init_2 _ _, ?_⟩
  change wpAny _ A.in1.in1 (do let old ← Builtin.List.listItems (.ref s.heap.objs.size); Builtin.List.listUpdate (.ref s.heap.objs.size) (fun _ => #[]); letGo old.toList.reverse; Builtin.List.listExtendWith (.ref s.heap.objs.size) (.ref z) .none) _ _ _
  refine wpAny_bind ?_
  unfold Builtin.List.listItems
  refine wpAny_bind (wpAny_seqItems hS rfl (wpAny_pure ?_))
  change wpAny _ A.in1.in1 (updateSeq s.heap.objs.size (fun _ => #[]) >>= fun _ => letGo (#[] : Array Value).toList.reverse >>= fun _ => Builtin.List.listExtendWith (.ref s.heap.objs.size) (.ref z) .none) _ _ _
  refine wpAny_bind (wpAny_updateSeq hS rfl ?_)
  have S2 := Heap.get?_update_self (Obj.mapSeq (fun _ => (#[] : Array Value))) hS rfl
  have oth : ∀ b o, b ≠ s.heap.objs.size → s.heap.get? b = some o → ((s.heap.push { cls := .type "list", data := .seq #[] }).update s.heap.objs.size (Obj.mapSeq (fun _ => (#[] : Array Value)))).get? b = some o :=
    fun b o hb e => (Heap.get?_update_other _ _ (Ne.symm hb)).trans (Heap.get?_push_of_some _ e)
  refine wpAny_bind (wpAny_letGo ?_)
  have nS : ∀ b ∈ [z, TI, TO, i1, i2, l1, l2], b ≠ s.heap.objs.size := fun b hb => Nat.ne_of_lt (lt b hb)
  obtain ⟨p1, ⟨pa, pb, p2⟩, p3, p4, p5, p6⟩ := Z
  refine extend hh D (fun b hb => (nS b hb).symm) hn ⟨oth _ _ (nS TI (by simp)) p1, ⟨pa, pb, oth _ _ (nS TO (by simp)) p2⟩, p3.at fun o e => oth _ o (nS i1 (by simp)) e, p4.at fun o e => oth _ o (nS i2 (by simp)) e,
    tupleAt p5 fun o e => oth _ o (nS l1 (by simp)) e, tupleAt p6 fun o e => oth _ o (nS l2 (by simp)) e⟩ (oth _ _ (nS z (by simp)) hz) S2 fun h' acc' c' kp g1 g2 g3 => ?_
  refine ⟨rfl, hQ h' acc' c' (fun b o b1 b2 b3 b4 e => kp b o (Nat.ne_of_lt (Heap.lt_size e)) b1 b2 b3 b4 (oth _ _ (Nat.ne_of_lt (Heap.lt_size e)) e)) g1 g2 g3⟩

noncomputable abbrev k1 (h : Heap) (l1 : Addr) : Heap := h.push { cls := .type "tuple_iterator", data := .fields #[.ref l1, .int 0 0] }
noncomputable abbrev k2 (h : Heap) (l1 l2 : Addr) : Heap := (k1 h l1).push { cls := .type "tuple_iterator", data := .fields #[.ref l2, .int 0 0] }
noncomputable abbrev k3 (h : Heap) (l1 l2 : Addr) : Heap := (k2 h l1 l2).push { cls := .type "tuple", data := .seq #[.ref h.objs.size, .ref (k1 h l1).objs.size] }
noncomputable abbrev k4 (h : Heap) (l1 l2 : Addr) : Heap := (k3 h l1 l2).push { cls := .type "tuple", data := .seq #[.none, .none] }
noncomputable abbrev k5 (h : Heap) (l1 l2 : Addr) : Heap := (k4 h l1 l2).push { cls := .type "zip", data := .fields #[.none, .bool false, .bool false, .ref (k2 h l1 l2).objs.size, .ref (k3 h l1 l2).objs.size] }
end
theorem meets_new (l1 l2 : Addr) (xs ys : Array Value) :
    Meets (Builtin.«zip.__new__» ⟨[.type "zip", .ref l1, .ref l2], []⟩) (fun _ R s => s.heap.IsTuple l1 xs ∧ s.heap.IsTuple l2 ys ∧ R (.ok (.ret (.ref (k4 s.heap l1 l2).objs.size))) { s with heap := k5 s.heap l1 l2 }) :=
  .of_wp fun prog w A R s h => by
    obtain ⟨hp, g, d, tk, os⟩ := s; obtain ⟨hl1, hl2, h⟩ := h
    have hsub := sub_zip
    have t1 : Heap.IsTuple (Shared.heap ⟨hp, g, d, tk, os⟩) l1 xs := hl1
    have t2 : Heap.IsTuple (Shared.heap ⟨hp.push { cls := .type "tuple_iterator", data := .fields #[.ref l1, .int 0 0] }, g, d, tk, os⟩) l2 ys := Heap.IsTuple.push hl2 _
    wp_walk using wpAny_pyIter_tuple t1, wpAny_pyIter_tuple t2
    exact ⟨_, rfl, h⟩
section
variable {prog : Program} {w : World} {A : Around} {E : Value → Shared → Prop} {s : Shared}
theorem call_zip {l1 l2 : Addr} {xs ys : Array Value} {Q : Value → Shared → Prop} (hl1 : s.heap.IsTuple l1 xs) (hl2 : s.heap.IsTuple l2 ys)
    (h : ∀ h', IsZ h' (s.heap.objs.size + 4) (s.heap.objs.size + 2) (s.heap.objs.size + 3) .none (.bool false) → Zt h' (s.heap.objs.size + 4) (s.heap.objs.size + 2) (s.heap.objs.size + 3) s.heap.objs.size (s.heap.objs.size + 1) l1 l2 xs ys 0 →
      h'.objs.size = s.heap.objs.size + 5 → (∀ c o, s.heap.get? c = some o → h'.get? c = some o) → Q (.ref (s.heap.objs.size + 4)) { s with heap := h' }) :
    wpAny (model prog w) A (call (.type "zip") [.ref l1, .ref l2]) Q E s := by
  refine callType_new F.called_zip (by decide) (F.typeCall_zip_2 _ _) (F.newCall_zip_2 _ _) (fun obj => F.args_object_init_3 obj _ _) F.entry_zip_new (meets_new l1 l2 xs ys) ⟨hl1, hl2, ?_⟩
  have z1 : (k1 s.heap l1).objs.size = s.heap.objs.size + 1 := Heap.size_push ..
  have z2 : (k2 s.heap l1 l2).objs.size = s.heap.objs.size + 2 := by rw [Heap.size_push, z1]
  have z3 : (k3 s.heap l1 l2).objs.size = s.heap.objs.size + 3 := by rw [Heap.size_push, z2]
  have z4 : (k4 s.heap l1 l2).objs.size = s.heap.objs.size + 4 := by rw [Heap.size_push, z3]
  have z5 : (k5 s.heap l1 l2).objs.size = s.heap.objs.size + 5 := by rw [Heap.size_push, z4]
  have g5 : (k5 s.heap l1 l2).get? (k4 s.heap l1 l2).objs.size = some _ := Heap.get?_push_size _ rfl
  have g4 : (k5 s.heap l1 l2).get? (k3 s.heap l1 l2).objs.size = some _ := Heap.get?_push_of_some _ (Heap.get?_push_size _ rfl)
  have g3 : (k5 s.heap l1 l2).get? (k2 s.heap l1 l2).objs.size = some _ := Heap.get?_push_of_some _ (Heap.get?_push_of_some _ (Heap.get?_push_size _ rfl))
  have g2 : (k5 s.heap l1 l2).get? (k1 s.heap l1).objs.size = some _ := Heap.get?_push_of_some _ (Heap.get?_push_of_some _ (Heap.get?_push_of_some _ (Heap.get?_push_size _ rfl)))
  have g1 : (k5 s.heap l1 l2).get? s.heap.objs.size = some _ := Heap.get?_push_of_some _ (Heap.get?_push_of_some _ (Heap.get?_push_of_some _ (Heap.get?_push_of_some _ (Heap.get?_push_size _ rfl))))
  have kp : ∀ c o, s.heap.get? c = some o → (k5 s.heap l1 l2).get? c = some o := fun c o x => Heap.get?_push_of_some _ (Heap.get?_push_of_some _ (Heap.get?_push_of_some _ (Heap.get?_push_of_some _ (Heap.get?_push_of_some _ x))))
  show _ ∧ _
  rw [z2, z3, z4] at g5
  rw [z1, z2] at g3
  rw [z3] at g4
  rw [z1] at g2
  rw [z4]
  exact ⟨⟨_, g5, rfl⟩, h _ g5 ⟨g3, ⟨_, _, g4⟩, ⟨_, g1, rfl, rfl⟩, ⟨_, g2, rfl, rfl⟩, tupleAt hl1 fun o e => kp _ o e, tupleAt hl2 fun o e => kp _ o e⟩ z5 kp⟩
end
end ZT

namespace L2
open PySem PySem.Spec PyProof.Rows
theorem absV_rel : ∀ {u : Value} {x : V}, absV u = some x → RelV x u
  | .none, _, h => by cases h; rfl
  | .bool _, _, h => by cases h; rfl
  | .int _ t, _, h => by cases h; exact ⟨t, rfl⟩
  | .str _ t, _, h => by cases h; exact ⟨t, rfl⟩
  | .bytes _ t, _, h => by cases h; exact ⟨t, rfl⟩
  | .float _ t, _, h => by cases h; exact ⟨t, rfl⟩
  | .ref _, _, h => by cases h; rfl
  | .type _, _, h => by cases h; rfl
  | .notImplemented, _, h => by cases h
  | .ellipsis, _, h => by cases h
  | .builtin _, _, h => by cases h
noncomputable def absPair (h : Heap) (b : Addr) : Option HO := match h.get? b with
  | some o => match o.cls, o.data with
    | .type "tuple", .seq its _ => match its.toList with
      | [u, v] => match absV u, absV v with
        | some x, some y => some (.tup [x, y])
        | _, _ => none
      | _ => none
    | _, _ => none
  | none => none
section
variable {X : Cx} {pins : List (Addr × Obj)} {σ : St} {H H' : Hp} {s : Shared}
theorem Inv.grow {h' : Heap} {t' : Nat} (I : Inv X pins σ H s) (k : ∀ b o, s.heap.get? b = some o → h'.get? b = some o) (same : ∀ b, b < s.heap.objs.size → H' b = H b) (hok : HOk X.prog X.w H' h') : Inv X pins σ H' { s with heap := h', toks := t' } := by
  have old : ∀ b u, H b = some u → H' b = some u := fun b u e => by rw [same b (I.hok.lt e)]; exact e
  exact I.un ⟨fun b o e _ _ _ => k b o e, fun b o e _ _ _ => ⟨o.slots, k b o e⟩, fun b o e n _ => by rw [same b (Heap.lt_size e)]; exact n, fun b o e _ => ⟨o, k b o e⟩, fun b xs e => old b _ e, fun b o u e => old b _ e,
    fun b ps e => ⟨#[], by rw [old b _ e]; simp⟩⟩ hok
end
noncomputable def tListZip (K : PySem.W.Frag) (ta : TA) : TE := fun σ H Q => ta σ H fun vs H1 => ExQ Q (fun l1 Q => ExQ Q (fun l2 Q => ExQ Q (fun xs Q => ExQ Q (fun ys Q => vs = [.ref l1, .ref l2] ∧ SqT K H1 l1 xs ∧ SqT K H1 l2 ys ∧
  ∀ (H2 : Hp) (l : Addr) (ps : List V), Same H1 H2 → H2 l = some (.lst ps) → H1 l = none → ps.length = min xs.length ys.length →
    (∀ (j : Nat) (x y : V), xs[j]? = some x → ys[j]? = some y → ∃ t, ps[j]? = some (.ref t) ∧ H2 t = some (.tup [x, y])) → Q (.ref l) H2))))
end L2
set_option Elab.async false
set_option linter.all false
set_option maxRecDepth 100000
set_option maxHeartbeats 4000000
namespace L2
open PySem PySem.Spec PyProof.Rows

theorem ar7 (n l1 l2 : Nat) (h1 : l1 < n) (h2 : l2 < n) : ∀ b ∈ [n + 4, n + 2, n + 3, n, n + 1, l1, l2], b < n + 5 := by
  intro b hb
  simp only [List.mem_cons, List.not_mem_nil, or_false] at hb
  omega
theorem ar4 (n b : Nat) (h : b < n) : b ≠ n + 4 ∧ b ≠ n + 3 ∧ b ≠ n ∧ b ≠ n + 1 := by omega
section
variable {X : Cx}
theorem pe_listzip {a b : Expr} {ta : TA} {p pos p2 pos2 : Pos} (hc : X.calm = true) (gl : Gl X "list") (ml : X.mg "list" = none) (gz : Gl X "zip") (mz : X.mg "zip" = none) (ha : PA X [a, b] ta)
    (h1 : starEach [.Call (.Name "zip" p2) [a, b] [] pos2] X.env = (false, eval (.Call (.Name "zip" p2) [a, b] [] pos2) X.env) :: starEach [] X.env := by rfl) (h2 : (backTo pos (starEach [] X.env)).any (·.1) = false := by rfl)
    (h3 : starEach [a, b] X.env = (false, eval a X.env) :: starEach [b] X.env := by rfl) (h4 : (backTo pos2 (starEach [b] X.env)).any (·.1) = false := by rfl) :
    PE X (.Call (.Name "list" p) [.Call (.Name "zip" p2) [a, b] [] pos2] [] pos) (tListZip X.K ta) := by
  intro pins s σ H Q I h
  refine wpAny_Call_Name_kw (ld_blt I gl ml PyProof.Rows.boot_list ?_)
  refine PyProof.Rows.callWith_type1 ?_ h1 h2
  rw [h1]
  change wpAny _ _ (spliced ((false, eval (.Call (.Name "zip" p2) [a, b] [] pos2) X.env) :: backTo pos (starEach [] X.env))) _ _ s
  refine Calls.spliced_cons ?_
  refine wpAny_Call_Name_kw (ld_blt I gz mz PyProof.Rows.boot_zip ?_)
  refine PyProof.Rows.callWith_type1 (thn (ha pos2 pins s σ H _ I h) fun us s1 hpat => ?_) h3 h4
  obtain ⟨vs, H1, I1, r1, q1⟩ := hpat
  obtain ⟨l1, l2, xs, ys, rfl, t1, t2, q⟩ := q1
  obtain ⟨u1, u2, rfl, e1, e2⟩ := r1.two
  cases e1; cases e2
  obtain ⟨its1, rv1, p1, z1⟩ := I1.tuple t1
  obtain ⟨its2, rv2, p2, z2⟩ := I1.tuple t2
  have lt1 : l1 < s1.heap.objs.size := p1.lt
  have lt2 : l2 < s1.heap.objs.size := p2.lt
  refine ZT.call_zip (xs := its1.toArray) (ys := its2.toArray) p1 p2 fun h' hz Z hsz kp => ?_
  refine Calls.spliced_nil ?_
  have ln1 := rv1.length
  have ln2 := rv2.length
  have hn : min its1.toArray.size its2.toArray.size ≤ sizeLine := by
    simp only [List.size_toArray]; omega
  refine ZT.call_list (s := { s1 with heap := h' }) (I1.ok.hd hc) (zipApart_new lt1 lt2) hn Z hz (fun b hb => ?_) fun h2 acc c kp2 hl ha2 hp => ?_
  · show b < h'.objs.size
    rw [hsz]
    exact ar7 _ _ _ lt1 lt2 b hb
  · have old : ∀ b o, s1.heap.get? b = some o → h2.get? b = some o := fun b o e => by
      obtain ⟨n1, n2, n3, n4⟩ := ar4 _ _ (Heap.lt_size e)
      exact kp2 b o n1 n2 n3 n4 (kp b o e)
    have hS : s1.heap.objs.size ≤ h'.objs.size := by omega
    -- the addresses of the pairs
    obtain ⟨ts, hts⟩ : ∃ ts : List Addr, acc.toList = ts.map Value.ref := by
      have go : ∀ l : List Value, (∀ v ∈ l, ∃ T, v = .ref T) → ∃ ts : List Addr, l = ts.map Value.ref := by
        intro l
        induction l with
        | nil => intro _; exact ⟨[], rfl⟩
        | cons v r ih =>
          intro hv
          obtain ⟨T, rfl⟩ := hv v List.mem_cons_self
          obtain ⟨ts, rfl⟩ := ih fun w hw => hv w (List.mem_cons_of_mem _ hw)
          exact ⟨T :: ts, rfl⟩
      refine go _ fun v hv => ?_
      obtain ⟨j, hj⟩ := List.getElem?_of_mem hv
      obtain ⟨T, _, _, e, _, _, _⟩ := hp j v (by simpa using hj)
      exact ⟨T, e⟩
    have lts : ts.length = min xs.length ys.length := by
      have e := congrArg List.length hts
      rw [List.length_map, Array.length_toList, ha2] at e
      simp only [List.size_toArray] at e
      omega
    let H2 : Hp := fun b => if b < s1.heap.objs.size then H1 b else if b = h'.objs.size then some (.lst (ts.map V.ref)) else absPair h2 b
    have ht : ∀ (j : Nat) (x y : V), xs[j]? = some x → ys[j]? = some y → ∃ t, (ts.map V.ref)[j]? = some (.ref t) ∧ H2 t = some (.tup [x, y]) := by
      intro j x y ex ey
      have hj : j < ts.length := by
        rw [lts]
        have := (List.getElem?_eq_some_iff.mp ex).1
        have := (List.getElem?_eq_some_iff.mp ey).1
        omega
      have ej : acc[j]? = some (.ref ts[j]) := by
        have : acc.toList[j]? = some (.ref ts[j]) := by rw [hts, List.getElem?_map, List.getElem?_eq_getElem hj]; rfl
        simpa using this
      obtain ⟨T, u, v, e, eu, ev, lT, pr⟩ := hp j _ ej
      cases e
      refine ⟨ts[j], by rw [List.getElem?_map, List.getElem?_eq_getElem hj]; rfl, ?_⟩
      obtain ⟨u', eu', ru⟩ := rv1.get ex
      obtain ⟨v', ev', rv⟩ := rv2.get ey
      have qu : u = u' := by
        have z : its1[j]? = some u := by simpa using eu
        rw [eu'] at z; cases z; rfl
      have qv : v = v' := by
        have z : its2[j]? = some v := by simpa using ev
        rw [ev'] at z; cases z; rfl
      subst qu qv
      have lT' : h'.objs.size < ts[j] := lT
      have hge : ¬ ts[j] < s1.heap.objs.size := Nat.not_lt.mpr (Nat.le_of_lt (Nat.lt_of_le_of_lt hS lT'))
      have hne : ts[j] ≠ h'.objs.size := Nat.ne_of_gt lT'
      show (if ts[j] < s1.heap.objs.size then H1 ts[j] else if ts[j] = h'.objs.size then some (.lst (ts.map V.ref)) else absPair h2 ts[j]) = _
      rw [if_neg hge, if_neg hne]
      unfold absPair
      have pr' : h2.get? ts[j] = some { cls := .type "tuple", data := .seq #[u, v] } := pr
      rw [pr']
      simp only [ru.abs, rv.abs]
    have lz : (ts.map V.ref).length ≤ sizeLine := by rw [List.length_map, lts]; simp only [List.size_toArray] at hn; omega
    have I2 : Inv X pins σ H2 { s1 with heap := h2, toks := s1.toks } := by
      refine I1.grow old (fun b hb => if_pos hb) fun b o e => ?_
      have e' : (if b < s1.heap.objs.size then H1 b else if b = h'.objs.size then some (.lst (ts.map V.ref)) else absPair h2 b) = some o := e
      by_cases hb : b < s1.heap.objs.size
      · rw [if_pos hb] at e'
        refine (I1.hok b o e').stay (fun c v _ q => old c v q) (fun c q => ?_) fun c zs q => ?_
        · show (if c < s1.heap.objs.size then H1 c else _) = _
          rw [if_pos (I1.hok.lt q)]; exact q
        · show (if c < s1.heap.objs.size then H1 c else _) = _
          rw [if_pos (I1.hok.lt q)]; exact q
      · rw [if_neg hb] at e'
        by_cases hb2 : b = h'.objs.size
        · rw [if_pos hb2] at e'
          cases e'
          subst hb2
          refine ⟨lz, acc.toList, c, ?_, ?_⟩
          · rw [hts]
            have : ∀ l : List Addr, Vals (l.map V.ref) (l.map Value.ref) := fun l => by
              induction l with
              | nil => exact .nil
              | cons a r ih => exact .cons rfl ih
            exact this ts
          · have hl' : h2.get? h'.objs.size = some { cls := .type "list", dict := none, data := .seq acc c, slots := #[] } := hl
            rw [hl', Array.toArray_toList]
        · rw [if_neg hb2] at e'
          unfold absPair at e'
          cases eo : h2.get? b with
          | none => rw [eo] at e'; cases e'
          | some ob =>
            rw [eo] at e'
            obtain ⟨cls, dct, dta, sl⟩ := ob
            dsimp only at e'
            split at e'
            · rename_i its nn
              split at e'
              · rename_i u v hl2
                split at e'
                · rename_i x y hx hy
                  cases e'
                  refine ⟨by show 2 ≤ sizeLine; decide, [u, v], .cons (absV_rel hx) (.cons (absV_rel hy) .nil), _, eo, rfl, nn, ?_⟩
                  show Data.seq its nn = Data.seq [u, v].toArray nn
                  rw [← hl2, Array.toArray_toList]
                · cases e'
              · cases e'
            · cases e'
    have fl : H1 h'.objs.size = none := by
      cases e : H1 h'.objs.size with
      | none => rfl
      | some o => exact absurd (I1.hok.lt e) (Nat.not_lt.mpr hS)
    refine ⟨.ref h'.objs.size, H2, I2, rfl, q H2 h'.objs.size (ts.map V.ref) (fun b o e => ?_) ?_ fl (by rw [List.length_map, lts]) ht⟩
    · show (if b < s1.heap.objs.size then H1 b else _) = _
      rw [if_pos (I1.hok.lt e)]; exact e
    · show (if h'.objs.size < s1.heap.objs.size then H1 h'.objs.size else if h'.objs.size = h'.objs.size then some (.lst (ts.map V.ref)) else absPair h2 h'.objs.size) = _
      rw [if_neg (Nat.not_lt.mpr hS), if_pos rfl]
end
end L2
set_option Elab.async false
set_option linter.all false
set_option maxRecDepth 100000
set_option maxHeartbeats 4000000
namespace L2
open PySem PySem.Spec PyProof.Rows

inductive D where
  | non | int (i : Int) | str (x : Str) | tup (ds : List D)

mutual
noncomputable def Is (K : PySem.W.Frag) (H : Hp) : D → V → Prop
  | .non, v => v = .non
  | .int i, v => v = .int i
  | .str x, v => v = .str x
  | .tup ds, v => ∃ a xs, v = .ref a ∧ SqT K H a xs ∧ IsL K H ds xs
noncomputable def IsL (K : PySem.W.Frag) (H : Hp) : List D → List V → Prop
  | [], vs => vs = []
  | d :: ds, vs => ∃ v r, vs = v :: r ∧ Is K H d v ∧ IsL K H ds r
end

noncomputable def Tups (H H' : Hp) : Prop := (∀ b xs, H b = some (.tup xs) → H' b = some (.tup xs)) ∧ ∀ b o u, H b = some (.frz o u) → H' b = some (.frz o u)
theorem Same.tups {H H' : Hp} (h : Same H H') : Tups H H' := ⟨fun b xs e => h b _ e, fun b o u e => h b _ e⟩
theorem Tups.refl (H : Hp) : Tups H H := ⟨fun _ _ e => e, fun _ _ _ e => e⟩
theorem Tups.trans {H H1 H2 : Hp} (a : Tups H H1) (b : Tups H1 H2) : Tups H H2 := ⟨fun c xs e => b.1 c xs (a.1 c xs e), fun c o u e => b.2 c o u (a.2 c o u e)⟩
theorem Tups.sq {K : PySem.W.Frag} {H H' : Hp} {a : Addr} {xs : List V} (t : Tups H H') (h : SqT K H a xs) : SqT K H' a xs := by
  rcases h with (h | ⟨o, h⟩) | h
  · exact .inl (.inl (t.1 _ _ h))
  · exact .inl (.inr ⟨o, t.2 _ _ _ h⟩)
  · exact .inr h
mutual
theorem Is.mono {K : PySem.W.Frag} {H H' : Hp} (t : Tups H H') : ∀ {d : D} {v : V}, Is K H d v → Is K H' d v
  | .non, _, h => by unfold Is at h ⊢; exact h
  | .int _, _, h => by unfold Is at h ⊢; exact h
  | .str _, _, h => by unfold Is at h ⊢; exact h
  | .tup ds, _, h => by
    unfold Is at h ⊢
    obtain ⟨a, xs, e, q, l⟩ := h
    exact ⟨a, xs, e, t.sq q, IsL.mono t l⟩
theorem IsL.mono {K : PySem.W.Frag} {H H' : Hp} (t : Tups H H') : ∀ {ds : List D} {vs : List V}, IsL K H ds vs → IsL K H' ds vs
  | [], _, h => by unfold IsL at h ⊢; exact h
  | d :: ds, _, h => by
    unfold IsL at h ⊢
    obtain ⟨v, r, e, p, q⟩ := h
    exact ⟨v, r, e, Is.mono t p, IsL.mono t q⟩
end
theorem is_non {K : PySem.W.Frag} {H : Hp} : Is K H .non .non := by unfold Is; rfl
theorem is_int {K : PySem.W.Frag} {H : Hp} {i : Int} : Is K H (.int i) (.int i) := by unfold Is; rfl
theorem is_str {K : PySem.W.Frag} {H : Hp} {x : Str} : Is K H (.str x) (.str x) := by unfold Is; rfl
theorem is_tup {K : PySem.W.Frag} {H : Hp} {a : Addr} {xs : List V} {ds : List D} (h : SqT K H a xs) (l : IsL K H ds xs) : Is K H (.tup ds) (.ref a) := by unfold Is; exact ⟨a, xs, rfl, h, l⟩
theorem isl_nil {K : PySem.W.Frag} {H : Hp} : IsL K H [] [] := by unfold IsL; rfl
theorem isl_cons {K : PySem.W.Frag} {H : Hp} {d : D} {ds : List D} {v : V} {vs : List V} (h : Is K H d v) (l : IsL K H ds vs) : IsL K H (d :: ds) (v :: vs) := by unfold IsL; exact ⟨v, vs, rfl, h, l⟩
theorem Is.int_inv {K : PySem.W.Frag} {H : Hp} {i : Int} {v : V} (h : Is K H (.int i) v) : v = .int i := by unfold Is at h; exact h
theorem Is.str_inv {K : PySem.W.Frag} {H : Hp} {i : Str} {v : V} (h : Is K H (.str i) v) : v = .str i := by unfold Is at h; exact h
theorem Is.non_inv {K : PySem.W.Frag} {H : Hp} {v : V} (h : Is K H .non v) : v = .non := by unfold Is at h; exact h
theorem Is.tup_inv {K : PySem.W.Frag} {H : Hp} {ds : List D} {v : V} (h : Is K H (.tup ds) v) : ∃ a xs, v = .ref a ∧ SqT K H a xs ∧ IsL K H ds xs := by unfold Is at h; exact h
theorem IsL.nil_inv {K : PySem.W.Frag} {H : Hp} {vs : List V} (h : IsL K H [] vs) : vs = [] := by unfold IsL at h; exact h
theorem IsL.cons_inv {K : PySem.W.Frag} {H : Hp} {d : D} {ds : List D} {vs : List V} (h : IsL K H (d :: ds) vs) : ∃ v r, vs = v :: r ∧ Is K H d v ∧ IsL K H ds r := by unfold IsL at h; exact h
theorem IsL.length {K : PySem.W.Frag} {H : Hp} : ∀ {ds : List D} {vs : List V}, IsL K H ds vs → ds.length = vs.length
  | [], _, h => by rw [h.nil_inv]; rfl
  | d :: ds, _, h => by
    obtain ⟨v, r, rfl, _, q⟩ := h.cons_inv
    simp [IsL.length q]
theorem IsL.get {K : PySem.W.Frag} {H : Hp} : ∀ {ds : List D} {vs : List V} {j : Nat} {d : D}, IsL K H ds vs → ds[j]? = some d → ∃ v, vs[j]? = some v ∧ Is K H d v
  | [], _, _, _, _, e => by simp at e
  | d :: ds, _, 0, _, h, e => by
    obtain ⟨v, r, rfl, p, _⟩ := h.cons_inv
    simp at e; subst e
    exact ⟨v, rfl, p⟩
  | d :: ds, _, j + 1, _, h, e => by
    obtain ⟨v, r, rfl, _, q⟩ := h.cons_inv
    obtain ⟨v', e', p'⟩ := IsL.get (j := j) q (by simpa using e)
    exact ⟨v', by simpa using e', p'⟩
theorem IsL.get' {K : PySem.W.Frag} {H : Hp} {ds : List D} {vs : List V} {j : Nat} {v : V} (h : IsL K H ds vs) (e : vs[j]? = some v) : ∃ d, ds[j]? = some d ∧ Is K H d v := by
  have hj : j < ds.length := by rw [h.length]; exact (List.getElem?_eq_some_iff.mp e).1
  obtain ⟨v', e', p⟩ := h.get (List.getElem?_eq_getElem hj)
  rw [e] at e'; cases e'
  exact ⟨_, List.getElem?_eq_getElem hj, p⟩
theorem IsL.drop {K : PySem.W.Frag} {H : Hp} : ∀ {ds : List D} {vs : List V} (n : Nat), IsL K H ds vs → IsL K H (ds.drop n) (vs.drop n)
  | _, _, 0, h => h
  | [], _, n + 1, h => by rw [h.nil_inv]; exact isl_nil
  | d :: ds, _, n + 1, h => by
    obtain ⟨v, r, rfl, _, q⟩ := h.cons_inv
    exact IsL.drop n q
theorem IsL.append {K : PySem.W.Frag} {H : Hp} : ∀ {ds es : List D} {vs ws : List V}, IsL K H ds vs → IsL K H es ws → IsL K H (ds ++ es) (vs ++ ws)
  | [], _, _, _, h, q => by rw [h.nil_inv]; exact q
  | d :: ds, _, _, _, h, q => by
    obtain ⟨v, r, rfl, p, t⟩ := h.cons_inv
    exact isl_cons p (IsL.append t q)

mutual
noncomputable def D.dep : D → Nat
  | .tup ds => 1 + D.depL ds
  | _ => 0
noncomputable def D.depL : List D → Nat
  | [] => 0
  | d :: ds => max d.dep (D.depL ds)
end
mutual
noncomputable def D.beq : D → D → Bool
  | .non, .non => true
  | .int i, .int j => i == j
  | .str x, .str y => x == y
  | .tup ds, .tup es => D.beqL ds es
  | _, _ => false
noncomputable def D.beqL : List D → List D → Bool
  | [], [] => true
  | d :: ds, e :: es => D.beq d e && D.beqL ds es
  | _, _ => false
end
mutual
theorem D.beq_iff : ∀ (d e : D), D.beq d e = true ↔ d = e
  | .non, e => by cases e <;> simp [D.beq]
  | .int i, e => by cases e <;> simp [D.beq]
  | .str i, e => by cases e <;> simp [D.beq]
  | .tup ds, e => by
    cases e with
    | tup es => simp [D.beq, D.beqL_iff ds es]
    | _ => simp [D.beq]
theorem D.beqL_iff : ∀ (ds es : List D), D.beqL ds es = true ↔ ds = es
  | [], es => by cases es <;> simp [D.beqL]
  | d :: ds, es => by
    cases es with
    | nil => simp [D.beqL]
    | cons e es => simp [D.beqL, D.beq_iff d e, D.beqL_iff ds es]
end
theorem D.beq_self (d : D) : D.beq d d = true := (D.beq_iff d d).mpr rfl
theorem D.beqL_self (d : List D) : D.beqL d d = true := (D.beqL_iff d d).mpr rfl
theorem D.beqL_len : ∀ (ds es : List D), D.beqL ds es = true → ds.length = es.length := fun ds es h => by rw [(D.beqL_iff ds es).mp h]
theorem D.dep_le : ∀ {ds : List D} {d : D}, d ∈ ds → d.dep ≤ D.depL ds
  | e :: ds, d, h => by
    rcases List.mem_cons.mp h with rfl | h
    · unfold D.depL; exact Nat.le_max_left ..
    · unfold D.depL; exact Nat.le_trans (D.dep_le h) (Nat.le_max_right ..)
theorem D.beqL_all : ∀ (ds es : List D), ((List.range (min ds.length es.length)).all (fun j => match ds[j]?, es[j]? with | some d, some e => D.beq d e | _, _ => true) && ds.length == es.length) = D.beqL ds es := by
  intro ds es
  by_cases hl : ds.length = es.length
  · rw [Bool.eq_iff_iff, Bool.and_eq_true, List.all_eq_true, D.beqL_iff]
    constructor
    · rintro ⟨h, _⟩
      refine List.ext_getElem? fun j => ?_
      by_cases hj : j < ds.length
      · have hj' : j < es.length := by omega
        have q := h j (List.mem_range.mpr (by omega))
        rw [List.getElem?_eq_getElem hj, List.getElem?_eq_getElem hj'] at q
        rw [List.getElem?_eq_getElem hj, List.getElem?_eq_getElem hj', (D.beq_iff _ _).mp q]
      · rw [List.getElem?_eq_none (by omega), List.getElem?_eq_none (by omega)]
    · rintro rfl
      refine ⟨fun j hj => ?_, by simp⟩
      have hj' : j < ds.length := by have := List.mem_range.mp hj; omega
      rw [List.getElem?_eq_getElem hj']
      exact D.beq_self _
  · have e1 : (ds.length == es.length) = false := by simpa using hl
    have e2 : D.beqL ds es = false := by
      cases h : D.beqL ds es with
      | false => rfl
      | true => exact absurd (D.beqL_len ds es h) hl
    rw [e1, e2, Bool.and_false]

section
variable {X : Cx} {pins : List (Addr × Obj)} {σ : St} {H : Hp} {s : Shared}
mutual
theorem Is.inj (I : Inv X pins σ H s) : ∀ {d e : D} {v : V}, Is X.K H d v → Is X.K H e v → d = e
  | .non, e, _, h, k => by
    have := h.non_inv; subst this
    cases e with
    | non => rfl
    | int i => cases k.int_inv
    | str i => cases k.str_inv
    | tup es => obtain ⟨_, _, q, _⟩ := k.tup_inv; cases q
  | .int i, e, _, h, k => by
    have := h.int_inv; subst this
    cases e with
    | non => cases k.non_inv
    | int j => cases k.int_inv; rfl
    | str i => cases k.str_inv
    | tup es => obtain ⟨_, _, q, _⟩ := k.tup_inv; cases q
  | .str i, e, _, h, k => by
    have := h.str_inv; subst this
    cases e with
    | non => cases k.non_inv
    | int j => cases k.int_inv
    | str i => cases k.str_inv; rfl
    | tup es => obtain ⟨_, _, q, _⟩ := k.tup_inv; cases q
  | .tup ds, e, _, h, k => by
    obtain ⟨a, xs, rfl, q, l⟩ := h.tup_inv
    cases e with
    | non => cases k.non_inv
    | int j => cases k.int_inv
    | str i => cases k.str_inv
    | tup es =>
      obtain ⟨b, ys, e', q', l'⟩ := k.tup_inv
      cases e'
      have := I.tuple_inj q q'
      subst this
      rw [IsL.inj I l l']
theorem IsL.inj (I : Inv X pins σ H s) : ∀ {ds es : List D} {vs : List V}, IsL X.K H ds vs → IsL X.K H es vs → ds = es
  | [], es, _, h, k => by
    have := h.nil_inv; subst this
    have := k.length
    simp at this; rw [this]
  | d :: ds, es, _, h, k => by
    obtain ⟨v, r, rfl, p, q⟩ := h.cons_inv
    cases es with
    | nil => cases k.nil_inv
    | cons e es =>
      obtain ⟨v', r', e', p', q'⟩ := k.cons_inv
      cases e'
      rw [Is.inj I p p', IsL.inj I q q']
end

theorem in1_units (A : Around) : A.in1.units = A.units + 1 := rfl
mutual
theorem eqAt_D (I : Inv X pins σ H s) : ∀ (d : D) (e : D) {A : Around} {v v' : V} {u u' : Value}, Is X.K H d v → Is X.K H e v' → RelV v u → RelV v' u' → A.units + d.dep < cLine → SeqAt.EqAt A s u u' (D.beq d e)
  | .non, e, A, v, v', u, u', h, k, r, r', hu => by
    have := h.non_inv; subst this
    have eu : u = .none := r
    subst eu
    cases e with
    | non => have := k.non_inv; subst this; have eu : u' = .none := r'; subst eu; exact SeqAt.EqAt.same _
    | int i => have := k.int_inv; subst this; obtain ⟨t, rfl⟩ := r'; exact SeqAt.EqAt.none_int _ _
    | str i => have := k.str_inv; subst this; obtain ⟨t, rfl⟩ := r'; exact SeqAt.EqAt.none_str _ _
    | tup es =>
      obtain ⟨a, xs, rfl, q, l⟩ := k.tup_inv
      have eu : u' = .ref a := r'
      subst eu
      obtain ⟨its, rv, p, z⟩ := I.tuple q
      exact SeqAt.EqAt.none_tuple p (by have : D.dep .non = 0 := by unfold D.dep; rfl
                                        omega)
  | .int i, e, A, v, v', u, u', h, k, r, r', hu => by
    have := h.int_inv; subst this
    obtain ⟨t, rfl⟩ := r
    cases e with
    | non => have := k.non_inv; subst this; have eu : u' = .none := r'; subst eu; exact SeqAt.EqAt.int_none _ _
    | int j => have := k.int_inv; subst this; obtain ⟨t', rfl⟩ := r'; exact SeqAt.EqAt.int_int _ _ _ _
    | str j => have := k.str_inv; subst this; obtain ⟨t', rfl⟩ := r'; exact SeqAt.EqAt.int_str _ _ _ _
    | tup es =>
      obtain ⟨a, xs, rfl, q, l⟩ := k.tup_inv
      have eu : u' = .ref a := r'
      subst eu
      obtain ⟨its, rv, p, z⟩ := I.tuple q
      exact SeqAt.EqAt.int_tuple _ _ p (by omega)
  | .str i, e, A, v, v', u, u', h, k, r, r', hu => by
    have := h.str_inv; subst this
    obtain ⟨t, rfl⟩ := r
    cases e with
    | non => have := k.non_inv; subst this; have eu : u' = .none := r'; subst eu; exact SeqAt.EqAt.str_none _ _
    | int j => have := k.int_inv; subst this; obtain ⟨t', rfl⟩ := r'; exact SeqAt.EqAt.str_int _ _ _ _
    | str j => have := k.str_inv; subst this; obtain ⟨t', rfl⟩ := r'; exact SeqAt.EqAt.str_str _ _ _ _
    | tup es =>
      obtain ⟨a, xs, rfl, q, l⟩ := k.tup_inv
      have eu : u' = .ref a := r'
      subst eu
      obtain ⟨its, rv, p, z⟩ := I.tuple q
      exact SeqAt.EqAt.str_tuple _ _ p (by omega)
  | .tup ds, e, A, v, v', u, u', h, k, r, r', hu => by
    obtain ⟨a, xs, rfl, q, l⟩ := h.tup_inv
    have eu : u = .ref a := r
    subst eu
    obtain ⟨its, rv, p, z⟩ := I.tuple q
    have hd : D.dep (.tup ds) = 1 + D.depL ds := by conv => lhs; unfold D.dep
    cases e with
    | non => have := k.non_inv; subst this; have eu : u' = .none := r'; subst eu; exact SeqAt.EqAt.tuple_none p (by omega)
    | int j => have := k.int_inv; subst this; obtain ⟨t', rfl⟩ := r'; exact SeqAt.EqAt.tuple_int _ _ p (by omega)
    | str j => have := k.str_inv; subst this; obtain ⟨t', rfl⟩ := r'; exact SeqAt.EqAt.tuple_str _ _ p (by omega)
    | tup es =>
      obtain ⟨b, ys, rfl, q', l'⟩ := k.tup_inv
      have eu : u' = .ref b := r'
      subst eu
      by_cases hab : a = b
      · subst hab
        have e := I.tuple_inj q q'
        subst e
        have e := IsL.inj I l l'
        subst e
        rw [D.beq_self]
        exact SeqAt.EqAt.same _
      · refine SeqAt.EqAt.of_refs hab ?_
        obtain ⟨its', rv', p', z'⟩ := I.tuple q'
        have ln := l.length
        have ln' := l'.length
        have lr := rv.length
        have lr' := rv'.length
        have R := SeqAt.RcAt.tuples (A := A) (s := s) (e := fun j => match ds[j]?, es[j]? with | some d, some e => D.beq d e | _, _ => true) p p' (by omega) (fun j h1 h2 => ?_)
        · have e1 : its.toArray.size = ds.length := by rw [List.size_toArray]; omega
          have e2 : its'.toArray.size = es.length := by rw [List.size_toArray]; omega
          rw [e1, e2, D.beqL_all] at R
          have e3 : D.beq (.tup ds) (.tup es) = D.beqL ds es := by conv => lhs; unfold D.beq
          rw [e3]
          exact R
        · have j1 : j < ds.length := by rw [List.size_toArray] at h1; omega
          have j2 : j < es.length := by rw [List.size_toArray] at h2; omega
          obtain ⟨x, ex, ix⟩ := l.get (List.getElem?_eq_getElem j1)
          obtain ⟨y, ey, iy⟩ := l'.get (List.getElem?_eq_getElem j2)
          obtain ⟨w1, ew1, rw1⟩ := rv.get ex
          obtain ⟨w2, ew2, rw2⟩ := rv'.get ey
          have f1 : its.toArray[j] = w1 := by
            have : its.toArray[j]? = some w1 := by simpa using ew1
            exact (Array.getElem?_eq_some_iff.mp this).2
          have f2 : its'.toArray[j] = w2 := by
            have : its'.toArray[j]? = some w2 := by simpa using ew2
            exact (Array.getElem?_eq_some_iff.mp this).2
          rw [f1, f2]
          try dsimp only
          rw [List.getElem?_eq_getElem j1, List.getElem?_eq_getElem j2]
          have dl : (ds[j]).dep ≤ D.depL ds := D.dep_le (List.getElem_mem j1)
          exact eqAt_L I ds j ds[j] (List.getElem?_eq_getElem j1) es[j] ix iy rw1 rw2 (by rw [in1_units]; omega)
theorem eqAt_L (I : Inv X pins σ H s) : ∀ (ds : List D) (j : Nat) (d : D), ds[j]? = some d → ∀ (e : D) {A : Around} {v v' : V} {u u' : Value}, Is X.K H d v → Is X.K H e v' → RelV v u → RelV v' u' → A.units + d.dep < cLine → SeqAt.EqAt A s u u' (D.beq d e)
  | [], _, _, h => by simp at h
  | d :: ds, 0, _, h => by
    simp at h; subst h
    exact fun e {A v v' u u'} => eqAt_D I d e
  | d :: ds, j + 1, _, h => by
    exact eqAt_L I ds j _ (by simpa using h)
end

end
section
variable {X : Cx}
noncomputable def rIsi (K : PySem.W.Frag) : List V → Hp → VK → Prop := fun xs H Q => ExQ Q (fun x Q => ExQ Q (fun T Q => ExQ Q (fun t Q => ExQ Q (fun b Q => xs = [x, .ty T] ∧ TyOf K H x t ∧ PySem.W.kitOne K t (.type T) = some b ∧ Q (.bl b) H))))
theorem call_isi : CallR X (.builtin "isinstance") (rIsi X.K) := by
  intro pins s σ H xs us Q I r h
  obtain ⟨x, T, t, b, rfl, ty, k, q⟩ := h
  obtain ⟨u, w', rfl, rx, rT⟩ := r.two
  have e : w' = .type T := rT
  subst e
  exact isinst_ok I rx ty k fun tk => ⟨.bl b, H, I.tok tk, rfl, q⟩
end
end L2
set_option Elab.async false
set_option linter.all false
set_option maxRecDepth 100000
set_option maxHeartbeats 4000000
namespace L2
open PySem PySem.Spec PyProof.Rows

noncomputable def Cl (P : Program) (w : World) (K : PySem.W.Frag) (mg : Str → Option Value) (base : Heap) (x : Str) (k : Nat) (ps : List Str) (sp : Sp) : Prop :=
  ∃ f fd, FnOk P w K mg base CX0 k f fd ps sp ∧ Binds K fd ps [] ∧ PySem.W.keepIn K (.ref f) = true ∧ mg x = some (.ref f)
theorem Cl.mono {P : Program} {w : World} {K : PySem.W.Frag} {mg : Str → Option Value} {base : Heap} {x : Str} {j k : Nat} {ps : List Str} {sp : Sp} (c : Cl P w K mg base x j ps sp) (h : j ≤ k) : Cl P w K mg base x k ps sp :=
  let ⟨f, fd, F, b, kp, m⟩ := c; ⟨f, fd, F.mono h, b, kp, m⟩
theorem Fun.cl {P : Program} {w : World} {K : PySem.W.Frag} {mg : Str → Option Value} {base : Heap} {x : Str} {st : Stmt} {f : Addr} {fd : FuncData} {k : Nat} {ps : List Str} {sp : Sp} (F : Fun K x x st f fd) (ok : FnOk P w K mg base CX0 k f fd ps sp) (m : mg x = some (.ref f))
    (h : ∀ (kV doc pm : Value) (an : Option Addr) (cdv ct : Value) (us : List Value), us.length = ps.length → bindArgs (PySem.W.fnOf x x (defArgs st) (defBody st) (defScope st) .none kV doc pm an cdv ct) ⟨us, []⟩ = pure (ps.zip us)) : Cl P w K mg base x k ps sp :=
  ⟨f, fd, ok, F.binds h, F.kp, m⟩
noncomputable def tCl (sp : Sp) (t : TA) : TE := fun σ H Q => t σ H fun vs H1 => sp vs H1 Q E0
section
variable {X : Cx} {x : Str} {k : Nat} {ps : List Str} {sp : Sp} {p pos : Pos} {e : Expr} {es : List Expr} {t : TA}
theorem pe_cl (c : Cl X.prog X.w X.K X.mg X.base x k ps sp) (hr : Room k X.A) (hg : Gl X x) (ha : PA X (e :: es) t) (hdb : (x == ("__debug__" : Str)) = false := by decide)
    (he : starEach (e :: es) X.env = (false, eval e X.env) :: starEach es X.env := by rfl) (hpl : (backTo pos (starEach es X.env)).any (·.1) = false := by rfl) : PE X (.Call (.Name x p) (e :: es) [] pos) (tCl sp t) := by
  obtain ⟨f, fd, F, b, kp, m⟩ := c
  have h := pe_call (E := E0) (pos := pos) (p := p) F hr hg m kp b .nil pass0 ha hdb he hpl
  have e1 : tCall sp [] E0 t = tCl sp t := by
    funext σ H Q
    unfold tCall tCl
    simp only [List.append_nil]
  rw [e1] at h
  exact h
end

noncomputable def KD (P : Program) (w : World) (K : PySem.W.Frag) (a : Addr) (kvs : List (Str × V)) : Prop :=
  ∀ h : Heap, K.In h → ∃ vs, KV (kvs.map fun p => ((Sum.inr p.1 : Key), p.2)) vs ∧ h.DictOf (mixKind P w) a vs
noncomputable def rIxKD (P : Program) (w : World) (K : PySem.W.Frag) : R2 := fun x y H Q => ExQ Q (fun p Q => ExQ Q (fun kvs Q => ExQ Q (fun z Q => ExQ Q (fun v Q => x = .ref p ∧ y = .str z ∧ KD P w K p kvs ∧ kvs.lookup z = some v ∧ Q v H))))
theorem kv_at {kvs : List (Str × V)} : ∀ {vs : List (Key × Value)} {z : Str} {v : V}, KV (kvs.map fun p => ((Sum.inr p.1 : Key), p.2)) vs → kvs.lookup z = some v → ∃ u, PySem.valueAt vs (Sum.inr z : Key) = some u ∧ RelV v u := by
  induction kvs with
  | nil => intro vs z v _ h; simp at h
  | cons p r ih =>
    intro vs z v hk h
    obtain ⟨x, y⟩ := p
    cases hk with
    | cons hd tl =>
      rename_i q l2
      obtain ⟨qk, qv⟩ := q
      obtain ⟨e1, e2⟩ := hd
      dsimp only at e1 e2
      subst e1
      by_cases hz : z = x
      · subst hz
        simp only [List.lookup_cons, beq_self_eq_true] at h
        cases h
        refine ⟨qv, ?_, e2⟩
        unfold PySem.valueAt
        simp
      · have hb : (z == x) = false := by simpa using hz
        simp only [List.lookup_cons, hb] at h
        obtain ⟨u, e, ru⟩ := ih tl h
        refine ⟨u, ?_, ru⟩
        unfold PySem.valueAt at e ⊢
        have hne : ¬ ((Sum.inr x : Key) = Sum.inr z) := fun q => hz (Sum.inr.inj q).symm
        simp only [List.find?_cons, decide_eq_false hne]
        exact e
section
variable {X : Cx}
theorem ix_kd : IxR X (rIxKD X.prog X.w X.K) := by
  intro value slice pins s σ H x y v u Q I rx ry h hs
  obtain ⟨p, kvs, z, w', rfl, rfl, hk, hl, q⟩ := h
  cases rx
  obtain ⟨t, rfl⟩ := ry
  obtain ⟨vs, rel, dd⟩ := hk s.heap I.kIn
  obtain ⟨r, er, rr⟩ := kv_at rel hl
  have fin : ∀ s', Inv X pins σ H s' → EP X pins σ Q r s' := fun s' I' => ⟨w', H, I', rr, q⟩
  have hm := dd.mapOf
  exact subscriptTail_builtinR (x := r) hm.typeIs slot_dict_getitem.lookup (wpAny_getItem_of (k := (Sum.inr z : Key)) (mixKind_str _ _ z t) hm er ⟨rfl, fin _ (I.tok _)⟩) hs
end
theorem KD.of {P : Program} {w : World} {K : PySem.W.Frag} {a : Addr} {o : Obj} {es : Array DictEntry} {ep : Nat} {kvs : List (Str × V)} (l : K.lookup a = some o) (hx : o.ExactDict) (hd : o.data = .dict es ep)
    (hp : Paired (fun (p : Str × V) (e : DictEntry) => e.hash = hashStr w p.1 ∧ (∃ t, e.key = .str p.1 t) ∧ RelV p.2 e.val) kvs es.toList) (hn : (kvs.map (·.1)).Nodup) : KD P w K a kvs := by
  intro h hk
  have go : ∀ (kvs : List (Str × V)) (l : List DictEntry), Paired (fun (p : Str × V) (e : DictEntry) => e.hash = hashStr w p.1 ∧ (∃ t, e.key = .str p.1 t) ∧ RelV p.2 e.val) kvs l →
      ∃ vs : List (Key × Value), KV (kvs.map fun p => ((Sum.inr p.1 : Key), p.2)) vs ∧ (∀ e ∈ l, ∃ k, (mixKind P w).is k e.key = true ∧ e.hash = (mixKind P w).hash k) ∧ PySem.Pairs (mixKind P w) l vs ∧ vs.map (·.1) = kvs.map fun p => (Sum.inr p.1 : Key) := by
    intro kvs l hp
    induction hp with
    | nil => exact ⟨[], .nil, fun e he => (nomatch he), .nil, rfl⟩
    | @cons p e l1 l2 hd tl ih =>
      obtain ⟨vs, h1, h2, h3, h4⟩ := ih
      obtain ⟨q1, ⟨t, q2⟩, q3⟩ := hd
      refine ⟨(Sum.inr p.1, e.val) :: vs, .cons ⟨rfl, q3⟩ h1, fun e' he' => ?_, ?_, ?_⟩
      · rcases List.mem_cons.mp he' with rfl | he'
        · exact ⟨Sum.inr p.1, by rw [q2]; exact mixKind_str _ _ _ _, q1⟩
        · exact h2 e' he'
      · exact .cons (by rw [q2]; exact mixKind_str _ _ _ _) rfl h3
      · simp [h4]
  obtain ⟨vs, h1, h2, h3, h4⟩ := go kvs es.toList hp
  refine ⟨vs, h1, o, es, ep, hk a o l, hx, hd, fun e he => h2 e (by simpa using he), h3, ?_⟩
  rw [h4]
  have : (kvs.map fun p => (Sum.inr p.1 : Key)) = (kvs.map (·.1)).map Sum.inr := by simp
  rw [this]
  exact List.Pairwise.map _ (fun a b hab q => hab (Sum.inr.inj q)) hn

noncomputable def constV : Expr → Option V
  | .Constant (.int i) _ _ => some (.int i)
  | .Constant (.str x) _ _ => some (.str x)
  | .Constant .none _ _ => some .non
  | .Constant (.bool b) _ _ => some (.bl b)
  | _ => none
noncomputable def constVs : List Expr → Option (List V)
  | [] => some []
  | e :: es => match constV e, constVs es with
    | some v, some vs => some (v :: vs)
    | _, _ => none
noncomputable def tCs (vs : List V) : TA := fun _ H Q => Q vs H
theorem const_star {X : Cx} {e : Expr} {es : List Expr} {v : V} (h : constV e = some v) : starEach (e :: es) X.env = (false, eval e X.env) :: starEach es X.env := by
  unfold constV at h
  split at h
  · rfl
  · rfl
  · rfl
  · rfl
  · cases h
theorem const_pe {X : Cx} {e : Expr} {v : V} (h : constV e = some v) : PE X e (tC v) := by
  unfold constV at h
  split at h
  · cases h; exact pe_int
  · cases h; exact pe_str
  · cases h; exact pe_non
  · cases h; exact pe_bl
  · cases h
theorem pa_consts {X : Cx} : ∀ {es : List Expr} {vs : List V}, constVs es = some vs → PA X es (tCs vs)
  | [], vs, h => by
    cases h
    exact pa_nil
  | e :: es, vs, h => by
    unfold constVs at h
    split at h
    · rename_i v ws h1 h2
      cases h
      exact pa_cons (const_pe h1) (pa_consts h2) (const_star h1)
    · cases h

section
variable {X : Cx} {K : PySem.W.Frag}
theorem ix_listK (h : X.K = K) : IxR X (rIxL K) := h ▸ ix_list
theorem ix_tupK (h : X.K = K) : IxR X (rIxT K) := h ▸ ix_tup
theorem call_isiK (h : X.K = K) : CallR X (.builtin "isinstance") (rIsi K) := h ▸ call_isi
theorem pg_tupK {es : List Expr} {k : Nat} {t : TGs} {n : Nat} {pos : Pos} (hK : X.K = K) (hc : X.calm = true) (h : PGs X es t)
    (hn : (assignEach es X.env).length = n := by rfl) (hst : (assignEach es X.env).findIdx? (·.1) = none := by rfl) : PG X (.Tuple es k pos) (gTup K n t) := hK ▸ pg_tup hc h hn hst
end
end L2
set_option Elab.async false
set_option linter.all false
set_option maxRecDepth 100000
set_option maxHeartbeats 4000000
namespace L2
open PySem PySem.Spec PyProof.Rows
section
variable {X : Cx}
end
noncomputable def rEqDL (K : PySem.W.Frag) (n : Nat) (neg : Bool) : R2 := fun x y H Q => ExQ Q (fun a Q => ExQ Q (fun b Q => ExQ Q (fun xs Q => ExQ Q (fun ys Q => ExQ Q (fun ds Q => ExQ Q (fun es Q => x = .ref a ∧ y = .ref b ∧ SqL K H a xs ∧ SqL K H b ys ∧ IsL K H ds xs ∧ IsL K H es ys ∧ D.depL ds < n ∧ Q (.bl (if neg then !D.beqL ds es else D.beqL ds es)) H))))))
section
variable {X : Cx} {pins : List (Addr × Obj)} {σ : St} {H : Hp} {s : Shared}
theorem rc_DL (I : Inv X pins σ H s) {A : Around} {ds es : List D} {a b : Addr} {xs ys : List V} (q : SqL X.K H a xs) (q' : SqL X.K H b ys) (l : IsL X.K H ds xs) (l' : IsL X.K H es ys) (hu : A.units + 1 + D.depL ds < cLine) :
    SeqAt.RcAt A s (.ref a) (.ref b) (D.beqL ds es) ∧ SeqAt.RcNeAt A s (.ref a) (.ref b) (!D.beqL ds es) := by
  obtain ⟨its, rv, p, z⟩ := I.list q
  obtain ⟨its', rv', p', z'⟩ := I.list q'
  have ln := l.length
  have ln' := l'.length
  have lr := rv.length
  have lr' := rv'.length
  have e1 : its.toArray.size = ds.length := by rw [List.size_toArray]; omega
  have e2 : its'.toArray.size = es.length := by rw [List.size_toArray]; omega
  by_cases hl : ds.length = es.length
  · have he : ∀ j (h1 : j < its.toArray.size) (h2 : j < its'.toArray.size), SeqAt.EqAt A.in1 s its.toArray[j] its'.toArray[j] ((fun j => match ds[j]?, es[j]? with | some d, some e => D.beq d e | _, _ => true) j) := fun j h1 h2 => by
      have j1 : j < ds.length := by omega
      have j2 : j < es.length := by omega
      obtain ⟨x, ex, ix⟩ := l.get (List.getElem?_eq_getElem j1)
      obtain ⟨y, ey, iy⟩ := l'.get (List.getElem?_eq_getElem j2)
      obtain ⟨w1, ew1, rw1⟩ := rv.get ex
      obtain ⟨w2, ew2, rw2⟩ := rv'.get ey
      have f1 : its.toArray[j] = w1 := by
        have : its.toArray[j]? = some w1 := by simpa using ew1
        exact (Array.getElem?_eq_some_iff.mp this).2
      have f2 : its'.toArray[j] = w2 := by
        have : its'.toArray[j]? = some w2 := by simpa using ew2
        exact (Array.getElem?_eq_some_iff.mp this).2
      rw [f1, f2]
      try dsimp only
      rw [List.getElem?_eq_getElem j1, List.getElem?_eq_getElem j2]
      have dl : (ds[j]).dep ≤ D.depL ds := D.dep_le (List.getElem_mem j1)
      exact eqAt_D I _ _ ix iy rw1 rw2 (by rw [in1_units]; omega)
    have R1 := SeqAt.RcAt.lists p.isList p'.isList (by omega) (by omega) he
    have R2 := SeqAt.RcNeAt.lists p.isList p'.isList (by omega) (by omega) he
    have eb := D.beqL_all ds es
    rw [show (ds.length == es.length) = true from by simpa using hl, Bool.and_true, Nat.min_eq_left (by omega)] at eb
    rw [e1] at R1 R2
    exact ⟨by rw [← eb]; exact R1, by rw [← eb]; exact R2⟩
  · have eb : D.beqL ds es = false := by
      cases h : D.beqL ds es with
      | false => rfl
      | true => exact absurd (D.beqL_len ds es h) hl
    rw [eb]
    have hs : (its.toArray.size != its'.toArray.size) = true := by rw [e1, e2]; simpa using hl
    exact ⟨SeqAt.RcAt.lists_lengths p.isList p'.isList hs (by omega), SeqAt.RcNeAt.lists_lengths p.isList p'.isList hs (by omega)⟩
end
section
variable {X : Cx}
theorem op_eqDL {n : Nat} (hu : X.A.units + 1 + n < cLine) : OpR X (compareOp .Eq) (rEqDL X.K n false) := by
  intro pins s σ H x y v u Q I rx ry h
  obtain ⟨a, b, xs, ys, ds, es, rfl, rfl, q1, q2, l1, l2, hd, q⟩ := h
  cases rx; cases ry
  exact (rc_DL I q1 q2 l1 l2 (by omega)).1 X.prog X.w X.xe _ ⟨.bl _, H, I, rfl, q⟩
theorem op_neDL {n : Nat} (hu : X.A.units + 1 + n < cLine) : OpR X (compareOp .NotEq) (rEqDL X.K n true) := by
  intro pins s σ H x y v u Q I rx ry h
  obtain ⟨a, b, xs, ys, ds, es, rfl, rfl, q1, q2, l1, l2, hd, q⟩ := h
  cases rx; cases ry
  exact (rc_DL I q1 q2 l1 l2 (by omega)).2 X.prog X.w X.xe _ ⟨.bl _, H, I, rfl, q⟩
end
end L2
set_option Elab.async false
set_option linter.all false
set_option maxRecDepth 100000
set_option maxHeartbeats 4000000
namespace L2
open PySem PySem.Spec PyProof.Rows
section
variable {X : Cx}
theorem bools_of : ∀ {bs : List Bool} {us : List Value}, Vals (bs.map V.bl) us → LSm.BoolsAre us bs
  | [], _, .nil => .nil
  | b :: bs, _, .cons r t => by
    cases (show _ = Value.bool b from r)
    exact .cons b (bools_of t)
noncomputable def rAll (K : PySem.W.Frag) : List V → Hp → VK → Prop := fun xs H Q => ExQ Q (fun (p : Addr) Q => ExQ Q (fun (bs : List Bool) Q => xs = [.ref p] ∧ SqL K H p (bs.map V.bl) ∧ Q (.bl (bs.all id)) H))
theorem call_all (hc : X.calm = true) : CallR X (.builtin "all") (rAll X.K) := by
  intro pins s σ H xs us Q I r h
  obtain ⟨p, bs, rfl, hs, q⟩ := h
  obtain ⟨u, rfl, ru⟩ := r.one
  obtain rfl : u = Value.ref p := ru
  obtain ⟨its, rv, hl, _⟩ := I.list hs
  have hb := bools_of rv
  have hl' : s.heap.IsList p its.toArray := hl.isList
  have hlt : p < s.heap.objs.size := by obtain ⟨_, e, _⟩ := hl'; exact Heap.lt_size e
  refine call_all_walk (wpAny_pyIter_list hl' ?_)
  refine ⟨s.heap.objs.size, [s.heap.objs.size, p], [s.heap.objs.size], its.toArray.size, _, _, fun i => (bs[i]?).getD true, rfl, Walks.list (A := X.A.in1) (I.ok.hd hc) _ p (Nat.ne_of_lt hlt) its.toArray,
    ⟨⟨_, Heap.get?_push_size _ rfl, rfl, rfl⟩, hl'.push _⟩, fun i v s' Q' E' hP hQ => ?_, fun h' tk hk => ?_⟩
  · obtain ⟨b, e, rfl⟩ := hb.get i v (by simpa using hP)
    simp only [e, Option.getD_some] at hQ
    exact wpAny_truthy_bool hQ
  · have e : ((List.range its.toArray.size).all fun i => (bs[i]?).getD true) = bs.all id := by
      rw [List.size_toArray, hb.length]; exact LSm.range_all bs
    rw [e]
    exact ⟨.bl (bs.all id), H, I.kept (t' := tk) (LSm.kept_iter hk), rfl, q⟩
end
end L2
set_option Elab.async false
set_option linter.all false
set_option maxRecDepth 100000
set_option maxHeartbeats 4000000
namespace L2
open PySem PySem.Spec PyProof.Rows

section
variable {κ : Type} [DecidableEq κ]
noncomputable def valV (kvs : List (κ × V)) (k : κ) : Option V := (kvs.find? fun kv => decide (kv.1 = k)).map (·.2)
noncomputable def putK (kvs : List (κ × V)) (k : κ) (v : V) : List (κ × V) :=
  if (kvs.any fun kv => decide (kv.1 = k)) = true then kvs.map (fun kv => if kv.1 = k then (kv.1, v) else kv) else kvs ++ [(k, v)]
noncomputable def dropK (kvs : List (κ × V)) (k : κ) : List (κ × V) := kvs.filter fun kv => decide (kv.1 ≠ k)

theorem valV_pos {p : κ × V} {r : List (κ × V)} {k : κ} (e : p.1 = k) : valV (p :: r) k = some p.2 := by simp [valV, List.find?_cons, e]
theorem valV_neg {p : κ × V} {r : List (κ × V)} {k : κ} (e : ¬ p.1 = k) : valV (p :: r) k = valV r k := by simp [valV, List.find?_cons, e]
theorem valV_any (k : κ) : ∀ kvs : List (κ × V), (kvs.any fun kv => decide (kv.1 = k)) = (valV kvs k).isSome
  | [] => rfl
  | p :: r => by
    rw [List.any_cons]
    by_cases e : p.1 = k
    · simp only [valV_pos e, decide_eq_true e, Bool.true_or, Option.isSome_some]
    · rw [valV_neg e, decide_eq_false e, Bool.false_or]; exact valV_any k r
theorem length_putK (kvs : List (κ × V)) (k : κ) (v : V) : (putK kvs k v).length ≤ kvs.length + 1 := by
  unfold putK
  split
  · rw [List.length_map]; omega
  · rw [List.length_append, List.length_cons, List.length_nil]; omega
theorem RelO.isSome_eq {o : Option V} {u : Option Value} (r : RelO o u) : o.isSome = u.isSome := by
  cases o with
  | none => cases u with
    | none => rfl
    | some _ => exact (show False from r).elim
  | some _ => cases u with
    | none => exact (show False from r).elim
    | some _ => rfl
theorem RelO.getD {o : Option V} {u : Option Value} {d : V} {d' : Value} (r : RelO o u) (rd : RelV d d') : RelV (o.getD d) (u.getD d') := by
  cases o with
  | none => cases u with
    | none => exact rd
    | some _ => exact (show False from r).elim
  | some _ => cases u with
    | none => exact (show False from r).elim
    | some _ => exact r

theorem KV.val {kvs : List (κ × V)} {vs : List (κ × Value)} (r : KV kvs vs) (k : κ) : RelO (valV kvs k) (valueAt vs k) := by
  unfold KV at r
  induction r with
  | nil => exact True.intro
  | @cons p q ps qs h t ih =>
    obtain ⟨h1, h2⟩ := h
    by_cases e : p.1 = k
    · have e' : q.1 = k := h1.symm.trans e
      have b : valueAt (q :: qs) k = some q.2 := by simp [valueAt, List.find?_cons, e']
      rw [valV_pos e, b]; exact h2
    · have e' : ¬ q.1 = k := fun z => e (h1.trans z)
      have b : valueAt (q :: qs) k = valueAt qs k := by simp [valueAt, List.find?_cons, e']
      rw [valV_neg e, b]; exact ih
theorem KV.any {kvs : List (κ × V)} {vs : List (κ × Value)} (r : KV kvs vs) (k : κ) : (kvs.any fun kv => decide (kv.1 = k)) = vs.any fun kv => decide (kv.1 = k) := by
  unfold KV at r
  induction r with
  | nil => rfl
  | cons h t ih => rw [List.any_cons, List.any_cons, ih, h.1]
theorem KV.repl {kvs : List (κ × V)} {vs : List (κ × Value)} (r : KV kvs vs) (k : κ) {y : V} {u : Value} (ry : RelV y u) :
    KV (kvs.map fun kv => if kv.1 = k then (kv.1, y) else kv) (vs.map fun kv => if kv.1 = k then (kv.1, u) else kv) := by
  unfold KV at r ⊢
  induction r with
  | nil => exact .nil
  | @cons p q ps qs h t ih =>
    rw [List.map_cons, List.map_cons]
    refine .cons ?_ ih
    obtain ⟨h1, h2⟩ := h
    by_cases e : p.1 = k
    · rw [if_pos e, if_pos (h1.symm.trans e)]; exact ⟨h1, ry⟩
    · rw [if_neg e, if_neg (fun z => e (h1.trans z))]; exact ⟨h1, h2⟩
theorem KV.put {kvs : List (κ × V)} {vs : List (κ × Value)} (r : KV kvs vs) (k : κ) {y : V} {u : Value} (ry : RelV y u) : KV (putK kvs k y) (stored vs k u) := by
  unfold putK stored
  rw [r.any k]
  by_cases e : (vs.any fun kv => decide (kv.1 = k)) = true
  · rw [if_pos e, if_pos e]; exact r.repl k ry
  · rw [if_neg e, if_neg e]; exact Paired.snoc r ⟨rfl, ry⟩
theorem KV.drop {kvs : List (κ × V)} {vs : List (κ × Value)} (r : KV kvs vs) (k : κ) : KV (dropK kvs k) (without vs k) := by
  unfold KV at r ⊢
  unfold dropK without
  induction r with
  | nil => exact .nil
  | @cons p q ps qs h t ih =>
    obtain ⟨h1, h2⟩ := h
    rw [List.filter_cons, List.filter_cons]
    by_cases e : p.1 = k
    · have a : ¬ decide (p.1 ≠ k) = true := by simp [e]
      have b : ¬ decide (q.1 ≠ k) = true := by simp [h1.symm.trans e]
      rw [if_neg a, if_neg b]; exact ih
    · have e' : ¬ q.1 = k := fun z => e (h1.trans z)
      have a : decide (p.1 ≠ k) = true := by simp [e]
      have b : decide (q.1 ≠ k) = true := by simp [e']
      rw [if_pos a, if_pos b]; exact .cons ⟨h1, h2⟩ ih
theorem KV.keys {kvs : List (κ × V)} {vs : List (κ × Value)} (r : KV kvs vs) : kvs.map (·.1) = vs.map (·.1) := by
  unfold KV at r
  induction r with
  | nil => rfl
  | cons h t ih => rw [List.map_cons, List.map_cons, ih, h.1]
theorem KV.length {kvs : List (κ × V)} {vs : List (κ × Value)} (r : KV kvs vs) : kvs.length = vs.length := Paired.length r
end


theorem kV_is {P : Program} {w : World} {k : Key} {u : Value} (r : RelV (kV k) u) : (mixKind P w).is k u = true := by
  cases k with
  | inl i => obtain ⟨t, e⟩ := (show ∃ t, u = Value.int i t from r); subst e; exact mixKind_int P w i t
  | inr x => obtain ⟨t, e⟩ := (show ∃ t, u = Value.str x t from r); subst e; exact mixKind_str P w x t
theorem items_are {P : Program} {w : World} : ∀ {ks : List Key} {us : List Value}, Vals (ks.map kV) us → ItemsAre (mixKind P w) ks us
  | [], _, r => by rw [List.map_nil] at r; cases r; exact .nil
  | k :: ks, _, r => by
    rw [List.map_cons] at r
    cases r with
    | cons h t => exact .cons (kV_is h) (items_are t)

noncomputable abbrev KT (H : Hp) : List (List Key × V) → List (List Key × Addr × Value) → Prop := Paired fun p q => p.1 = q.1 ∧ H q.2.1 = some (.tup (p.1.map kV)) ∧ RelV p.2 q.2.2
theorem KT.val {H : Hp} {kvs : List (List Key × V)} {xs : List (List Key × Addr × Value)} (r : KT H kvs xs) (k : List Key) : RelO (valV kvs k) ((atKey xs k).map (·.2)) := by
  induction r with
  | nil => exact True.intro
  | @cons p q ps qs h t ih =>
    obtain ⟨h1, _, h2⟩ := h
    by_cases e : p.1 = k
    · have e' : q.1 = k := h1.symm.trans e
      have b : atKey (q :: qs) k = some q.2 := by simp [atKey, List.find?_cons, e']
      rw [valV_pos e, b]; exact h2
    · have e' : ¬ q.1 = k := fun z => e (h1.trans z)
      have b : atKey (q :: qs) k = atKey qs k := by simp [atKey, List.find?_cons, e']
      rw [valV_neg e, b]; exact ih
theorem KT.repl {H : Hp} {kvs : List (List Key × V)} {xs : List (List Key × Addr × Value)} (r : KT H kvs xs) (k : List Key) {y : V} {u : Value} (ry : RelV y u) :
    KT H (kvs.map fun kv => if kv.1 = k then (kv.1, y) else kv) (xs.map (putAt k u)) := by
  induction r with
  | nil => exact .nil
  | @cons p q ps qs h t ih =>
    rw [List.map_cons, List.map_cons]
    refine .cons ?_ ih
    obtain ⟨h1, h2, h3⟩ := h
    unfold putAt
    by_cases e : p.1 = k
    · rw [if_pos e, if_pos (h1.symm.trans e)]; exact ⟨h1, h2, ry⟩
    · rw [if_neg e, if_neg (fun z => e (h1.trans z))]; exact ⟨h1, h2, h3⟩
theorem KT.put {H : Hp} {kvs : List (List Key × V)} {xs : List (List Key × Addr × Value)} (r : KT H kvs xs) (k : List Key) {b : Addr} {y : V} {u : Value} (hb : H b = some (.tup (k.map kV))) (ry : RelV y u) :
    KT H (putK kvs k y) (storedH xs k b u) := by
  have e : (kvs.any fun kv => decide (kv.1 = k)) = (atKey xs k).isSome := by
    rw [valV_any, (r.val k).isSome_eq, Option.isSome_map]
  unfold putK storedH
  rw [e]
  by_cases q : (atKey xs k).isSome = true
  · rw [if_pos q, if_pos q]; exact r.repl k ry
  · rw [if_neg q, if_neg q]; exact Paired.snoc r ⟨rfl, hb, ry⟩
theorem KT.keeps {H H' : Hp} {kvs : List (List Key × V)} {xs : List (List Key × Addr × Value)} (r : KT H kvs xs) (ht : ∀ b ys, H b = some (.tup ys) → H' b = some (.tup ys)) : KT H' kvs xs :=
  Paired.mapP r fun _ _ z => ⟨z.1, ht _ _ z.2.1, z.2.2⟩

section
variable {P : Program} {w : World} {H : Hp} {h : Heap} {a : Addr}
theorem rd_of {u : HO} (ok : HOk P w H h) (e : Rd H a u) : ObjOk P w H h a u := e.ok ok
theorem dk_rd {kvs : List (Key × V)} (ok : HOk P w H h) (e : Rd H a (.dK kvs)) : kvs.length ≤ sizeLine ∧ (a == sysModules) = false ∧ ∃ vs, KV kvs vs ∧ h.DictOf (mixKind P w) a vs :=
  show ObjOk P w H h a (.dK kvs) from rd_of ok e
theorem dk_of {kvs : List (Key × V)} (ok : HOk P w H h) (e : H a = some (.dK kvs)) : kvs.length ≤ sizeLine ∧ (a == sysModules) = false ∧ ∃ vs, KV kvs vs ∧ h.DictOf (mixKind P w) a vs := dk_rd ok (.inl e)
theorem key_of {ks : List Key} (ok : HOk P w H h) (e : H a = some (.tup (ks.map kV))) : (tupleKind (mixKind P w)).is h ks a := by
  obtain ⟨_, its, r, o, h1, h2, n, h3⟩ := (show ObjOk P w H h a (.tup (ks.map kV)) from ok a _ e)
  exact ⟨o, its.toArray, n, h1, h2, h3, by simpa using items_are r⟩
theorem dt_rd {kvs : List (List Key × V)} (ok : HOk P w H h) (e : Rd H a (.dT kvs)) : kvs.length ≤ sizeLine ∧ (a == sysModules) = false ∧
    ∃ xs, KT H kvs xs ∧ h.DictOfH (tupleKind (mixKind P w)) a xs := by
  obtain ⟨z, y, xs, r, o, es, ep, h1, h2, h3, h4, h5⟩ := (show ObjOk P w H h a (.dT kvs) from rd_of ok e)
  refine ⟨z, y, xs, r, o, es, ep, h1, h2, h3, h4, fun x hx => ?_, h5⟩
  have all : ∀ {l : List (List Key × V)} {m : List (List Key × Addr × Value)}, KT H l m → ∀ x ∈ m, (tupleKind (mixKind P w)).is h x.1 x.2.1 := by
    intro l m q
    induction q with
    | nil => intro x hx; exact nomatch hx
    | @cons p q ps qs hq t ih =>
      intro x hx
      rcases List.mem_cons.mp hx with e | hx
      · subst e
        exact key_of ok (by rw [← hq.1]; exact hq.2.1)
      · exact ih x hx
  exact all r x hx
theorem dt_of {kvs : List (List Key × V)} (ok : HOk P w H h) (e : H a = some (.dT kvs)) : kvs.length ≤ sizeLine ∧ (a == sysModules) = false ∧
    ∃ xs, KT H kvs xs ∧ h.DictOfH (tupleKind (mixKind P w)) a xs := dt_rd ok (.inl e)
end

noncomputable def DGet (H : Hp) (a : Addr) (y : V) (r : Option V) : Prop :=
  (∃ kvs k, Rd H a (.dK kvs) ∧ y = kV k ∧ r = valV kvs k) ∨ ∃ kvs k b, Rd H a (.dT kvs) ∧ y = .ref b ∧ H b = some (.tup (k.map kV)) ∧ r = valV kvs k
noncomputable def DPut (H : Hp) (a : Addr) (y v : V) (H' : Hp) : Prop :=
  (∃ kvs k, H a = some (.dK kvs) ∧ y = kV k ∧ kvs.length < sizeLine ∧ H' = upd H a (.dK (putK kvs k v))) ∨
  ∃ kvs k b, H a = some (.dT kvs) ∧ y = .ref b ∧ H b = some (.tup (k.map kV)) ∧ kvs.length < sizeLine ∧ H' = upd H a (.dT (putK kvs k v))
theorem DGet.k {H : Hp} {a : Addr} {kvs : List (Key × V)} {k : Key} (e : H a = some (.dK kvs)) : DGet H a (kV k) (valV kvs k) := .inl ⟨kvs, k, .inl e, rfl, rfl⟩
theorem DGet.t {H : Hp} {a b : Addr} {kvs : List (List Key × V)} {k : List Key} (e : H a = some (.dT kvs)) (eb : H b = some (.tup (k.map kV))) : DGet H a (.ref b) (valV kvs k) := .inr ⟨kvs, k, b, .inl e, rfl, eb, rfl⟩
theorem DPut.k {H : Hp} {a : Addr} {kvs : List (Key × V)} {k : Key} {v : V} (e : H a = some (.dK kvs)) (hl : kvs.length < sizeLine) : DPut H a (kV k) v (upd H a (.dK (putK kvs k v))) := .inl ⟨kvs, k, e, rfl, hl, rfl⟩
theorem DPut.t {H : Hp} {a b : Addr} {kvs : List (List Key × V)} {k : List Key} {v : V} (e : H a = some (.dT kvs)) (eb : H b = some (.tup (k.map kV))) (hl : kvs.length < sizeLine) :
    DPut H a (.ref b) v (upd H a (.dT (putK kvs k v))) := .inr ⟨kvs, k, b, e, rfl, eb, hl, rfl⟩


section
variable {X : Cx} {pins : List (Addr × Obj)} {σ : St} {H : Hp} {s : Shared} {a : Addr} {y v : V} {u r : Value} {o : Option V} {A : Around} {E : Value → Shared → Prop}

theorem Inv.big (I : Inv X pins σ H s) : sysModules < s.heap.objs.size := by
  have h : mainGlobals < s.heap.objs.size := (I.mod.glob.keeps I.bk).lt
  exact Nat.lt_trans (by decide) h

theorem d_getItem {Q : Value → Shared → Prop} (hu : A.units + 1 < cLine) (I : Inv X pins σ H s) (g : DGet H a y (some v)) (ry : RelV y u) (h : ∀ w' s', Inv X pins σ H s' → RelV v w' → Q w' s') :
    wpAny (model X.prog X.w) A (getItem (.ref a) u) Q E s := by
  rcases g with ⟨kvs, k, e, ey, l⟩ | ⟨kvs, k, b, e, ey, eb, l⟩
  · subst ey
    obtain ⟨z, hd, vs, rel, dd⟩ := dk_rd I.hok e
    obtain ⟨w', hw, rw'⟩ := RelO.some_of (v := v) (o := valueAt vs k) (by rw [l]; exact rel.val k)
    exact wpAny_getItem_of (kV_is ry) dd.mapOf hw (h w' _ (I.tok _) rw')
  · subst ey
    cases (show u = Value.ref b from ry)
    obtain ⟨z, hd, xs, rel, dd⟩ := dt_rd I.hok e
    obtain ⟨w', hw, rw'⟩ := RelO.some_of (v := v) (o := (atKey xs k).map (·.2)) (by rw [l]; exact rel.val k)
    obtain ⟨p, hp, hp2⟩ := Option.map_eq_some_iff.mp hw
    refine wpAny_getItem_heap (tupleKind_room_in1 hu) (key_of I.hok eb) dd hp ?_
    rw [hp2]
    exact h w' _ (I.tok _) rw'
theorem d_write {h' : Heap} {t' : Nat} {ob : HO} (I : Inv X pins σ H s) (mu : Mut (H a)) (hs : Heap.SameBut a s.heap h') (he : ∃ q, h'.get? a = some q) (new : ObjOk X.prog X.w (upd H a ob) h' a ob) :
    Inv X pins σ (upd H a ob) { s with heap := h', toks := t' } :=
  I.write (x := a) (e := a) mu (.inl rfl) (fun b q hb z => (hs.2 b hb).trans z) he new
theorem dk_new {P : Program} {w : World} {H' : Hp} {h' : Heap} {kvs : List (Key × V)} {vs : List (Key × Value)} (z : kvs.length ≤ sizeLine) (hd : (a == sysModules) = false) (rel : KV kvs vs) (dd : h'.DictOf (mixKind P w) a vs) :
    ObjOk P w H' h' a (.dK kvs) := ⟨z, hd, vs, rel, dd⟩
theorem d_setItem {H' : Hp} {Q : Unit → Shared → Prop} (hu : A.units + 1 < cLine) (I : Inv X pins σ H s) (g : DPut H a y v H') (ry : RelV y u) (rv : RelV v r) (h : ∀ s', Inv X pins σ H' s' → Q () s') :
    wpAny (model X.prog X.w) A (setItem (.ref a) u r) Q E s := by
  rcases g with ⟨kvs, k, e, ey, l, eH⟩ | ⟨kvs, k, b, e, ey, eb, l, eH⟩
  · subst ey eH
    obtain ⟨z, hd, vs, rel, dd⟩ := dk_of I.hok e
    have hz : vs.length ≤ sizeLine := by rw [← rel.length]; exact z
    have hl : (putK kvs k v).length ≤ sizeLine := by have := length_putK kvs k v; omega
    refine wpAny_setItem_pairs (hsz := hz) (kV_is ry) dd fun h' dd' hs => h _ ?_
    have he : ∃ q, h'.get? a = some q := let ⟨q, _, _, hq, _⟩ := dd'; ⟨q, hq⟩
    exact d_write I (by rw [e]; exact True.intro) hs he (dk_new hl hd (rel.put k rv) dd')
  · subst ey eH
    cases (show u = Value.ref b from ry)
    obtain ⟨z, hd, xs, rel, dd⟩ := dt_of I.hok e
    have hz : xs.length ≤ sizeLine := by rw [← Paired.length rel]; exact z
    have hl : (putK kvs k v).length ≤ sizeLine := by have := length_putK kvs k v; omega
    refine wpAny_setItem_heap (hsz := hz) (tupleKind_room_in1 hu) (key_of I.hok eb) dd fun h' dd' hs => h _ ?_
    obtain ⟨q, es, ep, hq, h2, h3, h4, _, h5⟩ := dd'
    refine d_write I (by rw [e]; exact True.intro) hs ⟨q, hq⟩ ⟨hl, hd, _, (rel.put k eb rv).keeps fun c ys ec => ?_, q, es, ep, hq, h2, h3, h4, h5⟩
    rw [upd_ne (ne_of ec e (fun z => nomatch z))]
    exact ec
end

section
variable {X : Cx} {pins : List (Addr × Obj)} {σ : St} {H : Hp} {s : Shared} {a : Addr} {kvs : List (Key × V)} {k : Key} {u : Value} {A : Around} {E : Value → Shared → Prop}
end


noncomputable def NoSl (i : Expr) : Prop := ∀ ov iv, subscripted i false ov iv = operate [ov, iv] (getItem ov iv)
theorem subD_of {prog : Program} {w : World} {A : Around} {E : Value → Shared → Prop} {s : Shared} {env : Env} {value slice : Expr} {pos : Pos} {T id : String} {Q : Value → Shared → Prop}
    (hl : typeLookup (.type T) "__getitem__" = pure (some (.builtin id))) (hs : NoSl slice)
    (h : wpAny (model prog w) A (eval value env) (fun o s₁ => wpAny (model prog w) A (eval slice env) (fun i s₂ => s₂.TypeIs o T ∧ wpAny (model prog w) A (getItem o i) Q E s₂) E s₁) E s) :
    wpAny (model prog w) A (eval (.Subscript value slice pos) env) Q E s := by
  refine Subscript_ (wpAny_mono h (fun o s₁ h₁ => wpAny_mono h₁ (fun i s₂ h₂ => ?_) fun _ _ x => x) fun _ _ x => x)
  obtain ⟨hT, h₂⟩ := h₂
  unfold subscriptTail
  refine wpAny_bind ?_
  rw [getitemInPython_of_ne hT.not_modules]
  refine wpAny_bind (wpAny_specialOf hT hl ?_)
  have fin : wpAny (model prog w) A (subscripted slice false o i) (fun r s₃ => wpAny (model prog w) A (letTemporaryGo value o r >>= fun _ => pure r) Q E s₃) E s₂ := by
    rw [hs o i]
    exact wpAny_operating (wpAny_mono h₂ (fun r s₃ h₃ => wpAny_bind (wpAny_letTemporaryGo (wpAny_pure h₃))) fun _ _ x => x)
  first
    | exact wpAny_pure (wpAny_bind fin)
    | exact wpAny_bind (wpAny_pure (wpAny_bind fin))
    | exact wpAny_bind fin

theorem dict_typeIs {X : Cx} {pins : List (Addr × Obj)} {σ : St} {H : Hp} {s : Shared} {a : Addr} {y : V} {o : Option V} (I : Inv X pins σ H s) (g : DGet H a y o) : s.TypeIs (.ref a) "dict" := by
  rcases g with ⟨kvs, k, e, _, _⟩ | ⟨kvs, k, b, e, _, _, _⟩
  · obtain ⟨_, _, vs, _, dd⟩ := dk_rd I.hok e
    exact dd.typeIs
  · obtain ⟨_, _, xs, _, dd⟩ := dt_rd I.hok e
    exact dd.typeIs
noncomputable def tDGet (td ty : TE) : TE := fun σ H Q => td σ H fun x H1 => ty σ H1 fun y H2 => ExQ Q (fun a Q => ExQ Q (fun v Q => x = .ref a ∧ DGet H2 a y (some v) ∧ Q v H2))
noncomputable def sDPut (td ty tv : TE) : TS := fun D σ H => tv σ H fun v H1 => td σ H1 fun x H2 => ty σ H2 fun y H3 => ExQ D (fun a D => ExQ D (fun H4 D => x = .ref a ∧ DPut H3 a y v H4 ∧ D.nx σ H4))
section
variable {X : Cx} {o i e value : Expr} {pos pos' tpos : Pos} {td ty tv : TE}
theorem pe_dget (hu : X.A.units + 1 < cLine) (ho : PE X o td) (hi : PE X i ty) (hs : NoSl i) : PE X (.Subscript o i pos) (tDGet td ty) := by
  intro pins s σ H Q I h
  refine subD_of PySem.F.slot_dict_getitem.lookup hs (thn (ho pins s σ H _ I h) fun u s1 hpat => ?_)
  obtain ⟨x, H1, I1, rx, q1⟩ := hpat
  refine thn (hi pins s1 σ H1 _ I1 q1) fun iv s2 hpat => ?_
  obtain ⟨y, H2, I2, ry, a, v, ex, g, q2⟩ := hpat
  subst ex
  obtain rfl : u = Value.ref a := rx
  exact ⟨dict_typeIs I2 g, d_getItem hu I2 g ry fun w' s3 I3 rw' => ⟨v, H2, I3, rw', q2⟩⟩
theorem ps_dput (hu : X.A.units + 1 < cLine) (ho : PE X o td) (hi : PE X i ty) (hv : PE X value tv) (hs : swapsWith value (some (.Subscript o i pos')) pos.line X.env = pure false) :
    PS X (.Assign [.Subscript o i pos'] value pos) (sDPut td ty tv) := by
  intro pins s σ H D I h
  refine wpAny_Assign_Subscript (thn (hv pins s σ H _ I h) fun r s1 hpat => ?_) hs
  obtain ⟨v, H1, I1, rv, q1⟩ := hpat
  refine thn (ho pins s1 σ H1 _ I1 q1) fun u s2 hpat => ?_
  obtain ⟨x, H2, I2, rx, q2⟩ := hpat
  refine thn (hi pins s2 σ H2 _ I2 q2) fun iv s3 hpat => ?_
  obtain ⟨y, H3, I3, ry, a, H4, ex, g, q3⟩ := hpat
  subst ex
  obtain rfl : u = Value.ref a := rx
  exact d_setItem hu I3 g ry rv fun s4 I4 => ⟨σ, H4, I4, q3⟩
end


theorem dk_empty {P : Program} {w : World} {H : Hp} (h : Heap) (hb : sysModules < h.objs.size) : ObjOk P w H (h.push { cls := .type "dict", data := .dict #[] }) h.objs.size (.dK []) :=
  ⟨Nat.zero_le _, beq_eq_false_iff_ne.mpr (Ne.symm (Nat.ne_of_lt hb)), [], .nil, Heap.DictOf.new h⟩
section
variable {X : Cx} {pos : Pos}
end

noncomputable def tPairs : List (TE × TE) → St → Hp → (List (V × V) → Hp → Prop) → Prop
  | [], _, H, Q => Q [] H
  | (tk, tv) :: r, σ, H, Q => tk σ H fun x H1 => tv σ H1 fun y H2 => tPairs r σ H2 fun ps H3 => Q ((x, y) :: ps) H3
noncomputable abbrev VV : List (V × V) → List (Value × Value) → Prop := Paired fun p q => RelV p.1 q.1 ∧ RelV p.2 q.2
noncomputable def PPs (X : Cx) (pos : Pos) (keys : List (Option Expr)) (values : List Expr) (trs : List (TE × TE)) : Prop :=
  ∀ (pins : List (Addr × Obj)) (s : Shared) (σ : St) (H : Hp) (Q : List (V × V) → Hp → Prop), Inv X pins σ H s → tPairs trs σ H Q →
    wpAny (model X.prog X.w) X.A (evalPairs (pairTrees keys values X.env pos)) (fun vs s' => ∃ ps H', Inv X pins σ H' s' ∧ VV ps vs ∧ Q ps H') X.xe s
theorem pps_nil {X : Cx} {pos : Pos} : PPs X pos [] [] [] := fun pins s σ H Q I h => pairTrees_nil_walk ⟨[], H, I, .nil, h⟩
theorem pps_cons {X : Cx} {pos : Pos} {k v : Expr} {ks : List (Option Expr)} {vs : List Expr} {tk tv : TE} {trs : List (TE × TE)} (hk : PE X k tk) (hv : PE X v tv) (hr : PPs X pos ks vs trs) :
    PPs X pos (some k :: ks) (v :: vs) ((tk, tv) :: trs) := fun pins s σ H Q I h =>
  pairTrees_cons_walk (thn (hk pins s σ H _ I h) fun u s1 ⟨x, H1, I1, rx, q1⟩ => thn (hv pins s1 σ H1 _ I1 q1) fun w2 s2 ⟨y, H2, I2, ry, q2⟩ =>
    thn (hr pins s2 σ H2 _ I2 q2) fun ws s3 hp2 => by obtain ⟨ps, H3, I3, rel, q3⟩ := hp2; exact ⟨(x, y) :: ps, H3, I3, .cons ⟨rx, ry⟩ rel, q3⟩)

noncomputable def mergeK (kvs more : List (Key × V)) : List (Key × V) := more.foldl (fun acc kv => putK acc kv.1 kv.2) kvs
theorem KV.merge : ∀ {more : List (Key × V)} {rs : List (Key × Value)} {kvs : List (Key × V)} {vs : List (Key × Value)}, KV more rs → KV kvs vs → KV (mergeK kvs more) (merged vs rs) := by
  intro more rs kvs vs r
  unfold KV at r
  induction r generalizing kvs vs with
  | nil => intro q; exact q
  | @cons p q ps qs h t ih =>
    intro r0
    have e : KV (putK kvs p.1 p.2) (stored vs q.1 q.2) := by
      have := r0.put p.1 h.2
      rw [← h.1]; exact this
    exact ih e
theorem length_mergeK : ∀ (more kvs : List (Key × V)), (mergeK kvs more).length ≤ kvs.length + more.length
  | [], kvs => by show kvs.length ≤ kvs.length + 0; omega
  | p :: r, kvs => by
    have h1 := length_mergeK r (putK kvs p.1 p.2)
    have h2 := length_putK kvs p.1 p.2
    show (mergeK (putK kvs p.1 p.2) r).length ≤ _
    rw [List.length_cons]; omega
theorem carries_of {P : Program} {w : World} : ∀ {kvs : List (Key × V)} {ws : List (Value × Value)}, VV (kvs.map fun kv => (kV kv.1, kv.2)) ws → ∃ rs, Carries (mixKind P w) ws rs ∧ KV kvs rs
  | [], _, r => by rw [List.map_nil] at r; cases r; exact ⟨[], True.intro, .nil⟩
  | p :: kvs, _, r => by
    rw [List.map_cons] at r
    cases r with
    | @cons a b as bs h t =>
      obtain ⟨rs, c, q⟩ := carries_of (P := P) (w := w) t
      obtain ⟨b1, b2⟩ := b
      exact ⟨(p.1, b2) :: rs, ⟨kV_is h.1, rfl, c⟩, .cons ⟨rfl, h.2⟩ q⟩
noncomputable def tDisp (trs : List (TE × TE)) : TE := fun σ H Q => ∀ p, H p = none → tPairs trs σ (upd H p (.dK [])) fun ps H2 => H2 p = some (.dK []) ∧ ∃ kvs : List (Key × V), ps = kvs.map (fun kv => (kV kv.1, kv.2)) ∧ kvs.length ≤ 15 ∧ Q (.ref p) (upd H2 p (.dK (mergeK [] kvs)))
theorem pe_disp {X : Cx} {pos : Pos} {keys : List (Option Expr)} {values : List Expr} {trs : List (TE × TE)} (h : PPs X pos keys values trs) (hall : keys.all (·.isSome) = true) (hl : keys.length = values.length) (h0 : keys ≠ [])
    (h15 : keys.length ≤ 15) : PE X (.Dict keys values pos) (tDisp trs) := by
  intro pins s σ H Q I q
  have hn := I.hok.fresh (Nat.le_refl s.heap.objs.size)
  have I1 := I.laid (a := s.heap.objs.size) (o := .dK []) (h' := s.heap.push { cls := .type "dict", data := .dict #[] }) (t' := s.toks) (fun _ _ q => Heap.get?_push_of_some _ q) (Nat.le_refl _) (dk_empty s.heap I.big)
  refine wpAny_Dict_walk (knd := mixKind X.prog X.w) hall hl h0 h15 (thn (h pins _ σ _ _ I1 (q _ hn)) fun ws s2 hpat => ?_)
  obtain ⟨ps, H2, I2, rel, e, kvs, ep, lk, q2⟩ := hpat
  subst ep
  obtain ⟨rs, c, rk⟩ := carries_of (P := X.prog) (w := X.w) rel
  obtain ⟨z, hd, vs0, r0, dd⟩ := dk_of I2.hok e
  cases r0
  refine ⟨rs, c, dd, fun h' dd' hs => ⟨.ref s.heap.objs.size, _, ?_, rfl, q2⟩⟩
  have hz : (mergeK [] kvs).length ≤ sizeLine := by
    have h1 := length_mergeK kvs []
    rw [List.length_nil] at h1
    rw [sizeLine_eq]; omega
  have he : ∃ q, h'.get? s.heap.objs.size = some q := let ⟨q, _, _, hq, _⟩ := dd'; ⟨q, hq⟩
  exact d_write I2 (by rw [e]; exact True.intro) hs he (dk_new hz hd (rk.merge .nil) dd')


structure M1 (X : Cx) (o : Expr) (m : Str) (apos : Pos) (e : Expr) (cpos : Pos) : Prop where
  base : attributeBase o m X.env (eval o X.env) = eval o X.env
  few : ((backTo cpos (starEach [e] X.env)).all (fun x => !x.1) && (backToKw cpos (keywordEach [] X.env)).all (fun x => x.1.isSome)
    && decide (([e] : List Expr).length + ([] : List Keyword).length + (if ([] : List Keyword).isEmpty then 0 else 1) < 30)) = true
  line : (apos.endLine == cpos.line) = true
  trees : backTo cpos (starEach [e] X.env) = [(false, eval e X.env)]
structure M2 (X : Cx) (o : Expr) (m : Str) (apos : Pos) (e f : Expr) (cpos : Pos) : Prop where
  base : attributeBase o m X.env (eval o X.env) = eval o X.env
  few : ((backTo cpos (starEach [e, f] X.env)).all (fun x => !x.1) && (backToKw cpos (keywordEach [] X.env)).all (fun x => x.1.isSome)
    && decide (([e, f] : List Expr).length + ([] : List Keyword).length + (if ([] : List Keyword).isEmpty then 0 else 1) < 30)) = true
  line : (apos.endLine == cpos.line) = true
  trees : backTo cpos (starEach [e, f] X.env) = [(false, eval e X.env), (false, eval f X.env)]

section
variable {X : Cx} {pins : List (Addr × Obj)} {σ : St} {H : Hp} {s : Shared} {a : Addr} {y d : V} {u r : Value} {o : Option V} {A : Around} {E : Value → Shared → Prop}
end

section
variable {X : Cx} {o e f : Expr} {apos cpos : Pos} {td ty tx : TE}
end

section
variable {X : Cx} {pins : List (Addr × Obj)} {σ : St} {H : Hp} {s : Shared} {a : Addr} {kvs : List (Key × V)} {A : Around} {E : Value → Shared → Prop}
end


section
variable {X : Cx} {pins : List (Addr × Obj)} {σ : St} {H : Hp} {s : Shared} {a : Addr} {y : V} {u : Value} {A : Around} {E : Value → Shared → Prop}
end
end L2
namespace L2
open PySem PySem.Spec PyProof.Rows
section
variable {κ : Type} [DecidableEq κ]
theorem nd_snoc : ∀ {l : List κ} {k : κ}, l.Nodup → ¬ k ∈ l → (l ++ [k]).Nodup
  | [], k, _, _ => by simp
  | a :: r, k, h, hk => by
    obtain ⟨h1, h2⟩ := List.nodup_cons.mp h
    show (a :: (r ++ [k])).Nodup
    refine List.nodup_cons.mpr ⟨fun m => ?_, nd_snoc h2 fun m => hk (List.mem_cons.mpr (Or.inr m))⟩
    rcases List.mem_append.mp m with q | q
    · exact h1 q
    · exact hk (List.mem_cons.mpr (Or.inl (List.mem_singleton.mp q).symm))
end
end L2
set_option Elab.async false
set_option linter.all false
set_option maxRecDepth 100000
set_option maxHeartbeats 4000000
namespace L2
open PySem PySem.Spec PyProof.Rows
section
variable {X : Cx}
theorem same_laid {H : Hp} {p : Addr} (h : H p = none) (o : HO) : Same H (upd H p o) := fun b u q => by rw [upd_ne (ne_of_none q h)]; exact q
noncomputable def rSlW (K : PySem.W.Frag) : V → Option Int → Option Int → Hp → VK → Prop := fun x lo hi H Q => ExQ Q (fun a Q => ExQ Q (fun xs Q => x = .ref a ∧ SqT K H a xs ∧ ∀ p H', Same H H' → SqT K H' p (cutV xs lo hi) → Q (.ref p) H'))
theorem whole_cut {prog : Program} {w : World} {A : Around} {E : Value → Shared → Prop} {s : Shared} {t sl : Addr} {items : Array Value} {vl vu : Value} {lo hi : Option Int} {Q : Value → Shared → Prop} (ht : IsTup s.heap t items) (hs : s.heap.IsSliceOf sl vl vu .none)
    (pl : IsPart vl lo) (pu : IsPart vu hi) (hw : HT.sIx items.size 0 lo = 0 ∧ HT.sIx items.size items.size hi = items.size) (h : Q (.ref t) s) : wpAny (model prog w) A (getItem (.ref t) (.ref sl)) Q E s := by
  obtain ⟨os, hos, hcs, hds⟩ := id hs
  have hTs : s.TypeIs (.ref sl) "slice" := ⟨os, hos, hcs⟩
  unfold getItem
  try with_reducible refine wpAny_holding ?_
  first | refine wpAny_bind (wpAny_pure ?_) | skip
  refine wpAny_bind (wpAny_sequenceKey ht.typeIs (by decide) ?_); refine wpAny_bind (wpAny_callSpecial?_slot (name := Str.ofString "__getitem__") ht.typeIs PyProof.Rows.slot_tuple_getitem (wpAny_call_entry PyProof.Rows.slot_tuple_getitem ht.typeIs entry_tuple_getitem ?_ (args_tuple_getitem _ _)))
  show wpAny _ _ (Builtin.Tuple.tupleItemsOf (.ref t) >>= _) _ _ s; refine wpAny_bind (tupleItemsOf_ ht ?_); refine wpAny_bind (wpAny_typeOf hTs ?_)
  rw [if_pos (by decide)]
  refine wpAny_bind (HT.sliceApplied_gen hs pl pu ?_)
  show wpAny _ _ (if (((HT.sIx items.size 0 lo : Nat) : Int) == 0 && (1 : Int) == 1 && (HT.sIx items.size items.size hi - HT.sIx items.size 0 lo) == items.size) = true then _ else _) _ _ s
  rw [if_pos (by rw [hw.1, hw.2]; simp)]
  unfold Builtin.Tuple.tupleIsExact
  refine wpAny_bind (wpAny_bind (wpAny_typeOf ht.typeIs (wpAny_pure ?_)))
  rw [if_pos (by decide)]
  exact wpAny_bind (wpAny_rule (wpAny_pure ⟨_, rfl, wpAny_pure h⟩))
theorem sl_tupW : SlR X (rSlW X.K) := by
  intro pins s σ H x v vl vu lo hi sl Q I rx hs pl pu h
  obtain ⟨a, xs, rfl, hx, q⟩ := h
  by_cases hw : HT.sIx xs.length 0 lo = 0 ∧ HT.sIx xs.length xs.length hi = xs.length
  · cases rx
    obtain ⟨its, r, ht, hz⟩ := I.tuple hx
    have hlen : its.toArray.size = xs.length := by rw [List.size_toArray]; exact r.length.symm
    refine ⟨"tuple", _, PyProof.Rows.slot_tuple_getitem.lookup, ht.typeIs, whole_cut ht hs pl pu (by rw [hlen]; exact hw) ⟨.ref a, H, I, rfl, q a H (Same.refl H) ?_⟩⟩
    unfold cutV
    rw [hw.1, hw.2, List.drop_zero, Nat.sub_zero, List.take_length]
    exact hx
  · exact sl_tup pins s σ H _ v vl vu lo hi sl Q I rx hs pl pu ⟨a, xs, rfl, hx, hw, fun p np => q p _ (same_laid np _) (SqT.of upd_same)⟩
end
section
end
section
variable {X : Cx}
noncomputable def rDUpd : V → List V → Hp → VK → Prop := fun x vs H Q => ExQ Q (fun d Q => ExQ Q (fun o Q => ExQ Q (fun kvs Q => ExQ Q (fun more Q => x = .ref d ∧ vs = [.ref o] ∧ d ≠ o ∧ H d = some (.dK kvs) ∧ H o = some (.dK more) ∧ kvs.length + more.length ≤ sizeLine ∧ Q .non (upd H d (.dK (mergeK kvs more)))))))
theorem mt_dupd : MtM X "dict.update" rDUpd := by
  intro pins s σ H x vs v us Q I rx rv h
  obtain ⟨d, o, kvs, more, rfl, rfl, hne, hd, ho, hz, q⟩ := h
  cases rx
  obtain ⟨u, rfl, ru⟩ := rv.one
  cases ru
  obtain ⟨z1, b1, vs1, r1, dd1⟩ := dk_of I.hok hd
  obtain ⟨z2, b2, vs2, r2, dd2⟩ := dk_of I.hok ho
  have l1 := r1.length
  have l2 := r2.length
  refine call_meetsIn PySem.F.slot_dict_update dd1.typeIs PySem.F.entry_dict_update (PySem.F.args_dict_update_2 _ _) (meets_dict_update (mixKind X.prog X.w) d o hne b2) ⟨vs1, vs2, dd1, dd2, by omega, fun h' hm _ hs => ?_⟩
  have lm := length_mergeK more kvs
  have he : ∃ q, h'.get? d = some q := let ⟨q, _, _, hq, _⟩ := hm; ⟨q, hq⟩
  exact ⟨.non, _, d_write (t' := s.toks) I (by rw [hd]; exact True.intro) hs he (dk_new (by omega) b1 (r2.merge r1) hm), rfl, q⟩
end
end L2
set_option Elab.async false
set_option linter.all false
set_option maxRecDepth 100000
set_option maxHeartbeats 4000000
namespace L2
open PySem PySem.Spec PyProof.Rows
inductive T where
  | d (d : D) | lst (ts : List T) | tup (ts : List T)
mutual
noncomputable def IsT (K : PySem.W.Frag) (H : Hp) : T → V → Prop
  | .d d, v => Is K H d v
  | .lst ts, v => ∃ a xs, v = .ref a ∧ SqL K H a xs ∧ IsTL K H ts xs
  | .tup ts, v => ∃ a xs, v = .ref a ∧ SqT K H a xs ∧ IsTL K H ts xs
noncomputable def IsTL (K : PySem.W.Frag) (H : Hp) : List T → List V → Prop
  | [], vs => vs = []
  | t :: ts, vs => ∃ v r, vs = v :: r ∧ IsT K H t v ∧ IsTL K H ts r
end
mutual
noncomputable def T.dep : T → Nat
  | .d x => x.dep
  | .lst ts => 1 + T.depL ts
  | .tup ts => 1 + T.depL ts
noncomputable def T.depL : List T → Nat
  | [] => 0
  | t :: ts => max t.dep (T.depL ts)
end
section
variable {K : PySem.W.Frag} {H : Hp}
theorem ist_d {d : D} {v : V} (h : Is K H d v) : IsT K H (.d d) v := by unfold IsT; exact h
theorem ist_lst {ts : List T} {a : Addr} {xs : List V} (q : SqL K H a xs) (l : IsTL K H ts xs) : IsT K H (.lst ts) (.ref a) := by unfold IsT; exact ⟨a, xs, rfl, q, l⟩
theorem ist_tup {ts : List T} {a : Addr} {xs : List V} (q : SqT K H a xs) (l : IsTL K H ts xs) : IsT K H (.tup ts) (.ref a) := by unfold IsT; exact ⟨a, xs, rfl, q, l⟩
theorem istl_nil : IsTL K H [] [] := by unfold IsTL; rfl
theorem istl_cons {t : T} {ts : List T} {v : V} {vs : List V} (h : IsT K H t v) (l : IsTL K H ts vs) : IsTL K H (t :: ts) (v :: vs) := by unfold IsTL; exact ⟨v, vs, rfl, h, l⟩
theorem IsTL.length : ∀ {ts : List T} {vs : List V}, IsTL K H ts vs → ts.length = vs.length
  | [], vs, h => by unfold IsTL at h; rw [h]; rfl
  | t :: ts, vs, h => by
    unfold IsTL at h
    obtain ⟨v, r, rfl, _, l⟩ := h
    rw [List.length_cons, List.length_cons, IsTL.length l]
theorem istl_ds : ∀ {ds : List D} {vs : List V}, IsL K H ds vs → IsTL K H (ds.map T.d) vs
  | [], vs, h => by rw [h.nil_inv]; exact istl_nil
  | d :: ds, vs, h => by
    obtain ⟨v, r, rfl, a, b⟩ := h.cons_inv
    exact istl_cons (ist_d a) (istl_ds b)
end
section
variable {X : Cx} {pins : List (Addr × Obj)} {σ : St} {H : Hp} {s : Shared}
noncomputable def SameAt (A : Around) (s : Shared) (us us' : List Value) : Prop := ∀ (j : Nat) u u', us[j]? = some u → us'[j]? = some u' → SeqAt.EqAt A s u u' true
theorem all_true (n : Nat) : (List.range n).all (fun _ => true) = true := by simp
theorem sat_get {A : Around} {us us' : List Value} (h : SameAt A s us us') : ∀ j (h1 : j < us.toArray.size) (h2 : j < us'.toArray.size), SeqAt.EqAt A s us.toArray[j] us'.toArray[j] ((fun _ => true) j) := fun j h1 h2 =>
  h j _ _ (by rw [List.size_toArray] at h1; simp [h1]) (by rw [List.size_toArray] at h2; simp [h2])
mutual
theorem eqAt_T (I : Inv X pins σ H s) : ∀ (t : T) {A : Around} {v v' : V} {u u' : Value}, IsT X.K H t v → IsT X.K H t v' → RelV v u → RelV v' u' → A.units + t.dep < cLine → SeqAt.EqAt A s u u' true
  | .d d, A, v, v', u, u', h, k, r, r', hu => by
    unfold IsT at h k
    have e : T.dep (.d d) = d.dep := by unfold T.dep; rfl
    have := eqAt_D I d d h k r r' (by rw [← e]; exact hu)
    rw [D.beq_self] at this
    exact this
  | .lst ts, A, v, v', u, u', h, k, r, r', hu => by
    unfold IsT at h k
    obtain ⟨a, xs, rfl, q, l⟩ := h
    obtain ⟨b, ys, rfl, q', l'⟩ := k
    cases r; cases r'
    have e : T.dep (.lst ts) = 1 + T.depL ts := by conv => lhs; unfold T.dep
    by_cases hab : a = b
    · subst hab; exact SeqAt.EqAt.same _
    · obtain ⟨its, rv, p, z⟩ := I.list q
      obtain ⟨its', rv', p', z'⟩ := I.list q'
      have R := SeqAt.RcAt.lists (A := A) (s := s) (e := fun _ => true) p.isList p'.isList (by rw [List.size_toArray, List.size_toArray, ← rv.length, ← rv'.length, ← l.length, ← l'.length]) (by omega) (sat_get (eqAt_TL I ts l l' rv rv' (by rw [in1_units]; omega)))
      rw [all_true] at R
      exact SeqAt.EqAt.of_refs hab R
  | .tup ts, A, v, v', u, u', h, k, r, r', hu => by
    unfold IsT at h k
    obtain ⟨a, xs, rfl, q, l⟩ := h
    obtain ⟨b, ys, rfl, q', l'⟩ := k
    cases r; cases r'
    have e : T.dep (.tup ts) = 1 + T.depL ts := by conv => lhs; unfold T.dep
    by_cases hab : a = b
    · subst hab; exact SeqAt.EqAt.same _
    · obtain ⟨its, rv, p, z⟩ := I.tuple q
      obtain ⟨its', rv', p', z'⟩ := I.tuple q'
      have R := SeqAt.RcAt.tuples (A := A) (s := s) (e := fun _ => true) p p' (by omega) (sat_get (eqAt_TL I ts l l' rv rv' (by rw [in1_units]; omega)))
      have es : its.toArray.size = its'.toArray.size := by rw [List.size_toArray, List.size_toArray, ← rv.length, ← rv'.length, ← l.length, ← l'.length]
      rw [all_true, es, beq_self_eq_true] at R
      exact SeqAt.EqAt.of_refs hab R
theorem eqAt_TL (I : Inv X pins σ H s) : ∀ (ts : List T) {A : Around} {xs ys : List V} {us us' : List Value}, IsTL X.K H ts xs → IsTL X.K H ts ys → Vals xs us → Vals ys us' → A.units + T.depL ts < cLine → SameAt A s us us'
  | [], A, xs, ys, us, us', l, l', rv, rv', hu => by
    unfold IsTL at l l'
    subst l
    cases rv
    intro j u u' h; simp at h
  | t :: ts, A, xs, ys, us, us', l, l', rv, rv', hu => by
    unfold IsTL at l l'
    obtain ⟨x, r, rfl, i, l⟩ := l
    obtain ⟨y, r', rfl, i', l'⟩ := l'
    cases rv with | cons q1 rv => cases rv' with | cons q2 rv' =>
    have e : T.depL (t :: ts) = max t.dep (T.depL ts) := by conv => lhs; unfold T.depL
    intro j u u' h h'
    match j, h, h' with
    | 0, h, h' => cases h; cases h'; exact eqAt_T I t i i' q1 q2 (by omega)
    | j + 1, h, h' => exact eqAt_TL I ts l l' rv rv' (by omega) j u u' (by simpa using h) (by simpa using h')
end
end
noncomputable def rEqT (K : PySem.W.Frag) (n : Nat) (neg : Bool) : R2 := fun x y H Q => ExQ Q (fun ts Q => ((IsT K H (.lst ts) x ∧ IsT K H (.lst ts) y) ∨ (IsT K H (.tup ts) x ∧ IsT K H (.tup ts) y)) ∧ T.depL ts < n ∧ Q (.bl (!neg)) H)
section
variable {X : Cx} {pins : List (Addr × Obj)} {σ : St} {H : Hp} {s : Shared}
theorem rc_T (I : Inv X pins σ H s) {A : Around} {ts : List T} {x y : V} {u u' : Value} (h : (IsT X.K H (.lst ts) x ∧ IsT X.K H (.lst ts) y) ∨ (IsT X.K H (.tup ts) x ∧ IsT X.K H (.tup ts) y)) (r : RelV x u) (r' : RelV y u') (hu : A.units + 1 + T.depL ts < cLine) :
    SeqAt.RcAt A s u u' true ∧ SeqAt.RcNeAt A s u u' false := by
  rcases h with ⟨h, k⟩ | ⟨h, k⟩
  · unfold IsT at h k
    obtain ⟨a, xs, rfl, q, l⟩ := h
    obtain ⟨b, ys, rfl, q', l'⟩ := k
    cases r; cases r'
    obtain ⟨its, rv, p, z⟩ := I.list q
    obtain ⟨its', rv', p', z'⟩ := I.list q'
    have es : its.toArray.size = its'.toArray.size := by rw [List.size_toArray, List.size_toArray, ← rv.length, ← rv'.length, ← l.length, ← l'.length]
    have sa := sat_get (eqAt_TL (A := A.in1) I ts l l' rv rv' (by rw [in1_units]; omega))
    have R := SeqAt.RcAt.lists (A := A) (e := fun _ => true) p.isList p'.isList es (by omega) sa
    have R2 := SeqAt.RcNeAt.lists (A := A) (e := fun _ => true) p.isList p'.isList es (by omega) sa
    rw [all_true] at R R2
    exact ⟨R, R2⟩
  · unfold IsT at h k
    obtain ⟨a, xs, rfl, q, l⟩ := h
    obtain ⟨b, ys, rfl, q', l'⟩ := k
    cases r; cases r'
    obtain ⟨its, rv, p, z⟩ := I.tuple q
    obtain ⟨its', rv', p', z'⟩ := I.tuple q'
    have es : its.toArray.size = its'.toArray.size := by rw [List.size_toArray, List.size_toArray, ← rv.length, ← rv'.length, ← l.length, ← l'.length]
    have sa := sat_get (eqAt_TL (A := A.in1) I ts l l' rv rv' (by rw [in1_units]; omega))
    have R := SeqAt.RcAt.tuples (A := A) (e := fun _ => true) p p' (by omega) sa
    have R2 := SeqAt.RcNeAt.tuples (A := A) (e := fun _ => true) p p' (by omega) sa
    rw [all_true, es, beq_self_eq_true] at R R2
    exact ⟨R, R2⟩
end
section
variable {X : Cx}
theorem op_eqT {n : Nat} (hu : X.A.units + 1 + n < cLine) : OpR X (compareOp .Eq) (rEqT X.K n false) := by
  intro pins s σ H x y v u Q I rx ry h
  obtain ⟨ts, h1, hd, q⟩ := h
  exact (rc_T I h1 rx ry (by omega)).1 X.prog X.w X.xe _ ⟨.bl _, H, I, rfl, q⟩
theorem op_neT {n : Nat} (hu : X.A.units + 1 + n < cLine) : OpR X (compareOp .NotEq) (rEqT X.K n true) := by
  intro pins s σ H x y v u Q I rx ry h
  obtain ⟨ts, h1, hd, q⟩ := h
  exact (rc_T I h1 rx ry (by omega)).2 X.prog X.w X.xe _ ⟨.bl _, H, I, rfl, q⟩
end
end L2
set_option Elab.async false
set_option linter.all false
set_option maxRecDepth 100000
set_option maxHeartbeats 4000000
namespace L2
open PySem PySem.Spec PyProof.Rows
noncomputable def ClM (P : Program) (w : World) (K : PySem.W.Frag) (mg : Str → Option Value) (base : Heap) (C : Addr) (m : Str) (k : Nat) (ps : List Str) (sp : Sp) : Prop :=
  ∃ (f : Addr) (fd : FuncData), Cls K C ∧ Meth K C m f ∧ FnOk P w K mg base CX0 k f fd ps sp ∧ Binds K fd ps []
theorem ClM.mono {P : Program} {w : World} {K : PySem.W.Frag} {mg : Str → Option Value} {base : Heap} {C : Addr} {m : Str} {j k : Nat} {ps : List Str} {sp : Sp} (c : ClM P w K mg base C m j ps sp) (h : j ≤ k) : ClM P w K mg base C m k ps sp :=
  let ⟨f, fd, a, b, F, d⟩ := c; ⟨f, fd, a, b, F.mono h, d⟩
noncomputable def tMcl (C : Addr) (m : Str) (sp : Sp) (ta : TE) (t : TA) : TE := fun σ H Q => ta σ H fun x H1 => ExQ Q (fun a Q => ExQ Q (fun dx Q => ExQ Q (fun fs Q => x = .ref a ∧ H1 a = some (.ins C dx fs) ∧ fs.lookup m = none ∧ t σ H1 fun vs H2 => sp (x :: vs) H2 Q E0)))
noncomputable def ClK (P : Program) (w : World) (K : PySem.W.Frag) (mg : Str → Option Value) (base : Heap) (x : Str) (C : Addr) (k : Nat) (ps : List Str) (sp : Sp) : Prop :=
  ∃ (f : Addr) (fd : FuncData), Mk K C f ∧ FnOk P w K mg base CX0 k f fd ps sp ∧ Binds K fd ps [] ∧ mg x = some (.ref C)
noncomputable def tMk (C : Addr) (sp : Sp) (t : TA) : TE := fun σ H Q => t σ H fun vs H1 => ∀ x dx, H1 x = none → H1 dx = none → dx ≠ x → sp (.ref x :: vs) (upd (upd H1 dx (.own x)) x (.ins C dx [])) (fun v H2 => v = .non ∧ Q (.ref x) H2) E0
section
variable {X : Cx} {x m : Str} {k : Nat} {ps : List Str} {sp : Sp} {p pos apos : Pos} {o e : Expr} {es : List Expr} {ta : TE} {t : TA} {C : Addr}
theorem pe_mcl {pl : Sem Bool} (he : PE X o ta) (c : ClM X.prog X.w X.K X.mg X.base C m k ps sp) (hr : Room k X.A) (ha : PA X (e :: es) t)
    (hst : starEach (e :: es) X.env = (false, eval e X.env) :: starEach es X.env := by rfl) (hpl : (backTo pos (starEach es X.env)).any (·.1) = false := by rfl)
    (ht : eval (.Call (.Attribute o m apos) (e :: es) [] pos) X.env = (do
      let ov ← eval o X.env; standAt apos.atName; let (f, first) ← holding [ov] (getMethod ov m pl)
      callWith pos f first (backTo pos (starEach (e :: es) X.env)) (backToKw pos (keywordEach [] X.env))) := by rfl) : PE X (.Call (.Attribute o m apos) (e :: es) [] pos) (tMcl C m sp ta t) := by
  obtain ⟨f, fd, cl, hm, F, b⟩ := c
  have h := pe_meth (E := E0) (pos := pos) (apos := apos) (pl := pl) he cl hm F hr b .nil pass0 ha hst hpl ht
  have e1 : tMeth C m sp [] E0 ta t = tMcl C m sp ta t := by
    funext σ H Q
    unfold tMeth tMcl
    simp only [List.append_nil]
  rw [e1] at h
  exact h
theorem pe_mcl0 {pl : Sem Bool} (he : PE X o ta) (c : ClM X.prog X.w X.K X.mg X.base C m k ps sp) (hr : Room k X.A)
    (ht : eval (.Call (.Attribute o m apos) [] [] pos) X.env = (do
      let ov ← eval o X.env; standAt apos.atName; let (f, first) ← holding [ov] (getMethod ov m pl)
      callWith pos f first (backTo pos (starEach [] X.env)) (backToKw pos (keywordEach [] X.env))) := by rfl) : PE X (.Call (.Attribute o m apos) [] [] pos) (tMcl C m sp ta tNil) := by
  obtain ⟨f, fd, cl, hm, F, b⟩ := c
  have h := pe_meth0 (E := E0) (pos := pos) (apos := apos) (pl := pl) he cl hm F hr b .nil pass0 ht
  have e1 : tMeth C m sp [] E0 ta tNil = tMcl C m sp ta tNil := by
    funext σ H Q
    unfold tMeth tMcl
    simp only [List.append_nil]
  rw [e1] at h
  exact h
theorem pe_mk (c : ClK X.prog X.w X.K X.mg X.base x C k ps sp) (hr : Room (k + 1) X.A) (hg : Gl X x) (ha : PA X (e :: es) t) (hdb : (x == ("__debug__" : Str)) = false := by decide)
    (he : starEach (e :: es) X.env = (false, eval e X.env) :: starEach es X.env := by rfl) (hpl : (backTo pos (starEach es X.env)).any (·.1) = false := by rfl) : PE X (.Call (.Name x p) (e :: es) [] pos) (tMk C sp t) := by
  obtain ⟨f, fd, M, F, b, m⟩ := c
  have h := pe_make (E := E0) (pos := pos) (p := p) M F hr hg m b .nil pass0 ha hdb he hpl
  have e1 : tMake C sp [] E0 t = tMk C sp t := by
    funext σ H Q
    unfold tMake tMk
    simp only [List.append_nil]
  rw [e1] at h
  exact h
end
section
variable {X : Cx} {K : PySem.W.Frag}
theorem call_list_ofK (h : X.K = K) : CallR X (.type "list") (fun xs H Q => ∃ p ys, xs = [.ref p] ∧ (SqL K H p ys ∨ SqT K H p ys) ∧ ∀ l, H l = none → Q (.ref l) (upd H l (.lst ys))) := h ▸ call_list_of
end
noncomputable def tSf (C : Addr) (f : Str) (ta : TE) : TE := fun σ H Q => ta σ H fun x H1 => ExQ Q (fun a Q => ExQ Q (fun dx Q => ExQ Q (fun fs Q => ExQ Q (fun v Q => x = .ref a ∧ H1 a = some (.ins C dx fs) ∧ fs.lookup f = some v ∧ Q v H1))))
noncomputable def sSf (C : Addr) (f : Str) (ta tv : TE) : TS := fun D σ H => tv σ H fun y H1 => ta σ H1 fun x H2 => ExQ D (fun a D => ExQ D (fun dx D => ExQ D (fun fs D => x = .ref a ∧ H2 a = some (.ins C dx fs) ∧ fs.length < 1000 ∧ D.nx σ (upd H2 a (.ins C dx (putF f y fs))))))
noncomputable def sSfAug (C : Addr) (f : Str) (ta tv : TE) (rd : V → V → Hp → VK → Prop) : TS := fun D σ H => ta σ H fun x H1 => ExQ D (fun a D => ExQ D (fun dx D => ExQ D (fun fs D => ExQ D (fun v D => x = .ref a ∧ H1 a = some (.ins C dx fs) ∧ fs.lookup f = some v ∧
  tv σ H1 fun y H2 => rd v y H2 fun z H3 => ExQ D (fun dx' D => ExQ D (fun fs' D => H3 a = some (.ins C dx' fs') ∧ fs'.length < 1000 ∧ D.nx σ (upd H3 a (.ins C dx' (putF f z fs')))))))))
section
variable {X : Cx} {o e value : Expr} {f : Str} {pos pos' tpos : Pos} {ta tv : TE} {C : Addr}
theorem pe_sf (c : Cls X.K C) (n : NoAttr X.K C f) (he : PE X e ta) (hb : attributeBase e f X.env (eval e X.env) = eval e X.env := by rfl) : PE X (.Attribute e f pos) (tSf C f ta) := by
  intro pins s σ H Q I h
  refine attr_of hb (thn (he pins s σ H _ I h) fun u s1 ⟨x, H1, I1, rx, a, dx, fs, v, ex, ea, l, q⟩ => ?_); subst ex; obtain rfl : u = Value.ref a := rx
  exact getattr_ok I1 ea c n l fun u s2 I2 ru => ⟨v, H1, I2, ru, q⟩
theorem ps_sf (c : Cls X.K C) (n : NoAttr X.K C f) (ha : PE X o ta) (hv : PE X value tv) (hs : swapsWith value (some (.Attribute o f pos')) pos.line X.env = pure false := by rfl) : PS X (.Assign [.Attribute o f pos'] value pos) (sSf C f ta tv) := by
  intro pins s σ H D I h
  refine plainObj_wpAny_Assign_Attribute (thn (hv pins s σ H _ I h) fun u s1 hpat => ?_) hs
  obtain ⟨y, H1, I1, ry, q⟩ := hpat
  refine thn (ha pins s1 σ H1 _ I1 q) fun ov s2 hpat => ?_
  obtain ⟨x, H2, I2, rx, a, dx, fs, ex, ea, l, q2⟩ := hpat
  subst ex; obtain rfl : ov = Value.ref a := rx
  exact setattr_ok I2 ea c n l ry fun s3 I3 => ⟨σ, _, I3, q2⟩
theorem ps_sfaug {op : Operator} {rd : V → V → Hp → VK → Prop} (c : Cls X.K C) (n : NoAttr X.K C f) (ha : PE X o ta) (hv : PE X value tv) (hop : InOp X op rd) : PS X (.AugAssign (.Attribute o f tpos) op value pos) (sSfAug C f ta tv rd) := by
  intro pins s σ H D I h
  refine wpAny_AugAssign_AttributeAny (thn (ha pins s σ H _ I h) fun ov s1 ⟨x, H1, I1, rx, a, dx, fs, v, ex, ea, l, q⟩ => ?_); subst ex; obtain rfl : ov = Value.ref a := rx
  refine getattr_ok I1 ea c n l fun u s2 I2 ru => thn (hv pins s2 σ H1 _ I2 q) fun w3 s3 hpat => ?_
  obtain ⟨y, H2, I3, ry, q3⟩ := hpat
  refine thn (hop pins s3 σ H2 v y u w3 _ I3 ru ry q3) fun w4 s4 hpat => ?_
  obtain ⟨z, H3, I4, rz, d2, f2, e2, l2, q4⟩ := hpat
  exact setattr_ok I4 e2 c n l2 rz fun s5 I5 => ⟨σ, _, I5, q4⟩
end
end L2
set_option Elab.async false
set_option linter.all false
set_option maxRecDepth 100000
set_option maxHeartbeats 4000000
namespace L2
open PySem PySem.Spec PyProof.Rows
section
variable {X : Cx}
end
end L2
set_option Elab.async false
set_option linter.all false
set_option maxRecDepth 100000
set_option maxHeartbeats 4000000
namespace L2
open PySem PySem.Spec PyProof.Rows
section
variable {X : Cx} {pins : List (Addr × Obj)} {σ : List (Option V)} {H : Hp} {s : Shared}
theorem inv_ren {N1 N2 : List Str} {j : Nat} (I : Inv { X with N := N1 } pins σ H s) (hl : N2.length = N1.length) (hs : ∀ k, k ≠ j → N2[k]? = N1[k]?) (hj : σ[j]? = some none) : Inv { X with N := N2 } pins σ H s := by
  obtain ⟨m, hn, hm⟩ := I.loc
  exact ⟨⟨I.ok.mod, I.ok.kind, I.ok.glob, I.ok.blt, I.ok.above, I.ok.inj, I.ok.has, I.ok.cab, I.ok.hd, I.ok.frames, I.ok.stk, I.ok.exf, I.ok.bs, I.ok.bsz, I.ok.noex, I.ok.exfs, I.ok.funs, I.ok.frf⟩, I.os, I.bare, I.base,
    ⟨m, hn, fun i x v e1 e2 e3 => hm i x v ((hs i (fun z => by rw [z, hj] at e2; cases e2)) ▸ e1) e2 e3⟩, I.cell, I.free, I.freeC, I.pin, I.hok, by rw [I.len]; exact hl.symm⟩
noncomputable def tRen (j : Nat) (t : TE) : TE := fun σ H Q => σ[j]? = some none ∧ t σ H Q
theorem pe_ren {e : Expr} {t : TE} {j : Nat} {y : Str} (he : PE { X with N := X.N.set j y } e t) : PE X e (tRen j t) := by
  intro pins s σ H Q I h
  obtain ⟨hj, h⟩ := h
  refine wpAny_mono (he pins s σ H Q (inv_ren (N1 := X.N) (j := j) I List.length_set (fun k hk => List.getElem?_set_ne (Ne.symm hk)) hj) h) (fun u s' hp => ?_) (fun _ _ z => z)
  obtain ⟨v, H', I', r, q⟩ := hp
  exact ⟨v, H', inv_ren (N1 := X.N.set j y) (N2 := X.N) (j := j) I' List.length_set.symm (fun k hk => (List.getElem?_set_ne (Ne.symm hk)).symm) hj, r, q⟩
end
end L2
set_option Elab.async false
set_option linter.all false
set_option maxRecDepth 100000
set_option maxHeartbeats 4000000
namespace L2
open PySem PySem.Spec PyProof.Rows
section
variable {X : Cx}
noncomputable def tRenS (j : Nat) (t : TS) : TS := fun D σ H => σ[j]? = some none ∧ t { nx := fun σ' H' => σ'[j]? = some none ∧ D.nx σ' H', rt := fun _ _ => False, bk := fun _ _ => False, ct := fun _ _ => False } σ H
theorem ps_ren {st : Stmt} {t : TS} {j : Nat} {y : Str} (hs : PS { X with N := X.N.set j y } st t) : PS X st (tRenS j t) := by
  intro pins s σ H D I h
  obtain ⟨hj, h⟩ := h
  refine wpAny_mono (hs pins s σ H _ (inv_ren (N1 := X.N) (j := j) I List.length_set (fun k hk => List.getElem?_set_ne (Ne.symm hk)) hj) h) (fun fl s' hp => ?_) (fun _ _ z => z)
  cases fl with
  | next =>
    obtain ⟨σ', H', I', hj', q⟩ := hp
    exact ⟨σ', H', inv_ren (N1 := X.N.set j y) (N2 := X.N) (j := j) I' List.length_set.symm (fun k hk => (List.getElem?_set_ne (Ne.symm hk)).symm) hj', q⟩
  | brk => obtain ⟨_, _, _, z⟩ := hp; exact z.elim
  | cont => obtain ⟨_, _, _, z⟩ := hp; exact z.elim
  | ret u => obtain ⟨_, _, _, _, _, z⟩ := hp; exact z.elim
end
end L2
set_option Elab.async false
set_option linter.all false
set_option maxRecDepth 100000
set_option maxHeartbeats 4000000
namespace K25
open PySem PySem.Spec PyProof.Rows L2
noncomputable def top (i : Nat) : Stmt := PySem.Challenge.pw_lookspare_k25_whole_walks.main.body.getD i (.Pass ⟨0, 0, 0, 0⟩)
noncomputable abbrev s_cell : Stmt := top 13
noncomputable abbrev s_pick : Stmt := top 14
noncomputable abbrev s_number : Stmt := top 15
noncomputable abbrev s_maybe : Stmt := top 16
noncomputable def spPick : Sp := fun vs H Q _ => ExQ Q (fun (c : Int) Q => ExQ Q (fun (k : Int) Q => ExQ Q (fun (m : Int) Q => vs = [.int c, .int k, .int m] ∧ 0 ≤ k ∧ k ≤ 1000 ∧ 0 < m ∧ ∀ i : Int, 0 ≤ i → i < m → Q (.int i) H)))
noncomputable def spNumber : Sp := fun vs H Q _ => ExQ Q (fun (c : Int) Q => vs = [.int c] ∧ ∀ i : Int, -1000 ≤ i → i ≤ 1000 → ∀ H', Same H H' → Q (.int i) H')
noncomputable def MaybeV (n : Int) (v : V) : Prop := v = .non ∨ ∃ i : Int, 0 ≤ i ∧ i < n ∧ v = .int i
noncomputable def spMaybe : Sp := fun vs H Q _ => ExQ Q (fun (c : Int) Q => ExQ Q (fun (n : Int) Q => vs = [.int c, .int n] ∧ 0 ≤ n ∧ ∀ v, MaybeV n v → Q v H))
noncomputable def spCell (K : PySem.W.Frag) : Sp := fun vs H Q _ => ExQ Q (fun (a : Addr) Q => ExQ Q (fun (ns : List Int) Q => ExQ Q (fun (k : Int) Q => vs = [.ref a, .int k] ∧ SqL K H a (ns.map V.int) ∧ ns.length ≤ 63 ∧ 0 ≤ k ∧ k ≤ 100 ∧ ∀ (c : Int) (H' : Hp), Same H H' → Q (.int c) H')))
section
variable {P : Program} {w : World} {K : PySem.W.Frag} {mg : Str → Option Value} {base : Heap} {f : Addr} {fd : FuncData} {n : Nat}
local macro_rules | `(tactic| walk_at "s") => `(tactic| first | exact ⟨by decide, by decide⟩ | exact ⟨by decide, by decide, by decide⟩ | exact Or.inl ⟨by decide, by decide⟩ | exact Or.inr ⟨by decide, by decide⟩ | (show (0 : Int) < _; decide) | (show (0 : Int) ≤ _; decide) | (show (0 : Int) < _; omega) | (show (0 : Int) ≤ _; omega) | exact ⟨by omega, by omega⟩ | exact Or.inl ⟨by omega, by omega⟩ | exact Or.inr ⟨by omega, by omega⟩)
local macro_rules | `(tactic| walk_at "r") => `(tactic| repeat (first | (refine ⟨_, rfl, ?_⟩) | (refine ⟨_, _, rfl, rfl, ?_⟩) | (refine ⟨rfl, ?_⟩) | (refine ⟨by walk_at "s", ?_⟩) | (refine ⟨Nat.le_of_ble_eq_true rfl, fun _ _ => ?_⟩)))
theorem sc_pick : FnScope ["_law_cell_here", "_law_k", "_law_many", "_law_number_here"] ["_law_cell_here", "_law_k", "_law_many"] (defScope s_pick) := ⟨rfl, rfl, rfl, by decide +kernel, rfl, by decide +kernel, by decide +kernel⟩
theorem sc_number : FnScope ["_law_cell_here"] ["_law_cell_here"] (defScope s_number) := ⟨rfl, rfl, rfl, by decide +kernel, rfl, by decide +kernel, by decide +kernel⟩
theorem sc_maybe : FnScope ["_law_cell_here", "_law_names"] ["_law_cell_here", "_law_names"] (defScope s_maybe) := ⟨rfl, rfl, rfl, by decide +kernel, rfl, by decide +kernel, by decide +kernel⟩
theorem sc_cell : FnScope ["_law_script", "_law_k", "_law_far", "_law_cell_here"] ["_law_script", "_law_k"] (defScope s_cell) := ⟨rfl, rfl, rfl, by decide +kernel, rfl, by decide +kernel, by decide +kernel⟩

theorem ok_pick (F : Fun K "_law_pick" "_law_pick" s_pick f fd) : FnOk P w K mg base CX0 (n + 1) f fd ["_law_cell_here", "_law_k", "_law_many"] spPick := by
  refine F.ok sc_pick (fun vs H Q E h => ?_) (fun cdv A outer s H vs Q E hr h => ?_)
  · obtain ⟨c, k, m, rfl, _⟩ := h
    rfl
  obtain ⟨c, k, m, rfl, hk0, hk1, hm, q⟩ := h
  have sc := sc_pick
  refine ⟨_, (@pss_cons _ _ _ _ _ (ps_if (pt_cmpR op_ge (pv 0) (pe_op op_pow pe_int pe_int) (nomark _)) (pss_one (ps_ret (pe_op op_mod (pe_op op_mod (pe_op op_shr (pv 0) (pe_op op_mul pe_int (pv 1))) pe_int) (pv 2)))) pss_nil)
      (@pss_cons _ _ _ _ _ (ps_set (i := 3) sc.nd rfl (Or.inl rfl) (pe_op op_add (pe_op op_mul (pe_op op_fdiv (pv 0) (pe_op op_add (pe_op op_mul (pv 1) (pv 1)) pe_int)) pe_int) (pe_op op_mul (pe_op op_mod (pv 0) pe_int) pe_int)))
      (@pss_cons _ _ _ _ _ (ps_set (i := 3) sc.nd rfl (Or.inl rfl) (pe_op op_fdiv (pe_op op_mod (pe_op op_add (pv 3) (pe_op op_mul (pv 1) pe_int)) pe_int) pe_int))
      (pss_one (ps_ret (pe_op op_mod (pe_op op_fdiv (pe_op op_mod (pe_op op_mul (pv 3) (pe_op op_add (pe_op op_mod (pv 3) pe_int) pe_int)) pe_int) pe_int) (pv 2))))))), ?_⟩
  walk_at "r"
  refine ite2 (fun cc => ?_) (fun cc => ?_)
  · walk_at "r"
    exact q _ (Int.emod_nonneg _ (by omega)) (Int.emod_lt_of_pos _ hm)
  · have hkk : 0 ≤ k * k ∧ k * k ≤ 1000000 := ⟨Int.mul_nonneg hk0 hk0, by
      have := Int.mul_le_mul hk1 hk1 hk0 (by decide : (0 : Int) ≤ 1000)
      omega⟩
    walk_at "r"
    exact q _ (Int.emod_nonneg _ (by omega)) (Int.emod_lt_of_pos _ hm)

noncomputable def farB : Nat → Int
  | 0 => 1000000
  | i + 1 => 38 * farB i
theorem farB_le {i : Nat} (h : i ≤ 6) : 1000000 ≤ farB i ∧ farB i ≤ 3010936384000000 := by
  match i, h with
  | 0, _ => decide
  | 1, _ => decide
  | 2, _ => decide
  | 3, _ => decide
  | 4, _ => decide
  | 5, _ => decide
  | 6, _ => decide
  | i + 7, h => omega
theorem same_new {H : Hp} {p : Addr} (h : H p = none) (o : HO) : Same H (upd H p o) := fun b u q => by rw [upd_ne (ne_of_none q h)]; exact q

theorem ok_number (F : Fun K "_law_number" "_law_number" s_number f fd) : FnOk P w K mg base CX0 (n + 1) f fd ["_law_cell_here"] spNumber := by
  refine F.ok sc_number (fun vs H Q E h => ?_) (fun cdv A outer s H vs Q E hr h => ?_)
  · obtain ⟨c, rfl, _⟩ := h
    rfl
  obtain ⟨c, rfl, q⟩ := h
  have sc := sc_number
  refine ⟨_, (@pss_cons _ _ _ _ _ (ps_if (pt_cmpR op_eq (pe_op op_mod (pe_op op_fdiv (pv 0) pe_int) pe_int) pe_int (nomark _)) (pss_one (ps_ret (pe_op op_sub (pe_op op_mod (pv 0) pe_int) pe_int))) pss_nil)
      (@pss_cons _ _ _ _ _ (ps_if (pt_cmpR op_eq (pe_op op_mod (pe_op op_fdiv (pv 0) pe_int) pe_int) pe_int (nomark _)) (pss_one (ps_ret (pe_op op_sub (pe_op op_mod (pv 0) pe_int) pe_int))) pss_nil)
      (pss_one (ps_ret (pe_ix ix_list (pe_lst (pa_cons pe_int (pa_cons (pe_un un_neg pe_int) (pa_cons pe_int pa_nil)))) (pe_op op_mod (pv 0) pe_int) (fun _ _ => rfl)))))), ?_⟩
  walk_at "r"
  refine ite2 (fun cc => ?_) (fun cc => ?_)
  · walk_at "r"
    exact q _ (by omega) (by omega) H (Same.refl H)
  · walk_at "r"
    refine ite2 (fun cc => ?_) (fun cc => ?_)
    · walk_at "r"
      exact q _ (by omega) (by omega) H (Same.refl H)
    · refine ⟨_, rfl, Nat.le_of_ble_eq_true rfl, fun p hp => ?_⟩
      walk_at "r"
      have e3 : c % 3 = 0 ∨ c % 3 = 1 ∨ c % 3 = 2 := by omega
      rcases e3 with e | e | e
      · exact ⟨p, [.int 1000, .int (-1000), .int 0], c % 3, .int 1000, rfl, rfl, SqL.of upd_same, by rw [e]; rfl, q _ (by omega) (by omega) _ (same_new hp _)⟩
      · exact ⟨p, [.int 1000, .int (-1000), .int 0], c % 3, .int (-1000), rfl, rfl, SqL.of upd_same, by rw [e]; rfl, q _ (by omega) (by omega) _ (same_new hp _)⟩
      · exact ⟨p, [.int 1000, .int (-1000), .int 0], c % 3, .int 0, rfl, rfl, SqL.of upd_same, by rw [e]; rfl, q _ (by omega) (by omega) _ (same_new hp _)⟩

theorem ok_maybe (F : Fun K "_law_maybe" "_law_maybe" s_maybe f fd) : FnOk P w K mg base CX0 (n + 1) f fd ["_law_cell_here", "_law_names"] spMaybe := by
  refine F.ok sc_maybe (fun vs H Q E h => ?_) (fun cdv A outer s H vs Q E hr h => ?_)
  · obtain ⟨c, m, rfl, _⟩ := h
    rfl
  obtain ⟨c, m, rfl, hm, q⟩ := h
  have q0 := q .non (.inl rfl)
  have sc := sc_maybe
  refine ⟨_, (@pss_cons _ _ _ _ _ (ps_if (PW.pt (pw_or (pt_cmpR op_eq (pv 1) pe_int (nomark _)) (pw_or1 (pt_cmpR op_eq (pe_op op_mod (pv 0) pe_int) pe_int (nomark _))))) (pss_one (ps_ret pe_non)) pss_nil)
      (pss_one (ps_ret (pe_op op_mod (pe_op op_fdiv (pv 0) pe_int) (pv 1))))), ?_⟩
  walk_at "r"
  refine ite2 (fun cc => iteT q0) (fun cc => ?_)
  have hm0 : m ≠ 0 := fun e => cc (by rw [e]; rfl)
  walk_at "r"
  refine ite2 (fun cc => q0) (fun cc => ?_)
  walk_at "r"
  exact q _ (.inr ⟨_, Int.emod_nonneg _ hm0, Int.emod_lt_of_pos _ (by omega), rfl⟩)

theorem ok_cell (F : Fun K "_law_cell" "_law_cell" s_cell f fd) (m_len : mg "len" = none) : FnOk P w K mg base CX0 (n + 1) f fd ["_law_script", "_law_k"] (spCell K) := by
  refine F.ok sc_cell (fun vs H Q E h => ?_) (fun cdv A outer s H vs Q E hr h => ?_)
  · obtain ⟨a, ns, k, rfl, _⟩ := h
    rfl
  obtain ⟨a, ns, k, rfl, hS, h63, hk0, hk1, q⟩ := h
  have sc := sc_cell
  refine ⟨_, (@pss_cons _ _ _ _ _ (ps_if (pt_cmpR op_lt (pv 1) (pe_callB call_len_seq rfl m_len PySem.boot_len (pa_cons (pv 0) pa_nil)) (nomark _)) (pss_one (ps_ret (pe_ix ix_list (pv 0) (pv 1) (fun _ _ => rfl)))) pss_nil)
      (@pss_cons _ _ _ _ _ (ps_set (i := 2) sc.nd rfl (Or.inl rfl) (pe_op op_mul pe_int (pe_op op_add (pv 1) pe_int)))
      (@pss_cons _ _ _ _ _ (ps_for PassesOwn.never rfl (pi_list (pe_slice sl_list (pv 0) po_none (po_some pe_int))) (pg_name (i := 3) sc.nd rfl (Or.inl rfl)) (pss_one (ps_set (i := 2) sc.nd rfl (Or.inl rfl) (pe_op op_add (pe_op op_mul (pv 2) pe_int) (pe_op op_mod (pv 3) pe_int)))))
      (@pss_cons _ _ _ _ _ (ps_set (i := 2) sc.nd rfl (Or.inl rfl) (pe_op op_fdiv (pe_op op_mod (pe_op op_mul (pv 2) (pv 2)) pe_int) pe_int))
      (pss_one (ps_ret (pe_op op_mod (pe_op op_mul (pv 2) (pe_op op_add (pe_op op_mod (pv 2) pe_int) pe_int)) pe_int))))))), ?_⟩
  have hl : (ns.map V.int).length = ns.length := List.length_map _
  refine ⟨_, rfl, _, rfl, a, _, rfl, .inl hS, ?_⟩
  walk_at "r"
  refine ite2 (fun cc => ?_) (fun cc => ?_)
  · have c' : k < (((ns.map V.int).length : Nat) : Int) := of_decide_eq_true cc
    rw [hl] at c'
    have hk : k.toNat < ns.length := by omega
    have ek : k = ((k.toNat : Nat) : Int) := by omega
    have e : atI (ns.map V.int) k = some (.int ns[k.toNat]) := by
      have e0 : atI (ns.map V.int) ((k.toNat : Nat) : Int) = some (.int ns[k.toNat]) := atI_nat (by rw [List.getElem?_map, List.getElem?_eq_getElem hk]; rfl)
      rw [← ek] at e0
      exact e0
    exact ⟨_, rfl, _, rfl, a, _, _, _, rfl, rfl, hS, e, q _ H (Same.refl H)⟩
  · walk_at "r"
    refine ⟨a, _, rfl, hS, fun p hp => ?_⟩
    have hx : ∀ (i : Nat) (x : V), (cutV (ns.map V.int) none (some 6))[i]? = some x → ∃ v, x = .int v := fun i x e => by
      have m : x ∈ ns.map V.int := List.mem_of_mem_drop (List.mem_of_mem_take (List.mem_of_getElem? e))
      obtain ⟨v, _, rfl⟩ := List.mem_map.mp m
      exact ⟨v, rfl⟩
    have h6 : (cutV (ns.map V.int) none (some 6)).length ≤ 6 := by
      unfold cutV
      rw [List.length_take]
      have : HT.sIx (ns.map V.int).length (ns.map V.int).length (some 6) ≤ 6 := by
        show HT.sIx _ _ (some ((6 : Nat) : Int)) ≤ 6
        rw [HT.sIx_nat]; omega
      omega
    refine ⟨p, rfl, ⟨_, SqL.of upd_same⟩, for_list (xs := cutV (ns.map V.int) none (some 6)) (fun i σ H' => H' = upd H p (.lst (cutV (ns.map V.int) none (some 6))) ∧ ∃ (far : Int) (y : Option V), σ = [some (.ref a), some (.int k), some (.int far), y] ∧ 0 ≤ far ∧ far ≤ farB i)
      ⟨rfl, _, _, rfl, by omega, by show (7907 : Int) * (k + 3) ≤ 1000000; omega⟩ (fun i σ H' _ h => ?_) (fun i x σ H' ex h => ?_) (fun σ H' h => ?_)⟩
    · obtain ⟨rfl, _⟩ := h
      exact SqL.of upd_same
    · obtain ⟨rfl, far, y, rfl, f0, f1⟩ := h
      obtain ⟨v, rfl⟩ := hx i x ex
      have il : i < 6 := Nat.lt_of_lt_of_le (List.getElem?_eq_some_iff.mp ex).1 h6
      have fb := farB_le (i := i) (by omega)
      walk_at "r"
      refine ⟨_, _, rfl, by omega, ?_⟩
      show far * 37 + v % 999983 ≤ 38 * farB i
      omega
    · obtain ⟨rfl, far, y, rfl, f0, f1⟩ := h
      have fb := farB_le h6
      walk_at "r"
      exact q _ _ (same_new hp _)
end
end K25
set_option Elab.async false
set_option linter.all false
set_option maxRecDepth 100000
set_option maxHeartbeats 4000000
namespace K25
open PySem PySem.Spec PyProof.Rows L2
theorem Same.new {H H' : Hp} {p : Addr} {o : HO} (s : Same H H') (h : H p = none) : Same H (upd H' p o) := fun b u q => by
  rw [upd_ne (ne_of_none q h)]; exact s b u q
theorem Tups.new {H : Hp} {p : Addr} {o : HO} (h : H p = none) : Tups H (upd H p o) := (same_new h o).tups
theorem Tups.lst {H : Hp} {p : Addr} {xs ys : List V} (h : H p = some (.lst xs)) : Tups H (upd H p (.lst ys)) :=
  ⟨fun b zs e => by rw [upd_ne (ne_of e h (by intro z; cases z))]; exact e, fun b o u e => by rw [upd_ne (ne_of e h (by intro z; cases z))]; exact e⟩
theorem none_of_same {H H' : Hp} (s : Same H H') {p : Addr} (h : H' p = none) : H p = none := s.free h
theorem ne_p {H : Hp} {p t : Addr} {o : HO} (h : H p = some o) (ht : H t = none) : p ≠ t := ne_of_none h ht
theorem atI_mod {α : Type} {xs : List α} {c : Int} (h : 0 < xs.length) : ∃ (j : Nat) (v : α), atI xs (c % (xs.length : Int)) = some v ∧ xs[j]? = some v := by
  have h0 : 0 ≤ c % (xs.length : Int) := Int.emod_nonneg _ (by omega)
  have h1 : c % (xs.length : Int) < xs.length := Int.emod_lt_of_pos _ (by omega)
  have hj : (c % (xs.length : Int)).toNat < xs.length := by omega
  have e : c % (xs.length : Int) = (((c % (xs.length : Int)).toNat : Nat) : Int) := by omega
  refine ⟨(c % (xs.length : Int)).toNat, xs[(c % (xs.length : Int)).toNat], ?_, List.getElem?_eq_getElem hj⟩
  have := atI_nat (xs := xs) (j := (c % (xs.length : Int)).toNat) (List.getElem?_eq_getElem hj)
  rw [← e] at this
  exact this
theorem tTrue_ite {σ : L2.St} {H : Hp} {A B : Hp → Prop} (h : A H) : tTrue σ H (fun b H3 => if b = true then A H3 else B H3) := by
  show if true = true then A H else B H
  rw [if_pos rfl]; exact h
theorem small {n : Nat} (h : n ≤ 1000) : n ≤ sizeLine := Nat.le_of_lt (small1000 h)
theorem at0 (v : V) (vs : List V) : atI (v :: vs) 0 = some v := atI_nat (j := 0) rfl
theorem at1 (v u : V) (vs : List V) : atI (v :: u :: vs) 1 = some u := atI_nat (j := 1) rfl
theorem at2 (v u w : V) (vs : List V) : atI (v :: u :: w :: vs) 2 = some w := atI_nat (j := 2) rfl
theorem at3 (v u w z : V) (vs : List V) : atI (v :: u :: w :: z :: vs) 3 = some z := atI_nat (j := 3) rfl
theorem at4 (v u w z y : V) (vs : List V) : atI (v :: u :: w :: z :: y :: vs) 4 = some y := atI_nat (j := 4) rfl
theorem str_t {a b : Str} (h : decide (V.str a = V.str b) = true) : a = b := by have := of_decide_eq_true h; injection this
theorem str_f {a b : Str} (h : ¬ decide (V.str a = V.str b) = true) : a ≠ b := fun e => h (decide_eq_true (by rw [e]))
noncomputable def partsL : List (Str × List Str) := [("set", ["name", "value", "number", "way"]), ("sum", ["name", "name", "value", "way"]), ("len", ["name", "row", "way"]), ("take", ["name", "way"]), ("get", ["name", "row", "value", "number", "way"]), ("put", ["row", "value", "number", "name", "way"]),
  ("tell", ["name", "way"]), ("test", ["value", "value", "number", "way", "way"]), ("ask", ["bounds", "way", "way"]), ("end", [])]
noncomputable def spParts (K : PySem.W.Frag) : Sp := fun vs H Q _ => ExQ Q (fun (v : V) Q => ExQ Q (fun (x : Str) Q => ExQ Q (fun (ds : List D) Q => ExQ Q (fun (ks : List Str) Q => vs = [v] ∧ Is K H (.tup (.str x :: ds)) v ∧ partsL.lookup x = some ks ∧
  ∀ (H' : Hp) (l : Addr) (ps : List V), Same H H' → H' l = some (.lst ps) → H l = none → ps.length = min ks.length ds.length →
    (∀ (j : Nat) (k : Str) (d : D), ks[j]? = some k → ds[j]? = some d → ∃ t v, ps[j]? = some (.ref t) ∧ H' t = some (.tup [.str k, v]) ∧ Is K H' d v) → Q (.ref l) H'))))
noncomputable abbrev s_parts : Stmt := top 4
noncomputable abbrev s_ways : Stmt := top 5
structure Tab (P : Program) (w : World) (K : PySem.W.Frag) (mg : Str → Option Value) (a_PARTS : Addr) : Prop where
  mp : mg "PARTS" = some (.ref a_PARTS)
  kd : ∃ kvs, KD P w K a_PARTS kvs ∧ ∀ (x : Str) (ks : List Str), partsL.lookup x = some ks → ∃ p, kvs.lookup x = some (.ref p) ∧ ∀ H : Hp, SqT K H p (ks.map V.str)
noncomputable def waysD (ks : List Str) (ds : List D) : List D := ((ks.zip ds).filter (fun (p : Str × D) => p.1 == ("way" : Str))).map (·.2)
theorem zip_take {α β : Type} : ∀ (i : Nat) (l : List α) (m : List β), (l.take i).zip (m.take i) = (l.zip m).take i
  | 0, _, _ => by simp
  | i + 1, [], _ => by simp
  | i + 1, _ :: _, [] => by simp
  | i + 1, a :: l, b :: m => by simp [zip_take i l m]
noncomputable def spWays (K : PySem.W.Frag) : Sp := fun vs H Q _ => ExQ Q (fun (v : V) Q => ExQ Q (fun (x : Str) Q => ExQ Q (fun (ds : List D) Q => ExQ Q (fun (ks : List Str) Q => vs = [v] ∧ Is K H (.tup (.str x :: ds)) v ∧ partsL.lookup x = some ks ∧ ds.length ≤ 1000 ∧
  ∀ (H' : Hp) (t : Addr) (xs : List V), Same H H' → H' t = some (.tup xs) → IsL K H' (waysD ks ds) xs → Q (.ref t) H'))))
section
variable {P : Program} {w : World} {K : PySem.W.Frag} {mg : Str → Option Value} {base : Heap} {f : Addr} {fd : FuncData} {n : Nat} {a_PARTS : Addr}
theorem sc_parts : FnScope ["line"] ["line"] (defScope s_parts) := ⟨rfl, rfl, rfl, by decide +kernel, rfl, by decide +kernel, by decide +kernel⟩
theorem sc_ways : FnScope ["line"] ["line"] (defScope s_ways) := ⟨rfl, rfl, rfl, by decide +kernel, rfl, by decide +kernel, by decide +kernel⟩
theorem cut1 (v : V) (vs : List V) : cutV (v :: vs) (some 1) none = vs := by
  unfold cutV
  rw [show HT.sIx (v :: vs).length 0 (some 1) = min 1 (v :: vs).length from HT.sIx_nat _ _ 1, HT.sIx_none]
  simp
theorem ok_parts (F : Fun K "parts" "parts" s_parts f fd) (m_list : mg "list" = none) (m_zip : mg "zip" = none) (T : Tab P w K mg a_PARTS) : FnOk P w K mg base CX0 (n + 1) f fd ["line"] (spParts K) := by
  refine F.ok sc_parts (fun vs H Q E h => ?_) (fun cdv A outer s H vs Q E hr h => ?_)
  · obtain ⟨v, x, ds, ks, rfl, _⟩ := h
    rfl
  obtain ⟨v, x, ds, ks, rfl, hi, hk, q⟩ := h
  have sc := sc_parts
  have m_PARTS := T.mp
  refine ⟨_, (pss_one (ps_ret (pe_listzip rfl rfl m_list rfl m_zip (pa_cons (pe_ix ix_kd (pe_glob rfl m_PARTS (v := .ref a_PARTS) rfl) (pe_ix ix_tup (pv 0) pe_int (fun _ _ => rfl)) (fun _ _ => rfl)) (pa_cons (pe_slice sl_tup (pv 0) (po_some pe_int) po_none) pa_nil))))), ?_⟩
  obtain ⟨a, xs, rfl, hq, il0⟩ := hi.tup_inv
  obtain ⟨v0, vs, rfl, i0, il⟩ := il0.cons_inv
  have e0 := i0.str_inv
  subst e0
  obtain ⟨kvs, kd, kk⟩ := T.kd
  obtain ⟨p, el, hp⟩ := kk x ks hk
  refine ⟨_, rfl, a, _, 0, _, rfl, rfl, hq, at0 _ _, ?_⟩
  refine ⟨a_PARTS, kvs, x, _, rfl, rfl, kd, el, ?_⟩
  refine ⟨_, rfl, _, rfl, a, _, rfl, hq, ?_, fun t ht => ?_⟩
  · rintro ⟨h1, _⟩
    rw [show HT.sIx (V.str x :: vs).length 0 (some 1) = min 1 (V.str x :: vs).length from HT.sIx_nat _ _ 1] at h1
    simp at h1
  · rw [cut1] at *
    have st : Same H (upd H t (.tup vs)) := same_new ht _
    have ln := il.length
    refine ⟨p, t, ks.map V.str, vs, rfl, hp _, SqT.of upd_same, fun H2 l ps s2 e2 n2 l2 h2 => ?_⟩
    refine q H2 l ps (st.trans s2) e2 (none_of_same st n2) (by rw [l2, List.length_map, ln]) fun j k d ek ed => ?_
    obtain ⟨v, ev, iv⟩ := il.get ed
    obtain ⟨t2, et, h3⟩ := h2 j (.str k) v (by rw [List.getElem?_map, ek]; rfl) ev
    exact ⟨t2, v, et, h3, iv.mono (st.trans s2).tups⟩

theorem waysD_take {ks : List Str} {ds : List D} {i : Nat} {k : Str} {d : D} (hk : ks[i]? = some k) (hd : ds[i]? = some d) :
    waysD (ks.take (i + 1)) (ds.take (i + 1)) = waysD (ks.take i) (ds.take i) ++ (if k == ("way" : Str) then [d] else []) := by
  unfold waysD
  rw [zip_take, zip_take, List.take_add_one]
  have e : (ks.zip ds)[i]? = some (k, d) := by
    rw [List.getElem?_zip_eq_some]; exact ⟨hk, hd⟩
  rw [e, List.filter_append, List.map_append]
  congr 1
  show List.map (·.2) (List.filter (fun (p : Str × D) => p.1 == ("way" : Str)) [(k, d)]) = _
  rw [List.filter_cons]
  cases (k == ("way" : Str)) <;> rfl
theorem waysD_all (ks : List Str) (ds : List D) : waysD (ks.take (min ks.length ds.length)) (ds.take (min ks.length ds.length)) = waysD ks ds := by
  unfold waysD
  rw [zip_take]
  rw [List.take_of_length_le (by rw [List.length_zip]; exact Nat.le_refl _)]

theorem ok_ways (F : Fun K "ways" "ways" s_ways f fd) (m_tuple : mg "tuple" = none) (c_parts : Cl P w K mg base "parts" n ["line"] (spParts K)) : FnOk P w K mg base CX0 (n + 1) f fd ["line"] (spWays K) := by
  refine F.ok sc_ways (fun vs H Q E h => ?_) (fun cdv A outer s H vs Q E hr h => ?_)
  · obtain ⟨v, x, ds, ks, rfl, _⟩ := h
    rfl
  obtain ⟨v, x, ds, ks, rfl, hi, hk, h1000, q⟩ := h
  have sc := sc_ways
  refine ⟨_, (pss_one (ps_ret (pe_callTy call_tuple_of rfl m_tuple PyProof.Rows.boot_tuple (pa_cons (pe_comp ["kind", "part"] rfl (cmp_ok (N := ["line"]) (so := defScope s_ways) rfl rfl (by decide +kernel)) (pi_list (pe_cl c_parts hr rfl (pa_cons (pv 0) pa_nil))) (fun _ _ _ _ _ _ => (pg_tupK (K := K) (n := 2) rfl rfl (pgs_cons (pg_name (i := 0) (show List.Nodup (α := Str) ["kind", "part", "line"] by decide +kernel) rfl (Or.inl rfl) (Or.inr rfl)) (pgs_cons (pg_name (i := 1) (show List.Nodup (α := Str) ["kind", "part", "line"] by decide +kernel) rfl (Or.inl rfl) (Or.inr rfl)) pgs_nil)))) (fun _ _ _ _ _ _ => (pifs_one (pt_cmpR op_eq (pv 0) pe_str (nomark _)))) (fun _ _ _ _ _ _ => (pv 1))) pa_nil)))), ?_⟩
  refine ⟨_, rfl, v, x, ds, ks, rfl, hi, hk, fun H1 l ps s1 el nl ln hp => ⟨l, rfl, ⟨_, SqL.of el⟩, fun p np => ?_⟩⟩
  refine comp_list (xs := ps) (fun i H' => Same H1 H' ∧ ∃ acc, H' p = some (.lst acc) ∧ acc.length ≤ i ∧ IsL K H' (waysD (ks.take i) (ds.take i)) acc) ⟨same_new np _, [], upd_same, Nat.le_refl _, isl_nil⟩ (fun i H' _ h => SqL.of (h.1 _ _ el)) (fun i y H' ey h => ?_) (fun H' h => ?_)
  · obtain ⟨sm, acc, ea, la, il⟩ := h
    have hi : i < ps.length := (List.getElem?_eq_some_iff.mp ey).1
    have hk' : i < ks.length := by omega
    have hd' : i < ds.length := by omega
    obtain ⟨t, v, et, ht, iv⟩ := hp i _ _ (List.getElem?_eq_getElem hk') (List.getElem?_eq_getElem hd')
    rw [et] at ey
    cases ey
    refine ⟨t, _, rfl, SqT.of (sm _ _ ht), rfl, _, _, rfl, _, _, rfl, rfl, ⟨[some (.str ks[i]), some v], rfl, rfl⟩, ?_⟩
    refine ⟨_, rfl, rfl, _, rfl, ite2 (fun cc => ?_) (fun cc => ?_)⟩
    · have e := str_t cc
      refine ⟨_, rfl, acc, ea, small1000 (by omega), Same.new sm np, acc ++ [v], upd_same, by rw [List.length_append, List.length_singleton]; omega, ?_⟩
      rw [waysD_take (List.getElem?_eq_getElem hk') (List.getElem?_eq_getElem hd'), e]
      exact IsL.append (il.mono (Tups.lst ea)) (isl_cons ((iv.mono sm.tups).mono (Tups.lst ea)) isl_nil)
    · have e := str_f cc
      refine ⟨sm, acc, ea, by omega, ?_⟩
      rw [waysD_take (List.getElem?_eq_getElem hk') (List.getElem?_eq_getElem hd'), show (ks[i] == ("way" : Str)) = false from by simpa using e]
      simpa using il
  · obtain ⟨sm, acc, ea, la, il⟩ := h
    rw [ln, waysD_all] at il
    refine ⟨p, acc, rfl, .inl ⟨SqL.of ea, fun t nt => ?_⟩⟩
    exact q _ t acc (s1.trans (sm.trans (same_new nt _))) upd_same (il.mono (Tups.new nt))

noncomputable abbrev s_is_ask : Stmt := top 9
theorem sc_is_ask : FnScope ["line"] ["line"] (defScope s_is_ask) := ⟨rfl, rfl, rfl, by decide +kernel, rfl, by decide +kernel, by decide +kernel⟩
noncomputable def spIsAsk (K : PySem.W.Frag) : Sp := fun vs H Q _ => ExQ Q (fun (v : V) Q => ExQ Q (fun (x : Str) Q => ExQ Q (fun (ds : List D) Q => vs = [v] ∧ Is K H (.tup (.str x :: ds)) v ∧ Q (.bl (decide (x = ("ask" : Str)))) H)))
theorem ok_is_ask (F : Fun K "is_ask" "is_ask" s_is_ask f fd) : FnOk P w K mg base CX0 (n + 1) f fd ["line"] (spIsAsk K) := by
  refine F.ok sc_is_ask (fun vs H Q E h => ?_) (fun cdv A outer s H vs Q E hr h => ?_)
  · obtain ⟨v, x, ds, rfl, _⟩ := h
    rfl
  obtain ⟨v, x, ds, rfl, hi, q⟩ := h
  have sc := sc_is_ask
  refine ⟨_, (pss_one (ps_ret (pe_cmpR op_eq (pe_ix ix_tup (pv 0) pe_int (fun _ _ => rfl)) pe_str (nomark _)))), ?_⟩
  obtain ⟨a, xs, rfl, hq, il0⟩ := hi.tup_inv
  obtain ⟨v0, vs, rfl, i0, il⟩ := il0.cons_inv
  cases i0.str_inv
  refine ⟨_, rfl, a, _, 0, _, rfl, rfl, hq, at0 _ _, rfl, ?_⟩
  rw [show decide (V.str x = V.str "ask") = decide (x = ("ask" : Str)) from decide_eq_decide.mpr ⟨fun z => V.str.inj z, fun z => by rw [z]⟩]
  exact q
end
end K25
set_option Elab.async false
set_option linter.all false
set_option maxRecDepth 100000
set_option maxHeartbeats 4000000
namespace K25
open PySem PySem.Spec PyProof.Rows L2
structure WC (K : PySem.W.Frag) (C : Addr) : Prop where
  cl : Cls K C
  na_lines : NoAttr K C "lines"
  na_rows : NoAttr K C "rows"
  na_coming : NoAttr K C "coming"
  na_budget : NoAttr K C "budget"
  na_at : NoAttr K C "at"
  na_numbers : NoAttr K C "numbers"
  na_heard : NoAttr K C "heard"
  na_done : NoAttr K C "done"
  na_ended : NoAttr K C "ended"
noncomputable def flds (al ar ac : Addr) (b : Int) (at_ : Int) (an ah : Addr) (dn : Int) (en : V) : List (Str × V) :=
  [("lines", .ref al), ("rows", .ref ar), ("coming", .ref ac), ("budget", .int b), ("at", .int at_), ("numbers", .ref an), ("heard", .ref ah), ("done", .int dn), ("ended", en)]
structure WA where
  x : Addr
  dx : Addr
  al : Addr
  ar : Addr
  ac : Addr
  an : Addr
  ah : Addr
  rs : List Addr
structure WS where
  ds : List D
  rows : List (List Int)
  coming : List Int
  budget : Int
  at_ : Nat
  nums : List Int
  heard : List Int
  done : Int
  ended : Option (Str × Nat)
noncomputable def EndIs (H : Hp) (e : Option (Str × Nat)) (en : V) : Prop := match e with
  | none => en = .non
  | some (z, i) => ∃ te, en = .ref te ∧ H te = some (.tup [.str z, .int (i : Int)])
noncomputable def intsV (l : List Int) : List V := l.map V.int
structure WalkAt (K : PySem.W.Frag) (H : Hp) (C : Addr) (A : WA) (w : WS) : Prop where
  ins : ∃ en, H A.x = some (.ins C A.dx (flds A.al A.ar A.ac w.budget w.at_ A.an A.ah w.done en)) ∧ EndIs H w.ended en
  lines : ∃ xs, H A.al = some (.lst xs) ∧ IsL K H w.ds xs
  rows : H A.ar = some (.lst (A.rs.map V.ref))
  rlen : A.rs.length = w.rows.length
  row : ∀ (i : Nat) a r, A.rs[i]? = some a → w.rows[i]? = some r → H a = some (.lst (intsV r))
  coming : H A.ac = some (.lst (intsV w.coming))
  nums : H A.an = some (.lst (intsV w.nums))
  heard : H A.ah = some (.lst (intsV w.heard))
  nd : (A.al :: A.ar :: A.ac :: A.an :: A.ah :: A.rs).Nodup
noncomputable def WA.all (A : WA) : List Addr := A.x :: A.al :: A.ar :: A.ac :: A.an :: A.ah :: A.rs
noncomputable def But (S : List Addr) (H H' : Hp) : Prop := ∀ b o, H b = some o → ¬ b ∈ S → H' b = some o
theorem But.refl (S : List Addr) (H : Hp) : But S H H := fun _ _ e _ => e
theorem But.trans {S : List Addr} {H H1 H2 : Hp} (a : But S H H1) (b : But S H1 H2) : But S H H2 := fun c o e n => b c o (a c o e n) n
theorem But.of_same {S : List Addr} {H H' : Hp} (s : Same H H') : But S H H' := fun b o e _ => s b o e
theorem But.upd {S : List Addr} {H : Hp} {p : Addr} {o : HO} (h : p ∈ S) : But S H (L2.upd H p o) := fun b u e n => by rw [upd_ne (fun (z : b = p) => n (by rw [z]; exact h))]; exact e
section
variable {K : PySem.W.Frag} {H H' : Hp} {C : Addr} {A : WA} {w : WS}
theorem WalkAt.keep (h : WalkAt K H C A w) (hk : ∀ b o, b ∈ A.all → H b = some o → H' b = some o) (ht : Tups H H') : WalkAt K H' C A w := by
  obtain ⟨en, e1, e2⟩ := h.ins
  obtain ⟨xs, l1, l2⟩ := h.lines
  refine ⟨⟨en, hk _ _ (by simp [WA.all]) e1, ?_⟩, ⟨xs, hk _ _ (by simp [WA.all]) l1, l2.mono ht⟩, hk _ _ (by simp [WA.all]) h.rows, h.rlen, fun i a r e f => hk _ _ (by simp [WA.all, List.mem_of_getElem? e]) (h.row i a r e f), hk _ _ (by simp [WA.all]) h.coming, hk _ _ (by simp [WA.all]) h.nums, hk _ _ (by simp [WA.all]) h.heard, h.nd⟩
  unfold EndIs at e2 ⊢
  split at e2
  · exact e2
  · obtain ⟨te, q1, q2⟩ := e2
    exact ⟨te, q1, ht.1 _ _ q2⟩
theorem WalkAt.same (h : WalkAt K H C A w) (s : Same H H') : WalkAt K H' C A w := h.keep (fun b o _ e => s b o e) s.tups
theorem ne_al (h : WalkAt K H C A w) {p : Addr} {o : HO} (e : H p = some o) (n : ∀ xs, o ≠ .lst xs) : p ≠ A.al ∧ p ≠ A.ar ∧ p ≠ A.ac ∧ p ≠ A.an ∧ p ≠ A.ah ∧ ∀ a ∈ A.rs, p ≠ a := by
  obtain ⟨xs, l1, _⟩ := h.lines
  have go : ∀ {q : Addr} {ys : List V}, H q = some (.lst ys) → p ≠ q := fun f z => by rw [z] at e; rw [e] at f; exact n _ (Option.some.inj f)
  refine ⟨go l1, go h.rows, go h.coming, go h.nums, go h.heard, fun a ha => ?_⟩
  obtain ⟨i, hi⟩ := List.mem_iff_getElem?.mp ha
  have hl : i < w.rows.length := by have := (List.getElem?_eq_some_iff.mp hi).1; have := h.rlen; omega
  exact go (h.row i a _ hi (List.getElem?_eq_getElem hl))
theorem tups_ins {p dx : Addr} {fs fs' : List (Str × V)} (h : H p = some (.ins C dx fs)) : Tups H (upd H p (.ins C dx fs')) :=
  ⟨fun b zs e => by rw [upd_ne (ne_of e h (by intro z; cases z))]; exact e, fun b o u e => by rw [upd_ne (ne_of e h (by intro z; cases z))]; exact e⟩
theorem WalkAt.setF (h : WalkAt K H C A w) {at2 : Nat} {dn : Int} {en : V} {e2 : Option (Str × Nat)} (he : EndIs H e2 en) :
    WalkAt K (upd H A.x (.ins C A.dx (flds A.al A.ar A.ac w.budget at2 A.an A.ah dn en))) C A { w with at_ := at2, done := dn, ended := e2 } := by
  obtain ⟨en0, e1, _⟩ := h.ins
  have tp := tups_ins (fs' := flds A.al A.ar A.ac w.budget at2 A.an A.ah dn en) e1
  obtain ⟨n1, n2, n3, n4, n5, n6⟩ := ne_al h e1 (fun xs z => by cases z)
  obtain ⟨xs, l1, l2⟩ := h.lines
  refine ⟨⟨en, upd_same, ?_⟩, ⟨xs, by rw [upd_ne n1.symm]; exact l1, l2.mono tp⟩, by rw [upd_ne n2.symm]; exact h.rows, h.rlen, fun i a r e f => by rw [upd_ne (n6 a (List.mem_of_getElem? e)).symm]; exact h.row i a r e f, by rw [upd_ne n3.symm]; exact h.coming, by rw [upd_ne n4.symm]; exact h.nums, by rw [upd_ne n5.symm]; exact h.heard, h.nd⟩
  unfold EndIs at he ⊢
  split at he
  · exact he
  · obtain ⟨te, q1, q2⟩ := he
    exact ⟨te, q1, tp.1 _ _ q2⟩
theorem nd5 {a b c d e : Addr} {l : List Addr} (h : (a :: b :: c :: d :: e :: l).Nodup) : a ≠ b ∧ a ≠ c ∧ a ≠ d ∧ a ≠ e ∧ b ≠ c ∧ b ≠ d ∧ b ≠ e ∧ c ≠ d ∧ c ≠ e ∧ d ≠ e ∧ (∀ z ∈ l, a ≠ z ∧ b ≠ z ∧ c ≠ z ∧ d ≠ z ∧ e ≠ z) := by
  simp only [List.nodup_cons, List.mem_cons, not_or] at h
  obtain ⟨⟨h1, h2, h3, h4, h5⟩, ⟨h6, h7, h8, h9⟩, ⟨h10, h11, h12⟩, ⟨h13, h14⟩, h15, _⟩ := h
  exact ⟨h1, h2, h3, h4, h6, h7, h8, h10, h11, h13, fun z hz => ⟨fun q => h5 (q ▸ hz), fun q => h9 (q ▸ hz), fun q => h12 (q ▸ hz), fun q => h14 (q ▸ hz), fun q => h15 (q ▸ hz)⟩⟩
theorem x_ne (h : WalkAt K H C A w) {p : Addr} {ys : List V} (e : H p = some (.lst ys)) : A.x ≠ p := by
  obtain ⟨en0, e1, _⟩ := h.ins
  exact ne_of e1 e (by intro z; cases z)
theorem end_mono {p : Addr} {ys zs : List V} (e : H p = some (.lst ys)) {q : Option (Str × Nat)} {en : V} (h : EndIs H q en) : EndIs (upd H p (.lst zs)) q en := by
  unfold EndIs at h ⊢
  split at h
  · exact h
  · obtain ⟨te, q1, q2⟩ := h
    exact ⟨te, q1, (Tups.lst e).1 _ _ q2⟩
theorem WalkAt.setNums (h : WalkAt K H C A w) (l : List Int) : WalkAt K (upd H A.an (.lst (intsV l))) C A { w with nums := l } := by
  obtain ⟨en, e1, e2⟩ := h.ins
  obtain ⟨xs, l1, l2⟩ := h.lines
  obtain ⟨_, _, n1, _, _, n2, _, n3, _, n4, n5⟩ := nd5 h.nd
  exact ⟨⟨en, by rw [upd_ne (x_ne h h.nums)]; exact e1, end_mono h.nums e2⟩, ⟨xs, by rw [upd_ne n1]; exact l1, l2.mono (Tups.lst h.nums)⟩, by rw [upd_ne n2]; exact h.rows, h.rlen, fun i a r e f => by rw [upd_ne (n5 a (List.mem_of_getElem? e)).2.2.2.1.symm]; exact h.row i a r e f, by rw [upd_ne n3]; exact h.coming, upd_same, by rw [upd_ne n4.symm]; exact h.heard, h.nd⟩
theorem WalkAt.setComing (h : WalkAt K H C A w) (l : List Int) : WalkAt K (upd H A.ac (.lst (intsV l))) C A { w with coming := l } := by
  obtain ⟨en, e1, e2⟩ := h.ins
  obtain ⟨xs, l1, l2⟩ := h.lines
  obtain ⟨_, n1, _, _, n2, _, _, n3, n4, _, n5⟩ := nd5 h.nd
  exact ⟨⟨en, by rw [upd_ne (x_ne h h.coming)]; exact e1, end_mono h.coming e2⟩, ⟨xs, by rw [upd_ne n1]; exact l1, l2.mono (Tups.lst h.coming)⟩, by rw [upd_ne n2]; exact h.rows, h.rlen, fun i a r e f => by rw [upd_ne (n5 a (List.mem_of_getElem? e)).2.2.1.symm]; exact h.row i a r e f, upd_same, by rw [upd_ne n3.symm]; exact h.nums, by rw [upd_ne n4.symm]; exact h.heard, h.nd⟩
theorem WalkAt.setHeard (h : WalkAt K H C A w) (l : List Int) : WalkAt K (upd H A.ah (.lst (intsV l))) C A { w with heard := l } := by
  obtain ⟨en, e1, e2⟩ := h.ins
  obtain ⟨xs, l1, l2⟩ := h.lines
  obtain ⟨_, _, _, n1, _, _, n2, _, n3, n4, n5⟩ := nd5 h.nd
  exact ⟨⟨en, by rw [upd_ne (x_ne h h.heard)]; exact e1, end_mono h.heard e2⟩, ⟨xs, by rw [upd_ne n1]; exact l1, l2.mono (Tups.lst h.heard)⟩, by rw [upd_ne n2]; exact h.rows, h.rlen, fun i a r e f => by rw [upd_ne (n5 a (List.mem_of_getElem? e)).2.2.2.2.symm]; exact h.row i a r e f, by rw [upd_ne n3]; exact h.coming, by rw [upd_ne n4]; exact h.nums, upd_same, h.nd⟩
end
inductive Deed where
  | set (x : Nat) (y : Option Nat) (c : Int)
  | sum (x z : Nat) (y : Option Nat)
  | len (x r : Nat)
  | take (x : Nat)
  | tell (x : Nat)
  | get (x r : Nat) (y : Option Nat) (c : Int)
  | put (r : Nat) (y : Option Nat) (c : Int) (z : Nat)
noncomputable def optD : Option Nat → D
  | none => .non
  | some i => .int (i : Int)
noncomputable def optV : Option Nat → V
  | none => .non
  | some i => .int (i : Int)
noncomputable def Deed.word : Deed → Str
  | .set .. => "set" | .sum .. => "sum" | .len .. => "len" | .take .. => "take" | .tell .. => "tell" | .get .. => "get" | .put .. => "put"
noncomputable def Deed.args : Deed → List D
  | .set x y c => [.int (x : Int), optD y, .int c]
  | .sum x z y => [.int (x : Int), .int (z : Int), optD y]
  | .len x r => [.int (x : Int), .int (r : Int)]
  | .take x => [.int (x : Int)]
  | .tell x => [.int (x : Int)]
  | .get x r y c => [.int (x : Int), .int (r : Int), optD y, .int c]
  | .put r y c z => [.int (r : Int), optD y, .int c, .int (z : Int)]
noncomputable def Deed.line (d : Deed) (k : Nat) : D := .tup (.str d.word :: (d.args ++ [.int (k : Int)]))
noncomputable def OptOk (n : Nat) : Option Nat → Prop
  | none => True
  | some i => i < n
noncomputable def Deed.Ok (nm rw : Nat) : Deed → Prop
  | .set x y _ => x < nm ∧ OptOk nm y
  | .sum x z y => x < nm ∧ z < nm ∧ OptOk nm y
  | .len x r => x < nm ∧ r < rw
  | .take x => x < nm
  | .tell x => x < nm
  | .get x r y _ => x < nm ∧ r < rw ∧ OptOk nm y
  | .put r y _ z => r < rw ∧ OptOk nm y ∧ z < nm
noncomputable def worth (nums : List Int) : Option Nat → Int
  | none => 0
  | some i => nums[i]?.getD 0
structure Mem where
  nums : List Int
  coming : List Int
  heard : List Int
noncomputable def Deed.slot : Deed → Option (Nat × Option Nat × Int)
  | .get _ r y c => some (r, y, c)
  | .put r y c _ => some (r, y, c)
  | _ => none
noncomputable def lookAt (nums : List Int) (rows : List (List Int)) (s : Nat × Option Nat × Int) : Option Str :=
  if worth nums s.2.1 + s.2.2 < 0 then some "low" else if ((rows[s.1]?.getD []).length : Int) ≤ worth nums s.2.1 + s.2.2 then some "high" else none
noncomputable def Deed.look (nums : List Int) (rows : List (List Int)) (d : Deed) : Option Str := match d.slot with
  | some s => lookAt nums rows s
  | none => none
noncomputable def Deed.run (rows : List (List Int)) (m : Mem) : Deed → Mem
  | .set x y c => { m with nums := m.nums.set x (worth m.nums y + c) }
  | .sum x z y => { m with nums := m.nums.set x (worth m.nums (some z) + worth m.nums y) }
  | .len x r => { m with nums := m.nums.set x ((rows[r]?.getD []).length : Int) }
  | .take x => { m with nums := m.nums.set x (m.coming.headD 0), coming := m.coming.tail }
  | .tell x => { m with heard := m.heard ++ [worth m.nums (some x)] }
  | .get x r y c => { m with nums := m.nums.set x ((rows[r]?.getD [])[(worth m.nums y + c).toNat]?.getD 0) }
  | .put _ _ _ _ => m
noncomputable def Deed.rows (rows : List (List Int)) (m : Mem) : Deed → List (List Int)
  | .put r y c z => rows.set r ((rows[r]?.getD []).set (worth m.nums y + c).toNat (worth m.nums (some z)))
  | _ => rows
noncomputable def WS.mem (w : WS) : Mem := ⟨w.nums, w.coming, w.heard⟩
noncomputable def WS.setMem (w : WS) (m : Mem) : WS := { w with nums := m.nums, coming := m.coming, heard := m.heard }
section
variable {K : PySem.W.Frag} {H H' : Hp} {C : Addr} {A : WA} {w : WS}
theorem WalkAt.setRow (h : WalkAt K H C A w) {r : Nat} {a : Addr} {l0 : List Int} (ea : A.rs[r]? = some a) (el : w.rows[r]? = some l0) (l : List Int) : WalkAt K (upd H a (.lst (intsV l))) C A { w with rows := w.rows.set r l } := by
  obtain ⟨en, e1, e2⟩ := h.ins
  obtain ⟨xs, l1, l2⟩ := h.lines
  have ho := h.row r a l0 ea el
  have ham := List.mem_of_getElem? ea
  obtain ⟨_, _, _, _, _, _, _, _, _, _, n5⟩ := nd5 h.nd
  have nda : (A.rs).Nodup := by have := h.nd; simp only [List.nodup_cons] at this; exact this.2.2.2.2.2
  refine ⟨⟨en, by rw [upd_ne (x_ne h ho)]; exact e1, end_mono ho e2⟩, ⟨xs, by rw [upd_ne (n5 a ham).1]; exact l1, l2.mono (Tups.lst ho)⟩, by rw [upd_ne (n5 a ham).2.1]; exact h.rows, by rw [h.rlen, List.length_set], fun i b q e g => ?_, by rw [upd_ne (n5 a ham).2.2.1]; exact h.coming, by rw [upd_ne (n5 a ham).2.2.2.1]; exact h.nums, by rw [upd_ne (n5 a ham).2.2.2.2]; exact h.heard, h.nd⟩
  by_cases hi : i = r
  · subst hi
    rw [ea] at e; cases e
    rw [List.getElem?_set_self (List.getElem?_eq_some_iff.mp el).1] at g
    cases g
    exact upd_same
  · rw [List.getElem?_set_ne (fun z => hi z.symm)] at g
    have hne : b ≠ a := fun z => by
      rw [z] at e
      exact hi ((List.getElem?_inj (List.getElem?_eq_some_iff.mp e).1 nda).mp (e.trans ea.symm))
    rw [upd_ne hne]
    exact h.row i b q e g
end
end K25
set_option Elab.async false
set_option linter.all false
set_option maxRecDepth 100000
set_option maxHeartbeats 4000000
namespace K25
open PySem PySem.Spec PyProof.Rows L2
noncomputable abbrev s_gives : Stmt := top 6
noncomputable abbrev s_is_place : Stmt := top 7
noncomputable abbrev s_Walk_worth : Stmt := (inClass (top 11) 13)
noncomputable abbrev s_Walk_which : Stmt := (inClass (top 11) 10)
noncomputable abbrev s_Walk_go_on : Stmt := (inClass (top 11) 9)
noncomputable abbrev s_Walk_result : Stmt := (inClass (top 11) 8)
noncomputable abbrev s_Walk_do : Stmt := (inClass (top 11) 7)
noncomputable abbrev s_place_of : Stmt := top 8
noncomputable abbrev s_Walk_row : Stmt := (inClass (top 11) 14)
noncomputable abbrev s_Walk_place : Stmt := (inClass (top 11) 15)
noncomputable abbrev s_Walk_failed_look : Stmt := (inClass (top 11) 6)
noncomputable abbrev s_Walk_is_so : Stmt := (inClass (top 11) 11)
noncomputable abbrev s_Walk_node_worth : Stmt := (inClass (top 11) 12)
theorem sc_place_of : FnScope ["line"] ["line"] (defScope s_place_of) := ⟨rfl, rfl, rfl, by decide +kernel, rfl, by decide +kernel, by decide +kernel⟩
theorem sc_Walk_row : FnScope ["self", "line"] ["self", "line"] (defScope s_Walk_row) := ⟨rfl, rfl, rfl, by decide +kernel, rfl, by decide +kernel, by decide +kernel⟩
theorem sc_Walk_place : FnScope ["self", "line"] ["self", "line"] (defScope s_Walk_place) := ⟨rfl, rfl, rfl, by decide +kernel, rfl, by decide +kernel, by decide +kernel⟩
theorem sc_Walk_failed_look : FnScope ["self", "line", "place"] ["self", "line"] (defScope s_Walk_failed_look) := ⟨rfl, rfl, rfl, by decide +kernel, rfl, by decide +kernel, by decide +kernel⟩
theorem sc_Walk_is_so : FnScope ["self", "bound"] ["self", "bound"] (defScope s_Walk_is_so) := ⟨rfl, rfl, rfl, by decide +kernel, rfl, by decide +kernel, by decide +kernel⟩
theorem sc_Walk_node_worth : FnScope ["self", "node"] ["self", "node"] (defScope s_Walk_node_worth) := ⟨rfl, rfl, rfl, by decide +kernel, rfl, by decide +kernel, by decide +kernel⟩
theorem sc_gives : FnScope ["line"] ["line"] (defScope s_gives) := ⟨rfl, rfl, rfl, by decide +kernel, rfl, by decide +kernel, by decide +kernel⟩
theorem sc_is_place : FnScope ["line"] ["line"] (defScope s_is_place) := ⟨rfl, rfl, rfl, by decide +kernel, rfl, by decide +kernel, by decide +kernel⟩
theorem sc_Walk_worth : FnScope ["self", "name"] ["self", "name"] (defScope s_Walk_worth) := ⟨rfl, rfl, rfl, by decide +kernel, rfl, by decide +kernel, by decide +kernel⟩
theorem sc_Walk_which : FnScope ["self", "line"] ["self", "line"] (defScope s_Walk_which) := ⟨rfl, rfl, rfl, by decide +kernel, rfl, by decide +kernel, by decide +kernel⟩
theorem sc_Walk_go_on : FnScope ["self", "line"] ["self", "line"] (defScope s_Walk_go_on) := ⟨rfl, rfl, rfl, by decide +kernel, rfl, by decide +kernel, by decide +kernel⟩
theorem sc_Walk_result : FnScope ["self", "line", "row"] ["self", "line"] (defScope s_Walk_result) := ⟨rfl, rfl, rfl, by decide +kernel, rfl, by decide +kernel, by decide +kernel⟩
theorem sc_Walk_do : FnScope ["self", "line", "name", "row"] ["self", "line"] (defScope s_Walk_do) := ⟨rfl, rfl, rfl, by decide +kernel, rfl, by decide +kernel, by decide +kernel⟩
noncomputable def givingL : List Str := ["set", "sum", "len", "take", "get"]
noncomputable def placingL : List Str := ["get", "put"]
theorem flat_strs (l : List Str) : (l.map V.str).all flatV = true := by
  rw [List.all_eq_true]
  intro v hv
  obtain ⟨x, _, rfl⟩ := List.mem_map.mp hv
  rfl
structure TabG (K : PySem.W.Frag) (mg : Str → Option Value) (a_GIVING a_PLACING : Addr) : Prop where
  mv : mg "GIVING" = some (.ref a_GIVING)
  gv : ∀ H : Hp, SqT K H a_GIVING (givingL.map V.str)
  mp : mg "PLACING" = some (.ref a_PLACING)
  pl : ∀ H : Hp, SqT K H a_PLACING (placingL.map V.str)
inductive Nd where
  | zero
  | name (x : Nat)
  | len (r : Nat)
noncomputable def Nd.word : Nd → Str
  | .zero => "zero" | .name _ => "name" | .len _ => "len"
noncomputable def Nd.args : Nd → List D
  | .zero => [] | .name x => [.int (x : Int), .int 0] | .len r => [.int (r : Int)]
noncomputable def Nd.D (q : Nd) : D := .tup (.str q.word :: q.args)
noncomputable def Nd.Ok (nm rw : Nat) : Nd → Prop
  | .zero => True | .name x => x < nm | .len r => r < rw
noncomputable def Nd.val (nums : List Int) (rows : List (List Int)) : Nd → Int
  | .zero => 0 | .name x => worth nums (some x) | .len r => ((rows[r]?.getD []).length : Int)
structure Bd where
  a : Nd
  b : Nd
  c : Int
noncomputable def Bd.D (q : Bd) : D := .tup [q.a.D, q.b.D, .int q.c]
noncomputable def Bd.Ok (nm rw : Nat) (q : Bd) : Prop := q.a.Ok nm rw ∧ q.b.Ok nm rw
noncomputable def Bd.so (nums : List Int) (rows : List (List Int)) (q : Bd) : Bool := decide (q.a.val nums rows - q.b.val nums rows ≤ q.c)
inductive Ln where
  | deed (d : Deed) (k : Nat)
  | test (y w : Option Nat) (c : Int) (k m : Nat)
  | ask (bs : List Bd) (k m : Nat)
  | stop
noncomputable def Ln.word : Ln → Str
  | .deed d _ => d.word | .test .. => "test" | .ask .. => "ask" | .stop => "end"
noncomputable def Ln.args : Ln → List D
  | .deed d k => d.args ++ [.int (k : Int)]
  | .test y w c k m => [optD y, optD w, .int c, .int (k : Int), .int (m : Int)]
  | .ask bs k m => [.tup (bs.map Bd.D), .int (k : Int), .int (m : Int)]
  | .stop => []
noncomputable def Ln.D (l : Ln) : D := .tup (.str l.word :: l.args)
noncomputable def Ln.Ok (nm rw nl : Nat) : Ln → Prop
  | .deed d k => d.Ok nm rw ∧ k < nl
  | .test y w _ k m => OptOk nm y ∧ OptOk nm w ∧ k < nl ∧ m < nl
  | .ask bs k m => (∀ q ∈ bs, q.Ok nm rw) ∧ bs.length ≤ 100 ∧ k < nl ∧ m < nl
  | .stop => True
noncomputable def Ln.bit (nums : List Int) (rows : List (List Int)) : Ln → Bool
  | .test y w c _ _ => !decide (worth nums y - worth nums w ≤ c)
  | .ask bs _ _ => !bs.all (Bd.so nums rows)
  | _ => false
noncomputable def Ln.next (nums : List Int) (rows : List (List Int)) (l : Ln) : Nat := match l with
  | .deed _ k => k
  | .test _ _ _ k m => if l.bit nums rows then m else k
  | .ask _ k m => if l.bit nums rows then m else k
  | .stop => 0
noncomputable def Deed.name? : Deed → V
  | .set x _ _ => .int (x : Int) | .sum x _ _ => .int (x : Int) | .len x _ => .int (x : Int) | .take x => .int (x : Int) | .tell _ => .non | .get x _ _ _ => .int (x : Int) | .put .. => .non
noncomputable def Ln.gives : Ln → V
  | .deed d _ => d.name?
  | _ => .non
noncomputable def Ln.isPlace : Ln → Bool
  | .deed d _ => d.slot.isSome
  | _ => false
noncomputable def spGives (K : PySem.W.Frag) : Sp := fun vs H Q _ => ExQ Q (fun (l : Ln) Q => ExQ Q (fun (v : V) Q => vs = [v] ∧ Is K H l.D v ∧ Q l.gives H))
noncomputable def spPlace (K : PySem.W.Frag) : Sp := fun vs H Q _ => ExQ Q (fun (l : Ln) Q => ExQ Q (fun (v : V) Q => vs = [v] ∧ Is K H l.D v ∧ Q (.bl l.isPlace) H))
noncomputable def spWorth (K : PySem.W.Frag) (C : Addr) : Sp := fun vs H Q _ => ExQ Q (fun (A : WA) Q => ExQ Q (fun (w : WS) Q => ExQ Q (fun (y : Option Nat) Q => vs = [.ref A.x, optV y] ∧ WalkAt K H C A w ∧ OptOk w.nums.length y ∧ Q (.int (worth w.nums y)) H)))
noncomputable def spNodeWorth (K : PySem.W.Frag) (C : Addr) : Sp := fun vs H Q _ => ExQ Q (fun (A : WA) Q => ExQ Q (fun (w : WS) Q => ExQ Q (fun (q : Nd) Q => ExQ Q (fun (v : V) Q => vs = [.ref A.x, v] ∧ WalkAt K H C A w ∧ Is K H q.D v ∧ q.Ok w.nums.length w.rows.length ∧ Q (.int (q.val w.nums w.rows)) H))))
noncomputable def spIsSo (K : PySem.W.Frag) (C : Addr) : Sp := fun vs H Q _ => ExQ Q (fun (A : WA) Q => ExQ Q (fun (w : WS) Q => ExQ Q (fun (q : Bd) Q => ExQ Q (fun (v : V) Q => vs = [.ref A.x, v] ∧ WalkAt K H C A w ∧ Is K H q.D v ∧ q.Ok w.nums.length w.rows.length ∧ Q (.bl (q.so w.nums w.rows)) H))))
noncomputable def spWhich (K : PySem.W.Frag) (C : Addr) : Sp := fun vs H Q _ => ExQ Q (fun (A : WA) Q => ExQ Q (fun (w : WS) Q => ExQ Q (fun (l : Ln) Q => ExQ Q (fun (nl : Nat) Q => ExQ Q (fun (v : V) Q => vs = [.ref A.x, v] ∧ WalkAt K H C A w ∧ Is K H l.D v ∧ l.Ok w.nums.length w.rows.length nl ∧ ∀ H', Same H H' → Q (.int (if l.bit w.nums w.rows then 1 else 0)) H')))))
noncomputable def spGoOn (K : PySem.W.Frag) (C : Addr) : Sp := fun vs H Q _ => ExQ Q (fun (A : WA) Q => ExQ Q (fun (w : WS) Q => ExQ Q (fun (l : Ln) Q => ExQ Q (fun (nl : Nat) Q => ExQ Q (fun (v : V) Q => vs = [.ref A.x, v] ∧ WalkAt K H C A w ∧ Is K H l.D v ∧ l.Ok w.nums.length w.rows.length nl ∧ l ≠ .stop ∧
  ∀ H', But A.all H H' → Tups H H' → WalkAt K H' C A { w with at_ := l.next w.nums w.rows } → Q .non H')))))
noncomputable def Deed.val (rows : List (List Int)) (m : Mem) : Deed → Int
  | .set _ y c => worth m.nums y + c
  | .sum _ z y => worth m.nums (some z) + worth m.nums y
  | .len _ r => ((rows[r]?.getD []).length : Int)
  | .take _ => m.coming.headD 0
  | .tell _ => 0
  | .get _ r y c => (rows[r]?.getD [])[(worth m.nums y + c).toNat]?.getD 0
  | .put .. => 0
noncomputable def Deed.rest (m : Mem) : Deed → List Int
  | .take _ => m.coming.tail
  | _ => m.coming
noncomputable def spPlaceOf (K : PySem.W.Frag) : Sp := fun vs H Q _ => ExQ Q (fun (d : Deed) Q => ExQ Q (fun (k : Nat) Q => ExQ Q (fun (v : V) Q => ExQ Q (fun (s : Nat × Option Nat × Int) Q => vs = [v] ∧ Is K H (d.line k) v ∧ d.slot = some s ∧ ∀ H' t, Same H H' → SqT K H' t [.int (s.1 : Int), optV s.2.1, .int s.2.2] → Q (.ref t) H'))))
noncomputable def spRow (K : PySem.W.Frag) (C : Addr) : Sp := fun vs H Q _ => ExQ Q (fun (A : WA) Q => ExQ Q (fun (w : WS) Q => ExQ Q (fun (d : Deed) Q => ExQ Q (fun (k : Nat) Q => ExQ Q (fun (v : V) Q => ExQ Q (fun (s : Nat × Option Nat × Int) Q => ExQ Q (fun (a : Addr) Q => vs = [.ref A.x, v] ∧ WalkAt K H C A w ∧ Is K H (d.line k) v ∧ d.slot = some s ∧ A.rs[s.1]? = some a ∧ ∀ H', Same H H' → Q (.ref a) H')))))))
noncomputable def spPlaceAt (K : PySem.W.Frag) (C : Addr) : Sp := fun vs H Q _ => ExQ Q (fun (A : WA) Q => ExQ Q (fun (w : WS) Q => ExQ Q (fun (d : Deed) Q => ExQ Q (fun (k : Nat) Q => ExQ Q (fun (v : V) Q => ExQ Q (fun (s : Nat × Option Nat × Int) Q => vs = [.ref A.x, v] ∧ WalkAt K H C A w ∧ Is K H (d.line k) v ∧ d.slot = some s ∧ OptOk w.nums.length s.2.1 ∧ ∀ H', Same H H' → Q (.int (worth w.nums s.2.1 + s.2.2)) H'))))))
noncomputable def lookV : Option Str → V
  | none => .non
  | some z => .str z
noncomputable def spFailed (K : PySem.W.Frag) (C : Addr) : Sp := fun vs H Q _ => ExQ Q (fun (A : WA) Q => ExQ Q (fun (w : WS) Q => ExQ Q (fun (d : Deed) Q => ExQ Q (fun (k : Nat) Q => ExQ Q (fun (v : V) Q => ExQ Q (fun (s : Nat × Option Nat × Int) Q => vs = [.ref A.x, v] ∧ WalkAt K H C A w ∧ Is K H (d.line k) v ∧ d.slot = some s ∧ d.Ok w.nums.length w.rows.length ∧ ∀ H', Same H H' → Q (lookV (lookAt w.nums w.rows s)) H'))))))
section
variable {P : Program} {w : World} {K : PySem.W.Frag} {mg : Str → Option Value} {base : Heap} {f : Addr} {fd : FuncData} {n : Nat} {C : Addr} {a_GIVING a_PLACING : Addr}
noncomputable def wordsL : List Str := ["set", "sum", "len", "take", "tell", "get", "put"]
theorem word_mem (d : Deed) : d.word ∈ wordsL := by cases d <;> simp [Deed.word, wordsL]
theorem word_not {d : Deed} {z : Str} (h : ¬ z ∈ wordsL) : d.word ≠ z := fun e => h (e ▸ word_mem d)
theorem ln_inv {H : Hp} {l : Ln} {v : V} (h : Is K H l.D v) : ∃ a vs, v = .ref a ∧ SqT K H a (.str l.word :: vs) ∧ IsL K H l.args vs := by
  obtain ⟨a, xs, rfl, hq, il0⟩ := h.tup_inv
  obtain ⟨v0, vs, rfl, i0, il⟩ := il0.cons_inv
  cases i0.str_inv
  exact ⟨a, vs, rfl, hq, il⟩
theorem nd_inv {H : Hp} {q : Nd} {v : V} (h : Is K H q.D v) : ∃ a vs, v = .ref a ∧ SqT K H a (.str q.word :: vs) ∧ IsL K H q.args vs := by
  obtain ⟨a, xs, rfl, hq, il0⟩ := h.tup_inv
  obtain ⟨v0, vs, rfl, i0, il⟩ := il0.cons_inv
  cases i0.str_inv
  exact ⟨a, vs, rfl, hq, il⟩
theorem any1 {H : Hp} {d : D} {ds : List D} {vs : List V} (h : IsL K H (d :: ds) vs) : ∃ v r, vs = v :: r ∧ Is K H d v ∧ IsL K H ds r := h.cons_inv
theorem opt_inv {H : Hp} {y : Option Nat} {v : V} (h : Is K H (optD y) v) : v = optV y := by
  cases y with
  | none => exact h.non_inv
  | some i => exact h.int_inv
theorem int1 {H : Hp} {i : Int} {ds : List D} {vs : List V} (h : IsL K H (.int i :: ds) vs) : ∃ r, vs = .int i :: r ∧ IsL K H ds r := by
  obtain ⟨v, r, rfl, a, b⟩ := h.cons_inv
  cases a.int_inv
  exact ⟨r, rfl, b⟩
theorem opt1 {H : Hp} {y : Option Nat} {ds : List D} {vs : List V} (h : IsL K H (optD y :: ds) vs) : ∃ r, vs = optV y :: r ∧ IsL K H ds r := by
  obtain ⟨v, r, rfl, a, b⟩ := h.cons_inv
  cases opt_inv a
  exact ⟨r, rfl, b⟩
theorem at_ints {l : List Int} {i : Nat} (h : i < l.length) : (intsV l)[i]? = some (.int (l[i]?.getD 0)) := by
  show (l.map V.int)[i]? = _
  rw [List.getElem?_map, List.getElem?_eq_getElem h]; rfl
theorem ok_gives (F : Fun K "gives" "gives" s_gives f fd) (T : TabG K mg a_GIVING a_PLACING) : FnOk P w K mg base CX0 (n + 1) f fd ["line"] (spGives K) := by
  refine F.ok sc_gives (fun vs H Q E h => ?_) (fun cdv A outer s H vs Q E hr h => ?_)
  · obtain ⟨l, v, rfl, _⟩ := h
    rfl
  obtain ⟨l, v, rfl, hi, q⟩ := h
  have sc := sc_gives
  have m_GIVING := T.mv
  refine ⟨_, (pss_one (ps_ret (pe_ifExp (pt_cmpR op_in_seq (pe_ix ix_tup (pv 0) pe_int (fun _ _ => rfl)) (pe_glob rfl m_GIVING (v := .ref a_GIVING) rfl) (by with_unfolding_all rfl)) (pe_ix ix_tup (pv 0) pe_int (fun _ _ => rfl)) pe_non))), ?_⟩
  obtain ⟨a, vs, rfl, hq, il⟩ := ln_inv hi
  refine ⟨_, rfl, a, _, 0, _, rfl, rfl, hq, at0 _ _, a_GIVING, _, rfl, .inr (T.gv H), rfl, flat_strs _, _, rfl, ?_⟩
  cases l with
  | deed d k =>
    cases d with
    | set x y c => obtain ⟨r, rfl, _⟩ := int1 il; exact iteT ⟨_, rfl, a, _, 1, _, rfl, rfl, hq, at1 _ _ _, q⟩
    | sum x z y => obtain ⟨r, rfl, _⟩ := int1 il; exact iteT ⟨_, rfl, a, _, 1, _, rfl, rfl, hq, at1 _ _ _, q⟩
    | len x r => obtain ⟨r, rfl, _⟩ := int1 il; exact iteT ⟨_, rfl, a, _, 1, _, rfl, rfl, hq, at1 _ _ _, q⟩
    | take x => obtain ⟨r, rfl, _⟩ := int1 il; exact iteT ⟨_, rfl, a, _, 1, _, rfl, rfl, hq, at1 _ _ _, q⟩
    | tell x => exact iteF q
    | get x r y c => obtain ⟨r, rfl, _⟩ := int1 il; exact iteT ⟨_, rfl, a, _, 1, _, rfl, rfl, hq, at1 _ _ _, q⟩
    | put r y c z => exact iteF q
  | test y w c k m => exact iteF q
  | ask bs k m => exact iteF q
  | stop => exact iteF q
theorem ok_is_place (F : Fun K "is_place" "is_place" s_is_place f fd) (T : TabG K mg a_GIVING a_PLACING) : FnOk P w K mg base CX0 (n + 1) f fd ["line"] (spPlace K) := by
  refine F.ok sc_is_place (fun vs H Q E h => ?_) (fun cdv A outer s H vs Q E hr h => ?_)
  · obtain ⟨l, v, rfl, _⟩ := h
    rfl
  obtain ⟨l, v, rfl, hi, q⟩ := h
  have sc := sc_is_place
  have m_PLACING := T.mp
  refine ⟨_, (pss_one (ps_ret (pe_cmpR op_in_seq (pe_ix ix_tup (pv 0) pe_int (fun _ _ => rfl)) (pe_glob rfl m_PLACING (v := .ref a_PLACING) rfl) (by with_unfolding_all rfl)))), ?_⟩
  obtain ⟨a, vs, rfl, hq, il⟩ := ln_inv hi
  refine ⟨_, rfl, a, _, 0, _, rfl, rfl, hq, at0 _ _, a_PLACING, _, rfl, .inr (T.pl H), rfl, flat_strs _, ?_⟩
  cases l with
  | deed d k => cases d <;> exact q
  | test y w c k m => exact q
  | ask bs k m => exact q
  | stop => exact q
theorem ok_Walk_worth (F : Fun K "worth" "Walk.worth" s_Walk_worth f fd) (W : WC K C) : FnOk P w K mg base CX0 (n + 1) f fd ["self", "name"] (spWorth K C) := by
  refine F.ok sc_Walk_worth (fun vs H Q E h => ?_) (fun cdv A outer s H vs Q E hr h => ?_)
  · obtain ⟨A, w, y, rfl, _⟩ := h
    rfl
  obtain ⟨A, w, y, rfl, hw, hy, q⟩ := h
  have sc := sc_Walk_worth
  refine ⟨_, (pss_one (ps_ret (pe_ifExp (pt_cmpR op_isN (pv 1) pe_non (nomark _)) pe_int (pe_ix ix_list (pe_sf W.cl W.na_numbers (pv 0)) (pv 1) (fun _ _ => rfl))))), ?_⟩
  obtain ⟨en, e1, e2⟩ := hw.ins
  cases y with
  | none => exact ⟨_, rfl, rfl, _, rfl, iteT q⟩
  | some i =>
    have hi : i < w.nums.length := hy
    refine ⟨_, rfl, rfl, _, rfl, iteF ⟨_, rfl, A.x, A.dx, _, _, rfl, e1, rfl, _, rfl, A.an, _, _, _, rfl, rfl, SqL.of hw.nums, atI_nat (j := i) ?_, q⟩⟩
    show (w.nums.map V.int)[i]? = some (.int (w.nums[i]?.getD 0))
    rw [List.getElem?_map, List.getElem?_eq_getElem hi]; rfl
theorem ok_Walk_node_worth (F : Fun K "node_worth" "Walk.node_worth" s_Walk_node_worth f fd) (W : WC K C) (m_len : mg "len" = none) : FnOk P w K mg base CX0 (n + 1) f fd ["self", "node"] (spNodeWorth K C) := by
  refine F.ok sc_Walk_node_worth (fun vs H Q E h => ?_) (fun cdv A outer s H vs Q E hr h => ?_)
  · obtain ⟨A, w, nd, v, rfl, _⟩ := h
    rfl
  obtain ⟨A, w, nd, v, rfl, hw, hi, hk, q⟩ := h
  have sc := sc_Walk_node_worth
  refine ⟨_, (@pss_cons _ _ _ _ _ (ps_if (pt_cmpR op_eq (pe_ix ix_tup (pv 1) pe_int (fun _ _ => rfl)) pe_str (nomark _)) (pss_one (ps_ret (pe_ix ix_list (pe_sf W.cl W.na_numbers (pv 0)) (pe_ix ix_tup (pv 1) pe_int (fun _ _ => rfl)) (fun _ _ => rfl)))) pss_nil)
      (pss_one (ps_ret (pe_ifExp (pt_cmpR op_eq (pe_ix ix_tup (pv 1) pe_int (fun _ _ => rfl)) pe_str (nomark _)) (pe_callB call_len_seq rfl m_len PySem.boot_len (pa_cons (pe_ix ix_list (pe_sf W.cl W.na_rows (pv 0)) (pe_ix ix_tup (pv 1) pe_int (fun _ _ => rfl)) (fun _ _ => rfl)) pa_nil)) pe_int)))), ?_⟩
  obtain ⟨en, e1, e2⟩ := hw.ins
  obtain ⟨a, vs, rfl, hq, il⟩ := nd_inv hi
  refine ⟨_, rfl, a, _, 0, _, rfl, rfl, hq, at0 _ _, rfl, _, rfl, ?_⟩
  cases nd with
  | name x =>
    obtain ⟨r, rfl, _⟩ := int1 il
    have hx : x < w.nums.length := hk
    exact iteT ⟨_, rfl, A.x, A.dx, _, _, rfl, e1, rfl, _, rfl, a, _, 1, _, rfl, rfl, hq, at1 _ _ _, A.an, _, _, _, rfl, rfl, SqL.of hw.nums, atI_nat (at_ints hx), q⟩
  | len r =>
    obtain ⟨t, rfl, _⟩ := int1 il
    have hr : r < w.rows.length := hk
    have hra : r < A.rs.length := by rw [hw.rlen]; exact hr
    have era := List.getElem?_eq_getElem hra
    have err := List.getElem?_eq_getElem hr
    refine iteF ⟨_, rfl, a, _, 0, _, rfl, rfl, hq, at0 _ _, rfl, _, rfl, iteT ⟨_, rfl, A.x, A.dx, _, _, rfl, e1, rfl, _, rfl, a, _, 1, _, rfl, rfl, hq, at1 _ _ _, A.ar, _, _, .ref A.rs[r], rfl, rfl, SqL.of hw.rows, atI_nat (j := r) (by rw [List.getElem?_map, era]; rfl), A.rs[r], _, rfl, .inl (SqL.of (hw.row r _ _ era err)), ?_⟩⟩
    have e : ((intsV w.rows[r]).length : Int) = (Nd.len r).val w.nums w.rows := by
      show _ = ((w.rows[r]?.getD []).length : Int)
      rw [err]; unfold intsV; rw [List.length_map]; rfl
    rw [e]; exact q
  | zero => exact iteF ⟨_, rfl, a, _, 0, _, rfl, rfl, hq, at0 _ _, rfl, _, rfl, iteF q⟩
theorem ok_Walk_is_so (F : Fun K "is_so" "Walk.is_so" s_Walk_is_so f fd) (W : WC K C) (c_Walk_node_worth : ClM P w K mg base C "node_worth" n ["self", "node"] (spNodeWorth K C)) : FnOk P w K mg base CX0 (n + 1) f fd ["self", "bound"] (spIsSo K C) := by
  refine F.ok sc_Walk_is_so (fun vs H Q E h => ?_) (fun cdv A outer s H vs Q E hr h => ?_)
  · obtain ⟨A, w, b, v, rfl, _⟩ := h
    rfl
  obtain ⟨A, w, b, v, rfl, hw, hi, hk, q⟩ := h
  have sc := sc_Walk_is_so
  refine ⟨_, (pss_one (ps_ret (pe_cmpR op_le (pe_op op_sub (pe_mcl (pv 0) c_Walk_node_worth hr (pa_cons (pe_ix ix_tup (pv 1) pe_int (fun _ _ => rfl)) pa_nil)) (pe_mcl (pv 0) c_Walk_node_worth hr (pa_cons (pe_ix ix_tup (pv 1) pe_int (fun _ _ => rfl)) pa_nil))) (pe_ix ix_tup (pv 1) pe_int (fun _ _ => rfl)) (nomark _)))), ?_⟩
  obtain ⟨en, e1, e2⟩ := hw.ins
  obtain ⟨a, xs, rfl, hq, il⟩ := hi.tup_inv
  obtain ⟨va, r1, rfl, ia, il1⟩ := any1 il
  obtain ⟨vb, r2, rfl, ib, il2⟩ := any1 il1
  obtain ⟨r3, rfl, il3⟩ := int1 il2
  exact ⟨_, rfl, A.x, A.dx, _, rfl, e1, rfl, _, rfl, a, _, 0, _, rfl, rfl, hq, at0 _ _, A, w, b.a, va, rfl, hw, ia, hk.1, _, rfl, A.x, A.dx, _, rfl, e1, rfl, _, rfl, a, _, 1, _, rfl, rfl, hq, at1 _ _ _, A, w, b.b, vb, rfl, hw, ib, hk.2, _, _, rfl, rfl, _, rfl, a, _, 2, _, rfl, rfl, hq, at2 _ _ _ _, _, _, rfl, rfl, q⟩
theorem ok_Walk_which (F : Fun K "which" "Walk.which" s_Walk_which f fd) (W : WC K C) (m_all : mg "all" = none) (c_is_ask : Cl P w K mg base "is_ask" n ["line"] (spIsAsk K)) (c_Walk_worth : ClM P w K mg base C "worth" n ["self", "name"] (spWorth K C)) (c_Walk_is_so : ClM P w K mg base C "is_so" n ["self", "bound"] (spIsSo K C)) :
    FnOk P w K mg base CX0 (n + 1) f fd ["self", "line"] (spWhich K C) := by
  refine F.ok sc_Walk_which (fun vs H Q E h => ?_) (fun cdv A outer s H vs Q E hr h => ?_)
  · obtain ⟨A, w, l, nl, v, rfl, _⟩ := h
    rfl
  obtain ⟨A, w, l, nl, v, rfl, hw, hi, hk, q⟩ := h
  have sc := sc_Walk_which
  refine ⟨_, (@pss_cons _ _ _ _ _ (ps_if (pt_cmpR op_eq (pe_ix ix_tup (pv 1) pe_int (fun _ _ => rfl)) pe_str (nomark _)) (pss_one (ps_ret (pe_ifExp (pt_cmpR op_le (pe_op op_sub (pe_mcl (pv 0) c_Walk_worth hr (pa_cons (pe_ix ix_tup (pv 1) pe_int (fun _ _ => rfl)) pa_nil)) (pe_mcl (pv 0) c_Walk_worth hr (pa_cons (pe_ix ix_tup (pv 1) pe_int (fun _ _ => rfl)) pa_nil))) (pe_ix ix_tup (pv 1) pe_int (fun _ _ => rfl)) (nomark _)) pe_int pe_int))) pss_nil)
      (@pss_cons _ _ _ _ _ (ps_if (pt_val (pe_cl c_is_ask hr rfl (pa_cons (pv 1) pa_nil))) (pss_one (ps_ret (pe_ifExp (pt_val (pe_callB (call_all rfl) rfl m_all PyProof.Rows.boot_all (pa_cons (pe_comp ["bound"] rfl (cmp_ok (N := ["self", "line"]) (so := defScope s_Walk_which) rfl rfl (by decide +kernel)) (pi_tup (pe_ix ix_tup (pv 1) pe_int (fun _ _ => rfl))) (fun _ _ _ _ _ _ => (pg_name (i := 0) (show List.Nodup (α := Str) ["bound", "self", "line"] by decide +kernel) rfl (Or.inl rfl) (Or.inr rfl))) (fun _ _ _ _ _ _ => pifs_nil) (fun _ _ _ _ _ _ => (pe_mcl (pv 1) c_Walk_is_so hr (pa_cons (pv 0) pa_nil)))) pa_nil))) pe_int pe_int))) pss_nil)
      (pss_one (ps_ret pe_int)))), ?_⟩
  obtain ⟨en, e1, e2⟩ := hw.ins
  obtain ⟨a, vs, rfl, hq, il⟩ := ln_inv hi
  refine ⟨_, rfl, a, _, 0, _, rfl, rfl, hq, at0 _ _, rfl, _, rfl, ?_⟩
  cases l with
  | deed d k =>
    have q0 := q H (Same.refl H)
    rw [decide_eq_false (show ¬ V.str (Ln.deed d k).word = V.str "test" from fun z => word_not (d := d) (z := "test") (by decide) (V.str.inj z))]
    refine iteF ⟨_, rfl, .ref a, (Ln.deed d k).word, _, rfl, hi, _, rfl, ?_⟩
    rw [decide_eq_false (show ¬ (Ln.deed d k).word = "ask" from word_not (d := d) (by decide))]
    exact iteF q0
  | stop =>
    have q0 := q H (Same.refl H)
    rw [decide_eq_false (show ¬ V.str (Ln.stop).word = V.str "test" from fun z => (by decide : ("end" : Str) ≠ "test") (V.str.inj z))]
    refine iteF ⟨_, rfl, .ref a, (Ln.stop).word, _, rfl, hi, _, rfl, ?_⟩
    rw [decide_eq_false (show ¬ (Ln.stop).word = "ask" by decide)]
    exact iteF q0
  | test y u c k m =>
    obtain ⟨r1, rfl, il1⟩ := opt1 il
    obtain ⟨r2, rfl, il2⟩ := opt1 il1
    obtain ⟨r3, rfl, il3⟩ := int1 il2
    refine iteT ⟨_, rfl, A.x, A.dx, _, rfl, e1, rfl, _, rfl, a, _, 1, _, rfl, rfl, hq, at1 _ _ _, A, w, y, rfl, hw, hk.1, _, rfl, A.x, A.dx, _, rfl, e1, rfl, _, rfl, a, _, 2, _, rfl, rfl, hq, at2 _ _ _ _, A, w, u, rfl, hw, hk.2.1, _, _, rfl, rfl, _, rfl, a, _, 3, _, rfl, rfl, hq, at3 _ _ _ _ _, _, _, rfl, rfl, _, rfl, ?_⟩
    have q0 := q H (Same.refl H)
    by_cases e : worth w.nums y - worth w.nums u ≤ c
    · rw [decide_eq_true e]
      have hb : (Ln.test y u c k m).bit w.nums w.rows = false := by show (!decide _) = false; rw [decide_eq_true e]; rfl
      rw [hb] at q0
      exact iteT q0
    · rw [decide_eq_false e]
      have hb : (Ln.test y u c k m).bit w.nums w.rows = true := by show (!decide _) = true; rw [decide_eq_false e]; rfl
      rw [hb] at q0
      exact iteF q0
  | ask bs k m =>
    refine iteF ⟨_, rfl, .ref a, "ask", _, rfl, hi, _, rfl, iteT ?_⟩
    obtain ⟨vb, r1, rfl, ib, il1⟩ := any1 il
    obtain ⟨ab, xs, rfl, hqb, ilb⟩ := ib.tup_inv
    refine ⟨_, rfl, a, _, 1, _, rfl, rfl, hq, at1 _ _ _, ab, rfl, ⟨_, hqb⟩, fun p np => ?_⟩
    have lx := ilb.length
    rw [List.length_map] at lx
    have h100 := hk.2.1
    refine comp_tup (xs := xs) (fun i H' => Same H H' ∧ H' p = some (.lst ((bs.take i).map fun b => V.bl (b.so w.nums w.rows)))) ⟨same_new np _, upd_same⟩ (fun i H' _ h => h.1.tups.sq hqb) (fun i y H' ey h => ?_) (fun H' h => ?_)
    · obtain ⟨sm, ep⟩ := h
      have hil : i < bs.length := by have := (List.getElem?_eq_some_iff.mp ey).1; omega
      have eb := List.getElem?_eq_getElem hil
      obtain ⟨v', ev', iv'⟩ := (ilb.mono sm.tups).get (j := i) (d := bs[i].D) (by rw [List.getElem?_map, eb]; rfl)
      rw [ey] at ev'; cases ev'
      refine ⟨⟨[some y], rfl, rfl⟩, tTrue_ite ⟨_, rfl, A.x, A.dx, _, rfl, sm _ _ e1, rfl, _, rfl, A, w, bs[i], y, rfl, hw.same sm, iv', hk.1 _ (List.mem_of_getElem? eb), _, ep, small1000 (by rw [List.length_map, List.length_take]; omega), Same.new sm np, ?_⟩⟩
      rw [upd_same, List.take_add_one, eb, List.map_append]; rfl
    · obtain ⟨sm, ep⟩ := h
      rw [← lx, List.take_length] at ep
      refine ⟨p, bs.map (Bd.so w.nums w.rows), rfl, SqL.of (by rw [ep, List.map_map]; rfl), _, rfl, ?_⟩
      have q0 := q H' sm
      have hb : (Ln.ask bs k m).bit w.nums w.rows = !(bs.map (Bd.so w.nums w.rows)).all id := by
        show (!bs.all (Bd.so w.nums w.rows)) = _
        rw [List.all_map]; rfl
      rw [hb] at q0
      cases e : (bs.map (Bd.so w.nums w.rows)).all id with
      | true => rw [e] at q0; exact iteT q0
      | false => rw [e] at q0; exact iteF q0
theorem end_keep {H H2 : Hp} {q : Option (Str × Nat)} {en : V} (h : EndIs H q en) (s : Same H H2) : EndIs H2 q en := by
  unfold EndIs at h ⊢
  split at h
  · exact h
  · obtain ⟨te, q1, q2⟩ := h
    exact ⟨te, q1, s _ _ q2⟩
theorem ln_ways (l : Ln) (h : l ≠ .stop) : ∃ ks, partsL.lookup l.word = some ks ∧ l.args.length ≤ 1000 ∧
    waysD ks l.args = (match l with | .deed _ k => [.int (k : Int)] | .test _ _ _ k m => [.int (k : Int), .int (m : Int)] | .ask _ k m => [.int (k : Int), .int (m : Int)] | .stop => []) := by
  cases l with
  | deed d k => cases d <;> exact ⟨_, rfl, by simp [Ln.args, Deed.args], rfl⟩
  | test y w c k m => exact ⟨_, rfl, by simp [Ln.args], rfl⟩
  | ask bs k m => exact ⟨_, rfl, by simp [Ln.args], rfl⟩
  | stop => exact absurd rfl h
theorem two_at {k m : Nat} (b : Bool) : atI [V.int (k : Int), .int (m : Int)] (if b then 1 else 0) = some (.int ((if b then m else k : Nat) : Int)) := by cases b <;> rfl
theorem ok_Walk_go_on (F : Fun K "go_on" "Walk.go_on" s_Walk_go_on f fd) (W : WC K C) (c_ways : Cl P w K mg base "ways" n ["line"] (spWays K)) (c_Walk_which : ClM P w K mg base C "which" n ["self", "line"] (spWhich K C)) : FnOk P w K mg base CX0 (n + 1) f fd ["self", "line"] (spGoOn K C) := by
  refine F.ok sc_Walk_go_on (fun vs H Q E h => ?_) (fun cdv A outer s H vs Q E hr h => ?_)
  · obtain ⟨A, w, l, nl, v, rfl, _⟩ := h
    rfl
  obtain ⟨A, w, l, nl, v, rfl, hw, hi, hok, hne, q⟩ := h
  have sc := sc_Walk_go_on
  refine ⟨_, (pss_one (ps_sf W.cl W.na_at (pv 0) (pe_ix ix_tup (pe_cl c_ways hr rfl (pa_cons (pv 1) pa_nil)) (pe_mcl (pv 0) c_Walk_which hr (pa_cons (pv 1) pa_nil)) (fun _ _ => rfl)))), ?_⟩
  obtain ⟨ks, hk, hl, hws⟩ := ln_ways l hne
  refine ⟨_, rfl, v, l.word, _, ks, rfl, hi, hk, hl, fun H1 t xs s1 et il => ?_⟩
  rw [hws] at il
  have hw1 := hw.same s1
  obtain ⟨en, e1, e2⟩ := hw1.ins
  refine ⟨_, rfl, A.x, A.dx, _, rfl, e1, rfl, _, rfl, A, w, l, nl, v, rfl, hw1, hi.mono s1.tups, hok, fun H2 s2 => ?_⟩
  have hw2 := hw1.same s2
  have e12 := s2 _ _ e1
  have hat : atI xs (if l.bit w.nums w.rows then 1 else 0) = some (.int ((l.next w.nums w.rows : Nat) : Int)) := by
    cases l with
    | deed d k =>
      obtain ⟨r, rfl, ir⟩ := int1 il
      exact at0 _ _
    | test y u c k m =>
      obtain ⟨r1, rfl, ir1⟩ := int1 il
      obtain ⟨r2, rfl, ir2⟩ := int1 ir1
      cases ir2.nil_inv
      exact two_at _
    | ask bs k m =>
      obtain ⟨r1, rfl, ir1⟩ := int1 il
      obtain ⟨r2, rfl, ir2⟩ := int1 ir1
      cases ir2.nil_inv
      exact two_at _
    | stop => exact absurd rfl hne
  refine ⟨t, _, _, _, rfl, rfl, SqT.of (s2 _ _ et), hat, _, rfl, A.x, A.dx, _, rfl, e12, (by show 9 < 1000; decide), ?_⟩
  have s12 := s1.trans s2
  exact q _ ((But.of_same s12).trans (But.upd (by simp [WA.all]))) (s12.tups.trans (tups_ins e12)) (hw2.setF (at2 := l.next w.nums w.rows) (dn := w.done) (e2 := w.ended) (end_keep e2 s2))
theorem ok_place_of (F : Fun K "place_of" "place_of" s_place_of f fd) : FnOk P w K mg base CX0 (n + 1) f fd ["line"] (spPlaceOf K) := by
  refine F.ok sc_place_of (fun vs H Q E h => ?_) (fun cdv A outer s H vs Q E hr h => ?_)
  · obtain ⟨d, k, v, s, rfl, _⟩ := h
    rfl
  obtain ⟨d, k, v, s, rfl, hi, hs, q⟩ := h
  have sc := sc_place_of
  refine ⟨_, (pss_one (ps_ret (pe_ifExp (pt_cmpR op_eq (pe_ix ix_tup (pv 0) pe_int (fun _ _ => rfl)) pe_str (nomark _)) (pe_slice sl_tupW (pv 0) (po_some pe_int) (po_some pe_int)) (pe_slice sl_tupW (pv 0) (po_some pe_int) (po_some pe_int))))), ?_⟩
  obtain ⟨a, vs, rfl, hq, il⟩ := ln_inv (l := .deed d k) hi
  refine ⟨_, rfl, a, _, 0, _, rfl, rfl, hq, at0 _ _, rfl, _, rfl, ?_⟩
  cases d with
  | get x r y c =>
    obtain ⟨r1, rfl, i1⟩ := int1 il
    obtain ⟨r2, rfl, i2⟩ := int1 i1
    obtain ⟨r3, rfl, i3⟩ := opt1 i2
    obtain ⟨r4, rfl, i4⟩ := int1 i3
    obtain ⟨r5, rfl, i5⟩ := int1 i4
    cases i5.nil_inv
    cases hs
    exact iteT ⟨_, rfl, _, rfl, _, rfl, a, _, rfl, hq, fun t H' s' q' => q H' t s' q'⟩
  | put r y c z =>
    obtain ⟨r2, rfl, i2⟩ := int1 il
    obtain ⟨r3, rfl, i3⟩ := opt1 i2
    obtain ⟨r4, rfl, i4⟩ := int1 i3
    obtain ⟨r5, rfl, i5⟩ := int1 i4
    obtain ⟨r6, rfl, i6⟩ := int1 i5
    cases i6.nil_inv
    cases hs
    exact iteF ⟨_, rfl, _, rfl, _, rfl, a, _, rfl, hq, fun t H' s' q' => q H' t s' q'⟩
  | set x y c => cases hs
  | sum x z y => cases hs
  | len x r => cases hs
  | take x => cases hs
  | tell x => cases hs
theorem ok_Walk_row (F : Fun K "row" "Walk.row" s_Walk_row f fd) (W : WC K C) (c_place_of : Cl P w K mg base "place_of" n ["line"] (spPlaceOf K)) : FnOk P w K mg base CX0 (n + 1) f fd ["self", "line"] (spRow K C) := by
  refine F.ok sc_Walk_row (fun vs H Q E h => ?_) (fun cdv A outer s H vs Q E hr h => ?_)
  · obtain ⟨A, w, d, k, v, s, a, rfl, _⟩ := h
    rfl
  obtain ⟨A, w, d, k, v, s, a, rfl, hw, hi, hs, ha, q⟩ := h
  have sc := sc_Walk_row
  refine ⟨_, (pss_one (ps_ret (pe_ix ix_list (pe_sf W.cl W.na_rows (pv 0)) (pe_ix ix_tup (pe_cl c_place_of hr rfl (pa_cons (pv 1) pa_nil)) pe_int (fun _ _ => rfl)) (fun _ _ => rfl)))), ?_⟩
  obtain ⟨en, e1, e2⟩ := hw.ins
  refine ⟨_, rfl, A.x, A.dx, _, _, rfl, e1, rfl, _, rfl, d, k, v, s, rfl, hi, hs, fun H1 t s1 ht => ?_⟩
  exact ⟨t, _, 0, _, rfl, rfl, ht, at0 _ _, A.ar, _, _, .ref a, rfl, rfl, SqL.of (s1 _ _ hw.rows), atI_nat (j := s.1) (by rw [List.getElem?_map, ha]; rfl), q H1 s1⟩
theorem ok_Walk_place (F : Fun K "place" "Walk.place" s_Walk_place f fd) (W : WC K C) (c_place_of : Cl P w K mg base "place_of" n ["line"] (spPlaceOf K)) (c_Walk_worth : ClM P w K mg base C "worth" n ["self", "name"] (spWorth K C)) : FnOk P w K mg base CX0 (n + 1) f fd ["self", "line"] (spPlaceAt K C) := by
  refine F.ok sc_Walk_place (fun vs H Q E h => ?_) (fun cdv A outer s H vs Q E hr h => ?_)
  · obtain ⟨A, w, d, k, v, s, rfl, _⟩ := h
    rfl
  obtain ⟨A, w, d, k, v, s, rfl, hw, hi, hs, hy, q⟩ := h
  have sc := sc_Walk_place
  refine ⟨_, (pss_one (ps_ret (pe_op op_add (pe_mcl (pv 0) c_Walk_worth hr (pa_cons (pe_ix ix_tup (pe_cl c_place_of hr rfl (pa_cons (pv 1) pa_nil)) pe_int (fun _ _ => rfl)) pa_nil)) (pe_ix ix_tup (pe_cl c_place_of hr rfl (pa_cons (pv 1) pa_nil)) pe_int (fun _ _ => rfl))))), ?_⟩
  obtain ⟨en, e1, e2⟩ := hw.ins
  refine ⟨_, rfl, A.x, A.dx, _, rfl, e1, rfl, _, rfl, d, k, v, s, rfl, hi, hs, fun H1 t s1 ht => ?_⟩
  refine ⟨t, _, 1, _, rfl, rfl, ht, at1 _ _ _, A, w, s.2.1, rfl, hw.same s1, hy, _, rfl, d, k, v, s, rfl, hi.mono s1.tups, hs, fun H2 t2 s2 ht2 => ?_⟩
  exact ⟨t2, _, 2, _, rfl, rfl, ht2, at2 _ _ _ _, _, _, rfl, rfl, q H2 (s1.trans s2)⟩
theorem slot_ok {d : Deed} {s : Nat × Option Nat × Int} {nm rw : Nat} (hs : d.slot = some s) (hk : d.Ok nm rw) : s.1 < rw ∧ OptOk nm s.2.1 := by
  cases d with
  | get x r y c => cases hs; exact ⟨hk.2.1, hk.2.2⟩
  | put r y c z => cases hs; exact ⟨hk.1, hk.2.1⟩
  | set x y c => cases hs
  | sum x z y => cases hs
  | len x r => cases hs
  | take x => cases hs
  | tell x => cases hs
theorem ok_Walk_failed_look (F : Fun K "failed_look" "Walk.failed_look" s_Walk_failed_look f fd) (W : WC K C) (m_len : mg "len" = none) (c_Walk_row : ClM P w K mg base C "row" n ["self", "line"] (spRow K C)) (c_Walk_place : ClM P w K mg base C "place" n ["self", "line"] (spPlaceAt K C)) : FnOk P w K mg base CX0 (n + 1) f fd ["self", "line"] (spFailed K C) := by
  refine F.ok sc_Walk_failed_look (fun vs H Q E h => ?_) (fun cdv A outer s H vs Q E hr h => ?_)
  · obtain ⟨A, w, d, k, v, s, rfl, _⟩ := h
    rfl
  obtain ⟨A, w, d, k, v, s, rfl, hw, hi, hs, hk, q⟩ := h
  have sc := sc_Walk_failed_look
  refine ⟨_, (@pss_cons _ _ _ _ _ (ps_set (i := 2) sc.nd rfl (Or.inl rfl) (pe_mcl (pv 0) c_Walk_place hr (pa_cons (pv 1) pa_nil)))
      (@pss_cons _ _ _ _ _ (ps_if (pt_cmpR op_lt (pv 2) pe_int (nomark _)) (pss_one (ps_ret pe_str)) pss_nil)
      (pss_one (ps_ret (pe_ifExp (pt_cmpR op_lt (pv 2) (pe_callB call_len_seq rfl m_len PySem.boot_len (pa_cons (pe_mcl (pv 0) c_Walk_row hr (pa_cons (pv 1) pa_nil)) pa_nil)) (nomark _)) pe_non pe_str))))), ?_⟩
  obtain ⟨en, e1, e2⟩ := hw.ins
  obtain ⟨hr1, hy⟩ := slot_ok hs hk
  refine ⟨_, rfl, A.x, A.dx, _, rfl, e1, rfl, _, rfl, A, w, d, k, v, s, rfl, hw, hi, hs, hy, fun H1 s1 => ?_⟩
  refine ⟨_, rfl, _, _, rfl, rfl, _, rfl, ?_⟩
  by_cases hl : worth w.nums s.2.1 + s.2.2 < 0
  · rw [decide_eq_true hl]
    have e : lookAt w.nums w.rows s = some "low" := if_pos hl
    have := q H1 s1
    rw [e] at this
    exact iteT this
  rw [decide_eq_false hl]
  have hra : s.1 < A.rs.length := by rw [hw.rlen]; exact hr1
  have era := List.getElem?_eq_getElem hra
  have err := List.getElem?_eq_getElem hr1
  have hw1 := hw.same s1
  refine iteF ⟨_, rfl, _, rfl, A.x, A.dx, _, rfl, s1 _ _ e1, rfl, _, rfl, A, w, d, k, v, s, A.rs[s.1], rfl, hw1, hi.mono s1.tups, hs, era, fun H2 s2 => ?_⟩
  refine ⟨A.rs[s.1], _, rfl, .inl (SqL.of (s2 _ _ (hw1.row s.1 _ _ era err))), _, _, rfl, rfl, _, rfl, ?_⟩
  have q2 := q H2 (s1.trans s2)
  have el : ((intsV w.rows[s.1]).length : Int) = ((w.rows[s.1]?.getD []).length : Int) := by rw [err]; unfold intsV; rw [List.length_map]; rfl
  by_cases hh : ((w.rows[s.1]?.getD []).length : Int) ≤ worth w.nums s.2.1 + s.2.2
  · have e : lookAt w.nums w.rows s = some "high" := (if_neg hl).trans (if_pos hh)
    rw [e] at q2
    rw [decide_eq_false (show ¬ worth w.nums s.2.1 + s.2.2 < ((intsV w.rows[s.1]).length : Int) by rw [el]; omega)]
    exact iteF q2
  · have e : lookAt w.nums w.rows s = none := (if_neg hl).trans (if_neg hh)
    rw [e] at q2
    rw [decide_eq_true (show worth w.nums s.2.1 + s.2.2 < ((intsV w.rows[s.1]).length : Int) by rw [el]; omega)]
    exact iteT q2
end
end K25
set_option Elab.async false
set_option linter.all false
set_option maxRecDepth 100000
set_option maxHeartbeats 4000000
namespace K25
open PySem PySem.Spec PyProof.Rows L2
noncomputable def spResult (K : PySem.W.Frag) (C : Addr) : Sp := fun vs H Q _ => ExQ Q (fun (A : WA) Q => ExQ Q (fun (w : WS) Q => ExQ Q (fun (d : Deed) Q => ExQ Q (fun (k : Nat) Q => ExQ Q (fun (v : V) Q => vs = [.ref A.x, v] ∧ WalkAt K H C A w ∧ Is K H (d.line k) v ∧ d.Ok w.nums.length w.rows.length ∧ d.look w.nums w.rows = none ∧ d.name? ≠ .non ∧
  ∀ H', But A.all H H' → Tups H H' → WalkAt K H' C A { w with coming := d.rest w.mem } → Q (.int (d.val w.rows w.mem)) H')))))
noncomputable def spDo (K : PySem.W.Frag) (C : Addr) : Sp := fun vs H Q _ => ExQ Q (fun (A : WA) Q => ExQ Q (fun (w : WS) Q => ExQ Q (fun (l : Ln) Q => ExQ Q (fun (v : V) Q => vs = [.ref A.x, v] ∧ WalkAt K H C A w ∧ Is K H l.D v ∧ ((ExQ Q (fun (d : Deed) Q => ExQ Q (fun (k : Nat) Q => l = .deed d k ∧ d.Ok w.nums.length w.rows.length ∧ d.look w.nums w.rows = none ∧ w.heard.length ≤ 900 ∧
  ∀ H', But A.all H H' → Tups H H' → WalkAt K H' C A { w.setMem (d.run w.rows w.mem) with rows := d.rows w.rows w.mem } → Q .non H'))) ∨ (ExQ Q (fun y Q => ExQ Q (fun u Q => ExQ Q (fun c Q => ExQ Q (fun k Q => ExQ Q (fun m Q => l = .test y u c k m ∧ Q .non H)))))))))))
section
variable {P : Program} {w : World} {K : PySem.W.Frag} {mg : Str → Option Value} {base : Heap} {f : Addr} {fd : FuncData} {n : Nat} {C : Addr} {a_GIVING a_PLACING : Addr}
theorem ite_word {d : Deed} {a z : Str} {A B : Prop} (e : d.word = a) (h : a ≠ z) (hb : B) : if decide (V.str d.word = V.str z) = true then A else B := by
  rw [decide_eq_false (fun q => h (e ▸ (V.str.inj q)))]; exact iteF hb
theorem deed_inv {H : Hp} {d : Deed} {k : Nat} {v : V} (h : Is K H (d.line k) v) : ∃ a vs, v = .ref a ∧ SqT K H a (.str d.word :: vs) ∧ IsL K H (d.args ++ [.int (k : Int)]) vs := ln_inv (l := .deed d k) h
theorem look_in {nums : List Int} {rows : List (List Int)} {d : Deed} {s : Nat × Option Nat × Int} (hs : d.slot = some s) (h : d.look nums rows = none) : 0 ≤ worth nums s.2.1 + s.2.2 ∧ worth nums s.2.1 + s.2.2 < ((rows[s.1]?.getD []).length : Int) := by
  have h' : lookAt nums rows s = none := by unfold Deed.look at h; rw [hs] at h; exact h
  unfold lookAt at h'
  split at h'
  · cases h'
  · split at h'
    · cases h'
    · omega
theorem ok_Walk_result (F : Fun K "result" "Walk.result" s_Walk_result f fd) (W : WC K C) (m_len : mg "len" = none) (c_Walk_worth : ClM P w K mg base C "worth" n ["self", "name"] (spWorth K C)) (c_Walk_row : ClM P w K mg base C "row" n ["self", "line"] (spRow K C)) (c_Walk_place : ClM P w K mg base C "place" n ["self", "line"] (spPlaceAt K C)) :
    FnOk P w K mg base CX0 (n + 1) f fd ["self", "line"] (spResult K C) := by
  refine F.ok sc_Walk_result (fun vs H Q E h => ?_) (fun cdv A outer s H vs Q E hr h => ?_)
  · obtain ⟨A, w, d, k, v, rfl, _⟩ := h
    rfl
  obtain ⟨A, w, d, k, v, rfl, hw, hi, hok, hlk, hnn, q⟩ := h
  have sc := sc_Walk_result
  refine ⟨_, (@pss_cons _ _ _ _ _ (ps_if (pt_cmpR op_eq (pe_ix ix_tup (pv 1) pe_int (fun _ _ => rfl)) pe_str (nomark _)) (pss_one (ps_ret (pe_op op_add (pe_mcl (pv 0) c_Walk_worth hr (pa_cons (pe_ix ix_tup (pv 1) pe_int (fun _ _ => rfl)) pa_nil)) (pe_ix ix_tup (pv 1) pe_int (fun _ _ => rfl))))) pss_nil)
      (@pss_cons _ _ _ _ _ (ps_if (pt_cmpR op_eq (pe_ix ix_tup (pv 1) pe_int (fun _ _ => rfl)) pe_str (nomark _)) (pss_one (ps_ret (pe_op op_add (pe_mcl (pv 0) c_Walk_worth hr (pa_cons (pe_ix ix_tup (pv 1) pe_int (fun _ _ => rfl)) pa_nil)) (pe_mcl (pv 0) c_Walk_worth hr (pa_cons (pe_ix ix_tup (pv 1) pe_int (fun _ _ => rfl)) pa_nil))))) pss_nil)
      (@pss_cons _ _ _ _ _ (ps_if (pt_cmpR op_eq (pe_ix ix_tup (pv 1) pe_int (fun _ _ => rfl)) pe_str (nomark _)) (pss_one (ps_ret (pe_callB call_len_seq rfl m_len PySem.boot_len (pa_cons (pe_ix ix_list (pe_sf W.cl W.na_rows (pv 0)) (pe_ix ix_tup (pv 1) pe_int (fun _ _ => rfl)) (fun _ _ => rfl)) pa_nil)))) pss_nil)
      (@pss_cons _ _ _ _ _ (ps_if (pt_cmpR op_eq (pe_ix ix_tup (pv 1) pe_int (fun _ _ => rfl)) pe_str (nomark _)) (pss_one (ps_ret (pe_ifExp (pt_truth (pe_sf W.cl W.na_coming (pv 0)) (fun _ => rfl)) (pe_bm PySem.F.plainAttrs_list PySem.F.slot_list_pop PySem.F.type_list_pop mt_popAt (pe_sf W.cl W.na_coming (pv 0)) (pa_cons pe_int pa_nil)) pe_int))) pss_nil)
      (@pss_cons _ _ _ _ _ (ps_set (i := 2) sc.nd rfl (Or.inl rfl) (pe_mcl (pv 0) c_Walk_row hr (pa_cons (pv 1) pa_nil)))
      (pss_one (ps_ret (pe_ix ix_list (pv 2) (pe_mcl (pv 0) c_Walk_place hr (pa_cons (pv 1) pa_nil)) (fun _ _ => rfl))))))))), ?_⟩
  obtain ⟨a, vs, rfl, hq, il⟩ := deed_inv hi
  obtain ⟨en, e1, e2⟩ := hw.ins
  refine ⟨_, rfl, a, _, 0, _, rfl, rfl, hq, at0 _ _, rfl, _, rfl, ?_⟩
  cases d with
  | set x y c =>
    obtain ⟨r, rfl, i1⟩ := int1 il
    obtain ⟨r, rfl, i2⟩ := opt1 i1
    obtain ⟨r, rfl, i3⟩ := int1 i2
    refine iteT ⟨_, rfl, A.x, A.dx, _, rfl, e1, rfl, _, rfl, a, _, 2, _, rfl, rfl, hq, at2 _ _ _ _, A, w, y, rfl, hw, hok.2, _, rfl, a, _, 3, _, rfl, rfl, hq, at3 _ _ _ _ _, _, _, rfl, rfl, ?_⟩
    exact q H (But.refl _ H) (Tups.refl H) hw
  | sum x z y =>
    obtain ⟨r, rfl, i1⟩ := int1 il
    obtain ⟨r, rfl, i2⟩ := int1 i1
    obtain ⟨r, rfl, i3⟩ := opt1 i2
    refine ite_word (d := .sum x z y) (a := "sum") rfl (by decide) ⟨_, rfl, a, _, 0, _, rfl, rfl, hq, at0 _ _, rfl, _, rfl, iteT ?_⟩
    refine ⟨_, rfl, A.x, A.dx, _, rfl, e1, rfl, _, rfl, a, _, 2, _, rfl, rfl, hq, at2 _ _ _ _, A, w, some z, rfl, hw, hok.2.1, _, rfl, A.x, A.dx, _, rfl, e1, rfl, _, rfl, a, _, 3, _, rfl, rfl, hq, at3 _ _ _ _ _, A, w, y, rfl, hw, hok.2.2, _, _, rfl, rfl, ?_⟩
    exact q H (But.refl _ H) (Tups.refl H) hw
  | len x r =>
    obtain ⟨r1, rfl, i1⟩ := int1 il
    obtain ⟨r1, rfl, i2⟩ := int1 i1
    have hr2 : r < w.rows.length := hok.2
    have hra : r < A.rs.length := by rw [hw.rlen]; exact hr2
    have era := List.getElem?_eq_getElem hra
    have err := List.getElem?_eq_getElem hr2
    refine ite_word (d := .len x r) (a := "len") rfl (by decide) ⟨_, rfl, a, _, 0, _, rfl, rfl, hq, at0 _ _, rfl, _, rfl, ite_word (d := .len x r) (a := "len") rfl (by decide) ⟨_, rfl, a, _, 0, _, rfl, rfl, hq, at0 _ _, rfl, _, rfl, iteT ?_⟩⟩
    refine ⟨_, rfl, A.x, A.dx, _, _, rfl, e1, rfl, _, rfl, a, _, 2, _, rfl, rfl, hq, at2 _ _ _ _, A.ar, _, _, .ref A.rs[r], rfl, rfl, SqL.of hw.rows, atI_nat (j := r) (by rw [List.getElem?_map, era]; rfl), A.rs[r], _, rfl, .inl (SqL.of (hw.row r _ _ era err)), ?_⟩
    have ev : (((intsV w.rows[r]).length : Nat) : Int) = Deed.val w.rows w.mem (.len x r) := by
      show (((w.rows[r]).map V.int).length : Int) = ((w.rows[r]?.getD []).length : Int)
      rw [List.length_map, err]; rfl
    rw [ev]
    exact q H (But.refl _ H) (Tups.refl H) hw
  | take x =>
    refine ite_word (d := .take x) (a := "take") rfl (by decide) ⟨_, rfl, a, _, 0, _, rfl, rfl, hq, at0 _ _, rfl, _, rfl, ite_word (d := .take x) (a := "take") rfl (by decide) ⟨_, rfl, a, _, 0, _, rfl, rfl, hq, at0 _ _, rfl, _, rfl, ite_word (d := .take x) (a := "take") rfl (by decide) ⟨_, rfl, a, _, 0, _, rfl, rfl, hq, at0 _ _, rfl, _, rfl, iteT ?_⟩⟩⟩
    refine ⟨_, rfl, A.x, A.dx, _, _, rfl, e1, rfl, !(intsV w.coming).isEmpty, .inl ⟨_, SqL.of hw.coming, rfl⟩, ?_⟩
    cases hc : w.coming with
    | nil =>
      refine iteF ?_
      have ev : (0 : Int) = Deed.val w.rows w.mem (.take x) := by show (0 : Int) = w.coming.headD 0; rw [hc]; rfl
      have er : w.coming = Deed.rest w.mem (.take x) := by show w.coming = w.coming.tail; rw [hc]; rfl
      rw [ev]
      exact q H (But.refl _ H) (Tups.refl H) (by rw [← er]; exact hw)
    | cons c cs =>
      have hcm : H A.ac = some (.lst (.int c :: intsV cs)) := by rw [hw.coming, hc]; rfl
      refine iteT ⟨_, rfl, A.x, A.dx, _, _, rfl, e1, rfl, .inl ⟨rfl, _, SqL.of hcm⟩, A.ac, _, 0, 0, .int c, rfl, rfl, hcm, by decide, by decide, (by simp [seqIndex?]), rfl, ?_⟩
      have ev : c = Deed.val w.rows w.mem (.take x) := by show c = w.coming.headD 0; rw [hc]; rfl
      have er : cs = Deed.rest w.mem (.take x) := by show cs = w.coming.tail; rw [hc]; rfl
      have e0 : (V.int c :: intsV cs).eraseIdx 0 = intsV cs := rfl
      rw [e0, ev, er]
      exact q _ (But.upd (by simp [WA.all])) (Tups.lst hw.coming) (hw.setComing _)
  | tell x => exact absurd rfl hnn
  | put r y c z => exact absurd rfl hnn
  | get x r y c =>
    refine ite_word (d := .get x r y c) (a := "get") rfl (by decide) ⟨_, rfl, a, _, 0, _, rfl, rfl, hq, at0 _ _, rfl, _, rfl, ite_word (d := .get x r y c) (a := "get") rfl (by decide) ⟨_, rfl, a, _, 0, _, rfl, rfl, hq, at0 _ _, rfl, _, rfl, ite_word (d := .get x r y c) (a := "get") rfl (by decide) ⟨_, rfl, a, _, 0, _, rfl, rfl, hq, at0 _ _, rfl, _, rfl, ite_word (d := .get x r y c) (a := "get") rfl (by decide) ?_⟩⟩⟩
    have hs : (Deed.get x r y c).slot = some (r, y, c) := rfl
    obtain ⟨p0, p1⟩ := look_in hs hlk
    have hr2 : r < w.rows.length := hok.2.1
    have hra : r < A.rs.length := by rw [hw.rlen]; exact hr2
    have era := List.getElem?_eq_getElem hra
    have err := List.getElem?_eq_getElem hr2
    refine ⟨_, rfl, A.x, A.dx, _, rfl, e1, rfl, _, rfl, A, w, .get x r y c, k, .ref a, (r, y, c), A.rs[r], rfl, hw, hi, hs, era, fun H1 s1 => ?_⟩
    have hw1 := hw.same s1
    refine ⟨_, rfl, _, rfl, A.x, A.dx, _, rfl, s1 _ _ e1, rfl, _, rfl, A, w, .get x r y c, k, .ref a, (r, y, c), rfl, hw1, hi.mono s1.tups, hs, hok.2.2, fun H2 s2 => ?_⟩
    rw [err] at p1
    have p0' : (0 : Int) ≤ worth w.nums y + c := p0
    have p1' : worth w.nums y + c < (w.rows[r].length : Int) := p1
    obtain ⟨pp, epp, hpp⟩ : ∃ pp : Nat, worth w.nums y + c = (pp : Int) ∧ pp < w.rows[r].length := ⟨(worth w.nums y + c).toNat, by omega, by omega⟩
    have ev : (w.rows[r])[pp]?.getD 0 = Deed.val w.rows w.mem (.get x r y c) := by
      show _ = (w.rows[r]?.getD [])[(worth w.nums y + c).toNat]?.getD 0
      rw [epp, err, Int.toNat_natCast]; rfl
    refine ⟨A.rs[r], _, _, _, rfl, rfl, SqL.of (s2 _ _ (hw1.row r _ _ era err)), (by show atI _ (worth w.nums y + c) = _; rw [epp]; exact atI_nat (at_ints hpp)), ?_⟩
    rw [ev]
    exact q H2 (But.of_same (s1.trans s2)) (s1.trans s2).tups (hw1.same s2)
theorem WalkAt.numsLenR {H : Hp} {A : WA} {w : WS} (_ : WalkAt K H C A w) {l : List Int} : (intsV l).length = l.length := by unfold intsV; rw [List.length_map]
theorem ints_set {l : List Int} {i : Nat} {v : Int} : (intsV l).set i (.int v) = intsV (l.set i v) := by unfold intsV; rw [List.map_set]
theorem ixN_nat {n i : Nat} (h : i < n) : ixN n (i : Int) = some i := by
  unfold ixN
  rw [if_pos (by omega), if_pos (by omega)]
  rfl
theorem ok_Walk_do (F : Fun K "do" "Walk.do" s_Walk_do f fd) (W : WC K C) (c_gives : Cl P w K mg base "gives" n ["line"] (spGives K)) (c_Walk_result : ClM P w K mg base C "result" n ["self", "line"] (spResult K C)) (c_Walk_row : ClM P w K mg base C "row" n ["self", "line"] (spRow K C)) (c_Walk_place : ClM P w K mg base C "place" n ["self", "line"] (spPlaceAt K C)) :
    FnOk P w K mg base CX0 (n + 1) f fd ["self", "line"] (spDo K C) := by
  refine F.ok sc_Walk_do (fun vs H Q E h => ?_) (fun cdv A outer s H vs Q E hr h => ?_)
  · obtain ⟨A, w, l, v, rfl, _⟩ := h
    rfl
  obtain ⟨A, w, l, v, rfl, hw, hi, h⟩ := h
  have sc := sc_Walk_do
  refine ⟨_, (@pss_cons _ _ _ _ _ (ps_set (i := 2) sc.nd rfl (Or.inl rfl) (pe_cl c_gives hr rfl (pa_cons (pv 1) pa_nil)))
      (pss_one (ps_if (pt_cmpR op_notN (pv 2) pe_non (nomark _)) (pss_one (ps_asg (pe_mcl (pv 0) c_Walk_result hr (pa_cons (pv 1) pa_nil)) (pg_sub (pe_sf W.cl W.na_numbers (pv 0)) (pv 2) set_list))) (pss_one (ps_if (pt_cmpR op_eq (pe_ix ix_tup (pv 1) pe_int (fun _ _ => rfl)) pe_str (nomark _)) (@pss_cons _ _ _ _ _ (ps_set (i := 3) sc.nd rfl (Or.inl rfl) (pe_mcl (pv 0) c_Walk_row hr (pa_cons (pv 1) pa_nil)))
      (pss_one (ps_asg (pe_ix ix_list (pe_sf W.cl W.na_numbers (pv 0)) (pe_ix ix_tup (pv 1) pe_int (fun _ _ => rfl)) (fun _ _ => rfl)) (pg_sub (pv 3) (pe_mcl (pv 0) c_Walk_place hr (pa_cons (pv 1) pa_nil)) set_list)))) (pss_one (ps_if (pt_cmpR op_eq (pe_ix ix_tup (pv 1) pe_int (fun _ _ => rfl)) pe_str (nomark _)) (pss_one (ps_expr (pe_bm PySem.F.plainAttrs_list PySem.F.slot_list_append PySem.F.type_list_append mt_append (pe_sf W.cl W.na_heard (pv 0)) (pa_cons (pe_ix ix_list (pe_sf W.cl W.na_numbers (pv 0)) (pe_ix ix_tup (pv 1) pe_int (fun _ _ => rfl)) (fun _ _ => rfl)) pa_nil)))) pss_nil))))))), ?_⟩
  refine ⟨_, rfl, l, v, rfl, hi, ?_⟩
  rcases h with ⟨d, k, rfl, hok, hlk, h900, q⟩ | ⟨y, u, c, k, m, rfl, q⟩
  rotate_left
  · obtain ⟨a, vs, rfl, hq, il⟩ := ln_inv hi
    exact ⟨_, rfl, rfl, _, rfl, iteF ⟨_, rfl, a, _, 0, _, rfl, rfl, hq, at0 _ _, rfl, _, rfl, iteF ⟨_, rfl, a, _, 0, _, rfl, rfl, hq, at0 _ _, rfl, _, rfl, iteF q⟩⟩⟩
  obtain ⟨en, e1, e2⟩ := hw.ins
  have main : ∀ (x : Nat), x < w.nums.length → d.name? = .int (x : Int) → d.rows w.rows w.mem = w.rows → d.run w.rows w.mem = ⟨w.nums.set x (d.val w.rows w.mem), d.rest w.mem, w.heard⟩ → ∀ H1, But A.all H H1 → Tups H H1 → WalkAt K H1 C A { w with coming := d.rest w.mem } →
      (∃ l, H1 A.an = some (.lst l) ∧ l = intsV w.nums ∧ ixN l.length (x : Int) = some x) ∧ Q .non (upd H1 A.an (.lst ((intsV w.nums).set x (.int (d.val w.rows w.mem))))) := by
    intro x hx hnm hrw hrun H1 b1 t1 hw1
    refine ⟨⟨_, hw1.nums, rfl, by unfold intsV; rw [List.length_map]; exact ixN_nat hx⟩, ?_⟩
    rw [ints_set]
    refine q _ (b1.trans (But.upd (by simp [WA.all]))) (t1.trans (Tups.lst hw1.nums)) ?_
    have := hw1.setNums (w.nums.set x (d.val w.rows w.mem))
    rw [hrun, hrw]
    exact this
  cases d with
  | tell x =>
    obtain ⟨a, vs, rfl, hq, il⟩ := ln_inv hi
    obtain ⟨r, rfl, il⟩ := int1 il
    have hx : x < w.nums.length := hok
    refine ⟨_, rfl, rfl, _, rfl, iteF ?_⟩
    refine ⟨_, rfl, a, _, 0, _, rfl, rfl, hq, at0 _ _, rfl, _, rfl, ite_word (d := .tell x) (a := "tell") rfl (by decide) ⟨_, rfl, a, _, 0, _, rfl, rfl, hq, at0 _ _, rfl, _, rfl, iteT ?_⟩⟩
    refine ⟨_, rfl, A.x, A.dx, _, _, rfl, e1, rfl, .inl ⟨rfl, _, SqL.of hw.heard⟩, _, rfl, A.x, A.dx, _, _, rfl, e1, rfl, _, rfl, a, _, 1, _, rfl, rfl, hq, at1 _ _ _, A.an, _, _, _, rfl, rfl, SqL.of hw.nums, atI_nat (at_ints hx), A.ah, _, _, rfl, rfl, hw.heard, small1000 (by unfold intsV; rw [List.length_map]; omega), ?_⟩
    have eh : intsV w.heard ++ [V.int (w.nums[x]?.getD 0)] = intsV (w.heard ++ [w.nums[x]?.getD 0]) := by unfold intsV; rw [List.map_append]; rfl
    rw [eh]
    exact q _ (But.upd (by simp [WA.all])) (Tups.lst hw.heard) (hw.setHeard _)
  | set x y c =>
    refine ⟨_, rfl, rfl, _, rfl, iteT ⟨_, rfl, A.x, A.dx, _, rfl, e1, rfl, _, rfl, A, w, .set x y c, k, v, rfl, hw, hi, hok, hlk, (fun z => by cases z), fun H1 b1 t1 hw1 => ?_⟩⟩
    obtain ⟨⟨l, g1, rfl, g2⟩, g3⟩ := main x hok.1 rfl rfl rfl H1 b1 t1 hw1
    obtain ⟨en1, e11, _⟩ := hw1.ins
    exact ⟨_, rfl, A.x, A.dx, _, _, rfl, e11, rfl, _, rfl, A.an, _, _, x, rfl, rfl, g1, g2, g3⟩
  | sum x z y =>
    refine ⟨_, rfl, rfl, _, rfl, iteT ⟨_, rfl, A.x, A.dx, _, rfl, e1, rfl, _, rfl, A, w, .sum x z y, k, v, rfl, hw, hi, hok, hlk, (fun z => by cases z), fun H1 b1 t1 hw1 => ?_⟩⟩
    obtain ⟨⟨l, g1, rfl, g2⟩, g3⟩ := main x hok.1 rfl rfl rfl H1 b1 t1 hw1
    obtain ⟨en1, e11, _⟩ := hw1.ins
    exact ⟨_, rfl, A.x, A.dx, _, _, rfl, e11, rfl, _, rfl, A.an, _, _, x, rfl, rfl, g1, g2, g3⟩
  | len x r =>
    refine ⟨_, rfl, rfl, _, rfl, iteT ⟨_, rfl, A.x, A.dx, _, rfl, e1, rfl, _, rfl, A, w, .len x r, k, v, rfl, hw, hi, hok, hlk, (fun z => by cases z), fun H1 b1 t1 hw1 => ?_⟩⟩
    obtain ⟨⟨l, g1, rfl, g2⟩, g3⟩ := main x hok.1 rfl rfl rfl H1 b1 t1 hw1
    obtain ⟨en1, e11, _⟩ := hw1.ins
    exact ⟨_, rfl, A.x, A.dx, _, _, rfl, e11, rfl, _, rfl, A.an, _, _, x, rfl, rfl, g1, g2, g3⟩
  | take x =>
    refine ⟨_, rfl, rfl, _, rfl, iteT ⟨_, rfl, A.x, A.dx, _, rfl, e1, rfl, _, rfl, A, w, .take x, k, v, rfl, hw, hi, hok, hlk, (fun z => by cases z), fun H1 b1 t1 hw1 => ?_⟩⟩
    obtain ⟨⟨l, g1, rfl, g2⟩, g3⟩ := main x hok rfl rfl rfl H1 b1 t1 hw1
    obtain ⟨en1, e11, _⟩ := hw1.ins
    exact ⟨_, rfl, A.x, A.dx, _, _, rfl, e11, rfl, _, rfl, A.an, _, _, x, rfl, rfl, g1, g2, g3⟩
  | get x r y c =>
    refine ⟨_, rfl, rfl, _, rfl, iteT ⟨_, rfl, A.x, A.dx, _, rfl, e1, rfl, _, rfl, A, w, .get x r y c, k, v, rfl, hw, hi, hok, hlk, (fun z => by cases z), fun H1 b1 t1 hw1 => ?_⟩⟩
    obtain ⟨⟨l, g1, rfl, g2⟩, g3⟩ := main x hok.1 rfl rfl rfl H1 b1 t1 hw1
    obtain ⟨en1, e11, _⟩ := hw1.ins
    exact ⟨_, rfl, A.x, A.dx, _, _, rfl, e11, rfl, _, rfl, A.an, _, _, x, rfl, rfl, g1, g2, g3⟩
  | put r y c z =>
    obtain ⟨a, vs, rfl, hq, il⟩ := ln_inv hi
    obtain ⟨r1, rfl, i1⟩ := int1 il
    obtain ⟨r2, rfl, i2⟩ := opt1 i1
    obtain ⟨r3, rfl, i3⟩ := int1 i2
    obtain ⟨r4, rfl, i4⟩ := int1 i3
    have hs : (Deed.put r y c z).slot = some (r, y, c) := rfl
    obtain ⟨p0, p1⟩ := look_in hs hlk
    have hr2 : r < w.rows.length := hok.1
    have hra : r < A.rs.length := by rw [hw.rlen]; exact hr2
    have era := List.getElem?_eq_getElem hra
    have err := List.getElem?_eq_getElem hr2
    rw [err] at p1
    have p0' : (0 : Int) ≤ worth w.nums y + c := p0
    have p1' : worth w.nums y + c < (w.rows[r].length : Int) := p1
    obtain ⟨pp, epp, hpp⟩ : ∃ pp : Nat, worth w.nums y + c = (pp : Int) ∧ pp < w.rows[r].length := ⟨(worth w.nums y + c).toNat, by omega, by omega⟩
    have hz : z < w.nums.length := hok.2.2
    refine ⟨_, rfl, rfl, _, rfl, iteF ⟨_, rfl, a, _, 0, _, rfl, rfl, hq, at0 _ _, rfl, _, rfl, iteT ?_⟩⟩
    refine ⟨_, rfl, A.x, A.dx, _, rfl, e1, rfl, _, rfl, A, w, .put r y c z, k, .ref a, (r, y, c), A.rs[r], rfl, hw, hi, hs, era, fun H1 s1 => ?_⟩
    have hw1 := hw.same s1
    have hq1 := s1.tups.sq hq
    refine ⟨_, rfl, A.x, A.dx, _, _, rfl, s1 _ _ e1, rfl, _, rfl, a, _, 4, _, rfl, rfl, hq1, at4 _ _ _ _ _ _, A.an, _, _, _, rfl, rfl, SqL.of hw1.nums, atI_nat (at_ints hz), ?_⟩
    refine ⟨_, rfl, _, rfl, A.x, A.dx, _, rfl, s1 _ _ e1, rfl, _, rfl, A, w, .put r y c z, k, .ref a, (r, y, c), rfl, hw1, hi.mono s1.tups, hs, hok.2.1, fun H2 s2 => ?_⟩
    have hw2 := hw1.same s2
    refine ⟨A.rs[r], _, _, pp, rfl, rfl, hw2.row r _ _ era err, (by show ixN _ (worth w.nums y + c) = _; rw [epp, hw.numsLenR]; exact ixN_nat hpp), ?_⟩
    rw [ints_set]
    have hset := hw2.setRow era err (w.rows[r].set pp (w.nums[z]?.getD 0))
    have er : Deed.rows w.rows w.mem (.put r y c z) = w.rows.set r (w.rows[r].set pp (w.nums[z]?.getD 0)) := by
      show w.rows.set r ((w.rows[r]?.getD []).set (worth w.nums y + c).toNat (worth w.nums (some z))) = _
      rw [epp, err, Int.toNat_natCast]; rfl
    refine q _ ((But.of_same (s1.trans s2)).trans (But.upd (by simp [WA.all, List.mem_of_getElem? era]))) ((s1.trans s2).tups.trans (Tups.lst (hw2.row r _ _ era err))) ?_
    rw [er]
    exact hset
end
end K25
set_option Elab.async false
set_option linter.all false
set_option maxRecDepth 100000
set_option maxHeartbeats 4000000
namespace K25
open PySem PySem.Spec PyProof.Rows L2
noncomputable abbrev s_Walk_ending : Stmt := (inClass (top 11) 5)
noncomputable abbrev s_Walk_pass_asks : Stmt := (inClass (top 11) 4)
noncomputable abbrev s_Walk_step : Stmt := (inClass (top 11) 1)
noncomputable abbrev s_Walk_frame : Stmt := (inClass (top 11) 3)
theorem sc_Walk_ending : FnScope ["self", "line", "look"] ["self", "line"] (defScope s_Walk_ending) := ⟨rfl, rfl, rfl, by decide +kernel, rfl, by decide +kernel, by decide +kernel⟩
theorem sc_Walk_pass_asks : FnScope ["self"] ["self"] (defScope s_Walk_pass_asks) := ⟨rfl, rfl, rfl, by decide +kernel, rfl, by decide +kernel, by decide +kernel⟩
theorem sc_Walk_step : FnScope ["self", "line", "word"] ["self"] (defScope s_Walk_step) := ⟨rfl, rfl, rfl, by decide +kernel, rfl, by decide +kernel, by decide +kernel⟩
theorem sc_Walk_frame : FnScope ["self"] ["self"] (defScope s_Walk_frame) := ⟨rfl, rfl, rfl, by decide +kernel, rfl, by decide +kernel, by decide +kernel⟩
noncomputable def Ln.calm : Ln → Prop
  | .ask .. => False
  | _ => True
inductive Pass (ls : List Ln) (nums : List Int) (rows : List (List Int)) : Nat → Nat → Nat → Prop
  | here {i : Nat} {l : Ln} : ls[i]? = some l → l.calm → Pass ls nums rows 0 i i
  | go {n i j : Nat} {bs : List Bd} {k m : Nat} : ls[i]? = some (.ask bs k m) → Pass ls nums rows n ((Ln.ask bs k m).next nums rows) j → Pass ls nums rows (n + 1) i j
noncomputable def AllOk (ls : List Ln) (nm rw : Nat) : Prop := ∀ l ∈ ls, l.Ok nm rw ls.length
noncomputable def Ln.look (nums : List Int) (rows : List (List Int)) : Ln → Option Str
  | .deed d _ => d.look nums rows
  | _ => none
noncomputable def Ln.ending (w : WS) (l : Ln) : Option Str := match l with
  | .stop => some ("end" : Str)
  | l => match l.look w.nums w.rows with
    | some z => some z
    | none => if w.budget ≤ w.done then some ("spent" : Str) else none
noncomputable def spEnding (K : PySem.W.Frag) (C : Addr) : Sp := fun vs H Q _ => ExQ Q (fun (A : WA) Q => ExQ Q (fun (w : WS) Q => ExQ Q (fun (l : Ln) Q => ExQ Q (fun (nl : Nat) Q => ExQ Q (fun (v : V) Q => vs = [.ref A.x, v] ∧ WalkAt K H C A w ∧ Is K H l.D v ∧ l.Ok w.nums.length w.rows.length nl ∧ ∀ H', Same H H' → Q (lookV (l.ending w)) H')))))
noncomputable def spPass (K : PySem.W.Frag) (C : Addr) : Sp := fun vs H Q _ => ExQ Q (fun (A : WA) Q => ExQ Q (fun (w : WS) Q => ExQ Q (fun (ls : List Ln) Q => ExQ Q (fun (n : Nat) Q => ExQ Q (fun (j : Nat) Q => vs = [.ref A.x] ∧ WalkAt K H C A w ∧ w.ds = ls.map Ln.D ∧ AllOk ls w.nums.length w.rows.length ∧ Pass ls w.nums w.rows n w.at_ j ∧
  ∀ H', But A.all H H' → Tups H H' → WalkAt K H' C A { w with at_ := j } → Q .non H')))))
noncomputable def Ln.run (rows : List (List Int)) (m : Mem) : Ln → Mem
  | .deed d _ => d.run rows m
  | _ => m
noncomputable def Ln.rows (rows : List (List Int)) (m : Mem) : Ln → List (List Int)
  | .deed d _ => d.rows rows m
  | _ => rows
noncomputable def WS.next (w : WS) (j : Nat) (l : Ln) : WS := match l.ending w with
  | some z => { w with at_ := j, ended := some (z, j) }
  | none => { w.setMem (l.run w.rows w.mem) with rows := l.rows w.rows w.mem, at_ := l.next w.nums w.rows, done := w.done + 1 }
structure Sized (w : WS) : Prop where
  rows : w.rows.length ≤ 100
  row : ∀ r ∈ w.rows, r.length ≤ 1000
  heard : w.heard.length ≤ 900
  nums : w.nums.length ≤ 100
noncomputable def spStep (K : PySem.W.Frag) (C : Addr) : Sp := fun vs H Q _ => ExQ Q (fun (A : WA) Q => ExQ Q (fun (w : WS) Q => vs = [.ref A.x] ∧ WalkAt K H C A w ∧ ((w.ended ≠ none ∧ Q .non H) ∨
  ExQ Q (fun (ls : List Ln) Q => ExQ Q (fun (n : Nat) Q => ExQ Q (fun (j : Nat) Q => ExQ Q (fun (l : Ln) Q => w.ended = none ∧ w.ds = ls.map Ln.D ∧ AllOk ls w.nums.length w.rows.length ∧ Pass ls w.nums w.rows n w.at_ j ∧ ls[j]? = some l ∧ l.calm ∧ Sized w ∧ ∀ H', But A.all H H' → Tups H H' → WalkAt K H' C A (w.next j l) → Q .non H')))))))
noncomputable def spFrame (K : PySem.W.Frag) (C : Addr) : Sp := fun vs H Q _ => ExQ Q (fun (A : WA) Q => ExQ Q (fun (w : WS) Q => vs = [.ref A.x] ∧ WalkAt K H C A w ∧
  ∀ H' t l1, Same H H' → H' t = some (.tup [.int (w.at_ : Int), .ref l1]) → H' l1 = some (.lst (intsV w.nums)) → H l1 = none → Q (.ref t) H'))
section
variable {P : Program} {w : World} {K : PySem.W.Frag} {mg : Str → Option Value} {base : Heap} {f : Addr} {fd : FuncData} {n : Nat} {C : Addr} {a_GIVING a_PLACING : Addr}
theorem ok_Walk_ending (F : Fun K "ending" "Walk.ending" s_Walk_ending f fd) (W : WC K C) (c_is_place : Cl P w K mg base "is_place" n ["line"] (spPlace K)) (c_Walk_failed_look : ClM P w K mg base C "failed_look" n ["self", "line"] (spFailed K C)) :
    FnOk P w K mg base CX0 (n + 1) f fd ["self", "line"] (spEnding K C) := by
  refine F.ok sc_Walk_ending (fun vs H Q E h => ?_) (fun cdv A outer s H vs Q E hr h => ?_)
  · obtain ⟨A, w, l, nl, v, rfl, _⟩ := h
    rfl
  obtain ⟨A, w, l, nl, v, rfl, hw, hi, hok, q⟩ := h
  have sc := sc_Walk_ending
  refine ⟨_, (@pss_cons _ _ _ _ _ (ps_if (pt_cmpR op_eq (pe_ix ix_tup (pv 1) pe_int (fun _ _ => rfl)) pe_str (nomark _)) (pss_one (ps_ret pe_str)) pss_nil)
      (@pss_cons _ _ _ _ _ (ps_if (pt_val (pe_cl c_is_place hr rfl (pa_cons (pv 1) pa_nil))) (@pss_cons _ _ _ _ _ (ps_set (i := 2) sc.nd rfl (Or.inl rfl) (pe_mcl (pv 0) c_Walk_failed_look hr (pa_cons (pv 1) pa_nil)))
      (pss_one (ps_if (pt_cmpR op_notN (pv 2) pe_non (nomark _)) (pss_one (ps_ret (pv 2))) pss_nil))) pss_nil)
      (pss_one (ps_ret (pe_ifExp (pt_cmpR op_ge (pe_sf W.cl W.na_done (pv 0)) (pe_sf W.cl W.na_budget (pv 0)) (nomark _)) pe_str pe_non))))), ?_⟩
  obtain ⟨en, e1, e2⟩ := hw.ins
  obtain ⟨a, vs, rfl, hq, il⟩ := ln_inv hi
  refine ⟨_, rfl, a, _, 0, _, rfl, rfl, hq, at0 _ _, rfl, _, rfl, ?_⟩
  by_cases hs : l = .stop
  · subst hs
    exact iteT (q H (Same.refl H))
  have hn : l.word ≠ "end" := by
    cases l with
    | deed d k => exact word_not (by decide)
    | test y u c k m => exact (by decide : ("test" : Str) ≠ "end")
    | ask bs k m => exact (by decide : ("ask" : Str) ≠ "end")
    | stop => exact absurd rfl hs
  rw [decide_eq_false (show ¬ V.str l.word = V.str "end" from fun z => hn (V.str.inj z))]
  refine iteF ⟨_, rfl, l, .ref a, rfl, hi, _, rfl, ?_⟩
  cases hp : l.isPlace with
  | false =>
    have hlk : l.look w.nums w.rows = none := by
      cases l with
      | deed d k =>
        have : d.slot.isSome = false := hp
        show d.look w.nums w.rows = none
        unfold Deed.look
        cases e : d.slot with
        | none => rfl
        | some s => rw [e] at this; cases this
      | _ => rfl
    have hq2 : l.ending w = if w.budget ≤ w.done then some ("spent" : Str) else none := by
      cases l with
      | stop => exact absurd rfl hs
      | deed d k => show (match d.look w.nums w.rows with | some z => some z | none => _) = _; rw [show d.look w.nums w.rows = none from hlk]
      | test y u c k m => rfl
      | ask bs k m => rfl
    rw [hq2] at q
    refine iteF ?_
    refine ⟨_, rfl, A.x, A.dx, _, _, rfl, e1, rfl, _, rfl, A.x, A.dx, _, _, rfl, e1, rfl, _, _, rfl, rfl, _, rfl, ?_⟩
    have q0 := q H (Same.refl H)
    by_cases hb : w.budget ≤ w.done
    · rw [decide_eq_true hb]
      rw [if_pos hb] at q0
      exact iteT q0
    · rw [decide_eq_false hb]
      rw [if_neg hb] at q0
      exact iteF q0
  | true =>
    cases l with
    | test y u c k m => cases hp
    | ask bs k m => cases hp
    | stop => cases hp
    | deed d k =>
      have hp' : d.slot.isSome = true := hp
      obtain ⟨s, es⟩ := Option.isSome_iff_exists.mp hp'
      have hq2 : (Ln.deed d k).ending w = match lookAt w.nums w.rows s with | some z => some z | none => if w.budget ≤ w.done then some ("spent" : Str) else none := by
        show (match d.look w.nums w.rows with | some z => some z | none => _) = _
        have : d.look w.nums w.rows = lookAt w.nums w.rows s := by unfold Deed.look; rw [es]
        rw [this]
      rw [hq2] at q
      refine iteT ⟨_, rfl, A.x, A.dx, _, rfl, e1, rfl, _, rfl, A, w, d, k, .ref a, s, rfl, hw, hi, es, hok.1, fun H1 s1 => ?_⟩
      have q1 := q H1 s1
      refine ⟨_, rfl, rfl, _, rfl, ?_⟩
      cases e : lookAt w.nums w.rows s with
      | some z =>
        rw [e] at q1
        exact iteT ⟨_, rfl, q1⟩
      | none =>
        rw [e] at q1
        have e11 := s1 _ _ e1
        refine iteF ⟨_, rfl, A.x, A.dx, _, _, rfl, e11, rfl, _, rfl, A.x, A.dx, _, _, rfl, e11, rfl, _, _, rfl, rfl, _, rfl, ?_⟩
        by_cases hb : w.budget ≤ w.done
        · rw [decide_eq_true hb]
          have q2 : Q (lookV (if w.budget ≤ w.done then some ("spent" : Str) else none)) H1 := q1
          rw [if_pos hb] at q2
          exact iteT q2
        · rw [decide_eq_false hb]
          have q2 : Q (lookV (if w.budget ≤ w.done then some ("spent" : Str) else none)) H1 := q1
          rw [if_neg hb] at q2
          exact iteF q2
theorem ln_here {H : Hp} {A : WA} {w : WS} {ls : List Ln} {i : Nat} {l : Ln} (hw : WalkAt K H C A w) (hd : w.ds = ls.map Ln.D) (hl : ls[i]? = some l) : ∃ xs v, H A.al = some (.lst xs) ∧ atI xs (i : Int) = some v ∧ Is K H l.D v := by
  obtain ⟨xs, l1, l2⟩ := hw.lines
  rw [hd] at l2
  obtain ⟨v, ev, iv⟩ := l2.get (j := i) (d := l.D) (by rw [List.getElem?_map, hl]; rfl)
  exact ⟨xs, v, l1, atI_nat ev, iv⟩
theorem calm_word {l : Ln} (h : l.calm) : l.word ≠ "ask" := by
  cases l with
  | deed d k => exact word_not (by decide)
  | test y u c k m => exact (by decide : ("test" : Str) ≠ "ask")
  | ask bs k m => exact h.elim
  | stop => exact (by decide : ("end" : Str) ≠ "ask")
theorem ok_Walk_pass_asks (F : Fun K "pass_asks" "Walk.pass_asks" s_Walk_pass_asks f fd) (W : WC K C) (c_is_ask : Cl P w K mg base "is_ask" n ["line"] (spIsAsk K)) (c_Walk_go_on : ClM P w K mg base C "go_on" n ["self", "line"] (spGoOn K C)) : FnOk P w K mg base CX0 (n + 1) f fd ["self"] (spPass K C) := by
  refine F.ok sc_Walk_pass_asks (fun vs H Q E h => ?_) (fun cdv A outer s H vs Q E hr h => ?_)
  · obtain ⟨A, w, ls, n, j, rfl, _⟩ := h
    rfl
  obtain ⟨A, w, ls, n, j, rfl, hw, hds, hok, hp, q⟩ := h
  have sc := sc_Walk_pass_asks
  refine ⟨_, (pss_one (ps_while PassesOwn.never (pt_val (pe_cl c_is_ask hr rfl (pa_cons (pe_ix ix_list (pe_sf W.cl W.na_lines (pv 0)) (pe_sf W.cl W.na_at (pv 0)) (fun _ _ => rfl)) pa_nil))) (pss_one (ps_expr (pe_mcl (pv 0) c_Walk_go_on hr (pa_cons (pe_ix ix_list (pe_sf W.cl W.na_lines (pv 0)) (pe_sf W.cl W.na_at (pv 0)) (fun _ _ => rfl)) pa_nil)))))), ?_⟩
  refine ⟨fun m σ H' => σ = [some (.ref A.x)] ∧ ∃ i, Pass ls w.nums w.rows m i j ∧ But A.all H H' ∧ Tups H H' ∧ WalkAt K H' C A { w with at_ := i }, ⟨n, rfl, w.at_, hp, But.refl _ _, (Same.refl H).tups, hw⟩, fun m σ H' h => ?_⟩
  obtain ⟨rfl, i, hp, bb, tt, hw'⟩ := h
  obtain ⟨en, e1, e2⟩ := hw'.ins
  cases hp with
  | here hl hc =>
    rename_i l
    obtain ⟨xs, v, l1, ev, iv⟩ := ln_here hw' hds hl
    refine ⟨_, rfl, A.x, A.dx, _, _, rfl, e1, rfl, _, rfl, A.x, A.dx, _, _, rfl, e1, rfl, A.al, xs, _, v, rfl, rfl, SqL.of l1, ev, v, l.word, l.args, rfl, iv, _, rfl, ?_⟩
    rw [decide_eq_false (calm_word hc)]
    exact iteF (q _ bb tt hw')
  | go hl hp2 =>
    rename_i n2 bs k m2
    obtain ⟨xs, v, l1, ev, iv⟩ := ln_here hw' hds hl
    refine ⟨_, rfl, A.x, A.dx, _, _, rfl, e1, rfl, _, rfl, A.x, A.dx, _, _, rfl, e1, rfl, A.al, xs, _, v, rfl, rfl, SqL.of l1, ev, v, "ask", (Ln.ask bs k m2).args, rfl, iv, _, rfl, iteT ?_⟩
    refine ⟨fun σ' H2 => σ' = [some (.ref A.x)] ∧ ∃ i, Pass ls w.nums w.rows n2 i j ∧ But A.all H H2 ∧ Tups H H2 ∧ WalkAt K H2 C A { w with at_ := i }, fun σ' H2 h => ⟨n2, Nat.lt_succ_self _, h⟩, ?_⟩
    refine ⟨_, rfl, A.x, A.dx, _, rfl, e1, rfl, _, rfl, A.x, A.dx, _, _, rfl, e1, rfl, _, rfl, A.x, A.dx, _, _, rfl, e1, rfl, A.al, xs, _, v, rfl, rfl, SqL.of l1, ev, A, _, .ask bs k m2, ls.length, v, rfl, hw', iv, hok _ (List.mem_of_getElem? hl), (fun z => by cases z), fun H2 b2 t2 hw2 => ?_⟩
    exact ⟨rfl, _, hp2, bb.trans b2, tt.trans t2, hw2⟩
theorem ok_Walk_step (F : Fun K "step" "Walk.step" s_Walk_step f fd) (W : WC K C) (c_Walk_pass_asks : ClM P w K mg base C "pass_asks" n ["self"] (spPass K C)) (c_Walk_ending : ClM P w K mg base C "ending" n ["self", "line"] (spEnding K C)) (c_Walk_do : ClM P w K mg base C "do" n ["self", "line"] (spDo K C))
    (c_Walk_go_on : ClM P w K mg base C "go_on" n ["self", "line"] (spGoOn K C)) : FnOk P w K mg base CX0 (n + 1) f fd ["self"] (spStep K C) := by
  refine F.ok sc_Walk_step (fun vs H Q E h => ?_) (fun cdv A outer s H vs Q E hr h => ?_)
  · obtain ⟨A, w, rfl, _⟩ := h
    rfl
  obtain ⟨A, w, rfl, hw, h⟩ := h
  have sc := sc_Walk_step
  refine ⟨_, (@pss_cons _ _ _ _ _ (ps_if (pt_cmpR op_notN (pe_sf W.cl W.na_ended (pv 0)) pe_non (nomark _)) (pss_one ps_retN) pss_nil)
      (@pss_cons _ _ _ _ _ (ps_expr (pe_mcl0 (pv 0) c_Walk_pass_asks hr))
      (@pss_cons _ _ _ _ _ (ps_set (i := 1) sc.nd rfl (Or.inl rfl) (pe_ix ix_list (pe_sf W.cl W.na_lines (pv 0)) (pe_sf W.cl W.na_at (pv 0)) (fun _ _ => rfl)))
      (@pss_cons _ _ _ _ _ (ps_set (i := 2) sc.nd rfl (Or.inl rfl) (pe_mcl (pv 0) c_Walk_ending hr (pa_cons (pv 1) pa_nil)))
      (@pss_cons _ _ _ _ _ (ps_if (pt_cmpR op_notN (pv 2) pe_non (nomark _)) (@pss_cons _ _ _ _ _ (ps_sf W.cl W.na_ended (pv 0) (pe_tup (pa_cons (pv 2) (pa_cons (pe_sf W.cl W.na_at (pv 0)) pa_nil))))
      (pss_one ps_retN)) pss_nil)
      (@pss_cons _ _ _ _ _ (ps_expr (pe_mcl (pv 0) c_Walk_do hr (pa_cons (pv 1) pa_nil)))
      (@pss_cons _ _ _ _ _ (ps_expr (pe_mcl (pv 0) c_Walk_go_on hr (pa_cons (pv 1) pa_nil)))
      (pss_one (ps_sfaug W.cl W.na_done (pv 0) pe_int iop_add))))))))), ?_⟩
  obtain ⟨en, e1, e2⟩ := hw.ins
  refine ⟨_, rfl, A.x, A.dx, _, _, rfl, e1, rfl, rfl, _, rfl, ?_⟩
  rcases h with ⟨hne, q⟩ | ⟨ls, n1, j, l, hn, hds, hok, hp, hl, hc, hz, q⟩
  · unfold EndIs at e2
    split at e2
    · exact absurd (by assumption) hne
    · obtain ⟨te, rfl, _⟩ := e2
      exact iteT q
  have en0 : en = .non := by rw [hn] at e2; exact e2
  subst en0
  refine iteF ⟨_, rfl, A.x, A.dx, _, rfl, e1, rfl, A, w, ls, n1, j, rfl, hw, hds, hok, hp, fun H0 b0 t0 hw0 => ?_⟩
  obtain ⟨en0, e10, e20⟩ := hw0.ins
  have en0' : en0 = .non := by have := e20; rw [show ({ w with at_ := j } : WS).ended = none from hn] at this; exact this
  subst en0'
  obtain ⟨xs, v, l1, ev, iv⟩ := ln_here hw0 hds hl
  refine ⟨_, rfl, A.x, A.dx, _, _, rfl, e10, rfl, _, rfl, A.x, A.dx, _, _, rfl, e10, rfl, A.al, xs, _, v, rfl, rfl, SqL.of l1, ev, ?_⟩
  have oka := hok _ (List.mem_of_getElem? hl)
  refine ⟨_, rfl, A.x, A.dx, _, rfl, e10, rfl, _, rfl, A, { w with at_ := j }, l, ls.length, v, rfl, hw0, iv, oka, fun HX sX => ?_⟩
  have hwX := hw0.same sX
  have e1X := sX _ _ e10
  have ivX := iv.mono sX.tups
  have bX := b0.trans (But.of_same (S := A.all) sX)
  have tX := t0.trans sX.tups
  clear hw0 e10 iv b0 t0
  have hending : l.ending { w with at_ := j } = l.ending w := by cases l <;> rfl
  rw [hending]
  cases hst : l.ending w with
  | none =>
    have hnx : w.next j l = { w.setMem (l.run w.rows w.mem) with rows := l.rows w.rows w.mem, at_ := l.next w.nums w.rows, done := w.done + 1 } := by unfold WS.next; rw [hst]
    rw [hnx] at q
    refine ⟨_, rfl, rfl, _, rfl, iteF ?_⟩
    cases l with
    | stop => cases hst
    | ask bs k m => exact hc.elim
    | deed d k =>
      have hlk : d.look w.nums w.rows = none := by
        cases e : d.look w.nums w.rows with
        | none => rfl
        | some z =>
          have : (Ln.deed d k).ending w = some z := by show (match d.look w.nums w.rows with | some z => some z | none => _) = _; rw [e]
          rw [this] at hst; cases hst
      refine ⟨_, rfl, A.x, A.dx, _, rfl, e1X, rfl, _, rfl, A, { w with at_ := j }, .deed d k, v, rfl, hwX, ivX, .inl ⟨d, k, rfl, oka.1, hlk, hz.heard, fun H1 b1 t1 hw1 => ?_⟩⟩
      obtain ⟨en1, e11, e21⟩ := hw1.ins
      have ok1 : (Ln.deed d k).Ok (d.run w.rows w.mem).nums.length (d.rows w.rows w.mem).length ls.length := by
        have e : (d.run w.rows w.mem).nums.length = w.nums.length := by cases d <;> simp [Deed.run, WS.mem]
        have e' : (d.rows w.rows w.mem).length = w.rows.length := by cases d <;> simp [Deed.rows]
        rw [e, e']; exact oka
      refine ⟨_, rfl, A.x, A.dx, _, rfl, e11, rfl, _, rfl, A, _, .deed d k, ls.length, v, rfl, hw1, ivX.mono t1, ok1, (fun z => by cases z), fun H2 b2 t2 hw2 => ?_⟩
      obtain ⟨en2, e12, e22⟩ := hw2.ins
      refine ⟨_, rfl, A.x, A.dx, _, _, rfl, e12, rfl, _, _, rfl, rfl, A.dx, _, e12, (by show 9 < 1000; decide), ?_⟩
      exact q _ (bX.trans (b1.trans (b2.trans (But.upd (by simp [WA.all]))))) (tX.trans (t1.trans (t2.trans (tups_ins e12)))) (hw2.setF (at2 := k) (dn := w.done + 1) (e2 := w.ended) e22)
    | test y u c k m =>
      refine ⟨_, rfl, A.x, A.dx, _, rfl, e1X, rfl, _, rfl, A, { w with at_ := j }, .test y u c k m, v, rfl, hwX, ivX, .inr ⟨y, u, c, k, m, rfl, ?_⟩⟩
      refine ⟨_, rfl, A.x, A.dx, _, rfl, e1X, rfl, _, rfl, A, _, .test y u c k m, ls.length, v, rfl, hwX, ivX, oka, (fun z => by cases z), fun H2 b2 t2 hw2 => ?_⟩
      obtain ⟨en2, e12, e22⟩ := hw2.ins
      refine ⟨_, rfl, A.x, A.dx, _, _, rfl, e12, rfl, _, _, rfl, rfl, A.dx, _, e12, (by show 9 < 1000; decide), ?_⟩
      exact q _ (bX.trans (b2.trans (But.upd (by simp [WA.all])))) (tX.trans (t2.trans (tups_ins e12))) (hw2.setF (at2 := (Ln.test y u c k m).next w.nums w.rows) (dn := w.done + 1) (e2 := w.ended) e22)
  | some z =>
    have hnx : w.next j l = { w with at_ := j, ended := some (z, j) } := by unfold WS.next; rw [hst]
    rw [hnx] at q
    refine ⟨_, rfl, rfl, _, rfl, iteT ?_⟩
    refine ⟨_, rfl, _, rfl, A.x, A.dx, _, _, rfl, e1X, rfl, Nat.le_of_ble_eq_true rfl, fun te nte => ?_⟩
    have s1 := same_new nte (.tup [.str z, .int (j : Int)])
    have hw1 := hwX.same s1
    have e11 := s1 _ _ e1X
    refine ⟨_, rfl, A.x, A.dx, _, rfl, e11, (by show 9 < 1000; decide), ?_⟩
    exact q _ (bX.trans ((But.of_same s1).trans (But.upd (by simp [WA.all])))) (tX.trans (s1.tups.trans (tups_ins e11))) (hw1.setF (at2 := j) (dn := w.done) (e2 := some (z, j)) ⟨te, rfl, upd_same⟩)
theorem ok_Walk_frame (F : Fun K "frame" "Walk.frame" s_Walk_frame f fd) (W : WC K C) (m_list : mg "list" = none) : FnOk P w K mg base CX0 (n + 1) f fd ["self"] (spFrame K C) := by
  refine F.ok sc_Walk_frame (fun vs H Q E h => ?_) (fun cdv A outer s H vs Q E hr h => ?_)
  · obtain ⟨A, w, rfl, _⟩ := h
    rfl
  obtain ⟨A, w, rfl, hw, q⟩ := h
  have sc := sc_Walk_frame
  refine ⟨_, (pss_one (ps_ret (pe_tup (pa_cons (pe_sf W.cl W.na_at (pv 0)) (pa_cons (pe_callTy call_list_of rfl m_list PyProof.Rows.boot_list (pa_cons (pe_sf W.cl W.na_numbers (pv 0)) pa_nil)) pa_nil))))), ?_⟩
  obtain ⟨en, e1, e2⟩ := hw.ins
  refine ⟨_, rfl, A.x, A.dx, _, _, rfl, e1, rfl, _, rfl, A.x, A.dx, _, _, rfl, e1, rfl, A.an, _, rfl, .inl (SqL.of hw.nums), fun l1 n1 => ⟨Nat.le_of_ble_eq_true rfl, fun t nt => ?_⟩⟩
  have s1 := same_new n1 (.lst (intsV w.nums))
  have s2 := same_new nt (.tup [.int (w.at_ : Int), .ref l1])
  exact q _ t l1 (s1.trans s2) upd_same (s2 _ _ upd_same) n1
end
end K25
set_option Elab.async false
set_option linter.all false
set_option maxRecDepth 100000
set_option maxHeartbeats 4000000
namespace K25
open PySem PySem.Spec PyProof.Rows L2
noncomputable abbrev s_Walk_told : Stmt := (inClass (top 11) 2)
noncomputable abbrev s_Walk_init : Stmt := (inClass (top 11) 0)
theorem sc_Walk_told : FnScope ["self"] ["self"] (defScope s_Walk_told) := ⟨rfl, rfl, rfl, by decide +kernel, rfl, by decide +kernel, by decide +kernel⟩
theorem sc_Walk_init : FnScope ["self", "program", "rows", "taken", "budget"] ["self", "program", "rows", "taken", "budget"] (defScope s_Walk_init) := ⟨rfl, rfl, rfl, by decide +kernel, rfl, by decide +kernel, by decide +kernel⟩
structure RowsAt (H : Hp) (a : Addr) (rs : List Addr) (rows : List (List Int)) : Prop where
  top : H a = some (.lst (rs.map V.ref))
  len : rs.length = rows.length
  row : ∀ (i : Nat) b r, rs[i]? = some b → rows[i]? = some r → H b = some (.lst (intsV r))
  nd : (a :: rs).Nodup
noncomputable def SrcRows (K : PySem.W.Frag) (H : Hp) (a : Addr) (rows : List (List Int)) : Prop := ∃ vs, SqL K H a vs ∧ vs.length = rows.length ∧ ∀ (i : Nat) v r, vs[i]? = some v → rows[i]? = some r → ∃ b, v = .ref b ∧ SqL K H b (intsV r)
theorem RowsAt.src {K : PySem.W.Frag} {H : Hp} {a : Addr} {rs : List Addr} {rows : List (List Int)} (h : RowsAt H a rs rows) : SrcRows K H a rows :=
  ⟨_, SqL.of h.top, by rw [List.length_map, h.len], fun i v r e f => by
    rw [List.getElem?_map] at e
    obtain ⟨b, hb, rfl⟩ := Option.map_eq_some_iff.mp e
    exact ⟨b, rfl, SqL.of (h.row i b r hb f)⟩⟩
theorem RowsAt.same {H H' : Hp} {a : Addr} {rs : List Addr} {rows : List (List Int)} (h : RowsAt H a rs rows) (s : Same H H') : RowsAt H' a rs rows := ⟨s _ _ h.top, h.len, fun i b r e f => s _ _ (h.row i b r e f), h.nd⟩
theorem SrcRows.same {K : PySem.W.Frag} {H H' : Hp} {a : Addr} {rows : List (List Int)} (h : SrcRows K H a rows) (s : Same H H') : SrcRows K H' a rows :=
  let ⟨vs, q, l, r⟩ := h; ⟨vs, s.seq q, l, fun i v x e f => let ⟨b, e1, e2⟩ := r i v x e f; ⟨b, e1, s.seq e2⟩⟩
theorem WalkAt.rowsAt {K : PySem.W.Frag} {H : Hp} {C : Addr} {A : WA} {w : WS} (h : WalkAt K H C A w) : RowsAt H A.ar A.rs w.rows := by
  refine ⟨h.rows, h.rlen, h.row, ?_⟩
  have := h.nd
  simp only [List.nodup_cons, List.mem_cons, not_or] at this ⊢
  exact ⟨this.2.1.2.2.2, this.2.2.2.2.2⟩
noncomputable def spTold (K : PySem.W.Frag) (C : Addr) : Sp := fun vs H Q _ => ExQ Q (fun (A : WA) Q => ExQ Q (fun (w : WS) Q => vs = [.ref A.x] ∧ WalkAt K H C A w ∧ w.rows.length ≤ 100 ∧
  ∀ H' t l1 p rs en, Same H H' → H' t = some (.tup [en, .ref l1, .int w.done, .ref p]) → EndIs H' w.ended en → H' l1 = some (.lst (intsV w.heard)) → RowsAt H' p rs w.rows → (∀ b ∈ l1 :: p :: rs, H b = none) → (l1 :: p :: rs).Nodup → Q (.ref t) H'))
noncomputable def spInit (K : PySem.W.Frag) (C : Addr) : Sp := fun vs H Q _ => ExQ Q (fun (x : Addr) Q => ExQ Q (fun (dx : Addr) Q => ExQ Q (fun (t : Addr) Q => ExQ Q (fun (l : Addr) Q => ExQ Q (fun (ar0 : Addr) Q => ExQ Q (fun (ac0 : Addr) Q => ExQ Q (fun (nm : Nat) Q => ExQ Q (fun (rw : Int) Q => ExQ Q (fun (b : Int) Q => ExQ Q (fun (rows : List (List Int)) Q => ExQ Q (fun (taken : List Int) Q => ExQ Q (fun (xs : List V) Q => ExQ Q (fun (ds : List D) Q => vs = [.ref x, .ref t, .ref ar0, .ref ac0, .int b] ∧ H x = some (.ins C dx []) ∧ SqT K H t [.int (nm : Int), .int rw, .ref l] ∧
  SqL K H l xs ∧ IsL K H ds xs ∧ SrcRows K H ar0 rows ∧ rows.length ≤ 100 ∧ SqL K H ac0 (intsV taken) ∧ nm ≤ 100 ∧
  ∀ (A : WA) (H' : Hp), A.x = x → A.dx = dx → (∀ c o, H c = some o → c ≠ x → H' c = some o) → (∀ c ∈ A.al :: A.ar :: A.ac :: A.an :: A.ah :: A.rs, H c = none) → WalkAt K H' C A ⟨ds, rows, taken, b, 0, List.replicate nm 0, [], 0, none⟩ → Q .non H')))))))))))))
theorem end_same {H H' : Hp} (s : Same H H') {q : Option (Str × Nat)} {en : V} (h : EndIs H q en) : EndIs H' q en := by
  unfold EndIs at h ⊢
  split at h
  · exact h
  · obtain ⟨te, q1, q2⟩ := h
    exact ⟨te, q1, s _ _ q2⟩
noncomputable def CopyI (H1 : Hp) (rows : List (List Int)) (p : Addr) (i : Nat) (H' : Hp) : Prop := Same H1 H' ∧ ∃ rs : List Addr, H' p = some (.lst (rs.map V.ref)) ∧ rs.length = i ∧ (∀ (j : Nat) b r, rs[j]? = some b → rows[j]? = some r → H' b = some (.lst (intsV r))) ∧ (∀ b ∈ rs, H1 b = none ∧ b ≠ p) ∧ rs.Nodup
theorem CopyI.zero {H1 : Hp} {rows : List (List Int)} {p : Addr} (np : H1 p = none) : CopyI H1 rows p 0 (upd H1 p (.lst [])) := ⟨same_new np _, [], upd_same, rfl, fun j b r h => by simp at h, fun b h => by simp at h, List.nodup_nil⟩
theorem nd_snoc {α : Type} : ∀ {l : List α} {k : α}, l.Nodup → ¬ k ∈ l → (l ++ [k]).Nodup := fun {l k} h hk => by
  rw [List.nodup_append]
  exact ⟨h, by simp, fun a ha b hb => by rw [List.mem_singleton.mp hb]; exact fun e => hk (e ▸ ha)⟩
theorem CopyI.next {H1 : Hp} {rows : List (List Int)} {p : Addr} {i : Nat} {H' : Hp} {r : List Int} {l2 : Addr} (np : H1 p = none) (h : CopyI H1 rows p i H') (er : rows[i]? = some r) (n2 : H' l2 = none) (h100 : rows.length ≤ 100) :
    ∃ acc, upd H' l2 (.lst (intsV r)) p = some (.lst acc) ∧ acc.length < sizeLine ∧ CopyI H1 rows p (i + 1) (upd (upd H' l2 (.lst (intsV r))) p (.lst (acc ++ [.ref l2]))) := by
  obtain ⟨sm, rs, ep, ln, hr, hf, nd⟩ := h
  have hi := (List.getElem?_eq_some_iff.mp er).1
  have pl : p ≠ l2 := ne_p ep n2
  have s2 := same_new n2 (.lst (intsV r))
  have nl2 : ¬ l2 ∈ rs := fun m => by
    obtain ⟨j, hj⟩ := List.mem_iff_getElem?.mp m
    have hjl : j < rows.length := by have := (List.getElem?_eq_some_iff.mp hj).1; omega
    rw [hr j l2 _ hj (List.getElem?_eq_getElem hjl)] at n2
    cases n2
  refine ⟨_, s2 _ _ ep, small1000 (by rw [List.length_map]; omega), Same.new (sm.trans s2) np, rs ++ [l2], by rw [upd_same, List.map_append]; rfl, by simp [ln], fun j b r' hb hr' => ?_, fun b hb => ?_, nd_snoc nd nl2⟩
  · by_cases hj : j < rs.length
    · rw [List.getElem?_append_left hj] at hb
      have hbm := List.mem_of_getElem? hb
      rw [upd_ne (hf b hbm).2]
      exact s2 _ _ (hr j b r' hb hr')
    · rw [List.getElem?_append_right (by omega)] at hb
      have : j = rs.length := by
        have := (List.getElem?_eq_some_iff.mp hb).1
        simp at this; omega
      subst this
      simp at hb
      subst hb
      rw [ln, er] at hr'
      cases hr'
      rw [upd_ne pl.symm, upd_same]
  · rcases List.mem_append.mp hb with z | z
    · exact hf b z
    · rw [List.mem_singleton.mp z]
      exact ⟨none_of_same sm n2, pl.symm⟩
theorem CopyI.rows {H1 : Hp} {rows : List (List Int)} {p : Addr} {H' : Hp} (h : CopyI H1 rows p rows.length H') : ∃ rs, RowsAt H' p rs rows ∧ (∀ b ∈ rs, H1 b = none ∧ b ≠ p) := by
  obtain ⟨sm, rs, ep, ln, hr, hf, nd⟩ := h
  exact ⟨rs, ⟨ep, ln, hr, List.nodup_cons.mpr ⟨fun m => (hf p m).2 rfl, nd⟩⟩, hf⟩
section
variable {P : Program} {w : World} {K : PySem.W.Frag} {mg : Str → Option Value} {base : Heap} {f : Addr} {fd : FuncData} {n : Nat} {C : Addr}
theorem ok_Walk_told (F : Fun K "told" "Walk.told" s_Walk_told f fd) (W : WC K C) (m_list : mg "list" = none) : FnOk P w K mg base CX0 (n + 1) f fd ["self"] (spTold K C) := by
  refine F.ok sc_Walk_told (fun vs H Q E h => ?_) (fun cdv A outer s H vs Q E hr h => ?_)
  · obtain ⟨A, w, rfl, _⟩ := h
    rfl
  obtain ⟨A, w, rfl, hw, h100, q⟩ := h
  have sc := sc_Walk_told
  refine ⟨_, (pss_one (ps_ret (pe_tup (pa_cons (pe_sf W.cl W.na_ended (pv 0)) (pa_cons (pe_callTy call_list_of rfl m_list PyProof.Rows.boot_list (pa_cons (pe_sf W.cl W.na_heard (pv 0)) pa_nil)) (pa_cons (pe_sf W.cl W.na_done (pv 0)) (pa_cons (pe_comp ["row"] rfl (cmp_ok (N := ["self"]) (so := defScope s_Walk_told) rfl rfl (by decide +kernel)) (pi_list (pe_sf W.cl W.na_rows (pv 0))) (fun _ _ _ _ _ _ => (pg_name (i := 0) (show List.Nodup (α := Str) ["row", "self"] by decide +kernel) rfl (Or.inl rfl) (Or.inr rfl))) (fun _ _ _ _ _ _ => pifs_nil) (fun _ _ _ _ _ _ => (pe_callTy (call_list_ofK (K := K) rfl) rfl m_list PyProof.Rows.boot_list (pa_cons (pv 0) pa_nil)))) pa_nil))))))), ?_⟩
  obtain ⟨en, e1, e2⟩ := hw.ins
  refine ⟨_, rfl, A.x, A.dx, _, en, rfl, e1, rfl, _, rfl, A.x, A.dx, _, _, rfl, e1, rfl, A.ah, _, rfl, .inl (SqL.of hw.heard), fun l1 n1 => ?_⟩
  have s1 := same_new n1 (.lst (intsV w.heard))
  have hw1 := hw.same s1
  have el1 : upd H l1 (.lst (intsV w.heard)) l1 = some (.lst (intsV w.heard)) := upd_same
  have e11 := s1 _ _ e1
  generalize upd H l1 (.lst (intsV w.heard)) = H1 at s1 hw1 el1 e11
  refine ⟨_, rfl, A.x, A.dx, _, _, rfl, e11, rfl, _, rfl, A.x, A.dx, _, _, rfl, e11, rfl, A.ar, rfl, ⟨_, SqL.of hw1.rows⟩, fun p np => ?_⟩
  have src : SrcRows K H1 A.ar w.rows := hw1.rowsAt.src
  refine comp_list (xs := A.rs.map V.ref) (fun i H' => CopyI H1 w.rows p i H') (.zero np) (fun i H' _ h => SqL.of (h.1 _ _ hw1.rows)) (fun i y H' ey h => ?_) (fun H' h => ?_)
  · rw [List.getElem?_map] at ey
    obtain ⟨b, hb, rfl⟩ := Option.map_eq_some_iff.mp ey
    have hil : i < w.rows.length := by have := (List.getElem?_eq_some_iff.mp hb).1; have := hw1.rlen; omega
    have er := List.getElem?_eq_getElem hil
    have hbr := hw1.row i b _ hb er
    refine ⟨⟨[some (.ref b)], rfl, rfl⟩, tTrue_ite ⟨_, rfl, b, _, rfl, .inl (SqL.of (h.1 _ _ hbr)), fun l2 n2 => ?_⟩⟩
    exact h.next np er n2 h100
  · have hl : (A.rs.map V.ref).length = w.rows.length := by rw [List.length_map]; exact hw1.rlen
    rw [hl] at h
    obtain ⟨rs, ra, hf⟩ := h.rows
    refine ⟨Nat.le_of_ble_eq_true rfl, fun t nt => ?_⟩
    have s2 := same_new nt (.tup [en, .ref l1, .int w.done, .ref p])
    have sm := h.1.trans s2
    refine q _ t l1 p rs en (s1.trans sm) upd_same (end_same (s1.trans sm) e2) (sm _ _ el1) (ra.same s2) (fun b hb => ?_) ?_
    · rcases List.mem_cons.mp hb with z | hb
      · rw [z]; exact n1
      · rcases List.mem_cons.mp hb with z | hb
        · rw [z]; exact none_of_same s1 np
        · exact none_of_same s1 (hf b hb).1
    · refine List.nodup_cons.mpr ⟨fun m => ?_, ra.nd⟩
      rcases List.mem_cons.mp m with z | m
      · rw [z, np] at el1; cases el1
      · rw [(hf l1 m).1] at el1; cases el1
noncomputable def fl2 (al p : Addr) : List (Str × V) := [("lines", .ref al), ("rows", .ref p)]
noncomputable def fl5 (al p ac : Addr) (b : Int) : List (Str × V) := [("lines", .ref al), ("rows", .ref p), ("coming", .ref ac), ("budget", .int b), ("at", .int 0)]
noncomputable def fl6 (al p ac : Addr) (b : Int) (an : Addr) : List (Str × V) := [("lines", .ref al), ("rows", .ref p), ("coming", .ref ac), ("budget", .int b), ("at", .int 0), ("numbers", .ref an)]
noncomputable def Bx (x : Addr) (H H' : Hp) : Prop := ∀ c o, H c = some o → c ≠ x → H' c = some o
theorem Bx.refl (x : Addr) (H : Hp) : Bx x H H := fun _ _ e _ => e
theorem Bx.trans {x : Addr} {H H1 H2 : Hp} (a : Bx x H H1) (b : Bx x H1 H2) : Bx x H H2 := fun c o e n => b c o (a c o e n) n
theorem Bx.of_same {x : Addr} {H H' : Hp} (s : Same H H') : Bx x H H' := fun b o e _ => s b o e
theorem Bx.upd {x : Addr} {H : Hp} {o : HO} : Bx x H (L2.upd H x o) := fun b u e n => by rw [upd_ne n]; exact e
theorem Bx.tups {x dx : Addr} {fs : List (Str × V)} {H H' : Hp} (b : Bx x H H') (h : H x = some (.ins C dx fs)) : Tups H H' :=
  ⟨fun c xs e => b c _ e (ne_of e h (by intro z; cases z)), fun c o u e => b c _ e (ne_of e h (by intro z; cases z))⟩
theorem Bx.seq {x dx : Addr} {fs : List (Str × V)} {H H' : Hp} {a : Addr} {xs : List V} (b : Bx x H H') (h : H x = some (.ins C dx fs)) (q : SqL K H a xs) : SqL K H' a xs := by
  rcases q with (q | ⟨o, q⟩) | q
  · exact .inl (.inl (b _ _ q (ne_of q h (by intro z; cases z))))
  · exact .inl (.inr ⟨o, b _ _ q (ne_of q h (by intro z; cases z))⟩)
  · exact .inr q
theorem Bx.none {x : Addr} {H H' : Hp} {o : HO} (b : Bx x H H') (h : H x = some o) {c : Addr} {o' : HO} (hx : H' x = some o') (e : H' c = none) : H c = none := by
  cases q : H c with
  | none => rfl
  | some u =>
    by_cases hc : c = x
    · rw [hc, hx] at e; cases e
    · rw [b c u q hc] at e; cases e
theorem ok_Walk_init (F : Fun K "__init__" "Walk.__init__" s_Walk_init f fd) (W : WC K C) (m_list : mg "list" = none) : FnOk P w K mg base CX0 (n + 1) f fd ["self", "program", "rows", "taken", "budget"] (spInit K C) := by
  refine F.ok sc_Walk_init (fun vs H Q E h => ?_) (fun cdv A outer s H vs Q E hr h => ?_)
  · obtain ⟨x, dx, t, l, ar0, ac0, nm, rw, b, rows, taken, xs, ds, rfl, _⟩ := h
    rfl
  obtain ⟨x, dx, t, l, ar0, ac0, nm, rw, b, rows, taken, xs, ds, rfl, hx, hq, hl, il, hR, h100, hT, hnm, q⟩ := h
  have sc := sc_Walk_init
  refine ⟨_, (@pss_cons _ _ _ _ _ (ps_sf W.cl W.na_lines (pv 0) (pe_callTy call_list_of rfl m_list PyProof.Rows.boot_list (pa_cons (pe_ix ix_tup (pv 1) pe_int (fun _ _ => rfl)) pa_nil)))
      (@pss_cons _ _ _ _ _ (ps_sf W.cl W.na_rows (pv 0) (pe_comp ["row"] rfl (cmp_ok (N := ["self", "program", "rows", "taken", "budget"]) (so := defScope s_Walk_init) rfl rfl (by decide +kernel)) (pi_list (pv 2)) (fun _ _ _ _ _ _ => (pg_name (i := 0) (show List.Nodup (α := Str) ["row", "self", "program", "rows", "taken", "budget"] by decide +kernel) rfl (Or.inl rfl) (Or.inr rfl))) (fun _ _ _ _ _ _ => pifs_nil) (fun _ _ _ _ _ _ => (pe_callTy (call_list_ofK (K := K) rfl) rfl m_list PyProof.Rows.boot_list (pa_cons (pv 0) pa_nil)))))
      (@pss_cons _ _ _ _ _ (ps_sf W.cl W.na_coming (pv 0) (pe_callTy call_list_of rfl m_list PyProof.Rows.boot_list (pa_cons (pv 3) pa_nil)))
      (@pss_cons _ _ _ _ _ (ps_sf W.cl W.na_budget (pv 0) (pv 4))
      (@pss_cons _ _ _ _ _ (ps_sf W.cl W.na_at (pv 0) pe_int)
      (@pss_cons _ _ _ _ _ (ps_sf W.cl W.na_numbers (pv 0) (pe_op op_rep (pe_lst (pa_cons pe_int pa_nil)) (pe_ix ix_tup (pv 1) pe_int (fun _ _ => rfl))))
      (@pss_cons _ _ _ _ _ (ps_sf W.cl W.na_heard (pv 0) (pe_lst pa_nil))
      (@pss_cons _ _ _ _ _ (ps_sf W.cl W.na_done (pv 0) pe_int)
      (pss_one (ps_sf W.cl W.na_ended (pv 0) pe_non)))))))))), ?_⟩
  refine ⟨_, rfl, t, _, 2, _, rfl, rfl, hq, at2 _ _ _ _, l, xs, rfl, .inl hl, fun al nal => ?_⟩
  have s1 := same_new nal (.lst xs)
  refine ⟨_, rfl, x, dx, _, rfl, s1 _ _ hx, by decide, ?_⟩
  have b1 : Bx x H (upd (upd H al (.lst xs)) x (.ins C dx (putF "lines" (.ref al) []))) := (Bx.of_same s1).trans .upd
  have x1 : upd (upd H al (.lst xs)) x (.ins C dx (putF "lines" (.ref al) [])) x = some (.ins C dx [("lines", .ref al)]) := upd_same
  have eal : upd (upd H al (.lst xs)) x (.ins C dx (putF "lines" (.ref al) [])) al = some (.lst xs) := by rw [upd_ne (ne_p hx nal).symm, upd_same]
  generalize upd (upd H al (.lst xs)) x (.ins C dx (putF "lines" (.ref al) [])) = H1 at b1 x1 eal
  obtain ⟨vs, qv, lv, hv⟩ := hR
  refine ⟨_, rfl, ar0, rfl, ⟨_, b1.seq hx qv⟩, fun p np => ?_⟩
  have np0 : H p = none := b1.none hx x1 np
  refine comp_list (xs := vs) (fun i H' => CopyI H1 rows p i H') (.zero np) (fun i H' _ h => h.1.seq (b1.seq hx qv)) (fun i y H' ey h => ?_) (fun H' h => ?_)
  · have hil : i < rows.length := by have := (List.getElem?_eq_some_iff.mp ey).1; omega
    have er := List.getElem?_eq_getElem hil
    obtain ⟨c, rfl, sq⟩ := hv i y _ ey er
    refine ⟨⟨[some (.ref c)], rfl, rfl⟩, tTrue_ite ⟨_, rfl, c, _, rfl, .inl (h.1.seq (b1.seq hx sq)), fun l2 n2 => ?_⟩⟩
    exact h.next np er n2 h100
  rw [lv] at h
  obtain ⟨rs, ra, hf⟩ := h.rows
  have sm := h.1
  have xp : x ≠ p := ne_p x1 np
  refine ⟨_, rfl, x, dx, _, rfl, sm _ _ x1, by show 1 < 1000; decide, ?_⟩
  have b2 : Bx x H (upd H' x (.ins C dx (putF "rows" (.ref p) [("lines", .ref al)]))) := b1.trans ((Bx.of_same sm).trans .upd)
  have xrs : ∀ c ∈ rs, x ≠ c := fun c hc z => by rw [← z] at hc; have := (hf x hc).1; rw [x1] at this; cases this
  have ra2 : RowsAt (upd H' x (.ins C dx (putF "rows" (.ref p) [("lines", .ref al)]))) p rs rows := ⟨by rw [upd_ne xp.symm]; exact ra.top, ra.len, fun i c r e g => by rw [upd_ne (xrs c (List.mem_of_getElem? e)).symm]; exact ra.row i c r e g, ra.nd⟩
  have x2 : upd H' x (.ins C dx (putF "rows" (.ref p) [("lines", .ref al)])) x = some (.ins C dx (fl2 al p)) := upd_same
  have xal : x ≠ al := ne_p hx nal
  have eal2 : upd H' x (.ins C dx (putF "rows" (.ref p) [("lines", .ref al)])) al = some (.lst xs) := by rw [upd_ne xal.symm]; exact sm _ _ eal
  generalize upd H' x (.ins C dx (putF "rows" (.ref p) [("lines", .ref al)])) = H2 at b2 ra2 x2 eal2
  refine ⟨_, rfl, ac0, _, rfl, .inl (b2.seq hx hT), fun ac nac => ?_⟩
  have s3 := same_new nac (.lst (intsV taken))
  refine ⟨_, rfl, x, dx, _, rfl, s3 _ _ x2, by show 2 < 1000; decide, ?_⟩
  refine ⟨_, rfl, _, rfl, x, dx, _, rfl, upd_same, by show 3 < 1000; decide, ?_⟩
  refine ⟨_, rfl, x, dx, _, rfl, upd_same, by show 4 < 1000; decide, ?_⟩
  have xac : x ≠ ac := ne_p x2 nac
  have f5 : (fl5 al p ac b) = putF "at" (.int 0) (putF "budget" (.int b) (putF "coming" (.ref ac) (fl2 al p))) := rfl
  rw [← f5]
  have b3 : Bx x H2 (upd (upd (upd (upd H2 ac (.lst (intsV taken))) x (.ins C dx (putF "coming" (.ref ac) (fl2 al p)))) x (.ins C dx (putF "budget" (.int b) (putF "coming" (.ref ac) (fl2 al p))))) x (.ins C dx (fl5 al p ac b))) :=
    (Bx.of_same s3).trans (Bx.upd.trans (Bx.upd.trans .upd))
  have e3 : upd (upd (upd (upd H2 ac (.lst (intsV taken))) x (.ins C dx (putF "coming" (.ref ac) (fl2 al p)))) x (.ins C dx (putF "budget" (.int b) (putF "coming" (.ref ac) (fl2 al p))))) x (.ins C dx (fl5 al p ac b)) ac = some (.lst (intsV taken)) := by
    rw [upd_ne xac.symm, upd_ne xac.symm, upd_ne xac.symm, upd_same]
  have x3 : upd (upd (upd (upd H2 ac (.lst (intsV taken))) x (.ins C dx (putF "coming" (.ref ac) (fl2 al p)))) x (.ins C dx (putF "budget" (.int b) (putF "coming" (.ref ac) (fl2 al p))))) x (.ins C dx (fl5 al p ac b)) x = some (.ins C dx (fl5 al p ac b)) := upd_same
  generalize upd (upd (upd (upd H2 ac (.lst (intsV taken))) x (.ins C dx (putF "coming" (.ref ac) (fl2 al p)))) x (.ins C dx (putF "budget" (.int b) (putF "coming" (.ref ac) (fl2 al p))))) x (.ins C dx (fl5 al p ac b)) = H3 at b3 e3 x3
  have b03 := b2.trans b3
  have hq3 := (b03.tups hx).sq hq
  refine ⟨Nat.le_of_ble_eq_true rfl, fun lz nlz => ?_⟩
  have s4 := same_new nlz (.lst [.int 0])
  refine ⟨_, rfl, t, _, 0, _, rfl, rfl, s4.tups.sq hq3, at0 _ _, lz, _, [.int 0], rfl, rfl, upd_same, by omega, by omega, by rw [sizeLine_eq, Int.toNat_natCast, List.length_singleton]; omega, fun an nan => ?_⟩
  have erep : (List.replicate ((nm : Int)).toNat [V.int 0]).flatten = intsV (List.replicate nm 0) := by
    rw [Int.toNat_natCast]
    unfold intsV
    rw [List.map_replicate]
    clear hq hq3 hnm q
    induction nm with
    | zero => rfl
    | succ m ih => rw [List.replicate_succ, List.flatten_cons, List.replicate_succ, ih]; rfl
  rw [erep]
  have s5 := same_new nan (.lst (intsV (List.replicate nm 0)))
  have s45 := s4.trans s5
  refine ⟨_, rfl, x, dx, _, rfl, s45 _ _ x3, by show 5 < 1000; decide, ?_⟩
  have xan : x ≠ an := ne_p (s4 _ _ x3) nan
  have f6 : (fl6 al p ac b an) = putF "numbers" (.ref an) (fl5 al p ac b) := rfl
  rw [← f6]
  have b4 : Bx x H3 (upd (upd (upd H3 lz (.lst [.int 0])) an (.lst (intsV (List.replicate nm 0)))) x (.ins C dx (fl6 al p ac b an))) := (Bx.of_same s45).trans .upd
  have x4 : upd (upd (upd H3 lz (.lst [.int 0])) an (.lst (intsV (List.replicate nm 0)))) x (.ins C dx (fl6 al p ac b an)) x = some (.ins C dx (fl6 al p ac b an)) := upd_same
  have e4 : upd (upd (upd H3 lz (.lst [.int 0])) an (.lst (intsV (List.replicate nm 0)))) x (.ins C dx (fl6 al p ac b an)) an = some (.lst (intsV (List.replicate nm 0))) := by rw [upd_ne xan.symm, upd_same]
  have nan3 : H3 an = none := none_of_same s4 nan
  generalize upd (upd (upd H3 lz (.lst [.int 0])) an (.lst (intsV (List.replicate nm 0)))) x (.ins C dx (fl6 al p ac b an)) = H4 at b4 x4 e4
  refine ⟨Nat.le_of_ble_eq_true rfl, fun ah nah => ?_⟩
  have s6 := same_new nah (.lst [])
  have xah : x ≠ ah := ne_p x4 nah
  refine ⟨_, rfl, x, dx, _, rfl, s6 _ _ x4, by show 6 < 1000; decide, ?_⟩
  refine ⟨_, rfl, x, dx, _, rfl, upd_same, by show 7 < 1000; decide, ?_⟩
  refine ⟨_, rfl, x, dx, _, rfl, upd_same, by show 8 < 1000; decide, ?_⟩
  have fz : flds al p ac b 0 an ah 0 .non = putF "ended" .non (putF "done" (.int 0) (putF "heard" (.ref ah) (fl6 al p ac b an))) := rfl
  rw [← fz]
  have b5 : Bx x H4 (upd (upd (upd (upd H4 ah (.lst [])) x (.ins C dx (putF "heard" (.ref ah) (fl6 al p ac b an)))) x (.ins C dx (putF "done" (.int 0) (putF "heard" (.ref ah) (fl6 al p ac b an))))) x (.ins C dx (flds al p ac b 0 an ah 0 .non))) :=
    (Bx.of_same s6).trans (Bx.upd.trans (Bx.upd.trans .upd))
  have e5 : upd (upd (upd (upd H4 ah (.lst [])) x (.ins C dx (putF "heard" (.ref ah) (fl6 al p ac b an)))) x (.ins C dx (putF "done" (.int 0) (putF "heard" (.ref ah) (fl6 al p ac b an))))) x (.ins C dx (flds al p ac b 0 an ah 0 .non)) ah = some (.lst []) := by
    rw [upd_ne xah.symm, upd_ne xah.symm, upd_ne xah.symm, upd_same]
  have x5 : upd (upd (upd (upd H4 ah (.lst [])) x (.ins C dx (putF "heard" (.ref ah) (fl6 al p ac b an)))) x (.ins C dx (putF "done" (.int 0) (putF "heard" (.ref ah) (fl6 al p ac b an))))) x (.ins C dx (flds al p ac b 0 an ah 0 .non)) x = some (.ins C dx (flds al p ac b 0 an ah 0 .non)) := upd_same
  generalize upd (upd (upd (upd H4 ah (.lst [])) x (.ins C dx (putF "heard" (.ref ah) (fl6 al p ac b an)))) x (.ins C dx (putF "done" (.int 0) (putF "heard" (.ref ah) (fl6 al p ac b an))))) x (.ins C dx (flds al p ac b 0 an ah 0 .non)) = H5 at b5 e5 x5
  have b24 := b3.trans b4
  have b25 := b24.trans b5
  have b05 := b2.trans b25
  have al5 : H5 al = some (.lst xs) := b25 _ _ eal2 xal.symm
  have p5 : H5 p = some (.lst (rs.map V.ref)) := b25 _ _ ra2.top xp.symm
  have ac5 : H5 ac = some (.lst (intsV taken)) := (b4.trans b5) _ _ e3 xac.symm
  have an5 : H5 an = some (.lst (intsV (List.replicate nm 0))) := b5 _ _ e4 xan.symm
  have r5 : ∀ (i : Nat) c r, rs[i]? = some c → rows[i]? = some r → H5 c = some (.lst (intsV r)) := fun i c r e g => b25 _ _ (ra2.row i c r e g) (xrs c (List.mem_of_getElem? e)).symm
  have nac0 : H2 ac = none := nac
  have nan2 : H2 an = none := (b3.none x2 x3 nan3)
  have nah2 : H2 ah = none := (b24.none x2 x4 nah)
  have nah3 : H3 ah = none := (b4.none x3 x4 nah)
  have ralive : ∀ c ∈ rs, ∃ o, H2 c = some o := fun c hc => by
    obtain ⟨i, hi⟩ := List.mem_iff_getElem?.mp hc
    have hil : i < rows.length := by have := (List.getElem?_eq_some_iff.mp hi).1; have := ra2.len; omega
    exact ⟨_, ra2.row i c _ hi (List.getElem?_eq_getElem hil)⟩
  refine q ⟨x, dx, al, p, ac, an, ah, rs⟩ H5 rfl rfl b05 (fun c hc => ?_) ⟨⟨.non, x5, rfl⟩, ⟨xs, al5, il.mono (b05.tups hx)⟩, p5, ra2.len, r5, ac5, an5, e5, ?_⟩
  · simp only [List.mem_cons] at hc
    rcases hc with z | z | z | z | z | z
    · rw [z]; exact nal
    · rw [z]; exact np0
    · rw [z]; exact b2.none hx x2 nac
    · rw [z]; exact b2.none hx x2 nan2
    · rw [z]; exact b2.none hx x2 nah2
    · exact b1.none hx x1 (hf c z).1
  · have k1 : ∀ {c : Addr} {o : HO}, H2 c = some o → c ≠ ac ∧ c ≠ an ∧ c ≠ ah := fun e => ⟨ne_p e nac0, ne_p e nan2, ne_p e nah2⟩
    obtain ⟨g1, g2, g3⟩ := k1 eal2
    obtain ⟨g4, g5, g6⟩ := k1 ra2.top
    have g7 : al ≠ p := ne_p eal np
    have g8 : ac ≠ an := ne_p e3 nan3
    have g9 : ac ≠ ah := ne_p e3 nah3
    have g10 : an ≠ ah := ne_p e4 nah
    have ndr := List.nodup_cons.mp ra2.nd
    simp only [List.nodup_cons, List.mem_cons, not_or]
    refine ⟨⟨g7, g1, g2, g3, fun m => ?_⟩, ⟨g4, g5, g6, ndr.1⟩, ⟨g8, g9, fun m => ?_⟩, ⟨g10, fun m => ?_⟩, fun m => ?_, ndr.2⟩
    · rw [(hf al m).1] at eal; cases eal
    · obtain ⟨o, e⟩ := ralive ac m; rw [nac0] at e; cases e
    · obtain ⟨o, e⟩ := ralive an m; rw [nan2] at e; cases e
    · obtain ⟨o, e⟩ := ralive ah m; rw [nah2] at e; cases e
end
end K25
set_option Elab.async false
set_option linter.all false
set_option maxRecDepth 100000
set_option maxHeartbeats 4000000
namespace K25
open PySem PySem.Spec PyProof.Rows L2
noncomputable abbrev s_at : Stmt := top 24
noncomputable abbrev s_node_at : Stmt := top 25
noncomputable abbrev s_so : Stmt := top 26
noncomputable abbrev s_place : Stmt := top 27
noncomputable abbrev s_stop : Stmt := top 28
noncomputable abbrev s_given : Stmt := top 29
noncomputable abbrev s_do : Stmt := top 30
noncomputable abbrev s_begun : Stmt := top 31
theorem sc_at : FnScope ["_law_values", "_law_name"] ["_law_values", "_law_name"] (defScope s_at) := ⟨rfl, rfl, rfl, by decide +kernel, rfl, by decide +kernel, by decide +kernel⟩
theorem sc_node_at : FnScope ["_law_state", "_law_node_here"] ["_law_state", "_law_node_here"] (defScope s_node_at) := ⟨rfl, rfl, rfl, by decide +kernel, rfl, by decide +kernel, by decide +kernel⟩
theorem sc_so : FnScope ["_law_state", "_law_bounds", "_law_first", "_law_last", "_law_number_here"] ["_law_state", "_law_bounds"] (defScope s_so) := ⟨rfl, rfl, rfl, by decide +kernel, rfl, by decide +kernel, by decide +kernel⟩
theorem sc_place : FnScope ["_law_state", "_law_line_here"] ["_law_state", "_law_line_here"] (defScope s_place) := ⟨rfl, rfl, rfl, by decide +kernel, rfl, by decide +kernel, by decide +kernel⟩
theorem sc_stop : FnScope ["_law_lines", "_law_state", "_law_budget", "_law_line_here", "_law_row", "_law_place_here"] ["_law_lines", "_law_state", "_law_budget"] (defScope s_stop) := ⟨rfl, rfl, rfl, by decide +kernel, rfl, by decide +kernel, by decide +kernel⟩
theorem sc_given : FnScope ["_law_state", "_law_line_here", "_law_values", "_law_row", "_law_place_here"] ["_law_state", "_law_line_here"] (defScope s_given) := ⟨rfl, rfl, rfl, by decide +kernel, rfl, by decide +kernel, by decide +kernel⟩
theorem sc_do : FnScope ["_law_state", "_law_line_here", "_law_values", "_law_row", "_law_place_here"] ["_law_state", "_law_line_here"] (defScope s_do) := ⟨rfl, rfl, rfl, by decide +kernel, rfl, by decide +kernel, by decide +kernel⟩
theorem sc_begun : FnScope ["_law_program_here", "_law_rows", "_law_taken", "_law_state"] ["_law_program_here", "_law_rows", "_law_taken"] (defScope s_begun) := ⟨rfl, rfl, rfl, by decide +kernel, rfl, by decide +kernel, by decide +kernel⟩
structure LA where
  sd : Addr
  av : Addr
  ar : Addr
  at_ : Addr
  ah : Addr
  rs : List Addr
  held : Option V
noncomputable def LA.all (L : LA) : List Addr := L.sd :: L.av :: L.ar :: L.at_ :: L.ah :: L.rs
noncomputable def stK (L : LA) (i s : Int) : List (Key × V) := [(.inr "at", .int i), (.inr "values", .ref L.av), (.inr "rows", .ref L.ar), (.inr "taken", .ref L.at_), (.inr "told", .ref L.ah), (.inr "steps", .int s)] ++ (match L.held with | none => [] | some v => [(.inr "end", v)])
structure LawAt (H : Hp) (L : LA) (rows : List (List Int)) (m : Mem) (i s : Nat) : Prop where
  d : H L.sd = some (.dK (stK L (i : Int) (s : Int)))
  v : H L.av = some (.lst (intsV m.nums))
  ra : RowsAt H L.ar L.rs rows
  t : H L.at_ = some (.lst (intsV m.coming))
  h : H L.ah = some (.lst (intsV m.heard))
  nd : (L.av :: L.ar :: L.at_ :: L.ah :: L.rs).Nodup
noncomputable def spAt (K : PySem.W.Frag) : Sp := fun vs H Q _ => ExQ Q (fun (a : Addr) Q => ExQ Q (fun (l : List Int) Q => ExQ Q (fun (y : Option Nat) Q => vs = [.ref a, optV y] ∧ SqL K H a (intsV l) ∧ OptOk l.length y ∧ Q (.int (worth l y)) H)))
noncomputable def spNodeAt (K : PySem.W.Frag) : Sp := fun vs H Q _ => ExQ Q (fun (L : LA) Q => ExQ Q (fun (rows : List (List Int)) Q => ExQ Q (fun (m : Mem) Q => ExQ Q (fun (i : Nat) Q => ExQ Q (fun (s : Nat) Q => ExQ Q (fun (q : Nd) Q => ExQ Q (fun (v : V) Q => vs = [.ref L.sd, v] ∧ LawAt H L rows m i s ∧ Is K H q.D v ∧ q.Ok m.nums.length rows.length ∧ Q (.int (q.val m.nums rows)) H)))))))
noncomputable def spSo (K : PySem.W.Frag) : Sp := fun vs H Q _ => ExQ Q (fun (L : LA) Q => ExQ Q (fun (rows : List (List Int)) Q => ExQ Q (fun (m : Mem) Q => ExQ Q (fun (i : Nat) Q => ExQ Q (fun (s : Nat) Q => ExQ Q (fun (bs : List Bd) Q => ExQ Q (fun (v : V) Q => vs = [.ref L.sd, v] ∧ LawAt H L rows m i s ∧ Is K H (.tup (bs.map Bd.D)) v ∧ (∀ q ∈ bs, q.Ok m.nums.length rows.length) ∧ Q (.bl (bs.all (Bd.so m.nums rows))) H)))))))
noncomputable def Ln.stopW (nums : List Int) (rows : List (List Int)) (s b : Nat) (l : Ln) : Option Str := match l with
  | .stop => some ("end" : Str)
  | l => match l.look nums rows with
    | some z => some z
    | none => if s = b then some ("spent" : Str) else none
noncomputable def OkN (ls : List Ln) (nm rw nl : Nat) : Prop := ∀ l ∈ ls, l.Ok nm rw nl
noncomputable def spStop (K : PySem.W.Frag) : Sp := fun vs H Q _ => ExQ Q (fun (L : LA) Q => ExQ Q (fun (rows : List (List Int)) Q => ExQ Q (fun (m : Mem) Q => ExQ Q (fun (i : Nat) Q => ExQ Q (fun (s : Nat) Q => ExQ Q (fun (b : Nat) Q => ExQ Q (fun (al : Addr) Q => ExQ Q (fun (xs : List V) Q => ExQ Q (fun (ls : List Ln) Q => ExQ Q (fun (nl : Nat) Q => ExQ Q (fun (n : Nat) Q => ExQ Q (fun (j : Nat) Q => ExQ Q (fun (l : Ln) Q => vs = [.ref al, .ref L.sd, .int (b : Int)] ∧ SqL K H al xs ∧ IsL K H (ls.map Ln.D) xs ∧ al ≠ L.sd ∧ LawAt H L rows m i s ∧ OkN ls m.nums.length rows.length nl ∧ Pass ls m.nums rows n i j ∧ ls[j]? = some l ∧ l.calm ∧
  ∀ H', But [L.sd] H H' → Tups H H' → LawAt H' L rows m j s → Q (lookV (l.stopW m.nums rows s b)) H')))))))))))))
noncomputable def spLPlace (K : PySem.W.Frag) : Sp := fun vs H Q _ => ExQ Q (fun (L : LA) Q => ExQ Q (fun (rows : List (List Int)) Q => ExQ Q (fun (m : Mem) Q => ExQ Q (fun (i : Nat) Q => ExQ Q (fun (s : Nat) Q => ExQ Q (fun (d : Deed) Q => ExQ Q (fun (k : Nat) Q => ExQ Q (fun (v : V) Q => ExQ Q (fun (o : Nat × Option Nat × Int) Q => vs = [.ref L.sd, v] ∧ LawAt H L rows m i s ∧ Is K H (d.line k) v ∧ d.slot = some o ∧ OptOk m.nums.length o.2.1 ∧ ∀ H' t, Same H H' → H' t = some (.tup [.int (o.1 : Int), .int (worth m.nums o.2.1 + o.2.2)]) → Q (.ref t) H')))))))))
noncomputable def spGiven (K : PySem.W.Frag) : Sp := fun vs H Q _ => ExQ Q (fun (L : LA) Q => ExQ Q (fun (rows : List (List Int)) Q => ExQ Q (fun (m : Mem) Q => ExQ Q (fun (i : Nat) Q => ExQ Q (fun (s : Nat) Q => ExQ Q (fun (d : Deed) Q => ExQ Q (fun (k : Nat) Q => ExQ Q (fun (v : V) Q => vs = [.ref L.sd, v] ∧ LawAt H L rows m i s ∧ Is K H (d.line k) v ∧ d.Ok m.nums.length rows.length ∧ d.look m.nums rows = none ∧ d.name? ≠ .non ∧
  ∀ H', But L.all H H' → Tups H H' → LawAt H' L rows ⟨m.nums, d.rest m, m.heard⟩ i s → Q (.int (d.val rows m)) H'))))))))
noncomputable def spDoL (K : PySem.W.Frag) : Sp := fun vs H Q _ => ExQ Q (fun (L : LA) Q => ExQ Q (fun (rows : List (List Int)) Q => ExQ Q (fun (m : Mem) Q => ExQ Q (fun (i : Nat) Q => ExQ Q (fun (s : Nat) Q => ExQ Q (fun (l : Ln) Q => ExQ Q (fun (nl : Nat) Q => ExQ Q (fun (v : V) Q => vs = [.ref L.sd, v] ∧ LawAt H L rows m i s ∧ Is K H l.D v ∧ l.Ok m.nums.length rows.length nl ∧ l.calm ∧ l ≠ .stop ∧ l.look m.nums rows = none ∧ m.heard.length ≤ 900 ∧
  ∀ H', But L.all H H' → Tups H H' → LawAt H' L (l.rows rows m) (l.run rows m) (l.next m.nums rows) (s + 1) → Q .non H'))))))))
noncomputable def spBegun (K : PySem.W.Frag) : Sp := fun vs H Q _ => ExQ Q (fun (t : Addr) Q => ExQ Q (fun (ar0 : Addr) Q => ExQ Q (fun (ac0 : Addr) Q => ExQ Q (fun (nm : Nat) Q => ExQ Q (fun (xr : List V) Q => ExQ Q (fun (rows : List (List Int)) Q => ExQ Q (fun (taken : List Int) Q => vs = [.ref t, .ref ar0, .ref ac0] ∧ SqT K H t (.int (nm : Int) :: xr) ∧ SrcRows K H ar0 rows ∧ rows.length ≤ 100 ∧ SqL K H ac0 (intsV taken) ∧ nm ≤ 100 ∧
  ∀ H' L, Same H H' → LawAt H' L rows ⟨List.replicate nm 0, taken, []⟩ 0 0 → L.held = none → (∀ c ∈ L.all, H c = none) → Q (.ref L.sd) H')))))))
section
variable {P : Program} {w : World} {K : PySem.W.Frag} {mg : Str → Option Value} {base : Heap} {f : Addr} {fd : FuncData} {n : Nat} {C : Addr}
theorem stK_len (L : LA) (i s : Int) : (stK L i s).length ≤ 1000 := by unfold stK; cases L.held <;> exact Nat.le_of_ble_eq_true rfl
theorem get_at {H : Hp} {L : LA} {i s : Int} (e : H L.sd = some (.dK (stK L i s))) : DGet H L.sd (.str "at") (some (.int i)) := .inl ⟨_, .inr "at", .inl e, rfl, by unfold stK; cases L.held <;> rfl⟩
theorem get_values {H : Hp} {L : LA} {i s : Int} (e : H L.sd = some (.dK (stK L i s))) : DGet H L.sd (.str "values") (some (.ref L.av)) := .inl ⟨_, .inr "values", .inl e, rfl, by unfold stK; cases L.held <;> rfl⟩
theorem get_rows {H : Hp} {L : LA} {i s : Int} (e : H L.sd = some (.dK (stK L i s))) : DGet H L.sd (.str "rows") (some (.ref L.ar)) := .inl ⟨_, .inr "rows", .inl e, rfl, by unfold stK; cases L.held <;> rfl⟩
theorem get_taken {H : Hp} {L : LA} {i s : Int} (e : H L.sd = some (.dK (stK L i s))) : DGet H L.sd (.str "taken") (some (.ref L.at_)) := .inl ⟨_, .inr "taken", .inl e, rfl, by unfold stK; cases L.held <;> rfl⟩
theorem get_told {H : Hp} {L : LA} {i s : Int} (e : H L.sd = some (.dK (stK L i s))) : DGet H L.sd (.str "told") (some (.ref L.ah)) := .inl ⟨_, .inr "told", .inl e, rfl, by unfold stK; cases L.held <;> rfl⟩
theorem get_steps {H : Hp} {L : LA} {i s : Int} (e : H L.sd = some (.dK (stK L i s))) : DGet H L.sd (.str "steps") (some (.int s)) := .inl ⟨_, .inr "steps", .inl e, rfl, by unfold stK; cases L.held <;> rfl⟩
theorem put_at {H : Hp} {L : LA} {i s i' : Int} (e : H L.sd = some (.dK (stK L i s))) : DPut H L.sd (.str "at") (.int i') (upd H L.sd (.dK (stK L i' s))) := .inl ⟨_, .inr "at", e, rfl, small1000 (stK_len L i s), by congr 2; unfold stK; cases L.held <;> rfl⟩
theorem put_steps {H : Hp} {L : LA} {i s s' : Int} (e : H L.sd = some (.dK (stK L i s))) : DPut H L.sd (.str "steps") (.int s') (upd H L.sd (.dK (stK L i s'))) := .inl ⟨_, .inr "steps", e, rfl, small1000 (stK_len L i s), by congr 2; unfold stK; cases L.held <;> rfl⟩
theorem tups_dk {H : Hp} {p : Addr} {k1 k2 : List (Key × V)} (h : H p = some (.dK k1)) : Tups H (upd H p (.dK k2)) :=
  ⟨fun b zs e => by rw [upd_ne (ne_of e h (by intro z; cases z))]; exact e, fun b o u e => by rw [upd_ne (ne_of e h (by intro z; cases z))]; exact e⟩
theorem LawAt.lst_ne {H : Hp} {L : LA} {rows : List (List Int)} {m : Mem} {i s : Nat} (h : LawAt H L rows m i s) {p : Addr} {xs : List V} (e : H p = some (.lst xs)) : p ≠ L.sd := ne_of e h.d (by intro z; cases z)
theorem LawAt.keep {H H' : Hp} {L : LA} {rows : List (List Int)} {m : Mem} {i s : Nat} (h : LawAt H L rows m i s) (hk : ∀ b o, b ∈ L.all → H b = some o → H' b = some o) : LawAt H' L rows m i s :=
  ⟨hk _ _ (by simp [LA.all]) h.d, hk _ _ (by simp [LA.all]) h.v, ⟨hk _ _ (by simp [LA.all]) h.ra.top, h.ra.len, fun j b r e g => hk _ _ (by simp [LA.all, List.mem_of_getElem? e]) (h.ra.row j b r e g), h.ra.nd⟩, hk _ _ (by simp [LA.all]) h.t, hk _ _ (by simp [LA.all]) h.h, h.nd⟩
theorem LawAt.same {H H' : Hp} {L : LA} {rows : List (List Int)} {m : Mem} {i s : Nat} (h : LawAt H L rows m i s) (sm : Same H H') : LawAt H' L rows m i s := h.keep fun b o _ e => sm b o e
theorem LawAt.setD {H : Hp} {L : LA} {rows : List (List Int)} {m : Mem} {i s : Nat} (h : LawAt H L rows m i s) (i' s' : Nat) : LawAt (upd H L.sd (.dK (stK L (i' : Int) (s' : Int)))) L rows m i' s' :=
  ⟨upd_same, by rw [upd_ne (h.lst_ne h.v)]; exact h.v, ⟨by rw [upd_ne (h.lst_ne h.ra.top)]; exact h.ra.top, h.ra.len, fun j b r e g => by rw [upd_ne (h.lst_ne (h.ra.row j b r e g))]; exact h.ra.row j b r e g, h.ra.nd⟩, by rw [upd_ne (h.lst_ne h.t)]; exact h.t, by rw [upd_ne (h.lst_ne h.h)]; exact h.h, h.nd⟩
theorem nd4 {a b c d : Addr} {l : List Addr} (h : (a :: b :: c :: d :: l).Nodup) : a ≠ b ∧ a ≠ c ∧ a ≠ d ∧ b ≠ c ∧ b ≠ d ∧ c ≠ d ∧ (∀ z ∈ l, a ≠ z ∧ b ≠ z ∧ c ≠ z ∧ d ≠ z) := by
  simp only [List.nodup_cons, List.mem_cons, not_or] at h
  obtain ⟨⟨h1, h2, h3, h4⟩, ⟨h5, h6, h7⟩, ⟨h8, h9⟩, h10, _⟩ := h
  exact ⟨h1, h2, h3, h5, h6, h8, fun z hz => ⟨fun q => h4 (q ▸ hz), fun q => h7 (q ▸ hz), fun q => h9 (q ▸ hz), fun q => h10 (q ▸ hz)⟩⟩
theorem LawAt.setV {H : Hp} {L : LA} {rows : List (List Int)} {m : Mem} {i s : Nat} (h : LawAt H L rows m i s) (l : List Int) : LawAt (upd H L.av (.lst (intsV l))) L rows { m with nums := l } i s := by
  obtain ⟨n1, n2, n3, _, _, _, n4⟩ := nd4 h.nd
  exact ⟨by rw [upd_ne (h.lst_ne h.v).symm]; exact h.d, upd_same, ⟨by rw [upd_ne n1.symm]; exact h.ra.top, h.ra.len, fun j b r e g => by rw [upd_ne (n4 b (List.mem_of_getElem? e)).1.symm]; exact h.ra.row j b r e g, h.ra.nd⟩, by rw [upd_ne n2.symm]; exact h.t, by rw [upd_ne n3.symm]; exact h.h, h.nd⟩
theorem LawAt.setT {H : Hp} {L : LA} {rows : List (List Int)} {m : Mem} {i s : Nat} (h : LawAt H L rows m i s) (l : List Int) : LawAt (upd H L.at_ (.lst (intsV l))) L rows { m with coming := l } i s := by
  obtain ⟨_, n2, _, n4, _, n6, n7⟩ := nd4 h.nd
  exact ⟨by rw [upd_ne (h.lst_ne h.t).symm]; exact h.d, by rw [upd_ne n2]; exact h.v, ⟨by rw [upd_ne n4]; exact h.ra.top, h.ra.len, fun j b r e g => by rw [upd_ne (n7 b (List.mem_of_getElem? e)).2.2.1.symm]; exact h.ra.row j b r e g, h.ra.nd⟩, upd_same, by rw [upd_ne n6.symm]; exact h.h, h.nd⟩
theorem LawAt.setH {H : Hp} {L : LA} {rows : List (List Int)} {m : Mem} {i s : Nat} (h : LawAt H L rows m i s) (l : List Int) : LawAt (upd H L.ah (.lst (intsV l))) L rows { m with heard := l } i s := by
  obtain ⟨_, _, n3, _, n5, n6, n7⟩ := nd4 h.nd
  exact ⟨by rw [upd_ne (h.lst_ne h.h).symm]; exact h.d, by rw [upd_ne n3]; exact h.v, ⟨by rw [upd_ne n5]; exact h.ra.top, h.ra.len, fun j b r e g => by rw [upd_ne (n7 b (List.mem_of_getElem? e)).2.2.2.symm]; exact h.ra.row j b r e g, h.ra.nd⟩, by rw [upd_ne n6]; exact h.t, upd_same, h.nd⟩
theorem LawAt.setR {H : Hp} {L : LA} {rows : List (List Int)} {m : Mem} {i s : Nat} (h : LawAt H L rows m i s) {r : Nat} {a : Addr} {l0 : List Int} (ea : L.rs[r]? = some a) (el : rows[r]? = some l0) (l : List Int) : LawAt (upd H a (.lst (intsV l))) L (rows.set r l) m i s := by
  have ho := h.ra.row r a l0 ea el
  have ham := List.mem_of_getElem? ea
  obtain ⟨_, _, _, _, _, _, n7⟩ := nd4 h.nd
  have nda := (List.nodup_cons.mp h.ra.nd)
  have hat : a ≠ L.ar := fun z => nda.1 (z ▸ ham)
  refine ⟨by rw [upd_ne (h.lst_ne ho).symm]; exact h.d, by rw [upd_ne (n7 a ham).1]; exact h.v, ⟨by rw [upd_ne hat.symm]; exact h.ra.top, by rw [List.length_set]; exact h.ra.len, fun j b q e g => ?_, h.ra.nd⟩, by rw [upd_ne (n7 a ham).2.2.1]; exact h.t, by rw [upd_ne (n7 a ham).2.2.2]; exact h.h, h.nd⟩
  by_cases hj : j = r
  · subst hj
    rw [ea] at e; cases e
    rw [List.getElem?_set_self (List.getElem?_eq_some_iff.mp el).1] at g
    cases g
    exact upd_same
  · rw [List.getElem?_set_ne (fun z => hj z.symm)] at g
    have hne : b ≠ a := fun z => by
      rw [z] at e
      exact hj ((List.getElem?_inj (List.getElem?_eq_some_iff.mp e).1 nda.2).mp (e.trans ea.symm))
    rw [upd_ne hne]
    exact h.ra.row j b q e g
theorem len_ints (l : List Int) : (intsV l).length = l.length := by unfold intsV; rw [List.length_map]
theorem ok_at (F : Fun K "_law_at" "_law_at" s_at f fd) : FnOk P w K mg base CX0 (n + 1) f fd ["_law_values", "_law_name"] (spAt K) := by
  refine F.ok sc_at (fun vs H Q E h => ?_) (fun cdv A outer s H vs Q E hr h => ?_)
  · obtain ⟨a, l, y, rfl, _⟩ := h
    rfl
  obtain ⟨a, l, y, rfl, hS, hy, q⟩ := h
  have sc := sc_at
  refine ⟨_, (@pss_cons _ _ _ _ _ (ps_if (pt_cmpR op_isN (pv 1) pe_non (nomark _)) (pss_one (ps_ret pe_int)) pss_nil)
      (pss_one (ps_ret (pe_ix ix_list (pv 0) (pv 1) (fun _ _ => rfl))))), ?_⟩
  cases y with
  | none => exact ⟨_, rfl, rfl, _, rfl, iteT q⟩
  | some i => exact ⟨_, rfl, rfl, _, rfl, iteF ⟨_, rfl, _, rfl, a, _, _, _, rfl, rfl, hS, atI_nat (at_ints hy), q⟩⟩
theorem ok_node_at (F : Fun K "_law_node_at" "_law_node_at" s_node_at f fd) (m_len : mg "len" = none) : FnOk P w K mg base CX0 (n + 1) f fd ["_law_state", "_law_node_here"] (spNodeAt K) := by
  refine F.ok sc_node_at (fun vs H Q E h => ?_) (fun cdv A outer s H vs Q E hr h => ?_)
  · obtain ⟨L, rows, m, i, s, nd, v, rfl, _⟩ := h
    rfl
  have hu : (A.deeper (envOfC "_law_node_at" (defScope s_node_at) s.heap.objs.size f cdv)).units + 1 < cLine := by have := hr.units; omega
  obtain ⟨L, rows, m, i, s, nd, v, rfl, hL, hi, hk, q⟩ := h
  have sc := sc_node_at
  refine ⟨_, (@pss_cons _ _ _ _ _ (ps_if (pt_cmpR op_eq (pe_ix ix_tup (pv 1) pe_int (fun _ _ => rfl)) pe_str (nomark _)) (pss_one (ps_ret (pe_ix ix_list (pe_dget hu (pv 0) pe_str (fun _ _ => rfl)) (pe_ix ix_tup (pv 1) pe_int (fun _ _ => rfl)) (fun _ _ => rfl)))) pss_nil)
      (@pss_cons _ _ _ _ _ (ps_if (pt_cmpR op_eq (pe_ix ix_tup (pv 1) pe_int (fun _ _ => rfl)) pe_str (nomark _)) (pss_one (ps_ret (pe_callB call_len_seq rfl m_len PySem.boot_len (pa_cons (pe_ix ix_list (pe_dget hu (pv 0) pe_str (fun _ _ => rfl)) (pe_ix ix_tup (pv 1) pe_int (fun _ _ => rfl)) (fun _ _ => rfl)) pa_nil)))) pss_nil)
      (pss_one (ps_ret pe_int)))), ?_⟩
  obtain ⟨a, vs, rfl, hq, il⟩ := nd_inv hi
  refine ⟨_, rfl, a, _, 0, _, rfl, rfl, hq, at0 _ _, rfl, _, rfl, ?_⟩
  cases nd with
  | name x =>
    obtain ⟨r, rfl, _⟩ := int1 il
    exact iteT ⟨_, rfl, L.sd, _, rfl, get_values hL.d, _, rfl, a, _, 1, _, rfl, rfl, hq, at1 _ _ _, L.av, _, _, _, rfl, rfl, SqL.of hL.v, atI_nat (at_ints hk), q⟩
  | len r =>
    obtain ⟨t, rfl, _⟩ := int1 il
    have hr : r < rows.length := hk
    have hra : r < L.rs.length := by rw [hL.ra.len]; exact hr
    have era := List.getElem?_eq_getElem hra
    have err := List.getElem?_eq_getElem hr
    refine iteF ⟨_, rfl, a, _, 0, _, rfl, rfl, hq, at0 _ _, rfl, _, rfl, iteT ⟨_, rfl, L.sd, _, rfl, get_rows hL.d, _, rfl, a, _, 1, _, rfl, rfl, hq, at1 _ _ _, L.ar, _, _, .ref L.rs[r], rfl, rfl, SqL.of hL.ra.top, atI_nat (j := r) (by rw [List.getElem?_map, era]; rfl), L.rs[r], _, rfl, .inl (SqL.of (hL.ra.row r _ _ era err)), ?_⟩⟩
    have e : ((intsV rows[r]).length : Int) = (Nd.len r).val m.nums rows := by
      show _ = ((rows[r]?.getD []).length : Int)
      rw [err, len_ints]; rfl
    rw [e]; exact q
  | zero => exact iteF ⟨_, rfl, a, _, 0, _, rfl, rfl, hq, at0 _ _, rfl, _, rfl, iteF q⟩
theorem ok_so (F : Fun K "_law_so" "_law_so" s_so f fd) (c_law_node_at : Cl P w K mg base "_law_node_at" n ["_law_state", "_law_node_here"] (spNodeAt K)) : FnOk P w K mg base CX0 (n + 1) f fd ["_law_state", "_law_bounds"] (spSo K) := by
  refine F.ok sc_so (fun vs H Q E h => ?_) (fun cdv A outer s H vs Q E hr h => ?_)
  · obtain ⟨L, rows, m, i, s, bs, v, rfl, _⟩ := h
    rfl
  obtain ⟨L, rows, m, i, s, bs, v, rfl, hL, hi, hk, q⟩ := h
  have sc := sc_so
  refine ⟨_, (@pss_cons _ _ _ _ _ (ps_for PassesOwn.never rfl (pi_tup (pv 1)) (pg_tup rfl (pgs_cons (pg_name (i := 2) sc.nd rfl (Or.inl rfl)) (pgs_cons (pg_name (i := 3) sc.nd rfl (Or.inl rfl)) (pgs_cons (pg_name (i := 4) sc.nd rfl (Or.inl rfl)) pgs_nil)))) (pss_one (ps_if (pt_cmpR op_gt (pe_op op_sub (pe_cl c_law_node_at hr rfl (pa_cons (pv 0) (pa_cons (pv 2) pa_nil))) (pe_cl c_law_node_at hr rfl (pa_cons (pv 0) (pa_cons (pv 3) pa_nil)))) (pv 4) (nomark _)) (pss_one (ps_ret pe_bl)) pss_nil)))
      (pss_one (ps_ret pe_bl))), ?_⟩
  obtain ⟨ab, xs, rfl, hq, il⟩ := hi.tup_inv
  have lx := il.length
  rw [List.length_map] at lx
  refine ⟨_, rfl, ab, rfl, ⟨_, hq⟩, for_tup (xs := xs) (fun j σ H' => ∃ y2 y3 y4, σ = [some (.ref L.sd), some (.ref ab), y2, y3, y4] ∧ H' = H ∧ (bs.take j).all (Bd.so m.nums rows) = true)
    ⟨_, _, _, rfl, rfl, rfl⟩ (fun j σ H' _ h => ?_) (fun j y σ H' ey h => ?_) (fun σ H' h => ?_)⟩
  · obtain ⟨_, _, _, _, rfl, _⟩ := h
    exact hq
  · obtain ⟨y2, y3, y4, rfl, rfl, ha⟩ := h
    have hjl : j < bs.length := by have := (List.getElem?_eq_some_iff.mp ey).1; omega
    have eb := List.getElem?_eq_getElem hjl
    obtain ⟨v', ev', iv'⟩ := il.get (j := j) (d := bs[j].D) (by rw [List.getElem?_map, eb]; rfl)
    rw [ey] at ev'; cases ev'
    obtain ⟨a, zs, rfl, hqa, ila⟩ := iv'.tup_inv
    obtain ⟨va, r1, rfl, ia, il1⟩ := any1 ila
    obtain ⟨vb, r2, rfl, ib, il2⟩ := any1 il1
    obtain ⟨r3, rfl, il3⟩ := int1 il2
    cases il3.nil_inv
    have hkb := hk _ (List.mem_of_getElem? eb)
    refine ⟨a, _, rfl, hqa, rfl, _, _, rfl, _, _, rfl, _, _, rfl, rfl, ?_⟩
    refine ⟨_, rfl, _, rfl, L, rows, m, i, s, bs[j].a, va, rfl, hL, ia, hkb.1, _, rfl, _, rfl, L, rows, m, i, s, bs[j].b, vb, rfl, hL, ib, hkb.2, _, _, rfl, rfl, _, rfl, _, _, rfl, rfl, _, rfl, ?_⟩
    by_cases e : bs[j].a.val m.nums rows - bs[j].b.val m.nums rows ≤ bs[j].c
    · rw [decide_eq_false (show ¬ bs[j].c < bs[j].a.val m.nums rows - bs[j].b.val m.nums rows by omega)]
      refine iteF ⟨_, _, _, rfl, rfl, ?_⟩
      rw [List.take_add_one, eb, List.all_append, ha]
      show (true && (decide _ && true)) = true
      rw [decide_eq_true e]; rfl
    · rw [decide_eq_true (show bs[j].c < bs[j].a.val m.nums rows - bs[j].b.val m.nums rows by omega)]
      have hf : bs.all (Bd.so m.nums rows) = false := by
        rw [List.all_eq_false]
        exact ⟨_, List.mem_of_getElem? eb, by show ¬ decide _ = true; rw [decide_eq_false e]; decide⟩
      rw [hf] at q
      exact iteT q
  · obtain ⟨y2, y3, y4, rfl, rfl, ha⟩ := h
    rw [← lx, List.take_length] at ha
    rw [ha] at q
    exact q
end
end K25
set_option Elab.async false
set_option linter.all false
set_option maxRecDepth 100000
set_option maxHeartbeats 4000000
namespace K25
open PySem PySem.Spec PyProof.Rows L2
section
variable {P : Program} {w : World} {K : PySem.W.Frag} {mg : Str → Option Value} {base : Heap} {f : Addr} {fd : FuncData} {n : Nat} {C : Addr}
theorem SqL.but {S : List Addr} {H H' : Hp} {a : Addr} {xs : List V} (b : But S H H') (hn : ¬ a ∈ S) (q : SqL K H a xs) : SqL K H' a xs := by
  rcases q with (q | ⟨o, q⟩) | q
  · exact .inl (.inl (b _ _ q hn))
  · exact .inl (.inr ⟨o, b _ _ q hn⟩)
  · exact .inr q
theorem iteB {b : Bool} {A B : Prop} (h : b = false) (hb : B) : if b = true then A else B := by rw [h]; exact iteF hb
theorem iteB1 {b : Bool} {A B : Prop} (h : b = true) (hb : A) : if b = true then A else B := by rw [h]; exact iteT hb
theorem in_place (l : Ln) : inV (.str l.word) [.str "get", .str "put"] = l.isPlace := by
  cases l with
  | deed d k => cases d <;> rfl
  | test y u c k m => rfl
  | ask bs k m => rfl
  | stop => rfl
theorem ok_place (F : Fun K "_law_place" "_law_place" s_place f fd) (c_law_at : Cl P w K mg base "_law_at" n ["_law_values", "_law_name"] (spAt K)) : FnOk P w K mg base CX0 (n + 1) f fd ["_law_state", "_law_line_here"] (spLPlace K) := by
  refine F.ok sc_place (fun vs H Q E h => ?_) (fun cdv A outer s H vs Q E hr h => ?_)
  · obtain ⟨L, rows, m, i, s, d, k, v, o, rfl, _⟩ := h
    rfl
  have hu : (A.deeper (envOfC "_law_place" (defScope s_place) s.heap.objs.size f cdv)).units + 1 < cLine := by have := hr.units; omega
  obtain ⟨L, rows, m, i, s, d, k, v, o, rfl, hL, hi, ho, hy, q⟩ := h
  have sc := sc_place
  refine ⟨_, (@pss_cons _ _ _ _ _ (ps_if (pt_cmpR op_eq (pe_ix ix_tup (pv 1) pe_int (fun _ _ => rfl)) pe_str (nomark _)) (pss_one (ps_ret (pe_tup (pa_cons (pe_ix ix_tup (pv 1) pe_int (fun _ _ => rfl)) (pa_cons (pe_op op_add (pe_cl c_law_at hr rfl (pa_cons (pe_dget hu (pv 0) pe_str (fun _ _ => rfl)) (pa_cons (pe_ix ix_tup (pv 1) pe_int (fun _ _ => rfl)) pa_nil))) (pe_ix ix_tup (pv 1) pe_int (fun _ _ => rfl))) pa_nil))))) pss_nil)
      (pss_one (ps_ret (pe_tup (pa_cons (pe_ix ix_tup (pv 1) pe_int (fun _ _ => rfl)) (pa_cons (pe_op op_add (pe_cl c_law_at hr rfl (pa_cons (pe_dget hu (pv 0) pe_str (fun _ _ => rfl)) (pa_cons (pe_ix ix_tup (pv 1) pe_int (fun _ _ => rfl)) pa_nil))) (pe_ix ix_tup (pv 1) pe_int (fun _ _ => rfl))) pa_nil)))))), ?_⟩
  obtain ⟨a, vs, rfl, hq, il⟩ := ln_inv (l := .deed d k) hi
  refine ⟨_, rfl, a, _, 0, _, rfl, rfl, hq, at0 _ _, rfl, _, rfl, ?_⟩
  cases d with
  | get x r y c =>
    obtain ⟨r1, rfl, i1⟩ := int1 il
    obtain ⟨r2, rfl, i2⟩ := int1 i1
    obtain ⟨r3, rfl, i3⟩ := opt1 i2
    obtain ⟨r4, rfl, i4⟩ := int1 i3
    cases ho
    refine iteT ⟨_, rfl, a, _, 2, _, rfl, rfl, hq, at2 _ _ _ _, _, rfl, L.sd, _, rfl, get_values hL.d, _, rfl, a, _, 3, _, rfl, rfl, hq, at3 _ _ _ _ _, L.av, m.nums, y, rfl, SqL.of hL.v, hy, _, rfl, a, _, 4, _, rfl, rfl, hq, at4 _ _ _ _ _ _, _, _, rfl, rfl, Nat.le_of_ble_eq_true rfl, fun t nt => ?_⟩
    exact q _ t (same_new nt _) upd_same
  | put r y c z =>
    obtain ⟨r2, rfl, i2⟩ := int1 il
    obtain ⟨r3, rfl, i3⟩ := opt1 i2
    obtain ⟨r4, rfl, i4⟩ := int1 i3
    cases ho
    refine iteF ⟨_, rfl, a, _, 1, _, rfl, rfl, hq, at1 _ _ _, _, rfl, L.sd, _, rfl, get_values hL.d, _, rfl, a, _, 2, _, rfl, rfl, hq, at2 _ _ _ _, L.av, m.nums, y, rfl, SqL.of hL.v, hy, _, rfl, a, _, 3, _, rfl, rfl, hq, at3 _ _ _ _ _, _, _, rfl, rfl, Nat.le_of_ble_eq_true rfl, fun t nt => ?_⟩
    exact q _ t (same_new nt _) upd_same
  | set x y c => cases ho
  | sum x z y => cases ho
  | len x r => cases ho
  | take x => cases ho
  | tell x => cases ho
theorem two_so {k m : Nat} {bs : List Bd} {nums : List Int} {rows : List (List Int)} : atI [V.int (m : Int), .int (k : Int)] (if bs.all (Bd.so nums rows) then 1 else 0) = some (.int (((Ln.ask bs k m).next nums rows : Nat) : Int)) := by
  have e : (Ln.ask bs k m).next nums rows = if bs.all (Bd.so nums rows) then k else m := by
    show (if (!bs.all (Bd.so nums rows)) = true then m else k) = _
    cases bs.all (Bd.so nums rows) <;> rfl
  rw [e]
  cases bs.all (Bd.so nums rows) <;> rfl
theorem ok_stop (F : Fun K "_law_stop" "_law_stop" s_stop f fd) (m_len : mg "len" = none) (m_int : mg "int" = none) (c_law_so : Cl P w K mg base "_law_so" n ["_law_state", "_law_bounds"] (spSo K)) (c_law_place : Cl P w K mg base "_law_place" n ["_law_state", "_law_line_here"] (spLPlace K)) : FnOk P w K mg base CX0 (n + 1) f fd ["_law_lines", "_law_state", "_law_budget"] (spStop K) := by
  refine F.ok sc_stop (fun vs H Q E h => ?_) (fun cdv A outer s H vs Q E hr h => ?_)
  · obtain ⟨L, rows, m, i, s, b, al, xs, ls, nl, n, j, l, rfl, _⟩ := h
    rfl
  have hu : (A.deeper (envOfC "_law_stop" (defScope s_stop) s.heap.objs.size f cdv)).units + 1 < cLine := by have := hr.units; omega
  obtain ⟨L, rows, m, i, s, b, al, xs, ls, nl, n, j, l, rfl, hal, iL, nal, hL, hok, hp, hl, hc, q⟩ := h
  have sc := sc_stop
  refine ⟨_, (@pss_cons _ _ _ _ _ (ps_while PassesOwn.never (pt_cmpR op_eq (pe_ix ix_tup (pe_ix ix_list (pv 0) (pe_dget hu (pv 1) pe_str (fun _ _ => rfl)) (fun _ _ => rfl)) pe_int (fun _ _ => rfl)) pe_str (nomark _)) (@pss_cons _ _ _ _ _ (ps_set (i := 3) sc.nd rfl (Or.inl rfl) (pe_ix ix_list (pv 0) (pe_dget hu (pv 1) pe_str (fun _ _ => rfl)) (fun _ _ => rfl)))
      (pss_one (ps_dput hu (pv 1) pe_str (pe_ix ix_list (pe_lst (pa_cons (pe_ix ix_tup (pv 3) pe_int (fun _ _ => rfl)) (pa_cons (pe_ix ix_tup (pv 3) pe_int (fun _ _ => rfl)) pa_nil))) (pe_callTy call_int1 rfl m_int PyProof.Rows.boot_int (pa_cons (pe_cl c_law_so hr rfl (pa_cons (pv 1) (pa_cons (pe_ix ix_tup (pv 3) pe_int (fun _ _ => rfl)) pa_nil))) pa_nil)) (fun _ _ => rfl)) rfl))))
      (@pss_cons _ _ _ _ _ (ps_set (i := 3) sc.nd rfl (Or.inl rfl) (pe_ix ix_list (pv 0) (pe_dget hu (pv 1) pe_str (fun _ _ => rfl)) (fun _ _ => rfl)))
      (@pss_cons _ _ _ _ _ (ps_if (pt_cmpR op_eq (pe_ix ix_tup (pv 3) pe_int (fun _ _ => rfl)) pe_str (nomark _)) (pss_one (ps_ret pe_str)) pss_nil)
      (@pss_cons _ _ _ _ _ (ps_if (pt_cmpR op_in_seq (pe_ix ix_tup (pv 3) pe_int (fun _ _ => rfl)) (pe_tup (pa_consts rfl)) (by with_unfolding_all rfl)) (@pss_cons _ _ _ _ _ (ps_asg (pe_cl c_law_place hr rfl (pa_cons (pv 1) (pa_cons (pv 3) pa_nil))) (pg_tup rfl (pgs_cons (pg_name (i := 4) sc.nd rfl (Or.inl rfl)) (pgs_cons (pg_name (i := 5) sc.nd rfl (Or.inl rfl)) pgs_nil))))
      (@pss_cons _ _ _ _ _ (ps_if (pt_cmpR op_lt (pv 5) pe_int (nomark _)) (pss_one (ps_ret pe_str)) pss_nil)
      (pss_one (ps_if (pt_cmpR op_ge (pv 5) (pe_callB call_len_seq rfl m_len PySem.boot_len (pa_cons (pe_ix ix_list (pe_dget hu (pv 1) pe_str (fun _ _ => rfl)) (pv 4) (fun _ _ => rfl)) pa_nil)) (nomark _)) (pss_one (ps_ret pe_str)) pss_nil)))) pss_nil)
      (@pss_cons _ _ _ _ _ (ps_if (pt_cmpR op_eq (pe_dget hu (pv 1) pe_str (fun _ _ => rfl)) (pv 2) (nomark _)) (pss_one (ps_ret pe_str)) pss_nil)
      (pss_one (ps_ret pe_non))))))), ?_⟩
  have hns : ¬ al ∈ [L.sd] := fun z => nal (List.mem_singleton.mp z)
  refine ⟨fun n σ H' => ∃ y3 i, σ = [some (.ref al), some (.ref L.sd), some (.int (b : Int)), y3, none, none] ∧ Pass ls m.nums rows n i j ∧ But [L.sd] H H' ∧ Tups H H' ∧ LawAt H' L rows m i s, ⟨n, _, i, rfl, hp, But.refl _ _, (Same.refl H).tups, hL⟩, fun n' σ H' h => ?_⟩
  obtain ⟨y3, i', rfl, hp', bb, tt, hL'⟩ := h
  have hal' := SqL.but bb hns hal
  have iL' := iL.mono tt
  cases hp' with
  | here hl' hc' =>
    rw [hl] at hl'; cases hl'
    obtain ⟨v, ev, iv⟩ := iL'.get (j := j) (d := l.D) (by rw [List.getElem?_map, hl]; rfl)
    obtain ⟨a, vs, rfl, hq, il⟩ := ln_inv iv
    refine ⟨_, rfl, _, rfl, L.sd, _, rfl, get_at hL'.d, al, xs, _, _, rfl, rfl, hal', atI_nat ev, a, _, 0, _, rfl, rfl, hq, at0 _ _, rfl, _, rfl, iteB (decide_eq_false (fun z => calm_word hc (V.str.inj z))) ?_⟩
    refine ⟨_, rfl, _, rfl, L.sd, _, rfl, get_at hL'.d, al, xs, _, _, rfl, rfl, hal', atI_nat ev, ?_⟩
    refine ⟨_, rfl, a, _, 0, _, rfl, rfl, hq, at0 _ _, rfl, _, rfl, ?_⟩
    have q0 := q H' bb tt hL'
    by_cases hs : l = .stop
    · subst hs
      exact iteT q0
    have hw : l.word ≠ "end" := by
      cases l with
      | deed d k => exact word_not (by decide)
      | test y u c k m => exact (by decide : ("test" : Str) ≠ "end")
      | ask bs k m => exact hc.elim
      | stop => exact absurd rfl hs
    have hokl := hok _ (List.mem_of_getElem? hl)
    refine iteB (decide_eq_false (fun z => hw (V.str.inj z))) ?_
    refine ⟨_, rfl, a, _, 0, _, rfl, rfl, hq, at0 _ _, Nat.le_of_ble_eq_true rfl, fun tp ntp => ⟨tp, _, rfl, .inr (SqT.of upd_same), rfl, rfl, _, rfl, ?_⟩⟩
    have s1 := same_new ntp (.tup [.str "get", .str "put"])
    have hL1 := hL'.same s1
    have q1 := q _ (bb.trans (But.of_same s1)) (tt.trans s1.tups) hL1
    have hq1 := s1.tups.sq hq
    have iv1 := iv.mono s1.tups
    have b1 := bb.trans (But.of_same (S := [L.sd]) s1)
    have t1 := tt.trans s1.tups
    generalize upd H' tp (.tup [.str "get", .str "put"]) = H1 at *
    cases hpl : l.isPlace with
    | false =>
      have hlk : l.look m.nums rows = none := by
        cases l with
        | deed d k =>
          have : d.slot.isSome = false := hpl
          show d.look m.nums rows = none
          unfold Deed.look
          cases e : d.slot with
          | none => rfl
          | some o => rw [e] at this; cases this
        | _ => rfl
      have hsw : l.stopW m.nums rows s b = if s = b then some ("spent" : Str) else none := by
        cases l with
        | stop => exact absurd rfl hs
        | deed d k => show (match d.look m.nums rows with | some z => some z | none => _) = _; rw [show d.look m.nums rows = none from hlk]
        | test y u c k m2 => rfl
        | ask bs k m2 => rfl
      rw [hsw] at q1
      refine iteB ((in_place l).trans hpl) ?_
      refine ⟨_, rfl, L.sd, _, rfl, get_steps hL1.d, _, rfl, rfl, _, rfl, ?_⟩
      by_cases e : s = b
      · rw [if_pos e] at q1
        exact iteB1 (decide_eq_true (by rw [e])) q1
      · rw [if_neg e] at q1
        exact iteB (decide_eq_false (fun z => e (by have := V.int.inj z; omega))) q1
    | true =>
      cases l with
      | test y u c k m2 => cases hpl
      | ask bs k m2 => cases hpl
      | stop => cases hpl
      | deed d k =>
        have hp' : d.slot.isSome = true := hpl
        obtain ⟨o, eo⟩ := Option.isSome_iff_exists.mp hp'
        obtain ⟨hr1, hy⟩ := slot_ok eo hokl.1
        have hsw : (Ln.deed d k).stopW m.nums rows s b = match lookAt m.nums rows o with | some z => some z | none => if s = b then some ("spent" : Str) else none := by
          show (match d.look m.nums rows with | some z => some z | none => _) = _
          have : d.look m.nums rows = lookAt m.nums rows o := by unfold Deed.look; rw [eo]
          rw [this]
        rw [hsw] at q
        refine iteB1 ((in_place (.deed d k)).trans hpl) ?_
        refine ⟨_, rfl, _, rfl, L, rows, m, j, s, d, k, .ref a, o, rfl, hL1, iv1, eo, hy, fun H2 t s2 ht => ?_⟩
        have hL2 := hL1.same s2
        have q2 := q H2 (b1.trans (But.of_same s2)) (t1.trans s2.tups) hL2
        refine ⟨t, _, rfl, SqT.of ht, rfl, _, _, rfl, _, _, rfl, rfl, ?_⟩
        refine ⟨_, rfl, _, _, rfl, rfl, _, rfl, ?_⟩
        by_cases hl0 : worth m.nums o.2.1 + o.2.2 < 0
        · have e : lookAt m.nums rows o = some "low" := if_pos hl0
          rw [e] at q2
          exact iteB1 (decide_eq_true hl0) q2
        refine iteB (decide_eq_false hl0) ?_
        have hra : o.1 < L.rs.length := by rw [hL.ra.len]; exact hr1
        have era := List.getElem?_eq_getElem hra
        have err := List.getElem?_eq_getElem hr1
        refine ⟨_, rfl, _, rfl, L.sd, _, rfl, get_rows hL2.d, _, rfl, L.ar, _, _, .ref L.rs[o.1], rfl, rfl, SqL.of hL2.ra.top, atI_nat (j := o.1) (by rw [List.getElem?_map, era]; rfl), L.rs[o.1], _, rfl, .inl (SqL.of (hL2.ra.row o.1 _ _ era err)), _, _, rfl, rfl, _, rfl, ?_⟩
        have el : ((intsV rows[o.1]).length : Int) = ((rows[o.1]?.getD []).length : Int) := by rw [err, len_ints]; rfl
        by_cases hh : ((rows[o.1]?.getD []).length : Int) ≤ worth m.nums o.2.1 + o.2.2
        · have e : lookAt m.nums rows o = some "high" := (if_neg hl0).trans (if_pos hh)
          rw [e] at q2
          exact iteB1 (decide_eq_true (by rw [el]; exact hh)) q2
        refine iteB (decide_eq_false (by rw [el]; exact hh)) ?_
        have e : lookAt m.nums rows o = none := (if_neg hl0).trans (if_neg hh)
        rw [e] at q2
        have q3 : Q (lookV (if s = b then some ("spent" : Str) else none)) H2 := q2
        refine ⟨_, rfl, L.sd, _, rfl, get_steps hL2.d, _, rfl, rfl, _, rfl, ?_⟩
        by_cases e : s = b
        · rw [if_pos e] at q3
          exact iteB1 (decide_eq_true (by rw [e])) q3
        · rw [if_neg e] at q3
          exact iteB (decide_eq_false (fun z => e (by have := V.int.inj z; omega))) q3
  | go hl' hp2 =>
    rename_i n2 bs k m2
    obtain ⟨v, ev, iv⟩ := iL'.get (j := i') (d := (Ln.ask bs k m2).D) (by rw [List.getElem?_map, hl']; rfl)
    obtain ⟨a, vs, rfl, hq, il⟩ := ln_inv iv
    obtain ⟨vb, r1, rfl, ib, il1⟩ := any1 il
    obtain ⟨r2, rfl, il2⟩ := int1 il1
    obtain ⟨r3, rfl, il3⟩ := int1 il2
    cases il3.nil_inv
    refine ⟨_, rfl, _, rfl, L.sd, _, rfl, get_at hL'.d, al, xs, _, _, rfl, rfl, hal', atI_nat ev, a, _, 0, _, rfl, rfl, hq, at0 _ _, rfl, _, rfl, iteT ?_⟩
    refine ⟨fun σ' H2 => ∃ y3 i, σ' = [some (.ref al), some (.ref L.sd), some (.int (b : Int)), y3, none, none] ∧ Pass ls m.nums rows n2 i j ∧ But [L.sd] H H2 ∧ Tups H H2 ∧ LawAt H2 L rows m i s, fun σ' H2 h => ⟨n2, Nat.lt_succ_self _, h⟩, ?_⟩
    refine ⟨_, rfl, _, rfl, L.sd, _, rfl, get_at hL'.d, al, xs, _, _, rfl, rfl, hal', atI_nat ev, ?_⟩
    refine ⟨_, rfl, a, _, 3, _, rfl, rfl, hq, at3 _ _ _ _ _, _, rfl, a, _, 2, _, rfl, rfl, hq, at2 _ _ _ _, Nat.le_of_ble_eq_true rfl, fun p np => ?_⟩
    have s1 := same_new np (.lst [.int (m2 : Int), .int (k : Int)])
    have hL1 := hL'.same s1
    have hk := hok _ (List.mem_of_getElem? hl')
    refine ⟨_, rfl, _, rfl, a, _, 1, _, rfl, rfl, s1.tups.sq hq, at1 _ _ _, L, rows, m, i', s, bs, vb, rfl, hL1, ib.mono s1.tups, hk.1, .inr ⟨_, rfl, p, _, _, _, rfl, rfl, SqL.of upd_same, two_so, ?_⟩⟩
    refine ⟨_, rfl, L.sd, _, rfl, put_at hL1.d, ?_⟩
    exact ⟨_, _, rfl, hp2, bb.trans ((But.of_same s1).trans (But.upd (by simp))), tt.trans (s1.tups.trans (tups_dk hL1.d)), hL1.setD _ s⟩
theorem intV_isl {H : Hp} : ∀ (l : List Int), IsL K H (l.map D.int) (intsV l)
  | [] => isl_nil
  | i :: l => isl_cons is_int (intV_isl l)
theorem dep_intl : ∀ (l : List Int), D.depL (l.map D.int) = 0
  | [] => by unfold D.depL; rfl
  | i :: l => by
    have := dep_intl l
    rw [List.map_cons]
    unfold D.depL
    rw [this]
    unfold D.dep
    rfl
theorem at_intN {l : List Int} {i : Nat} (h : i < l.length) : atI (intsV l) (i : Int) = some (.int (worth l (some i))) := atI_nat (at_ints h)
theorem ok_given (F : Fun K "_law_given" "_law_given" s_given f fd) (m_len : mg "len" = none) (c_law_at : Cl P w K mg base "_law_at" n ["_law_values", "_law_name"] (spAt K)) (c_law_place : Cl P w K mg base "_law_place" n ["_law_state", "_law_line_here"] (spLPlace K)) : FnOk P w K mg base CX0 (n + 1) f fd ["_law_state", "_law_line_here"] (spGiven K) := by
  refine F.ok sc_given (fun vs H Q E h => ?_) (fun cdv A outer s H vs Q E hr h => ?_)
  · obtain ⟨L, rows, m, i, s, d, k, v, rfl, _⟩ := h
    rfl
  have hu : (A.deeper (envOfC "_law_given" (defScope s_given) s.heap.objs.size f cdv)).units + 1 < cLine := by have := hr.units; omega
  have hu2 : (A.deeper (envOfC "_law_given" (defScope s_given) s.heap.objs.size f cdv)).units + 1 + 1 < cLine := by have := hr.units; omega
  obtain ⟨L, rows, m, i, s, d, k, v, rfl, hL, hi, hok, hlk, hnm, q⟩ := h
  have sc := sc_given
  refine ⟨_, (@pss_cons _ _ _ _ _ (ps_set (i := 2) sc.nd rfl (Or.inl rfl) (pe_dget hu (pv 0) pe_str (fun _ _ => rfl)))
      (@pss_cons _ _ _ _ _ (ps_if (pt_cmpR op_eq (pe_ix ix_tup (pv 1) pe_int (fun _ _ => rfl)) pe_str (nomark _)) (pss_one (ps_ret (pe_op op_add (pe_cl c_law_at hr rfl (pa_cons (pv 2) (pa_cons (pe_ix ix_tup (pv 1) pe_int (fun _ _ => rfl)) pa_nil))) (pe_ix ix_tup (pv 1) pe_int (fun _ _ => rfl))))) pss_nil)
      (@pss_cons _ _ _ _ _ (ps_if (pt_cmpR op_eq (pe_ix ix_tup (pv 1) pe_int (fun _ _ => rfl)) pe_str (nomark _)) (pss_one (ps_ret (pe_op op_add (pe_ix ix_list (pv 2) (pe_ix ix_tup (pv 1) pe_int (fun _ _ => rfl)) (fun _ _ => rfl)) (pe_cl c_law_at hr rfl (pa_cons (pv 2) (pa_cons (pe_ix ix_tup (pv 1) pe_int (fun _ _ => rfl)) pa_nil)))))) pss_nil)
      (@pss_cons _ _ _ _ _ (ps_if (pt_cmpR op_eq (pe_ix ix_tup (pv 1) pe_int (fun _ _ => rfl)) pe_str (nomark _)) (pss_one (ps_ret (pe_callB call_len_seq rfl m_len PySem.boot_len (pa_cons (pe_ix ix_list (pe_dget hu (pv 0) pe_str (fun _ _ => rfl)) (pe_ix ix_tup (pv 1) pe_int (fun _ _ => rfl)) (fun _ _ => rfl)) pa_nil)))) pss_nil)
      (@pss_cons _ _ _ _ _ (ps_if (pt_cmpR op_eq (pe_ix ix_tup (pv 1) pe_int (fun _ _ => rfl)) pe_str (nomark _)) (@pss_cons _ _ _ _ _ (ps_asg (pe_cl c_law_place hr rfl (pa_cons (pv 0) (pa_cons (pv 1) pa_nil))) (pg_tup rfl (pgs_cons (pg_name (i := 3) sc.nd rfl (Or.inl rfl)) (pgs_cons (pg_name (i := 4) sc.nd rfl (Or.inl rfl)) pgs_nil))))
      (pss_one (ps_ret (pe_ix ix_list (pe_ix ix_list (pe_dget hu (pv 0) pe_str (fun _ _ => rfl)) (pv 3) (fun _ _ => rfl)) (pv 4) (fun _ _ => rfl))))) pss_nil)
      (@pss_cons _ _ _ _ _ (ps_if (pt_cmpR (op_eqDL (n := 1) hu2) (pe_dget hu (pv 0) pe_str (fun _ _ => rfl)) (pe_lst pa_nil) (nomark _)) (pss_one (ps_ret pe_int)) pss_nil)
      (pss_one (ps_ret (pe_bm PySem.F.plainAttrs_list PySem.F.slot_list_pop PySem.F.type_list_pop mt_popAt (pe_dget hu (pv 0) pe_str (fun _ _ => rfl)) (pa_cons pe_int pa_nil)))))))))), ?_⟩
  obtain ⟨a, vs, rfl, hq, il⟩ := deed_inv hi
  refine ⟨_, rfl, L.sd, _, rfl, get_values hL.d, ?_⟩
  refine ⟨_, rfl, a, _, 0, _, rfl, rfl, hq, at0 _ _, rfl, _, rfl, ?_⟩
  have q0 := q H (But.refl _ _) (Same.refl H).tups
  cases d with
  | tell x => exact absurd rfl hnm
  | put r y c z => exact absurd rfl hnm
  | get x r y c =>
    have ho : (Deed.get x r y c).slot = some (r, y, c) := rfl
    obtain ⟨p0, p1⟩ := look_in ho hlk
    have hr2 : r < rows.length := hok.2.1
    have hra : r < L.rs.length := by rw [hL.ra.len]; exact hr2
    have era := List.getElem?_eq_getElem hra
    have err := List.getElem?_eq_getElem hr2
    rw [err] at p1
    have p0' : (0 : Int) ≤ worth m.nums y + c := p0
    have p1' : worth m.nums y + c < (rows[r].length : Int) := p1
    obtain ⟨pp, epp, hpp⟩ : ∃ pp : Nat, worth m.nums y + c = (pp : Int) ∧ pp < rows[r].length := ⟨(worth m.nums y + c).toNat, by omega, by omega⟩
    refine iteF ⟨_, rfl, a, _, 0, _, rfl, rfl, hq, at0 _ _, rfl, _, rfl, iteF ⟨_, rfl, a, _, 0, _, rfl, rfl, hq, at0 _ _, rfl, _, rfl, iteF ⟨_, rfl, a, _, 0, _, rfl, rfl, hq, at0 _ _, rfl, _, rfl, iteT ?_⟩⟩⟩
    refine ⟨_, rfl, _, rfl, L, rows, m, i, s, .get x r y c, k, .ref a, (r, y, c), rfl, hL, hi, ho, hok.2.2, fun H1 t s1 ht => ?_⟩
    have hL1 := hL.same s1
    refine ⟨t, _, rfl, SqT.of ht, rfl, _, _, rfl, _, _, rfl, rfl, ?_⟩
    have ev : (rows[r])[pp]?.getD 0 = Deed.val rows m (.get x r y c) := by
      show _ = (rows[r]?.getD [])[(worth m.nums y + c).toNat]?.getD 0
      rw [epp, err, Int.toNat_natCast]; rfl
    refine ⟨_, rfl, L.sd, _, rfl, get_rows hL1.d, _, rfl, L.ar, _, _, .ref L.rs[r], rfl, rfl, SqL.of hL1.ra.top, atI_nat (j := r) (by rw [List.getElem?_map, era]; rfl), _, rfl, L.rs[r], _, _, _, rfl, rfl, SqL.of (hL1.ra.row r _ _ era err), (by show atI _ (worth m.nums y + c) = _; rw [epp]; exact atI_nat (at_ints hpp)), ?_⟩
    rw [ev]
    exact q H1 (But.of_same s1) s1.tups hL1
  | set x y c =>
    obtain ⟨r1, rfl, i1⟩ := int1 il
    obtain ⟨r2, rfl, i2⟩ := opt1 i1
    obtain ⟨r3, rfl, i3⟩ := int1 i2
    exact iteT ⟨_, rfl, _, rfl, a, _, 2, _, rfl, rfl, hq, at2 _ _ _ _, L.av, m.nums, y, rfl, SqL.of hL.v, hok.2, _, rfl, a, _, 3, _, rfl, rfl, hq, at3 _ _ _ _ _, _, _, rfl, rfl, q0 hL⟩
  | sum x z y =>
    obtain ⟨r1, rfl, i1⟩ := int1 il
    obtain ⟨r2, rfl, i2⟩ := int1 i1
    obtain ⟨r3, rfl, i3⟩ := opt1 i2
    exact iteF ⟨_, rfl, a, _, 0, _, rfl, rfl, hq, at0 _ _, rfl, _, rfl, iteT ⟨_, rfl, _, rfl, a, _, 2, _, rfl, rfl, hq, at2 _ _ _ _, L.av, _, _, _, rfl, rfl, SqL.of hL.v, at_intN hok.2.1, _, rfl, _, rfl, a, _, 3, _, rfl, rfl, hq, at3 _ _ _ _ _, L.av, m.nums, y, rfl, SqL.of hL.v, hok.2.2, _, _, rfl, rfl, q0 hL⟩⟩
  | len x r =>
    obtain ⟨r1, rfl, i1⟩ := int1 il
    obtain ⟨r2, rfl, i2⟩ := int1 i1
    have hr2 : r < rows.length := hok.2
    have hra : r < L.rs.length := by rw [hL.ra.len]; exact hr2
    have era := List.getElem?_eq_getElem hra
    have err := List.getElem?_eq_getElem hr2
    refine iteF ⟨_, rfl, a, _, 0, _, rfl, rfl, hq, at0 _ _, rfl, _, rfl, iteF ⟨_, rfl, a, _, 0, _, rfl, rfl, hq, at0 _ _, rfl, _, rfl, iteT ⟨_, rfl, L.sd, _, rfl, get_rows hL.d, _, rfl, a, _, 2, _, rfl, rfl, hq, at2 _ _ _ _, L.ar, _, _, .ref L.rs[r], rfl, rfl, SqL.of hL.ra.top, atI_nat (j := r) (by rw [List.getElem?_map, era]; rfl), L.rs[r], _, rfl, .inl (SqL.of (hL.ra.row r _ _ era err)), ?_⟩⟩⟩
    have e : ((intsV rows[r]).length : Int) = (Deed.len x r).val rows m := by
      show _ = ((rows[r]?.getD []).length : Int)
      rw [err, len_ints]; rfl
    rw [e]; exact q0 hL
  | take x =>
    obtain ⟨r1, rfl, i1⟩ := int1 il
    refine iteF ⟨_, rfl, a, _, 0, _, rfl, rfl, hq, at0 _ _, rfl, _, rfl, iteF ⟨_, rfl, a, _, 0, _, rfl, rfl, hq, at0 _ _, rfl, _, rfl, iteF ⟨_, rfl, a, _, 0, _, rfl, rfl, hq, at0 _ _, rfl, _, rfl, iteF ?_⟩⟩⟩
    refine ⟨_, rfl, L.sd, _, rfl, get_taken hL.d, Nat.le_of_ble_eq_true rfl, fun p np => ?_⟩
    have s1 := same_new np (.lst [])
    have hL1 := hL.same s1
    have ep : upd H p (.lst []) p = some (.lst []) := upd_same
    generalize upd H p (.lst []) = H1 at *
    refine ⟨L.at_, p, _, _, _, _, rfl, rfl, SqL.of hL1.t, SqL.of ep, intV_isl _, isl_nil, by rw [dep_intl]; decide, ?_⟩
    cases hcm : m.coming with
    | nil =>
      refine ⟨true, (by show V.bl (D.beqL ([] : List D) []) = V.bl true; rw [D.beqL_self]), iteT ?_⟩
      have e1 : (Deed.take x).val rows m = 0 := by show m.coming.headD 0 = 0; rw [hcm]; rfl
      have e2 : (Deed.take x).rest m = m.coming := by show m.coming.tail = m.coming; rw [hcm]; rfl
      rw [e1, e2] at q
      exact q H1 (But.of_same s1) s1.tups hL1
    | cons c0 cs =>
      refine ⟨false, (by show V.bl (D.beqL (D.int c0 :: cs.map D.int) []) = V.bl false; unfold D.beqL; rfl), iteF ?_⟩
      have et := hL1.t
      rw [hcm] at et
      have et' : H1 L.at_ = some (.lst (.int c0 :: intsV cs)) := et
      refine ⟨_, rfl, L.sd, _, rfl, get_taken hL1.d, .inl ⟨rfl, _, SqL.of et'⟩, L.at_, _, 0, 0, .int c0, rfl, rfl, et', by decide, by decide, (by simp [seqIndex?]), rfl, ?_⟩
      have e0 : (V.int c0 :: intsV cs).eraseIdx 0 = intsV cs := rfl
      rw [e0]
      have e1 : (Deed.take x).val rows m = c0 := by show m.coming.headD 0 = c0; rw [hcm]; rfl
      have e2 : (Deed.take x).rest m = cs := by show m.coming.tail = cs; rw [hcm]; rfl
      rw [e1, e2] at q
      exact q _ ((But.of_same s1).trans (But.upd (by simp [LA.all]))) (s1.tups.trans (Tups.lst et')) (hL1.setT cs)
theorem ints_app1 (l : List Int) (i : Int) : intsV l ++ [V.int i] = intsV (l ++ [i]) := by unfold intsV; rw [List.map_append]; rfl
theorem ok_do (F : Fun K "_law_do" "_law_do" s_do f fd) (m_int : mg "int" = none) (c_law_at : Cl P w K mg base "_law_at" n ["_law_values", "_law_name"] (spAt K)) (c_law_place : Cl P w K mg base "_law_place" n ["_law_state", "_law_line_here"] (spLPlace K)) (c_law_given : Cl P w K mg base "_law_given" n ["_law_state", "_law_line_here"] (spGiven K)) : FnOk P w K mg base CX0 (n + 1) f fd ["_law_state", "_law_line_here"] (spDoL K) := by
  refine F.ok sc_do (fun vs H Q E h => ?_) (fun cdv A outer s H vs Q E hr h => ?_)
  · obtain ⟨L, rows, m, i, s, l, nl, v, rfl, _⟩ := h
    rfl
  have hu : (A.deeper (envOfC "_law_do" (defScope s_do) s.heap.objs.size f cdv)).units + 1 < cLine := by have := hr.units; omega
  obtain ⟨L, rows, m, i, s, l, nl, v, rfl, hL, hi, hok, hc, hne, hlk, h900, q⟩ := h
  have sc := sc_do
  refine ⟨_, (@pss_cons _ _ _ _ _ (ps_set (i := 2) sc.nd rfl (Or.inl rfl) (pe_dget hu (pv 0) pe_str (fun _ _ => rfl)))
      (@pss_cons _ _ _ _ _ (ps_dput hu (pv 0) pe_str (pe_op op_add (pe_dget hu (pv 0) pe_str (fun _ _ => rfl)) pe_int) rfl)
      (@pss_cons _ _ _ _ _ (ps_dput hu (pv 0) pe_str (pe_ix ix_tup (pv 1) (pe_un un_neg pe_int) (fun _ _ => rfl)) rfl)
      (pss_one (ps_if (pt_cmpR op_eq (pe_ix ix_tup (pv 1) pe_int (fun _ _ => rfl)) pe_str (nomark _)) (pss_one (ps_dput hu (pv 0) pe_str (pe_ix ix_list (pe_lst (pa_cons (pe_ix ix_tup (pv 1) pe_int (fun _ _ => rfl)) (pa_cons (pe_ix ix_tup (pv 1) pe_int (fun _ _ => rfl)) pa_nil))) (pe_callTy call_int1 rfl m_int PyProof.Rows.boot_int (pa_cons (pe_cmpR op_gt (pe_op op_sub (pe_cl c_law_at hr rfl (pa_cons (pv 2) (pa_cons (pe_ix ix_tup (pv 1) pe_int (fun _ _ => rfl)) pa_nil))) (pe_cl c_law_at hr rfl (pa_cons (pv 2) (pa_cons (pe_ix ix_tup (pv 1) pe_int (fun _ _ => rfl)) pa_nil)))) (pe_ix ix_tup (pv 1) pe_int (fun _ _ => rfl)) (nomark _)) pa_nil)) (fun _ _ => rfl)) rfl)) (pss_one (ps_if (pt_cmpR op_eq (pe_ix ix_tup (pv 1) pe_int (fun _ _ => rfl)) pe_str (nomark _)) (pss_one (ps_expr (pe_bm PySem.F.plainAttrs_list PySem.F.slot_list_append PySem.F.type_list_append mt_append (pe_dget hu (pv 0) pe_str (fun _ _ => rfl)) (pa_cons (pe_ix ix_list (pv 2) (pe_ix ix_tup (pv 1) pe_int (fun _ _ => rfl)) (fun _ _ => rfl)) pa_nil)))) (pss_one (ps_if (pt_cmpR op_eq (pe_ix ix_tup (pv 1) pe_int (fun _ _ => rfl)) pe_str (nomark _)) (@pss_cons _ _ _ _ _ (ps_asg (pe_cl c_law_place hr rfl (pa_cons (pv 0) (pa_cons (pv 1) pa_nil))) (pg_tup rfl (pgs_cons (pg_name (i := 3) sc.nd rfl (Or.inl rfl)) (pgs_cons (pg_name (i := 4) sc.nd rfl (Or.inl rfl)) pgs_nil))))
      (pss_one (ps_asg (pe_ix ix_list (pv 2) (pe_ix ix_tup (pv 1) pe_int (fun _ _ => rfl)) (fun _ _ => rfl)) (pg_sub (pe_ix ix_list (pe_dget hu (pv 0) pe_str (fun _ _ => rfl)) (pv 3) (fun _ _ => rfl)) (pv 4) set_list)))) (pss_one (ps_asg (pe_cl c_law_given hr rfl (pa_cons (pv 0) (pa_cons (pv 1) pa_nil))) (pg_sub (pv 2) (pe_ix ix_tup (pv 1) pe_int (fun _ _ => rfl)) set_list)))))))))))), ?_⟩
  obtain ⟨a, vs, rfl, hq, il⟩ := ln_inv hi
  refine ⟨_, rfl, L.sd, _, rfl, get_values hL.d, ?_⟩
  refine ⟨_, rfl, L.sd, _, rfl, get_steps hL.d, _, _, rfl, rfl, _, rfl, L.sd, _, rfl, put_steps hL.d, ?_⟩
  have hL1 : LawAt (upd H L.sd (.dK (stK L (i : Int) ((s : Int) + 1)))) L rows m i (s + 1) := hL.setD i (s + 1)
  have b1 : But L.all H (upd H L.sd (.dK (stK L (i : Int) ((s : Int) + 1)))) := But.upd (by simp [LA.all])
  have t1 : Tups H (upd H L.sd (.dK (stK L (i : Int) ((s : Int) + 1)))) := tups_dk hL.d
  generalize upd H L.sd (.dK (stK L (i : Int) ((s : Int) + 1))) = H1 at *
  have hq1 := t1.sq hq
  cases l with
  | ask bs k m => exact hc.elim
  | stop => exact absurd rfl hne
  | test y u c k m2 =>
    obtain ⟨r1, rfl, i1⟩ := opt1 il
    obtain ⟨r2, rfl, i2⟩ := opt1 i1
    obtain ⟨r3, rfl, i3⟩ := int1 i2
    obtain ⟨r4, rfl, i4⟩ := int1 i3
    obtain ⟨r5, rfl, i5⟩ := int1 i4
    cases i5.nil_inv
    refine ⟨_, rfl, _, rfl, a, _, _, _, rfl, rfl, hq1, rfl, _, rfl, L.sd, _, rfl, put_at hL1.d, ?_⟩
    have hL2 := hL1.setD m2 (s + 1)
    have b2 := b1.trans (But.upd (S := L.all) (H := H1) (p := L.sd) (o := .dK (stK L (m2 : Int) ((s + 1 : Nat) : Int))) (by simp [LA.all]))
    have t2 := t1.trans (tups_dk (k2 := stK L (m2 : Int) ((s + 1 : Nat) : Int)) hL1.d)
    generalize upd H1 L.sd (.dK (stK L (m2 : Int) ((s + 1 : Nat) : Int))) = H2 at *
    have hq2 := t2.sq hq
    refine ⟨_, rfl, a, _, 0, _, rfl, rfl, hq2, at0 _ _, rfl, _, rfl, iteT ?_⟩
    refine ⟨_, rfl, a, _, 4, _, rfl, rfl, hq2, at4 _ _ _ _ _ _, _, rfl, a, _, 5, _, rfl, rfl, hq2, atI_nat (j := 5) rfl, Nat.le_of_ble_eq_true rfl, fun p np => ?_⟩
    have s3 := same_new np (.lst [.int (k : Int), .int (m2 : Int)])
    have hL3 := hL2.same s3
    have hq3 := s3.tups.sq hq2
    refine ⟨_, rfl, _, rfl, a, _, 1, _, rfl, rfl, hq3, at1 _ _ _, L.av, m.nums, y, rfl, SqL.of hL3.v, hok.1, _, rfl, _, rfl, a, _, 2, _, rfl, rfl, hq3, at2 _ _ _ _, L.av, m.nums, u, rfl, SqL.of hL3.v, hok.2.1, _, _, rfl, rfl, _, rfl, a, _, 3, _, rfl, rfl, hq3, at3 _ _ _ _ _, _, _, rfl, rfl, .inr ⟨_, rfl, p, _, _, .int (((Ln.test y u c k m2).next m.nums rows : Nat) : Int), rfl, rfl, SqL.of upd_same, ?_, ?_⟩⟩
    · have e : (Ln.test y u c k m2).next m.nums rows = if decide (c < worth m.nums y - worth m.nums u) then m2 else k := by
        show (if (!decide (worth m.nums y - worth m.nums u ≤ c)) = true then m2 else k) = _
        by_cases z : worth m.nums y - worth m.nums u ≤ c
        · rw [decide_eq_true z, decide_eq_false (show ¬ c < worth m.nums y - worth m.nums u by omega)]; rfl
        · rw [decide_eq_false z, decide_eq_true (show c < worth m.nums y - worth m.nums u by omega)]; rfl
      rw [e]
      exact two_at _
    · refine ⟨_, rfl, L.sd, _, rfl, put_at hL3.d, ?_⟩
      exact q _ (b2.trans ((But.of_same s3).trans (But.upd (by simp [LA.all])))) (t2.trans (s3.tups.trans (tups_dk hL3.d))) (hL3.setD _ (s + 1))
  | deed d k =>
    have hlast : atI (.str (Ln.deed d k).word :: vs) (-1) = some (.int (k : Int)) := by
      cases d with
      | set x y c =>
        obtain ⟨r1, rfl, i1⟩ := int1 il
        obtain ⟨r2, rfl, i2⟩ := opt1 i1
        obtain ⟨r3, rfl, i3⟩ := int1 i2
        obtain ⟨r4, rfl, i4⟩ := int1 i3
        cases i4.nil_inv; rfl
      | sum x z y =>
        obtain ⟨r1, rfl, i1⟩ := int1 il
        obtain ⟨r2, rfl, i2⟩ := int1 i1
        obtain ⟨r3, rfl, i3⟩ := opt1 i2
        obtain ⟨r4, rfl, i4⟩ := int1 i3
        cases i4.nil_inv; rfl
      | len x r =>
        obtain ⟨r1, rfl, i1⟩ := int1 il
        obtain ⟨r2, rfl, i2⟩ := int1 i1
        obtain ⟨r3, rfl, i3⟩ := int1 i2
        cases i3.nil_inv; rfl
      | take x =>
        obtain ⟨r1, rfl, i1⟩ := int1 il
        obtain ⟨r2, rfl, i2⟩ := int1 i1
        cases i2.nil_inv; rfl
      | tell x =>
        obtain ⟨r1, rfl, i1⟩ := int1 il
        obtain ⟨r2, rfl, i2⟩ := int1 i1
        cases i2.nil_inv; rfl
      | get x r y c =>
        obtain ⟨r1, rfl, i1⟩ := int1 il
        obtain ⟨r2, rfl, i2⟩ := int1 i1
        obtain ⟨r3, rfl, i3⟩ := opt1 i2
        obtain ⟨r4, rfl, i4⟩ := int1 i3
        obtain ⟨r5, rfl, i5⟩ := int1 i4
        cases i5.nil_inv; rfl
      | put r y c z =>
        obtain ⟨r1, rfl, i1⟩ := int1 il
        obtain ⟨r2, rfl, i2⟩ := opt1 i1
        obtain ⟨r3, rfl, i3⟩ := int1 i2
        obtain ⟨r4, rfl, i4⟩ := int1 i3
        obtain ⟨r5, rfl, i5⟩ := int1 i4
        cases i5.nil_inv; rfl
    refine ⟨_, rfl, _, rfl, a, _, _, _, rfl, rfl, hq1, hlast, _, rfl, L.sd, _, rfl, put_at hL1.d, ?_⟩
    have hL2 := hL1.setD k (s + 1)
    have b2 := b1.trans (But.upd (S := L.all) (H := H1) (p := L.sd) (o := .dK (stK L (k : Int) ((s + 1 : Nat) : Int))) (by simp [LA.all]))
    have t2 := t1.trans (tups_dk (k2 := stK L (k : Int) ((s + 1 : Nat) : Int)) hL1.d)
    generalize upd H1 L.sd (.dK (stK L (k : Int) ((s + 1 : Nat) : Int))) = H2 at *
    have hq2 := t2.sq hq
    have hi2 := hi.mono t2
    have nt : (Ln.deed d k).word ≠ "test" := word_not (by decide)
    refine ⟨_, rfl, a, _, 0, _, rfl, rfl, hq2, at0 _ _, rfl, _, rfl, iteB (decide_eq_false (fun z => nt (V.str.inj z))) ?_⟩
    refine ⟨_, rfl, a, _, 0, _, rfl, rfl, hq2, at0 _ _, rfl, _, rfl, ?_⟩
    have hcase : (∃ x, d = .tell x) ∨ (∃ r y c z, d = .put r y c z) ∨ (∃ (x : Nat) (r : List V), vs = .int (x : Int) :: r ∧ x < m.nums.length ∧ d.word ≠ "tell" ∧ d.word ≠ "put" ∧ d.name? ≠ .non ∧ d.rows rows m = rows ∧ d.run rows m = ⟨m.nums.set x (d.val rows m), d.rest m, m.heard⟩) := by
      cases d with
      | set x y c => obtain ⟨r1, e1, i1⟩ := int1 il; exact .inr (.inr ⟨x, r1, e1, hok.1.1, (by decide : ("set" : Str) ≠ "tell"), (by decide : ("set" : Str) ≠ "put"), (fun z => by cases z), rfl, rfl⟩)
      | sum x z y => obtain ⟨r1, e1, i1⟩ := int1 il; exact .inr (.inr ⟨x, r1, e1, hok.1.1, (by decide : ("sum" : Str) ≠ "tell"), (by decide : ("sum" : Str) ≠ "put"), (fun z => by cases z), rfl, rfl⟩)
      | len x r => obtain ⟨r1, e1, i1⟩ := int1 il; exact .inr (.inr ⟨x, r1, e1, hok.1.1, (by decide : ("len" : Str) ≠ "tell"), (by decide : ("len" : Str) ≠ "put"), (fun z => by cases z), rfl, rfl⟩)
      | take x => obtain ⟨r1, e1, i1⟩ := int1 il; exact .inr (.inr ⟨x, r1, e1, hok.1, (by decide : ("take" : Str) ≠ "tell"), (by decide : ("take" : Str) ≠ "put"), (fun z => by cases z), rfl, rfl⟩)
      | get x r y c => obtain ⟨r1, e1, i1⟩ := int1 il; exact .inr (.inr ⟨x, r1, e1, hok.1.1, (by decide : ("get" : Str) ≠ "tell"), (by decide : ("get" : Str) ≠ "put"), (fun z => by cases z), rfl, rfl⟩)
      | put r y c z => exact .inr (.inl ⟨r, y, c, z, rfl⟩)
      | tell x => exact .inl ⟨x, rfl⟩
    rcases hcase with ⟨x, rfl⟩ | ⟨r, y, c, z, rfl⟩ | ⟨x, r, rfl, hx, nw, np, hn, hrw, hrun⟩
    · obtain ⟨r1, rfl, i1⟩ := int1 il
      refine iteT ⟨_, rfl, L.sd, _, rfl, get_told hL2.d, .inl ⟨rfl, _, SqL.of hL2.h⟩, _, rfl, _, rfl, a, _, 1, _, rfl, rfl, hq2, at1 _ _ _, L.av, _, _, _, rfl, rfl, SqL.of hL2.v, at_intN hok.1, L.ah, _, _, rfl, rfl, hL2.h, small1000 (by rw [len_ints]; omega), ?_⟩
      rw [ints_app1]
      exact q _ (b2.trans (But.upd (by simp [LA.all]))) (t2.trans (Tups.lst hL2.h)) (hL2.setH _)
    · obtain ⟨r1, rfl, i1⟩ := int1 il
      obtain ⟨r2, rfl, i2⟩ := opt1 i1
      obtain ⟨r3, rfl, i3⟩ := int1 i2
      obtain ⟨r4, rfl, i4⟩ := int1 i3
      have ho : (Deed.put r y c z).slot = some (r, y, c) := rfl
      obtain ⟨p0, p1⟩ := look_in ho hlk
      have hr2 : r < rows.length := hok.1.1
      have hra : r < L.rs.length := by rw [hL.ra.len]; exact hr2
      have era := List.getElem?_eq_getElem hra
      have err := List.getElem?_eq_getElem hr2
      rw [err] at p1
      have p0' : (0 : Int) ≤ worth m.nums y + c := p0
      have p1' : worth m.nums y + c < (rows[r].length : Int) := p1
      obtain ⟨pp, epp, hpp⟩ : ∃ pp : Nat, worth m.nums y + c = (pp : Int) ∧ pp < rows[r].length := ⟨(worth m.nums y + c).toNat, by omega, by omega⟩
      have hz : z < m.nums.length := hok.1.2.2
      refine iteF ⟨_, rfl, a, _, 0, _, rfl, rfl, hq2, at0 _ _, rfl, _, rfl, iteT ?_⟩
      refine ⟨_, rfl, _, rfl, L, rows, m, k, s + 1, .put r y c z, k, .ref a, (r, y, c), rfl, hL2, hi2, ho, hok.1.2.1, fun H3 t s3 ht => ?_⟩
      have hL3 := hL2.same s3
      refine ⟨t, _, rfl, SqT.of ht, rfl, _, _, rfl, _, _, rfl, rfl, ?_⟩
      refine ⟨_, rfl, _, rfl, a, _, 4, _, rfl, rfl, s3.tups.sq hq2, at4 _ _ _ _ _ _, L.av, _, _, _, rfl, rfl, SqL.of hL3.v, atI_nat (at_ints hz), _, rfl, L.sd, _, rfl, get_rows hL3.d, _, rfl, L.ar, _, _, .ref L.rs[r], rfl, rfl, SqL.of hL3.ra.top, atI_nat (j := r) (by rw [List.getElem?_map, era]; rfl), _, rfl, L.rs[r], _, _, pp, rfl, rfl, hL3.ra.row r _ _ era err, (by show ixN _ (worth m.nums y + c) = _; rw [epp, len_ints]; exact ixN_nat hpp), ?_⟩
      rw [ints_set]
      have er : (Ln.deed (.put r y c z) k).rows rows m = rows.set r (rows[r].set pp (m.nums[z]?.getD 0)) := by
        show rows.set r ((rows[r]?.getD []).set (worth m.nums y + c).toNat (worth m.nums (some z))) = _
        rw [epp, err, Int.toNat_natCast]; rfl
      rw [er] at q
      exact q _ (b2.trans ((But.of_same s3).trans (But.upd (by simp [LA.all, List.mem_of_getElem? era])))) (t2.trans (s3.tups.trans (Tups.lst (hL3.ra.row r _ _ era err)))) (hL3.setR era err _)
    · refine iteB (decide_eq_false (fun z => nw (V.str.inj z))) ?_
      refine ⟨_, rfl, a, _, 0, _, rfl, rfl, hq2, at0 _ _, rfl, _, rfl, iteB (decide_eq_false (fun z => np (V.str.inj z))) ?_⟩
      refine ⟨_, rfl, _, rfl, L, rows, m, k, s + 1, d, k, .ref a, rfl, hL2, hi2, hok.1, hlk, hn, fun H3 b3 t3 hL3 => ?_⟩
      refine ⟨_, rfl, _, rfl, a, _, 1, _, rfl, rfl, t3.sq hq2, at1 _ _ _, L.av, _, _, x, rfl, rfl, hL3.v, (by rw [len_ints]; exact ixN_nat hx), ?_⟩
      rw [ints_set]
      have e : (Ln.deed d k).run rows m = ⟨m.nums.set x (d.val rows m), d.rest m, m.heard⟩ := hrun
      have er : (Ln.deed d k).rows rows m = rows := hrw
      rw [e, er] at q
      exact q _ (b2.trans (b3.trans (But.upd (by simp [LA.all])))) (t2.trans (t3.trans (Tups.lst hL3.v))) (hL3.setV _)
end
end K25
set_option Elab.async false
set_option linter.all false
set_option maxRecDepth 100000
set_option maxHeartbeats 4000000
namespace K25
open PySem PySem.Spec PyProof.Rows L2
theorem rep_flat (v : V) : ∀ m, (List.replicate m [v]).flatten = List.replicate m v
  | 0 => rfl
  | m + 1 => by rw [List.replicate_succ, List.flatten_cons, rep_flat v m, List.replicate_succ]; rfl
theorem rep_ints (nm : Nat) : (List.replicate nm [V.int 0]).flatten = intsV (List.replicate nm 0) := by
  rw [rep_flat]; unfold intsV; rw [List.map_replicate]
theorem same_but {S : List Addr} {H H1 H2 : Hp} (s : Same H H1) (b : But S H1 H2) (h : ∀ c ∈ S, H c = none) : Same H H2 := fun c o e => b c o (s c o e) fun m => by rw [h c m] at e; cases e
theorem stop_lt {nums : List Int} {rows : List (List Int)} {s b : Nat} {l : Ln} (h : l.stopW nums rows s b = none) : l ≠ .stop ∧ l.look nums rows = none ∧ s ≠ b := by
  cases l with
  | stop => cases h
  | deed d k =>
    have h' : (match d.look nums rows with | some z => some z | none => if s = b then some ("spent" : Str) else none) = none := h
    cases e : d.look nums rows with
    | some z => rw [e] at h'; cases h'
    | none =>
      rw [e] at h'
      refine ⟨(fun z => by cases z), e, fun z => ?_⟩
      have h2 : (if s = b then some ("spent" : Str) else none) = none := h'
      rw [if_pos z] at h2; cases h2
  | test y u c k m =>
    refine ⟨(fun z => by cases z), rfl, fun z => ?_⟩
    have h2 : (if s = b then some ("spent" : Str) else none) = none := h
    rw [if_pos z] at h2; cases h2
  | ask bs k m =>
    refine ⟨(fun z => by cases z), rfl, fun z => ?_⟩
    have h2 : (if s = b then some ("spent" : Str) else none) = none := h
    rw [if_pos z] at h2; cases h2
theorem run_nums {rows : List (List Int)} {m : Mem} (l : Ln) : (l.run rows m).nums.length = m.nums.length := by
  cases l with
  | deed d k => cases d <;> simp [Ln.run, Deed.run]
  | _ => rfl
theorem run_heard {rows : List (List Int)} {m : Mem} (l : Ln) : (l.run rows m).heard.length ≤ m.heard.length + 1 := by
  cases l with
  | deed d k => cases d <;> simp [Ln.run, Deed.run]
  | test y u c k m2 => exact Nat.le_succ _
  | ask bs k m2 => exact Nat.le_succ _
  | stop => exact Nat.le_succ _
theorem rows_len {rows : List (List Int)} {m : Mem} (l : Ln) : (l.rows rows m).length = rows.length := by
  cases l with
  | deed d k => cases d <;> simp [Ln.rows, Deed.rows]
  | _ => rfl
theorem rows_row {rows : List (List Int)} {m : Mem} (l : Ln) (h : ∀ r ∈ rows, r.length ≤ 1000) : ∀ r ∈ l.rows rows m, r.length ≤ 1000 := by
  cases l with
  | deed d k =>
    cases d with
    | put r y c z =>
      intro q hq
      rcases List.mem_or_eq_of_mem_set (show q ∈ rows.set r _ from hq) with e | e
      · exact h q e
      · rw [e, List.length_set]
        cases er : rows[r]? with
        | none => exact Nat.zero_le _
        | some q0 => exact h q0 (List.mem_of_getElem? er)
    | _ => exact h
  | _ => exact h
theorem next_lt {nums : List Int} {rows : List (List Int)} {nm rw nl : Nat} {l : Ln} (h : l.Ok nm rw nl) (hs : l ≠ .stop) : l.next nums rows < nl := by
  cases l with
  | deed d k => exact h.2
  | test y u c k m =>
    show (if _ then m else k) < nl
    split
    · exact h.2.2.2
    · exact h.2.2.1
  | ask bs k m =>
    show (if _ then m else k) < nl
    split
    · exact h.2.2.2
    · exact h.2.2.1
  | stop => exact absurd rfl hs
noncomputable def AsksAt (ls : List Ln) (x : Nat) : Prop := ∃ bs k m, ls[x]? = some (.ask bs k m)
noncomputable def Ranked (ls : List Ln) (r : Nat → Nat) : Prop := ∀ (i : Nat) bs k m, ls[i]? = some (.ask bs k m) → ∀ g, g = k ∨ g = m → AsksAt ls g → r g < r i
theorem pass_ex {ls : List Ln} {nums : List Int} {rows : List (List Int)} {nm rw : Nat} (ok : AllOk ls nm rw) {r : Nat → Nat} (hr : Ranked ls r) : ∀ (f i : Nat), r i = f → i < ls.length → ∃ n j l, Pass ls nums rows n i j ∧ ls[j]? = some l ∧ l.calm := by
  intro f
  induction f using Nat.strongRecOn with
  | ind f ih =>
    intro i hf hi
    have el := List.getElem?_eq_getElem hi
    cases e : ls[i] with
    | ask bs k m =>
      rw [e] at el
      have hlt := next_lt (nums := nums) (rows := rows) (ok _ (List.mem_of_getElem? el)) (fun z => by cases z)
      have hg : (Ln.ask bs k m).next nums rows = k ∨ (Ln.ask bs k m).next nums rows = m := by
        show (if _ then m else k) = k ∨ (if _ then m else k) = m
        split
        · exact .inr rfl
        · exact .inl rfl
      generalize hgg : (Ln.ask bs k m).next nums rows = g at hlt hg
      have eg := List.getElem?_eq_getElem hlt
      cases e2 : ls[g] with
      | ask bs' k' m' =>
        rw [e2] at eg
        obtain ⟨n, j, l, h1, h2, h3⟩ := ih (r g) (by rw [← hf]; exact hr i bs k m el g hg ⟨_, _, _, eg⟩) g rfl hlt
        exact ⟨n + 1, j, l, .go el (by rw [hgg]; exact h1), h2, h3⟩
      | deed d k2 => rw [e2] at eg; exact ⟨1, g, _, .go el (by rw [hgg]; exact .here eg trivial), eg, trivial⟩
      | test y u c k2 m2 => rw [e2] at eg; exact ⟨1, g, _, .go el (by rw [hgg]; exact .here eg trivial), eg, trivial⟩
      | stop => rw [e2] at eg; exact ⟨1, g, _, .go el (by rw [hgg]; exact .here eg trivial), eg, trivial⟩
    | deed d k => rw [e] at el; exact ⟨0, i, _, .here el trivial, el, trivial⟩
    | test y u c k m => rw [e] at el; exact ⟨0, i, _, .here el trivial, el, trivial⟩
    | stop => rw [e] at el; exact ⟨0, i, _, .here el trivial, el, trivial⟩
noncomputable def wsOf (ls : List Ln) (rows : List (List Int)) (b : Nat) (i : Nat) (m : Mem) (s : Nat) : WS := ⟨ls.map Ln.D, rows, m.coming, (b : Int), i, m.nums, m.heard, (s : Int), none⟩
noncomputable def wsEnd (ls : List Ln) (rows : List (List Int)) (b : Nat) (j : Nat) (m : Mem) (s : Nat) (z : Str) : WS := ⟨ls.map Ln.D, rows, m.coming, (b : Int), j, m.nums, m.heard, (s : Int), some (z, j)⟩
theorem ending_stop {ls : List Ln} {rows : List (List Int)} {b i s : Nat} {m : Mem} {l : Ln} (hs : s ≤ b) : l.ending (wsOf ls rows b i m s) = l.stopW m.nums rows s b := by
  have e : (if (wsOf ls rows b i m s).budget ≤ (wsOf ls rows b i m s).done then some ("spent" : Str) else none) = if s = b then some ("spent" : Str) else none := by
    by_cases h : s = b
    · rw [if_pos h]; exact if_pos (show (b : Int) ≤ (s : Int) by omega)
    · rw [if_neg h]; exact if_neg (show ¬ (b : Int) ≤ (s : Int) by omega)
  cases l with
  | stop => rfl
  | deed d k =>
    show (match d.look m.nums rows with | some z => some z | none => _) = (match d.look m.nums rows with | some z => some z | none => _)
    rw [e]
  | test y u c k m2 => exact e
  | ask bs k m2 => exact e
theorem next_step {ls : List Ln} {rows : List (List Int)} {b i s j : Nat} {m : Mem} {l : Ln} (hs : s ≤ b) (h : l.stopW m.nums rows s b = none) : (wsOf ls rows b i m s).next j l = wsOf ls (l.rows rows m) b (l.next m.nums rows) (l.run rows m) (s + 1) := by
  unfold WS.next
  rw [ending_stop hs, h]
  rfl
theorem next_stop {ls : List Ln} {rows : List (List Int)} {b i s j : Nat} {m : Mem} {l : Ln} {z : Str} (hs : s ≤ b) (h : l.stopW m.nums rows s b = some z) : (wsOf ls rows b i m s).next j l = wsEnd ls rows b j m s z := by
  unfold WS.next
  rw [ending_stop hs, h]
  rfl
structure Fit (rows : List (List Int)) (nm rw : Nat) (m : Mem) (s : Nat) : Prop where
  len : rows.length = rw
  rl : rw ≤ 100
  row : ∀ r ∈ rows, r.length ≤ 1000
  nums : m.nums.length = nm
  n100 : nm ≤ 100
  heard : m.heard.length ≤ s
theorem Fit.next {rows : List (List Int)} {nm rw : Nat} {m : Mem} {s : Nat} (h : Fit rows nm rw m s) (l : Ln) : Fit (l.rows rows m) nm rw (l.run rows m) (s + 1) :=
  ⟨(rows_len l).trans h.len, h.rl, rows_row l h.row, (run_nums l).trans h.nums, h.n100, by have := run_heard (rows := rows) (m := m) l; have := h.heard; omega⟩
theorem Fit.sized {ls : List Ln} {rows : List (List Int)} {nm rw b i : Nat} {m : Mem} {s : Nat} (h : Fit rows nm rw m s) (hs : s ≤ 900) : Sized (wsOf ls rows b i m s) :=
  ⟨by show rows.length ≤ 100; rw [h.len]; exact h.rl, h.row, by have := h.heard; show m.heard.length ≤ 900; omega, by show m.nums.length ≤ 100; rw [h.nums]; exact h.n100⟩
theorem step_stop {K : PySem.W.Frag} {C : Addr} {H : Hp} {A : WA} {ls : List Ln} {rows : List (List Int)} {b nm rw n i j s : Nat} {m : Mem} {l : Ln} {Q : V → Hp → Prop} {E : XK} (hw : WalkAt K H C A (wsOf ls rows b i m s)) (ok : AllOk ls nm rw) (hf : Fit rows nm rw m s) (hs : s ≤ b) (hb : b ≤ 900) (hp : Pass ls m.nums rows n i j) (hl : ls[j]? = some l) (hc : l.calm)
    (q : ∀ H', But A.all H H' → Tups H H' → (∀ z, l.stopW m.nums rows s b = some z → WalkAt K H' C A (wsEnd ls rows b j m s z)) → (l.stopW m.nums rows s b = none → WalkAt K H' C A (wsOf ls (l.rows rows m) b (l.next m.nums rows) (l.run rows m) (s + 1))) → Q .non H') : spStep K C [.ref A.x] H Q E := by
  have ok' : AllOk ls m.nums.length rows.length := by rw [hf.nums, hf.len]; exact ok
  refine ⟨A, _, rfl, hw, .inr ⟨ls, n, j, l, rfl, rfl, ok', hp, hl, hc, hf.sized (by omega), fun H' b1 t1 hw' => q H' b1 t1 (fun z e => ?_) (fun e => ?_)⟩⟩
  · rw [← next_stop hs e]; exact hw'
  · rw [← next_step hs e]; exact hw'
section
variable {P : Program} {w : World} {K : PySem.W.Frag} {mg : Str → Option Value} {base : Heap} {f : Addr} {fd : FuncData} {n : Nat} {C : Addr}
theorem ok_begun (F : Fun K "_law_begun" "_law_begun" s_begun f fd) (m_list : mg "list" = none) : FnOk P w K mg base CX0 (n + 1) f fd ["_law_program_here", "_law_rows", "_law_taken"] (spBegun K) := by
  refine F.ok sc_begun (fun vs H Q E h => ?_) (fun cdv A outer s H vs Q E hr h => ?_)
  · obtain ⟨t, ar0, ac0, nm, xr, rows, taken, rfl, _⟩ := h
    rfl
  obtain ⟨t, ar0, ac0, nm, xr, rows, taken, rfl, hq, hR, h100, hT, hnm, q⟩ := h
  have sc := sc_begun
  refine ⟨_, (@pss_cons _ _ _ _ _ (@ps_set _ _ 3 _ _ _ _ sc.nd rfl (Or.inl rfl) (@pe_disp _ _ _ _ _ (@pps_cons _ _ _ _ _ _ _ _ _ pe_str pe_int (@pps_cons _ _ _ _ _ _ _ _ _ pe_str (pe_op op_rep (pe_lst (pa_cons pe_int pa_nil)) (pe_ix ix_tup (pv 0) pe_int (fun _ _ => rfl))) (@pps_cons _ _ _ _ _ _ _ _ _ pe_str (pe_comp ["_law_row"] rfl (cmp_ok (N := ["_law_program_here", "_law_rows", "_law_taken", "_law_state"]) (so := defScope s_begun) rfl rfl (by decide +kernel)) (pi_list (pv 1)) (fun _ _ _ _ _ _ => (pg_name (i := 0) (show List.Nodup (α := Str) ["_law_row", "_law_program_here", "_law_rows", "_law_taken", "_law_state"] by decide +kernel) rfl (Or.inl rfl) (Or.inr rfl))) (fun _ _ _ _ _ _ => pifs_nil) (fun _ _ _ _ _ _ => (pe_callTy (call_list_ofK (K := K) rfl) rfl m_list PyProof.Rows.boot_list (pa_cons (pv 0) pa_nil)))) (@pps_cons _ _ _ _ _ _ _ _ _ pe_str (pe_callTy call_list_of rfl m_list PyProof.Rows.boot_list (pa_cons (pv 2) pa_nil)) pps_nil)))) rfl rfl (fun z => nomatch z) (by decide)) rfl (by first | exact .inl rfl | exact .inr rfl))
      (@pss_cons _ _ _ _ _ (ps_expr (pe_bm PySem.F.plainAttrs_dict PySem.F.slot_dict_update PySem.F.type_dict_update mt_dupd (pv 3) (pa_cons (@pe_disp _ _ _ _ _ (@pps_cons _ _ _ _ _ _ _ _ _ pe_str (pe_lst pa_nil) (@pps_cons _ _ _ _ _ _ _ _ _ pe_str pe_int pps_nil)) rfl rfl (fun z => nomatch z) (by decide)) pa_nil)))
      (pss_one (ps_ret (pv 3))))), ?_⟩
  intro p np
  have s0 := same_new np (.dK [])
  have ep0 : upd H p (.dK []) p = some (.dK []) := upd_same
  generalize upd H p (.dK []) = H0 at *
  refine ⟨Nat.le_of_ble_eq_true rfl, fun lz nlz => ?_⟩
  have s1 := same_new nlz (.lst [.int 0])
  refine ⟨_, rfl, t, _, 0, _, rfl, rfl, (s0.trans s1).tups.sq hq, at0 _ _, lz, _, [.int 0], rfl, rfl, upd_same, by omega, by omega, (by rw [sizeLine_eq, Int.toNat_natCast, List.length_singleton]; omega), fun an nan => ?_⟩
  rw [Int.toNat_natCast, rep_ints]
  have s2 := same_new nan (.lst (intsV (List.replicate nm 0)))
  have ean : upd (upd H0 lz (.lst [.int 0])) an (.lst (intsV (List.replicate nm 0))) an = some (.lst (intsV (List.replicate nm 0))) := upd_same
  have s12 := s1.trans s2
  have nan0 : H0 an = none := none_of_same s1 nan
  generalize upd (upd H0 lz (.lst [.int 0])) an (.lst (intsV (List.replicate nm 0))) = H2 at *
  have s02 := s0.trans s12
  obtain ⟨vs, qv, lv, hv⟩ := hR
  refine ⟨_, rfl, ar0, rfl, ⟨_, s02.seq qv⟩, fun h2 nh2 => ?_⟩
  refine comp_list (xs := vs) (fun i H' => CopyI H2 rows h2 i H') (.zero nh2) (fun i H' _ h => h.1.seq (s02.seq qv)) (fun i y H' ey h => ?_) (fun H3 h => ?_)
  · have hil : i < rows.length := by have := (List.getElem?_eq_some_iff.mp ey).1; omega
    have er := List.getElem?_eq_getElem hil
    obtain ⟨c, rfl, sq⟩ := hv i y _ ey er
    exact ⟨⟨[some (.ref c)], rfl, rfl⟩, tTrue_ite ⟨_, rfl, c, _, rfl, .inl (h.1.seq (s02.seq sq)), fun l2 n2 => h.next nh2 er n2 h100⟩⟩
  rw [lv] at h
  obtain ⟨rs, ra, hf⟩ := h.rows
  have s3 := h.1
  clear h
  refine ⟨_, rfl, ac0, _, rfl, .inl ((s02.trans s3).seq hT), fun at_ nat => ?_⟩
  have s4 := same_new nat (.lst (intsV taken))
  have eat : upd H3 at_ (.lst (intsV taken)) at_ = some (.lst (intsV taken)) := upd_same
  have ra4 := ra.same s4
  have natH2 : H2 at_ = none := none_of_same s3 nat
  have g1 : h2 ≠ at_ := ne_p ra.top nat
  have g2 : ∀ b ∈ rs, b ≠ at_ := fun b hb z => by
    obtain ⟨i, hi⟩ := List.mem_iff_getElem?.mp hb
    have hil : i < rows.length := by have := (List.getElem?_eq_some_iff.mp hi).1; have := ra.len; omega
    have := ra.row i b _ hi (List.getElem?_eq_getElem hil)
    rw [z, nat] at this; cases this
  have ean4 := s4 _ _ (s3 _ _ ean)
  have ep4 := s4 _ _ (s3 _ _ (s12 _ _ ep0))
  have s04 := s12.trans (s3.trans s4)
  generalize upd H3 at_ (.lst (intsV taken)) = H4 at *
  refine ⟨ep4, [(.inr "at", .int 0), (.inr "values", .ref an), (.inr "rows", .ref h2), (.inr "taken", .ref at_)], rfl, Nat.le_of_ble_eq_true rfl, ?_⟩
  have nh20 : H0 h2 = none := none_of_same s12 nh2
  have nat0 : H0 at_ = none := none_of_same (s12.trans s3) nat
  have nrs0 : ∀ b ∈ rs, H0 b = none := fun b hb => none_of_same s12 (hf b hb).1
  have pn : ∀ c, H0 c = none → p ≠ c := fun c hc => ne_p ep0 hc
  have free : ∀ c, H0 c = none → H c = none := fun c hc => none_of_same s0 hc
  have sH4 : Same H H4 := s0.trans s04
  have e5an : upd H4 p (.dK (mergeK [] [(.inr "at", .int 0), (.inr "values", .ref an), (.inr "rows", .ref h2), (.inr "taken", .ref at_)])) an = some (.lst (intsV (List.replicate nm 0))) := by rw [upd_ne (pn an nan0).symm]; exact ean4
  have e5at : upd H4 p (.dK (mergeK [] [(.inr "at", .int 0), (.inr "values", .ref an), (.inr "rows", .ref h2), (.inr "taken", .ref at_)])) at_ = some (.lst (intsV taken)) := by rw [upd_ne (pn at_ nat0).symm]; exact eat
  have ra5 : RowsAt (upd H4 p (.dK (mergeK [] [(.inr "at", .int 0), (.inr "values", .ref an), (.inr "rows", .ref h2), (.inr "taken", .ref at_)]))) h2 rs rows := ⟨by rw [upd_ne (pn h2 nh20).symm]; exact ra4.top, ra4.len, fun i b r e g => by rw [upd_ne (pn b (nrs0 b (List.mem_of_getElem? e))).symm]; exact ra4.row i b r e g, ra4.nd⟩
  have e5p : upd H4 p (.dK (mergeK [] [(.inr "at", .int 0), (.inr "values", .ref an), (.inr "rows", .ref h2), (.inr "taken", .ref at_)])) p = some (.dK (mergeK [] [(.inr "at", .int 0), (.inr "values", .ref an), (.inr "rows", .ref h2), (.inr "taken", .ref at_)])) := upd_same
  have s5 : Same H (upd H4 p (.dK (mergeK [] [(.inr "at", .int 0), (.inr "values", .ref an), (.inr "rows", .ref h2), (.inr "taken", .ref at_)]))) := Same.new sH4 np
  generalize upd H4 p (.dK (mergeK [] [(.inr "at", .int 0), (.inr "values", .ref an), (.inr "rows", .ref h2), (.inr "taken", .ref at_)])) = H5 at *
  refine ⟨_, rfl, .inr (.inr (.inl ⟨rfl, .inl ⟨_, e5p⟩⟩)), ?_⟩
  intro p2 np2
  have s6 := same_new np2 (.dK [])
  have ep2 : upd H5 p2 (.dK []) p2 = some (.dK []) := upd_same
  generalize upd H5 p2 (.dK []) = H6 at *
  refine ⟨Nat.le_of_ble_eq_true rfl, fun ah nah => ?_⟩
  have s7 := same_new nah (.lst [])
  have eah : upd H6 ah (.lst []) ah = some (.lst []) := upd_same
  have nah5 : H5 ah = none := none_of_same s6 nah
  have p2ah : p2 ≠ ah := ne_p ep2 nah
  have ep27 := s7 _ _ ep2
  have s57 := s6.trans s7
  generalize upd H6 ah (.lst []) = H7 at *
  refine ⟨ep27, [(.inr "told", .ref ah), (.inr "steps", .int 0)], rfl, Nat.le_of_ble_eq_true rfl, ?_⟩
  have pp2 : p ≠ p2 := ne_p e5p np2
  have e8p : upd H7 p2 (.dK (mergeK [] [(.inr "told", .ref ah), (.inr "steps", .int 0)])) p = some (.dK (mergeK [] [(.inr "at", .int 0), (.inr "values", .ref an), (.inr "rows", .ref h2), (.inr "taken", .ref at_)])) := by rw [upd_ne pp2]; exact s57 _ _ e5p
  refine ⟨p, p2, _, _, rfl, rfl, pp2, e8p, upd_same, Nat.le_of_ble_eq_true rfl, ?_⟩
  have np25 : H5 p2 = none := np2
  have k8 : ∀ c o, H5 c = some o → c ≠ p → upd (upd H7 p2 (.dK (mergeK [] [(.inr "told", .ref ah), (.inr "steps", .int 0)]))) p (.dK (mergeK (mergeK [] [(.inr "at", .int 0), (.inr "values", .ref an), (.inr "rows", .ref h2), (.inr "taken", .ref at_)]) (mergeK [] [(.inr "told", .ref ah), (.inr "steps", .int 0)]))) c = some o := fun c o e hc => by
    rw [upd_ne hc, upd_ne (ne_p e np25)]; exact s57 _ _ e
  have nahH : H ah = none := none_of_same s5 nah5
  have anp : an ≠ p := (pn an nan0).symm
  have ahp : ah ≠ p := fun z => by rw [z, e5p] at nah5; cases nah5
  refine ⟨_, rfl, q _ ⟨p, an, h2, at_, ah, rs, none⟩ (fun c o e => ?_) ⟨upd_same, k8 _ _ e5an anp, ⟨k8 _ _ ra5.top (pn h2 nh20).symm, ra5.len, fun i b r e g => k8 _ _ (ra5.row i b r e g) (pn b (nrs0 b (List.mem_of_getElem? e))).symm, ra5.nd⟩, k8 _ _ e5at (pn at_ nat0).symm, ?_, ?_⟩ rfl (fun c hc => ?_)⟩
  · exact k8 c o (s5 c o e) (fun z => by rw [z, np] at e; cases e)
  · rw [upd_ne ahp, upd_ne p2ah.symm]; exact eah
  · have ndr := List.nodup_cons.mp ra.nd
    simp only [List.nodup_cons, List.mem_cons, not_or]
    refine ⟨⟨ne_p ean nh2, ne_p ean natH2, ne_p e5an nah5, fun m => ?_⟩, ⟨g1, ne_p ra5.top nah5, ndr.1⟩, ⟨ne_p e5at nah5, fun m => g2 _ m rfl⟩, fun m => ?_, ndr.2⟩
    · have := (hf an m).1; rw [ean] at this; cases this
    · obtain ⟨i, hi⟩ := List.mem_iff_getElem?.mp m
      have hil : i < rows.length := by have := (List.getElem?_eq_some_iff.mp hi).1; have := ra5.len; omega
      have := ra5.row i ah _ hi (List.getElem?_eq_getElem hil)
      rw [nah5] at this; cases this
  · simp only [LA.all, List.mem_cons] at hc
    rcases hc with z | z | z | z | z | z
    · rw [z]; exact np
    · rw [z]; exact free _ nan0
    · rw [z]; exact free _ nh20
    · rw [z]; exact free _ nat0
    · rw [z]; exact nahH
    · exact free _ (nrs0 c z)
end
end K25
set_option Elab.async false
set_option linter.all false
set_option maxRecDepth 100000
set_option maxHeartbeats 4000000
namespace K25
open PySem PySem.Spec PyProof.Rows L2
noncomputable abbrev s_same : Stmt := top 37
theorem sc_same : FnScope ["_law_walk", "_law_state", "_law_end", "_law_frame", "_law_told"] ["_law_walk", "_law_state", "_law_end"] (defScope s_same) := ⟨rfl, rfl, rfl, by decide +kernel, rfl, by decide +kernel, by decide +kernel⟩
noncomputable def intT (l : List Int) : T := .lst (l.map fun i => T.d (.int i))
noncomputable def rowsT (rows : List (List Int)) : T := .lst (rows.map intT)
noncomputable def endD' : Option (Str × Nat) → D
  | none => .non
  | some (z, j) => .tup [.str z, .int (j : Int)]
noncomputable def spSame (K : PySem.W.Frag) (C : Addr) : Sp := fun vs H Q _ => ExQ Q (fun (A : WA) Q => ExQ Q (fun (L : LA) Q => ExQ Q (fun (ds : List D) Q => ExQ Q (fun (rows : List (List Int)) Q => ExQ Q (fun (coming : List Int) Q => ExQ Q (fun (b : Int) Q => ExQ Q (fun (m : Mem) Q => ExQ Q (fun (i : Nat) Q => ExQ Q (fun (s : Nat) Q => ExQ Q (fun (e : Option (Str × Nat)) Q => ExQ Q (fun (ve : V) Q => vs = [.ref A.x, .ref L.sd, ve] ∧ WalkAt K H C A ⟨ds, rows, coming, b, i, m.nums, m.heard, (s : Int), e⟩ ∧ LawAt H L rows m i s ∧ rows.length ≤ 100 ∧ EndIs H e ve ∧ m.nums.length ≤ 100 ∧ m.heard.length ≤ 700 ∧ ∀ H', Same H H' → Q (.bl true) H')))))))))))
section
variable {P : Program} {w : World} {K : PySem.W.Frag} {mg : Str → Option Value} {base : Heap} {f : Addr} {fd : FuncData} {n : Nat} {C : Addr}
theorem istl_ints {H : Hp} : ∀ (l : List Int), IsTL K H (l.map fun i => T.d (.int i)) (intsV l)
  | [] => istl_nil
  | i :: l => istl_cons (ist_d is_int) (istl_ints l)
theorem ist_ints {H : Hp} {a : Addr} {l : List Int} (q : SqL K H a (intsV l)) : IsT K H (intT l) (.ref a) := ist_lst q (istl_ints l)
theorem istl_rows {H : Hp} : ∀ {rows : List (List Int)} {vs : List V}, vs.length = rows.length → (∀ (i : Nat) v r, vs[i]? = some v → rows[i]? = some r → ∃ b, v = .ref b ∧ SqL K H b (intsV r)) → IsTL K H (rows.map intT) vs
  | [], [], _, _ => istl_nil
  | [], _ :: _, h, _ => by simp at h
  | _ :: _, [], h, _ => by simp at h
  | r :: rows, v :: vs, h, g => by
    obtain ⟨b, rfl, q⟩ := g 0 v r rfl rfl
    exact istl_cons (ist_ints q) (istl_rows (by simpa using h) fun i v r e f => g (i + 1) v r (by simpa using e) (by simpa using f))
theorem ist_rows {H : Hp} {a : Addr} {rows : List (List Int)} (h : SrcRows K H a rows) : IsT K H (rowsT rows) (.ref a) :=
  let ⟨_, q, l, g⟩ := h; ist_lst q (istl_rows l g)
theorem tdep_ints : ∀ (l : List Int), T.depL (l.map fun i => T.d (.int i)) = 0
  | [] => by unfold T.depL; rfl
  | i :: l => by
    have := tdep_ints l
    rw [List.map_cons]
    unfold T.depL
    rw [this]
    unfold T.dep D.dep
    rfl
theorem tdep_intT (l : List Int) : (intT l).dep = 1 := by unfold intT; unfold T.dep; rw [tdep_ints]
theorem tdep_rows : ∀ (rows : List (List Int)), T.depL (rows.map intT) ≤ 1
  | [] => by unfold T.depL; decide
  | r :: rows => by
    have := tdep_rows rows
    rw [List.map_cons]
    unfold T.depL
    rw [tdep_intT]; omega
theorem tdep_rowsT (rows : List (List Int)) : (rowsT rows).dep ≤ 2 := by
  have := tdep_rows rows
  unfold rowsT
  have e : T.dep (.lst (rows.map intT)) = 1 + T.depL (rows.map intT) := by conv => lhs; unfold T.dep
  rw [e]; omega
theorem tdepL_cons (t : T) (ts : List T) : T.depL (t :: ts) = max t.dep (T.depL ts) := by conv => lhs; unfold T.depL
theorem tdepL_nil : T.depL [] = 0 := by unfold T.depL; rfl
theorem tdep_d (d : D) : T.dep (.d d) = d.dep := by unfold T.dep; rfl
theorem tdep_int (i : Int) : T.dep (.d (.int i)) = 0 := by rw [tdep_d]; unfold D.dep; rfl
theorem get_end {H : Hp} {L : LA} {i s : Int} {v : V} (h : L.held = some v) (e : H L.sd = some (.dK (stK L i s))) : DGet H L.sd (.str "end") (some v) := .inl ⟨_, .inr "end", .inl e, rfl, by unfold stK; rw [h]; rfl⟩
theorem no_true : ∀ (k : Nat), inV (.bl true) (List.replicate k (V.bl false)) = false
  | 0 => rfl
  | k + 1 => by rw [List.replicate_succ]; show (eqV (.bl false) (.bl true) || inV (.bl true) (List.replicate k (V.bl false))) = false; rw [no_true k]; rfl
theorem flat_f (k : Nat) : (List.replicate k (V.bl false)).all flatV = true := by
  rw [List.all_eq_true]; intro x hx; rw [(List.mem_replicate.mp hx).2]; rfl
theorem ist_endo {H : Hp} {e : Option (Str × Nat)} {en : V} (h : EndIs H e en) : IsT K H (.d (endD' e)) en := by
  cases e with
  | none => cases (show en = .non from h); exact ist_d is_non
  | some p =>
    obtain ⟨z, j⟩ := p
    obtain ⟨te, rfl, ete⟩ := h
    exact ist_d (is_tup (SqT.of ete) (isl_cons is_str (isl_cons is_int isl_nil)))
theorem dep_endo (e : Option (Str × Nat)) : D.dep (endD' e) ≤ 1 := by
  cases e with
  | none => simp [endD', D.dep]
  | some p => simp [endD', D.dep, D.depL]
theorem ok_same (F : Fun K "_law_same" "_law_same" s_same f fd) (W : WC K C) (m_isinstance : mg "isinstance" = none) (m_bool : mg "bool" = none) (c_Walk_told : ClM P w K mg base C "told" n ["self"] (spTold K C)) (c_Walk_frame : ClM P w K mg base C "frame" n ["self"] (spFrame K C)) : FnOk P w K mg base CX0 (n + 1) f fd ["_law_walk", "_law_state", "_law_end"] (spSame K C) := by
  refine F.ok sc_same (fun vs H Q E h => ?_) (fun cdv A outer s H vs Q E hr h => ?_)
  · obtain ⟨A, L, ds, rows, coming, b, m, i, s, e, ve, rfl, _⟩ := h
    rfl
  have hu : (A.deeper (envOfC "_law_same" (defScope s_same) s.heap.objs.size f cdv)).units + 1 < cLine := by have := hr.units; omega
  have hu2 : (A.deeper (envOfC "_law_same" (defScope s_same) s.heap.objs.size f cdv)).units + 1 + 5 < cLine := by have := hr.units; omega
  obtain ⟨A, L, ds, rows, coming, b, m, i, s, e, ve, rfl, hw, hL, h100, he, hn, hh, q⟩ := h
  have sc := sc_same
  refine ⟨_, (@pss_cons _ _ _ _ _ (ps_set (i := 3) sc.nd rfl (Or.inl rfl) (pe_mcl0 (pv 0) c_Walk_frame hr))
      (@pss_cons _ _ _ _ _ (ps_set (i := 4) sc.nd rfl (Or.inl rfl) (pe_mcl0 (pv 0) c_Walk_told hr))
      (@pss_cons _ _ _ _ _ (ps_if (PW.pt (pw_or (pt_cmpR (op_neT (n := 5) hu2) (pv 3) (pe_tup (pa_cons (pe_dget hu (pv 1) pe_str (fun _ _ => rfl)) (pa_cons (pe_dget hu (pv 1) pe_str (fun _ _ => rfl)) pa_nil))) (nomark _)) (pw_or1 (pt_cmpR (op_neT (n := 5) hu2) (pv 4) (pe_tup (pa_cons (pv 2) (pa_cons (pe_dget hu (pv 1) pe_str (fun _ _ => rfl)) (pa_cons (pe_dget hu (pv 1) pe_str (fun _ _ => rfl)) (pa_cons (pe_dget hu (pv 1) pe_str (fun _ _ => rfl)) pa_nil))))) (nomark _))))) (pss_one (ps_ret pe_bl)) pss_nil)
      (pss_one (ps_ret (pe_cmpR op_notIn_seq pe_bl (pe_comp ["_law_one"] rfl (cmp_ok (N := ["_law_walk", "_law_state", "_law_end", "_law_frame", "_law_told"]) (so := defScope s_same) rfl rfl (by decide +kernel)) (pi_list (pe_op op_cat (pe_op op_cat (pe_ix ix_tup (pv 3) pe_int (fun _ _ => rfl)) (pe_ix ix_tup (pv 4) pe_int (fun _ _ => rfl))) (pe_lst (pa_cons (pe_ix ix_tup (pv 3) pe_int (fun _ _ => rfl)) (pa_cons (pe_ix ix_tup (pv 4) pe_int (fun _ _ => rfl)) pa_nil))))) (fun _ _ _ _ _ _ => (pg_name (i := 0) (show List.Nodup (α := Str) ["_law_one", "_law_walk", "_law_state", "_law_end", "_law_frame", "_law_told"] by decide +kernel) rfl (Or.inl rfl) (Or.inr rfl))) (fun _ _ _ _ _ _ => pifs_nil) (fun _ _ _ _ _ _ => (pe_callB (call_isiK (K := K) rfl) rfl m_isinstance PyProof.Rows.boot_isinstance (pa_cons (pv 0) (pa_cons (pe_bltn rfl m_bool PyProof.Rows.boot_bool (v := .ty "bool") rfl) pa_nil))))) (by with_unfolding_all rfl))))))), ?_⟩
  obtain ⟨en, e1, e2⟩ := hw.ins
  refine ⟨_, rfl, A.x, A.dx, _, rfl, e1, rfl, A, _, rfl, hw, fun H1 tf lf s1 etf elf nlf => ?_⟩
  refine ⟨_, rfl, A.x, A.dx, _, rfl, s1 _ _ e1, rfl, A, _, rfl, hw.same s1, h100, fun H2 tt lt p rs en1 s2 ett ee elt rat hfr nd => ?_⟩
  have s12 := s1.trans s2
  have hL2 := hL.same s12
  have etf2 := s2 _ _ etf
  have elf2 := s2 _ _ elf
  refine ⟨_, rfl, _, rfl, L.sd, _, rfl, get_at hL2.d, _, rfl, L.sd, _, rfl, get_values hL2.d, Nat.le_of_ble_eq_true rfl, fun t5 n5 => ?_⟩
  have u3 := same_new n5 (.tup [.int (i : Int), .ref L.av])
  refine ⟨[.d (.int (i : Int)), intT m.nums], .inr ⟨ist_tup (SqT.of (u3 _ _ etf2)) (istl_cons (ist_d is_int) (istl_cons (ist_ints (SqL.of (u3 _ _ elf2))) istl_nil)), ist_tup (SqT.of upd_same) (istl_cons (ist_d is_int) (istl_cons (ist_ints (SqL.of (u3 _ _ hL2.v))) istl_nil))⟩, ?_, false, rfl, iteF ?_⟩
  · rw [tdepL_cons, tdepL_cons, tdepL_nil, tdep_int, tdep_intT]; decide
  have s13 := s12.trans u3
  have ett3 := u3 _ _ ett
  have elt3 := u3 _ _ elt
  have etf3 := u3 _ _ etf2
  have elf3 := u3 _ _ elf2
  have ee3 := end_same u3 ee
  have rat3 := rat.same u3
  generalize upd H2 t5 (.tup [.int (i : Int), .ref L.av]) = H3 at *
  have hL3 := hL.same s13
  refine ⟨_, rfl, _, rfl, _, rfl, L.sd, _, rfl, get_told hL3.d, _, rfl, L.sd, _, rfl, get_steps hL3.d, _, rfl, L.sd, _, rfl, get_rows hL3.d, Nat.le_of_ble_eq_true rfl, fun tc ntc => ?_⟩
  have u1 := same_new ntc (.tup [ve, .ref L.ah, .int (s : Int), .ref L.ar])
  have hL4 := hL3.same u1
  have s14 := s13.trans u1
  refine ⟨[.d (endD' e), intT m.heard, .d (.int (s : Int)), rowsT rows], .inr ⟨ist_tup (SqT.of (u1 _ _ ett3)) (istl_cons (ist_endo (end_same u1 ee3)) (istl_cons (ist_ints (SqL.of (u1 _ _ elt3))) (istl_cons (ist_d is_int) (istl_cons (ist_rows (rat3.same u1).src) istl_nil)))),
    ist_tup (SqT.of upd_same) (istl_cons (ist_endo (end_same s14 he)) (istl_cons (ist_ints (SqL.of hL4.h)) (istl_cons (ist_d is_int) (istl_cons (ist_rows hL4.ra.src) istl_nil))))⟩, ?_, false, rfl, iteF ?_⟩
  · have := tdep_rowsT rows
    have := dep_endo e
    rw [tdepL_cons, tdepL_cons, tdepL_cons, tdepL_cons, tdepL_nil, tdep_int, tdep_intT, tdep_d]; omega
  have ett4 := u1 _ _ ett3
  have elt4 := u1 _ _ elt3
  have etf4 := u1 _ _ etf3
  have elf4 := u1 _ _ elf3
  generalize upd H3 tc (.tup [ve, .ref L.ah, .int (s : Int), .ref L.ar]) = H4 at *
  refine ⟨_, rfl, tf, _, 1, _, rfl, rfl, SqT.of etf4, at1 _ _ _, _, rfl, tt, _, 1, _, rfl, rfl, SqT.of ett4, at1 _ _ _, lf, lt, _, _, rfl, rfl, elf4, elt4, small (by rw [len_ints, len_ints]; show m.nums.length + m.heard.length ≤ 1000; omega), fun l1 n1 => ?_⟩
  have v1 := same_new n1 (.lst (intsV m.nums ++ intsV m.heard))
  refine ⟨_, rfl, tf, _, 0, _, rfl, rfl, SqT.of (v1 _ _ etf4), at0 _ _, _, rfl, tt, _, 2, _, rfl, rfl, SqT.of (v1 _ _ ett4), at2 _ _ _ _, Nat.le_of_ble_eq_true rfl, fun l2 n2 => ?_⟩
  have v2 := same_new n2 (.lst [.int (i : Int), .int (s : Int)])
  refine ⟨l1, l2, _, _, rfl, rfl, v2 _ _ upd_same, upd_same, small (by rw [List.length_append, len_ints, len_ints]; show m.nums.length + m.heard.length + 2 ≤ 1000; omega), fun l3 n3 => ?_⟩
  have eI : (intsV m.nums ++ intsV m.heard) ++ [V.int (i : Int), .int (s : Int)] = intsV (m.nums ++ m.heard ++ [(i : Int), (s : Int)]) := by unfold intsV; rw [List.map_append, List.map_append]; rfl
  rw [eI]
  have ll : (m.nums ++ m.heard ++ [(i : Int), (s : Int)]).length ≤ 900 := by simp only [List.length_append, List.length_cons, List.length_nil]; omega
  generalize m.nums ++ m.heard ++ [(i : Int), (s : Int)] = li at *
  have v3 := same_new n3 (.lst (intsV li))
  have s17 := s14.trans (v1.trans (v2.trans v3))
  have el3 : upd (upd (upd H4 l1 (.lst (intsV m.nums ++ intsV m.heard))) l2 (.lst [.int (i : Int), .int (s : Int)])) l3 (.lst (intsV li)) l3 = some (.lst (intsV li)) := upd_same
  generalize upd (upd (upd H4 l1 (.lst (intsV m.nums ++ intsV m.heard))) l2 (.lst [.int (i : Int), .int (s : Int)])) l3 (.lst (intsV li)) = H7 at *
  refine ⟨l3, rfl, ⟨_, SqL.of el3⟩, fun pp npp => ?_⟩
  refine comp_list (xs := intsV li) (fun k H' => Same H7 H' ∧ H' pp = some (.lst (List.replicate k (V.bl false)))) ⟨same_new npp _, upd_same⟩ (fun k H' _ h => SqL.of (h.1 _ _ el3)) (fun k y H' ey h => ?_) (fun H' h => ?_)
  · have hk := (List.getElem?_eq_some_iff.mp ey).1
    rw [len_ints] at hk
    unfold intsV at ey
    rw [List.getElem?_map] at ey
    obtain ⟨z, _, rfl⟩ := Option.map_eq_some_iff.mp ey
    refine ⟨⟨[some (.int z)], rfl, rfl⟩, tTrue_ite ?_⟩
    refine ⟨_, rfl, _, "bool", _, false, rfl, .int z, by with_unfolding_all rfl, _, h.2, small1000 (by rw [List.length_replicate]; omega), Same.new h.1 npp, ?_⟩
    rw [upd_same, List.replicate_succ']
  · refine ⟨pp, _, rfl, .inl (SqL.of h.2), rfl, flat_f _, ?_⟩
    have eq := no_true (intsV li).length
    rw [show (if true = true then !inV (V.bl true) (List.replicate (intsV li).length (V.bl false)) else inV (V.bl true) (List.replicate (intsV li).length (V.bl false))) = true by rw [eq]; rfl]
    exact q H' (s17.trans h.1)
end
end K25
set_option Elab.async false
set_option linter.all false
set_option maxRecDepth 100000
set_option maxHeartbeats 4000000
namespace K25
open PySem PySem.Spec PyProof.Rows L2
noncomputable abbrev s_node : Stmt := top 17
noncomputable abbrev s_ask : Stmt := top 18
noncomputable def NodeD (names rows : Int) (d : D) : Prop := d = .tup [.str "zero"] ∨ (∃ k : Int, 0 ≤ k ∧ k < names ∧ d = .tup [.str "name", .int k, .int 0]) ∨ ∃ k : Int, 0 ≤ k ∧ k < rows ∧ d = .tup [.str "len", .int k]
noncomputable def BoundD (names rows : Int) (d : D) : Prop := ∃ a b c, NodeD names rows a ∧ NodeD names rows b ∧ -1000 ≤ c ∧ c ≤ 1000 ∧ d = .tup [a, b, .int c]
noncomputable def MaybeD (names : Int) (d : D) : Prop := d = .non ∨ ∃ i : Int, 0 ≤ i ∧ i < names ∧ d = .int i
inductive LineD (names rows at_ many : Int) : D → Prop
  | set (x c k : Int) (y : D) : 0 ≤ x → x < names → MaybeD names y → -1000 ≤ c → c ≤ 1000 → 0 ≤ k → k < many → LineD names rows at_ many (.tup [.str "set", .int x, y, .int c, .int k])
  | sum (x z k : Int) (w : D) : 0 ≤ x → x < names → 0 ≤ z → z < names → MaybeD names w → 0 ≤ k → k < many → LineD names rows at_ many (.tup [.str "sum", .int x, .int z, w, .int k])
  | len (x r k : Int) : 0 ≤ x → x < names → 0 ≤ r → r < rows → 0 ≤ k → k < many → LineD names rows at_ many (.tup [.str "len", .int x, .int r, .int k])
  | take (x k : Int) : 0 ≤ x → x < names → 0 ≤ k → k < many → LineD names rows at_ many (.tup [.str "take", .int x, .int k])
  | get (x r c k : Int) (y : D) : 0 ≤ x → x < names → 0 ≤ r → r < rows → MaybeD names y → -1000 ≤ c → c ≤ 1000 → 0 ≤ k → k < many → LineD names rows at_ many (.tup [.str "get", .int x, .int r, y, .int c, .int k])
  | put (r c z k : Int) (y : D) : 0 ≤ r → r < rows → MaybeD names y → -1000 ≤ c → c ≤ 1000 → 0 ≤ z → z < names → 0 ≤ k → k < many → LineD names rows at_ many (.tup [.str "put", .int r, y, .int c, .int z, .int k])
  | tell (x k : Int) : 0 ≤ x → x < names → 0 ≤ k → k < many → LineD names rows at_ many (.tup [.str "tell", .int x, .int k])
  | test (y w : D) (c k m : Int) : MaybeD names y → MaybeD names w → -1000 ≤ c → c ≤ 1000 → 0 ≤ k → k < many → 0 ≤ m → m < many → LineD names rows at_ many (.tup [.str "test", y, w, .int c, .int k, .int m])
  | ask (bs : List D) (k m : Int) : 1 ≤ bs.length → bs.length ≤ 4 → (∀ b ∈ bs, BoundD names rows b) → at_ < k → k < many → at_ < m → m < many → LineD names rows at_ many (.tup [.str "ask", .tup bs, .int k, .int m])
  | end_ : LineD names rows at_ many (.tup [.str "end"])
noncomputable def AskD (names rows at_ many : Int) (d : D) : Prop := ∃ (bs : List D) (k m : Int), d = .tup [.str "ask", .tup bs, .int k, .int m] ∧ 1 ≤ bs.length ∧ bs.length ≤ 4 ∧ (∀ b ∈ bs, BoundD names rows b) ∧ at_ < k ∧ k < many ∧ at_ < m ∧ m < many
theorem AskD.line {names rows at_ many : Int} {d : D} (h : AskD names rows at_ many d) : LineD names rows at_ many d := by
  obtain ⟨bs, k, m, rfl, h1, h2, h3, h4, h5, h6, h7⟩ := h
  exact .ask bs k m h1 h2 h3 h4 h5 h6 h7
noncomputable def spNode (K : PySem.W.Frag) : Sp := fun vs H Q _ => ExQ Q (fun (c : Int) Q => ExQ Q (fun (names : Int) Q => ExQ Q (fun (rows : Int) Q => vs = [.int c, .int names, .int rows] ∧ 0 ≤ names ∧ names ≤ 100 ∧ 0 ≤ rows ∧ rows ≤ 100 ∧ ∀ (d : D) (v : V) (H' : Hp), NodeD names rows d → Same H H' → Is K H' d v → Q v H')))
noncomputable def spAsk (K : PySem.W.Frag) : Sp := fun vs H Q _ => ExQ Q (fun (c : Int) Q => ExQ Q (fun (names : Int) Q => ExQ Q (fun (rows : Int) Q => ExQ Q (fun (at_ : Int) Q => ExQ Q (fun (many : Int) Q => vs = [.int c, .int names, .int rows, .int at_, .int many] ∧ 0 ≤ names ∧ names ≤ 100 ∧ 0 ≤ rows ∧ rows ≤ 100 ∧ 0 ≤ at_ ∧ at_ + 1 < many ∧
  ∀ (d : D) (v : V) (H' : Hp), AskD names rows at_ many d → Same H H' → Is K H' d v → Q v H')))))
section
variable {P : Program} {w : World} {K : PySem.W.Frag} {mg : Str → Option Value} {base : Heap} {f : Addr} {fd : FuncData} {n : Nat}
local macro_rules | `(tactic| walk_at "s") => `(tactic| first | exact ⟨by decide, by decide⟩ | exact ⟨by decide, by decide, by decide⟩ | exact Or.inl ⟨by decide, by decide⟩ | exact Or.inr ⟨by decide, by decide⟩ | (show (0 : Int) < _; decide) | (show (0 : Int) ≤ _; decide) | (show (0 : Int) < _; omega) | (show (0 : Int) ≤ _; omega) | exact ⟨by omega, by omega⟩ | exact Or.inl ⟨by omega, by omega⟩ | exact Or.inr ⟨by omega, by omega⟩)
local macro_rules | `(tactic| walk_at "r") => `(tactic| repeat (first | (refine ⟨_, rfl, ?_⟩) | (refine ⟨_, _, rfl, rfl, ?_⟩) | (refine ⟨rfl, ?_⟩) | (refine ⟨by walk_at "s", ?_⟩)))
theorem sc_node : FnScope ["_law_cell_here", "_law_names", "_law_rows", "_law_some"] ["_law_cell_here", "_law_names", "_law_rows"] (defScope s_node) := ⟨rfl, rfl, rfl, by decide +kernel, rfl, by decide +kernel, by decide +kernel⟩
theorem sc_ask : FnScope ["_law_cell_here", "_law_names", "_law_rows", "_law_at_here", "_law_many", "_law_bounds", "_law_k", "_law_ahead", "_law_first", "_law_last"] ["_law_cell_here", "_law_names", "_law_rows", "_law_at_here", "_law_many"] (defScope s_ask) := ⟨rfl, rfl, rfl, by decide +kernel, rfl, by decide +kernel, by decide +kernel⟩
theorem ok_node (F : Fun K "_law_node" "_law_node" s_node f fd) (m_len : mg "len" = none) (m_range : mg "range" = none) : FnOk P w K mg base CX0 (n + 1) f fd ["_law_cell_here", "_law_names", "_law_rows"] (spNode K) := by
  refine F.ok sc_node (fun vs H Q E h => ?_) (fun cdv A outer s H vs Q E hr h => ?_)
  · obtain ⟨c, names, rows, rfl, _⟩ := h
    rfl
  obtain ⟨c, names, rows, rfl, n0, n1, r0, r1, q⟩ := h
  have sc := sc_node
  refine ⟨_, (@pss_cons _ _ _ _ _ (ps_set (i := 3) sc.nd rfl (Or.inl rfl) (pe_op op_cat (pe_op op_cat (pe_lst (pa_cons (pe_tup (pa_cons pe_str pa_nil)) pa_nil)) (pe_comp ["_law_k"] rfl (cmp_ok (N := ["_law_cell_here", "_law_names", "_law_rows", "_law_some"]) (so := defScope s_node) rfl rfl (by decide +kernel)) (pi_range1 rfl m_range (pa_cons (pv 1) pa_nil)) (fun _ _ _ _ _ _ => (pg_name (i := 0) (show List.Nodup (α := Str) ["_law_k", "_law_cell_here", "_law_names", "_law_rows", "_law_some"] by decide +kernel) rfl (Or.inl rfl) (Or.inr rfl))) (fun _ _ _ _ _ _ => pifs_nil) (fun _ _ _ _ _ _ => (pe_tup (pa_cons pe_str (pa_cons (pv 0) (pa_cons pe_int pa_nil))))))) (pe_comp ["_law_k"] rfl (cmp_ok (N := ["_law_cell_here", "_law_names", "_law_rows", "_law_some"]) (so := defScope s_node) rfl rfl (by decide +kernel)) (pi_range1 rfl m_range (pa_cons (pv 2) pa_nil)) (fun _ _ _ _ _ _ => (pg_name (i := 0) (show List.Nodup (α := Str) ["_law_k", "_law_cell_here", "_law_names", "_law_rows", "_law_some"] by decide +kernel) rfl (Or.inl rfl) (Or.inr rfl))) (fun _ _ _ _ _ _ => pifs_nil) (fun _ _ _ _ _ _ => (pe_tup (pa_cons pe_str (pa_cons (pv 0) pa_nil)))))))
      (pss_one (ps_ret (pe_ix ix_list (pv 3) (pe_op op_mod (pv 0) (pe_callB call_len_seq rfl m_len PySem.boot_len (pa_cons (pv 3) pa_nil))) (fun _ _ => rfl))))), ?_⟩
  refine ⟨Nat.le_of_ble_eq_true rfl, fun t ht => ⟨Nat.le_of_ble_eq_true rfl, fun l hl => ?_⟩⟩
  refine ⟨_, rfl, names, rfl, by omega, by omega, fun p hp => ?_⟩
  have H1s : Same H (upd (upd H t (.tup [.str "zero"])) l (.lst [.ref t])) := (same_new ht _).trans (same_new hl _)
  generalize hH1 : upd (upd H t (.tup [.str "zero"])) l (.lst [.ref t]) = H1 at H1s hp
  have e_l : H1 l = some (.lst [.ref t]) := by rw [← hH1]; exact upd_same
  have e_t : H1 t = some (.tup [.str "zero"]) := by rw [← hH1, upd_ne (ne_p (upd_same) hl)]; exact upd_same
  refine comp_range (fun i H' => Same H1 H' ∧ ∃ acc, H' p = some (.lst acc) ∧ IsL K H' ((List.range i).map fun (k : Nat) => D.tup [.str "name", .int (k : Int), .int 0]) acc) ⟨same_new hp _, [], upd_same, isl_nil⟩ (fun i H' hi h => ?_) (fun H' h => ?_)
  · obtain ⟨sm, acc, ea, il⟩ := h
    refine ⟨⟨[some (.int (0 + (i : Int)))], rfl, rfl⟩, ?_⟩
    refine tTrue_ite ?_
    refine ⟨_, rfl, Nat.le_of_ble_eq_true rfl, fun t2 ht2 => ?_⟩
    have tn := Tups.new (o := .tup [.str "name", .int (0 + (i : Int)), .int 0]) ht2
    have ea2 : upd H' t2 (.tup [.str "name", .int (0 + (i : Int)), .int 0]) p = some (.lst acc) := by rw [upd_ne (ne_p ea ht2)]; exact ea
    have ln := il.length
    rw [List.length_map, List.length_range] at ln
    refine ⟨acc, ea2, small1000 (by omega), ?_, acc ++ [.ref t2], upd_same, ?_⟩
    · exact Same.new (Same.new sm (none_of_same sm ht2)) hp
    · rw [List.range_succ, List.map_append]
      refine IsL.append ((il.mono tn).mono (Tups.lst ea2)) (isl_cons ?_ isl_nil)
      have et : upd (upd H' t2 (.tup [.str "name", .int (0 + (i : Int)), .int 0])) p (.lst (acc ++ [.ref t2])) t2 = some (.tup [.str "name", .int (0 + (i : Int)), .int 0]) := by
        rw [upd_ne (ne_p ea ht2).symm]; exact upd_same
      refine is_tup (SqT.of et) (isl_cons is_str (isl_cons ?_ (isl_cons is_int isl_nil)))
      rw [Int.zero_add]; exact is_int
  · obtain ⟨sm, acc, ea, il⟩ := h
    have ln := il.length
    rw [List.length_map, List.length_range] at ln
    have e_l2 := sm _ _ e_l
    refine ⟨l, p, _, acc, rfl, rfl, e_l2, ea, small (by simp; omega), fun l3 hl3 => ?_⟩
    refine ⟨_, rfl, rows, rfl, by omega, by omega, fun p4 hp4 => ?_⟩
    have t3 := Tups.new (o := .lst ([.ref t] ++ acc)) hl3
    have s3 : Same H1 (upd H' l3 (.lst ([.ref t] ++ acc))) := sm.trans (same_new hl3 _)
    have il3 := il.mono t3
    have e3 : upd H' l3 (.lst ([.ref t] ++ acc)) l3 = some (.lst ([.ref t] ++ acc)) := upd_same
    generalize upd H' l3 (.lst ([.ref t] ++ acc)) = H3 at t3 s3 il3 e3 hp4
    refine comp_range (fun i H' => Same H3 H' ∧ ∃ acc, H' p4 = some (.lst acc) ∧ IsL K H' ((List.range i).map fun (k : Nat) => D.tup [.str "len", .int (k : Int)]) acc) ⟨same_new hp4 _, [], upd_same, isl_nil⟩ (fun i H' hi h => ?_) (fun H' h => ?_)
    · obtain ⟨sm, acc, ea, il⟩ := h
      refine ⟨⟨[some (.int (0 + (i : Int)))], rfl, rfl⟩, ?_⟩
      refine tTrue_ite ?_
      refine ⟨_, rfl, Nat.le_of_ble_eq_true rfl, fun t2 ht2 => ?_⟩
      have tn := Tups.new (o := .tup [.str "len", .int (0 + (i : Int))]) ht2
      have ea2 : upd H' t2 (.tup [.str "len", .int (0 + (i : Int))]) p4 = some (.lst acc) := by rw [upd_ne (ne_p ea ht2)]; exact ea
      have ln := il.length
      rw [List.length_map, List.length_range] at ln
      refine ⟨acc, ea2, small1000 (by omega), ?_, acc ++ [.ref t2], upd_same, ?_⟩
      · exact Same.new (Same.new sm (none_of_same sm ht2)) hp4
      · rw [List.range_succ, List.map_append]
        refine IsL.append ((il.mono tn).mono (Tups.lst ea2)) (isl_cons ?_ isl_nil)
        have et : upd (upd H' t2 (.tup [.str "len", .int (0 + (i : Int))])) p4 (.lst (acc ++ [.ref t2])) t2 = some (.tup [.str "len", .int (0 + (i : Int))]) := by
          rw [upd_ne (ne_p ea ht2).symm]; exact upd_same
        refine is_tup (SqT.of et) (isl_cons is_str (isl_cons ?_ isl_nil))
        rw [Int.zero_add]; exact is_int
    · obtain ⟨sm5, acc5, ea5, il5⟩ := h
      have ln5 := il5.length
      rw [List.length_map, List.length_range] at ln5
      refine ⟨l3, p4, _, acc5, rfl, rfl, sm5 _ _ e3, ea5, small (by simp; omega), fun l6 hl6 => ?_⟩
      -- the whole list, by data
      have t6 := Tups.new (o := .lst (([.ref t] ++ acc) ++ acc5)) hl6
      have it : Is K (upd H' l6 (.lst (([.ref t] ++ acc) ++ acc5))) (.tup [.str "zero"]) (.ref t) := (is_tup (SqT.of (sm5 _ _ (s3 _ _ e_t))) (isl_cons is_str isl_nil)).mono t6
      have all := IsL.append (IsL.append (isl_cons it isl_nil) ((il3.mono sm5.tups).mono t6)) (il5.mono t6)
      have e6 : upd H' l6 (.lst (([.ref t] ++ acc) ++ acc5)) l6 = some (.lst (([.ref t] ++ acc) ++ acc5)) := upd_same
      have s6 : Same H (upd H' l6 (.lst (([.ref t] ++ acc) ++ acc5))) := H1s.trans (s3.trans (sm5.trans (same_new hl6 _)))
      generalize upd H' l6 (.lst (([.ref t] ++ acc) ++ acc5)) = H6 at e6 all s6
      obtain ⟨j, v, ev, ej⟩ := atI_mod (xs := ([.ref t] ++ acc) ++ acc5) (c := c) (by simp)
      refine ⟨_, rfl, _, rfl, _, rfl, l6, _, rfl, .inl (SqL.of e6), _, _, rfl, rfl, by show (0 : Int) < _; simp; omega, l6, _, _, v, rfl, rfl, SqL.of e6, ev, ?_⟩
      obtain ⟨d, ed, isd⟩ := all.get' ej
      refine q d v H6 ?_ s6 isd
      have md := List.mem_of_getElem? ed
      rcases List.mem_append.mp md with md | md
      · rcases List.mem_append.mp md with md | md
        · rw [List.mem_singleton.mp md]; exact .inl rfl
        · obtain ⟨k, hk, rfl⟩ := List.mem_map.mp md
          have := List.mem_range.mp hk
          exact .inr (.inl ⟨k, by omega, by omega, rfl⟩)
      · obtain ⟨k, hk, rfl⟩ := List.mem_map.mp md
        have := List.mem_range.mp hk
        exact .inr (.inr ⟨k, by omega, by omega, rfl⟩)

theorem ok_ask (F : Fun K "_law_ask" "_law_ask" s_ask f fd) (m_range : mg "range" = none) (m_tuple : mg "tuple" = none) (c_law_pick : Cl P w K mg base "_law_pick" n ["_law_cell_here", "_law_k", "_law_many"] spPick) (c_law_number : Cl P w K mg base "_law_number" n ["_law_cell_here"] spNumber)
    (c_law_node : Cl P w K mg base "_law_node" n ["_law_cell_here", "_law_names", "_law_rows"] (spNode K)) : FnOk P w K mg base CX0 (n + 1) f fd ["_law_cell_here", "_law_names", "_law_rows", "_law_at_here", "_law_many"] (spAsk K) := by
  refine F.ok sc_ask (fun vs H Q E h => ?_) (fun cdv A outer s H vs Q E hr h => ?_)
  · obtain ⟨c, names, rows, at_, many, rfl, _⟩ := h
    rfl
  obtain ⟨c, names, rows, at_, many, rfl, n0, n1, r0, r1, a0, a1, q⟩ := h
  have sc := sc_ask
  refine ⟨_, (@pss_cons _ _ _ _ _ (ps_set (i := 5) sc.nd rfl (Or.inl rfl) (pe_lst pa_nil))
      (@pss_cons _ _ _ _ _ (ps_for PassesOwn.never rfl (pi_range1 rfl m_range (pa_cons (pe_op op_add pe_int (pe_cl c_law_pick hr rfl (pa_cons (pv 0) (pa_cons pe_int (pa_cons pe_int pa_nil))))) pa_nil)) (pg_name (i := 6) sc.nd rfl (Or.inl rfl)) (@pss_cons _ _ _ _ _ (ps_set (i := 8) sc.nd rfl (Or.inl rfl) (pe_cl c_law_node hr rfl (pa_cons (pe_cl c_law_pick hr rfl (pa_cons (pv 0) (pa_cons (pe_op op_add pe_int (pv 6)) (pa_cons pe_int pa_nil)))) (pa_cons (pv 1) (pa_cons (pv 2) pa_nil)))))
      (@pss_cons _ _ _ _ _ (ps_set (i := 9) sc.nd rfl (Or.inl rfl) (pe_cl c_law_node hr rfl (pa_cons (pe_cl c_law_pick hr rfl (pa_cons (pv 0) (pa_cons (pe_op op_add pe_int (pv 6)) (pa_cons pe_int pa_nil)))) (pa_cons (pv 1) (pa_cons (pv 2) pa_nil)))))
      (pss_one (ps_expr (pe_bm PySem.F.plainAttrs_list PySem.F.slot_list_append PySem.F.type_list_append mt_append (pv 5) (pa_cons (pe_tup (pa_cons (pv 8) (pa_cons (pv 9) (pa_cons (pe_cl c_law_number hr rfl (pa_cons (pe_cl c_law_pick hr rfl (pa_cons (pv 0) (pa_cons (pe_op op_add pe_int (pv 6)) (pa_cons pe_int pa_nil)))) pa_nil)) pa_nil)))) pa_nil)))))))
      (@pss_cons _ _ _ _ _ (ps_set (i := 7) sc.nd rfl (Or.inl rfl) (pe_op op_sub (pe_op op_sub (pv 4) pe_int) (pv 3)))
      (pss_one (ps_ret (pe_tup (pa_cons pe_str (pa_cons (pe_callTy call_tuple_of rfl m_tuple PyProof.Rows.boot_tuple (pa_cons (pv 5) pa_nil)) (pa_cons (pe_op op_add (pe_op op_add (pv 3) pe_int) (pe_cl c_law_pick hr rfl (pa_cons (pv 0) (pa_cons pe_int (pa_cons (pv 7) pa_nil))))) (pa_cons (pe_op op_add (pe_op op_add (pv 3) pe_int) (pe_cl c_law_pick hr rfl (pa_cons (pv 0) (pa_cons pe_int (pa_cons (pv 7) pa_nil))))) pa_nil)))))))))), ?_⟩
  refine ⟨Nat.le_of_ble_eq_true rfl, fun l hl => ?_⟩
  refine ⟨_, rfl, c, 20, 4, rfl, by decide, by decide, by decide, fun i i0 i1 => ⟨_, _, rfl, rfl, _, rfl, by omega, by omega, ?_⟩⟩
  refine for_range (fun j σ H' => Same H H' ∧ ∃ acc ds y6 y8 y9, H' l = some (.lst acc) ∧ IsL K H' ds acc ∧ ds.length = j ∧ (∀ d ∈ ds, BoundD names rows d) ∧
      σ = [some (.int c), some (.int names), some (.int rows), some (.int at_), some (.int many), some (.ref l), y6, none, y8, y9]) ⟨same_new hl _, [], [], _, _, _, upd_same, isl_nil, rfl, fun d hd => by simp at hd, rfl⟩ (fun j σ H' hj h => ?_) (fun σ H' h => ?_)
  · obtain ⟨sm, acc, ds, y6, y8, y9, el, il, ln, hb, rfl⟩ := h
    have hj4 : j < 4 := by omega
    refine ⟨_, rfl, _, rfl, _, _, rfl, rfl, c, _, 1000, rfl, by omega, by omega, by decide, fun k1 k10 k11 => ?_⟩
    refine ⟨_, rfl, _, rfl, k1, names, rows, rfl, n0, n1, r0, r1, fun d1 v1 H1 nd1 s1 is1 => ?_⟩
    refine ⟨_, rfl, _, rfl, _, _, rfl, rfl, c, _, 1000, rfl, by omega, by omega, by decide, fun k2 k20 k21 => ?_⟩
    refine ⟨_, rfl, _, rfl, k2, names, rows, rfl, n0, n1, r0, r1, fun d2 v2 H2 nd2 s2 is2 => ?_⟩
    have el2 := s2 _ _ (s1 _ _ el)
    refine ⟨_, rfl, .inl ⟨rfl, _, SqL.of el2⟩, _, rfl, _, rfl, _, rfl, _, rfl, _, _, rfl, rfl, c, _, 100000, rfl, by omega, by omega, by decide, fun k3 k30 k31 => ?_⟩
    refine ⟨k3, rfl, fun c3 c30 c31 H3 s3 => ⟨Nat.le_of_ble_eq_true rfl, fun t ht => ?_⟩⟩
    have el3 := s3 _ _ el2
    have tn := Tups.new (o := .tup [v1, v2, .int c3]) ht
    have el4 : upd H3 t (.tup [v1, v2, .int c3]) l = some (.lst acc) := by rw [upd_ne (ne_p el3 ht)]; exact el3
    have la := il.length
    refine ⟨l, acc, .ref t, rfl, rfl, el4, small1000 (by omega), ?_, acc ++ [.ref t], ds ++ [.tup [d1, d2, .int c3]], _, _, _, upd_same, ?_, by simp [ln], fun d hd => ?_, rfl⟩
    · exact Same.new (Same.new (sm.trans (s1.trans (s2.trans s3))) (none_of_same (sm.trans (s1.trans (s2.trans s3))) ht)) hl
    · have tl := Tups.lst (ys := acc ++ [.ref t]) el4
      refine IsL.append ((((il.mono (s1.trans (s2.trans s3)).tups).mono tn).mono tl)) (isl_cons ?_ isl_nil)
      have et : upd (upd H3 t (.tup [v1, v2, .int c3])) l (.lst (acc ++ [.ref t])) t = some (.tup [v1, v2, .int c3]) := by rw [upd_ne (ne_p el3 ht).symm]; exact upd_same
      exact is_tup (SqT.of et) (isl_cons ((((is1.mono (s2.trans s3).tups).mono tn).mono tl)) (isl_cons (((is2.mono s3.tups).mono tn).mono tl) (isl_cons is_int isl_nil)))
    · rcases List.mem_append.mp hd with hd | hd
      · exact hb d hd
      · rw [List.mem_singleton.mp hd]
        exact ⟨d1, d2, c3, nd1, nd2, c30, c31, rfl⟩
  · obtain ⟨sm, acc, ds, y6, y8, y9, el, il, ln, hb, rfl⟩ := h
    refine ⟨_, rfl, _, _, rfl, rfl, _, rfl, _, _, rfl, rfl, ?_⟩
    refine ⟨_, rfl, l, acc, rfl, .inl ⟨SqL.of el, fun t2 ht2 => ?_⟩⟩
    refine ⟨_, rfl, _, _, rfl, rfl, _, rfl, _, rfl, c, 33, _, rfl, by decide, by decide, by omega, fun k1 k10 k11 => ⟨_, _, rfl, rfl, ?_⟩⟩
    refine ⟨_, rfl, _, _, rfl, rfl, _, rfl, _, rfl, c, 34, _, rfl, by decide, by decide, by omega, fun k2 k20 k21 => ⟨_, _, rfl, rfl, Nat.le_of_ble_eq_true rfl, fun t3 ht3 => ?_⟩⟩
    have tn2 := Tups.new (o := .tup acc) ht2
    have tn3 := Tups.new (o := .tup [.str "ask", .ref t2, .int (at_ + 1 + k1), .int (at_ + 1 + k2)]) ht3
    refine q (.tup [.str "ask", .tup ds, .int (at_ + 1 + k1), .int (at_ + 1 + k2)]) _ _ ⟨ds, _, _, rfl, by omega, by omega, hb, by omega, by omega, by omega, by omega⟩ (sm.trans ((same_new ht2 _).trans (same_new ht3 _))) ?_
    exact is_tup (SqT.of upd_same) (isl_cons is_str (isl_cons ((is_tup (SqT.of upd_same) (il.mono tn2)).mono tn3) (isl_cons is_int (isl_cons is_int isl_nil))))
end
end K25
set_option Elab.async false
set_option linter.all false
set_option maxRecDepth 100000
set_option maxHeartbeats 4000000
namespace K25
open PySem PySem.Spec PyProof.Rows L2
noncomputable abbrev s_plain : Stmt := top 19
noncomputable abbrev s_line : Stmt := top 20
theorem maybe_is {n : Int} {v : V} (h : MaybeV n v) : ∃ d, MaybeD n d ∧ ∀ (K : PySem.W.Frag) (H : Hp), Is K H d v := by
  rcases h with rfl | ⟨i, h0, h1, rfl⟩
  · exact ⟨.non, .inl rfl, fun _ _ => is_non⟩
  · exact ⟨.int i, .inr ⟨i, h0, h1, rfl⟩, fun _ _ => is_int⟩
theorem in2 {x a b : Str} : inV (.str x) [.str a, .str b] = true ↔ x = a ∨ x = b := by
  show (([V.str a, V.str b]).any fun y => eqV y (.str x)) = true ↔ _
  simp only [List.any_cons, List.any_nil, Bool.or_false, Bool.or_eq_true]
  show (a == x) = true ∨ (b == x) = true ↔ _
  simp only [beq_iff_eq]
  constructor
  · rintro (h | h); exact .inl h.symm; exact .inr h.symm
  · rintro (h | h); exact .inl h.symm; exact .inr h.symm
theorem and_pure {t u : TT} {σ : L2.St} {H : Hp} {Q : Bool → Hp → Prop} (b1 b2 : Bool) (ht : ∀ Q' : Bool → Hp → Prop, Q' b1 H → t σ H Q') (hu : b1 = true → ∀ Q' : Bool → Hp → Prop, Q' b2 H → u σ H Q') (h : Q (b1 && b2) H) : tAnd t u σ H Q := by
  refine ht _ ?_
  cases b1 with
  | true => rw [if_pos rfl]; exact hu rfl _ (by simpa using h)
  | false => rw [if_neg Bool.false_ne_true]; simpa using h
theorem or_same {t u : TT} {σ : L2.St} {H : Hp} {Q : Bool → Hp → Prop} (b1 : Bool) (φ : Prop) (ht : ∀ Q' : Bool → Hp → Prop, Q' b1 H → t σ H Q') (hu : b1 = false → ∀ Q' : Bool → Hp → Prop, (∀ H' b2, Same H H' → (b2 = true ↔ φ) → Q' b2 H') → u σ H Q')
    (h : ∀ b H', Same H H' → (b = true ↔ (b1 = true ∨ φ)) → Q b H') : tOr t u σ H Q := by
  refine ht _ ?_
  cases b1 with
  | true => rw [if_pos rfl]; exact h _ _ (Same.refl H) (by simp)
  | false => rw [if_neg Bool.false_ne_true]; exact hu rfl _ fun H' b2 s2 e => h b2 H' s2 (by simp [e])
noncomputable def spPlain (K : PySem.W.Frag) : Sp := fun vs H Q _ => ExQ Q (fun (wd : Str) Q => ExQ Q (fun (c : Int) Q => ExQ Q (fun (names : Int) Q => ExQ Q (fun (rows : Int) Q => ExQ Q (fun (goal : Int) Q => ExQ Q (fun (at_ : Int) Q => ExQ Q (fun (many : Int) Q => vs = [.str wd, .int c, .int names, .int rows, .int goal] ∧ 0 < names ∧ 0 ≤ goal ∧ goal < many ∧
  (wd = "set" ∨ wd = "sum" ∨ wd = "take" ∨ wd = "tell" ∨ (0 < rows ∧ (wd = "len" ∨ wd = "get" ∨ wd = "put"))) ∧ ∀ (d : D) (v : V) (H' : Hp), LineD names rows at_ many d → Same H H' → Is K H' d v → Q v H')))))))
noncomputable def spLine (K : PySem.W.Frag) : Sp := fun vs H Q _ => ExQ Q (fun (c : Int) Q => ExQ Q (fun (names : Int) Q => ExQ Q (fun (rows : Int) Q => ExQ Q (fun (at_ : Int) Q => ExQ Q (fun (many : Int) Q => vs = [.int c, .int names, .int rows, .int at_, .int many] ∧ 0 ≤ names ∧ names ≤ 100 ∧ 0 ≤ rows ∧ rows ≤ 100 ∧ 0 ≤ at_ ∧ 0 < many ∧
  ∀ (d : D) (v : V) (H' : Hp), LineD names rows at_ many d → Same H H' → Is K H' d v → Q v H')))))
section
variable {P : Program} {w : World} {K : PySem.W.Frag} {mg : Str → Option Value} {base : Heap} {f : Addr} {fd : FuncData} {n : Nat}
theorem sc_plain : FnScope ["_law_word", "_law_cell_here", "_law_names", "_law_rows", "_law_goal", "_law_x", "_law_number_here", "_law_maybe_here", "_law_other", "_law_row"] ["_law_word", "_law_cell_here", "_law_names", "_law_rows", "_law_goal"] (defScope s_plain) := ⟨rfl, rfl, rfl, by decide +kernel, rfl, by decide +kernel, by decide +kernel⟩
theorem sc_line : FnScope ["_law_cell_here", "_law_names", "_law_rows", "_law_at_here", "_law_many", "_law_words", "_law_word", "_law_goal", "_law_first", "_law_last"] ["_law_cell_here", "_law_names", "_law_rows", "_law_at_here", "_law_many"] (defScope s_line) := ⟨rfl, rfl, rfl, by decide +kernel, rfl, by decide +kernel, by decide +kernel⟩

theorem ok_plain (F : Fun K "_law_plain" "_law_plain" s_plain f fd) (c_law_pick : Cl P w K mg base "_law_pick" n ["_law_cell_here", "_law_k", "_law_many"] spPick) (c_law_number : Cl P w K mg base "_law_number" n ["_law_cell_here"] spNumber)
    (c_law_maybe : Cl P w K mg base "_law_maybe" n ["_law_cell_here", "_law_names"] spMaybe) : FnOk P w K mg base CX0 (n + 1) f fd ["_law_word", "_law_cell_here", "_law_names", "_law_rows", "_law_goal"] (spPlain K) := by
  refine F.ok sc_plain (fun vs H Q E h => ?_) (fun cdv A outer s H vs Q E hr h => ?_)
  · obtain ⟨wd, c, names, rows, goal, at_, many, rfl, _⟩ := h
    rfl
  obtain ⟨wd, c, names, rows, goal, at_, many, rfl, n0, g0, g1, hw, q⟩ := h
  have sc := sc_plain
  refine ⟨_, (@pss_cons _ _ _ _ _ (ps_set (i := 5) sc.nd rfl (Or.inl rfl) (pe_cl c_law_pick hr rfl (pa_cons (pv 1) (pa_cons pe_int (pa_cons (pv 2) pa_nil)))))
      (@pss_cons _ _ _ _ _ (ps_set (i := 6) sc.nd rfl (Or.inl rfl) (pe_cl c_law_number hr rfl (pa_cons (pe_cl c_law_pick hr rfl (pa_cons (pv 1) (pa_cons pe_int (pa_cons pe_int pa_nil)))) pa_nil)))
      (@pss_cons _ _ _ _ _ (ps_set (i := 7) sc.nd rfl (Or.inl rfl) (pe_cl c_law_maybe hr rfl (pa_cons (pe_cl c_law_pick hr rfl (pa_cons (pv 1) (pa_cons pe_int (pa_cons pe_int pa_nil)))) (pa_cons (pv 2) pa_nil))))
      (@pss_cons _ _ _ _ _ (ps_set (i := 8) sc.nd rfl (Or.inl rfl) (pe_cl c_law_pick hr rfl (pa_cons (pv 1) (pa_cons pe_int (pa_cons (pv 2) pa_nil)))))
      (@pss_cons _ _ _ _ _ (ps_if (pt_cmpR op_eq (pv 0) pe_str (nomark _)) (pss_one (ps_ret (pe_tup (pa_cons (pv 0) (pa_cons (pv 5) (pa_cons (pv 7) (pa_cons (pv 6) (pa_cons (pv 4) pa_nil)))))))) pss_nil)
      (@pss_cons _ _ _ _ _ (ps_if (pt_cmpR op_eq (pv 0) pe_str (nomark _)) (pss_one (ps_ret (pe_tup (pa_cons (pv 0) (pa_cons (pv 5) (pa_cons (pv 8) (pa_cons (pv 7) (pa_cons (pv 4) pa_nil)))))))) pss_nil)
      (@pss_cons _ _ _ _ _ (ps_if (pt_cmpR op_in_seq (pv 0) (pe_tup (pa_consts rfl)) (by with_unfolding_all rfl)) (pss_one (ps_ret (pe_tup (pa_cons (pv 0) (pa_cons (pv 5) (pa_cons (pv 4) pa_nil)))))) pss_nil)
      (@pss_cons _ _ _ _ _ (ps_set (i := 9) sc.nd rfl (Or.inl rfl) (pe_cl c_law_pick hr rfl (pa_cons (pv 1) (pa_cons pe_int (pa_cons (pv 3) pa_nil)))))
      (@pss_cons _ _ _ _ _ (ps_if (pt_cmpR op_eq (pv 0) pe_str (nomark _)) (pss_one (ps_ret (pe_tup (pa_cons (pv 0) (pa_cons (pv 5) (pa_cons (pv 9) (pa_cons (pv 4) pa_nil))))))) pss_nil)
      (@pss_cons _ _ _ _ _ (ps_if (pt_cmpR op_eq (pv 0) pe_str (nomark _)) (pss_one (ps_ret (pe_tup (pa_cons (pv 0) (pa_cons (pv 5) (pa_cons (pv 9) (pa_cons (pv 7) (pa_cons (pv 6) (pa_cons (pv 4) pa_nil))))))))) pss_nil)
      (pss_one (ps_ret (pe_tup (pa_cons (pv 0) (pa_cons (pv 9) (pa_cons (pv 7) (pa_cons (pv 6) (pa_cons (pv 5) (pa_cons (pv 4) pa_nil))))))))))))))))))), ?_⟩
  refine ⟨_, rfl, _, rfl, c, 2, names, rfl, by decide, by decide, n0, fun x x0 x1 => ?_⟩
  refine ⟨_, rfl, c, 3, 100000, rfl, by decide, by decide, by decide, fun k3 _ _ => ⟨k3, rfl, fun cn cn0 cn1 H1 s1 => ?_⟩⟩
  refine ⟨_, rfl, c, 4, 1000, rfl, by decide, by decide, by decide, fun k4 _ _ => ⟨_, rfl, k4, names, rfl, by omega, fun y hy => ?_⟩⟩
  refine ⟨_, rfl, _, rfl, c, 5, names, rfl, by decide, by decide, n0, fun z z0 z1 => ?_⟩
  obtain ⟨yd, yD, yis⟩ := maybe_is hy
  refine ⟨_, rfl, rfl, _, rfl, ite2 (fun cc => ?_) (fun cc => ?_)⟩
  · have e := str_t cc
    subst e
    refine ⟨_, rfl, _, rfl, _, rfl, _, rfl, _, rfl, Nat.le_of_ble_eq_true rfl, fun t ht => ?_⟩
    exact q _ _ _ (.set x cn goal yd x0 x1 yD cn0 cn1 g0 g1) (s1.trans (same_new ht _)) (is_tup (SqT.of upd_same) (isl_cons is_str (isl_cons is_int (isl_cons (yis _ _) (isl_cons is_int (isl_cons is_int isl_nil))))))
  have w1 := str_f cc
  refine ⟨_, rfl, rfl, _, rfl, ite2 (fun cc => ?_) (fun cc => ?_)⟩
  · have e := str_t cc
    subst e
    refine ⟨_, rfl, _, rfl, _, rfl, _, rfl, _, rfl, Nat.le_of_ble_eq_true rfl, fun t ht => ?_⟩
    exact q _ _ _ (.sum x z goal yd x0 x1 z0 z1 yD g0 g1) (s1.trans (same_new ht _)) (is_tup (SqT.of upd_same) (isl_cons is_str (isl_cons is_int (isl_cons is_int (isl_cons (yis _ _) (isl_cons is_int isl_nil))))))
  have w2 := str_f cc
  refine ⟨_, rfl, Nat.le_of_ble_eq_true rfl, fun t2 ht2 => ⟨t2, _, rfl, .inr (SqT.of upd_same), rfl, rfl, _, rfl, ite2 (fun cc => ?_) (fun cc => ?_)⟩⟩
  · have cc' : inV (.str wd) [.str "take", .str "tell"] = true := cc
    refine ⟨_, rfl, _, rfl, _, rfl, Nat.le_of_ble_eq_true rfl, fun t ht => ?_⟩
    rcases in2.mp cc' with e | e
    · subst e
      exact q _ _ _ (.take x goal x0 x1 g0 g1) (s1.trans ((same_new ht2 _).trans (same_new ht _))) (is_tup (SqT.of upd_same) (isl_cons is_str (isl_cons is_int (isl_cons is_int isl_nil))))
    · subst e
      exact q _ _ _ (.tell x goal x0 x1 g0 g1) (s1.trans ((same_new ht2 _).trans (same_new ht _))) (is_tup (SqT.of upd_same) (isl_cons is_str (isl_cons is_int (isl_cons is_int isl_nil))))
  have cc' : ¬ inV (.str wd) [.str "take", .str "tell"] = true := cc
  have w3 : ¬ (wd = "take" ∨ wd = "tell") := fun e => cc' (in2.mpr e)
  have hw' : 0 < rows ∧ (wd = "len" ∨ wd = "get" ∨ wd = "put") := by
    rcases hw with e | e | e | e | e
    · exact absurd e w1
    · exact absurd e w2
    · exact absurd (.inl e) w3
    · exact absurd (.inr e) w3
    · exact e
  have s2 := s1.trans (same_new ht2 (.tup [.str "take", .str "tell"]))
  refine ⟨_, rfl, _, rfl, c, 6, rows, rfl, by decide, by decide, hw'.1, fun r r0 r1 => ?_⟩
  refine ⟨_, rfl, rfl, _, rfl, ite2 (fun cc => ?_) (fun cc => ?_)⟩
  · have e := str_t cc
    subst e
    refine ⟨_, rfl, _, rfl, _, rfl, _, rfl, Nat.le_of_ble_eq_true rfl, fun t ht => ?_⟩
    exact q _ _ _ (.len x r goal x0 x1 r0 r1 g0 g1) (s2.trans (same_new ht _)) (is_tup (SqT.of upd_same) (isl_cons is_str (isl_cons is_int (isl_cons is_int (isl_cons is_int isl_nil)))))
  have w4 := str_f cc
  refine ⟨_, rfl, rfl, _, rfl, ite2 (fun cc => ?_) (fun cc => ?_)⟩
  · have e := str_t cc
    subst e
    refine ⟨_, rfl, _, rfl, _, rfl, _, rfl, _, rfl, _, rfl, Nat.le_of_ble_eq_true rfl, fun t ht => ?_⟩
    exact q _ _ _ (.get x r cn goal yd x0 x1 r0 r1 yD cn0 cn1 g0 g1) (s2.trans (same_new ht _)) (is_tup (SqT.of upd_same) (isl_cons is_str (isl_cons is_int (isl_cons is_int (isl_cons (yis _ _) (isl_cons is_int (isl_cons is_int isl_nil)))))))
  have w5 := str_f cc
  have e : wd = "put" := by
    rcases hw'.2 with e | e | e
    · exact absurd e w4
    · exact absurd e w5
    · exact e
  subst e
  refine ⟨_, rfl, _, rfl, _, rfl, _, rfl, _, rfl, _, rfl, Nat.le_of_ble_eq_true rfl, fun t ht => ?_⟩
  exact q _ _ _ (.put r cn x goal yd r0 r1 yD cn0 cn1 x0 x1 g0 g1) (s2.trans (same_new ht _)) (is_tup (SqT.of upd_same) (isl_cons is_str (isl_cons is_int (isl_cons (yis _ _) (isl_cons is_int (isl_cons is_int (isl_cons is_int isl_nil)))))))

theorem word_at {m i rows : Int} (h0 : 0 ≤ i) (h1 : i < m) (hm : m = if 0 < rows then 12 else 7) : ∃ wd : Str, atI [V.str "set", .str "sum", .str "take", .str "tell", .str "test", .str "ask", .str "end", .str "len", .str "get", .str "put", .str "get", .str "put"] i = some (.str wd) ∧
    (wd = "set" ∨ wd = "sum" ∨ wd = "take" ∨ wd = "tell" ∨ wd = "test" ∨ wd = "ask" ∨ wd = "end" ∨ (0 < rows ∧ (wd = "len" ∨ wd = "get" ∨ wd = "put"))) := by
  have hi : i = 0 ∨ i = 1 ∨ i = 2 ∨ i = 3 ∨ i = 4 ∨ i = 5 ∨ i = 6 ∨ (0 < rows ∧ (i = 7 ∨ i = 8 ∨ i = 9 ∨ i = 10 ∨ i = 11)) := by
    by_cases hr : 0 < rows
    · rw [if_pos hr] at hm; omega
    · rw [if_neg hr] at hm; omega
  rcases hi with rfl | rfl | rfl | rfl | rfl | rfl | rfl | ⟨hr, rfl | rfl | rfl | rfl | rfl⟩
  · exact ⟨"set", rfl, .inl rfl⟩
  · exact ⟨"sum", rfl, .inr (.inl rfl)⟩
  · exact ⟨"take", rfl, .inr (.inr (.inl rfl))⟩
  · exact ⟨"tell", rfl, .inr (.inr (.inr (.inl rfl)))⟩
  · exact ⟨"test", rfl, .inr (.inr (.inr (.inr (.inl rfl))))⟩
  · exact ⟨"ask", rfl, .inr (.inr (.inr (.inr (.inr (.inl rfl)))))⟩
  · exact ⟨"end", rfl, .inr (.inr (.inr (.inr (.inr (.inr (.inl rfl))))))⟩
  · exact ⟨"len", rfl, .inr (.inr (.inr (.inr (.inr (.inr (.inr ⟨hr, .inl rfl⟩))))))⟩
  · exact ⟨"get", rfl, .inr (.inr (.inr (.inr (.inr (.inr (.inr ⟨hr, .inr (.inl rfl)⟩))))))⟩
  · exact ⟨"put", rfl, .inr (.inr (.inr (.inr (.inr (.inr (.inr ⟨hr, .inr (.inr rfl)⟩))))))⟩
  · exact ⟨"get", rfl, .inr (.inr (.inr (.inr (.inr (.inr (.inr ⟨hr, .inr (.inl rfl)⟩))))))⟩
  · exact ⟨"put", rfl, .inr (.inr (.inr (.inr (.inr (.inr (.inr ⟨hr, .inr (.inr rfl)⟩))))))⟩

theorem ok_line (F : Fun K "_law_line" "_law_line" s_line f fd) (m_int : mg "int" = none) (c_law_pick : Cl P w K mg base "_law_pick" n ["_law_cell_here", "_law_k", "_law_many"] spPick) (c_law_number : Cl P w K mg base "_law_number" n ["_law_cell_here"] spNumber)
    (c_law_maybe : Cl P w K mg base "_law_maybe" n ["_law_cell_here", "_law_names"] spMaybe) (c_law_ask : Cl P w K mg base "_law_ask" n ["_law_cell_here", "_law_names", "_law_rows", "_law_at_here", "_law_many"] (spAsk K)) (c_law_plain : Cl P w K mg base "_law_plain" n ["_law_word", "_law_cell_here", "_law_names", "_law_rows", "_law_goal"] (spPlain K)) :
    FnOk P w K mg base CX0 (n + 1) f fd ["_law_cell_here", "_law_names", "_law_rows", "_law_at_here", "_law_many"] (spLine K) := by
  refine F.ok sc_line (fun vs H Q E h => ?_) (fun cdv A outer s H vs Q E hr h => ?_)
  · obtain ⟨c, names, rows, at_, many, rfl, _⟩ := h
    rfl
  obtain ⟨c, names, rows, at_, many, rfl, n0, n1, r0, r1, a0, m0, q⟩ := h
  have sc := sc_line
  refine ⟨_, (@pss_cons _ _ _ _ _ (@ps_set _ _ 5 _ _ _ _ sc.nd rfl (Or.inl rfl) (@pe_lst _ _ _ _ (@pa_consts _ _ _ rfl)) rfl (by first | exact .inl rfl | exact .inr rfl))
      (@pss_cons _ _ _ _ _ (ps_set (i := 6) sc.nd rfl (Or.inl rfl) (pe_ix ix_list (pv 5) (pe_cl c_law_pick hr rfl (pa_cons (pv 0) (pa_cons pe_int (pa_cons (pe_ix ix_list (pe_lst (pa_consts rfl)) (pe_callTy call_int1 rfl m_int PyProof.Rows.boot_int (pa_cons (pe_cmpR op_gt (pv 2) pe_int (nomark _)) pa_nil)) (fun _ _ => rfl)) pa_nil)))) (fun _ _ => rfl)))
      (@pss_cons _ _ _ _ _ (ps_set (i := 7) sc.nd rfl (Or.inl rfl) (pe_cl c_law_pick hr rfl (pa_cons (pv 0) (pa_cons pe_int (pa_cons (pv 4) pa_nil)))))
      (@pss_cons _ _ _ _ _ (ps_if (PW.pt (pw_and (pt_cmpR op_eq (pv 6) pe_str (nomark _)) (pw_and1 (pt_cmpR op_lt (pe_op op_add (pv 3) pe_int) (pv 4) (nomark _))))) (pss_one (ps_ret (pe_cl c_law_ask hr rfl (pa_cons (pv 0) (pa_cons (pv 1) (pa_cons (pv 2) (pa_cons (pv 3) (pa_cons (pv 4) pa_nil)))))))) pss_nil)
      (@pss_cons _ _ _ _ _ (ps_if (pt_cmpR op_eq (pv 6) pe_str (nomark _)) (pss_one (ps_ret (pe_tup (pa_cons pe_str pa_nil)))) pss_nil)
      (@pss_cons _ _ _ _ _ (ps_if (PW.pt (pw_or (pt_cmpR op_eq (pv 1) pe_int (nomark _)) (pw_or1 (pt_cmpR op_in_seq (pv 6) (pe_tup (pa_consts rfl)) (by with_unfolding_all rfl))))) (@pss_cons _ _ _ _ _ (ps_set (i := 8) sc.nd rfl (Or.inl rfl) (pe_cl c_law_maybe hr rfl (pa_cons (pe_cl c_law_pick hr rfl (pa_cons (pv 0) (pa_cons pe_int (pa_cons pe_int pa_nil)))) (pa_cons (pv 1) pa_nil))))
      (@pss_cons _ _ _ _ _ (ps_set (i := 9) sc.nd rfl (Or.inl rfl) (pe_cl c_law_maybe hr rfl (pa_cons (pe_cl c_law_pick hr rfl (pa_cons (pv 0) (pa_cons pe_int (pa_cons pe_int pa_nil)))) (pa_cons (pv 1) pa_nil))))
      (pss_one (ps_ret (pe_tup (pa_cons pe_str (pa_cons (pv 8) (pa_cons (pv 9) (pa_cons (pe_cl c_law_number hr rfl (pa_cons (pe_cl c_law_pick hr rfl (pa_cons (pv 0) (pa_cons pe_int (pa_cons pe_int pa_nil)))) pa_nil)) (pa_cons (pv 7) (pa_cons (pe_cl c_law_pick hr rfl (pa_cons (pv 0) (pa_cons pe_int (pa_cons (pv 4) pa_nil)))) pa_nil))))))))))) pss_nil)
      (pss_one (ps_ret (pe_cl c_law_plain hr rfl (pa_cons (pv 6) (pa_cons (pv 0) (pa_cons (pv 1) (pa_cons (pv 2) (pa_cons (pv 7) pa_nil)))))))))))))), ?_⟩
  refine ⟨Nat.le_of_ble_eq_true rfl, fun l hl => ?_⟩
  refine ⟨_, rfl, _, rfl, Nat.le_of_ble_eq_true rfl, fun l2 hl2 => ⟨_, rfl, _, _, rfl, rfl, .inr ⟨_, rfl, ?_⟩⟩⟩
  have e1 : atI [V.int 7, .int 12] (if decide (0 < rows) = true then 1 else 0) = some (.int (if 0 < rows then 12 else 7)) := by
    by_cases hr : 0 < rows
    · rw [if_pos (decide_eq_true hr), if_pos hr]; rfl
    · rw [if_neg (by simpa using hr), if_neg hr]; rfl
  refine ⟨l2, _, _, _, rfl, rfl, SqL.of upd_same, e1, ?_⟩
  refine ⟨c, 1, _, rfl, by decide, by decide, by split <;> decide, fun i i0 i1 => ?_⟩
  obtain ⟨wd, ew, hw⟩ := word_at i0 i1 rfl
  have el : upd (upd H l (.lst [V.str "set", .str "sum", .str "take", .str "tell", .str "test", .str "ask", .str "end", .str "len", .str "get", .str "put", .str "get", .str "put"])) l2 (.lst [V.int 7, .int 12]) l = some (.lst [V.str "set", .str "sum", .str "take", .str "tell", .str "test", .str "ask", .str "end", .str "len", .str "get", .str "put", .str "get", .str "put"]) := by
    rw [upd_ne (ne_p upd_same hl2)]; exact upd_same
  refine ⟨l, _, i, _, rfl, rfl, SqL.of el, ew, ?_⟩
  have s1 : Same H (upd (upd H l (.lst [V.str "set", .str "sum", .str "take", .str "tell", .str "test", .str "ask", .str "end", .str "len", .str "get", .str "put", .str "get", .str "put"])) l2 (.lst [V.int 7, .int 12])) := (same_new hl _).trans (same_new hl2 _)
  generalize upd (upd H l (.lst [V.str "set", .str "sum", .str "take", .str "tell", .str "test", .str "ask", .str "end", .str "len", .str "get", .str "put", .str "get", .str "put"])) l2 (.lst [V.int 7, .int 12]) = H1 at s1
  refine ⟨_, rfl, _, rfl, c, 7, many, rfl, by decide, by decide, m0, fun g g0 g1 => ?_⟩
  dsimp only [gName, tSeq, tIfS]
  refine and_pure (decide (V.str wd = V.str "ask")) (decide (at_ + 1 < many)) (fun Q' h => ⟨_, rfl, rfl, _, rfl, h⟩) (fun _ Q' h => ⟨_, rfl, _, _, rfl, rfl, _, rfl, _, _, rfl, rfl, _, rfl, h⟩) (ite2 (fun cc => ?_) (fun cc => ?_))
  · rw [Bool.and_eq_true] at cc
    have cc' := of_decide_eq_true cc.2
    exact ⟨_, rfl, _, rfl, _, rfl, _, rfl, _, rfl, c, names, rows, at_, many, rfl, n0, n1, r0, r1, a0, cc', fun d v H2 ld s2 is2 => q d v H2 ld.line (s1.trans s2) is2⟩
  refine ⟨_, rfl, rfl, _, rfl, ite2 (fun ce => ?_) (fun ce => ?_)⟩
  · refine ⟨Nat.le_of_ble_eq_true rfl, fun t ht => ?_⟩
    exact q _ _ _ .end_ (s1.trans (same_new ht _)) (is_tup (SqT.of upd_same) (isl_cons is_str isl_nil))
  have we := str_f ce
  dsimp only [gName, tSeq, tIfS, tNext]
  refine or_same (decide (V.int names = V.int 0)) (wd = "test" ∨ wd = "ask") (fun Q' h => ⟨_, rfl, rfl, _, rfl, h⟩) (fun _ Q' h => ⟨_, rfl, Nat.le_of_ble_eq_true rfl, fun t2 ht2 => ⟨t2, _, rfl, .inr (SqT.of upd_same), rfl, rfl, _, rfl, h _ _ (same_new ht2 _) in2⟩⟩) (fun b H2 s2 hb => ite2 (fun cc => ?_) (fun cc => ?_))
  · refine ⟨_, rfl, c, 8, 1000, rfl, by decide, by decide, by decide, fun k1 _ _ => ⟨_, rfl, k1, names, rfl, n0, fun y hy => ?_⟩⟩
    refine ⟨_, rfl, c, 9, 1000, rfl, by decide, by decide, by decide, fun k2 _ _ => ⟨_, rfl, k2, names, rfl, n0, fun y2 hy2 => ?_⟩⟩
    obtain ⟨yd, yD, yis⟩ := maybe_is hy
    obtain ⟨zd, zD, zis⟩ := maybe_is hy2
    refine ⟨_, rfl, _, rfl, _, rfl, c, 3, 100000, rfl, by decide, by decide, by decide, fun k3 _ _ => ⟨k3, rfl, fun cn cn0 cn1 H3 s3 => ?_⟩⟩
    refine ⟨_, rfl, _, rfl, _, rfl, c, 10, many, rfl, by decide, by decide, m0, fun m m00 m1 => ⟨Nat.le_of_ble_eq_true rfl, fun t ht => ?_⟩⟩
    exact q _ _ _ (.test yd zd cn g m yD zD cn0 cn1 g0 g1 m00 m1) (s1.trans (s2.trans (s3.trans (same_new ht _)))) (is_tup (SqT.of upd_same) (isl_cons is_str (isl_cons (yis _ _) (isl_cons (zis _ _) (isl_cons is_int (isl_cons is_int (isl_cons is_int isl_nil)))))))
  · have hn : ¬ (decide (V.int names = V.int 0) = true ∨ wd = "test" ∨ wd = "ask") := fun e => cc (hb.mpr e)
    have nn : names ≠ 0 := fun e => hn (.inl (decide_eq_true (by rw [e])))
    refine ⟨_, rfl, _, rfl, _, rfl, _, rfl, _, rfl, wd, c, names, rows, g, at_, many, rfl, by omega, g0, g1, ?_, fun d v H3 ld s3 is3 => q d v H3 ld (s1.trans (s2.trans s3)) is3⟩
    rcases hw with e | e | e | e | e | e | e | e
    · exact .inl e
    · exact .inr (.inl e)
    · exact .inr (.inr (.inl e))
    · exact .inr (.inr (.inr (.inl e)))
    · exact absurd (.inr (.inl e)) hn
    · exact absurd (.inr (.inr e)) hn
    · exact absurd e we
    · exact .inr (.inr (.inr (.inr e)))
end
end K25
set_option Elab.async false
set_option linter.all false
set_option maxRecDepth 100000
set_option maxHeartbeats 4000000
namespace K25
open PySem PySem.Spec PyProof.Rows L2
noncomputable abbrev s_thing : Stmt := top 21
noncomputable abbrev s_rows_by : Stmt := top 22
noncomputable abbrev s_taken_by : Stmt := top 23
theorem sc_thing : FnScope ["_law_cell_here"] ["_law_cell_here"] (defScope s_thing) := ⟨rfl, rfl, rfl, by decide +kernel, rfl, by decide +kernel, by decide +kernel⟩
theorem sc_rows_by : FnScope ["_law_script", "_law_at_here", "_law_rows", "_law_found", "_law_r", "_law_cell_here", "_law_many"] ["_law_script", "_law_at_here", "_law_rows"] (defScope s_rows_by) := ⟨rfl, rfl, rfl, by decide +kernel, rfl, by decide +kernel, by decide +kernel⟩
theorem sc_taken_by : FnScope ["_law_script", "_law_at_here", "_law_cell_here", "_law_many"] ["_law_script", "_law_at_here"] (defScope s_taken_by) := ⟨rfl, rfl, rfl, by decide +kernel, rfl, by decide +kernel, by decide +kernel⟩
noncomputable def spThing : Sp := fun vs H Q _ => ExQ Q (fun (c : Int) Q => vs = [.int c] ∧ ∀ (i : Int) H', Same H H' → Q (.int i) H')
noncomputable def spRowsBy (K : PySem.W.Frag) : Sp := fun vs H Q _ => ExQ Q (fun (a : Addr) Q => ExQ Q (fun (ns : List Int) Q => ExQ Q (fun (at_ : Int) Q => ExQ Q (fun (n : Nat) Q => vs = [.ref a, .int at_, .int (n : Int)] ∧ SqL K H a (ns.map V.int) ∧ ns.length ≤ 63 ∧ 0 ≤ at_ ∧ at_ ≤ 50 ∧ n ≤ 10 ∧
  ∀ H' p rs rows, Same H H' → RowsAt H' p rs rows → (∀ b ∈ p :: rs, H b = none) → rows.length = n → (∀ r ∈ rows, r.length ≤ 100) → Q (.ref p) H'))))
noncomputable def spTakenBy (K : PySem.W.Frag) : Sp := fun vs H Q _ => ExQ Q (fun (a : Addr) Q => ExQ Q (fun (ns : List Int) Q => ExQ Q (fun (at_ : Int) Q => vs = [.ref a, .int at_] ∧ SqL K H a (ns.map V.int) ∧ ns.length ≤ 63 ∧ 0 ≤ at_ ∧ at_ ≤ 50 ∧
  ∀ H' p l, Same H H' → H' p = some (.lst (intsV l)) → H p = none → l.length ≤ 100 → Q (.ref p) H')))
theorem many_at {c : Int} {m : Nat} {b : Bool} {x y : Int} (hx : 0 ≤ x ∧ x ≤ m) (hy : 0 ≤ y ∧ y ≤ m) : ∃ k : Nat, atI [V.int x, .int y] (if b then 1 else 0) = some (.int (k : Int)) ∧ k ≤ m := by
  cases b with
  | true => exact ⟨y.toNat, by rw [Int.toNat_of_nonneg hy.1]; rfl, by omega⟩
  | false => exact ⟨x.toNat, by rw [Int.toNat_of_nonneg hx.1]; rfl, by omega⟩
section
variable {P : Program} {w : World} {K : PySem.W.Frag} {mg : Str → Option Value} {base : Heap} {f : Addr} {fd : FuncData} {n : Nat} {C : Addr}
theorem three_at {a b c : V} {i : Int} (h0 : 0 ≤ i) (h3 : i < 3) : ∃ v, atI [a, b, c] i = some v ∧ (v = a ∨ v = b ∨ v = c) := by
  have : i = 0 ∨ i = 1 ∨ i = 2 := by omega
  rcases this with rfl | rfl | rfl
  · exact ⟨a, rfl, .inl rfl⟩
  · exact ⟨b, rfl, .inr (.inl rfl)⟩
  · exact ⟨c, rfl, .inr (.inr rfl)⟩
theorem ok_thing (F : Fun K "_law_thing" "_law_thing" s_thing f fd) : FnOk P w K mg base CX0 (n + 1) f fd ["_law_cell_here"] spThing := by
  refine F.ok sc_thing (fun vs H Q E h => ?_) (fun cdv A outer s H vs Q E hr h => ?_)
  · obtain ⟨c, rfl, _⟩ := h
    rfl
  obtain ⟨c, rfl, q⟩ := h
  have sc := sc_thing
  refine ⟨_, (pss_one (ps_ret (pe_ix ix_list (pe_lst (pa_cons (pe_op op_sub (pe_op op_mod (pv 0) pe_int) pe_int) (pa_cons (pe_op op_sub (pe_op op_mod (pv 0) (pe_op op_add (pe_op op_mul pe_int (pe_op op_pow pe_int pe_int)) pe_int)) (pe_op op_pow pe_int pe_int)) (pa_cons (pe_op op_sub (pe_op op_pow pe_int pe_int) (pe_op op_mod (pv 0) pe_int)) pa_nil)))) (pe_op op_mod (pe_op op_fdiv (pv 0) pe_int) pe_int) (fun _ _ => rfl)))), ?_⟩
  have e18 : (10 : Int) ^ (18 : Int).toNat = 1000000000000000000 := by decide
  refine ⟨_, rfl, _, _, rfl, rfl, by show (0 : Int) < 7; decide, _, _, rfl, rfl, _, rfl, _, _, rfl, rfl, ⟨by decide, by decide, by decide⟩, _, _, rfl, rfl, .inl ⟨by decide, by decide⟩, _, _, rfl, rfl, _, _, rfl, rfl, (by show (0 : Int) < 2 * (10 : Int) ^ (18 : Int).toNat + 1; rw [e18]; decide),
    _, _, rfl, rfl, ⟨by decide, by decide, by decide⟩, _, _, rfl, rfl, _, _, rfl, rfl, ⟨by decide, by decide, by decide⟩, _, rfl, _, _, rfl, rfl, by show (0 : Int) < 3; decide, _, _, rfl, rfl, Nat.le_of_ble_eq_true rfl, fun l nl => ?_⟩
  refine ⟨_, rfl, _, _, rfl, rfl, ⟨by decide, by decide⟩, _, _, rfl, rfl, by show (0 : Int) < 3; decide, ?_⟩
  obtain ⟨v, ev, hv⟩ := three_at (a := .int (c % 7 - 3)) (b := .int (c % (2 * (10 : Int) ^ (18 : Int).toNat + 1) - (10 : Int) ^ (18 : Int).toNat)) (c := .int ((10 : Int) ^ (18 : Int).toNat - c % 3)) (i := c / 5 % 3) (by omega) (by omega)
  obtain ⟨i, rfl⟩ : ∃ i, v = .int i := by
    rcases hv with rfl | rfl | rfl <;> exact ⟨_, rfl⟩
  exact ⟨l, _, _, _, rfl, rfl, SqL.of upd_same, ev, q i _ (same_new nl _)⟩
theorem ok_taken_by (F : Fun K "_law_taken_by" "_law_taken_by" s_taken_by f fd) (m_range : mg "range" = none) (m_int : mg "int" = none) (c_law_cell : Cl P w K mg base "_law_cell" n ["_law_script", "_law_k"] (spCell K)) (c_law_pick : Cl P w K mg base "_law_pick" n ["_law_cell_here", "_law_k", "_law_many"] spPick) (c_law_thing : Cl P w K mg base "_law_thing" n ["_law_cell_here"] spThing) :
    FnOk P w K mg base CX0 (n + 1) f fd ["_law_script", "_law_at_here"] (spTakenBy K) := by
  refine F.ok sc_taken_by (fun vs H Q E h => ?_) (fun cdv A outer s H vs Q E hr h => ?_)
  · obtain ⟨a, ns, at_, rfl, _⟩ := h
    rfl
  obtain ⟨a, ns, at_, rfl, hS, h63, h0, h50, q⟩ := h
  have sc := sc_taken_by
  refine ⟨_, (@pss_cons _ _ _ _ _ (ps_set (i := 2) sc.nd rfl (Or.inr rfl) (pe_cl c_law_cell hr rfl (pa_cons (pv 0) (pa_cons (pv 1) pa_nil))))
      (@pss_cons _ _ _ _ _ (ps_set (i := 3) sc.nd rfl (Or.inl rfl) (pe_ix ix_list (pe_lst (pa_cons (pe_op op_mod (pv 2) pe_int) (pa_cons (pe_op op_mod (pv 2) pe_int) pa_nil))) (pe_callTy call_int1 rfl m_int PyProof.Rows.boot_int (pa_cons (pe_cmpR op_eq (pe_op op_mod (pe_op op_fdiv (pv 2) pe_int) pe_int) pe_int (nomark _)) pa_nil)) (fun _ _ => rfl)))
      (pss_one (ps_ret (pe_comp ["_law_k"] rfl (cmp_ok (N := ["_law_script", "_law_at_here", "_law_cell_here", "_law_many"]) (so := defScope s_taken_by) rfl rfl (by decide +kernel)) (pi_range1 rfl m_range (pa_cons (pv 3) pa_nil)) (fun _ _ _ _ _ _ => (pg_name (i := 0) (show List.Nodup (α := Str) ["_law_k", "_law_script", "_law_at_here", "_law_cell_here", "_law_many"] by decide +kernel) rfl (Or.inl rfl) (Or.inr rfl))) (fun _ _ _ _ _ _ => pifs_nil) (fun _ _ _ _ _ _ => (pe_cl c_law_thing hr rfl (pa_cons (pe_op op_add (pe_op op_mul (pe_cl c_law_pick hr rfl (pa_cons (pv 3) (pa_cons (pe_op op_add (pv 0) pe_int) (pa_cons (pe_op op_pow pe_int pe_int) pa_nil)))) pe_int) (pv 3)) pa_nil)))))))), ?_⟩
  have e9 : (0 : Int) < (10 : Int) ^ (9 : Int).toNat := by decide
  refine ⟨_, rfl, _, rfl, a, ns, at_, rfl, hS, h63, h0, by omega, fun c H1 s1 => ?_⟩
  refine ⟨_, rfl, _, _, rfl, rfl, by show (0 : Int) < 4; decide, _, rfl, _, _, rfl, rfl, by show (0 : Int) < 101; decide, Nat.le_of_ble_eq_true rfl, fun l nl => ?_⟩
  refine ⟨_, rfl, _, _, rfl, rfl, ⟨by decide, by decide⟩, _, _, rfl, rfl, by show (0 : Int) < 6; decide, rfl, .inr ⟨_, rfl, ?_⟩⟩
  obtain ⟨m, em, hm⟩ := many_at (c := c) (m := 100) (b := decide (V.int (c / 4 % 6) = V.int 1)) (x := c % 4) (y := c % 101) (by omega) (by omega)
  refine ⟨l, _, _, _, rfl, rfl, SqL.of upd_same, em, ?_⟩
  have s2 := s1.trans (same_new nl (.lst [.int (c % 4), .int (c % 101)]))
  generalize upd H1 l (.lst [.int (c % 4), .int (c % 101)]) = H2 at s2
  refine ⟨_, rfl, _, rfl, by omega, by omega, fun p np => ?_⟩
  rw [Int.toNat_natCast]
  refine comp_range (fun i H' => Same H2 H' ∧ ∃ acc : List Int, H' p = some (.lst (intsV acc)) ∧ acc.length = i) ⟨same_new np _, [], upd_same, rfl⟩ (fun i H' hi h => ?_) (fun H' h => ?_)
  · obtain ⟨sm, acc, ea, la⟩ := h
    refine ⟨⟨[some (.int (0 + (i : Int)))], rfl, rfl⟩, tTrue_ite ?_⟩
    refine ⟨_, rfl, _, rfl, _, _, rfl, rfl, _, _, rfl, rfl, ⟨by decide, by decide, by decide⟩, c, _, _, rfl, by omega, by omega, e9, fun k k0 k1 => ?_⟩
    refine ⟨_, _, rfl, rfl, .inr ⟨by decide, by decide⟩, _, rfl, _, _, rfl, rfl, _, rfl, fun z H3 s3 => ?_⟩
    have ea3 := s3 _ _ ea
    refine ⟨_, ea3, small1000 (by unfold intsV; rw [List.length_map]; omega), Same.new (sm.trans s3) np, acc ++ [z], by rw [upd_same]; unfold intsV; rw [List.map_append]; rfl, by simp [la]⟩
  · obtain ⟨sm, acc, ea, la⟩ := h
    exact q H' p acc (s2.trans sm) ea (none_of_same s2 np) (by omega)
theorem ok_rows_by (F : Fun K "_law_rows_by" "_law_rows_by" s_rows_by f fd) (m_range : mg "range" = none) (m_int : mg "int" = none) (c_law_cell : Cl P w K mg base "_law_cell" n ["_law_script", "_law_k"] (spCell K)) (c_law_pick : Cl P w K mg base "_law_pick" n ["_law_cell_here", "_law_k", "_law_many"] spPick) (c_law_thing : Cl P w K mg base "_law_thing" n ["_law_cell_here"] spThing) :
    FnOk P w K mg base CX0 (n + 1) f fd ["_law_script", "_law_at_here", "_law_rows"] (spRowsBy K) := by
  refine F.ok sc_rows_by (fun vs H Q E h => ?_) (fun cdv A outer s H vs Q E hr h => ?_)
  · obtain ⟨a, ns, at_, m, rfl, _⟩ := h
    rfl
  obtain ⟨a, ns, at_, m, rfl, hS, h63, h0, h50, hm10, q⟩ := h
  have sc := sc_rows_by
  refine ⟨_, (@pss_cons _ _ _ _ _ (ps_set (i := 3) sc.nd rfl (Or.inl rfl) (pe_lst pa_nil))
      (@pss_cons _ _ _ _ _ (ps_for PassesOwn.never rfl (pi_range1 rfl m_range (pa_cons (pv 2) pa_nil)) (pg_name (i := 4) sc.nd rfl (Or.inl rfl)) (@pss_cons _ _ _ _ _ (ps_set (i := 5) sc.nd rfl (Or.inr rfl) (pe_cl c_law_cell hr rfl (pa_cons (pv 0) (pa_cons (pe_op op_add (pv 1) (pv 4)) pa_nil))))
      (@pss_cons _ _ _ _ _ (ps_set (i := 6) sc.nd rfl (Or.inl rfl) (pe_ix ix_list (pe_lst (pa_cons (pe_op op_mod (pv 5) pe_int) (pa_cons (pe_op op_mod (pv 5) pe_int) pa_nil))) (pe_callTy call_int1 rfl m_int PyProof.Rows.boot_int (pa_cons (pe_cmpR op_eq (pe_op op_mod (pe_op op_fdiv (pv 5) pe_int) pe_int) pe_int (nomark _)) pa_nil)) (fun _ _ => rfl)))
      (pss_one (ps_expr (pe_bm PySem.F.plainAttrs_list PySem.F.slot_list_append PySem.F.type_list_append mt_append (pv 3) (pa_cons (pe_comp ["_law_k"] rfl (cmp_ok (N := ["_law_script", "_law_at_here", "_law_rows", "_law_found", "_law_r", "_law_cell_here", "_law_many"]) (so := defScope s_rows_by) rfl rfl (by decide +kernel)) (pi_range1 rfl m_range (pa_cons (pv 6) pa_nil)) (fun _ _ _ _ _ _ => (pg_name (i := 0) (show List.Nodup (α := Str) ["_law_k", "_law_script", "_law_at_here", "_law_rows", "_law_found", "_law_r", "_law_cell_here", "_law_many"] by decide +kernel) rfl (Or.inl rfl) (Or.inr rfl))) (fun _ _ _ _ _ _ => pifs_nil) (fun _ _ _ _ _ _ => (pe_cl c_law_thing hr rfl (pa_cons (pe_op op_add (pe_op op_mul (pe_cl c_law_pick hr rfl (pa_cons (pv 6) (pa_cons (pe_op op_add (pv 0) pe_int) (pa_cons (pe_op op_pow pe_int pe_int) pa_nil)))) pe_int) (pv 6)) pa_nil)))) pa_nil)))))))
      (pss_one (ps_ret (pv 3))))), ?_⟩
  have e9 : (0 : Int) < (10 : Int) ^ (9 : Int).toNat := by decide
  refine ⟨Nat.le_of_ble_eq_true rfl, fun pf npf => ?_⟩
  refine ⟨_, rfl, _, rfl, by omega, by omega, ?_⟩
  rw [Int.toNat_natCast]
  refine for_range (n := m) (fun i σ H' => ∃ y4 y5 y6 rs rows, σ = [some (.ref a), some (.int at_), some (.int (m : Int)), some (.ref pf), y4, y5, y6] ∧ Same H H' ∧ RowsAt H' pf rs rows ∧ rows.length = i ∧ (∀ b ∈ rs, H b = none) ∧ ∀ r ∈ rows, r.length ≤ 100)
    ⟨_, _, _, [], [], rfl, same_new npf _, ⟨upd_same, rfl, fun i b r h => by simp at h, by simp⟩, rfl, fun b h => by simp at h, fun r h => by simp at h⟩ (fun i σ H' hi h => ?_) (fun σ H' h => ?_)
  · obtain ⟨y4, y5, y6, rs, rows, rfl, sm, ra, lr, hfr, hlr⟩ := h
    refine ⟨_, rfl, _, rfl, _, rfl, _, _, rfl, rfl, a, ns, _, rfl, sm.seq hS, h63, by omega, by omega, fun c H1 s1 => ?_⟩
    refine ⟨_, rfl, _, _, rfl, rfl, by show (0 : Int) < 5; decide, _, rfl, _, _, rfl, rfl, by show (0 : Int) < 41; decide, Nat.le_of_ble_eq_true rfl, fun l nl => ?_⟩
    refine ⟨_, rfl, _, _, rfl, rfl, ⟨by decide, by decide⟩, _, _, rfl, rfl, by show (0 : Int) < 4; decide, rfl, .inr ⟨_, rfl, ?_⟩⟩
    obtain ⟨k, ek, hk⟩ := many_at (c := c) (m := 100) (b := decide (V.int (c / 5 % 4) = V.int 1)) (x := c % 5) (y := c % 41) (by omega) (by omega)
    refine ⟨l, _, _, _, rfl, rfl, SqL.of upd_same, ek, ?_⟩
    have s2 := s1.trans (same_new nl (.lst [.int (c % 5), .int (c % 41)]))
    generalize upd H1 l (.lst [.int (c % 5), .int (c % 41)]) = H2 at s2
    have ra2 := ra.same s2
    refine ⟨_, rfl, .inl ⟨rfl, _, SqL.of ra2.top⟩, ?_⟩
    refine ⟨_, rfl, _, rfl, by omega, by omega, fun p np => ?_⟩
    rw [Int.toNat_natCast]
    refine comp_range (fun i H' => Same H2 H' ∧ ∃ acc : List Int, H' p = some (.lst (intsV acc)) ∧ acc.length = i) ⟨same_new np _, [], upd_same, rfl⟩ (fun j H3 hj h => ?_) (fun H3 h => ?_)
    · obtain ⟨sm3, acc, ea, la⟩ := h
      refine ⟨⟨[some (.int (0 + (j : Int)))], rfl, rfl⟩, tTrue_ite ?_⟩
      refine ⟨_, rfl, _, rfl, _, _, rfl, rfl, _, _, rfl, rfl, ⟨by decide, by decide, by decide⟩, c, _, _, rfl, by omega, by omega, e9, fun k k0 k1 => ?_⟩
      refine ⟨_, _, rfl, rfl, .inr ⟨by decide, by decide⟩, _, rfl, _, _, rfl, rfl, _, rfl, fun z H4 s4 => ?_⟩
      have ea4 := s4 _ _ ea
      refine ⟨_, ea4, small1000 (by unfold intsV; rw [List.length_map]; omega), Same.new (sm3.trans s4) np, acc ++ [z], by rw [upd_same]; unfold intsV; rw [List.map_append]; rfl, by simp [la]⟩
    · obtain ⟨sm3, acc, ea, la⟩ := h
      have ra3 := ra2.same sm3
      have lrs := ra.len
      have hpp : pf ≠ p := ne_p ra2.top np
      have nprs : ¬ p ∈ rs := fun m => by
        obtain ⟨j, hj⟩ := List.mem_iff_getElem?.mp m
        have hjl : j < rows.length := by have := (List.getElem?_eq_some_iff.mp hj).1; omega
        have := ra2.row j p _ hj (List.getElem?_eq_getElem hjl)
        rw [np] at this; cases this
      refine ⟨pf, _, _, rfl, rfl, ra3.top, small1000 (by rw [List.length_map]; omega), ?_⟩
      have ndp := List.nodup_cons.mp ra.nd
      refine ⟨_, _, _, rs ++ [p], rows ++ [acc], rfl, ?_, ⟨by rw [upd_same, List.map_append]; rfl, by simp [lrs], fun j b r hb hr => ?_, ?_⟩, by simp [lr], fun b hb => ?_, fun r hr => ?_⟩
      · exact Same.new (sm.trans (s2.trans sm3)) npf
      · by_cases hj : j < rs.length
        · rw [List.getElem?_append_left hj] at hb
          rw [List.getElem?_append_left (by omega)] at hr
          have hbm := List.mem_of_getElem? hb
          rw [upd_ne (fun (z : b = pf) => ndp.1 (by rw [← z]; exact hbm))]
          exact ra3.row j b r hb hr
        · rw [List.getElem?_append_right (by omega)] at hb hr
          have : j = rs.length := by
            have := (List.getElem?_eq_some_iff.mp hb).1
            simp at this; omega
          subst this
          simp at hb
          simp [lrs] at hr
          subst hb hr
          rw [upd_ne hpp.symm]
          exact ea
      · have nds := nd_snoc ndp.2 nprs
        refine List.nodup_cons.mpr ⟨fun m => ?_, nds⟩
        rcases List.mem_append.mp m with z | z
        · exact ndp.1 z
        · exact hpp (List.mem_singleton.mp z)
      · rcases List.mem_append.mp hb with z | z
        · exact hfr b z
        · rw [List.mem_singleton.mp z]; exact none_of_same (sm.trans s2) np
      · rcases List.mem_append.mp hr with z | z
        · exact hlr r z
        · rw [List.mem_singleton.mp z]; omega
  · obtain ⟨y4, y5, y6, rs, rows, rfl, sm, ra, lr, hfr, hlr⟩ := h
    refine ⟨_, rfl, q H' pf rs rows sm ra (fun b hb => ?_) lr hlr⟩
    rcases List.mem_cons.mp hb with z | z
    · rw [z]; exact npf
    · exact hfr b z
end
end K25
set_option Elab.async false
set_option linter.all false
set_option maxRecDepth 100000
set_option maxHeartbeats 4000000
namespace K25
open PySem PySem.Spec PyProof.Rows L2
noncomputable abbrev s_near : Stmt := top 35
noncomputable abbrev s_program : Stmt := top 36
theorem sc_near : FnScope ["_law_line_here", "_law_at_here", "_law_cell_here", "_law_number_here"] ["_law_line_here", "_law_at_here", "_law_cell_here"] (defScope s_near) := ⟨rfl, rfl, rfl, by decide +kernel, rfl, by decide +kernel, by decide +kernel⟩
theorem sc_program : FnScope ["_law_script", "_law_names", "_law_rows", "_law_many", "_law_lines", "_law_k", "_law_cells", "_law_cell_here"] ["_law_script"] (defScope s_program) := ⟨rfl, rfl, rfl, by decide +kernel, rfl, by decide +kernel, by decide +kernel⟩
theorem or_any {t u : TT} {σ : L2.St} {H : Hp} {Q : Bool → Hp → Prop} (b1 : Bool) (ht : ∀ Q' : Bool → Hp → Prop, (∀ H', Same H H' → Q' b1 H') → t σ H Q') (hu : ∀ H', Same H H' → ∀ Q' : Bool → Hp → Prop, (∀ H'' b2, Same H' H'' → Q' b2 H'') → u σ H' Q')
    (h : ∀ b H', Same H H' → (b1 = true → b = true) → Q b H') : tOr t u σ H Q := by
  refine ht _ fun H1 s1 => ?_
  cases b1 with
  | true => rw [if_pos rfl]; exact h _ _ s1 (fun _ => rfl)
  | false => rw [if_neg Bool.false_ne_true]; exact hu _ s1 _ fun H2 b2 s2 => h b2 H2 (s1.trans s2) (fun z => by cases z)
theorem near_form {names rows at_ many : Int} {d : D} (h : LineD names rows at_ many d) : (∃ x ds, d = .tup (.str x :: ds) ∧ (x = "ask" ∨ x = "end")) ∨
    (∃ y u c k m, d = .tup [.str "test", y, u, .int c, .int k, .int m] ∧ ∀ k', 0 ≤ k' → k' < many → LineD names rows at_ many (.tup [.str "test", y, u, .int c, .int k', .int m])) ∨
    ∃ (x : Str) (ds : List D) (k : Int), d = .tup (.str x :: (ds ++ [.int k])) ∧ ¬ (x = "ask" ∨ x = "end") ∧ x ≠ "test" ∧ ds.length ≤ 4 ∧ ∀ k', 0 ≤ k' → k' < many → LineD names rows at_ many (.tup (.str x :: (ds ++ [.int k']))) := by
  cases h with
  | ask bs k m => exact .inl ⟨_, _, rfl, .inl rfl⟩
  | end_ => exact .inl ⟨_, _, rfl, .inr rfl⟩
  | test y u c k m h1 h2 h3 h4 h5 h6 h7 h8 => exact .inr (.inl ⟨y, u, c, k, m, rfl, fun k' a b => .test y u c k' m h1 h2 h3 h4 a b h7 h8⟩)
  | set x c k y h1 h2 h3 h4 h5 h6 h7 => exact .inr (.inr ⟨"set", [.int x, y, .int c], k, rfl, by decide, by decide, by simp, fun k' a b => .set x c k' y h1 h2 h3 h4 h5 a b⟩)
  | sum x z k u h1 h2 h3 h4 h5 h6 h7 => exact .inr (.inr ⟨"sum", [.int x, .int z, u], k, rfl, by decide, by decide, by simp, fun k' a b => .sum x z k' u h1 h2 h3 h4 h5 a b⟩)
  | len x r k h1 h2 h3 h4 h5 h6 => exact .inr (.inr ⟨"len", [.int x, .int r], k, rfl, by decide, by decide, by simp, fun k' a b => .len x r k' h1 h2 h3 h4 a b⟩)
  | take x k h1 h2 h3 h4 => exact .inr (.inr ⟨"take", [.int x], k, rfl, by decide, by decide, by simp, fun k' a b => .take x k' h1 h2 a b⟩)
  | tell x k h1 h2 h3 h4 => exact .inr (.inr ⟨"tell", [.int x], k, rfl, by decide, by decide, by simp, fun k' a b => .tell x k' h1 h2 a b⟩)
  | get x r c k y h1 h2 h3 h4 h5 h6 h7 h8 h9 => exact .inr (.inr ⟨"get", [.int x, .int r, y, .int c], k, rfl, by decide, by decide, by simp, fun k' a b => .get x r c k' y h1 h2 h3 h4 h5 h6 h7 a b⟩)
  | put r c z k y h1 h2 h3 h4 h5 h6 h7 h8 h9 => exact .inr (.inr ⟨"put", [.int r, y, .int c, .int z], k, rfl, by decide, by decide, by simp, fun k' a b => .put r c z k' y h1 h2 h3 h4 h5 h6 h7 a b⟩)
theorem isl_snoc_inv {K : PySem.W.Frag} {H : Hp} : ∀ {ds : List D} {e : D} {vs : List V}, IsL K H (ds ++ [e]) vs → ∃ us v, vs = us ++ [v] ∧ IsL K H ds us ∧ Is K H e v
  | [], e, vs, h => by
    obtain ⟨v, r, rfl, h1, h2⟩ := IsL.cons_inv h
    rw [h2.nil_inv]
    exact ⟨[], v, rfl, isl_nil, h1⟩
  | d :: ds, e, vs, h => by
    obtain ⟨v, r, rfl, h1, h2⟩ := IsL.cons_inv h
    obtain ⟨us, z, rfl, h3, h4⟩ := isl_snoc_inv h2
    exact ⟨v :: us, z, rfl, isl_cons h1 h3, h4⟩
theorem cut_last (xs : List V) (x v : V) : cutV (x :: (xs ++ [v])) none (some (-1)) = x :: xs := by
  have h : (-1 + ((xs.length : Int) + 1 + 1)).toNat = (x :: xs).length := by simp only [List.length_cons]; omega
  unfold cutV HT.sIx
  simp
  rw [h]
  exact List.take_left (l₁ := x :: xs) (l₂ := [v])
theorem not_last (xs : List V) (x v : V) : ¬ (HT.sIx (x :: (xs ++ [v])).length 0 none = 0 ∧ HT.sIx (x :: (xs ++ [v])).length (x :: (xs ++ [v])).length (some (-1)) = (x :: (xs ++ [v])).length) := by
  unfold HT.sIx
  simp
  omega
theorem ifs_nx {c : TT} {t u : TS} {D : Ends} {σ : L2.St} {H : Hp} (Φ : L2.St → Hp → Prop) (h : ∀ σ' H', Φ σ' H' → D.nx σ' H') (hi : ∀ D' : Ends, (∀ σ' H', Φ σ' H' → D'.nx σ' H') → tIfS c t u D' σ H) : tIfS c t u D σ H := hi D h
theorem place_form {names rows at_ many : Int} {x : Str} {ds : List D} (h : LineD names rows at_ many (.tup (.str x :: ds))) (hx : x = "get" ∨ x = "put") :
    (x = "get" ∧ ∃ e1 e2 e3 e4 e5 : D, ds = [e1, e2, e3, e4, e5] ∧ ∀ c', -1000 ≤ c' → c' ≤ 1000 → LineD names rows at_ many (.tup [.str x, e1, e2, e3, .int c', e5])) ∨
    (x = "put" ∧ ∃ e1 e2 e3 e4 e5 : D, ds = [e1, e2, e3, e4, e5] ∧ ∀ c', -1000 ≤ c' → c' ≤ 1000 → LineD names rows at_ many (.tup [.str x, e1, e2, .int c', e4, e5])) := by
  cases h with
  | get a r c k y h1 h2 h3 h4 h5 h6 h7 h8 h9 => exact .inl ⟨rfl, _, _, _, _, _, rfl, fun c' a0 b0 => .get a r c' k y h1 h2 h3 h4 h5 a0 b0 h8 h9⟩
  | put r c z k y h1 h2 h3 h4 h5 h6 h7 h8 h9 => exact .inr ⟨rfl, _, _, _, _, _, rfl, fun c' a0 b0 => .put r c' z k y h1 h2 h3 a0 b0 h6 h7 h8 h9⟩
  | set => exact absurd hx (by decide)
  | sum => exact absurd hx (by decide)
  | len => exact absurd hx (by decide)
  | take => exact absurd hx (by decide)
  | tell => exact absurd hx (by decide)
  | test => exact absurd hx (by decide)
  | ask => exact absurd hx (by decide)
  | end_ => exact absurd hx (by decide)
noncomputable def spNear (K : PySem.W.Frag) : Sp := fun vs H Q _ => ExQ Q (fun (d : D) Q => ExQ Q (fun (v : V) Q => ExQ Q (fun (c : Int) Q => ExQ Q (fun (names : Int) Q => ExQ Q (fun (rows : Int) Q => ExQ Q (fun (at_ : Int) Q => ExQ Q (fun (many : Int) Q => vs = [v, .int at_, .int c] ∧ Is K H d v ∧ LineD names rows at_ many d ∧ 0 ≤ at_ ∧ at_ + 1 < many ∧ ∀ (d' : D) (v' : V) (H' : Hp), LineD names rows at_ many d' → Same H H' → Is K H' d' v' → Q v' H')))))))
section
variable {P : Program} {w : World} {K : PySem.W.Frag} {mg : Str → Option Value} {base : Heap} {f : Addr} {fd : FuncData} {n : Nat} {C : Addr}
theorem ok_near (F : Fun K "_law_near" "_law_near" s_near f fd) (m_int : mg "int" = none) (c_law_pick : Cl P w K mg base "_law_pick" n ["_law_cell_here", "_law_k", "_law_many"] spPick) : FnOk P w K mg base CX0 (n + 1) f fd ["_law_line_here", "_law_at_here", "_law_cell_here"] (spNear K) := by
  refine F.ok sc_near (fun vs H Q E h => ?_) (fun cdv A outer s H vs Q E hr h => ?_)
  · obtain ⟨d, v, c, names, rows, at_, many, rfl, _⟩ := h
    rfl
  obtain ⟨d, v, c, names, rows, at_, many, rfl, hi, hl, a0, a1, q⟩ := h
  have sc := sc_near
  refine ⟨_, (@pss_cons _ _ _ _ _ (ps_if (PW.pt (pw_and (pt_cmpR op_in_seq (pe_ix ix_tup (pv 0) pe_int (fun _ _ => rfl)) (pe_tup (pa_consts rfl)) (by with_unfolding_all rfl)) (pw_and1 (pt_cmpR op_gt (pe_cl c_law_pick hr rfl (pa_cons (pv 2) (pa_cons pe_int (pa_cons pe_int pa_nil)))) pe_int (nomark _))))) (@pss_cons _ _ _ _ _ (ps_set (i := 3) sc.nd rfl (Or.inl rfl) (pe_op op_sub (pe_cl c_law_pick hr rfl (pa_cons (pv 2) (pa_cons pe_int (pa_cons pe_int pa_nil)))) pe_int))
      (pss_one (ps_set (i := 0) sc.nd rfl (Or.inl rfl) (pe_ix ix_list (pe_lst (pa_cons (pe_op op_catT (pe_op op_catT (pe_slice sl_tup (pv 0) po_none (po_some pe_int)) (pe_tup (pa_cons (pv 3) pa_nil))) (pe_slice sl_tup (pv 0) (po_some pe_int) po_none)) (pa_cons (pe_op op_catT (pe_op op_catT (pe_slice sl_tup (pv 0) po_none (po_some pe_int)) (pe_tup (pa_cons (pv 3) pa_nil))) (pe_slice sl_tup (pv 0) (po_some pe_int) po_none)) pa_nil))) (pe_callTy call_int1 rfl m_int PyProof.Rows.boot_int (pa_cons (pe_cmpR op_eq (pe_ix ix_tup (pv 0) pe_int (fun _ _ => rfl)) pe_str (nomark _)) pa_nil)) (fun _ _ => rfl))))) pss_nil)
      (@pss_cons _ _ _ _ _ (ps_if (PW.pt (pw_or (pt_cmpR op_in_seq (pe_ix ix_tup (pv 0) pe_int (fun _ _ => rfl)) (pe_tup (pa_consts rfl)) (by with_unfolding_all rfl)) (pw_or1 (pt_cmpR op_eq (pe_cl c_law_pick hr rfl (pa_cons (pv 2) (pa_cons pe_int (pa_cons pe_int pa_nil)))) pe_int (nomark _))))) (pss_one (ps_ret (pv 0))) pss_nil)
      (@pss_cons _ _ _ _ _ (ps_if (pt_cmpR op_eq (pe_ix ix_tup (pv 0) pe_int (fun _ _ => rfl)) pe_str (nomark _)) (pss_one (ps_ret (pe_op op_catT (pe_slice sl_tup (pv 0) po_none (po_some pe_int)) (pe_tup (pa_cons (pe_op op_add (pv 1) pe_int) (pa_cons (pe_ix ix_tup (pv 0) pe_int (fun _ _ => rfl)) pa_nil)))))) pss_nil)
      (pss_one (ps_ret (pe_op op_catT (pe_slice sl_tup (pv 0) po_none (po_some (pe_un un_neg pe_int))) (pe_tup (pa_cons (pe_op op_add (pv 1) pe_int) pa_nil)))))))), ?_⟩
  have hform : ∃ x ds, d = .tup (.str x :: ds) := by
    rcases near_form hl with ⟨x, ds, e, _⟩ | ⟨y, u, k1, k, m, e, _⟩ | ⟨x, ds, k, e, _⟩
    · exact ⟨_, _, e⟩
    · exact ⟨_, _, e⟩
    · exact ⟨_, _, e⟩
  obtain ⟨x, ds, rfl⟩ := hform
  obtain ⟨t, xs0, rfl, hq, il⟩ := hi.tup_inv
  obtain ⟨v0, xs, rfl, h0, il1⟩ := il.cons_inv
  obtain rfl := h0.str_inv
  dsimp only [gName, tSeq]
  refine ifs_nx (fun σ' H' => ∃ d' v' y3, σ' = [some v', some (.int at_), some (.int c), y3] ∧ Same H H' ∧ Is K H' d' v' ∧ LineD names rows at_ many d') (fun σ' H0 h' => ?_) (fun D' kk => ?_)
  rotate_left
  · dsimp only [tIfS, tAnd, tSeq, tNext]
    refine ⟨_, rfl, t, _, 0, _, rfl, rfl, hq, at0 _ _, Nat.le_of_ble_eq_true rfl, fun t2 ht2 => ⟨t2, _, rfl, .inr (SqT.of upd_same), rfl, rfl, _, rfl, ?_⟩⟩
    have s1 := same_new ht2 (.tup [.str "get", .str "put"])
    generalize upd H t2 (.tup [.str "get", .str "put"]) = H1 at *
    have back : ∀ H', Same H H' → D'.nx [some (.ref t), some (.int at_), some (.int c), none] H' := fun H' s' => kk _ _ ⟨_, _, _, rfl, s', hi.mono s'.tups, hl⟩
    refine ite2 (fun cg => ?_) (fun cg => ?_)
    rotate_left
    · exact iteF (back _ s1)
    refine ⟨_, rfl, c, 13, 5, rfl, by decide, by decide, by decide, fun k _ _ => ⟨_, _, rfl, rfl, _, rfl, ite2 (fun c5 => ?_) (fun c5 => back _ s1)⟩⟩
    refine ⟨_, rfl, c, 14, 7, rfl, by decide, by decide, by decide, fun k2 k20 k21 => ⟨_, _, rfl, rfl, ?_⟩⟩
    have hx : x = "get" ∨ x = "put" := in2.mp cg
    have five : ∃ e1 e2 e3 e4 e5 : D, ds = [e1, e2, e3, e4, e5] := by
      rcases place_form hl hx with ⟨_, e1, e2, e3, e4, e5, e, _⟩ | ⟨_, e1, e2, e3, e4, e5, e, _⟩ <;> exact ⟨e1, e2, e3, e4, e5, e⟩
    obtain ⟨e1, e2, e3, e4, e5, rfl⟩ := five
    obtain ⟨v1, r1, rfl, i1, il2⟩ := il1.cons_inv
    obtain ⟨v2, r2, rfl, i2, il3⟩ := il2.cons_inv
    obtain ⟨v3, r3, rfl, i3, il4⟩ := il3.cons_inv
    obtain ⟨v4, r4, rfl, i4, il5⟩ := il4.cons_inv
    obtain ⟨v5, r5, rfl, i5, il6⟩ := il5.cons_inv
    obtain rfl := il6.nil_inv
    have hq1 := s1.tups.sq hq
    refine ⟨_, rfl, _, rfl, t, _, rfl, hq1, (show ¬ (HT.sIx 6 0 none = 0 ∧ HT.sIx 6 6 (some 3) = 6) by decide), fun p1 hp1 => ?_⟩
    have u1 := same_new hp1 (.tup [.str x, v1, v2])
    refine ⟨_, rfl, Nat.le_of_ble_eq_true rfl, fun p2 hp2 => ?_⟩
    have u2 := same_new hp2 (.tup [.int (k2 - 2)])
    refine ⟨p1, p2, _, _, rfl, rfl, SqT.of (u2 _ _ upd_same), SqT.of upd_same, (fun z => by cases z), Nat.le_of_ble_eq_true rfl, (fun z => by cases z), fun _ p3 hp3 => ?_⟩
    have u3 := same_new hp3 (.tup [.str x, v1, v2, .int (k2 - 2)])
    have u13 := u1.trans (u2.trans u3)
    have e3' := upd_same (H := upd (upd H1 p1 (.tup [.str x, v1, v2])) p2 (.tup [.int (k2 - 2)])) (a := p3) (o := .tup [.str x, v1, v2, .int (k2 - 2)])
    refine ⟨_, rfl, _, rfl, t, _, rfl, u13.tups.sq hq1, (show ¬ (HT.sIx 6 0 (some 4) = 0 ∧ HT.sIx 6 6 none = 6) by decide), fun p4 hp4 => ?_⟩
    have u4 := same_new hp4 (.tup [v4, v5])
    refine ⟨p3, p4, _, _, rfl, rfl, SqT.of (u4 _ _ e3'), SqT.of upd_same, (fun z => by cases z), Nat.le_of_ble_eq_true rfl, (fun z => by cases z), fun _ p5 hp5 => ?_⟩
    have u5 := same_new hp5 (.tup [.str x, v1, v2, .int (k2 - 2), v4, v5])
    have u15 := u13.trans (u4.trans u5)
    have e5' := upd_same (H := upd (upd (upd (upd H1 p1 (.tup [.str x, v1, v2])) p2 (.tup [.int (k2 - 2)])) p3 (.tup [.str x, v1, v2, .int (k2 - 2)])) p4 (.tup [v4, v5])) (a := p5) (o := .tup [.str x, v1, v2, .int (k2 - 2), v4, v5])
    refine ⟨_, rfl, _, rfl, t, _, rfl, u15.tups.sq hq1, (show ¬ (HT.sIx 6 0 none = 0 ∧ HT.sIx 6 6 (some 4) = 6) by decide), fun p6 hp6 => ?_⟩
    have w1 := same_new hp6 (.tup [.str x, v1, v2, v3])
    refine ⟨_, rfl, Nat.le_of_ble_eq_true rfl, fun p7 hp7 => ?_⟩
    have w2 := same_new hp7 (.tup [.int (k2 - 2)])
    refine ⟨p6, p7, _, _, rfl, rfl, SqT.of (w2 _ _ upd_same), SqT.of upd_same, (fun z => by cases z), Nat.le_of_ble_eq_true rfl, (fun z => by cases z), fun _ p8 hp8 => ?_⟩
    have w3 := same_new hp8 (.tup [.str x, v1, v2, v3, .int (k2 - 2)])
    have w13 := w1.trans (w2.trans w3)
    refine ⟨_, rfl, _, rfl, t, _, rfl, (u15.trans w13).tups.sq hq1, (show ¬ (HT.sIx 6 0 (some 5) = 0 ∧ HT.sIx 6 6 none = 6) by decide), fun p9 hp9 => ?_⟩
    have w4 := same_new hp9 (.tup [v5])
    refine ⟨p8, p9, _, _, rfl, rfl, SqT.of (w4 _ _ upd_same), SqT.of upd_same, (fun z => by cases z), Nat.le_of_ble_eq_true rfl, (fun z => by cases z), fun _ p10 hp10 => ⟨Nat.le_of_ble_eq_true rfl, fun l nl => ?_⟩⟩
    have w5 := same_new hp10 (.tup [.str x, v1, v2, v3, .int (k2 - 2), v5])
    have w6 := same_new nl (.lst [.ref p5, .ref p10])
    have e5f := (w13.trans (w4.trans (w5.trans w6))) _ _ e5'
    have e10f := w6 _ _ (upd_same (a := p10) (o := .tup [.str x, v1, v2, v3, .int (k2 - 2), v5]))
    have sF := u15.trans (w13.trans (w4.trans (w5.trans w6)))
    have sA := s1.trans sF
    refine ⟨_, rfl, t, _, 0, _, rfl, rfl, sF.tups.sq hq1, at0 _ _, rfl, .inr ⟨_, rfl, ?_⟩⟩
    rcases place_form hl hx with ⟨rfl, e1', e2', e3', e4', e5', ee, hk⟩ | ⟨rfl, e1', e2', e3', e4', e5', ee, hk⟩
    · injection ee with a1' ee; injection ee with a2' ee; injection ee with a3' ee; injection ee with a4' ee; injection ee with a5' _
      subst a1' a2' a3' a5'
      refine ⟨l, _, _, .ref p10, rfl, rfl, SqL.of upd_same, rfl, kk _ _ ⟨_, _, _, rfl, sA, is_tup (SqT.of e10f) (isl_cons is_str (isl_cons (i1.mono sA.tups) (isl_cons (i2.mono sA.tups) (isl_cons (i3.mono sA.tups) (isl_cons is_int (isl_cons (i5.mono sA.tups) isl_nil)))))), hk (k2 - 2) (by omega) (by omega)⟩⟩
    · injection ee with a1' ee; injection ee with a2' ee; injection ee with a3' ee; injection ee with a4' ee; injection ee with a5' _
      subst a1' a2' a4' a5'
      refine ⟨l, _, _, .ref p5, rfl, rfl, SqL.of upd_same, rfl, kk _ _ ⟨_, _, _, rfl, sA, is_tup (SqT.of e5f) (isl_cons is_str (isl_cons (i1.mono sA.tups) (isl_cons (i2.mono sA.tups) (isl_cons is_int (isl_cons (i4.mono sA.tups) (isl_cons (i5.mono sA.tups) isl_nil)))))), hk (k2 - 2) (by omega) (by omega)⟩⟩
  obtain ⟨d, v, y3, rfl, s0, hi', hl'⟩ := h'
  replace q : ∀ (d' : D) (v' : V) (H' : Hp), LineD names rows at_ many d' → Same H0 H' → Is K H' d' v' → Q v' H' := fun d v H' a b c => q d v H' a (s0.trans b) c
  clear il1 h0 il hq hi hl s0
  revert hi' hl' q
  generalize H0 = H
  intro hi hl q
  have hform : ∃ x ds, d = .tup (.str x :: ds) := by
    rcases near_form hl with ⟨x, ds, e, _⟩ | ⟨y, u, k1, k, m, e, _⟩ | ⟨x, ds, k, e, _⟩
    · exact ⟨_, _, e⟩
    · exact ⟨_, _, e⟩
    · exact ⟨_, _, e⟩
  obtain ⟨x, ds, rfl⟩ := hform
  obtain ⟨t, xs0, rfl, hq, il⟩ := hi.tup_inv
  obtain ⟨v0, xs, rfl, h0, il1⟩ := il.cons_inv
  obtain rfl := h0.str_inv
  dsimp only [gName, tSeq, tIfS, tNext]
  refine or_any (inV (.str x) [.str "ask", .str "end"]) (fun Q' h => ?_) (fun H1 s1 Q' h => ?_) (fun b H1 s1 hb => ite2 (fun cc => ?_) (fun cc => ?_))
  · exact ⟨_, rfl, t, _, 0, _, rfl, rfl, hq, at0 _ _, Nat.le_of_ble_eq_true rfl, fun t2 ht2 => ⟨t2, _, rfl, .inr (SqT.of upd_same), rfl, rfl, _, rfl, h _ (same_new ht2 _)⟩⟩
  · exact ⟨_, rfl, c, 12, 4, rfl, by decide, by decide, by decide, fun k _ _ => ⟨rfl, _, rfl, h _ _ (Same.refl _)⟩⟩
  · exact ⟨_, rfl, q _ _ _ hl s1 (hi.mono s1.tups)⟩
  have w1 : ¬ (x = "ask" ∨ x = "end") := fun e => cc (hb (in2.mpr e))
  have hq1 := s1.tups.sq hq
  refine ⟨_, rfl, t, _, 0, _, rfl, rfl, hq1, at0 _ _, rfl, _, rfl, ite2 (fun ce => ?_) (fun ce => ?_)⟩
  · have e := str_t ce
    subst e
    rcases near_form hl with ⟨x, ds', e, hx⟩ | ⟨y, u, k1, k, m, e, hk⟩ | ⟨x, ds', k, e, _, hx, _⟩
    · injection e with e; injection e with e1 e2; injection e1 with e1; subst e1; exact absurd hx w1
    · injection e with e; injection e with e1 e2; subst e2
      obtain ⟨v1, r1, rfl, i1, il2⟩ := il1.cons_inv
      obtain ⟨v2, r2, rfl, i2, il3⟩ := il2.cons_inv
      obtain ⟨v3, r3, rfl, i3, il4⟩ := il3.cons_inv
      obtain ⟨v4, r4, rfl, i4, il5⟩ := il4.cons_inv
      obtain ⟨v5, r5, rfl, i5, il6⟩ := il5.cons_inv
      obtain rfl := il6.nil_inv
      obtain rfl := i3.int_inv
      obtain rfl := i5.int_inv
      refine ⟨_, rfl, _, rfl, t, _, rfl, hq1, (show ¬ (HT.sIx 6 0 none = 0 ∧ HT.sIx 6 6 (some 4) = 6) by decide), fun p hp => ?_⟩
      have s2 := same_new hp (.tup [.str "test", v1, v2, .int k1])
      refine ⟨_, rfl, _, _, rfl, rfl, _, rfl, t, _, 5, _, rfl, rfl, s2.tups.sq hq1, rfl, Nat.le_of_ble_eq_true rfl, fun p2 hp2 => ?_⟩
      have s3 := same_new hp2 (.tup [.int (at_ + 1), .int m])
      refine ⟨p, p2, _, _, rfl, rfl, SqT.of (s3 _ _ upd_same), SqT.of upd_same, (fun z => by cases z), Nat.le_of_ble_eq_true rfl, (fun z => by cases z), fun _ p3 hp3 => ?_⟩
      have s4 := same_new hp3 (.tup [.str "test", v1, v2, .int k1, .int (at_ + 1), .int m])
      have sm := s1.trans (s2.trans (s3.trans s4))
      exact q _ _ _ (hk (at_ + 1) (by omega) a1) sm (is_tup (SqT.of upd_same) (isl_cons is_str (isl_cons (i1.mono sm.tups) (isl_cons (i2.mono sm.tups) (isl_cons is_int (isl_cons is_int (isl_cons is_int isl_nil)))))))
    · injection e with e; injection e with e1 e2; injection e1 with e1; exact absurd e1.symm hx
  have w2 := str_f ce
  rcases near_form hl with ⟨x', ds', e, hx⟩ | ⟨y, u, k1, k, m, e, hk⟩ | ⟨x', ds', k, e, _, _, l4, hk⟩
  · injection e with e; injection e with e1 e2; injection e1 with e1; subst e1; exact absurd hx w1
  · injection e with e; injection e with e1 e2; injection e1 with e1; exact absurd e1 w2
  · injection e with e; injection e with e1 e2; injection e1 with e1; subst e1 e2
    obtain ⟨us, v9, rfl, iu, _⟩ := isl_snoc_inv il1
    have lu := iu.length
    refine ⟨_, rfl, _, rfl, _, rfl, t, _, rfl, hq1, not_last us _ v9, fun p hp => ?_⟩
    rw [cut_last]
    have s2 := same_new hp (.tup (.str x :: us))
    refine ⟨_, rfl, _, _, rfl, rfl, Nat.le_of_ble_eq_true rfl, fun p2 hp2 => ?_⟩
    have s3 := same_new hp2 (.tup [.int (at_ + 1)])
    refine ⟨p, p2, _, _, rfl, rfl, SqT.of (s3 _ _ upd_same), SqT.of upd_same, (fun z => by cases z), small (by simp only [List.length_cons, List.length_nil]; omega), (fun z => by cases z), fun _ p3 hp3 => ?_⟩
    have s4 := same_new hp3 (.tup ((.str x :: us) ++ [.int (at_ + 1)]))
    have sm := s1.trans (s2.trans (s3.trans s4))
    exact q _ _ _ (hk (at_ + 1) (by omega) a1) sm (is_tup (SqT.of upd_same) (isl_cons is_str ((iu.mono sm.tups).append (isl_cons is_int isl_nil))))
end
end K25
set_option Elab.async false
set_option linter.all false
set_option maxRecDepth 100000
set_option maxHeartbeats 4000000
namespace K25
open PySem PySem.Spec PyProof.Rows L2
theorem nat_of {i m : Int} (h0 : 0 ≤ i) (h1 : i < m) : ∃ k : Nat, i = (k : Int) ∧ (k : Int) < m := ⟨i.toNat, by omega, by omega⟩
theorem maybe_opt {nm : Nat} {d : D} (h : MaybeD (nm : Int) d) : ∃ y, d = optD y ∧ OptOk nm y := by
  rcases h with rfl | ⟨i, h0, h1, rfl⟩
  · exact ⟨none, rfl, trivial⟩
  · obtain ⟨k, rfl, hk⟩ := nat_of h0 h1
    exact ⟨some k, rfl, show k < nm by omega⟩
theorem node_nd {nm rw : Nat} {d : D} (h : NodeD (nm : Int) (rw : Int) d) : ∃ q : Nd, d = q.D ∧ q.Ok nm rw := by
  rcases h with rfl | ⟨i, h0, h1, rfl⟩ | ⟨i, h0, h1, rfl⟩
  · exact ⟨.zero, rfl, trivial⟩
  · obtain ⟨k, rfl, hk⟩ := nat_of h0 h1
    exact ⟨.name k, rfl, show k < nm by omega⟩
  · obtain ⟨k, rfl, hk⟩ := nat_of h0 h1
    exact ⟨.len k, rfl, show k < rw by omega⟩
theorem bounds_bd {nm rw : Nat} : ∀ {bs : List D}, (∀ b ∈ bs, BoundD (nm : Int) (rw : Int) b) → ∃ qs : List Bd, bs = qs.map Bd.D ∧ ∀ q ∈ qs, q.Ok nm rw
  | [], _ => ⟨[], rfl, fun q h => by cases h⟩
  | b :: bs, h => by
    obtain ⟨qs, rfl, hq⟩ := bounds_bd (fun x m => h x (List.mem_cons_of_mem _ m))
    obtain ⟨x, y, c, hx, hy, _, _, rfl⟩ := h b List.mem_cons_self
    obtain ⟨n1, rfl, o1⟩ := node_nd hx
    obtain ⟨n2, rfl, o2⟩ := node_nd hy
    refine ⟨⟨n1, n2, c⟩ :: qs, rfl, fun q m => ?_⟩
    rcases List.mem_cons.mp m with z | z
    · rw [z]; exact ⟨o1, o2⟩
    · exact hq q z
theorem line_ln {nm rw nl : Nat} {i : Int} {d : D} (hi : -1 ≤ i) (h : LineD (nm : Int) (rw : Int) i (nl : Int) d) : ∃ l : Ln, d = l.D ∧ l.Ok nm rw nl ∧ ∀ bs k m, l = .ask bs k m → i < (k : Int) ∧ i < (m : Int) := by
  cases h with
  | set x c k y h1 h2 h3 h4 h5 h6 h7 =>
    obtain ⟨x, rfl, hx⟩ := nat_of h1 h2
    obtain ⟨k, rfl, hk⟩ := nat_of h6 h7
    obtain ⟨y, rfl, hy⟩ := maybe_opt h3
    exact ⟨.deed (.set x y c) k, rfl, ⟨⟨by omega, hy⟩, by omega⟩, fun _ _ _ z => by cases z⟩
  | sum x z k u h1 h2 h3 h4 h5 h6 h7 =>
    obtain ⟨x, rfl, hx⟩ := nat_of h1 h2
    obtain ⟨z, rfl, hz⟩ := nat_of h3 h4
    obtain ⟨k, rfl, hk⟩ := nat_of h6 h7
    obtain ⟨y, rfl, hy⟩ := maybe_opt h5
    exact ⟨.deed (.sum x z y) k, rfl, ⟨⟨by omega, by omega, hy⟩, by omega⟩, fun _ _ _ z => by cases z⟩
  | len x r k h1 h2 h3 h4 h5 h6 =>
    obtain ⟨x, rfl, hx⟩ := nat_of h1 h2
    obtain ⟨r, rfl, hz⟩ := nat_of h3 h4
    obtain ⟨k, rfl, hk⟩ := nat_of h5 h6
    exact ⟨.deed (.len x r) k, rfl, ⟨⟨by omega, by omega⟩, by omega⟩, fun _ _ _ z => by cases z⟩
  | take x k h1 h2 h3 h4 =>
    obtain ⟨x, rfl, hx⟩ := nat_of h1 h2
    obtain ⟨k, rfl, hk⟩ := nat_of h3 h4
    exact ⟨.deed (.take x) k, rfl, ⟨show x < nm by omega, by omega⟩, fun _ _ _ z => by cases z⟩
  | tell x k h1 h2 h3 h4 =>
    obtain ⟨x, rfl, hx⟩ := nat_of h1 h2
    obtain ⟨k, rfl, hk⟩ := nat_of h3 h4
    exact ⟨.deed (.tell x) k, rfl, ⟨show x < nm by omega, by omega⟩, fun _ _ _ z => by cases z⟩
  | get x r c k y h1 h2 h3 h4 h5 h6 h7 h8 h9 =>
    obtain ⟨x, rfl, hx⟩ := nat_of h1 h2
    obtain ⟨r, rfl, hz⟩ := nat_of h3 h4
    obtain ⟨k, rfl, hk⟩ := nat_of h8 h9
    obtain ⟨y, rfl, hy⟩ := maybe_opt h5
    exact ⟨.deed (.get x r y c) k, rfl, ⟨⟨by omega, by omega, hy⟩, by omega⟩, fun _ _ _ z => by cases z⟩
  | put r c z k y h1 h2 h3 h4 h5 h6 h7 h8 h9 =>
    obtain ⟨r, rfl, hx⟩ := nat_of h1 h2
    obtain ⟨z, rfl, hz⟩ := nat_of h6 h7
    obtain ⟨k, rfl, hk⟩ := nat_of h8 h9
    obtain ⟨y, rfl, hy⟩ := maybe_opt h3
    exact ⟨.deed (.put r y c z) k, rfl, ⟨⟨by omega, hy, by omega⟩, by omega⟩, fun _ _ _ z => by cases z⟩
  | test y u c k m h1 h2 h3 h4 h5 h6 h7 h8 =>
    obtain ⟨y, rfl, hy⟩ := maybe_opt h1
    obtain ⟨u, rfl, hu⟩ := maybe_opt h2
    obtain ⟨k, rfl, hk⟩ := nat_of h5 h6
    obtain ⟨m, rfl, hm⟩ := nat_of h7 h8
    exact ⟨.test y u c k m, rfl, ⟨hy, hu, by omega, by omega⟩, fun _ _ _ z => by cases z⟩
  | ask bs k m h1 h2 h3 h4 h5 h6 h7 =>
    obtain ⟨qs, rfl, hq⟩ := bounds_bd h3
    obtain ⟨k, rfl, hk⟩ := nat_of (by omega) h5
    obtain ⟨m, rfl, hm⟩ := nat_of (by omega) h7
    rw [List.length_map] at h2
    exact ⟨.ask qs k m, rfl, ⟨hq, by omega, by omega, by omega⟩, fun _ _ _ z => by cases z; exact ⟨by omega, by omega⟩⟩
  | end_ => exact ⟨.stop, rfl, trivial, fun _ _ _ z => by cases z⟩
theorem lines_any {nm rw nl : Nat} : ∀ {ds : List D}, (∀ d ∈ ds, LineD (nm : Int) (rw : Int) (-1) (nl : Int) d) → ∃ ls : List Ln, ds = ls.map Ln.D ∧ ∀ l ∈ ls, l.Ok nm rw nl
  | [], _ => ⟨[], rfl, fun l h => by cases h⟩
  | d :: ds, h => by
    obtain ⟨ls, rfl, ho⟩ := lines_any (fun x m => h x (List.mem_cons_of_mem _ m))
    obtain ⟨l, rfl, lo, _⟩ := line_ln (by decide) (h d List.mem_cons_self)
    refine ⟨l :: ls, rfl, fun x m => ?_⟩
    rcases List.mem_cons.mp m with z | z
    · rw [z]; exact lo
    · exact ho x z
theorem lines_ln {nm rw nl : Nat} : ∀ {ds : List D} (i : Nat), (∀ (j : Nat) d, ds[j]? = some d → LineD (nm : Int) (rw : Int) ((i + j : Nat) : Int) (nl : Int) d) → ∃ ls : List Ln, ds = ls.map Ln.D ∧ (∀ l ∈ ls, l.Ok nm rw nl) ∧ ∀ (j : Nat) bs k m, ls[j]? = some (.ask bs k m) → i + j < k ∧ i + j < m
  | [], i, _ => ⟨[], rfl, (fun l h => by cases h), fun j bs k m h => by simp at h⟩
  | d :: ds, i, h => by
    obtain ⟨ls, rfl, ho, ha⟩ := lines_ln (i + 1) (fun j d e => by have := h (j + 1) d (by simpa using e); rwa [show i + (j + 1) = i + 1 + j by omega] at this)
    obtain ⟨l, rfl, lo, la⟩ := line_ln (by omega) (h 0 d rfl)
    refine ⟨l :: ls, rfl, fun x m => ?_, fun j bs k m e => ?_⟩
    · rcases List.mem_cons.mp m with z | z
      · rw [z]; exact lo
      · exact ho x z
    · cases j with
      | zero => have := la bs k m (by simpa using e); omega
      | succ j => have := ha j bs k m (by simpa using e); omega
theorem countP_lt {p q : Nat → Bool} : ∀ {l : List Nat}, (∀ x ∈ l, p x = true → q x = true) → (∃ x ∈ l, p x = false ∧ q x = true) → l.countP p < l.countP q
  | [], _, h => by obtain ⟨x, hx, _⟩ := h; cases hx
  | y :: l, hpq, h => by
    have hle : l.countP p ≤ l.countP q := List.countP_mono_left fun x hx hp => hpq x (List.mem_cons_of_mem _ hx) hp
    obtain ⟨x, hx, hp, hq⟩ := h
    rw [List.countP_cons, List.countP_cons]
    rcases List.mem_cons.mp hx with e | e
    · subst e
      rw [if_neg (by rw [hp]; exact Bool.false_ne_true), if_pos hq]; omega
    · have ih := countP_lt (l := l) (fun x hx hp => hpq x (List.mem_cons_of_mem _ hx) hp) ⟨x, e, hp, hq⟩
      by_cases hy : p y = true
      · rw [if_pos hy, if_pos (hpq y List.mem_cons_self hy)]; omega
      · rw [if_neg hy]; omega
theorem ahead_ranked {ls : List Ln} {nm rw : Nat} (ok : AllOk ls nm rw) (ha : ∀ (j : Nat) bs k m, ls[j]? = some (.ask bs k m) → j < k ∧ j < m) : Ranked ls (fun x => ls.length - x) := fun i bs k m e g hg _ => by
  have h1 := ha i bs k m e
  have h2 := (ok _ (List.mem_of_getElem? e)).2.2
  show ls.length - g < ls.length - i
  rcases hg with z | z
  · subst z; have := h2.1; omega
  · subst z; have := h2.2; omega
noncomputable def NoRing (ls : List Ln) (i : Nat) : Prop := ∃ S : Nat → Prop, S i ∧ ∀ x, S x → ∀ bs k m, ls[x]? = some (.ask bs k m) → ∀ g, g = k ∨ g = m → g ≠ i ∧ (AsksAt ls g → S g)
noncomputable def Goes (ls : List Ln) (x y : Nat) : Prop := (∃ bs k m, ls[x]? = some (.ask bs k m) ∧ (y = k ∨ y = m)) ∧ AsksAt ls y
inductive Rch (ls : List Ln) : Nat → Nat → Prop
  | one {x y : Nat} : Goes ls x y → Rch ls x y
  | more {x y z : Nat} : Goes ls x y → Rch ls y z → Rch ls x z
theorem rch_not {ls ls' : List Ln} (sub : ∀ (i : Nat) bs k m, ls'[i]? = some (.ask bs k m) → ls[i]? = some (.ask bs k m)) {i : Nat} {S : Nat → Prop} (hS : ∀ x, S x → ∀ bs k m, ls[x]? = some (.ask bs k m) → ∀ g, g = k ∨ g = m → g ≠ i ∧ (AsksAt ls g → S g))
    {x y : Nat} (h : Rch ls' x y) : S x → y ≠ i := by
  have go : ∀ {x y : Nat}, Goes ls' x y → S x → y ≠ i ∧ S y := fun h hx => by
    obtain ⟨⟨bs, k, m, e, hy⟩, bs', k', m', e'⟩ := h
    obtain ⟨h1, h2⟩ := hS _ hx bs k m (sub _ _ _ _ e) _ hy
    exact ⟨h1, h2 ⟨bs', k', m', sub _ _ _ _ e'⟩⟩
  induction h with
  | one h => intro hx; exact (go h hx).1
  | more h _ ih => intro hx; exact ih (go h hx).2
open Classical in
theorem ring_ranked {ls ls' : List Ln} {nm rw : Nat} (ok : AllOk ls' nm rw) (h : ∀ (i : Nat) bs k m, ls'[i]? = some (.ask bs k m) → ls[i]? = some (.ask bs k m) ∧ NoRing ls i) : ∃ r, Ranked ls' r := by
  refine ⟨fun x => (List.range ls'.length).countP fun y => decide (Rch ls' x y), fun i bs k m e g hg ha => ?_⟩
  have hgo : Goes ls' i g := ⟨⟨bs, k, m, e, hg⟩, ha⟩
  obtain ⟨bs', k', m', e'⟩ := ha
  have hlt : g < ls'.length := (List.getElem?_eq_some_iff.mp e').1
  refine countP_lt (fun x _ hx => ?_) ⟨g, List.mem_range.mpr hlt, ?_, ?_⟩
  · exact decide_eq_true (.more hgo (of_decide_eq_true hx))
  · refine decide_eq_false fun z => ?_
    obtain ⟨S, s1, s2⟩ := (h g bs' k' m' e').2
    exact rch_not (fun i bs k m e => (h i bs k m e).1) s2 z s1 rfl
  · exact decide_eq_true (.one hgo)
end K25
set_option Elab.async false
set_option linter.all false
set_option maxRecDepth 100000
set_option maxHeartbeats 4000000
namespace K25
open PySem PySem.Spec PyProof.Rows L2
noncomputable abbrev s_any_line : Stmt := top 32
noncomputable abbrev s_ring_at : Stmt := top 33
noncomputable abbrev s_without_rings : Stmt := top 34
theorem sc_any_line : FnScope ["_law_cell_here", "_law_names", "_law_rows", "_law_many", "_law_words", "_law_word", "_law_goal", "_law_other", "_law_first", "_law_last"] ["_law_cell_here", "_law_names", "_law_rows", "_law_many"] (defScope s_any_line) := ⟨rfl, rfl, rfl, by decide +kernel, rfl, by decide +kernel, by decide +kernel⟩
theorem sc_ring_at : FnScope ["_law_lines", "_law_at_here", "_law_due", "_law_seen", "_law_goal"] ["_law_lines", "_law_at_here"] (defScope s_ring_at) := ⟨rfl, rfl, rfl, by decide +kernel, rfl, by decide +kernel, by decide +kernel⟩
theorem sc_without_rings : FnScope ["_law_lines", "_law_rings", "_law_found", "_law_at_here"] ["_law_lines"] (defScope s_without_rings) := ⟨rfl, rfl, rfl, by decide +kernel, rfl, by decide +kernel, by decide +kernel⟩
noncomputable def spAnyLine (K : PySem.W.Frag) : Sp := fun vs H Q _ => ExQ Q (fun (c : Int) Q => ExQ Q (fun (names : Int) Q => ExQ Q (fun (rows : Int) Q => ExQ Q (fun (many : Int) Q => vs = [.int c, .int names, .int rows, .int many] ∧ 0 < names ∧ names ≤ 100 ∧ 0 < rows ∧ rows ≤ 100 ∧ 0 < many ∧
  ∀ (d : D) (v : V) (H' : Hp), LineD names rows (-1) many d → Same H H' → Is K H' d v → Q v H'))))
theorem word_any {i : Int} (h0 : 0 ≤ i) (h1 : i < 13) : ∃ wd : Str, atI [V.str "set", .str "sum", .str "take", .str "tell", .str "test", .str "ask", .str "end", .str "len", .str "get", .str "put", .str "get", .str "put", .str "test"] i = some (.str wd) ∧
    (wd = "test" ∨ wd = "ask" ∨ wd = "end" ∨ wd = "set" ∨ wd = "sum" ∨ wd = "take" ∨ wd = "tell" ∨ (wd = "len" ∨ wd = "get" ∨ wd = "put")) := by
  have hi : i = 0 ∨ i = 1 ∨ i = 2 ∨ i = 3 ∨ i = 4 ∨ i = 5 ∨ i = 6 ∨ i = 7 ∨ i = 8 ∨ i = 9 ∨ i = 10 ∨ i = 11 ∨ i = 12 := by omega
  rcases hi with rfl | rfl | rfl | rfl | rfl | rfl | rfl | rfl | rfl | rfl | rfl | rfl | rfl
  · exact ⟨"set", rfl, .inr (.inr (.inr (.inl rfl)))⟩
  · exact ⟨"sum", rfl, .inr (.inr (.inr (.inr (.inl rfl))))⟩
  · exact ⟨"take", rfl, .inr (.inr (.inr (.inr (.inr (.inl rfl)))))⟩
  · exact ⟨"tell", rfl, .inr (.inr (.inr (.inr (.inr (.inr (.inl rfl))))))⟩
  · exact ⟨"test", rfl, .inl rfl⟩
  · exact ⟨"ask", rfl, .inr (.inl rfl)⟩
  · exact ⟨"end", rfl, .inr (.inr (.inl rfl))⟩
  · exact ⟨"len", rfl, .inr (.inr (.inr (.inr (.inr (.inr (.inr (.inl rfl)))))))⟩
  · exact ⟨"get", rfl, .inr (.inr (.inr (.inr (.inr (.inr (.inr (.inr (.inl rfl))))))))⟩
  · exact ⟨"put", rfl, .inr (.inr (.inr (.inr (.inr (.inr (.inr (.inr (.inr rfl))))))))⟩
  · exact ⟨"get", rfl, .inr (.inr (.inr (.inr (.inr (.inr (.inr (.inr (.inl rfl))))))))⟩
  · exact ⟨"put", rfl, .inr (.inr (.inr (.inr (.inr (.inr (.inr (.inr (.inr rfl))))))))⟩
  · exact ⟨"test", rfl, .inl rfl⟩
noncomputable def nats (l : List Nat) : List Int := l.map fun (k : Nat) => (k : Int)
noncomputable def fr (n : Nat) (seen : List Nat) : Nat := (List.range n).countP fun x => decide (¬ x ∈ seen)
theorem fr_lt {n g : Nat} {seen : List Nat} (hg : g < n) (h : ¬ g ∈ seen) : fr n (seen ++ [g]) < fr n seen := by
  refine countP_lt (fun x _ hx => ?_) ⟨g, List.mem_range.mpr hg, ?_, ?_⟩
  · refine decide_eq_true fun z => ?_
    have := of_decide_eq_true hx
    exact this (List.mem_append_left _ z)
  · exact decide_eq_false fun z => z (List.mem_append_right _ (List.mem_singleton.mpr rfl))
  · exact decide_eq_true h
theorem fr_le (n : Nat) (seen : List Nat) : fr n seen ≤ n := by
  have := List.countP_le_length (p := fun x => decide (¬ x ∈ seen)) (l := List.range n)
  rw [List.length_range] at this
  exact this
noncomputable def Shut (ls : List Ln) (i : Nat) (seen : List Nat) (x : Nat) : Prop := ∀ bs k m, ls[x]? = some (.ask bs k m) → ∀ g, g = k ∨ g = m → g ≠ i ∧ (AsksAt ls g → g ∈ seen)
theorem Shut.mono {ls : List Ln} {i x : Nat} {seen : List Nat} (g : Nat) (h : Shut ls i seen x) : Shut ls i (seen ++ [g]) x := fun bs k m e y hy => ⟨(h bs k m e y hy).1, fun a => List.mem_append_left _ ((h bs k m e y hy).2 a)⟩
structure Srch (ls : List Ln) (due seen : List Nat) : Prop where
  ask : ∀ x ∈ due, AsksAt ls x
  len : due.length ≤ seen.length + 1
  size : seen.length + fr ls.length seen ≤ ls.length
theorem Srch.add {ls : List Ln} {due seen : List Nat} (h : Srch ls due seen) {g : Nat} (ha : AsksAt ls g) (hg : ¬ g ∈ seen) : Srch ls (due ++ [g]) (seen ++ [g]) := by
  obtain ⟨bs, k, m, e⟩ := ha
  have h1 := h.len
  have h2 := h.size
  have h3 := fr_lt (List.getElem?_eq_some_iff.mp e).1 hg
  refine ⟨fun x hx => ?_, by simp only [List.length_append, List.length_singleton]; omega, by simp only [List.length_append, List.length_singleton]; omega⟩
  rcases List.mem_append.mp hx with z | z
  · exact h.ask x z
  · rw [List.mem_singleton.mp z]; exact ⟨bs, k, m, e⟩
theorem in_nats {g : Nat} {l : List Nat} : inV (.int (g : Int)) (intsV (nats l)) = true ↔ g ∈ l := by
  unfold inV intsV nats
  rw [List.any_eq_true]
  constructor
  · rintro ⟨y, hy, e⟩
    obtain ⟨z, hz, rfl⟩ := List.mem_map.mp hy
    obtain ⟨k, hk, rfl⟩ := List.mem_map.mp hz
    have : ((k : Int) == (g : Int)) = true := e
    have := Int.ofNat.inj (beq_iff_eq.mp this)
    rw [← this]; exact hk
  · intro h
    exact ⟨_, List.mem_map.mpr ⟨_, List.mem_map.mpr ⟨g, h, rfl⟩, rfl⟩, beq_iff_eq.mpr rfl⟩
theorem flat_ints (l : List Int) : (intsV l).all flatV = true := by
  rw [List.all_eq_true]; intro x hx
  obtain ⟨z, _, rfl⟩ := List.mem_map.mp hx
  rfl
theorem ask_word {l : Ln} (h : l.word = "ask") : ∃ bs k m, l = .ask bs k m := by
  cases l with
  | ask bs k m => exact ⟨bs, k, m, rfl⟩
  | deed d k => exact absurd h (word_not (by decide))
  | test => exact absurd h (show ¬ (("test" : Str) = "ask") by decide)
  | stop => exact absurd h (show ¬ (("end" : Str) = "ask") by decide)
theorem nats_app (l : List Nat) (g : Nat) : intsV (nats l) ++ [V.int (g : Int)] = intsV (nats (l ++ [g])) := by unfold nats; rw [List.map_append, ints_app1]; rfl
theorem len_nats (l : List Nat) : (intsV (nats l)).length = l.length := by rw [len_ints]; unfold nats; rw [List.length_map]
noncomputable def RingW (H : Hp) (al pd ps : Addr) (ls : List Ln) (i : Nat) (μ : Nat) (σ : L2.St) (H' : Hp) : Prop := ∃ due seen y4, σ = [some (.ref al), some (.int (i : Int)), some (.ref pd), some (.ref ps), y4] ∧ Same H H' ∧ H' pd = some (.lst (intsV (nats due))) ∧ H' ps = some (.lst (intsV (nats seen))) ∧ Srch ls due seen ∧
  (∀ x, (x = i ∨ x ∈ seen) → x ∈ due ∨ Shut ls i seen x) ∧ μ = due.length + 2 * fr ls.length seen
noncomputable def spRingAt (K : PySem.W.Frag) : Sp := fun vs H Q _ => ExQ Q (fun (al : Addr) Q => ExQ Q (fun (xs : List V) Q => ExQ Q (fun (ls : List Ln) Q => ExQ Q (fun (nm : Nat) Q => ExQ Q (fun (rw : Nat) Q => ExQ Q (fun (i : Nat) Q => vs = [.ref al, .int (i : Int)] ∧ SqL K H al xs ∧ IsL K H (ls.map Ln.D) xs ∧ AllOk ls nm rw ∧ ls.length ≤ 100 ∧ AsksAt ls i ∧ ∀ b H', Same H H' → (b = false → NoRing ls i) → Q (.bl b) H'))))))
noncomputable def spWithout (K : PySem.W.Frag) : Sp := fun vs H Q _ => ExQ Q (fun (al : Addr) Q => ExQ Q (fun (xs : List V) Q => ExQ Q (fun (ls : List Ln) Q => ExQ Q (fun (nm : Nat) Q => ExQ Q (fun (rw : Nat) Q => vs = [.ref al] ∧ SqL K H al xs ∧ IsL K H (ls.map Ln.D) xs ∧ AllOk ls nm rw ∧ ls.length ≤ 100 ∧ 0 < nm ∧
  ∀ (ls' : List Ln) (l' : Addr) (xs' : List V) H', Same H H' → H' l' = some (.lst xs') → H l' = none → IsL K H' (ls'.map Ln.D) xs' → ls'.length = ls.length → AllOk ls' nm rw → (∀ (i : Nat) bs k m, ls'[i]? = some (.ask bs k m) → ls[i]? = some (.ask bs k m) ∧ NoRing ls i) → Q (.ref l') H')))))
section
variable {P : Program} {w : World} {K : PySem.W.Frag} {mg : Str → Option Value} {base : Heap} {f : Addr} {fd : FuncData} {n : Nat} {C : Addr}
theorem IsL.setL {H : Hp} : ∀ {ds : List D} {vs : List V} (j : Nat) {d : D} {v : V}, IsL K H ds vs → Is K H d v → IsL K H (ds.set j d) (vs.set j v)
  | [], vs, j, d, v, h, _ => by rw [h.nil_inv]; exact isl_nil
  | e :: ds, vs, 0, d, v, h, k => by
    obtain ⟨u, r, rfl, _, q⟩ := h.cons_inv
    exact isl_cons k q
  | e :: ds, vs, j + 1, d, v, h, k => by
    obtain ⟨u, r, rfl, p, q⟩ := h.cons_inv
    exact isl_cons p (IsL.setL j q k)
theorem ok_any_line (F : Fun K "_law_any_line" "_law_any_line" s_any_line f fd) (c_law_pick : Cl P w K mg base "_law_pick" n ["_law_cell_here", "_law_k", "_law_many"] spPick) (c_law_number : Cl P w K mg base "_law_number" n ["_law_cell_here"] spNumber)
    (c_law_maybe : Cl P w K mg base "_law_maybe" n ["_law_cell_here", "_law_names"] spMaybe) (c_law_ask : Cl P w K mg base "_law_ask" n ["_law_cell_here", "_law_names", "_law_rows", "_law_at_here", "_law_many"] (spAsk K)) (c_law_plain : Cl P w K mg base "_law_plain" n ["_law_word", "_law_cell_here", "_law_names", "_law_rows", "_law_goal"] (spPlain K)) :
    FnOk P w K mg base CX0 (n + 1) f fd ["_law_cell_here", "_law_names", "_law_rows", "_law_many"] (spAnyLine K) := by
  refine F.ok sc_any_line (fun vs H Q E h => ?_) (fun cdv A outer s H vs Q E hr h => ?_)
  · obtain ⟨c, names, rows, many, rfl, _⟩ := h
    rfl
  obtain ⟨c, names, rows, many, rfl, n0, n1, r0, r1, m0, q⟩ := h
  have sc := sc_any_line
  refine ⟨_, (@pss_cons _ _ _ _ _ (@ps_set _ _ 4 _ _ _ _ sc.nd rfl (Or.inl rfl) (@pe_lst _ _ _ _ (@pa_consts _ _ _ rfl)) rfl (by first | exact .inl rfl | exact .inr rfl))
      (@pss_cons _ _ _ _ _ (ps_set (i := 5) sc.nd rfl (Or.inl rfl) (pe_ix ix_list (pv 4) (pe_cl c_law_pick hr rfl (pa_cons (pv 0) (pa_cons pe_int (pa_cons pe_int pa_nil)))) (fun _ _ => rfl)))
      (@pss_cons _ _ _ _ _ (ps_set (i := 6) sc.nd rfl (Or.inl rfl) (pe_cl c_law_pick hr rfl (pa_cons (pv 0) (pa_cons pe_int (pa_cons (pv 3) pa_nil)))))
      (@pss_cons _ _ _ _ _ (ps_set (i := 7) sc.nd rfl (Or.inl rfl) (pe_cl c_law_pick hr rfl (pa_cons (pv 0) (pa_cons pe_int (pa_cons (pv 3) pa_nil)))))
      (@pss_cons _ _ _ _ _ (ps_if (pt_cmpR op_eq (pv 5) pe_str (nomark _)) (pss_one (ps_ret (pe_tup (pa_cons pe_str pa_nil)))) pss_nil)
      (@pss_cons _ _ _ _ _ (ps_if (pt_cmpR op_eq (pv 5) pe_str (nomark _)) (pss_one (ps_ret (pe_op op_catT (pe_slice sl_tup (pe_cl c_law_ask hr rfl (pa_cons (pv 0) (pa_cons (pv 1) (pa_cons (pv 2) (pa_cons pe_int (pa_cons pe_int pa_nil)))))) po_none (po_some pe_int)) (pe_tup (pa_cons (pv 6) (pa_cons (pv 7) pa_nil)))))) pss_nil)
      (@pss_cons _ _ _ _ _ (ps_if (pt_cmpR op_eq (pv 5) pe_str (nomark _)) (@pss_cons _ _ _ _ _ (ps_set (i := 8) sc.nd rfl (Or.inl rfl) (pe_cl c_law_maybe hr rfl (pa_cons (pe_cl c_law_pick hr rfl (pa_cons (pv 0) (pa_cons pe_int (pa_cons pe_int pa_nil)))) (pa_cons (pv 1) pa_nil))))
      (@pss_cons _ _ _ _ _ (ps_set (i := 9) sc.nd rfl (Or.inl rfl) (pe_cl c_law_maybe hr rfl (pa_cons (pe_cl c_law_pick hr rfl (pa_cons (pv 0) (pa_cons pe_int (pa_cons pe_int pa_nil)))) (pa_cons (pv 1) pa_nil))))
      (pss_one (ps_ret (pe_tup (pa_cons pe_str (pa_cons (pv 8) (pa_cons (pv 9) (pa_cons (pe_cl c_law_number hr rfl (pa_cons (pe_cl c_law_pick hr rfl (pa_cons (pv 0) (pa_cons pe_int (pa_cons pe_int pa_nil)))) pa_nil)) (pa_cons (pv 6) (pa_cons (pv 7) pa_nil))))))))))) pss_nil)
      (pss_one (ps_ret (pe_cl c_law_plain hr rfl (pa_cons (pv 5) (pa_cons (pv 0) (pa_cons (pv 1) (pa_cons (pv 2) (pa_cons (pv 6) pa_nil))))))))))))))), ?_⟩
  refine ⟨Nat.le_of_ble_eq_true rfl, fun l hl => ?_⟩
  refine ⟨_, rfl, _, rfl, c, 1, 13, rfl, by decide, by decide, by decide, fun i i0 i1 => ?_⟩
  obtain ⟨wd, ew, hw⟩ := word_any i0 i1
  refine ⟨l, _, i, _, rfl, rfl, SqL.of upd_same, ew, ?_⟩
  have s1 : Same H (upd H l (.lst [V.str "set", .str "sum", .str "take", .str "tell", .str "test", .str "ask", .str "end", .str "len", .str "get", .str "put", .str "get", .str "put", .str "test"])) := same_new hl _
  generalize upd H l (.lst [V.str "set", .str "sum", .str "take", .str "tell", .str "test", .str "ask", .str "end", .str "len", .str "get", .str "put", .str "get", .str "put", .str "test"]) = H1 at s1
  refine ⟨_, rfl, _, rfl, c, 7, many, rfl, by decide, by decide, m0, fun g g0 g1 => ?_⟩
  refine ⟨_, rfl, _, rfl, c, 10, many, rfl, by decide, by decide, m0, fun o o0 o1 => ?_⟩
  refine ⟨_, rfl, rfl, _, rfl, ite2 (fun ce => ?_) (fun ce => ?_)⟩
  · refine ⟨Nat.le_of_ble_eq_true rfl, fun t ht => ?_⟩
    exact q _ _ _ .end_ (s1.trans (same_new ht _)) (is_tup (SqT.of upd_same) (isl_cons is_str isl_nil))
  have we := str_f ce
  refine ⟨_, rfl, rfl, _, rfl, ite2 (fun ca => ?_) (fun ca => ?_)⟩
  · refine ⟨_, rfl, _, rfl, _, rfl, c, names, rows, 0, 2, rfl, by omega, n1, by omega, r1, by decide, by decide, fun d v H2 ad s2 is2 => ?_⟩
    obtain ⟨bs, k, m, rfl, b1, b2, hb, _⟩ := ad
    obtain ⟨a, xs, rfl, hq, il⟩ := is2.tup_inv
    obtain ⟨u0, rr0, rfl, iu0, il1⟩ := il.cons_inv
    obtain ⟨u1, rr1, rfl, iu1, il2⟩ := il1.cons_inv
    obtain ⟨u2, rr2, rfl, iu2, il3⟩ := il2.cons_inv
    obtain ⟨u3, rr3, rfl, iu3, il4⟩ := il3.cons_inv
    cases il4.nil_inv
    cases iu0.str_inv
    refine ⟨_, rfl, a, _, rfl, hq, (show ¬ (HT.sIx 4 0 none = 0 ∧ HT.sIx 4 4 (some 2) = 4) by decide), fun p hp => ?_⟩
    have s3 := same_new hp (.tup [.str "ask", u1])
    refine ⟨_, rfl, _, rfl, Nat.le_of_ble_eq_true rfl, fun p2 hp2 => ?_⟩
    have s4 := same_new hp2 (.tup [.int g, .int o])
    refine ⟨p, p2, _, _, rfl, rfl, SqT.of (s4 _ _ upd_same), SqT.of upd_same, (fun z => by cases z), Nat.le_of_ble_eq_true rfl, (fun z => by cases z), fun _ p3 hp3 => ?_⟩
    have s5 := same_new hp3 (.tup [.str "ask", u1, .int g, .int o])
    have s25 := s3.trans (s4.trans s5)
    exact q (.tup [.str "ask", .tup bs, .int g, .int o]) _ _ (.ask bs g o b1 b2 hb (by omega) g1 (by omega) o1) (s1.trans (s2.trans s25)) (is_tup (SqT.of upd_same) (isl_cons is_str (isl_cons (iu1.mono s25.tups) (isl_cons is_int (isl_cons is_int isl_nil)))))
  have wa := str_f ca
  refine ⟨_, rfl, rfl, _, rfl, ite2 (fun ct => ?_) (fun ct => ?_)⟩
  · refine ⟨_, rfl, c, 8, 1000, rfl, by decide, by decide, by decide, fun k1 _ _ => ⟨_, rfl, k1, names, rfl, by omega, fun y hy => ?_⟩⟩
    refine ⟨_, rfl, c, 9, 1000, rfl, by decide, by decide, by decide, fun k2 _ _ => ⟨_, rfl, k2, names, rfl, by omega, fun y2 hy2 => ?_⟩⟩
    obtain ⟨yd, yD, yis⟩ := maybe_is hy
    obtain ⟨zd, zD, zis⟩ := maybe_is hy2
    refine ⟨_, rfl, _, rfl, _, rfl, c, 3, 100000, rfl, by decide, by decide, by decide, fun k3 _ _ => ⟨k3, rfl, fun cn cn0 cn1 H3 s3 => ?_⟩⟩
    refine ⟨_, rfl, _, rfl, Nat.le_of_ble_eq_true rfl, fun t ht => ?_⟩
    exact q _ _ _ (.test yd zd cn g o yD zD cn0 cn1 g0 g1 o0 o1) (s1.trans (s3.trans (same_new ht _))) (is_tup (SqT.of upd_same) (isl_cons is_str (isl_cons (yis _ _) (isl_cons (zis _ _) (isl_cons is_int (isl_cons is_int (isl_cons is_int isl_nil)))))))
  have wt := str_f ct
  refine ⟨_, rfl, _, rfl, _, rfl, _, rfl, _, rfl, wd, c, names, rows, g, -1, many, rfl, n0, g0, g1, ?_, fun d v H3 ld s3 is3 => q d v H3 ld (s1.trans s3) is3⟩
  rcases hw with e | e | e | e | e | e | e | e
  · exact absurd e wt
  · exact absurd e wa
  · exact absurd e we
  · exact .inl e
  · exact .inr (.inl e)
  · exact .inr (.inr (.inl e))
  · exact .inr (.inr (.inr (.inl e)))
  · exact .inr (.inr (.inr (.inr ⟨r0, e⟩)))
theorem ok_ring_at (F : Fun K "_law_ring_at" "_law_ring_at" s_ring_at f fd) : FnOk P w K mg base CX0 (n + 1) f fd ["_law_lines", "_law_at_here"] (spRingAt K) := by
  refine F.ok sc_ring_at (fun vs H Q E h => ?_) (fun cdv A outer s H vs Q E hr h => ?_)
  · obtain ⟨al, xs, ls, nm, rw, i, rfl, _⟩ := h
    rfl
  have hu : (A.deeper (envOfC "_law_ring_at" (defScope s_ring_at) s.heap.objs.size f cdv)).units + 1 + 1 < cLine := by have := hr.units; omega
  obtain ⟨al, xs, ls, nm, rw, i, rfl, hl, il, ok, h100, hask, q⟩ := h
  have sc := sc_ring_at
  refine ⟨_, (@pss_cons _ _ _ _ _ (ps_set (i := 2) sc.nd rfl (Or.inl rfl) (pe_lst (pa_cons (pv 1) pa_nil)))
      (@pss_cons _ _ _ _ _ (ps_set (i := 3) sc.nd rfl (Or.inl rfl) (pe_lst pa_nil))
      (@pss_cons _ _ _ _ _ (ps_while PassesOwn.never (pt_cmpR (op_neDL (n := 1) hu) (pv 2) (pe_lst pa_nil) (nomark _)) (pss_one (ps_for PassesOwn.never rfl (pi_tup (pe_slice sl_tup (pe_ix ix_list (pv 0) (pe_bm0 PySem.F.plainAttrs_list PySem.F.slot_list_pop PySem.F.type_list_pop mt_pop (pv 2)) (fun _ _ => rfl)) (po_some pe_int) po_none)) (pg_name (i := 4) sc.nd rfl (Or.inl rfl)) (@pss_cons _ _ _ _ _ (ps_if (pt_cmpR op_eq (pv 4) (pv 1) (nomark _)) (pss_one (ps_ret pe_bl)) pss_nil)
      (pss_one (ps_if (PW.pt (pw_and (pt_cmpR op_eq (pe_ix ix_tup (pe_ix ix_list (pv 0) (pv 4) (fun _ _ => rfl)) pe_int (fun _ _ => rfl)) pe_str (nomark _)) (pw_and1 (pt_cmpR op_notIn_seq (pv 4) (pv 3) (by with_unfolding_all rfl))))) (@pss_cons _ _ _ _ _ (ps_expr (pe_bm PySem.F.plainAttrs_list PySem.F.slot_list_append PySem.F.type_list_append mt_append (pv 3) (pa_cons (pv 4) pa_nil)))
      (pss_one (ps_expr (pe_bm PySem.F.plainAttrs_list PySem.F.slot_list_append PySem.F.type_list_append mt_append (pv 2) (pa_cons (pv 4) pa_nil))))) pss_nil))))))
      (pss_one (ps_ret pe_bl))))), ?_⟩
  refine ⟨_, rfl, Nat.le_of_ble_eq_true rfl, fun pd npd => ⟨Nat.le_of_ble_eq_true rfl, fun ps nps => ?_⟩⟩
  have hi : i < ls.length := by obtain ⟨_, _, _, e⟩ := hask; exact (List.getElem?_eq_some_iff.mp e).1
  have hne : pd ≠ ps := ne_p (upd_same (H := H) (a := pd) (o := .lst [.int (i : Int)])) nps
  have nps0 : H ps = none := none_of_same (same_new npd (.lst [.int (i : Int)])) nps
  refine ⟨RingW H al pd ps ls i, ⟨_, [i], [], none, rfl, (same_new npd (.lst [.int (i : Int)])).trans (same_new nps (.lst [])), by rw [upd_ne hne]; exact upd_same, upd_same, ⟨fun x hx => by rw [List.mem_singleton.mp hx]; exact hask, Nat.le_refl _, by have := fr_le ls.length []; simpa using this⟩, fun x hx => ?_, rfl⟩, fun μ σ H' h => ?_⟩
  · rcases hx with e | e
    · exact .inl (List.mem_singleton.mpr e)
    · cases e
  obtain ⟨due, seen, y4, rfl, sm, ed, es, S, hd, rfl⟩ := h
  refine ⟨_, rfl, Nat.le_of_ble_eq_true rfl, fun p np => ?_⟩
  have u1 := same_new np (.lst [])
  have ed1 := u1 _ _ ed
  have es1 := u1 _ _ es
  have ep : upd H' p (.lst []) p = some (.lst []) := upd_same
  have sm1 := sm.trans u1
  generalize upd H' p (.lst []) = H1 at *
  clear sm ed es
  refine ⟨pd, p, _, _, _, _, rfl, rfl, SqL.of ed1, SqL.of ep, intV_isl _, isl_nil, by rw [dep_intl]; decide, ?_⟩
  by_cases hnil : due = []
  · subst hnil
    refine ⟨false, (by show V.bl (!D.beqL ([] : List D) []) = V.bl false; rw [D.beqL_self]; rfl), iteF ?_⟩
    refine q false H1 sm1 fun _ => ⟨fun x => x = i ∨ x ∈ seen, .inl rfl, fun x hx bs k m e g hg => ?_⟩
    rcases hd x hx with z | z
    · cases z
    · exact ⟨(z bs k m e g hg).1, fun a => .inr ((z bs k m e g hg).2 a)⟩
  obtain ⟨due0, x, hws⟩ : ∃ ws0 a, due = ws0 ++ [a] := ⟨due.dropLast, due.getLast hnil, (List.dropLast_concat_getLast hnil).symm⟩
  subst hws
  have ebq : (!D.beqL ((nats (due0 ++ [x])).map D.int) []) = true := by
    cases due0 with
    | nil => show (!D.beqL (D.int (x : Int) :: _) []) = true; unfold D.beqL; rfl
    | cons a r => show (!D.beqL (D.int (a : Int) :: _) []) = true; unfold D.beqL; rfl
  refine ⟨true, (by show V.bl (!D.beqL ((nats (due0 ++ [x])).map D.int) []) = V.bl true; rw [ebq]), iteT ?_⟩
  refine ⟨fun σ' H2 => ∃ m', m' < (due0 ++ [x]).length + 2 * fr ls.length seen ∧ RingW H al pd ps ls i m' σ' H2, fun σ' H2 h => h, ?_⟩
  obtain ⟨bs, k, m, ex⟩ := S.ask x (by simp)
  have okx := ok _ (List.mem_of_getElem? ex)
  have enat : intsV (nats (due0 ++ [x])) = intsV (nats due0) ++ [V.int (x : Int)] := (nats_app due0 x).symm
  refine ⟨_, rfl, _, rfl, .inl ⟨rfl, _, SqL.of ed1⟩, pd, _, V.int (x : Int), rfl, rfl, ed1, (by rw [enat]; simp), ?_⟩
  have edl : (intsV (nats (due0 ++ [x]))).dropLast = intsV (nats due0) := by rw [enat]; simp
  rw [edl]
  have sm2 : Same H (upd H1 pd (.lst (intsV (nats due0)))) := Same.new sm1 npd
  have ed2 : upd H1 pd (.lst (intsV (nats due0))) pd = some (.lst (intsV (nats due0))) := upd_same
  have es2 : upd H1 pd (.lst (intsV (nats due0))) ps = some (.lst (intsV (nats seen))) := by rw [upd_ne hne.symm]; exact es1
  generalize upd H1 pd (.lst (intsV (nats due0))) = H2 at *
  clear ed1 es1 sm1 ep u1
  obtain ⟨v, ev, iv⟩ := (il.mono sm2.tups).get (j := x) (d := (Ln.ask bs k m).D) (by rw [List.getElem?_map, ex]; rfl)
  obtain ⟨a, vs, rfl, hq, ia⟩ := ln_inv iv
  obtain ⟨vb, r1, rfl, ib, ia1⟩ := any1 ia
  obtain ⟨r2, rfl, ia2⟩ := int1 ia1
  obtain ⟨r3, rfl, ia3⟩ := int1 ia2
  cases ia3.nil_inv
  refine ⟨al, xs, _, _, rfl, rfl, sm2.seq hl, atI_nat ev, _, rfl, a, _, rfl, hq, (show ¬ (HT.sIx 4 0 (some 2) = 0 ∧ HT.sIx 4 4 none = 4) by decide), fun pt npt => ?_⟩
  have u3 := same_new npt (.tup [.int (k : Int), .int (m : Int)])
  have ept : upd H2 pt (.tup [.int (k : Int), .int (m : Int)]) pt = some (.tup [.int (k : Int), .int (m : Int)]) := upd_same
  refine ⟨pt, rfl, ⟨_, SqT.of ept⟩, for_tup (xs := [.int (k : Int), .int (m : Int)]) (fun j σ H3 => ∃ due' seen' y4, σ = [some (.ref al), some (.int (i : Int)), some (.ref pd), some (.ref ps), y4] ∧ Same H H3 ∧ H3 pt = some (.tup [.int (k : Int), .int (m : Int)]) ∧ H3 pd = some (.lst (intsV (nats due'))) ∧ H3 ps = some (.lst (intsV (nats seen'))) ∧ Srch ls due' seen' ∧
      (∀ y, (y = i ∨ y ∈ seen') → y ≠ x → y ∈ due' ∨ Shut ls i seen' y) ∧ (∀ g, ((0 < j ∧ g = k) ∨ (1 < j ∧ g = m)) → g ≠ i ∧ (AsksAt ls g → g ∈ seen')) ∧ due'.length + 2 * fr ls.length seen' ≤ due0.length + 2 * fr ls.length seen)
    ⟨due0, seen, _, rfl, sm2.trans u3, ept, u3 _ _ ed2, u3 _ _ es2, ⟨fun y hy => S.ask y (by simp [hy]), by have := S.len; simp at this; omega, S.size⟩, fun y hy ny => ?_, fun g hg => by omega, Nat.le_refl _⟩ (fun j σ H3 _ h => ?_) (fun j y σ H3 ey h => ?_) (fun σ H3 h => ?_)⟩
  · rcases hd y hy with z | z
    · rcases List.mem_append.mp z with z | z
      · exact .inl z
      · exact absurd (List.mem_singleton.mp z) ny
    · exact .inr z
  · obtain ⟨_, _, _, _, _, ep3, _⟩ := h
    exact SqT.of ep3
  · obtain ⟨due', seen', y4', rfl, sm3, ep3, ed3, es3, S3, hd3, hk3, hm3⟩ := h
    obtain ⟨g, rfl, hg, hgk⟩ : ∃ g : Nat, y = .int (g : Int) ∧ g < ls.length ∧ ((j = 0 ∧ g = k) ∨ (j = 1 ∧ g = m)) := by
      match j, ey with
      | 0, ey => cases ey; exact ⟨k, rfl, okx.2.2.1, .inl ⟨rfl, rfl⟩⟩
      | 1, ey => cases ey; exact ⟨m, rfl, okx.2.2.2, .inr ⟨rfl, rfl⟩⟩
      | j + 2, ey => cases ey
    refine ⟨_, rfl, _, rfl, rfl, _, rfl, ite2 (fun c1 => ?_) (fun c1 => ?_)⟩
    · exact q true H3 sm3 fun z => by cases z
    have ngi : g ≠ i := fun e => c1 (decide_eq_true (by rw [e]))
    have nextk : ∀ seen2 : List Nat, (∀ y, y ∈ seen' → y ∈ seen2) → (AsksAt ls g → g ∈ seen2) → ∀ g2, ((0 < j + 1 ∧ g2 = k) ∨ (1 < j + 1 ∧ g2 = m)) → g2 ≠ i ∧ (AsksAt ls g2 → g2 ∈ seen2) := fun seen2 mo hg2 g2 h2 => by
      by_cases e : g2 = g
      · rw [e]; exact ⟨ngi, hg2⟩
      · have h3 := hk3 g2 (by omega)
        exact ⟨h3.1, fun a => mo _ (h3.2 a)⟩
    have eg := List.getElem?_eq_getElem hg
    obtain ⟨v, ev, iv⟩ := (il.mono sm3.tups).get (j := g) (d := (ls[g]).D) (by rw [List.getElem?_map, eg]; rfl)
    obtain ⟨ag, vg, rfl, hqg, _⟩ := ln_inv iv
    refine ⟨_, rfl, _, rfl, al, xs, _, _, rfl, rfl, sm3.seq hl, atI_nat ev, ag, _, 0, _, rfl, rfl, hqg, at0 _ _, rfl, _, rfl, ite2 (fun c2 => ?_) (fun c2 => ?_)⟩
    rotate_left
    · refine iteF ⟨due', seen', _, rfl, sm3, ep3, ed3, es3, S3, hd3, nextk seen' (fun _ h => h) (fun a => ?_), hm3⟩
      obtain ⟨bs2, k2, m2, e2⟩ := a
      have e3 := Option.some.inj (eg.symm.trans e2)
      exact absurd (decide_eq_true (by rw [e3]; rfl)) c2
    have asg : AsksAt ls g := by
      obtain ⟨bs2, k2, m2, e2⟩ := ask_word (V.str.inj (of_decide_eq_true c2))
      rw [e2] at eg
      exact ⟨bs2, k2, m2, eg⟩
    refine ⟨_, rfl, _, rfl, ps, _, rfl, .inl (SqL.of es3), rfl, flat_ints _, _, rfl, ite2 (fun c3 => ?_) (fun c3 => ?_)⟩
    · have nin : ¬ g ∈ seen' := fun z => by
        have : (!inV (V.int (g : Int)) (intsV (nats seen'))) = true := c3
        rw [in_nats.mpr z] at this; cases this
      have l1 := S3.len
      have l2 := S3.size
      refine ⟨_, rfl, .inl ⟨rfl, _, SqL.of es3⟩, _, rfl, ps, _, _, rfl, rfl, es3, small1000 (by rw [len_nats]; omega), ?_⟩
      have ed4 : upd H3 ps (.lst (intsV (nats seen') ++ [V.int (g : Int)])) pd = some (.lst (intsV (nats due'))) := by rw [upd_ne hne]; exact ed3
      refine ⟨_, rfl, .inl ⟨rfl, _, SqL.of ed4⟩, _, rfl, pd, _, _, rfl, rfl, ed4, small1000 (by rw [len_nats]; omega), ?_⟩
      have flt := fr_lt hg nin
      refine ⟨due' ++ [g], seen' ++ [g], _, rfl, Same.new (Same.new sm3 nps0) npd, ?_, by rw [upd_same, nats_app], by rw [upd_ne hne.symm, upd_same, nats_app], S3.add asg nin, fun y hy ny => ?_, nextk _ (fun y h => List.mem_append_left _ h) (fun _ => List.mem_append_right _ (List.mem_singleton.mpr rfl)), by rw [List.length_append]; simp only [List.length_singleton]; omega⟩
      · rw [upd_ne (ne_of ep3 ed3 (by intro z; cases z)), upd_ne (ne_of ep3 es3 (by intro z; cases z))]; exact ep3
      · by_cases e : y = g
        · rw [e]; exact .inl (List.mem_append_right _ (List.mem_singleton.mpr rfl))
        · have hy' : y = i ∨ y ∈ seen' := by
            rcases hy with z | z
            · exact .inl z
            · rcases List.mem_append.mp z with z | z
              · exact .inr z
              · exact absurd (List.mem_singleton.mp z) e
          rcases hd3 y hy' ny with z | z
          · exact .inl (List.mem_append_left _ z)
          · exact .inr (z.mono g)
    · have isin : g ∈ seen' := by
        by_cases z : g ∈ seen'
        · exact z
        · refine absurd (?_ : (!inV (V.int (g : Int)) (intsV (nats seen'))) = true) c3
          cases e : inV (V.int (g : Int)) (intsV (nats seen')) with
          | false => rfl
          | true => exact absurd (in_nats.mp e) z
      exact ⟨due', seen', _, rfl, sm3, ep3, ed3, es3, S3, hd3, nextk seen' (fun _ h => h) (fun _ => isin), hm3⟩
  · obtain ⟨due', seen', y4', rfl, sm3, ep3, ed3, es3, S3, hd3, hk3, hm3⟩ := h
    refine ⟨_, ?_, due', seen', _, rfl, sm3, ed3, es3, S3, fun y hy => ?_, rfl⟩
    · simp only [List.length_append, List.length_singleton]; omega
    · by_cases e : y = x
      · refine .inr fun bs2 k2 m2 e2 g hg => ?_
        rw [e, ex] at e2
        cases e2
        refine hk3 g ?_
        rcases hg with z | z
        · exact .inl ⟨show 0 < 2 by decide, z⟩
        · exact .inr ⟨show 1 < 2 by decide, z⟩
      · exact hd3 y hy e
theorem ok_without_rings (F : Fun K "_law_without_rings" "_law_without_rings" s_without_rings f fd) (m_len : mg "len" = none) (m_list : mg "list" = none) (m_range : mg "range" = none) (c_law_ring_at : Cl P w K mg base "_law_ring_at" n ["_law_lines", "_law_at_here"] (spRingAt K)) : FnOk P w K mg base CX0 (n + 1) f fd ["_law_lines"] (spWithout K) := by
  refine F.ok sc_without_rings (fun vs H Q E h => ?_) (fun cdv A outer s H vs Q E hr h => ?_)
  · obtain ⟨al, xs, ls, nm, rw, rfl, _⟩ := h
    rfl
  obtain ⟨al, xs, ls, nm, rw, rfl, hl, il, ok, h100, hnm, q⟩ := h
  have sc := sc_without_rings
  refine ⟨_, (@pss_cons _ _ _ _ _ (ps_ren (j := 3) (y := "?") (ps_setcomp (i := 1) ["_law_at_here"] rfl (cmp_ok (N := ["_law_lines", "_law_rings", "_law_found", "?"]) (so := defScope s_without_rings) rfl rfl (by decide +kernel)) (show List.Nodup (α := Str) ["_law_lines", "_law_rings", "_law_found", "?"] by decide +kernel) rfl (Or.inl rfl) (pi_range1 rfl m_range (pa_cons (pe_callB call_len_seq rfl m_len PySem.boot_len (pa_cons (pv 0) pa_nil)) pa_nil)) (fun _ _ _ _ _ _ => (pg_name (i := 0) (show List.Nodup (α := Str) ["_law_at_here", "_law_lines", "_law_rings", "_law_found", "?"] by decide +kernel) rfl (Or.inl rfl) (Or.inr rfl))) (fun _ _ _ _ _ _ => (pifs_one (PW.pt (pw_and (pt_cmpR op_eq (pe_ix (ix_tupK (K := K) rfl) (pe_ix (ix_listK (K := K) rfl) (pv 1) (pv 0) (fun _ _ => rfl)) pe_int (fun _ _ => rfl)) pe_str (nomark _)) (pw_and1 (pt_val (pe_cl c_law_ring_at hr rfl (pa_cons (pv 1) (pa_cons (pv 0) pa_nil))))))))) (fun _ _ _ _ _ _ => (pv 0)) rfl))
      (@pss_cons _ _ _ _ _ (ps_set (i := 2) sc.nd rfl (Or.inl rfl) (pe_callTy call_list_of rfl m_list PyProof.Rows.boot_list (pa_cons (pv 0) pa_nil)))
      (@pss_cons _ _ _ _ _ (ps_for PassesOwn.never rfl (pi_list (pv 1)) (pg_name (i := 3) sc.nd rfl (Or.inl rfl)) (pss_one (ps_asg (pe_tup (pa_cons pe_str (pa_cons pe_int (pa_cons (pe_ix ix_tup (pe_ix ix_list (pv 0) (pv 3) (fun _ _ => rfl)) pe_int (fun _ _ => rfl)) pa_nil)))) (pg_sub (pv 2) (pv 3) set_list))))
      (pss_one (ps_ret (pv 2)))))), ?_⟩
  have lx : ls.length = xs.length := by have := il.length; rw [List.length_map] at this; exact this
  refine ⟨rfl, _, rfl, al, _, rfl, .inl hl, _, rfl, by omega, by omega, fun p np => ?_⟩
  rw [Int.toNat_natCast]
  refine comp_range (n := xs.length) (fun i H' => Same H H' ∧ ∃ rs : List Nat, H' p = some (.lst (intsV (nats rs))) ∧ rs.length ≤ i ∧ (∀ x ∈ rs, AsksAt ls x) ∧ ∀ x, x < i → AsksAt ls x → x ∈ rs ∨ NoRing ls x) ⟨same_new np _, [], upd_same, Nat.le_refl _, fun x hx => by (cases hx), fun x hx => absurd hx (Nat.not_lt_zero x)⟩ (fun i H' hi h => ?_) (fun H1 h => ?_)
  · obtain ⟨sm, rs, ep, lr, ha, hn⟩ := h
    have hil : i < ls.length := by omega
    refine ⟨⟨[some (.int (0 + (i : Int)))], rfl, rfl⟩, ?_⟩
    rw [Int.zero_add]
    have eg := List.getElem?_eq_getElem hil
    obtain ⟨v, ev, iv⟩ := (il.mono sm.tups).get (j := i) (d := (ls[i]).D) (by rw [List.getElem?_map, eg]; rfl)
    obtain ⟨ag, vg, rfl, hqg, _⟩ := ln_inv iv
    refine ⟨_, rfl, _, rfl, al, xs, _, _, rfl, rfl, sm.seq hl, atI_nat ev, ag, _, 0, _, rfl, rfl, hqg, at0 _ _, rfl, _, rfl, ite2 (fun c2 => ?_) (fun c2 => ?_)⟩
    rotate_left
    · refine iteF ⟨sm, rs, ep, by omega, ha, fun x hx a => ?_⟩
      rcases Nat.lt_succ_iff_lt_or_eq.mp hx with z | z
      · exact hn x z a
      · rw [z] at a
        obtain ⟨bs2, k2, m2, e2⟩ := a
        have e3 := Option.some.inj (eg.symm.trans e2)
        exact absurd (decide_eq_true (by rw [e3]; rfl)) c2
    have asg : AsksAt ls i := by
      obtain ⟨bs2, k2, m2, e2⟩ := ask_word (V.str.inj (of_decide_eq_true c2))
      rw [e2] at eg
      exact ⟨bs2, k2, m2, eg⟩
    refine ⟨_, rfl, _, rfl, al, xs, ls, nm, rw, i, rfl, sm.seq hl, il.mono sm.tups, ok, h100, asg, fun b H2 s2 hb => ⟨_, rfl, ?_⟩⟩
    cases b with
    | true =>
      refine iteT ⟨_, rfl, _, s2 _ _ ep, small1000 (by rw [len_nats]; omega), ?_⟩
      refine ⟨Same.new (sm.trans s2) np, rs ++ [i], by rw [upd_same, nats_app], by simp only [List.length_append, List.length_singleton]; omega, fun x hx => ?_, fun x hx a => ?_⟩
      · rcases List.mem_append.mp hx with z | z
        · exact ha x z
        · rw [List.mem_singleton.mp z]; exact asg
      · rcases Nat.lt_succ_iff_lt_or_eq.mp hx with z | z
        · rcases hn x z a with y | y
          · exact .inl (List.mem_append_left _ y)
          · exact .inr y
        · rw [z]; exact .inl (List.mem_append_right _ (List.mem_singleton.mpr rfl))
    | false =>
      refine iteF ⟨sm.trans s2, rs, s2 _ _ ep, by omega, ha, fun x hx a => ?_⟩
      rcases Nat.lt_succ_iff_lt_or_eq.mp hx with z | z
      · exact hn x z a
      · rw [z]; exact .inr (hb rfl)
  obtain ⟨sm, rs, ep, lr, ha, hn⟩ := h
  refine ⟨rfl, ?_⟩
  refine ⟨_, rfl, al, _, rfl, .inl (sm.seq hl), fun pf npf => ?_⟩
  have u1 := same_new npf (.lst xs)
  refine ⟨_, rfl, p, rfl, ⟨_, SqL.of (u1 _ _ ep)⟩, for_list (xs := intsV (nats rs)) (fun j σ H' => ∃ y3 ls' xs', σ = [some (.ref al), some (.ref p), some (.ref pf), y3] ∧ Same H1 H' ∧ H' pf = some (.lst xs') ∧ IsL K H' (ls'.map Ln.D) xs' ∧ ls'.length = ls.length ∧ (∀ l ∈ ls', l.Ok nm rw ls.length) ∧
      ∀ (x : Nat) bs k m, ls'[x]? = some (.ask bs k m) → ls[x]? = some (.ask bs k m) ∧ ¬ x ∈ rs.take j)
    ⟨_, ls, xs, rfl, u1, upd_same, il.mono (sm.trans u1).tups, rfl, (fun l h => ok l h), fun x bs k m e => ⟨e, by simp⟩⟩ (fun j σ H' _ h => ?_) (fun j y σ H' ey h => ?_) (fun σ H' h => ?_)⟩
  · obtain ⟨_, _, _, _, s', _⟩ := h
    exact SqL.of (s' _ _ ep)
  · obtain ⟨y3, ls', xs', rfl, s', epf, il', ll, ok', hx'⟩ := h
    unfold intsV nats at ey
    rw [List.getElem?_map, List.getElem?_map] at ey
    obtain ⟨z, hz, rfl⟩ := Option.map_eq_some_iff.mp ey
    obtain ⟨x, hx, rfl⟩ := Option.map_eq_some_iff.mp hz
    obtain ⟨bs, k, m, ex⟩ := ha x (List.mem_of_getElem? hx)
    have okx := ok _ (List.mem_of_getElem? ex)
    have hxl : x < ls.length := (List.getElem?_eq_some_iff.mp ex).1
    have sm' := sm.trans s'
    obtain ⟨v, ev, iv⟩ := (il.mono sm'.tups).get (j := x) (d := (Ln.ask bs k m).D) (by rw [List.getElem?_map, ex]; rfl)
    obtain ⟨a, vs, rfl, hq, ia⟩ := ln_inv iv
    obtain ⟨vb, r1, rfl, ib, ia1⟩ := any1 ia
    obtain ⟨r2, rfl, ia2⟩ := int1 ia1
    obtain ⟨r3, rfl, ia3⟩ := int1 ia2
    cases ia3.nil_inv
    refine ⟨_, rfl, _, rfl, al, xs, _, _, rfl, rfl, sm'.seq hl, atI_nat ev, a, _, 3, _, rfl, rfl, hq, at3 _ _ _ _ _, Nat.le_of_ble_eq_true rfl, fun t nt => ?_⟩
    have u2 := same_new nt (.tup [.str "tell", .int 0, .int (m : Int)])
    have epf2 := u2 _ _ epf
    have lx' : xs'.length = ls.length := by have := il'.length; rw [List.length_map] at this; omega
    refine ⟨_, rfl, _, rfl, pf, _, _, x, rfl, rfl, epf2, (by rw [lx']; exact ixN_nat hxl), ?_⟩
    have tl := Tups.lst (ys := xs'.set x (.ref t)) epf2
    have iT : Is K (upd H' t (.tup [.str "tell", .int 0, .int (m : Int)])) (Ln.deed (.tell 0) m).D (.ref t) := is_tup (SqT.of upd_same) (isl_cons is_str (isl_cons is_int (isl_cons is_int isl_nil)))
    refine ⟨_, ls'.set x (.deed (.tell 0) m), xs'.set x (.ref t), rfl, Same.new (s'.trans u2) npf, upd_same, ?_, by rw [List.length_set]; exact ll, fun l hl' => ?_, fun y bs' k' m' e => ?_⟩
    · rw [List.map_set]; exact (IsL.setL x (il'.mono u2.tups) iT).mono tl
    · rcases List.mem_or_eq_of_mem_set hl' with z | z
      · exact ok' l z
      · rw [z]; exact ⟨hnm, okx.2.2.2⟩
    · by_cases e2 : y = x
      · subst e2
        rw [List.getElem?_set_self (by omega)] at e
        cases e
      · rw [List.getElem?_set_ne (fun z => e2 z.symm)] at e
        obtain ⟨h1, h2⟩ := hx' y bs' k' m' e
        refine ⟨h1, fun z => ?_⟩
        rw [List.take_succ] at z
        rcases List.mem_append.mp z with z | z
        · exact h2 z
        · rw [hx] at z; exact e2 (List.mem_singleton.mp z)
  · obtain ⟨y3, ls', xs', rfl, s', epf, il', ll, ok', hx'⟩ := h
    refine ⟨_, rfl, q ls' pf xs' H' (sm.trans s') epf (none_of_same sm npf) il' ll (fun l h => by rw [ll]; exact ok' l h) fun i bs k m e => ?_⟩
    obtain ⟨h1, h2⟩ := hx' i bs k m e
    refine ⟨h1, ?_⟩
    have hil : i < xs.length := by have := (List.getElem?_eq_some_iff.mp h1).1; omega
    rcases hn i hil ⟨bs, k, m, h1⟩ with z | z
    · rw [len_nats, List.take_length] at h2; exact absurd z h2
    · exact z
end
end K25
set_option Elab.async false
set_option linter.all false
set_option maxRecDepth 100000
set_option maxHeartbeats 4000000
namespace K25
open PySem PySem.Spec PyProof.Rows L2
structure Prog (nm rw : Nat) (ls : List Ln) : Prop where
  n1 : 1 ≤ nm
  n4 : nm ≤ 4
  r1 : 1 ≤ rw
  r3 : rw ≤ 3
  l1 : 0 < ls.length
  l64 : ls.length ≤ 66
  ok : AllOk ls nm rw
  rank : ∃ r, Ranked ls r
noncomputable def spProgram (K : PySem.W.Frag) : Sp := fun vs H Q _ => ExQ Q (fun (a : Addr) Q => ExQ Q (fun (ns : List Int) Q => vs = [.ref a] ∧ SqL K H a (ns.map V.int) ∧ ns.length ≤ 63 ∧
  ∀ (nm rw : Nat) (ls : List Ln) (xs : List V) (t l : Addr) (H' : Hp), Same H H' → H' t = some (.tup [.int (nm : Int), .int (rw : Int), .ref l]) → H' l = some (.lst xs) → H l = none → IsL K H' (ls.map Ln.D) xs → Prog nm rw ls → Q (.ref t) H'))
section
variable {P : Program} {w : World} {K : PySem.W.Frag} {mg : Str → Option Value} {base : Heap} {f : Addr} {fd : FuncData} {n : Nat} {C : Addr}
theorem ok_program (F : Fun K "_law_program" "_law_program" s_program f fd) (m_len : mg "len" = none) (m_range : mg "range" = none) (c_law_cell : Cl P w K mg base "_law_cell" n ["_law_script", "_law_k"] (spCell K)) (c_law_line : Cl P w K mg base "_law_line" n ["_law_cell_here", "_law_names", "_law_rows", "_law_at_here", "_law_many"] (spLine K)) (c_law_near : Cl P w K mg base "_law_near" n ["_law_line_here", "_law_at_here", "_law_cell_here"] (spNear K))
    (c_law_any_line : Cl P w K mg base "_law_any_line" n ["_law_cell_here", "_law_names", "_law_rows", "_law_many"] (spAnyLine K)) (c_law_without_rings : Cl P w K mg base "_law_without_rings" n ["_law_lines"] (spWithout K)) :
    FnOk P w K mg base CX0 (n + 1) f fd ["_law_script"] (spProgram K) := by
  refine F.ok sc_program (fun vs H Q E h => ?_) (fun cdv A outer s H vs Q E hr h => ?_)
  · obtain ⟨a, ns, rfl, _⟩ := h
    rfl
  obtain ⟨a, ns, rfl, hS, h63, q⟩ := h
  have sc := sc_program
  refine ⟨_, (@pss_cons _ _ _ _ _ (ps_set (i := 1) sc.nd rfl (Or.inr rfl) (pe_op op_add pe_int (pe_op op_mod (pe_op op_fdiv (pe_cl c_law_cell hr rfl (pa_cons (pv 0) (pa_cons pe_int pa_nil))) pe_int) pe_int)))
      (@pss_cons _ _ _ _ _ (ps_set (i := 2) sc.nd rfl (Or.inr rfl) (pe_op op_add pe_int (pe_op op_mod (pe_cl c_law_cell hr rfl (pa_cons (pv 0) (pa_cons pe_int pa_nil))) pe_int)))
      (@pss_cons _ _ _ _ _ (ps_set (i := 3) sc.nd rfl (Or.inr rfl) (pe_op op_add pe_int (pe_callB call_len_seq rfl m_len PySem.boot_len (pa_cons (pe_slice sl_list (pv 0) (po_some pe_int) (po_some pe_int)) pa_nil))))
      (@pss_cons _ _ _ _ _ (ps_if (pt_cmpR op_eq (pe_op op_mod (pe_cl c_law_cell hr rfl (pa_cons (pv 0) (pa_cons pe_int pa_nil))) pe_int) pe_int (nomark _)) (@pss_cons _ _ _ _ _ (ps_ren (j := 5) (y := "?") (ps_setcomp (i := 6) ["_law_k"] rfl (cmp_ok (N := ["_law_script", "_law_names", "_law_rows", "_law_many", "_law_lines", "?", "_law_cells", "_law_cell_here"]) (so := defScope s_program) rfl rfl (by decide +kernel)) (show List.Nodup (α := Str) ["_law_script", "_law_names", "_law_rows", "_law_many", "_law_lines", "?", "_law_cells", "_law_cell_here"] by decide +kernel) rfl (Or.inl rfl) (pi_range1 rfl m_range (pa_cons (pe_op op_sub (pv 3) pe_int) pa_nil)) (fun _ _ _ _ _ _ => (pg_name (i := 0) (show List.Nodup (α := Str) ["_law_k", "_law_script", "_law_names", "_law_rows", "_law_many", "_law_lines", "?", "_law_cells", "_law_cell_here"] by decide +kernel) rfl (Or.inl rfl) (Or.inr rfl))) (fun _ _ _ _ _ _ => pifs_nil) (fun _ _ _ _ _ _ => (pe_cl c_law_cell hr rfl (pa_cons (pv 1) (pa_cons (pe_op op_add pe_int (pv 0)) pa_nil)))) rfl))
      (pss_one (ps_ret (pe_tup (pa_cons (pv 1) (pa_cons (pv 2) (pa_cons (pe_cl c_law_without_rings hr rfl (pa_cons (pe_ren (j := 7) (y := "?") (pe_comp ["_law_cell_here"] rfl (cmp_ok (N := ["_law_script", "_law_names", "_law_rows", "_law_many", "_law_lines", "_law_k", "_law_cells", "?"]) (so := defScope s_program) rfl rfl (by decide +kernel)) (pi_list (pv 6)) (fun _ _ _ _ _ _ => (pg_name (i := 0) (show List.Nodup (α := Str) ["_law_cell_here", "_law_script", "_law_names", "_law_rows", "_law_many", "_law_lines", "_law_k", "_law_cells", "?"] by decide +kernel) rfl (Or.inl rfl) (Or.inr rfl))) (fun _ _ _ _ _ _ => pifs_nil) (fun _ _ _ _ _ _ => (pe_cl c_law_any_line hr rfl (pa_cons (pv 0) (pa_cons (pv 2) (pa_cons (pv 3) (pa_cons (pe_op op_sub (pv 4) pe_int) pa_nil)))))))) pa_nil)) pa_nil))))))) pss_nil)
      (@pss_cons _ _ _ _ _ (ps_set (i := 4) sc.nd rfl (Or.inl rfl) (pe_lst (pa_cons (pe_tup (pa_consts rfl)) pa_nil)))
      (@pss_cons _ _ _ _ _ (ps_for PassesOwn.never rfl (pi_range2 rfl m_range (pa_cons pe_int (pa_cons (pe_op op_sub (pv 3) pe_int) pa_nil))) (pg_name (i := 5) sc.nd rfl (Or.inl rfl)) (@pss_cons _ _ _ _ _ (ps_set (i := 7) sc.nd rfl (Or.inl rfl) (pe_cl c_law_cell hr rfl (pa_cons (pv 0) (pa_cons (pe_op op_add pe_int (pv 5)) pa_nil))))
      (pss_one (ps_expr (pe_bm PySem.F.plainAttrs_list PySem.F.slot_list_append PySem.F.type_list_append mt_append (pv 4) (pa_cons (pe_cl c_law_near hr rfl (pa_cons (pe_cl c_law_line hr rfl (pa_cons (pv 7) (pa_cons (pv 1) (pa_cons (pv 2) (pa_cons (pv 5) (pa_cons (pv 3) pa_nil)))))) (pa_cons (pv 5) (pa_cons (pv 7) pa_nil)))) pa_nil))))))
      (pss_one (ps_ret (pe_tup (pa_cons (pv 1) (pa_cons (pv 2) (pa_cons (pe_op op_cat (pv 4) (pe_lst (pa_cons (pe_tup (pa_cons pe_str pa_nil)) pa_nil))) pa_nil)))))))))))), ?_⟩
  refine ⟨_, rfl, a, ns, 0, rfl, hS, h63, by decide, by decide, fun c0 H1 s1 => ⟨_, _, rfl, rfl, ⟨by decide, by decide⟩, _, _, rfl, rfl, by show (0 : Int) < 4; decide, _, _, rfl, rfl, ?_⟩⟩
  dsimp only [gName, tSeq]
  have bn : 1 ≤ 1 + c0 / 2 % 4 ∧ 1 + c0 / 2 % 4 ≤ 4 := by omega
  generalize 1 + c0 / 2 % 4 = xn at *
  obtain ⟨nm, rfl⟩ : ∃ nm : Nat, xn = (nm : Int) := ⟨xn.toNat, by omega⟩
  refine ⟨_, rfl, a, ns, 1, rfl, s1.seq hS, h63, by decide, by decide, fun c1 H2 s2 => ⟨_, _, rfl, rfl, by show (0 : Int) < 3; decide, _, _, rfl, rfl, ?_⟩⟩
  dsimp only [gName, tSeq]
  have br : 1 ≤ 1 + c1 % 3 ∧ 1 + c1 % 3 ≤ 3 := by omega
  generalize 1 + c1 % 3 = xr at *
  obtain ⟨rw, rfl⟩ : ∃ rw : Nat, xr = (rw : Int) := ⟨xr.toNat, by omega⟩
  have s12 := s1.trans s2
  refine ⟨_, rfl, _, rfl, _, rfl, a, _, rfl, s12.seq hS, fun p np => ?_⟩
  have lcut : (cutV (ns.map V.int) (some 9) (some 62)).length ≤ 63 := Nat.le_trans (cutV_length _ _ _) (by rw [List.length_map]; exact h63)
  refine ⟨p, _, rfl, .inl (SqL.of upd_same), _, _, rfl, rfl, ?_⟩
  have sp := s12.trans (same_new np (.lst (cutV (ns.map V.int) (some 9) (some 62))))
  generalize upd H2 p (.lst (cutV (ns.map V.int) (some 9) (some 62))) = H3 at sp
  generalize (cutV (ns.map V.int) (some 9) (some 62)).length = m at lcut
  refine ⟨_, rfl, a, ns, 0, rfl, sp.seq hS, h63, by decide, by decide, fun c2 H4 s4 => ⟨_, _, rfl, rfl, by show (0 : Int) < 2; decide, rfl, _, rfl, ite2 (fun _ => ?_) (fun _ => ?_)⟩⟩
  · have sq := sp.trans s4
    refine ⟨rfl, _, rfl, _, _, rfl, rfl, _, rfl, by omega, by omega, fun pc npc => ?_⟩
    rw [show (2 + (m : Int) - 1).toNat = m + 1 by omega]
    refine comp_range (n := m + 1) (fun i H' => Same H4 H' ∧ ∃ acc : List Int, H' pc = some (.lst (intsV acc)) ∧ acc.length = i) ⟨same_new npc _, [], upd_same, rfl⟩ (fun i H' hi h => ?_) (fun H5 h => ?_)
    · obtain ⟨sm, acc, ep, la⟩ := h
      refine ⟨⟨[some (.int (0 + (i : Int)))], rfl, rfl⟩, tTrue_ite ⟨_, rfl, _, rfl, _, _, rfl, rfl, a, ns, _, rfl, (sq.trans sm).seq hS, h63, by omega, by omega, fun c H6 s6 => ⟨_, s6 _ _ ep, small1000 (by rw [len_ints]; omega), Same.new (sm.trans s6) npc, acc ++ [c], by rw [upd_same, ints_app1], by simp [la]⟩⟩⟩
    obtain ⟨sm, cells, ep, lc⟩ := h
    refine ⟨rfl, ?_⟩
    refine ⟨_, rfl, _, rfl, rfl, _, rfl, pc, rfl, ⟨_, SqL.of ep⟩, fun pl npl => ?_⟩
    refine comp_list (xs := intsV cells) (fun i H' => Same H5 H' ∧ ∃ acc ds, H' pl = some (.lst acc) ∧ IsL K H' ds acc ∧ ds.length = i ∧ ∀ d ∈ ds, LineD (nm : Int) (rw : Int) (-1) (2 + (m : Int) - 1) d) ⟨same_new npl _, [], [], upd_same, isl_nil, rfl, fun d hd => by cases hd⟩ (fun i H' _ h => SqL.of (h.1 _ _ ep)) (fun i y H' ey h => ?_) (fun H6 h => ?_)
    · have hi := (List.getElem?_eq_some_iff.mp ey).1
      rw [len_ints] at hi
      unfold intsV at ey
      rw [List.getElem?_map] at ey
      obtain ⟨z, _, rfl⟩ := Option.map_eq_some_iff.mp ey
      obtain ⟨s', acc, ds, el, il, ld, hw⟩ := h
      refine ⟨⟨[some (.int z)], rfl, rfl⟩, tTrue_ite ⟨_, rfl, _, rfl, _, rfl, _, rfl, _, _, rfl, rfl, z, _, _, _, rfl, by omega, by omega, by omega, by omega, by omega, fun d v H7 hd s7 i7 => ?_⟩⟩
      have la := il.length
      have el7 := s7 _ _ el
      refine ⟨_, el7, small1000 (by omega), Same.new (s'.trans s7) npl, acc ++ [v], ds ++ [d], upd_same, ?_, by simp [ld], fun e he => ?_⟩
      · exact IsL.append ((il.mono s7.tups).mono (Tups.lst el7)) (isl_cons (i7.mono (Tups.lst el7)) isl_nil)
      · rcases List.mem_append.mp he with z | z
        · exact hw e z
        · rw [List.mem_singleton.mp z]; exact hd
    obtain ⟨s', acc, ds, el, il, ld, hw⟩ := h
    rw [len_ints, lc] at ld
    rw [show (2 + (m : Int) - 1) = ((m + 1 : Nat) : Int) by omega] at hw
    obtain ⟨ls, rfl, hok⟩ := lines_any hw
    rw [List.length_map] at ld
    have s46 := sq.trans (sm.trans s')
    refine ⟨pl, acc, ls, nm, rw, rfl, SqL.of el, il, fun l h => by rw [ld]; exact hok l h, by omega, by omega, fun ls' l' xs' H7 s7 el7 nl7 il7 ll ok' hx => ⟨Nat.le_of_ble_eq_true rfl, fun t nt => ?_⟩⟩
    have u1 := same_new nt (.tup [.int (nm : Int), .int (rw : Int), .ref l'])
    exact q nm rw ls' xs' t l' _ (s46.trans (s7.trans u1)) upd_same (u1 _ _ el7) (none_of_same s46 nl7) (il7.mono u1.tups) ⟨by omega, by omega, by omega, by omega, by omega, by omega, ok', ring_ranked ok' hx⟩
  · have sq := sp.trans s4
    refine ⟨Nat.le_of_ble_eq_true rfl, fun t0 nt0 => ⟨Nat.le_of_ble_eq_true rfl, fun pl npl => ?_⟩⟩
    have v1 := same_new nt0 (.tup [.str "take", .int 0, .int 1])
    have v2 := same_new npl (.lst [.ref t0])
    have sv := sq.trans (v1.trans v2)
    have npl0 := none_of_same (sq.trans v1) npl
    have et0 := v2 _ _ (upd_same (H := H4) (a := t0) (o := .tup [.str "take", .int 0, .int 1]))
    have epl : upd (upd H4 t0 (.tup [.str "take", .int 0, .int 1])) pl (.lst [.ref t0]) pl = some (.lst [.ref t0]) := upd_same
    generalize upd (upd H4 t0 (.tup [.str "take", .int 0, .int 1])) pl (.lst [.ref t0]) = H5 at *
    refine ⟨_, rfl, _, _, rfl, rfl, _, _, rfl, ⟨by omega, by omega, by omega, by omega⟩, ?_⟩
    rw [show (2 + (m : Int) - 1 - 1).toNat = m by omega]
    refine for_range (n := m) (fun i σ H' => Same H H' ∧ ∃ y5 y7 acc ds, H' pl = some (.lst acc) ∧ IsL K H' ds acc ∧ ds.length = i + 1 ∧ (∀ (j : Nat) d, ds[j]? = some d → LineD (nm : Int) (rw : Int) j (2 + (m : Int)) d) ∧
        σ = [some (.ref a), some (.int (nm : Int)), some (.int (rw : Int)), some (.int (2 + (m : Int))), some (.ref pl), y5, none, y7]) ⟨sv, _, _, [.ref t0], [.tup [.str "take", .int 0, .int 1]], epl, isl_cons (is_tup (SqT.of et0) (isl_cons is_str (isl_cons is_int (isl_cons is_int isl_nil)))) isl_nil, rfl, fun j d hd => ?_, rfl⟩ (fun i σ H' hi h => ?_) (fun σ H' h => ?_)
    · match j, hd with
      | 0, hd => cases hd; exact .take 0 1 (by omega) (by omega) (by omega) (by omega)
      | j + 1, hd => cases hd
    · obtain ⟨sm, y5, y7, acc, ds, el, il, ln, hw, rfl⟩ := h
      refine ⟨_, rfl, _, rfl, _, _, rfl, rfl, a, ns, _, rfl, sm.seq hS, h63, by omega, by omega, fun c H6 s6 => ?_⟩
      refine ⟨_, rfl, .inl ⟨rfl, _, SqL.of (s6 _ _ el)⟩, ?_⟩
      refine ⟨_, rfl, _, rfl, _, rfl, _, rfl, _, rfl, c, (nm : Int), (rw : Int), _, 2 + (m : Int), rfl, by omega, by omega, by omega, by omega, by omega, by omega, fun d v H7 ld s7 is7 => ?_⟩
      refine ⟨_, rfl, _, rfl, d, v, c, (nm : Int), (rw : Int), _, 2 + (m : Int), rfl, is7, ld, by omega, by omega, fun d8 v8 H8 ld8 s8 is8 => ?_⟩
      have el8 := s8 _ _ (s7 _ _ (s6 _ _ el))
      have la := il.length
      refine ⟨pl, acc, v8, rfl, rfl, el8, small1000 (by omega), Same.new (sm.trans (s6.trans (s7.trans s8))) npl0, _, _, acc ++ [v8], ds ++ [d8], upd_same, ?_, by simp [ln], fun j e he => ?_, rfl⟩
      · exact IsL.append ((il.mono (s6.trans (s7.trans s8)).tups).mono (Tups.lst el8)) (isl_cons (is8.mono (Tups.lst el8)) isl_nil)
      · by_cases hj : j < ds.length
        · rw [List.getElem?_append_left hj] at he
          exact hw j e he
        · rw [List.getElem?_append_right (by omega)] at he
          have : j = ds.length := by
            have := (List.getElem?_eq_some_iff.mp he).1
            simp at this; omega
          subst this
          simp at he
          subst he
          have e0 : (1 + (i : Int)) = (ds.length : Int) := by omega
          rw [e0] at ld8
          exact ld8
    · obtain ⟨sm, y5, y7, acc, ds, el, il, ln, hw, rfl⟩ := h
      have la := il.length
      refine ⟨_, rfl, _, rfl, _, rfl, Nat.le_of_ble_eq_true rfl, fun t1 n1 => ⟨Nat.le_of_ble_eq_true rfl, fun l1 nl1 => ?_⟩⟩
      have s5 := same_new n1 (.tup [.str "end"])
      have s6 := same_new nl1 (.lst [.ref t1])
      refine ⟨pl, l1, _, _, rfl, rfl, s6 _ _ (s5 _ _ el), upd_same, small (by simp only [List.length_singleton]; omega), fun l2 nl2 => ⟨Nat.le_of_ble_eq_true rfl, fun t nt => ?_⟩⟩
      have s7 := same_new nl2 (.lst (acc ++ [.ref t1]))
      have s8 := same_new nt (.tup [.int (nm : Int), .int (rw : Int), .ref l2])
      have et := s8 _ _ (s7 _ _ (s6 _ _ (upd_same (H := H') (a := t1) (o := .tup [.str "end"]))))
      have hlen : (ds ++ [D.tup [.str "end"]]).length = m + 2 := by simp; omega
      have hall : ∀ (j : Nat) d, (ds ++ [D.tup [.str "end"]])[j]? = some d → LineD (nm : Int) (rw : Int) ((0 + j : Nat) : Int) ((m + 2 : Nat) : Int) d := fun j d hd => by
        rw [Nat.zero_add, show ((m + 2 : Nat) : Int) = 2 + (m : Int) by omega]
        by_cases hj : j < ds.length
        · rw [List.getElem?_append_left hj] at hd
          exact hw j d hd
        · rw [List.getElem?_append_right (by omega)] at hd
          have : j = ds.length := by
            have := (List.getElem?_eq_some_iff.mp hd).1
            simp at this; omega
          subst this
          simp at hd
          subst hd
          exact .end_
      have hil : IsL K (upd (upd (upd (upd H' t1 (.tup [.str "end"])) l1 (.lst [.ref t1])) l2 (.lst (acc ++ [.ref t1]))) t (.tup [.int (nm : Int), .int (rw : Int), .ref l2])) (ds ++ [D.tup [.str "end"]]) (acc ++ [.ref t1]) := IsL.append (il.mono (s5.trans (s6.trans (s7.trans s8))).tups) (isl_cons (is_tup (SqT.of et) (isl_cons is_str isl_nil)) isl_nil)
      obtain ⟨ls, e, hok, hah⟩ := lines_ln 0 hall
      rw [e] at hil
      have ll : ls.length = m + 2 := by rw [← hlen, e, List.length_map]
      have okA : AllOk ls nm rw := fun l h => by rw [ll]; exact hok l h
      exact q nm rw ls (acc ++ [.ref t1]) t l2 _ (sm.trans (s5.trans (s6.trans (s7.trans s8)))) upd_same (s8 _ _ upd_same) (none_of_same (sm.trans (s5.trans s6)) nl2) hil ⟨by omega, by omega, by omega, by omega, by omega, by omega, okA, _, ahead_ranked okA fun j bs k m e => by have := hah j bs k m e; omega⟩
end
end K25
set_option Elab.async false
set_option linter.all false
set_option maxRecDepth 100000
set_option maxHeartbeats 4000000
namespace K25
open PySem PySem.Spec PyProof.Rows L2
noncomputable abbrev s_moved : Stmt := top 38
theorem sc_moved : FnScope ["_law_walk", "_law_state", "_law_lines", "_law_budget", "_law_word"] ["_law_walk", "_law_state", "_law_lines", "_law_budget"] (defScope s_moved) := ⟨rfl, rfl, rfl, by decide +kernel, rfl, by decide +kernel, by decide +kernel⟩
noncomputable def LA.hold (L : LA) (v : V) : LA := { L with held := some v }
theorem put_end {H : Hp} {L : LA} {i s : Int} {v : V} (e : H L.sd = some (.dK (stK L i s))) : DPut H L.sd (.str "end") v (upd H L.sd (.dK (stK (L.hold v) i s))) := .inl ⟨_, .inr "end", e, rfl, small1000 (stK_len L i s), by congr 2; unfold stK LA.hold; cases L.held <;> rfl⟩
theorem LawAt.hold {H : Hp} {L : LA} {rows : List (List Int)} {m : Mem} {i s : Nat} (h : LawAt H L rows m i s) (v : V) : LawAt (upd H L.sd (.dK (stK (L.hold v) (i : Int) (s : Int)))) (L.hold v) rows m i s :=
  ⟨upd_same, by show upd H L.sd _ L.av = _; rw [upd_ne (h.lst_ne h.v)]; exact h.v, ⟨by show upd H L.sd _ L.ar = _; rw [upd_ne (h.lst_ne h.ra.top)]; exact h.ra.top, h.ra.len, fun j b r e g => by rw [upd_ne (h.lst_ne (h.ra.row j b r e g))]; exact h.ra.row j b r e g, h.ra.nd⟩, by show upd H L.sd _ L.at_ = _; rw [upd_ne (h.lst_ne h.t)]; exact h.t, by show upd H L.sd _ L.ah = _; rw [upd_ne (h.lst_ne h.h)]; exact h.h, h.nd⟩
theorem LawAt.live {H : Hp} {L : LA} {rows : List (List Int)} {m : Mem} {i s : Nat} (h : LawAt H L rows m i s) : ∀ c ∈ L.all, ∃ o, H c = some o := fun c hc => by
  simp only [LA.all, List.mem_cons] at hc
  rcases hc with z | z | z | z | z | z
  · rw [z]; exact ⟨_, h.d⟩
  · rw [z]; exact ⟨_, h.v⟩
  · rw [z]; exact ⟨_, h.ra.top⟩
  · rw [z]; exact ⟨_, h.t⟩
  · rw [z]; exact ⟨_, h.h⟩
  · obtain ⟨j, hj⟩ := List.mem_iff_getElem?.mp z
    have hjl : j < rows.length := by have := (List.getElem?_eq_some_iff.mp hj).1; have := h.ra.len; omega
    exact ⟨_, h.ra.row j c _ hj (List.getElem?_eq_getElem hjl)⟩
noncomputable def Pair (K : PySem.W.Frag) (H : Hp) (C : Addr) (A : WA) (L : LA) (ls : List Ln) (b nm rw t : Nat) : Prop :=
  (∃ rows m i, WalkAt K H C A (wsOf ls rows b i m t) ∧ LawAt H L rows m i t ∧ L.held = some .non ∧ Fit rows nm rw m t ∧ i < ls.length ∧ t ≤ b) ∨
  (∃ rows m i s z te, WalkAt K H C A (wsEnd ls rows b i m s z) ∧ LawAt H L rows m i s ∧ L.held = some (.ref te) ∧ H te = some (.tup [.str z, .int (i : Int)]) ∧ Fit rows nm rw m s ∧ s ≤ b)
theorem Pair.keep {K : PySem.W.Frag} {H H' : Hp} {C : Addr} {A : WA} {L : LA} {ls : List Ln} {b nm rw t : Nat} (h : Pair K H C A L ls b nm rw t) (hk : ∀ c o, c ∈ A.all ∨ c ∈ L.all → H c = some o → H' c = some o) (ht : Tups H H') : Pair K H' C A L ls b nm rw t := by
  rcases h with ⟨rows, m, i, h1, h2, h3⟩ | ⟨rows, m, i, s, z, te, h1, h2, h3, h4, h5⟩
  · exact .inl ⟨rows, m, i, h1.keep (fun c o hc => hk c o (.inl hc)) ht, h2.keep (fun c o hc => hk c o (.inr hc)), h3⟩
  · exact .inr ⟨rows, m, i, s, z, te, h1.keep (fun c o hc => hk c o (.inl hc)) ht, h2.keep (fun c o hc => hk c o (.inr hc)), h3, ht.1 _ _ h4, h5⟩
noncomputable def spMoved (K : PySem.W.Frag) (C : Addr) : Sp := fun vs H Q _ => ExQ Q (fun (A : WA) Q => ExQ Q (fun (L : LA) Q => ExQ Q (fun (ls : List Ln) Q => ExQ Q (fun (b : Nat) Q => ExQ Q (fun (nm : Nat) Q => ExQ Q (fun (rw : Nat) Q => ExQ Q (fun (t : Nat) Q => ExQ Q (fun (al : Addr) Q => ExQ Q (fun (xs : List V) Q => vs = [.ref A.x, .ref L.sd, .ref al, .int (b : Int)] ∧ Pair K H C A L ls b nm rw t ∧ H al = some (.lst xs) ∧ IsL K H (ls.map Ln.D) xs ∧ al ≠ L.sd ∧ AllOk ls nm rw ∧ (∃ r, Ranked ls r) ∧ b ≤ 600 ∧ (∀ c ∈ A.all, ¬ c ∈ L.all) ∧
  ∀ H' L', But (A.all ++ L.all) H H' → Tups H H' → L'.all = L.all → L'.sd = L.sd → Pair K H' C A L' ls b nm rw (t + 1) → Q (.bl true) H')))))))))
theorem But.mono {S S' : List Addr} {H H' : Hp} (h : But S H H') (hs : ∀ c ∈ S, c ∈ S') : But S' H H' := fun c o e n => h c o e fun m => n (hs c m)
section
variable {P : Program} {w : World} {K : PySem.W.Frag} {mg : Str → Option Value} {base : Heap} {f : Addr} {fd : FuncData} {n : Nat} {C : Addr}
theorem ok_moved (F : Fun K "_law_moved" "_law_moved" s_moved f fd) (W : WC K C) (c_law_stop : Cl P w K mg base "_law_stop" n ["_law_lines", "_law_state", "_law_budget"] (spStop K)) (c_law_do : Cl P w K mg base "_law_do" n ["_law_state", "_law_line_here"] (spDoL K)) (c_law_same : Cl P w K mg base "_law_same" n ["_law_walk", "_law_state", "_law_end"] (spSame K C)) (c_Walk_step : ClM P w K mg base C "step" n ["self"] (spStep K C)) :
    FnOk P w K mg base CX0 (n + 1) f fd ["_law_walk", "_law_state", "_law_lines", "_law_budget"] (spMoved K C) := by
  refine F.ok sc_moved (fun vs H Q E h => ?_) (fun cdv A outer s H vs Q E hr h => ?_)
  · obtain ⟨A, L, ls, b, nm, rw, t, al, xs, rfl, _⟩ := h
    rfl
  have hu : (A.deeper (envOfC "_law_moved" (defScope s_moved) s.heap.objs.size f cdv)).units + 1 < cLine := by have := hr.units; omega
  obtain ⟨A, L, ls, b, nm, rw, t, al, xs, rfl, hP, eal, il, nal, ok, ⟨r, hrk⟩, hb, AL, q⟩ := h
  have sc := sc_moved
  refine ⟨_, (@pss_cons _ _ _ _ _ (ps_if (pt_cmpR op_isN (pe_dget hu (pv 1) pe_str (fun _ _ => rfl)) pe_non (nomark _)) (@pss_cons _ _ _ _ _ (ps_set (i := 4) sc.nd rfl (Or.inl rfl) (pe_cl c_law_stop hr rfl (pa_cons (pv 2) (pa_cons (pv 1) (pa_cons (pv 3) pa_nil)))))
      (pss_one (ps_if (pt_cmpR op_isN (pv 4) pe_non (nomark _)) (pss_one (ps_expr (pe_cl c_law_do hr rfl (pa_cons (pv 1) (pa_cons (pe_ix ix_list (pv 2) (pe_dget hu (pv 1) pe_str (fun _ _ => rfl)) (fun _ _ => rfl)) pa_nil))))) (pss_one (ps_dput hu (pv 1) pe_str (pe_tup (pa_cons (pv 4) (pa_cons (pe_dget hu (pv 1) pe_str (fun _ _ => rfl)) pa_nil))) rfl))))) pss_nil)
      (@pss_cons _ _ _ _ _ (ps_if (pt_cmpR op_notN (pe_mcl0 (pv 0) c_Walk_step hr) pe_non (nomark _)) (pss_one (ps_ret pe_bl)) pss_nil)
      (pss_one (ps_ret (pe_cl c_law_same hr rfl (pa_cons (pv 0) (pa_cons (pv 1) (pa_cons (pe_dget hu (pv 1) pe_str (fun _ _ => rfl)) pa_nil)))))))), ?_⟩
  have LA' : ∀ c ∈ L.all, ¬ c ∈ A.all := fun c hc hm => AL c hm hc
  have sdL : ∀ c, c ∈ [L.sd] → c ∈ L.all := fun c hc => by rw [List.mem_singleton.mp hc]; simp [LA.all]
  rcases hP with ⟨rows, m, i, hw, hL, hh, hf, hi, ht⟩ | ⟨rows, m, i, s, z, te, hw, hL, hh, ete, hf, hs⟩
  · obtain ⟨np, j, l, hp, hlj, hc⟩ := pass_ex (nums := m.nums) (rows := rows) ok hrk (r i) i rfl hi
    have okN : OkN ls m.nums.length rows.length ls.length := by rw [hf.nums, hf.len]; exact ok
    have hokl := okN l (List.mem_of_getElem? hlj)
    have rl : rows.length ≤ 100 := by rw [hf.len]; exact hf.rl
    have h100 : m.nums.length ≤ 100 := by rw [hf.nums]; exact hf.n100
    have hhd := hf.heard
    refine ⟨_, rfl, L.sd, _, rfl, get_end hh hL.d, rfl, _, rfl, iteT ?_⟩
    refine ⟨_, rfl, _, rfl, _, rfl, L, rows, m, i, t, b, al, xs, ls, ls.length, np, j, l, rfl, SqL.of eal, il, nal, hL, okN, hp, hlj, hc, fun H1 b1 t1 hL1 => ?_⟩
    have eal1 := b1 _ _ eal fun hm => nal (List.mem_singleton.mp hm)
    have hw1 := hw.keep (fun c o hc e => b1 c o e fun hm => AL c hc (sdL c hm)) t1
    have b1' : But (A.all ++ L.all) H H1 := b1.mono fun c hc => List.mem_append_right _ (sdL c hc)
    have ext : l.stopW m.nums rows t b = none ∨ ∃ z, l.stopW m.nums rows t b = some z := by
      cases l.stopW m.nums rows t b with
      | none => exact .inl rfl
      | some z => exact .inr ⟨z, rfl⟩
    rcases ext with hst | ⟨z, hst⟩
    · rw [hst]
      obtain ⟨hne, hlk, hsb⟩ := stop_lt hst
      obtain ⟨v, ev, iv⟩ := (il.mono t1).get (j := j) (d := l.D) (by rw [List.getElem?_map, hlj]; rfl)
      refine ⟨_, rfl, rfl, _, rfl, iteT ?_⟩
      refine ⟨_, rfl, _, rfl, _, rfl, L.sd, _, rfl, get_at hL1.d, al, xs, _, v, rfl, rfl, SqL.of eal1, atI_nat ev, L, rows, m, j, t, l, ls.length, v, rfl, hL1, iv, hokl, hc, hne, hlk, by omega, fun H2 b2 t2 hL2 => ?_⟩
      have hw2 := hw1.keep (fun c o hc e => b2 c o e (AL c hc)) t2
      obtain ⟨en, e1, _⟩ := hw2.ins
      refine ⟨_, rfl, A.x, A.dx, _, rfl, e1, rfl, step_stop (E := E0) hw2 ok hf ht (by omega) hp hlj hc fun H4 b4 t4 _ hB4 => ⟨rfl, _, rfl, iteF ?_⟩⟩
      have hw4 := hB4 hst
      have hL4 := hL2.keep fun c o hc e => b4 c o e (LA' c hc)
      have hf2 := hf.next l
      refine ⟨_, rfl, _, rfl, _, rfl, L.sd, _, rfl, get_end hh hL4.d, A, L, _, _, _, _, l.run rows m, _, t + 1, none, .non, rfl, hw4, hL4, ?_, rfl, ?_, ?_, fun H5 s5 => ?_⟩
      · rw [hf2.len]; exact hf.rl
      · rw [hf2.nums]; exact hf.n100
      · have := hf2.heard; omega
      refine q H5 L ?_ (t1.trans (t2.trans (t4.trans s5.tups))) rfl rfl (.inl ⟨_, _, _, hw4.same s5, hL4.same s5, hh, hf2, next_lt (ok _ (List.mem_of_getElem? hlj)) hne, by omega⟩)
      exact b1'.trans ((b2.mono fun c hc => List.mem_append_right _ hc).trans ((b4.mono fun c hc => List.mem_append_left _ hc).trans (But.of_same s5)))
    · rw [hst]
      refine ⟨_, rfl, rfl, _, rfl, iteF ?_⟩
      refine ⟨_, rfl, _, rfl, L.sd, _, rfl, get_at hL1.d, Nat.le_of_ble_eq_true rfl, fun te nte => ?_⟩
      have u1 := same_new nte (.tup [lookV (some z), .int (j : Int)])
      have ete : upd H1 te (.tup [lookV (some z), .int (j : Int)]) te = some (.tup [.str z, .int (j : Int)]) := upd_same
      have hL2 := hL1.same u1
      have hw2 := hw1.same u1
      generalize upd H1 te (.tup [lookV (some z), .int (j : Int)]) = H2 at *
      refine ⟨_, rfl, L.sd, _, rfl, put_end hL2.d, ?_⟩
      have hL3 := hL2.hold (.ref te)
      have b3 : But L.all H2 (upd H2 L.sd (.dK (stK (L.hold (.ref te)) (j : Int) (t : Int)))) := But.upd (by simp [LA.all])
      have t3 : Tups H2 (upd H2 L.sd (.dK (stK (L.hold (.ref te)) (j : Int) (t : Int)))) := tups_dk hL2.d
      generalize upd H2 L.sd (.dK (stK (L.hold (.ref te)) (j : Int) (t : Int))) = H3 at *
      have ete3 := t3.1 _ _ ete
      have hw3 := hw2.keep (fun c o hc e => b3 c o e (AL c hc)) t3
      obtain ⟨en, e1, _⟩ := hw3.ins
      refine ⟨_, rfl, A.x, A.dx, _, rfl, e1, rfl, step_stop (E := E0) hw3 ok hf ht (by omega) hp hlj hc fun H4 b4 t4 hA4 _ => ⟨rfl, _, rfl, iteF ?_⟩⟩
      have hw4 := hA4 z hst
      have hL4 : LawAt H4 (L.hold (.ref te)) rows m j t := hL3.keep fun c o hc e => b4 c o e (LA' c hc)
      have ete4 := t4.1 _ _ ete3
      have hh4 : (L.hold (.ref te)).held = some (.ref te) := rfl
      refine ⟨_, rfl, _, rfl, _, rfl, L.sd, _, rfl, get_end (L := L.hold (.ref te)) hh4 hL4.d, A, L.hold (.ref te), _, _, _, _, m, _, t, some (z, j), .ref te, rfl, hw4, hL4, rl, ⟨te, rfl, ete4⟩, h100, by omega, fun H5 s5 => ?_⟩
      refine q H5 (L.hold (.ref te)) ?_ (t1.trans (u1.tups.trans (t3.trans (t4.trans s5.tups)))) rfl rfl (.inr ⟨_, _, _, _, _, te, hw4.same s5, hL4.same s5, rfl, s5 _ _ ete4, hf, ht⟩)
      exact b1'.trans ((But.of_same u1).trans ((b3.mono fun c hc => List.mem_append_right _ hc).trans ((b4.mono fun c hc => List.mem_append_left _ hc).trans (But.of_same s5))))
  · have rl : rows.length ≤ 100 := by rw [hf.len]; exact hf.rl
    have h100 : m.nums.length ≤ 100 := by rw [hf.nums]; exact hf.n100
    have hhd := hf.heard
    refine ⟨_, rfl, L.sd, _, rfl, get_end hh hL.d, rfl, _, rfl, iteF ?_⟩
    obtain ⟨en, e1, _⟩ := hw.ins
    refine ⟨_, rfl, A.x, A.dx, _, rfl, e1, rfl, A, _, rfl, hw, .inl ⟨(fun z => by cases z), rfl, _, rfl, iteF ?_⟩⟩
    refine ⟨_, rfl, _, rfl, _, rfl, L.sd, _, rfl, get_end hh hL.d, A, L, _, _, _, _, m, _, s, some (z, i), .ref te, rfl, hw, hL, rl, ⟨te, rfl, ete⟩, h100, by omega, fun H5 s5 => ?_⟩
    exact q H5 L (But.of_same s5) s5.tups rfl rfl (.inr ⟨_, _, _, _, _, te, hw.same s5, hL.same s5, hh, s5 _ _ ete, hf, hs⟩)
end
end K25
set_option Elab.async false
set_option linter.all false
set_option maxRecDepth 100000
set_option maxHeartbeats 4000000
namespace K25
open PySem PySem.Spec PyProof.Rows L2
noncomputable abbrev s_law : Stmt := top 39
theorem sc_law : FnScope ["_law_script", "_law_program_here", "_law_held", "_law_budget", "_law_walks", "_law_states", "_law_k", "_law_rows", "_law_taken"] ["_law_script"] (defScope s_law) := ⟨rfl, rfl, rfl, by decide +kernel, rfl, by decide +kernel, by decide +kernel⟩
noncomputable def spLaw (K : PySem.W.Frag) : Sp := fun vs H Q _ => ExQ Q (fun (a : Addr) Q => ExQ Q (fun (ns : List Int) Q => vs = [.ref a] ∧ SqL K H a (ns.map V.int) ∧ ns.length ≤ 63 ∧ ∀ H', Q (.bl true) H'))
theorem not_non (te : Addr) : (!decide (V.ref te = V.non)) = true := by rw [decide_eq_false (fun z => by cases z)]; rfl
theorem cut_ints (l : List Int) (lo hi : Option Int) : ∃ l', cutV (intsV l) lo hi = intsV l' ∧ l'.length ≤ l.length := by
  unfold cutV intsV
  refine ⟨(l.drop (HT.sIx (l.map V.int).length 0 lo)).take (HT.sIx (l.map V.int).length (l.map V.int).length hi - HT.sIx (l.map V.int).length 0 lo), by rw [List.map_take, List.map_drop], ?_⟩
  rw [List.length_take, List.length_drop]; omega
theorem dep_str (x : Str) : D.dep (.str x) = 0 := by unfold D.dep; rfl
theorem dep_int (x : Int) : D.dep (.int x) = 0 := by unfold D.dep; rfl
theorem dep_non : D.dep .non = 0 := by unfold D.dep; rfl
theorem dep_tup (l : List D) : D.dep (.tup l) = 1 + D.depL l := by conv => lhs; unfold D.dep
theorem depL_nil : D.depL [] = 0 := by unfold D.depL; rfl
theorem depL_cons (d : D) (l : List D) : D.depL (d :: l) = max d.dep (D.depL l) := by conv => lhs; unfold D.depL
theorem depL_le {l : List D} {n : Nat} (h : ∀ d ∈ l, d.dep ≤ n) : D.depL l ≤ n := by
  induction l with
  | nil => rw [depL_nil]; exact Nat.zero_le _
  | cons d l ih =>
    rw [depL_cons]
    exact Nat.max_le.mpr ⟨h d List.mem_cons_self, ih fun x hx => h x (List.mem_cons_of_mem _ hx)⟩
theorem dep_opt (y : Option Nat) : (optD y).dep = 0 := by cases y with | none => exact dep_non | some i => exact dep_int _
theorem dep_nd (q : Nd) : q.D.dep ≤ 1 := by
  cases q <;> simp [Nd.D, Nd.args, dep_tup, depL_cons, depL_nil, dep_str, dep_int]
theorem dep_bd (q : Bd) : q.D.dep ≤ 2 := by
  have h1 := dep_nd q.a
  have h2 := dep_nd q.b
  unfold Bd.D
  rw [dep_tup, depL_cons, depL_cons, depL_cons, depL_nil, dep_int]; omega
theorem dep_ln (l : Ln) : l.D.dep ≤ 4 := by
  cases l with
  | deed d k => cases d <;> simp [Ln.D, Ln.args, Deed.args, dep_tup, depL_cons, depL_nil, dep_str, dep_int, dep_opt]
  | test y u c k m => simp [Ln.D, Ln.args, dep_tup, depL_cons, depL_nil, dep_str, dep_int, dep_opt]
  | ask bs k m =>
    have h : D.depL (bs.map Bd.D) ≤ 2 := depL_le fun d hd => by
      obtain ⟨q, _, rfl⟩ := List.mem_map.mp hd
      exact dep_bd q
    unfold Ln.D Ln.args
    rw [dep_tup, depL_cons, dep_str, depL_cons, depL_cons, depL_cons, depL_nil, dep_tup, dep_int, dep_int]; omega
  | stop => simp [Ln.D, Ln.args, dep_tup, depL_cons, depL_nil, dep_str]
theorem tdep_ds : ∀ {ds : List D} {n : Nat}, (∀ d ∈ ds, d.dep ≤ n) → T.depL (ds.map T.d) ≤ n
  | [], n, _ => by rw [List.map_nil, tdepL_nil]; exact Nat.zero_le _
  | d :: ds, n, h => by
    rw [List.map_cons, tdepL_cons, tdep_d]
    exact Nat.max_le.mpr ⟨h d List.mem_cons_self, tdep_ds fun x hx => h x (List.mem_cons_of_mem _ hx)⟩
theorem tdep_lst (ts : List T) : T.dep (.lst ts) = 1 + T.depL ts := by conv => lhs; unfold T.dep
theorem WalkAt.live {K : PySem.W.Frag} {H : Hp} {C : Addr} {A : WA} {w : WS} (h : WalkAt K H C A w) : ∀ c ∈ A.all, ∃ o, H c = some o := fun c hc => by
  obtain ⟨en, e1, _⟩ := h.ins
  obtain ⟨xs, l1, _⟩ := h.lines
  simp only [WA.all, List.mem_cons] at hc
  rcases hc with z | z | z | z | z | z | z
  · rw [z]; exact ⟨_, e1⟩
  · rw [z]; exact ⟨_, l1⟩
  · rw [z]; exact ⟨_, h.rows⟩
  · rw [z]; exact ⟨_, h.coming⟩
  · rw [z]; exact ⟨_, h.nums⟩
  · rw [z]; exact ⟨_, h.heard⟩
  · obtain ⟨j, hj⟩ := List.mem_iff_getElem?.mp z
    have hjl : j < w.rows.length := by have := (List.getElem?_eq_some_iff.mp hj).1; have := h.rlen; omega
    exact ⟨_, h.row j c _ hj (List.getElem?_eq_getElem hjl)⟩
theorem RowsAt.keep {H H' : Hp} {a : Addr} {rs : List Addr} {rows : List (List Int)} (h : RowsAt H a rs rows) (hk : ∀ c o, c ∈ a :: rs → H c = some o → H' c = some o) : RowsAt H' a rs rows :=
  ⟨hk _ _ (by simp) h.top, h.len, fun i c r e g => hk _ _ (by simp [List.mem_of_getElem? e]) (h.row i c r e g), h.nd⟩
theorem RowsAt.live {H : Hp} {a : Addr} {rs : List Addr} {rows : List (List Int)} (h : RowsAt H a rs rows) : ∀ c ∈ a :: rs, ∃ o, H c = some o := fun c hc => by
  rcases List.mem_cons.mp hc with z | z
  · rw [z]; exact ⟨_, h.top⟩
  · obtain ⟨i, hi⟩ := List.mem_iff_getElem?.mp z
    have hil : i < rows.length := by have := (List.getElem?_eq_some_iff.mp hi).1; have := h.len; omega
    exact ⟨_, h.row i c _ hi (List.getElem?_eq_getElem hil)⟩
noncomputable def Own (p : WA × LA) (c : Addr) : Prop := c ∈ p.1.all ∨ c ∈ p.2.all
theorem Pair.live {K : PySem.W.Frag} {H : Hp} {C : Addr} {p : WA × LA} {ls : List Ln} {b nm rw t : Nat} (h : Pair K H C p.1 p.2 ls b nm rw t) : ∀ c, Own p c → ∃ o, H c = some o := fun c hc => by
  rcases h with ⟨rows, m, i, h1, h2, _⟩ | ⟨rows, m, i, s, z, te, h1, h2, _⟩
  · rcases hc with hc | hc
    · exact h1.live c hc
    · exact h2.live c hc
  · rcases hc with hc | hc
    · exact h1.live c hc
    · exact h2.live c hc
structure Made (K : PySem.W.Frag) (C : Addr) (H4 H' : Hp) (pw pst : Addr) (ls : List Ln) (b nm rw : Nat) (ps : List (WA × LA)) : Prop where
  sm : Same H4 H'
  w : H' pw = some (.lst (ps.map fun p => V.ref p.1.x))
  st : H' pst = some (.lst (ps.map fun p => V.ref p.2.sd))
  pair : ∀ p ∈ ps, Pair K H' C p.1 p.2 ls b nm rw 0
  own : ∀ p ∈ ps, (∀ c, Own p c → H4 c = none ∧ c ≠ pw ∧ c ≠ pst) ∧ ∀ c ∈ p.1.all, ¬ c ∈ p.2.all
  apart : ps.Pairwise fun p q => ∀ c, Own p c → ¬ Own q c
section
variable {P : Program} {w : World} {K : PySem.W.Frag} {mg : Str → Option Value} {base : Heap} {f : Addr} {fd : FuncData} {n : Nat} {C : Addr}
theorem ok_law (F : Fun K "law" "law" s_law f fd) (W : WC K C) (m_list : mg "list" = none) (m_range : mg "range" = none) (c_law_cell : Cl P w K mg base "_law_cell" (n + 1) ["_law_script", "_law_k"] (spCell K)) (c_law_program : Cl P w K mg base "_law_program" (n + 1) ["_law_script"] (spProgram K)) (c_law_rows_by : Cl P w K mg base "_law_rows_by" (n + 1) ["_law_script", "_law_at_here", "_law_rows"] (spRowsBy K)) (c_law_taken_by : Cl P w K mg base "_law_taken_by" (n + 1) ["_law_script", "_law_at_here"] (spTakenBy K))
    (c_law_begun : Cl P w K mg base "_law_begun" (n + 1) ["_law_program_here", "_law_rows", "_law_taken"] (spBegun K)) (c_law_same : Cl P w K mg base "_law_same" (n + 1) ["_law_walk", "_law_state", "_law_end"] (spSame K C)) (c_law_moved : Cl P w K mg base "_law_moved" (n + 1) ["_law_walk", "_law_state", "_law_lines", "_law_budget"] (spMoved K C)) (c_Walk : ClK P w K mg base "Walk" C n ["self", "program", "rows", "taken", "budget"] (spInit K C)) : FnOk P w K mg base CX0 (n + 2) f fd ["_law_script"] (spLaw K) := by
  refine F.ok sc_law (fun vs H Q E h => ?_) (fun cdv A outer s H vs Q E hr h => ?_)
  · obtain ⟨a, ns, rfl, _⟩ := h
    rfl
  have hu : (A.deeper (envOfC "law" (defScope s_law) s.heap.objs.size f cdv)).units + 1 < cLine := by have := hr.units; omega
  have hu2 : (A.deeper (envOfC "law" (defScope s_law) s.heap.objs.size f cdv)).units + 1 + 9 < cLine := by have := hr.units; omega
  have hr1 := hr
  obtain ⟨a, ns, rfl, hS, h63, q⟩ := h
  have sc := sc_law
  refine ⟨_, (@pss_cons _ _ _ _ _ (ps_set (i := 1) sc.nd rfl (Or.inl rfl) (pe_cl c_law_program hr rfl (pa_cons (pv 0) pa_nil)))
      (@pss_cons _ _ _ _ _ (ps_set (i := 2) sc.nd rfl (Or.inl rfl) (pe_tup (pa_cons (pe_ix ix_tup (pv 1) pe_int (fun _ _ => rfl)) (pa_cons (pe_ix ix_tup (pv 1) pe_int (fun _ _ => rfl)) (pa_cons (pe_callTy call_list_of rfl m_list PyProof.Rows.boot_list (pa_cons (pe_ix ix_tup (pv 1) pe_int (fun _ _ => rfl)) pa_nil)) pa_nil)))))
      (@pss_cons _ _ _ _ _ (ps_set (i := 3) sc.nd rfl (Or.inl rfl) (pe_op op_mod (pe_cl c_law_cell hr rfl (pa_cons (pv 0) (pa_cons pe_int pa_nil))) pe_int))
      (@pss_cons _ _ _ _ _ (ps_set (i := 4) sc.nd rfl (Or.inl rfl) (pe_lst pa_nil))
      (@pss_cons _ _ _ _ _ (ps_set (i := 5) sc.nd rfl (Or.inl rfl) (pe_lst pa_nil))
      (@pss_cons _ _ _ _ _ (ps_for PassesOwn.never rfl (pi_range1 rfl m_range (pa_cons pe_int pa_nil)) (pg_name (i := 6) sc.nd rfl (Or.inl rfl)) (@pss_cons _ _ _ _ _ (ps_set (i := 7) sc.nd rfl (Or.inl rfl) (pe_cl c_law_rows_by hr rfl (pa_cons (pv 0) (pa_cons (pe_op op_add pe_int (pv 6)) (pa_cons (pe_ix ix_tup (pv 1) pe_int (fun _ _ => rfl)) pa_nil)))))
      (@pss_cons _ _ _ _ _ (ps_set (i := 8) sc.nd rfl (Or.inl rfl) (pe_cl c_law_taken_by hr rfl (pa_cons (pv 0) (pa_cons (pe_op op_add pe_int (pv 6)) pa_nil))))
      (@pss_cons _ _ _ _ _ (ps_set (i := 8) sc.nd rfl (Or.inl rfl) (pe_op op_cat (pe_lst (pa_cons (pe_op op_mod (pe_op op_fdiv (pe_cl c_law_cell hr rfl (pa_cons (pv 0) (pa_cons (pe_op op_add pe_int (pv 6)) pa_nil))) pe_int) pe_int) pa_nil)) (pe_slice sl_list (pv 8) po_none (po_some pe_int))))
      (@pss_cons _ _ _ _ _ (ps_expr (pe_bm PySem.F.plainAttrs_list PySem.F.slot_list_append PySem.F.type_list_append mt_append (pv 5) (pa_cons (pe_cl c_law_begun hr rfl (pa_cons (pv 1) (pa_cons (pv 7) (pa_cons (pv 8) pa_nil)))) pa_nil)))
      (@pss_cons _ _ _ _ _ (ps_dput hu (pe_ix ix_list (pv 5) (pv 6) (fun _ _ => rfl)) pe_str pe_non rfl)
      (@pss_cons _ _ _ _ _ (ps_expr (pe_bm PySem.F.plainAttrs_list PySem.F.slot_list_append PySem.F.type_list_append mt_append (pv 4) (pa_cons (pe_mk c_Walk hr1 rfl (pa_cons (pv 1) (pa_cons (pv 7) (pa_cons (pv 8) (pa_cons (pv 3) pa_nil))))) pa_nil)))
      (pss_one (ps_if (pt_not (pt_val (pe_cl c_law_same hr rfl (pa_cons (pe_ix ix_list (pv 4) (pv 6) (fun _ _ => rfl)) (pa_cons (pe_ix ix_list (pv 5) (pv 6) (fun _ _ => rfl)) (pa_cons pe_non pa_nil)))))) (pss_one (ps_ret pe_bl)) pss_nil)))))))))
      (@pss_cons _ _ _ _ _ (ps_for PassesOwn.never rfl (pi_range1 rfl m_range (pa_cons (pe_op op_add (pv 3) pe_int) pa_nil)) (pg_name (i := 6) sc.nd rfl (Or.inl rfl)) (@pss_cons _ _ _ _ _ (ps_if (pt_not (pt_val (pe_cl c_law_moved hr rfl (pa_cons (pe_ix ix_list (pv 4) pe_int (fun _ _ => rfl)) (pa_cons (pe_ix ix_list (pv 5) pe_int (fun _ _ => rfl)) (pa_cons (pe_ix ix_tup (pv 1) pe_int (fun _ _ => rfl)) (pa_cons (pv 3) pa_nil))))))) (pss_one (ps_ret pe_bl)) pss_nil)
      (pss_one (ps_if (PW.pt (pw_and (pt_cmpR op_gt (pv 6) pe_int (nomark _)) (pw_and1 (pt_not (pt_val (pe_cl c_law_moved hr rfl (pa_cons (pe_ix ix_list (pv 4) pe_int (fun _ _ => rfl)) (pa_cons (pe_ix ix_list (pv 5) pe_int (fun _ _ => rfl)) (pa_cons (pe_ix ix_tup (pv 1) pe_int (fun _ _ => rfl)) (pa_cons (pv 3) pa_nil)))))))))) (pss_one (ps_ret pe_bl)) pss_nil))))
      (pss_one (ps_ret (pe_and (pe_cmpR (op_eqT (n := 9) hu2) (pv 1) (pv 2) (nomark _)) (pe_and (pe_cmpR op_notN (pe_dget hu (pe_ix ix_list (pv 5) pe_int (fun _ _ => rfl)) pe_str (fun _ _ => rfl)) pe_non (nomark _)) (pe_one (pe_cmpR op_notN (pe_dget hu (pe_ix ix_list (pv 5) pe_int (fun _ _ => rfl)) pe_str (fun _ _ => rfl)) pe_non (nomark _)))))))))))))), ?_⟩
  refine ⟨_, rfl, a, ns, rfl, hS, h63, fun nm rw ls xs tp al H1 s1 etp eal nal il hP => ?_⟩
  refine ⟨_, rfl, tp, _, 0, _, rfl, rfl, SqT.of etp, at0 _ _, _, rfl, tp, _, 1, _, rfl, rfl, SqT.of etp, at1 _ _ _, _, rfl, tp, _, 2, _, rfl, rfl, SqT.of etp, at2 _ _ _ _, al, _, rfl, .inl (SqL.of eal), fun l2 nl2 => ⟨Nat.le_of_ble_eq_true rfl, fun th nth => ?_⟩⟩
  have u1 := same_new nl2 (.lst xs)
  have u2 := same_new nth (.tup [.int (nm : Int), .int (rw : Int), .ref l2])
  have u12 := u1.trans u2
  have el2 := u2 _ _ (upd_same (H := H1) (a := l2) (o := .lst xs))
  have eth : upd (upd H1 l2 (.lst xs)) th (.tup [.int (nm : Int), .int (rw : Int), .ref l2]) th = some (.tup [.int (nm : Int), .int (rw : Int), .ref l2]) := upd_same
  have etp3 := u12 _ _ etp
  have eal3 := u12 _ _ eal
  have il3 := il.mono u12.tups
  have hS3 := (s1.trans u12).seq hS
  generalize upd (upd H1 l2 (.lst xs)) th (.tup [.int (nm : Int), .int (rw : Int), .ref l2]) = H3 at *
  refine ⟨_, rfl, a, ns, 7, rfl, hS3, h63, by decide, by decide, fun c7 H4 s4 => ⟨_, _, rfl, rfl, by show (0 : Int) < 41; decide, ?_⟩⟩
  dsimp only [gName, tSeq]
  have bb : 0 ≤ c7 % 41 ∧ c7 % 41 ≤ 40 := by omega
  generalize c7 % 41 = xb at *
  obtain ⟨b, rfl⟩ : ∃ b : Nat, xb = (b : Int) := ⟨xb.toNat, by omega⟩
  have b40 : b ≤ 40 := by omega
  replace el2 := s4 _ _ el2
  replace eth := s4 _ _ eth
  replace etp := s4 _ _ etp3
  replace eal := s4 _ _ eal3
  replace il := il3.mono s4.tups
  replace hS := s4.seq hS3
  clear s4 s1 u1 u2 u12 etp3 eal3 il3 hS3 nl2 nth nal bb
  have nm1 := hP.n1
  have nm4 := hP.n4
  have rw1 := hP.r1
  have rw3 := hP.r3
  refine ⟨Nat.le_of_ble_eq_true rfl, fun pw npw => ⟨Nat.le_of_ble_eq_true rfl, fun pst npst => ?_⟩⟩
  have npst4 : H4 pst = none := none_of_same (same_new npw (.lst [])) npst
  have wst : pw ≠ pst := ne_p (upd_same (H := H4) (a := pw) (o := .lst [])) npst
  refine ⟨_, rfl, by decide, by decide, ?_⟩
  refine for_range (fun i σ H' => ∃ y6 y7 y8 ps, σ = [some (.ref a), some (.ref tp), some (.ref th), some (.int (b : Int)), some (.ref pw), some (.ref pst), y6, y7, y8] ∧ ps.length = i ∧ Made K C H4 H' pw pst ls b nm rw ps)
    ⟨_, _, _, [], rfl, rfl, (same_new npw (.lst [])).trans (same_new npst (.lst [])), by rw [upd_ne wst]; exact upd_same, upd_same, (fun p hp => by cases hp), (fun p hp => by cases hp), .nil⟩ (fun i σ H' hi h => ?_) (fun σ H5 h => ?_)
  · obtain ⟨y6, y7, y8, ps, rfl, lps, hM⟩ := h
    have hi2 : i < 2 := hi
    rw [Int.zero_add]
    have sm := hM.sm
    refine ⟨_, rfl, _, rfl, _, _, rfl, rfl, _, rfl, tp, _, 1, _, rfl, rfl, SqT.of (sm _ _ etp), at1 _ _ _, a, ns, _, rw, rfl, sm.seq hS, h63, by omega, by omega, by omega, fun H5 p rs rows s5 ra fr lr hlr => ?_⟩
    have sm5 := sm.trans s5
    refine ⟨_, rfl, _, rfl, _, _, rfl, rfl, a, ns, _, rfl, sm5.seq hS, h63, by omega, by omega, fun H6 pt tk s6 ept npt ltk => ?_⟩
    have sm6 := sm5.trans s6
    refine ⟨_, rfl, _, rfl, _, _, rfl, rfl, a, ns, _, rfl, sm6.seq hS, h63, by omega, by omega, fun c5 H7 s7 => ⟨_, _, rfl, rfl, ⟨by decide, by decide⟩, _, _, rfl, rfl, by show (0 : Int) < 6; decide, Nat.le_of_ble_eq_true rfl, fun l1 nl1 => ?_⟩⟩
    have v1 := same_new nl1 (.lst [.int (c5 / 9 % 6)])
    have ept7 := v1 _ _ (s7 _ _ ept)
    refine ⟨_, rfl, _, rfl, pt, _, rfl, SqL.of ept7, fun l3 nl3 => ?_⟩
    obtain ⟨tk', etk, ltk'⟩ := cut_ints tk none (some 99)
    rw [etk]
    have v2 := same_new nl3 (.lst (intsV tk'))
    refine ⟨l1, l3, _, _, rfl, rfl, v2 _ _ upd_same, upd_same, small (by rw [len_ints]; simp only [List.length_singleton]; omega), fun l4 nl4 => ?_⟩
    have ec : [V.int (c5 / 9 % 6)] ++ intsV tk' = intsV ((c5 / 9 % 6) :: tk') := rfl
    rw [ec]
    generalize (c5 / 9 % 6) :: tk' = taken at *
    have v3 := same_new nl4 (.lst (intsV taken))
    have st := s5.trans (s6.trans (s7.trans (v1.trans (v2.trans v3))))
    have ra7 := ra.same (s6.trans (s7.trans (v1.trans (v2.trans v3))))
    have nl4st : l4 ≠ pst := (ne_p ((s5.trans (s6.trans (s7.trans (v1.trans v2)))) _ _ hM.st) nl4).symm
    have frp : ∀ c ∈ p :: rs, c ≠ pst := fun c hc z => by have := fr c hc; rw [z, hM.st] at this; cases this
    have el4 := upd_same (H := upd (upd H7 l1 (.lst [.int (c5 / 9 % 6)])) l3 (.lst (intsV tk'))) (a := l4) (o := .lst (intsV taken))
    generalize upd (upd (upd H7 l1 (.lst [.int (c5 / 9 % 6)])) l3 (.lst (intsV tk'))) l4 (.lst (intsV taken)) = Ht at *
    clear v1 v2 v3 s5 s6 s7 ept ept7 npt nl1 nl3 nl4 ec etk ltk' ltk sm5 sm6 ra fr
    have smt := sm.trans st
    have stt := st _ _ hM.st
    refine ⟨_, rfl, .inl ⟨rfl, _, SqL.of stt⟩, ?_⟩
    refine ⟨_, rfl, _, rfl, _, rfl, tp, p, l4, nm, _, rows, taken, rfl, SqT.of (smt _ _ etp), ra7.src, by omega, SqL.of el4, by omega, fun H8 L s8 hL hheld frL => ?_⟩
    have st8 := s8 _ _ stt
    refine ⟨pst, _, _, rfl, rfl, st8, small1000 (by rw [List.length_map]; omega), ?_⟩
    have nLst : ∀ c ∈ L.all, c ≠ pst := fun c hc z => by rw [z] at hc; have := frL pst hc; rw [stt] at this; cases this
    have nLw : ∀ c ∈ L.all, c ≠ pw := fun c hc z => by rw [z] at hc; have := frL pw hc; rw [st _ _ hM.w] at this; cases this
    have hL9 := hL.keep (H' := upd H8 pst (.lst ((ps.map fun p => V.ref p.2.sd) ++ [.ref L.sd]))) fun c o hc e => by rw [upd_ne (nLst c hc)]; exact e
    have t9 := Tups.lst (ys := (ps.map fun p => V.ref p.2.sd) ++ [.ref L.sd]) st8
    have e9 : upd H8 pst (.lst ((ps.map fun p => V.ref p.2.sd) ++ [.ref L.sd])) pst = some (.lst ((ps.map fun p => V.ref p.2.sd) ++ [.ref L.sd])) := upd_same
    have sm9 : Same H4 (upd H8 pst (.lst ((ps.map fun p => V.ref p.2.sd) ++ [.ref L.sd]))) := Same.new (smt.trans s8) npst4
    have el9 : upd H8 pst (.lst ((ps.map fun p => V.ref p.2.sd) ++ [.ref L.sd])) l4 = some (.lst (intsV taken)) := by rw [upd_ne nl4st]; exact s8 _ _ el4
    have ra9 : RowsAt (upd H8 pst (.lst ((ps.map fun p => V.ref p.2.sd) ++ [.ref L.sd]))) p rs rows := (ra7.same s8).keep fun c o hc e => by rw [upd_ne (frp c hc)]; exact e
    have k9 : ∀ c o, H' c = some o → c ≠ pst → upd H8 pst (.lst ((ps.map fun p => V.ref p.2.sd) ++ [.ref L.sd])) c = some o := fun c o e n => by rw [upd_ne n]; exact s8 _ _ (st _ _ e)
    have tt9 := (st.trans s8).tups.trans t9
    generalize upd H8 pst (.lst ((ps.map fun p => V.ref p.2.sd) ++ [.ref L.sd])) = H9 at *
    have elm : (ps.map fun p => V.ref p.2.sd).length = i := by rw [List.length_map]; exact lps
    have elw : (ps.map fun p => V.ref p.1.x).length = i := by rw [List.length_map]; exact lps
    have at9 : ((ps.map fun p => V.ref p.2.sd) ++ [V.ref L.sd])[i]? = some (.ref L.sd) := by rw [List.getElem?_append_right (by omega), elm, Nat.sub_self]; rfl
    refine ⟨_, rfl, _, rfl, pst, _, _, .ref L.sd, rfl, rfl, SqL.of e9, atI_nat at9, L.sd, _, rfl, put_end hL9.d, ?_⟩
    have nLsd : H' L.sd = none := none_of_same st (frL _ (by simp [LA.all]))
    have hL10 : LawAt (upd H9 L.sd (.dK (stK (L.hold .non) 0 0))) (L.hold .non) rows ⟨List.replicate nm 0, taken, []⟩ 0 0 := hL9.hold .non
    have t10 : Tups H9 (upd H9 L.sd (.dK (stK (L.hold .non) 0 0))) := tups_dk hL9.d
    have sm10 : Same H4 (upd H9 L.sd (.dK (stK (L.hold .non) 0 0))) := Same.new sm9 (none_of_same sm nLsd)
    have k10 : ∀ c o, H' c = some o → c ≠ pst → upd H9 L.sd (.dK (stK (L.hold .non) 0 0)) c = some o := fun c o e n => by rw [upd_ne (ne_p e nLsd)]; exact k9 c o e n
    have e10 : upd H9 L.sd (.dK (stK (L.hold .non) 0 0)) pst = some (.lst ((ps.map fun p => V.ref p.2.sd) ++ [.ref L.sd])) := by rw [upd_ne (nLst _ (by simp [LA.all])).symm]; exact e9
    have tt10 := tt9.trans t10
    have el10 : upd H9 L.sd (.dK (stK (L.hold .non) 0 0)) l4 = some (.lst (intsV taken)) := by rw [upd_ne (ne_p el4 (frL _ (by simp [LA.all])))]; exact el9
    have ra10 : SrcRows K (upd H9 L.sd (.dK (stK (L.hold .non) 0 0))) p rows := (ra9.keep fun c o hc e => by
      obtain ⟨o', e'⟩ := ra7.live c hc
      rw [upd_ne (ne_p e' (frL _ (by simp [LA.all])))]; exact e).src
    generalize upd H9 L.sd (.dK (stK (L.hold .non) 0 0)) = H10 at *
    have ew10 := k10 _ _ hM.w wst
    refine ⟨_, rfl, .inl ⟨rfl, _, SqL.of ew10⟩, ?_⟩
    refine ⟨_, rfl, _, rfl, _, rfl, _, rfl, fun x dx nx ndx ndx' => ?_⟩
    have u6 := same_new ndx (.own x)
    have nx6 : upd H10 dx (.own x) x = none := by rw [upd_ne ndx'.symm]; exact nx
    have u67 := u6.trans (same_new nx6 (.ins C dx []))
    have s07 := sm10.trans u67
    refine ⟨x, dx, tp, al, p, l4, nm, _, b, rows, taken, xs, ls.map Ln.D, rfl, upd_same, SqT.of (s07 _ _ etp), SqL.of (s07 _ _ eal), il.mono s07.tups, ra10.same u67, by omega, SqL.of (u67 _ _ el10), by omega, fun A W0 ex edx hk' hfr hw => ⟨rfl, ?_⟩⟩
    subst ex
    have sW : Same H10 W0 := fun c o e => hk' c o (u67 _ _ e) (ne_p e nx)
    have frA : ∀ c ∈ A.all, H10 c = none := fun c hc => by
      unfold WA.all at hc
      rcases List.mem_cons.mp hc with y | y
      · rw [y]; exact nx
      · exact none_of_same u67 (hfr c y)
    have hw0 : WalkAt K W0 C A (wsOf ls rows b 0 ⟨List.replicate nm 0, taken, []⟩ 0) := hw
    have nAw : ∀ c ∈ A.all, c ≠ pw := fun c hc z => by rw [z] at hc; have := frA pw hc; rw [ew10] at this; cases this
    have nAst : ∀ c ∈ A.all, c ≠ pst := fun c hc z => by rw [z] at hc; have := frA pst hc; rw [e10] at this; cases this
    have ewW := sW _ _ ew10
    clear hw hk' hfr u6 nx6 u67 s07 ndx' ndx nx
    refine ⟨pw, _, _, rfl, rfl, ewW, small1000 (by rw [List.length_map]; omega), ?_⟩
    have hL0 := hL10.same sW
    have t12 := Tups.lst (ys := (ps.map fun p => V.ref p.1.x) ++ [.ref A.x]) ewW
    have hw12 := hw0.keep (H' := upd W0 pw (.lst ((ps.map fun p => V.ref p.1.x) ++ [.ref A.x]))) (fun c o hc e => by rw [upd_ne (nAw c hc)]; exact e) t12
    have hL12 := hL0.keep (H' := upd W0 pw (.lst ((ps.map fun p => V.ref p.1.x) ++ [.ref A.x]))) fun c o hc e => by rw [upd_ne (nLw c hc)]; exact e
    have e12w : upd W0 pw (.lst ((ps.map fun p => V.ref p.1.x) ++ [.ref A.x])) pw = some (.lst ((ps.map fun p => V.ref p.1.x) ++ [.ref A.x])) := upd_same
    have e12s : upd W0 pw (.lst ((ps.map fun p => V.ref p.1.x) ++ [.ref A.x])) pst = some (.lst ((ps.map fun p => V.ref p.2.sd) ++ [.ref L.sd])) := by rw [upd_ne wst.symm]; exact sW _ _ e10
    have sm12 : Same H4 (upd W0 pw (.lst ((ps.map fun p => V.ref p.1.x) ++ [.ref A.x]))) := Same.new (sm10.trans sW) npw
    have k12 : ∀ c o, H' c = some o → c ≠ pw → c ≠ pst → upd W0 pw (.lst ((ps.map fun p => V.ref p.1.x) ++ [.ref A.x])) c = some o := fun c o e n1 n2 => by rw [upd_ne n1]; exact sW _ _ (k10 c o e n2)
    have tt12 := tt10.trans (sW.tups.trans t12)
    generalize upd W0 pw (.lst ((ps.map fun p => V.ref p.1.x) ++ [.ref A.x])) = H12 at *
    have at12 : ((ps.map fun p => V.ref p.1.x) ++ [V.ref A.x])[i]? = some (.ref A.x) := by rw [List.getElem?_append_right (by omega), elw, Nat.sub_self]; rfl
    have fit0 : Fit rows nm rw ⟨List.replicate nm 0, taken, []⟩ 0 := ⟨lr, by omega, fun r hr => by have := hlr r hr; omega, List.length_replicate, by omega, Nat.le_refl _⟩
    refine ⟨_, rfl, _, rfl, pw, _, _, .ref A.x, rfl, rfl, SqL.of e12w, atI_nat at12, _, rfl, _, rfl, pst, _, _, .ref L.sd, rfl, rfl, SqL.of e12s, atI_nat at9, A, L.hold .non, _, rows, _, _, ⟨List.replicate nm 0, taken, []⟩, 0, 0, none, .non, rfl, hw12, hL12, by omega, rfl, (by show (List.replicate nm (0 : Int)).length ≤ 100; rw [List.length_replicate]; omega), Nat.zero_le _, fun H13 s13 => ⟨_, rfl, iteF ?_⟩⟩
    have kP : ∀ p ∈ ps, ∀ c o, Own p c → H' c = some o → H13 c = some o := fun p hp c o hc e => s13 _ _ (k12 c o e ((hM.own p hp).1 c hc).2.1 ((hM.own p hp).1 c hc).2.2)
    have newN : ∀ c, Own (A, L.hold .non) c → H' c = none := fun c hc => by
      rcases hc with hc | hc
      · cases e : H' c with
        | none => rfl
        | some o => exact absurd (frA c hc) (by
            by_cases z : c = pst
            · exact fun _ => nAst c hc z
            · rw [k10 c o e z]; intro y; cases y)
      · exact none_of_same st (frL c hc)
    refine ⟨_, _, _, ps ++ [(A, L.hold .non)], rfl, by rw [List.length_append, lps]; rfl, sm12.trans s13, ?_, ?_, fun p hp => ?_, fun p hp => ?_, ?_⟩
    · rw [List.map_append]; exact s13 _ _ e12w
    · rw [List.map_append]; exact s13 _ _ e12s
    · rcases List.mem_append.mp hp with z | z
      · exact (hM.pair p z).keep (fun c o hc e => kP p z c o hc e) (tt12.trans s13.tups)
      · rw [List.mem_singleton.mp z]
        exact .inl ⟨rows, _, 0, hw12.same s13, hL12.same s13, rfl, fit0, hP.l1, Nat.zero_le _⟩
    · rcases List.mem_append.mp hp with z | z
      · exact hM.own p z
      · rw [List.mem_singleton.mp z]
        refine ⟨fun c hc => ⟨none_of_same sm (newN c hc), ?_⟩, fun c hc hm => ?_⟩
        · rcases hc with hc | hc
          · exact ⟨nAw c hc, nAst c hc⟩
          · exact ⟨nLw c hc, nLst c hc⟩
        · obtain ⟨o, e⟩ := hL10.live c hm
          rw [frA c hc] at e; cases e
    · rw [List.pairwise_append]
      refine ⟨hM.apart, List.pairwise_singleton _ _, fun p hp r hr c hc hc2 => ?_⟩
      rw [List.mem_singleton.mp hr] at hc2
      obtain ⟨o, e⟩ := (hM.pair p hp).live c hc
      rw [newN c hc2] at e; cases e
  -- the steps by turns
  obtain ⟨y6, y7, y8, ps, rfl, lps, hM⟩ := h
  have l2' : ps.length = 2 := lps
  obtain ⟨⟨A0, L0⟩, ⟨A1, L1⟩, rfl⟩ : ∃ p0 p1, ps = [p0, p1] := by
    match ps, l2' with
    | [p0, p1], _ => exact ⟨p0, p1, rfl⟩
  have own0 := (hM.own (A0, L0) (by simp)).1
  have own1 := (hM.own (A1, L1) (by simp)).1
  have in0 : ∀ c ∈ A0.all, ¬ c ∈ L0.all := (hM.own (A0, L0) (by simp)).2
  have in1 : ∀ c ∈ A1.all, ¬ c ∈ L1.all := (hM.own (A1, L1) (by simp)).2
  have ap : ∀ c, Own (A0, L0) c → ¬ Own (A1, L1) c := (List.pairwise_cons.mp hM.apart).1 _ (by simp)
  have nsd0 : al ≠ L0.sd := fun z => by have := (own0 L0.sd (.inr (by simp [LA.all]))).1; rw [← z, eal] at this; cases this
  have nsd1 : al ≠ L1.sd := fun z => by have := (own1 L1.sd (.inr (by simp [LA.all]))).1; rw [← z, eal] at this; cases this
  have fr0 : ∀ c ∈ A0.all ++ L0.all, H4 c = none ∧ c ≠ pw ∧ c ≠ pst := fun c hc => own0 c (List.mem_append.mp hc)
  have fr1 : ∀ c ∈ A1.all ++ L1.all, H4 c = none ∧ c ≠ pw ∧ c ≠ pst := fun c hc => own1 c (List.mem_append.mp hc)
  refine ⟨_, rfl, _, _, rfl, rfl, _, rfl, by omega, by omega, ?_⟩
  rw [show ((b : Int) + 4).toNat = b + 4 by omega]
  refine for_range (n := b + 4) (fun k σ H' => ∃ y6 M0 M1, σ = [some (.ref a), some (.ref tp), some (.ref th), some (.int (b : Int)), some (.ref pw), some (.ref pst), y6, y7, y8] ∧ Same H4 H' ∧ H' pw = some (.lst [.ref A0.x, .ref A1.x]) ∧ H' pst = some (.lst [.ref L0.sd, .ref L1.sd]) ∧ M0.all = L0.all ∧ M0.sd = L0.sd ∧ M1.all = L1.all ∧ M1.sd = L1.sd ∧ Pair K H' C A0 M0 ls b nm rw k ∧ Pair K H' C A1 M1 ls b nm rw (k - 2))
    ⟨_, L0, L1, rfl, hM.sm, hM.w, hM.st, rfl, rfl, rfl, rfl, hM.pair (A0, L0) (by simp), hM.pair (A1, L1) (by simp)⟩ (fun k σ H' hk h => ?_) (fun σ H6 h => ?_)
  · obtain ⟨y6', M0, M1, rfl, sm, ew, es, a0, d0, a1, d1, p0, p1⟩ := h
    rw [Int.zero_add]
    refine ⟨_, rfl, pw, _, 0, _, rfl, rfl, SqL.of ew, rfl, _, rfl, pst, _, 0, _, rfl, rfl, SqL.of es, rfl, _, rfl, tp, _, 2, _, rfl, rfl, SqT.of (sm _ _ etp), at2 _ _ _ _, _, rfl, A0, M0, ls, b, nm, rw, k, al, xs, by rw [d0], p0, sm _ _ eal, il.mono sm.tups, by rw [d0]; exact nsd0, hP.ok, hP.rank, by omega, by rw [a0]; exact in0, fun H7 M0' b7 t7 aa dd p0' => ⟨_, rfl, iteF ?_⟩⟩
    rw [a0] at b7 aa
    rw [d0] at dd
    have sm7 := same_but sm b7 fun c hc => (fr0 c hc).1
    have ew7 := b7 _ _ ew fun hc => (fr0 _ hc).2.1 rfl
    have es7 := b7 _ _ es fun hc => (fr0 _ hc).2.2 rfl
    have p17 := p1.keep (fun c o hc e => b7 c o e fun hm => ap c (List.mem_append.mp hm) (by rw [a1] at hc; exact hc)) t7
    clear b7 t7 ew es sm p0 p1
    refine ⟨_, rfl, _, _, rfl, rfl, _, rfl, ite2 (fun ck => ?_) (fun ck => ?_)⟩
    · have hk1 : (1 : Int) < (k : Int) := of_decide_eq_true ck
      refine ⟨_, rfl, pw, _, 1, _, rfl, rfl, SqL.of ew7, rfl, _, rfl, pst, _, 1, _, rfl, rfl, SqL.of es7, rfl, _, rfl, tp, _, 2, _, rfl, rfl, SqT.of (sm7 _ _ etp), at2 _ _ _ _, _, rfl, A1, M1, ls, b, nm, rw, k - 2, al, xs, by rw [d1], p17, sm7 _ _ eal, il.mono sm7.tups, by rw [d1]; exact nsd1, hP.ok, hP.rank, by omega, by rw [a1]; exact in1, fun H8 M1' b8 t8 aa1 dd1 p1' => ⟨_, rfl, iteF ?_⟩⟩
      rw [a1] at b8 aa1
      rw [d1] at dd1
      refine ⟨_, M0', M1', rfl, same_but sm7 b8 fun c hc => (fr1 c hc).1, b8 _ _ ew7 fun hc => (fr1 _ hc).2.1 rfl, b8 _ _ es7 fun hc => (fr1 _ hc).2.2 rfl, aa, dd, aa1, dd1, p0'.keep (fun c o hc e => b8 c o e fun hm => ap c (by rw [aa] at hc; exact hc) (List.mem_append.mp hm)) t8, ?_⟩
      rw [show k + 1 - 2 = k - 2 + 1 by omega]; exact p1'
    · have hk1 : ¬ (1 : Int) < (k : Int) := fun z => ck (decide_eq_true z)
      refine iteF ⟨_, M0', M1, rfl, sm7, ew7, es7, aa, dd, a1, d1, p0', ?_⟩
      rw [show k + 1 - 2 = k - 2 by omega]; exact p17
  · obtain ⟨y6', M0, M1, rfl, sm, ew, es, a0, d0, a1, d1, p0, p1⟩ := h
    have dd : T.depL ((ls.map Ln.D).map T.d) ≤ 4 := tdep_ds fun d hd => by
      obtain ⟨l, _, rfl⟩ := List.mem_map.mp hd
      exact dep_ln l
    have itl : IsTL K H6 ((ls.map Ln.D).map T.d) xs := istl_ds (il.mono sm.tups)
    refine ⟨_, rfl, _, rfl, [.d (.int (nm : Int)), .d (.int (rw : Int)), .lst ((ls.map Ln.D).map T.d)], .inr ⟨ist_tup (SqT.of (sm _ _ etp)) (istl_cons (ist_d is_int) (istl_cons (ist_d is_int) (istl_cons (ist_lst (SqL.of (sm _ _ eal)) itl) istl_nil))), ist_tup (SqT.of (sm _ _ eth)) (istl_cons (ist_d is_int) (istl_cons (ist_d is_int) (istl_cons (ist_lst (SqL.of (sm _ _ el2)) itl) istl_nil)))⟩, ?_, _, rfl, iteT ?_⟩
    · rw [tdepL_cons, tdepL_cons, tdepL_cons, tdepL_nil, tdep_int, tdep_int, tdep_lst]; omega
    rcases p0 with ⟨_, _, _, _, _, _, _, _, h⟩ | ⟨rows0, m0, i0, s0, z0, te0, hw0, hL0, hh0, _⟩
    · omega
    rcases p1 with ⟨_, _, _, _, _, _, _, _, h⟩ | ⟨rows1, m1, i1, s1, z1, te1, hw1, hL1, hh1, _⟩
    · omega
    refine ⟨_, rfl, pst, _, 0, _, rfl, rfl, SqL.of es, rfl, L0.sd, _, rfl, by rw [← d0]; exact get_end hh0 hL0.d, rfl, _, rfl, iteB1 (not_non te0) ?_⟩
    exact ⟨_, rfl, pst, _, 1, _, rfl, rfl, SqL.of es, rfl, L1.sd, _, rfl, by rw [← d1]; exact get_end hh1 hL1.d, rfl, (by rw [not_non te1]; exact q _)⟩
end
end K25
set_option Elab.async false
set_option linter.all false
set_option maxRecDepth 100000
set_option maxHeartbeats 4000000
namespace K25
open PySem PySem.Spec PyProof.Rows L2
noncomputable def RowP (w : World) (K : PySem.W.Frag) (p : Str × List Str) (e : DictEntry) : Prop := e.hash = hashStr w p.1 ∧ (∃ t, e.key = .str p.1 t) ∧ ∃ (a : Addr) (o : Obj) (its : Array Value) (n : Nat), e.val = .ref a ∧ K.lookup a = some o ∧ o.cls = .type "tuple" ∧ o.data = .seq its n ∧ its.size ≤ sizeLine ∧ Vals (p.2.map V.str) its.toList
theorem row_mk {w : World} {K : PySem.W.Frag} {p : Str × List Str} {e : DictEntry} {t : Tok} {a : Addr} {o : Obj} {its : Array Value} {n : Nat} (h1 : e.hash = hashStr w p.1) (h2 : e.key = .str p.1 t) (h3 : e.val = .ref a) (h4 : K.lookup a = some o) (h5 : o.cls = .type "tuple") (h6 : o.data = .seq its n) (h7 : its.size ≤ sizeLine)
    (h8 : Vals (p.2.map V.str) its.toList) : RowP w K p e := ⟨h1, ⟨t, h2⟩, a, o, its, n, h3, h4, h5, h6, h7, h8⟩
theorem tab_mk {P : Program} {w : World} {K : PySem.W.Frag} {mg : Str → Option Value} {aP : Addr} {oP : Obj} {es : Array DictEntry} {ep : Nat} (mp : mg "PARTS" = some (.ref aP)) (lP : K.lookup aP = some oP) (xP : oP.ExactDict) (dP : oP.data = .dict es ep) (rP : Paired (RowP w K) partsL es.toList) : Tab P w K mg aP := by
  have go : ∀ (l : List (Str × List Str)) (r : List DictEntry), Paired (RowP w K) l r → ∃ kvs : List (Str × V), Paired (fun (p : Str × V) (e : DictEntry) => e.hash = hashStr w p.1 ∧ (∃ t, e.key = .str p.1 t) ∧ RelV p.2 e.val) kvs r ∧ kvs.map (·.1) = l.map (·.1) ∧
      ∀ (x : Str) (ks : List Str), l.lookup x = some ks → ∃ p, kvs.lookup x = some (.ref p) ∧ ∀ H : Hp, SqT K H p (ks.map V.str) := by
    intro l r h
    induction h with
    | nil => exact ⟨[], .nil, rfl, fun x ks h => by simp at h⟩
    | @cons p e l1 l2 hd tl ih =>
      obtain ⟨kvs, h1, h2, h3⟩ := ih
      obtain ⟨p1, p2⟩ := p
      obtain ⟨q1, q2, a, o, its, n, q3, q4, q5, q6, q7, q8⟩ := hd
      refine ⟨(p1, .ref a) :: kvs, .cons ⟨q1, q2, q3⟩ h1, by simp [h2], fun x ks hx => ?_⟩
      cases hb : x == p1 with
      | true =>
        simp only [List.lookup_cons, hb] at hx ⊢
        cases hx
        exact ⟨a, rfl, fun H => .inr ⟨o, its, n, q4, q5, q6, q7, q8⟩⟩
      | false =>
        simp only [List.lookup_cons, hb] at hx ⊢
        exact h3 x ks hx
  obtain ⟨kvs, h1, h2, h3⟩ := go _ _ rP
  refine ⟨mp, ⟨kvs, KD.of lP xP dP h1 ?_, h3⟩⟩
  rw [h2]
  decide +kernel
theorem tabG_mk {K : PySem.W.Frag} {mg : Str → Option Value} {aG aL : Addr} {oG oL : Obj} {nG nL : Nat} {iG iL : Array Value} (mv : mg "GIVING" = some (.ref aG)) (lG : K.lookup aG = some oG) (cG : oG.cls = .type "tuple") (dG : oG.data = .seq iG nG) (zG : iG.size ≤ sizeLine) (vG : Vals (givingL.map V.str) iG.toList)
    (ml : mg "PLACING" = some (.ref aL)) (lL : K.lookup aL = some oL) (cL : oL.cls = .type "tuple") (dL : oL.data = .seq iL nL) (zL : iL.size ≤ sizeLine) (vL : Vals (placingL.map V.str) iL.toList) : TabG K mg aG aL :=
  ⟨mv, fun H => .inr ⟨oG, iG, nG, lG, cG, dG, zG, vG⟩, ml, fun H => .inr ⟨oL, iL, nL, lL, cL, dL, zL, vL⟩⟩
end K25
set_option Elab.async false
set_option linter.all false
set_option maxRecDepth 100000
set_option maxHeartbeats 4000000
namespace K25
open PySem PySem.Spec PyProof.Rows L2
theorem lenS {n : Nat} {us : List Value} (hl : us.length = n + 1) : ∃ a t, us = a :: t ∧ t.length = n := by
  cases us with
  | nil => cases hl
  | cons a t => exact ⟨a, t, rfl, Nat.succ.inj hl⟩
theorem len1 {p : List Value → Prop} {us : List Value} (hl : us.length = 1) (h : ∀ a, p [a]) : p us := by
  obtain ⟨a, t, rfl, e⟩ := lenS hl
  obtain rfl := List.eq_nil_of_length_eq_zero e
  exact h a
theorem len2 {p : List Value → Prop} {us : List Value} (hl : us.length = 2) (h : ∀ a0 a1, p [a0, a1]) : p us := by
  obtain ⟨a, t, rfl, e⟩ := lenS hl
  exact len1 (p := fun t => p (a :: t)) e (h a)
theorem len3 {p : List Value → Prop} {us : List Value} (hl : us.length = 3) (h : ∀ a0 a1 a2, p [a0, a1, a2]) : p us := by
  obtain ⟨a, t, rfl, e⟩ := lenS hl
  exact len2 (p := fun t => p (a :: t)) e (h a)
theorem len4 {p : List Value → Prop} {us : List Value} (hl : us.length = 4) (h : ∀ a0 a1 a2 a3, p [a0, a1, a2, a3]) : p us := by
  obtain ⟨a, t, rfl, e⟩ := lenS hl
  exact len3 (p := fun t => p (a :: t)) e (h a)
theorem len5 {p : List Value → Prop} {us : List Value} (hl : us.length = 5) (h : ∀ a0 a1 a2 a3 a4, p [a0, a1, a2, a3, a4]) : p us := by
  obtain ⟨a, t, rfl, e⟩ := lenS hl
  exact len4 (p := fun t => p (a :: t)) e (h a)
theorem all_mk {l : PySem.W.OpenLaw} {w : World} {K : PySem.W.Frag} {h : Heap} {mg : Str → Option Value} {fa : Addr} (X : K.In h) (G : h.Ns mainGlobals mg) (hfa : mg "law" = some (.ref fa))
    {f1 : Addr} {od1 an1 : Option Addr} {sl1 : Array (Option Value)} {oc1 kV1 dc1 pm1 cd1 ct1 : Value}
    {f2 : Addr} {od2 an2 : Option Addr} {sl2 : Array (Option Value)} {oc2 kV2 dc2 pm2 cd2 ct2 : Value}
    {f3 : Addr} {od3 an3 : Option Addr} {sl3 : Array (Option Value)} {oc3 kV3 dc3 pm3 cd3 ct3 : Value}
    {f4 : Addr} {od4 an4 : Option Addr} {sl4 : Array (Option Value)} {oc4 kV4 dc4 pm4 cd4 ct4 : Value}
    {f5 : Addr} {od5 an5 : Option Addr} {sl5 : Array (Option Value)} {oc5 kV5 dc5 pm5 cd5 ct5 : Value}
    {f6 : Addr} {od6 an6 : Option Addr} {sl6 : Array (Option Value)} {oc6 kV6 dc6 pm6 cd6 ct6 : Value}
    {f7 : Addr} {od7 an7 : Option Addr} {sl7 : Array (Option Value)} {oc7 kV7 dc7 pm7 cd7 ct7 : Value}
    {f8 : Addr} {od8 an8 : Option Addr} {sl8 : Array (Option Value)} {oc8 kV8 dc8 pm8 cd8 ct8 : Value}
    {f9 : Addr} {od9 an9 : Option Addr} {sl9 : Array (Option Value)} {oc9 kV9 dc9 pm9 cd9 ct9 : Value}
    {f10 : Addr} {od10 an10 : Option Addr} {sl10 : Array (Option Value)} {oc10 kV10 dc10 pm10 cd10 ct10 : Value}
    {f11 : Addr} {od11 an11 : Option Addr} {sl11 : Array (Option Value)} {oc11 kV11 dc11 pm11 cd11 ct11 : Value}
    {f12 : Addr} {od12 an12 : Option Addr} {sl12 : Array (Option Value)} {oc12 kV12 dc12 pm12 cd12 ct12 : Value}
    {f13 : Addr} {od13 an13 : Option Addr} {sl13 : Array (Option Value)} {oc13 kV13 dc13 pm13 cd13 ct13 : Value}
    {f14 : Addr} {od14 an14 : Option Addr} {sl14 : Array (Option Value)} {oc14 kV14 dc14 pm14 cd14 ct14 : Value}
    {f15 : Addr} {od15 an15 : Option Addr} {sl15 : Array (Option Value)} {oc15 kV15 dc15 pm15 cd15 ct15 : Value}
    {f16 : Addr} {od16 an16 : Option Addr} {sl16 : Array (Option Value)} {oc16 kV16 dc16 pm16 cd16 ct16 : Value}
    {f17 : Addr} {od17 an17 : Option Addr} {sl17 : Array (Option Value)} {oc17 kV17 dc17 pm17 cd17 ct17 : Value}
    {f18 : Addr} {od18 an18 : Option Addr} {sl18 : Array (Option Value)} {oc18 kV18 dc18 pm18 cd18 ct18 : Value}
    {f19 : Addr} {od19 an19 : Option Addr} {sl19 : Array (Option Value)} {oc19 kV19 dc19 pm19 cd19 ct19 : Value}
    {f20 : Addr} {od20 an20 : Option Addr} {sl20 : Array (Option Value)} {oc20 kV20 dc20 pm20 cd20 ct20 : Value}
    {f21 : Addr} {od21 an21 : Option Addr} {sl21 : Array (Option Value)} {oc21 kV21 dc21 pm21 cd21 ct21 : Value}
    {f22 : Addr} {od22 an22 : Option Addr} {sl22 : Array (Option Value)} {oc22 kV22 dc22 pm22 cd22 ct22 : Value}
    {f23 : Addr} {od23 an23 : Option Addr} {sl23 : Array (Option Value)} {oc23 kV23 dc23 pm23 cd23 ct23 : Value}
    {f24 : Addr} {od24 an24 : Option Addr} {sl24 : Array (Option Value)} {oc24 kV24 dc24 pm24 cd24 ct24 : Value}
    {f25 : Addr} {od25 an25 : Option Addr} {sl25 : Array (Option Value)} {oc25 kV25 dc25 pm25 cd25 ct25 : Value}
    {f26 : Addr} {od26 an26 : Option Addr} {sl26 : Array (Option Value)} {oc26 kV26 dc26 pm26 cd26 ct26 : Value}
    {f27 : Addr} {od27 an27 : Option Addr} {sl27 : Array (Option Value)} {oc27 kV27 dc27 pm27 cd27 ct27 : Value}
    {f28 : Addr} {od28 an28 : Option Addr} {sl28 : Array (Option Value)} {oc28 kV28 dc28 pm28 cd28 ct28 : Value}
    {f29 : Addr} {od29 an29 : Option Addr} {sl29 : Array (Option Value)} {oc29 kV29 dc29 pm29 cd29 ct29 : Value}
    {f30 : Addr} {od30 an30 : Option Addr} {sl30 : Array (Option Value)} {oc30 kV30 dc30 pm30 cd30 ct30 : Value}
    {f31 : Addr} {od31 an31 : Option Addr} {sl31 : Array (Option Value)} {oc31 kV31 dc31 pm31 cd31 ct31 : Value}
    {f32 : Addr} {od32 an32 : Option Addr} {sl32 : Array (Option Value)} {oc32 kV32 dc32 pm32 cd32 ct32 : Value}
    {f33 : Addr} {od33 an33 : Option Addr} {sl33 : Array (Option Value)} {oc33 kV33 dc33 pm33 cd33 ct33 : Value}
    {aP aG aL C : Addr} {oP oG oL : Obj} {es : Array DictEntry} {ep nG nL : Nat} {iG iL : Array Value} {f_init : Addr} {od_init an_init : Option Addr} {sl_init : Array (Option Value)} {oc_init kV_init dc_init pm_init cd_init ct_init : Value} {f_step : Addr} {od_step an_step : Option Addr} {sl_step : Array (Option Value)} {oc_step kV_step dc_step pm_step cd_step ct_step : Value} {f_told : Addr} {od_told an_told : Option Addr} {sl_told : Array (Option Value)} {oc_told kV_told dc_told pm_told cd_told ct_told : Value} {f_frame : Addr} {od_frame an_frame : Option Addr} {sl_frame : Array (Option Value)} {oc_frame kV_frame dc_frame pm_frame cd_frame ct_frame : Value} {f_pass_asks : Addr} {od_pass_asks an_pass_asks : Option Addr} {sl_pass_asks : Array (Option Value)} {oc_pass_asks kV_pass_asks dc_pass_asks pm_pass_asks cd_pass_asks ct_pass_asks : Value} {f_ending : Addr} {od_ending an_ending : Option Addr} {sl_ending : Array (Option Value)} {oc_ending kV_ending dc_ending pm_ending cd_ending ct_ending : Value} {f_failed_look : Addr} {od_failed_look an_failed_look : Option Addr} {sl_failed_look : Array (Option Value)} {oc_failed_look kV_failed_look dc_failed_look pm_failed_look cd_failed_look ct_failed_look : Value} {f_do : Addr} {od_do an_do : Option Addr} {sl_do : Array (Option Value)} {oc_do kV_do dc_do pm_do cd_do ct_do : Value} {f_result : Addr} {od_result an_result : Option Addr} {sl_result : Array (Option Value)} {oc_result kV_result dc_result pm_result cd_result ct_result : Value} {f_go_on : Addr} {od_go_on an_go_on : Option Addr} {sl_go_on : Array (Option Value)} {oc_go_on kV_go_on dc_go_on pm_go_on cd_go_on ct_go_on : Value} {f_which : Addr} {od_which an_which : Option Addr} {sl_which : Array (Option Value)} {oc_which kV_which dc_which pm_which cd_which ct_which : Value} {f_is_so : Addr} {od_is_so an_is_so : Option Addr} {sl_is_so : Array (Option Value)} {oc_is_so kV_is_so dc_is_so pm_is_so cd_is_so ct_is_so : Value} {f_node_worth : Addr} {od_node_worth an_node_worth : Option Addr} {sl_node_worth : Array (Option Value)} {oc_node_worth kV_node_worth dc_node_worth pm_node_worth cd_node_worth ct_node_worth : Value} {f_worth : Addr} {od_worth an_worth : Option Addr} {sl_worth : Array (Option Value)} {oc_worth kV_worth dc_worth pm_worth cd_worth ct_worth : Value} {f_row : Addr} {od_row an_row : Option Addr} {sl_row : Array (Option Value)} {oc_row kV_row dc_row pm_row cd_row ct_row : Value} {f_place : Addr} {od_place an_place : Option Addr} {sl_place : Array (Option Value)} {oc_place kV_place dc_place pm_place cd_place ct_place : Value}
    (a1 : PySem.W.nsIn K mainGlobals "_law_cell" = some (some (.ref f1))) (l1 : K.lookup f1 = some ⟨oc1, od1, .func (PySem.W.fnOf "_law_cell" "_law_cell" (defArgs s_cell) (defBody s_cell) (defScope s_cell) .none kV1 dc1 pm1 an1 cd1 ct1), sl1⟩) (d1 : PySem.W.codeIn K cd1 "_law_cell" = true) (k1 : PySem.W.keepIn K (.ref f1) = true)
    (a2 : PySem.W.nsIn K mainGlobals "_law_pick" = some (some (.ref f2))) (l2 : K.lookup f2 = some ⟨oc2, od2, .func (PySem.W.fnOf "_law_pick" "_law_pick" (defArgs s_pick) (defBody s_pick) (defScope s_pick) .none kV2 dc2 pm2 an2 cd2 ct2), sl2⟩) (d2 : PySem.W.codeIn K cd2 "_law_pick" = true) (k2 : PySem.W.keepIn K (.ref f2) = true)
    (a3 : PySem.W.nsIn K mainGlobals "_law_number" = some (some (.ref f3))) (l3 : K.lookup f3 = some ⟨oc3, od3, .func (PySem.W.fnOf "_law_number" "_law_number" (defArgs s_number) (defBody s_number) (defScope s_number) .none kV3 dc3 pm3 an3 cd3 ct3), sl3⟩) (d3 : PySem.W.codeIn K cd3 "_law_number" = true) (k3 : PySem.W.keepIn K (.ref f3) = true)
    (a4 : PySem.W.nsIn K mainGlobals "_law_maybe" = some (some (.ref f4))) (l4 : K.lookup f4 = some ⟨oc4, od4, .func (PySem.W.fnOf "_law_maybe" "_law_maybe" (defArgs s_maybe) (defBody s_maybe) (defScope s_maybe) .none kV4 dc4 pm4 an4 cd4 ct4), sl4⟩) (d4 : PySem.W.codeIn K cd4 "_law_maybe" = true) (k4 : PySem.W.keepIn K (.ref f4) = true)
    (a5 : PySem.W.nsIn K mainGlobals "_law_node" = some (some (.ref f5))) (l5 : K.lookup f5 = some ⟨oc5, od5, .func (PySem.W.fnOf "_law_node" "_law_node" (defArgs s_node) (defBody s_node) (defScope s_node) .none kV5 dc5 pm5 an5 cd5 ct5), sl5⟩) (d5 : PySem.W.codeIn K cd5 "_law_node" = true) (k5 : PySem.W.keepIn K (.ref f5) = true)
    (a6 : PySem.W.nsIn K mainGlobals "_law_ask" = some (some (.ref f6))) (l6 : K.lookup f6 = some ⟨oc6, od6, .func (PySem.W.fnOf "_law_ask" "_law_ask" (defArgs s_ask) (defBody s_ask) (defScope s_ask) .none kV6 dc6 pm6 an6 cd6 ct6), sl6⟩) (d6 : PySem.W.codeIn K cd6 "_law_ask" = true) (k6 : PySem.W.keepIn K (.ref f6) = true)
    (a7 : PySem.W.nsIn K mainGlobals "_law_plain" = some (some (.ref f7))) (l7 : K.lookup f7 = some ⟨oc7, od7, .func (PySem.W.fnOf "_law_plain" "_law_plain" (defArgs s_plain) (defBody s_plain) (defScope s_plain) .none kV7 dc7 pm7 an7 cd7 ct7), sl7⟩) (d7 : PySem.W.codeIn K cd7 "_law_plain" = true) (k7 : PySem.W.keepIn K (.ref f7) = true)
    (a8 : PySem.W.nsIn K mainGlobals "_law_line" = some (some (.ref f8))) (l8 : K.lookup f8 = some ⟨oc8, od8, .func (PySem.W.fnOf "_law_line" "_law_line" (defArgs s_line) (defBody s_line) (defScope s_line) .none kV8 dc8 pm8 an8 cd8 ct8), sl8⟩) (d8 : PySem.W.codeIn K cd8 "_law_line" = true) (k8 : PySem.W.keepIn K (.ref f8) = true)
    (a9 : PySem.W.nsIn K mainGlobals "_law_thing" = some (some (.ref f9))) (l9 : K.lookup f9 = some ⟨oc9, od9, .func (PySem.W.fnOf "_law_thing" "_law_thing" (defArgs s_thing) (defBody s_thing) (defScope s_thing) .none kV9 dc9 pm9 an9 cd9 ct9), sl9⟩) (d9 : PySem.W.codeIn K cd9 "_law_thing" = true) (k9 : PySem.W.keepIn K (.ref f9) = true)
    (a10 : PySem.W.nsIn K mainGlobals "_law_rows_by" = some (some (.ref f10))) (l10 : K.lookup f10 = some ⟨oc10, od10, .func (PySem.W.fnOf "_law_rows_by" "_law_rows_by" (defArgs s_rows_by) (defBody s_rows_by) (defScope s_rows_by) .none kV10 dc10 pm10 an10 cd10 ct10), sl10⟩) (d10 : PySem.W.codeIn K cd10 "_law_rows_by" = true) (k10 : PySem.W.keepIn K (.ref f10) = true)
    (a11 : PySem.W.nsIn K mainGlobals "_law_taken_by" = some (some (.ref f11))) (l11 : K.lookup f11 = some ⟨oc11, od11, .func (PySem.W.fnOf "_law_taken_by" "_law_taken_by" (defArgs s_taken_by) (defBody s_taken_by) (defScope s_taken_by) .none kV11 dc11 pm11 an11 cd11 ct11), sl11⟩) (d11 : PySem.W.codeIn K cd11 "_law_taken_by" = true) (k11 : PySem.W.keepIn K (.ref f11) = true)
    (a12 : PySem.W.nsIn K mainGlobals "_law_at" = some (some (.ref f12))) (l12 : K.lookup f12 = some ⟨oc12, od12, .func (PySem.W.fnOf "_law_at" "_law_at" (defArgs s_at) (defBody s_at) (defScope s_at) .none kV12 dc12 pm12 an12 cd12 ct12), sl12⟩) (d12 : PySem.W.codeIn K cd12 "_law_at" = true) (k12 : PySem.W.keepIn K (.ref f12) = true)
    (a13 : PySem.W.nsIn K mainGlobals "_law_node_at" = some (some (.ref f13))) (l13 : K.lookup f13 = some ⟨oc13, od13, .func (PySem.W.fnOf "_law_node_at" "_law_node_at" (defArgs s_node_at) (defBody s_node_at) (defScope s_node_at) .none kV13 dc13 pm13 an13 cd13 ct13), sl13⟩) (d13 : PySem.W.codeIn K cd13 "_law_node_at" = true) (k13 : PySem.W.keepIn K (.ref f13) = true)
    (a14 : PySem.W.nsIn K mainGlobals "_law_so" = some (some (.ref f14))) (l14 : K.lookup f14 = some ⟨oc14, od14, .func (PySem.W.fnOf "_law_so" "_law_so" (defArgs s_so) (defBody s_so) (defScope s_so) .none kV14 dc14 pm14 an14 cd14 ct14), sl14⟩) (d14 : PySem.W.codeIn K cd14 "_law_so" = true) (k14 : PySem.W.keepIn K (.ref f14) = true)
    (a15 : PySem.W.nsIn K mainGlobals "_law_place" = some (some (.ref f15))) (l15 : K.lookup f15 = some ⟨oc15, od15, .func (PySem.W.fnOf "_law_place" "_law_place" (defArgs s_place) (defBody s_place) (defScope s_place) .none kV15 dc15 pm15 an15 cd15 ct15), sl15⟩) (d15 : PySem.W.codeIn K cd15 "_law_place" = true) (k15 : PySem.W.keepIn K (.ref f15) = true)
    (a16 : PySem.W.nsIn K mainGlobals "_law_stop" = some (some (.ref f16))) (l16 : K.lookup f16 = some ⟨oc16, od16, .func (PySem.W.fnOf "_law_stop" "_law_stop" (defArgs s_stop) (defBody s_stop) (defScope s_stop) .none kV16 dc16 pm16 an16 cd16 ct16), sl16⟩) (d16 : PySem.W.codeIn K cd16 "_law_stop" = true) (k16 : PySem.W.keepIn K (.ref f16) = true)
    (a17 : PySem.W.nsIn K mainGlobals "_law_given" = some (some (.ref f17))) (l17 : K.lookup f17 = some ⟨oc17, od17, .func (PySem.W.fnOf "_law_given" "_law_given" (defArgs s_given) (defBody s_given) (defScope s_given) .none kV17 dc17 pm17 an17 cd17 ct17), sl17⟩) (d17 : PySem.W.codeIn K cd17 "_law_given" = true) (k17 : PySem.W.keepIn K (.ref f17) = true)
    (a18 : PySem.W.nsIn K mainGlobals "_law_do" = some (some (.ref f18))) (l18 : K.lookup f18 = some ⟨oc18, od18, .func (PySem.W.fnOf "_law_do" "_law_do" (defArgs s_do) (defBody s_do) (defScope s_do) .none kV18 dc18 pm18 an18 cd18 ct18), sl18⟩) (d18 : PySem.W.codeIn K cd18 "_law_do" = true) (k18 : PySem.W.keepIn K (.ref f18) = true)
    (a19 : PySem.W.nsIn K mainGlobals "_law_begun" = some (some (.ref f19))) (l19 : K.lookup f19 = some ⟨oc19, od19, .func (PySem.W.fnOf "_law_begun" "_law_begun" (defArgs s_begun) (defBody s_begun) (defScope s_begun) .none kV19 dc19 pm19 an19 cd19 ct19), sl19⟩) (d19 : PySem.W.codeIn K cd19 "_law_begun" = true) (k19 : PySem.W.keepIn K (.ref f19) = true)
    (a20 : PySem.W.nsIn K mainGlobals "_law_any_line" = some (some (.ref f20))) (l20 : K.lookup f20 = some ⟨oc20, od20, .func (PySem.W.fnOf "_law_any_line" "_law_any_line" (defArgs s_any_line) (defBody s_any_line) (defScope s_any_line) .none kV20 dc20 pm20 an20 cd20 ct20), sl20⟩) (d20 : PySem.W.codeIn K cd20 "_law_any_line" = true) (k20 : PySem.W.keepIn K (.ref f20) = true)
    (a21 : PySem.W.nsIn K mainGlobals "_law_ring_at" = some (some (.ref f21))) (l21 : K.lookup f21 = some ⟨oc21, od21, .func (PySem.W.fnOf "_law_ring_at" "_law_ring_at" (defArgs s_ring_at) (defBody s_ring_at) (defScope s_ring_at) .none kV21 dc21 pm21 an21 cd21 ct21), sl21⟩) (d21 : PySem.W.codeIn K cd21 "_law_ring_at" = true) (k21 : PySem.W.keepIn K (.ref f21) = true)
    (a22 : PySem.W.nsIn K mainGlobals "_law_without_rings" = some (some (.ref f22))) (l22 : K.lookup f22 = some ⟨oc22, od22, .func (PySem.W.fnOf "_law_without_rings" "_law_without_rings" (defArgs s_without_rings) (defBody s_without_rings) (defScope s_without_rings) .none kV22 dc22 pm22 an22 cd22 ct22), sl22⟩) (d22 : PySem.W.codeIn K cd22 "_law_without_rings" = true) (k22 : PySem.W.keepIn K (.ref f22) = true)
    (a23 : PySem.W.nsIn K mainGlobals "_law_near" = some (some (.ref f23))) (l23 : K.lookup f23 = some ⟨oc23, od23, .func (PySem.W.fnOf "_law_near" "_law_near" (defArgs s_near) (defBody s_near) (defScope s_near) .none kV23 dc23 pm23 an23 cd23 ct23), sl23⟩) (d23 : PySem.W.codeIn K cd23 "_law_near" = true) (k23 : PySem.W.keepIn K (.ref f23) = true)
    (a24 : PySem.W.nsIn K mainGlobals "_law_program" = some (some (.ref f24))) (l24 : K.lookup f24 = some ⟨oc24, od24, .func (PySem.W.fnOf "_law_program" "_law_program" (defArgs s_program) (defBody s_program) (defScope s_program) .none kV24 dc24 pm24 an24 cd24 ct24), sl24⟩) (d24 : PySem.W.codeIn K cd24 "_law_program" = true) (k24 : PySem.W.keepIn K (.ref f24) = true)
    (a25 : PySem.W.nsIn K mainGlobals "_law_same" = some (some (.ref f25))) (l25 : K.lookup f25 = some ⟨oc25, od25, .func (PySem.W.fnOf "_law_same" "_law_same" (defArgs s_same) (defBody s_same) (defScope s_same) .none kV25 dc25 pm25 an25 cd25 ct25), sl25⟩) (d25 : PySem.W.codeIn K cd25 "_law_same" = true) (k25 : PySem.W.keepIn K (.ref f25) = true)
    (a26 : PySem.W.nsIn K mainGlobals "_law_moved" = some (some (.ref f26))) (l26 : K.lookup f26 = some ⟨oc26, od26, .func (PySem.W.fnOf "_law_moved" "_law_moved" (defArgs s_moved) (defBody s_moved) (defScope s_moved) .none kV26 dc26 pm26 an26 cd26 ct26), sl26⟩) (d26 : PySem.W.codeIn K cd26 "_law_moved" = true) (k26 : PySem.W.keepIn K (.ref f26) = true)
    (a27 : PySem.W.nsIn K mainGlobals "parts" = some (some (.ref f27))) (l27 : K.lookup f27 = some ⟨oc27, od27, .func (PySem.W.fnOf "parts" "parts" (defArgs s_parts) (defBody s_parts) (defScope s_parts) .none kV27 dc27 pm27 an27 cd27 ct27), sl27⟩) (d27 : PySem.W.codeIn K cd27 "parts" = true) (k27 : PySem.W.keepIn K (.ref f27) = true)
    (a28 : PySem.W.nsIn K mainGlobals "ways" = some (some (.ref f28))) (l28 : K.lookup f28 = some ⟨oc28, od28, .func (PySem.W.fnOf "ways" "ways" (defArgs s_ways) (defBody s_ways) (defScope s_ways) .none kV28 dc28 pm28 an28 cd28 ct28), sl28⟩) (d28 : PySem.W.codeIn K cd28 "ways" = true) (k28 : PySem.W.keepIn K (.ref f28) = true)
    (a29 : PySem.W.nsIn K mainGlobals "gives" = some (some (.ref f29))) (l29 : K.lookup f29 = some ⟨oc29, od29, .func (PySem.W.fnOf "gives" "gives" (defArgs s_gives) (defBody s_gives) (defScope s_gives) .none kV29 dc29 pm29 an29 cd29 ct29), sl29⟩) (d29 : PySem.W.codeIn K cd29 "gives" = true) (k29 : PySem.W.keepIn K (.ref f29) = true)
    (a30 : PySem.W.nsIn K mainGlobals "is_place" = some (some (.ref f30))) (l30 : K.lookup f30 = some ⟨oc30, od30, .func (PySem.W.fnOf "is_place" "is_place" (defArgs s_is_place) (defBody s_is_place) (defScope s_is_place) .none kV30 dc30 pm30 an30 cd30 ct30), sl30⟩) (d30 : PySem.W.codeIn K cd30 "is_place" = true) (k30 : PySem.W.keepIn K (.ref f30) = true)
    (a31 : PySem.W.nsIn K mainGlobals "place_of" = some (some (.ref f31))) (l31 : K.lookup f31 = some ⟨oc31, od31, .func (PySem.W.fnOf "place_of" "place_of" (defArgs s_place_of) (defBody s_place_of) (defScope s_place_of) .none kV31 dc31 pm31 an31 cd31 ct31), sl31⟩) (d31 : PySem.W.codeIn K cd31 "place_of" = true) (k31 : PySem.W.keepIn K (.ref f31) = true)
    (a32 : PySem.W.nsIn K mainGlobals "is_ask" = some (some (.ref f32))) (l32 : K.lookup f32 = some ⟨oc32, od32, .func (PySem.W.fnOf "is_ask" "is_ask" (defArgs s_is_ask) (defBody s_is_ask) (defScope s_is_ask) .none kV32 dc32 pm32 an32 cd32 ct32), sl32⟩) (d32 : PySem.W.codeIn K cd32 "is_ask" = true) (k32 : PySem.W.keepIn K (.ref f32) = true)
    (a33 : PySem.W.nsIn K mainGlobals "law" = some (some (.ref f33))) (l33 : K.lookup f33 = some ⟨oc33, od33, .func (PySem.W.fnOf "law" "law" (defArgs s_law) (defBody s_law) (defScope s_law) .none kV33 dc33 pm33 an33 cd33 ct33), sl33⟩) (d33 : PySem.W.codeIn K cd33 "law" = true) (k33 : PySem.W.keepIn K (.ref f33) = true)
    (z_len : PySem.W.nsIn K mainGlobals "len" = some none)
    (z_list : PySem.W.nsIn K mainGlobals "list" = some none)
    (z_range : PySem.W.nsIn K mainGlobals "range" = some none)
    (z_tuple : PySem.W.nsIn K mainGlobals "tuple" = some none)
    (z_int : PySem.W.nsIn K mainGlobals "int" = some none)
    (z_zip : PySem.W.nsIn K mainGlobals "zip" = some none)
    (z_all : PySem.W.nsIn K mainGlobals "all" = some none)
    (z_isinstance : PySem.W.nsIn K mainGlobals "isinstance" = some none)
    (z_bool : PySem.W.nsIn K mainGlobals "bool" = some none)
    (gP : PySem.W.nsIn K mainGlobals "PARTS" = some (some (.ref aP)))
    (lP : K.lookup aP = some oP)
    (xP : oP.ExactDict)
    (dP : oP.data = .dict es ep)
    (rP : Paired (RowP w K) partsL es.toList)
    (gG : PySem.W.nsIn K mainGlobals "GIVING" = some (some (.ref aG)))
    (lG : K.lookup aG = some oG)
    (cG : oG.cls = .type "tuple")
    (dG : oG.data = .seq iG nG)
    (zG : iG.size ≤ sizeLine)
    (vG : Vals (givingL.map V.str) iG.toList)
    (gL : PySem.W.nsIn K mainGlobals "PLACING" = some (some (.ref aL)))
    (lL : K.lookup aL = some oL)
    (cL : oL.cls = .type "tuple")
    (dL : oL.data = .seq iL nL)
    (zL : iL.size ≤ sizeLine)
    (vL : Vals (placingL.map V.str) iL.toList)
    (gC : PySem.W.nsIn K mainGlobals "Walk" = some (some (.ref C)))
    (pg : PySem.W.plainGet K C Str.empty = true)
    (hd : PySem.W.hasDictIn K C = true)
    (po : PySem.W.plainOver K C = true)
    (sa : PySem.W.findIn K (.ref C) "__setattr__" = some (some (.builtin "object.__setattr__")))
    (mk : PySem.W.makesIn K C = true)
    (kC : PySem.W.keepIn K (.ref C) = true)
    (na_lines : PySem.W.findIn K (.ref C) "lines" = some none)
    (na_rows : PySem.W.findIn K (.ref C) "rows" = some none)
    (na_coming : PySem.W.findIn K (.ref C) "coming" = some none)
    (na_budget : PySem.W.findIn K (.ref C) "budget" = some none)
    (na_at : PySem.W.findIn K (.ref C) "at" = some none)
    (na_numbers : PySem.W.findIn K (.ref C) "numbers" = some none)
    (na_heard : PySem.W.findIn K (.ref C) "heard" = some none)
    (na_done : PySem.W.findIn K (.ref C) "done" = some none)
    (na_ended : PySem.W.findIn K (.ref C) "ended" = some none)
    (q_init : PySem.W.findIn K (.ref C) "__init__" = some (some (.ref f_init)))
    (l_init : K.lookup f_init = some ⟨oc_init, od_init, .func (PySem.W.fnOf "__init__" "Walk.__init__" (defArgs s_Walk_init) (defBody s_Walk_init) (defScope s_Walk_init) .none kV_init dc_init pm_init an_init cd_init ct_init), sl_init⟩)
    (d_init : PySem.W.codeIn K cd_init "Walk.__init__" = true)
    (k_init : PySem.W.keepIn K (.ref f_init) = true)
    (i_init : PySem.W.isFn K (.ref f_init) = true)
    (q_step : PySem.W.findIn K (.ref C) "step" = some (some (.ref f_step)))
    (l_step : K.lookup f_step = some ⟨oc_step, od_step, .func (PySem.W.fnOf "step" "Walk.step" (defArgs s_Walk_step) (defBody s_Walk_step) (defScope s_Walk_step) .none kV_step dc_step pm_step an_step cd_step ct_step), sl_step⟩)
    (d_step : PySem.W.codeIn K cd_step "Walk.step" = true)
    (k_step : PySem.W.keepIn K (.ref f_step) = true)
    (i_step : PySem.W.isFn K (.ref f_step) = true)
    (q_told : PySem.W.findIn K (.ref C) "told" = some (some (.ref f_told)))
    (l_told : K.lookup f_told = some ⟨oc_told, od_told, .func (PySem.W.fnOf "told" "Walk.told" (defArgs s_Walk_told) (defBody s_Walk_told) (defScope s_Walk_told) .none kV_told dc_told pm_told an_told cd_told ct_told), sl_told⟩)
    (d_told : PySem.W.codeIn K cd_told "Walk.told" = true)
    (k_told : PySem.W.keepIn K (.ref f_told) = true)
    (i_told : PySem.W.isFn K (.ref f_told) = true)
    (q_frame : PySem.W.findIn K (.ref C) "frame" = some (some (.ref f_frame)))
    (l_frame : K.lookup f_frame = some ⟨oc_frame, od_frame, .func (PySem.W.fnOf "frame" "Walk.frame" (defArgs s_Walk_frame) (defBody s_Walk_frame) (defScope s_Walk_frame) .none kV_frame dc_frame pm_frame an_frame cd_frame ct_frame), sl_frame⟩)
    (d_frame : PySem.W.codeIn K cd_frame "Walk.frame" = true)
    (k_frame : PySem.W.keepIn K (.ref f_frame) = true)
    (i_frame : PySem.W.isFn K (.ref f_frame) = true)
    (q_pass_asks : PySem.W.findIn K (.ref C) "pass_asks" = some (some (.ref f_pass_asks)))
    (l_pass_asks : K.lookup f_pass_asks = some ⟨oc_pass_asks, od_pass_asks, .func (PySem.W.fnOf "pass_asks" "Walk.pass_asks" (defArgs s_Walk_pass_asks) (defBody s_Walk_pass_asks) (defScope s_Walk_pass_asks) .none kV_pass_asks dc_pass_asks pm_pass_asks an_pass_asks cd_pass_asks ct_pass_asks), sl_pass_asks⟩)
    (d_pass_asks : PySem.W.codeIn K cd_pass_asks "Walk.pass_asks" = true)
    (k_pass_asks : PySem.W.keepIn K (.ref f_pass_asks) = true)
    (i_pass_asks : PySem.W.isFn K (.ref f_pass_asks) = true)
    (q_ending : PySem.W.findIn K (.ref C) "ending" = some (some (.ref f_ending)))
    (l_ending : K.lookup f_ending = some ⟨oc_ending, od_ending, .func (PySem.W.fnOf "ending" "Walk.ending" (defArgs s_Walk_ending) (defBody s_Walk_ending) (defScope s_Walk_ending) .none kV_ending dc_ending pm_ending an_ending cd_ending ct_ending), sl_ending⟩)
    (d_ending : PySem.W.codeIn K cd_ending "Walk.ending" = true)
    (k_ending : PySem.W.keepIn K (.ref f_ending) = true)
    (i_ending : PySem.W.isFn K (.ref f_ending) = true)
    (q_failed_look : PySem.W.findIn K (.ref C) "failed_look" = some (some (.ref f_failed_look)))
    (l_failed_look : K.lookup f_failed_look = some ⟨oc_failed_look, od_failed_look, .func (PySem.W.fnOf "failed_look" "Walk.failed_look" (defArgs s_Walk_failed_look) (defBody s_Walk_failed_look) (defScope s_Walk_failed_look) .none kV_failed_look dc_failed_look pm_failed_look an_failed_look cd_failed_look ct_failed_look), sl_failed_look⟩)
    (d_failed_look : PySem.W.codeIn K cd_failed_look "Walk.failed_look" = true)
    (k_failed_look : PySem.W.keepIn K (.ref f_failed_look) = true)
    (i_failed_look : PySem.W.isFn K (.ref f_failed_look) = true)
    (q_do : PySem.W.findIn K (.ref C) "do" = some (some (.ref f_do)))
    (l_do : K.lookup f_do = some ⟨oc_do, od_do, .func (PySem.W.fnOf "do" "Walk.do" (defArgs s_Walk_do) (defBody s_Walk_do) (defScope s_Walk_do) .none kV_do dc_do pm_do an_do cd_do ct_do), sl_do⟩)
    (d_do : PySem.W.codeIn K cd_do "Walk.do" = true)
    (k_do : PySem.W.keepIn K (.ref f_do) = true)
    (i_do : PySem.W.isFn K (.ref f_do) = true)
    (q_result : PySem.W.findIn K (.ref C) "result" = some (some (.ref f_result)))
    (l_result : K.lookup f_result = some ⟨oc_result, od_result, .func (PySem.W.fnOf "result" "Walk.result" (defArgs s_Walk_result) (defBody s_Walk_result) (defScope s_Walk_result) .none kV_result dc_result pm_result an_result cd_result ct_result), sl_result⟩)
    (d_result : PySem.W.codeIn K cd_result "Walk.result" = true)
    (k_result : PySem.W.keepIn K (.ref f_result) = true)
    (i_result : PySem.W.isFn K (.ref f_result) = true)
    (q_go_on : PySem.W.findIn K (.ref C) "go_on" = some (some (.ref f_go_on)))
    (l_go_on : K.lookup f_go_on = some ⟨oc_go_on, od_go_on, .func (PySem.W.fnOf "go_on" "Walk.go_on" (defArgs s_Walk_go_on) (defBody s_Walk_go_on) (defScope s_Walk_go_on) .none kV_go_on dc_go_on pm_go_on an_go_on cd_go_on ct_go_on), sl_go_on⟩)
    (d_go_on : PySem.W.codeIn K cd_go_on "Walk.go_on" = true)
    (k_go_on : PySem.W.keepIn K (.ref f_go_on) = true)
    (i_go_on : PySem.W.isFn K (.ref f_go_on) = true)
    (q_which : PySem.W.findIn K (.ref C) "which" = some (some (.ref f_which)))
    (l_which : K.lookup f_which = some ⟨oc_which, od_which, .func (PySem.W.fnOf "which" "Walk.which" (defArgs s_Walk_which) (defBody s_Walk_which) (defScope s_Walk_which) .none kV_which dc_which pm_which an_which cd_which ct_which), sl_which⟩)
    (d_which : PySem.W.codeIn K cd_which "Walk.which" = true)
    (k_which : PySem.W.keepIn K (.ref f_which) = true)
    (i_which : PySem.W.isFn K (.ref f_which) = true)
    (q_is_so : PySem.W.findIn K (.ref C) "is_so" = some (some (.ref f_is_so)))
    (l_is_so : K.lookup f_is_so = some ⟨oc_is_so, od_is_so, .func (PySem.W.fnOf "is_so" "Walk.is_so" (defArgs s_Walk_is_so) (defBody s_Walk_is_so) (defScope s_Walk_is_so) .none kV_is_so dc_is_so pm_is_so an_is_so cd_is_so ct_is_so), sl_is_so⟩)
    (d_is_so : PySem.W.codeIn K cd_is_so "Walk.is_so" = true)
    (k_is_so : PySem.W.keepIn K (.ref f_is_so) = true)
    (i_is_so : PySem.W.isFn K (.ref f_is_so) = true)
    (q_node_worth : PySem.W.findIn K (.ref C) "node_worth" = some (some (.ref f_node_worth)))
    (l_node_worth : K.lookup f_node_worth = some ⟨oc_node_worth, od_node_worth, .func (PySem.W.fnOf "node_worth" "Walk.node_worth" (defArgs s_Walk_node_worth) (defBody s_Walk_node_worth) (defScope s_Walk_node_worth) .none kV_node_worth dc_node_worth pm_node_worth an_node_worth cd_node_worth ct_node_worth), sl_node_worth⟩)
    (d_node_worth : PySem.W.codeIn K cd_node_worth "Walk.node_worth" = true)
    (k_node_worth : PySem.W.keepIn K (.ref f_node_worth) = true)
    (i_node_worth : PySem.W.isFn K (.ref f_node_worth) = true)
    (q_worth : PySem.W.findIn K (.ref C) "worth" = some (some (.ref f_worth)))
    (l_worth : K.lookup f_worth = some ⟨oc_worth, od_worth, .func (PySem.W.fnOf "worth" "Walk.worth" (defArgs s_Walk_worth) (defBody s_Walk_worth) (defScope s_Walk_worth) .none kV_worth dc_worth pm_worth an_worth cd_worth ct_worth), sl_worth⟩)
    (d_worth : PySem.W.codeIn K cd_worth "Walk.worth" = true)
    (k_worth : PySem.W.keepIn K (.ref f_worth) = true)
    (i_worth : PySem.W.isFn K (.ref f_worth) = true)
    (q_row : PySem.W.findIn K (.ref C) "row" = some (some (.ref f_row)))
    (l_row : K.lookup f_row = some ⟨oc_row, od_row, .func (PySem.W.fnOf "row" "Walk.row" (defArgs s_Walk_row) (defBody s_Walk_row) (defScope s_Walk_row) .none kV_row dc_row pm_row an_row cd_row ct_row), sl_row⟩)
    (d_row : PySem.W.codeIn K cd_row "Walk.row" = true)
    (k_row : PySem.W.keepIn K (.ref f_row) = true)
    (i_row : PySem.W.isFn K (.ref f_row) = true)
    (q_place : PySem.W.findIn K (.ref C) "place" = some (some (.ref f_place)))
    (l_place : K.lookup f_place = some ⟨oc_place, od_place, .func (PySem.W.fnOf "place" "Walk.place" (defArgs s_Walk_place) (defBody s_Walk_place) (defScope s_Walk_place) .none kV_place dc_place pm_place an_place cd_place ct_place), sl_place⟩)
    (d_place : PySem.W.codeIn K cd_place "Walk.place" = true)
    (k_place : PySem.W.keepIn K (.ref f_place) = true)
    (i_place : PySem.W.isFn K (.ref f_place) = true) :
    ∃ fd : FuncData, (∀ (s : Shared) (v : Value), BindsTo s fd ⟨[v], []⟩ [("_law_script", v)]) ∧ ∀ base : Heap, K.In base → base.Ns mainGlobals mg → FnOk l.prog w K mg base CX0 20 fa fd ["_law_script"] (spLaw K) := by
  have e := hfa.symm.trans (PySem.W.mg_of X G a33)
  cases e
  have F1 := fun_mk (st := s_cell) l1 d1 k1
  have F2 := fun_mk (st := s_pick) l2 d2 k2
  have F3 := fun_mk (st := s_number) l3 d3 k3
  have F4 := fun_mk (st := s_maybe) l4 d4 k4
  have F5 := fun_mk (st := s_node) l5 d5 k5
  have F6 := fun_mk (st := s_ask) l6 d6 k6
  have F7 := fun_mk (st := s_plain) l7 d7 k7
  have F8 := fun_mk (st := s_line) l8 d8 k8
  have F9 := fun_mk (st := s_thing) l9 d9 k9
  have F10 := fun_mk (st := s_rows_by) l10 d10 k10
  have F11 := fun_mk (st := s_taken_by) l11 d11 k11
  have F12 := fun_mk (st := s_at) l12 d12 k12
  have F13 := fun_mk (st := s_node_at) l13 d13 k13
  have F14 := fun_mk (st := s_so) l14 d14 k14
  have F15 := fun_mk (st := s_place) l15 d15 k15
  have F16 := fun_mk (st := s_stop) l16 d16 k16
  have F17 := fun_mk (st := s_given) l17 d17 k17
  have F18 := fun_mk (st := s_do) l18 d18 k18
  have F19 := fun_mk (st := s_begun) l19 d19 k19
  have F20 := fun_mk (st := s_any_line) l20 d20 k20
  have F21 := fun_mk (st := s_ring_at) l21 d21 k21
  have F22 := fun_mk (st := s_without_rings) l22 d22 k22
  have F23 := fun_mk (st := s_near) l23 d23 k23
  have F24 := fun_mk (st := s_program) l24 d24 k24
  have F25 := fun_mk (st := s_same) l25 d25 k25
  have F26 := fun_mk (st := s_moved) l26 d26 k26
  have F27 := fun_mk (st := s_parts) l27 d27 k27
  have F28 := fun_mk (st := s_ways) l28 d28 k28
  have F29 := fun_mk (st := s_gives) l29 d29 k29
  have F30 := fun_mk (st := s_is_place) l30 d30 k30
  have F31 := fun_mk (st := s_place_of) l31 d31 k31
  have F32 := fun_mk (st := s_is_ask) l32 d32 k32
  have F33 := fun_mk (st := s_law) l33 d33 k33
  have M_init := fun_mk (st := s_Walk_init) l_init d_init k_init
  have M_step := fun_mk (st := s_Walk_step) l_step d_step k_step
  have M_told := fun_mk (st := s_Walk_told) l_told d_told k_told
  have M_frame := fun_mk (st := s_Walk_frame) l_frame d_frame k_frame
  have M_pass_asks := fun_mk (st := s_Walk_pass_asks) l_pass_asks d_pass_asks k_pass_asks
  have M_ending := fun_mk (st := s_Walk_ending) l_ending d_ending k_ending
  have M_failed_look := fun_mk (st := s_Walk_failed_look) l_failed_look d_failed_look k_failed_look
  have M_do := fun_mk (st := s_Walk_do) l_do d_do k_do
  have M_result := fun_mk (st := s_Walk_result) l_result d_result k_result
  have M_go_on := fun_mk (st := s_Walk_go_on) l_go_on d_go_on k_go_on
  have M_which := fun_mk (st := s_Walk_which) l_which d_which k_which
  have M_is_so := fun_mk (st := s_Walk_is_so) l_is_so d_is_so k_is_so
  have M_node_worth := fun_mk (st := s_Walk_node_worth) l_node_worth d_node_worth k_node_worth
  have M_worth := fun_mk (st := s_Walk_worth) l_worth d_worth k_worth
  have M_row := fun_mk (st := s_Walk_row) l_row d_row k_row
  have M_place := fun_mk (st := s_Walk_place) l_place d_place k_place
  have m_len := PySem.W.mg_none_of X G z_len
  have m_list := PySem.W.mg_none_of X G z_list
  have m_range := PySem.W.mg_none_of X G z_range
  have m_tuple := PySem.W.mg_none_of X G z_tuple
  have m_int := PySem.W.mg_none_of X G z_int
  have m_zip := PySem.W.mg_none_of X G z_zip
  have m_all := PySem.W.mg_none_of X G z_all
  have m_isinstance := PySem.W.mg_none_of X G z_isinstance
  have m_bool := PySem.W.mg_none_of X G z_bool
  have T : Tab l.prog w K mg aP := tab_mk (PySem.W.mg_of X G gP) lP xP dP rP
  have TG : TabG K mg aG aL := tabG_mk (PySem.W.mg_of X G gG) lG cG dG zG vG (PySem.W.mg_of X G gL) lL cL dL zL vL
  have CL : Cls K C := ⟨pg, hd, po, sa⟩
  have W : WC K C := ⟨CL, na_lines, na_rows, na_coming, na_budget, na_at, na_numbers, na_heard, na_done, na_ended⟩
  refine ⟨PySem.W.fnOf "law" "law" (defArgs s_law) (defBody s_law) (defScope s_law) .none kV33 dc33 pm33 an33 cd33 ct33, fun s v => .of_eq rfl, fun base _ _ => ?_⟩
  have c1 : Cl l.prog w K mg base "_law_cell" 1 ["_law_script", "_law_k"] _ := F1.cl (ok_cell (n := 0) F1 m_len) (PySem.W.mg_of X G a1) fun _ _ _ _ _ _ us hl => len2 (hl := hl) (p := fun us => bindArgs _ ⟨us, []⟩ = pure (List.zip _ us)) (fun _ _ => rfl)
  have c2 : Cl l.prog w K mg base "_law_pick" 1 ["_law_cell_here", "_law_k", "_law_many"] _ := F2.cl (ok_pick (n := 0) F2) (PySem.W.mg_of X G a2) fun _ _ _ _ _ _ us hl => len3 (hl := hl) (p := fun us => bindArgs _ ⟨us, []⟩ = pure (List.zip _ us)) (fun _ _ _ => rfl)
  have c3 : Cl l.prog w K mg base "_law_number" 1 ["_law_cell_here"] _ := F3.cl (ok_number (n := 0) F3) (PySem.W.mg_of X G a3) fun _ _ _ _ _ _ us hl => len1 (hl := hl) (p := fun us => bindArgs _ ⟨us, []⟩ = pure (List.zip _ us)) (fun _ => rfl)
  have c4 : Cl l.prog w K mg base "_law_maybe" 1 ["_law_cell_here", "_law_names"] _ := F4.cl (ok_maybe (n := 0) F4) (PySem.W.mg_of X G a4) fun _ _ _ _ _ _ us hl => len2 (hl := hl) (p := fun us => bindArgs _ ⟨us, []⟩ = pure (List.zip _ us)) (fun _ _ => rfl)
  have c5 : Cl l.prog w K mg base "_law_node" 1 ["_law_cell_here", "_law_names", "_law_rows"] _ := F5.cl (ok_node (n := 0) F5 m_len m_range) (PySem.W.mg_of X G a5) fun _ _ _ _ _ _ us hl => len3 (hl := hl) (p := fun us => bindArgs _ ⟨us, []⟩ = pure (List.zip _ us)) (fun _ _ _ => rfl)
  have c6 : Cl l.prog w K mg base "_law_ask" 2 ["_law_cell_here", "_law_names", "_law_rows", "_law_at_here", "_law_many"] _ := F6.cl (ok_ask (n := 1) F6 m_range m_tuple c2 c3 c5) (PySem.W.mg_of X G a6) fun _ _ _ _ _ _ us hl => len5 (hl := hl) (p := fun us => bindArgs _ ⟨us, []⟩ = pure (List.zip _ us)) (fun _ _ _ _ _ => rfl)
  have c7 : Cl l.prog w K mg base "_law_plain" 2 ["_law_word", "_law_cell_here", "_law_names", "_law_rows", "_law_goal"] _ := F7.cl (ok_plain (n := 1) F7 c2 c3 c4) (PySem.W.mg_of X G a7) fun _ _ _ _ _ _ us hl => len5 (hl := hl) (p := fun us => bindArgs _ ⟨us, []⟩ = pure (List.zip _ us)) (fun _ _ _ _ _ => rfl)
  have c8 : Cl l.prog w K mg base "_law_line" 3 ["_law_cell_here", "_law_names", "_law_rows", "_law_at_here", "_law_many"] _ := F8.cl (ok_line (n := 2) F8 m_int (c2.mono (by decide : 1 ≤ 2)) (c3.mono (by decide : 1 ≤ 2)) (c4.mono (by decide : 1 ≤ 2)) c6 c7) (PySem.W.mg_of X G a8) fun _ _ _ _ _ _ us hl => len5 (hl := hl) (p := fun us => bindArgs _ ⟨us, []⟩ = pure (List.zip _ us)) (fun _ _ _ _ _ => rfl)
  have c9 : Cl l.prog w K mg base "_law_thing" 1 ["_law_cell_here"] _ := F9.cl (ok_thing (n := 0) F9) (PySem.W.mg_of X G a9) fun _ _ _ _ _ _ us hl => len1 (hl := hl) (p := fun us => bindArgs _ ⟨us, []⟩ = pure (List.zip _ us)) (fun _ => rfl)
  have c10 : Cl l.prog w K mg base "_law_rows_by" 2 ["_law_script", "_law_at_here", "_law_rows"] _ := F10.cl (ok_rows_by (n := 1) F10 m_range m_int c1 c2 c9) (PySem.W.mg_of X G a10) fun _ _ _ _ _ _ us hl => len3 (hl := hl) (p := fun us => bindArgs _ ⟨us, []⟩ = pure (List.zip _ us)) (fun _ _ _ => rfl)
  have c11 : Cl l.prog w K mg base "_law_taken_by" 2 ["_law_script", "_law_at_here"] _ := F11.cl (ok_taken_by (n := 1) F11 m_range m_int c1 c2 c9) (PySem.W.mg_of X G a11) fun _ _ _ _ _ _ us hl => len2 (hl := hl) (p := fun us => bindArgs _ ⟨us, []⟩ = pure (List.zip _ us)) (fun _ _ => rfl)
  have c23 : Cl l.prog w K mg base "_law_near" 2 ["_law_line_here", "_law_at_here", "_law_cell_here"] _ := F23.cl (ok_near (n := 1) F23 m_int c2) (PySem.W.mg_of X G a23) fun _ _ _ _ _ _ us hl => len3 (hl := hl) (p := fun us => bindArgs _ ⟨us, []⟩ = pure (List.zip _ us)) (fun _ _ _ => rfl)
  have c20 : Cl l.prog w K mg base "_law_any_line" 3 ["_law_cell_here", "_law_names", "_law_rows", "_law_many"] _ := F20.cl (ok_any_line (n := 2) F20 (c2.mono (by decide : 1 ≤ 2)) (c3.mono (by decide : 1 ≤ 2)) (c4.mono (by decide : 1 ≤ 2)) c6 c7) (PySem.W.mg_of X G a20) fun _ _ _ _ _ _ us hl => len4 (hl := hl) (p := fun us => bindArgs _ ⟨us, []⟩ = pure (List.zip _ us)) (fun _ _ _ _ => rfl)
  have c21 : Cl l.prog w K mg base "_law_ring_at" 1 ["_law_lines", "_law_at_here"] _ := F21.cl (ok_ring_at (n := 0) F21) (PySem.W.mg_of X G a21) fun _ _ _ _ _ _ us hl => len2 (hl := hl) (p := fun us => bindArgs _ ⟨us, []⟩ = pure (List.zip _ us)) (fun _ _ => rfl)
  have c22 : Cl l.prog w K mg base "_law_without_rings" 2 ["_law_lines"] _ := F22.cl (ok_without_rings (n := 1) F22 m_len m_list m_range c21) (PySem.W.mg_of X G a22) fun _ _ _ _ _ _ us hl => len1 (hl := hl) (p := fun us => bindArgs _ ⟨us, []⟩ = pure (List.zip _ us)) (fun _ => rfl)
  have c24 : Cl l.prog w K mg base "_law_program" 4 ["_law_script"] _ := F24.cl (ok_program (n := 3) F24 m_len m_range (c1.mono (by decide : 1 ≤ 3)) c8 (c23.mono (by decide : 2 ≤ 3)) c20 (c22.mono (by decide : 2 ≤ 3))) (PySem.W.mg_of X G a24) fun _ _ _ _ _ _ us hl => len1 (hl := hl) (p := fun us => bindArgs _ ⟨us, []⟩ = pure (List.zip _ us)) (fun _ => rfl)
  have c12 : Cl l.prog w K mg base "_law_at" 1 ["_law_values", "_law_name"] _ := F12.cl (ok_at (n := 0) F12) (PySem.W.mg_of X G a12) fun _ _ _ _ _ _ us hl => len2 (hl := hl) (p := fun us => bindArgs _ ⟨us, []⟩ = pure (List.zip _ us)) (fun _ _ => rfl)
  have c13 : Cl l.prog w K mg base "_law_node_at" 1 ["_law_state", "_law_node_here"] _ := F13.cl (ok_node_at (n := 0) F13 m_len) (PySem.W.mg_of X G a13) fun _ _ _ _ _ _ us hl => len2 (hl := hl) (p := fun us => bindArgs _ ⟨us, []⟩ = pure (List.zip _ us)) (fun _ _ => rfl)
  have c14 : Cl l.prog w K mg base "_law_so" 2 ["_law_state", "_law_bounds"] _ := F14.cl (ok_so (n := 1) F14 c13) (PySem.W.mg_of X G a14) fun _ _ _ _ _ _ us hl => len2 (hl := hl) (p := fun us => bindArgs _ ⟨us, []⟩ = pure (List.zip _ us)) (fun _ _ => rfl)
  have c15 : Cl l.prog w K mg base "_law_place" 2 ["_law_state", "_law_line_here"] _ := F15.cl (ok_place (n := 1) F15 c12) (PySem.W.mg_of X G a15) fun _ _ _ _ _ _ us hl => len2 (hl := hl) (p := fun us => bindArgs _ ⟨us, []⟩ = pure (List.zip _ us)) (fun _ _ => rfl)
  have c16 : Cl l.prog w K mg base "_law_stop" 3 ["_law_lines", "_law_state", "_law_budget"] _ := F16.cl (ok_stop (n := 2) F16 m_len m_int c14 c15) (PySem.W.mg_of X G a16) fun _ _ _ _ _ _ us hl => len3 (hl := hl) (p := fun us => bindArgs _ ⟨us, []⟩ = pure (List.zip _ us)) (fun _ _ _ => rfl)
  have c17 : Cl l.prog w K mg base "_law_given" 3 ["_law_state", "_law_line_here"] _ := F17.cl (ok_given (n := 2) F17 m_len (c12.mono (by decide : 1 ≤ 2)) c15) (PySem.W.mg_of X G a17) fun _ _ _ _ _ _ us hl => len2 (hl := hl) (p := fun us => bindArgs _ ⟨us, []⟩ = pure (List.zip _ us)) (fun _ _ => rfl)
  have c18 : Cl l.prog w K mg base "_law_do" 4 ["_law_state", "_law_line_here"] _ := F18.cl (ok_do (n := 3) F18 m_int (c12.mono (by decide : 1 ≤ 3)) (c15.mono (by decide : 2 ≤ 3)) c17) (PySem.W.mg_of X G a18) fun _ _ _ _ _ _ us hl => len2 (hl := hl) (p := fun us => bindArgs _ ⟨us, []⟩ = pure (List.zip _ us)) (fun _ _ => rfl)
  have c19 : Cl l.prog w K mg base "_law_begun" 1 ["_law_program_here", "_law_rows", "_law_taken"] _ := F19.cl (ok_begun (n := 0) F19 m_list) (PySem.W.mg_of X G a19) fun _ _ _ _ _ _ us hl => len3 (hl := hl) (p := fun us => bindArgs _ ⟨us, []⟩ = pure (List.zip _ us)) (fun _ _ _ => rfl)
  have c27 : Cl l.prog w K mg base "parts" 1 ["line"] _ := F27.cl (ok_parts (n := 0) F27 m_list m_zip T) (PySem.W.mg_of X G a27) fun _ _ _ _ _ _ us hl => len1 (hl := hl) (p := fun us => bindArgs _ ⟨us, []⟩ = pure (List.zip _ us)) (fun _ => rfl)
  have c28 : Cl l.prog w K mg base "ways" 2 ["line"] _ := F28.cl (ok_ways (n := 1) F28 m_tuple c27) (PySem.W.mg_of X G a28) fun _ _ _ _ _ _ us hl => len1 (hl := hl) (p := fun us => bindArgs _ ⟨us, []⟩ = pure (List.zip _ us)) (fun _ => rfl)
  have c29 : Cl l.prog w K mg base "gives" 1 ["line"] _ := F29.cl (ok_gives (n := 0) F29 TG) (PySem.W.mg_of X G a29) fun _ _ _ _ _ _ us hl => len1 (hl := hl) (p := fun us => bindArgs _ ⟨us, []⟩ = pure (List.zip _ us)) (fun _ => rfl)
  have c30 : Cl l.prog w K mg base "is_place" 1 ["line"] _ := F30.cl (ok_is_place (n := 0) F30 TG) (PySem.W.mg_of X G a30) fun _ _ _ _ _ _ us hl => len1 (hl := hl) (p := fun us => bindArgs _ ⟨us, []⟩ = pure (List.zip _ us)) (fun _ => rfl)
  have c31 : Cl l.prog w K mg base "place_of" 1 ["line"] _ := F31.cl (ok_place_of (n := 0) F31) (PySem.W.mg_of X G a31) fun _ _ _ _ _ _ us hl => len1 (hl := hl) (p := fun us => bindArgs _ ⟨us, []⟩ = pure (List.zip _ us)) (fun _ => rfl)
  have c32 : Cl l.prog w K mg base "is_ask" 1 ["line"] _ := F32.cl (ok_is_ask (n := 0) F32) (PySem.W.mg_of X G a32) fun _ _ _ _ _ _ us hl => len1 (hl := hl) (p := fun us => bindArgs _ ⟨us, []⟩ = pure (List.zip _ us)) (fun _ => rfl)
  have w_worth : ClM l.prog w K mg base C "worth" 1 ["self", "name"] _ := ⟨_, _, CL, ⟨q_worth, i_worth, k_worth⟩, ok_Walk_worth (n := 0) M_worth W, M_worth.binds fun _ _ _ _ _ _ us hl => len2 (hl := hl) (p := fun us => bindArgs _ ⟨us, []⟩ = pure (List.zip _ us)) (fun _ _ => rfl)⟩
  have w_row : ClM l.prog w K mg base C "row" 2 ["self", "line"] _ := ⟨_, _, CL, ⟨q_row, i_row, k_row⟩, ok_Walk_row (n := 1) M_row W c31, M_row.binds fun _ _ _ _ _ _ us hl => len2 (hl := hl) (p := fun us => bindArgs _ ⟨us, []⟩ = pure (List.zip _ us)) (fun _ _ => rfl)⟩
  have w_place : ClM l.prog w K mg base C "place" 2 ["self", "line"] _ := ⟨_, _, CL, ⟨q_place, i_place, k_place⟩, ok_Walk_place (n := 1) M_place W c31 w_worth, M_place.binds fun _ _ _ _ _ _ us hl => len2 (hl := hl) (p := fun us => bindArgs _ ⟨us, []⟩ = pure (List.zip _ us)) (fun _ _ => rfl)⟩
  have w_failed_look : ClM l.prog w K mg base C "failed_look" 3 ["self", "line"] _ := ⟨_, _, CL, ⟨q_failed_look, i_failed_look, k_failed_look⟩, ok_Walk_failed_look (n := 2) M_failed_look W m_len w_row w_place, M_failed_look.binds fun _ _ _ _ _ _ us hl => len2 (hl := hl) (p := fun us => bindArgs _ ⟨us, []⟩ = pure (List.zip _ us)) (fun _ _ => rfl)⟩
  have w_node_worth : ClM l.prog w K mg base C "node_worth" 1 ["self", "node"] _ := ⟨_, _, CL, ⟨q_node_worth, i_node_worth, k_node_worth⟩, ok_Walk_node_worth (n := 0) M_node_worth W m_len, M_node_worth.binds fun _ _ _ _ _ _ us hl => len2 (hl := hl) (p := fun us => bindArgs _ ⟨us, []⟩ = pure (List.zip _ us)) (fun _ _ => rfl)⟩
  have w_is_so : ClM l.prog w K mg base C "is_so" 2 ["self", "bound"] _ := ⟨_, _, CL, ⟨q_is_so, i_is_so, k_is_so⟩, ok_Walk_is_so (n := 1) M_is_so W w_node_worth, M_is_so.binds fun _ _ _ _ _ _ us hl => len2 (hl := hl) (p := fun us => bindArgs _ ⟨us, []⟩ = pure (List.zip _ us)) (fun _ _ => rfl)⟩
  have w_which : ClM l.prog w K mg base C "which" 3 ["self", "line"] _ := ⟨_, _, CL, ⟨q_which, i_which, k_which⟩, ok_Walk_which (n := 2) M_which W m_all (c32.mono (by decide : 1 ≤ 2)) (w_worth.mono (by decide : 1 ≤ 2)) w_is_so, M_which.binds fun _ _ _ _ _ _ us hl => len2 (hl := hl) (p := fun us => bindArgs _ ⟨us, []⟩ = pure (List.zip _ us)) (fun _ _ => rfl)⟩
  have w_go_on : ClM l.prog w K mg base C "go_on" 4 ["self", "line"] _ := ⟨_, _, CL, ⟨q_go_on, i_go_on, k_go_on⟩, ok_Walk_go_on (n := 3) M_go_on W (c28.mono (by decide : 2 ≤ 3)) w_which, M_go_on.binds fun _ _ _ _ _ _ us hl => len2 (hl := hl) (p := fun us => bindArgs _ ⟨us, []⟩ = pure (List.zip _ us)) (fun _ _ => rfl)⟩
  have w_result : ClM l.prog w K mg base C "result" 3 ["self", "line"] _ := ⟨_, _, CL, ⟨q_result, i_result, k_result⟩, ok_Walk_result (n := 2) M_result W m_len (w_worth.mono (by decide : 1 ≤ 2)) w_row w_place, M_result.binds fun _ _ _ _ _ _ us hl => len2 (hl := hl) (p := fun us => bindArgs _ ⟨us, []⟩ = pure (List.zip _ us)) (fun _ _ => rfl)⟩
  have w_do : ClM l.prog w K mg base C "do" 4 ["self", "line"] _ := ⟨_, _, CL, ⟨q_do, i_do, k_do⟩, ok_Walk_do (n := 3) M_do W (c29.mono (by decide : 1 ≤ 3)) w_result (w_row.mono (by decide : 2 ≤ 3)) (w_place.mono (by decide : 2 ≤ 3)), M_do.binds fun _ _ _ _ _ _ us hl => len2 (hl := hl) (p := fun us => bindArgs _ ⟨us, []⟩ = pure (List.zip _ us)) (fun _ _ => rfl)⟩
  have w_ending : ClM l.prog w K mg base C "ending" 4 ["self", "line"] _ := ⟨_, _, CL, ⟨q_ending, i_ending, k_ending⟩, ok_Walk_ending (n := 3) M_ending W (c30.mono (by decide : 1 ≤ 3)) w_failed_look, M_ending.binds fun _ _ _ _ _ _ us hl => len2 (hl := hl) (p := fun us => bindArgs _ ⟨us, []⟩ = pure (List.zip _ us)) (fun _ _ => rfl)⟩
  have w_pass_asks : ClM l.prog w K mg base C "pass_asks" 5 ["self"] _ := ⟨_, _, CL, ⟨q_pass_asks, i_pass_asks, k_pass_asks⟩, ok_Walk_pass_asks (n := 4) M_pass_asks W (c32.mono (by decide : 1 ≤ 4)) w_go_on, M_pass_asks.binds fun _ _ _ _ _ _ us hl => len1 (hl := hl) (p := fun us => bindArgs _ ⟨us, []⟩ = pure (List.zip _ us)) (fun _ => rfl)⟩
  have w_step : ClM l.prog w K mg base C "step" 6 ["self"] _ := ⟨_, _, CL, ⟨q_step, i_step, k_step⟩, ok_Walk_step (n := 5) M_step W w_pass_asks (w_ending.mono (by decide : 4 ≤ 5)) (w_do.mono (by decide : 4 ≤ 5)) (w_go_on.mono (by decide : 4 ≤ 5)), M_step.binds fun _ _ _ _ _ _ us hl => len1 (hl := hl) (p := fun us => bindArgs _ ⟨us, []⟩ = pure (List.zip _ us)) (fun _ => rfl)⟩
  have w_frame : ClM l.prog w K mg base C "frame" 1 ["self"] _ := ⟨_, _, CL, ⟨q_frame, i_frame, k_frame⟩, ok_Walk_frame (n := 0) M_frame W m_list, M_frame.binds fun _ _ _ _ _ _ us hl => len1 (hl := hl) (p := fun us => bindArgs _ ⟨us, []⟩ = pure (List.zip _ us)) (fun _ => rfl)⟩
  have w_told : ClM l.prog w K mg base C "told" 1 ["self"] _ := ⟨_, _, CL, ⟨q_told, i_told, k_told⟩, ok_Walk_told (n := 0) M_told W m_list, M_told.binds fun _ _ _ _ _ _ us hl => len1 (hl := hl) (p := fun us => bindArgs _ ⟨us, []⟩ = pure (List.zip _ us)) (fun _ => rfl)⟩
  have w_mk7 : ClK l.prog w K mg base "Walk" C 18 ["self", "program", "rows", "taken", "budget"] _ := ⟨_, _, ⟨mk, q_init, i_init, kC⟩, ok_Walk_init (n := 17) M_init W m_list, M_init.binds fun _ _ _ _ _ _ us hl => len5 (hl := hl) (p := fun us => bindArgs _ ⟨us, []⟩ = pure (List.zip _ us)) (fun _ _ _ _ _ => rfl), PySem.W.mg_of X G gC⟩
  have c25 : Cl l.prog w K mg base "_law_same" 2 ["_law_walk", "_law_state", "_law_end"] _ := F25.cl (ok_same (n := 1) F25 W m_isinstance m_bool w_told w_frame) (PySem.W.mg_of X G a25) fun _ _ _ _ _ _ us hl => len3 (hl := hl) (p := fun us => bindArgs _ ⟨us, []⟩ = pure (List.zip _ us)) (fun _ _ _ => rfl)
  have c26 : Cl l.prog w K mg base "_law_moved" 7 ["_law_walk", "_law_state", "_law_lines", "_law_budget"] _ := F26.cl (ok_moved (n := 6) F26 W (c16.mono (by decide : 3 ≤ 6)) (c18.mono (by decide : 4 ≤ 6)) (c25.mono (by decide : 2 ≤ 6)) w_step) (PySem.W.mg_of X G a26) fun _ _ _ _ _ _ us hl => len4 (hl := hl) (p := fun us => bindArgs _ ⟨us, []⟩ = pure (List.zip _ us)) (fun _ _ _ _ => rfl)
  exact ok_law (n := 18) F33 W m_list m_range (c1.mono (by decide : 1 ≤ 19)) (c24.mono (by decide : 4 ≤ 19)) (c10.mono (by decide : 2 ≤ 19)) (c11.mono (by decide : 2 ≤ 19)) (c19.mono (by decide : 1 ≤ 19)) (c25.mono (by decide : 2 ≤ 19)) (c26.mono (by decide : 7 ≤ 19)) w_mk7
theorem walk {l : PySem.W.OpenLaw} {q : Program} {loose : List Str} {XP : (Str → Option Value) → Heap → Prop} {YP : World → Heap → Prop} {d : DefRec} {K : Params → PySem.W.Frag} (hn : l.most = some 63) (hdf : d.params.defaults = [])
    (hY : ∀ (w : World) (h : Heap), YP w h → (K w.params).In h)
    (F : ∀ (w : World) (mg : Str → Option Value) (fa : Addr) (h : Heap), (K w.params).In h → h.Ns mainGlobals mg → mg d.name = some (.ref fa) →
      ∃ fd : FuncData, (∀ (s : Shared) (u : Value), BindsTo s fd ⟨[u], []⟩ [("_law_script", u)]) ∧ ∀ base : Heap, (K w.params).In base → base.Ns mainGlobals mg → FnOk l.prog w (K w.params) mg base CX0 20 fa fd ["_law_script"] (spLaw (K w.params))) :
    PySem.W.WalkO q loose XP YP l.row.toRowW d [] (fun f vs => PySem.call f vs) :=
  L2.walk_of (n := 63) (k := 20) (x := "_law_script") (CX := fun _ => CX0) (sp := fun w => spLaw (K w.params)) hn (by decide) hdf ⟨rfl, by decide, by decide⟩ hY F (fun _ _ a ns hl _ hS => ⟨a, ns, rfl, hS, hl, fun _ => rfl⟩) fun _ _ _ _ _ z => z
end K25
theorem PySem.W.Fast.tw18428253199933360469 : True := trivial
theorem PySem.W.Fast.tw7923027829954517232 : True := trivial
theorem PySem.W.Fast.tw7796861459880666057 : True := trivial
theorem PySem.W.Fast.tw2337183878352618540 : True := trivial
theorem PySem.W.Fast.tw5240756244149735126 : True := trivial
theorem PySem.W.Fast.tw12483362736104265589 : True := trivial
theorem PySem.W.Fast.tw7687204141029071381 : True := trivial
theorem PySem.W.Fast.tw17080351616707777200 : True := trivial
theorem PySem.W.Fast.tw6242216732657586327 : True := trivial
theorem PySem.W.Fast.tw15551609818398962502 : True := trivial
theorem PySem.W.Fast.tw18238272803022105497 : True := trivial
theorem PySem.W.Fast.tw18054482045940028625 : True := trivial
open PySem PySem.W PyProof.Rows
set_option maxRecDepth 100000 in
set_option maxHeartbeats 0 in
theorem PySem.Challenge.cw_lookspare_k25_whole_walks_holds : PySem.Challenge.rw_lookspare_k25_whole_walks.Holds := by
  w_on; o_law; k_head; (case hw => w_witness2)
  k_fill
  refine K25.walk (l := PySem.Challenge.rw_lookspare_k25_whole_walks) rfl rfl (fun w h Y => PySem.W.kIn_of Y) ?F
  case F =>
    intro w mg fa h KX G hmg
    refine' K25.all_mk KX G hmg ?a1 ?l1 ?d1 ?k1 ?a2 ?l2 ?d2 ?k2 ?a3 ?l3 ?d3 ?k3 ?a4 ?l4 ?d4 ?k4 ?a5 ?l5 ?d5 ?k5 ?a6 ?l6 ?d6 ?k6 ?a7 ?l7 ?d7 ?k7 ?a8 ?l8 ?d8 ?k8 ?a9 ?l9 ?d9 ?k9 ?a10 ?l10 ?d10 ?k10 ?a11 ?l11 ?d11 ?k11 ?a12 ?l12 ?d12 ?k12 ?a13 ?l13 ?d13 ?k13 ?a14 ?l14 ?d14 ?k14 ?a15 ?l15 ?d15 ?k15 ?a16 ?l16 ?d16 ?k16 ?a17 ?l17 ?d17 ?k17 ?a18 ?l18 ?d18 ?k18 ?a19 ?l19 ?d19 ?k19 ?a20 ?l20 ?d20 ?k20 ?a21 ?l21 ?d21 ?k21 ?a22 ?l22 ?d22 ?k22 ?a23 ?l23 ?d23 ?k23 ?a24 ?l24 ?d24 ?k24 ?a25 ?l25 ?d25 ?k25 ?a26 ?l26 ?d26 ?k26 ?a27 ?l27 ?d27 ?k27 ?a28 ?l28 ?d28 ?k28 ?a29 ?l29 ?d29 ?k29 ?a30 ?l30 ?d30 ?k30 ?a31 ?l31 ?d31 ?k31 ?a32 ?l32 ?d32 ?k32 ?a33 ?l33 ?d33 ?k33 ?z_len ?z_list ?z_range ?z_tuple ?z_int ?z_zip ?z_all ?z_isinstance ?z_bool ?gP ?lP ?xP ?dP ?rP ?gG ?lG ?cG ?dG ?zG ?vG ?gL ?lL ?cL ?dL ?zL ?vL ?gC ?pg ?hd ?po ?sa ?mk ?kC ?na_lines ?na_rows ?na_coming ?na_budget ?na_at ?na_numbers ?na_heard ?na_done ?na_ended ?q_init ?l_init ?d_init ?k_init ?i_init ?q_step ?l_step ?d_step ?k_step ?i_step ?q_told ?l_told ?d_told ?k_told ?i_told ?q_frame ?l_frame ?d_frame ?k_frame ?i_frame ?q_pass_asks ?l_pass_asks ?d_pass_asks ?k_pass_asks ?i_pass_asks ?q_ending ?l_ending ?d_ending ?k_ending ?i_ending ?q_failed_look ?l_failed_look ?d_failed_look ?k_failed_look ?i_failed_look ?q_do ?l_do ?d_do ?k_do ?i_do ?q_result ?l_result ?d_result ?k_result ?i_result ?q_go_on ?l_go_on ?d_go_on ?k_go_on ?i_go_on ?q_which ?l_which ?d_which ?k_which ?i_which ?q_is_so ?l_is_so ?d_is_so ?k_is_so ?i_is_so ?q_node_worth ?l_node_worth ?d_node_worth ?k_node_worth ?i_node_worth ?q_worth ?l_worth ?d_worth ?k_worth ?i_worth ?q_row ?l_row ?d_row ?k_row ?i_row ?q_place ?l_place ?d_place ?k_place ?i_place
    (case a1 => k_is); (case l1 => k_is); (case d1 => k_is); (case k1 => k_is)
    (case a2 => k_is); (case l2 => k_is); (case d2 => k_is); (case k2 => k_is)
    (case a3 => k_is); (case l3 => k_is); (case d3 => k_is); (case k3 => k_is)
    (case a4 => k_is); (case l4 => k_is); (case d4 => k_is); (case k4 => k_is)
    (case a5 => k_is); (case l5 => k_is); (case d5 => k_is); (case k5 => k_is)
    (case a6 => k_is); (case l6 => k_is); (case d6 => k_is); (case k6 => k_is)
    (case a7 => k_is); (case l7 => k_is); (case d7 => k_is); (case k7 => k_is)
    (case a8 => k_is); (case l8 => k_is); (case d8 => k_is); (case k8 => k_is)
    (case a9 => k_is); (case l9 => k_is); (case d9 => k_is); (case k9 => k_is)
    (case a10 => k_is); (case l10 => k_is); (case d10 => k_is); (case k10 => k_is)
    (case a11 => k_is); (case l11 => k_is); (case d11 => k_is); (case k11 => k_is)
    (case a12 => k_is); (case l12 => k_is); (case d12 => k_is); (case k12 => k_is)
    (case a13 => k_is); (case l13 => k_is); (case d13 => k_is); (case k13 => k_is)
    (case a14 => k_is); (case l14 => k_is); (case d14 => k_is); (case k14 => k_is)
    (case a15 => k_is); (case l15 => k_is); (case d15 => k_is); (case k15 => k_is)
    (case a16 => k_is); (case l16 => k_is); (case d16 => k_is); (case k16 => k_is)
    (case a17 => k_is); (case l17 => k_is); (case d17 => k_is); (case k17 => k_is)
    (case a18 => k_is); (case l18 => k_is); (case d18 => k_is); (case k18 => k_is)
    (case a19 => k_is); (case l19 => k_is); (case d19 => k_is); (case k19 => k_is)
    (case a20 => k_is); (case l20 => k_is); (case d20 => k_is); (case k20 => k_is)
    (case a21 => k_is); (case l21 => k_is); (case d21 => k_is); (case k21 => k_is)
    (case a22 => k_is); (case l22 => k_is); (case d22 => k_is); (case k22 => k_is)
    (case a23 => k_is); (case l23 => k_is); (case d23 => k_is); (case k23 => k_is)
    (case a24 => k_is); (case l24 => k_is); (case d24 => k_is); (case k24 => k_is)
    (case a25 => k_is); (case l25 => k_is); (case d25 => k_is); (case k25 => k_is)
    (case a26 => k_is); (case l26 => k_is); (case d26 => k_is); (case k26 => k_is)
    (case a27 => k_is); (case l27 => k_is); (case d27 => k_is); (case k27 => k_is)
    (case a28 => k_is); (case l28 => k_is); (case d28 => k_is); (case k28 => k_is)
    (case a29 => k_is); (case l29 => k_is); (case d29 => k_is); (case k29 => k_is)
    (case a30 => k_is); (case l30 => k_is); (case d30 => k_is); (case k30 => k_is)
    (case a31 => k_is); (case l31 => k_is); (case d31 => k_is); (case k31 => k_is)
    (case a32 => k_is); (case l32 => k_is); (case d32 => k_is); (case k32 => k_is)
    (case a33 => k_is); (case l33 => k_is); (case d33 => k_is); (case k33 => k_is)
    (case z_len => k_is)
    (case z_list => k_is)
    (case z_range => k_is)
    (case z_tuple => k_is)
    (case z_int => k_is)
    (case z_zip => k_is)
    (case z_all => k_is)
    (case z_isinstance => k_is)
    (case z_bool => k_is)
    (case gP => k_is)
    (case lP => k_is)
    (case xP => exact ⟨rfl, rfl, rfl⟩)
    (case dP => exact rfl)
    (case rP => repeat' (first | exact .nil | (refine' .cons (K25.row_mk ?h1 ?h2 ?h3 ?h4 ?h5 ?h6 ?h7 ?h8) ?_; (case h1 => exact rfl); (case h2 => exact rfl); (case h3 => exact rfl); (case h4 => k_is); (case h5 => exact rfl); (case h6 => exact rfl); (case h7 => exact Nat.le_of_ble_eq_true rfl); (case h8 => repeat (first | exact .nil | refine .cons ⟨_, rfl⟩ ?_)))))
    (case gG => k_is)
    (case lG => k_is)
    (case cG => exact rfl)
    (case dG => exact rfl)
    (case zG => exact Nat.le_of_ble_eq_true rfl)
    (case vG => repeat (first | exact .nil | refine .cons ⟨_, rfl⟩ ?_))
    (case gL => k_is)
    (case lL => k_is)
    (case cL => exact rfl)
    (case dL => exact rfl)
    (case zL => exact Nat.le_of_ble_eq_true rfl)
    (case vL => repeat (first | exact .nil | refine .cons ⟨_, rfl⟩ ?_))
    (case gC => k_is)
    (case pg => kernel_rfl)
    (case hd => k_is)
    (case po => kernel_rfl)
    (case sa => k_is)
    (case mk => kernel_rfl)
    (case kC => k_is)
    (case na_lines => k_is)
    (case na_rows => k_is)
    (case na_coming => k_is)
    (case na_budget => k_is)
    (case na_at => k_is)
    (case na_numbers => k_is)
    (case na_heard => k_is)
    (case na_done => k_is)
    (case na_ended => k_is)
    (case q_init => k_is)
    (case l_init => k_is)
    (case d_init => k_is)
    (case k_init => k_is)
    (case i_init => k_is)
    (case q_step => k_is)
    (case l_step => k_is)
    (case d_step => k_is)
    (case k_step => k_is)
    (case i_step => k_is)
    (case q_told => k_is)
    (case l_told => k_is)
    (case d_told => k_is)
    (case k_told => k_is)
    (case i_told => k_is)
    (case q_frame => k_is)
    (case l_frame => k_is)
    (case d_frame => k_is)
    (case k_frame => k_is)
    (case i_frame => k_is)
    (case q_pass_asks => k_is)
    (case l_pass_asks => k_is)
    (case d_pass_asks => k_is)
    (case k_pass_asks => k_is)
    (case i_pass_asks => k_is)
    (case q_ending => k_is)
    (case l_ending => k_is)
    (case d_ending => k_is)
    (case k_ending => k_is)
    (case i_ending => k_is)
    (case q_failed_look => k_is)
    (case l_failed_look => k_is)
    (case d_failed_look => k_is)
    (case k_failed_look => k_is)
    (case i_failed_look => k_is)
    (case q_do => k_is)
    (case l_do => k_is)
    (case d_do => k_is)
    (case k_do => k_is)
    (case i_do => k_is)
    (case q_result => k_is)
    (case l_result => k_is)
    (case d_result => k_is)
    (case k_result => k_is)
    (case i_result => k_is)
    (case q_go_on => k_is)
    (case l_go_on => k_is)
    (case d_go_on => k_is)
    (case k_go_on => k_is)
    (case i_go_on => k_is)
    (case q_which => k_is)
    (case l_which => k_is)
    (case d_which => k_is)
    (case k_which => k_is)
    (case i_which => k_is)
    (case q_is_so => k_is)
    (case l_is_so => k_is)
    (case d_is_so => k_is)
    (case k_is_so => k_is)
    (case i_is_so => k_is)
    (case q_node_worth => k_is)
    (case l_node_worth => k_is)
    (case d_node_worth => k_is)
    (case k_node_worth => k_is)
    (case i_node_worth => k_is)
    (case q_worth => k_is)
    (case l_worth => k_is)
    (case d_worth => k_is)
    (case k_worth => k_is)
    (case i_worth => k_is)
    (case q_row => k_is)
    (case l_row => k_is)
    (case d_row => k_is)
    (case k_row => k_is)
    (case i_row => k_is)
    (case q_place => k_is)
    (case l_place => k_is)
    (case d_place => k_is)
    (case k_place => k_is)
    (case i_place => k_is)
