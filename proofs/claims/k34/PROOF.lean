import PyProof.Rows.All
import Wide.All
import OpenK.AllK
import Wide.FinOn
import Lean
import PyProof.EqAt
import PyProof.EqKinds
import PyProof.TupleCall
import PyProof.NeKinds
import PySem.Challenge.RW_lookspare_k34_road_ring_or_numbers
set_option Elab.async false
set_option linter.all false
set_option maxRecDepth 100000
namespace L2
noncomputable def appQ.{u, v} {α : Sort u} {κ : Sort v} (Q : κ) (P : α → κ → Prop) (x : α) : Prop := P x Q
noncomputable def ExQ.{u, v} {α : Sort u} {κ : Sort v} (Q : κ) (P : α → κ → Prop) : Prop := Exists (appQ Q P)
open PySem PySem.Spec PyProof.Rows

noncomputable abbrev Key := Sum Int Str
noncomputable def keyIs : Key → Value → Bool
  | .inl k, v => Value.isInt k v
  | .inr x, v => Value.isStrOf x v
noncomputable def keyH (w : World) : Key → Int
  | .inl k => hashInt k
  | .inr x => hashStr w x
theorem keyIs_shape : ∀ {k : Key} {v : Value}, keyIs k v = true → (∃ i t, k = Sum.inl i ∧ v = Value.int i t) ∨ (∃ x t, k = Sum.inr x ∧ v = Value.str x t)
  | .inl i, v, h => by
    obtain ⟨t, e⟩ := Value.isInt_shape (k := i) (v := v) h
    exact .inl ⟨i, t, rfl, e⟩
  | .inr x, v, h => by
    obtain ⟨t, e⟩ := Value.isStrOf_shape (x := x) (v := v) h
    exact .inr ⟨x, t, rfl, e⟩
theorem keyIs_int (i : Int) (t : Tok) : keyIs (.inl i) (.int i t) = true := by simp [keyIs, Value.isInt]
theorem keyIs_str (x : Str) (t : Tok) : keyIs (.inr x) (.str x t) = true := by simp [keyIs, Value.isStrOf]
theorem key_ll (a b : Int) : decide ((Sum.inl a : Key) = Sum.inl b) = (a == b) := by
  by_cases e : a = b
  · subst e; simp
  · have h : ¬ (Sum.inl a : Key) = Sum.inl b := fun q => e (Sum.inl.inj q)
    rw [decide_eq_false h]
    exact (beq_eq_false_iff_ne.mpr e).symm
theorem key_rr (a b : Str) : decide ((Sum.inr a : Key) = Sum.inr b) = decide (a = b) := by
  by_cases e : a = b
  · subst e; simp
  · have h : ¬ (Sum.inr a : Key) = Sum.inr b := fun q => e (Sum.inr.inj q)
    rw [decide_eq_false h, decide_eq_false e]
theorem key_lr (a : Int) (b : Str) : decide ((Sum.inl a : Key) = Sum.inr b) = false := decide_eq_false (fun q => nomatch q)
theorem key_rl (a : Str) (b : Int) : decide ((Sum.inr a : Key) = Sum.inl b) = false := decide_eq_false (fun q => nomatch q)

noncomputable def mixKind (prog : Program) (w : World) : PySem.KeyKind prog w Key where
  is := keyIs
  hash := keyH w
  inj := fun v a b ha hb => by
    rcases keyIs_shape ha with ⟨i, t, rfl, rfl⟩ | ⟨x, t, rfl, rfl⟩
    · rcases keyIs_shape hb with ⟨j, u, rfl, e⟩ | ⟨y, u, rfl, e⟩
      · injection e with e1 _; rw [e1]
      · exact nomatch e
    · rcases keyIs_shape hb with ⟨j, u, rfl, e⟩ | ⟨y, u, rfl, e⟩
      · exact nomatch e
      · injection e with e1 _; rw [e1]
  byValue := fun k v h => by
    rcases keyIs_shape h with ⟨i, t, rfl, rfl⟩ | ⟨x, t, rfl, rfl⟩ <;> rfl
  pyHash := fun hv h => by
    rcases keyIs_shape hv with ⟨i, t, rfl, rfl⟩ | ⟨x, t, rfl, rfl⟩
    · exact wpAny_pyHash_int h
    · exact wpAny_pyHash_str h
  eqBool := fun hu hv h => by
    rcases keyIs_shape hu with ⟨i, t, rfl, rfl⟩ | ⟨x, t, rfl, rfl⟩
    · rcases keyIs_shape hv with ⟨j, u, rfl, rfl⟩ | ⟨y, u, rfl, rfl⟩
      · rw [key_ll] at h; exact wpAny_eqBool_int h
      · rw [key_lr] at h; exact SeqAt.EqAt.int_str i t y u _ _ _ _ h
    · rcases keyIs_shape hv with ⟨j, u, rfl, rfl⟩ | ⟨y, u, rfl, rfl⟩
      · rw [key_rl] at h; exact SeqAt.EqAt.str_int x t j u _ _ _ _ h
      · rw [key_rr] at h; exact wpAny_eqBool_str h
  «strs» := fun k x t v h => by
    rcases keyIs_shape h with ⟨i, u, rfl, e⟩ | ⟨y, u, rfl, e⟩
    · exact nomatch e
    · injection e with e1 _
      subst e1
      cases v <;> rfl

theorem mixKind_int (prog : Program) (w : World) (i : Int) (t : Tok) : (mixKind prog w).is (.inl i) (.int i t) = true := keyIs_int i t
theorem mixKind_str (prog : Program) (w : World) (x : Str) (t : Tok) : (mixKind prog w).is (.inr x) (.str x t) = true := keyIs_str x t
end L2

namespace L2
open PySem PySem.Spec PyProof.Rows
inductive D where
  | non | int (i : Int) | str (x : Str) | tup (ds : List D)
noncomputable instance decD : DecidableEq D := fun a b => Classical.propDecidable (a = b)
structure VKind (prog : Program) (w : World) (lev : Nat) where
  is : Heap → D → Value → Prop
  hash : D → Int
  draws : D → Nat
  inj : ∀ {h : Heap} {v : Value} {x y : D}, is h x v → is h y v → x = y
  keeps : ∀ {h h' : Heap} {k : D} {v : Value} {d : Addr} {o : Obj} {es ep}, is h k v → h.get? d = some o → o.data = .dict es ep → Heap.SameBut d h h' → is h' k v
  pyHash : ∀ {A : Around} {E : Value → Shared → Prop} {s : Shared} {k : D} {v : Value} {Q : Int → Shared → Prop}, A.units + lev < cLine → is s.heap k v → Q (hash k) { s with toks := s.toks + draws k } → wpAny (model prog w) A (PySem.pyHash v) Q E s
  eqAt : ∀ {A : Around} {s : Shared} {x y : D} {u v : Value}, A.units + lev < cLine → is s.heap x u → is s.heap y v → SeqAt.EqAt A s u v (decide (x = y))
  quiet : ∀ {A : Around} {E : Value → Shared → Prop} {s : Shared} {k : D} {v : Value} {Q : Bool → Shared → Prop} (n : Nat), lev ≤ n → is s.heap k v → Q true s → wpAny (model prog w) A (eqIsQuiet n v) Q E s
section
variable {prog : Program} {w : World} {lev : Nat} (knd : VKind prog w lev)
inductive ItemsN (h : Heap) : List D → List Value → Prop
  | nil : ItemsN h [] []
  | cons {k : D} {v : Value} {ks : List D} {vs : List Value} : knd.is h k v → ItemsN h ks vs → ItemsN h (k :: ks) (v :: vs)
noncomputable def IsTupN (h : Heap) (ks : List D) (a : Addr) : Prop := ∃ o items n, h.get? a = some o ∧ o.cls = .type "tuple" ∧ o.data = .seq items n ∧ ItemsN knd h ks items.toList
noncomputable def hashN (ks : List D) : Int := reduceHash (Builtin.Tuple.tupleHashOf (ks.map knd.hash))
noncomputable def drawsN (ks : List D) : Nat := (ks.map knd.draws).sum + 1
variable {knd}
theorem IsTupN.typeIs {s : Shared} {ks : List D} {a : Addr} (x : IsTupN knd s.heap ks a) : s.TypeIs (.ref a) "tuple" := let ⟨o, _, _, ho, hc, _⟩ := x; ⟨o, ho, hc⟩
theorem ItemsN.inj {h : Heap} {x y : List D} {vs : List Value} (hx : ItemsN knd h x vs) (hy : ItemsN knd h y vs) : x = y := by
  induction hx generalizing y with
  | nil => cases hy; rfl
  | cons h1 _ ih =>
    cases hy with
    | cons h2 t2 => rw [knd.inj h1 h2, ih t2]
theorem ItemsN.length {h : Heap} {x : List D} {vs : List Value} (hx : ItemsN knd h x vs) : x.length = vs.length := by
  induction hx with
  | nil => rfl
  | cons _ _ ih => simp [ih]
theorem ItemsN.get {h : Heap} {x : List D} {vs : List Value} (hx : ItemsN knd h x vs) {j : Nat} {v : Value} (e : vs[j]? = some v) : ∃ k, x[j]? = some k ∧ knd.is h k v := by
  induction hx generalizing j with
  | nil => simp at e
  | @cons k u ks us h1 t ih =>
    cases j with
    | zero => cases (show some u = some v from e); exact ⟨k, rfl, h1⟩
    | succ j => exact ih e
theorem ItemsN.keeps {h h' : Heap} {d : Addr} {o : Obj} {es ep} (ho : h.get? d = some o) (hd : o.data = .dict es ep) (hs : Heap.SameBut d h h') {x : List D} {vs : List Value} (hx : ItemsN knd h x vs) : ItemsN knd h' x vs := by
  induction hx with
  | nil => exact .nil
  | cons h1 _ ih => exact .cons (knd.keeps h1 ho hd hs) ih
theorem IsTupN.inj {h : Heap} {a : Addr} {x y : List D} (hx : IsTupN knd h x a) (hy : IsTupN knd h y a) : x = y := by
  obtain ⟨o, items, n, ho, _, hd, hi⟩ := hx
  obtain ⟨o', items', n', ho', _, hd', hi'⟩ := hy
  obtain rfl : o = o' := Option.some.inj (ho.symm.trans ho')
  rw [hd] at hd'
  injection hd' with h1 _
  subst h1
  exact hi.inj hi'
theorem IsTupN.keeps {h h' : Heap} {ks : List D} {a d : Addr} {o : Obj} {es ep} (x : IsTupN knd h ks a) (ho : h.get? d = some o) (hd : o.data = .dict es ep) (hs : Heap.SameBut d h h') : IsTupN knd h' ks a := by
  obtain ⟨o', items, n, ho', hc, hd', hi⟩ := x
  have hne : a ≠ d := by
    rintro rfl
    obtain rfl : o' = o := Option.some.inj (ho'.symm.trans ho)
    rw [hd] at hd'; exact nomatch hd'
  exact ⟨o', items, n, (hs.2 a hne).trans ho', hc, hd', hi.keeps ho hd hs⟩
variable {A : Around} {E : Value → Shared → Prop} {s : Shared}
theorem pyHash_tupN {ks : List D} {a : Addr} {Q : Int → Shared → Prop} (hu : A.units + (lev + 1) < cLine) (hk : IsTupN knd s.heap ks a) (h : Q (hashN knd ks) { s with toks := s.toks + drawsN knd ks }) :
    wpAny (model prog w) A (PySem.pyHash (.ref a)) Q E s := by
  have hT := hk.typeIs
  obtain ⟨o, items, n, ho, _, hd, hi⟩ := hk
  unfold PySem.pyHash
  first | unfold pyHashByItsType | skip
  first | refine wpAny_bind (wpAny_cRoomFor_or (.inr (by omega)) ?_) | skip
  refine wpAny_bind (wpAny_specialOf hT F.slot_tuple_hash.lookup ?_)
  show wpAny _ _ (if (some (Value.builtin "tuple.__hash__") == some Value.none) = true then _ else _) Q E s
  rw [if_neg (by rw [beq_builtin_none]; exact Bool.false_ne_true)]
  refine wpAny_bind (wpAny_specialOf hT F.slot_tuple_hash.lookup ?_)
  show wpAny _ _ (callSpecialIfBoundUnlessNone? (.ref a) "__hash__" _ >>= _) Q E s
  refine wpAny_bind (wpAny_callSpecialIfBoundUnlessNone?_slot hT F.slot_tuple_hash (wpAny_call_entry F.slot_tuple_hash hT F.entry_tuple_hash ?_ (F.args_tuple_hash_1 _)))
  show wpAny _ _ (Builtin.Tuple.tupleItemsOf (.ref a) >>= _) _ _ s
  refine wpAny_bind (wpAny_tupleItemsOf ho hd ?_)
  refine wpAny_bind ?_
  rw [← Array.forIn_toList]
  refine wpAny_forIn_list _
    (fun rest (b : Array Int) s' => ∃ done left, ks = done ++ left ∧ ItemsN knd s.heap left rest ∧ b.toList = done.map knd.hash ∧ s' = { s with toks := s.toks + (done.map knd.draws).sum })
    _ ?_ ?_ _ _ ⟨[], ks, rfl, hi, rfl, rfl⟩
  · rintro x rest b s' ⟨done, left, rfl, hl, hb, rfl⟩
    cases hl with
    | @cons k _ ks' _ h1 hl' =>
      refine wpAny_bind (knd.pyHash (by show A.units + 1 + lev < cLine; omega) h1 ?_)
      exact wpAny_pure ⟨done ++ [k], ks', by simp, hl', by simp [hb], by simp [Nat.add_assoc]⟩
  · rintro b s' ⟨done, left, rfl, hl, hb, rfl⟩
    cases hl
    rw [List.append_nil] at h
    show wpAny _ _ (retInt (Builtin.Tuple.tupleHashOf b.toList)) _ _ _
    rw [hb]
    refine wpAny_ret_mkInt ?_
    show wpAny _ _ (if (decide (-(2 : Int) ^ 63 ≤ Builtin.Tuple.tupleHashOf (done.map knd.hash)) && decide (Builtin.Tuple.tupleHashOf (done.map knd.hash) < 2 ^ 63)) = true then _ else _) Q E _
    unfold hashN drawsN reduceHash at h
    by_cases hr : (decide (-(2 : Int) ^ 63 ≤ Builtin.Tuple.tupleHashOf (done.map knd.hash)) && decide (Builtin.Tuple.tupleHashOf (done.map knd.hash) < 2 ^ 63)) = true
    · rw [if_pos hr]
      rw [if_pos hr] at h
      exact wpAny_pure (by simpa [Nat.add_assoc] using h)
    · rw [if_neg hr]
      rw [if_neg hr] at h
      exact wpAny_bind (wpAny_rule (wpAny_pure (by simpa [Nat.add_assoc] using h)))
theorem eqAt_tupN {x y : List D} {a b : Addr} (hu : A.units + (lev + 1) < cLine) (hx : IsTupN knd s.heap x a) (hy : IsTupN knd s.heap y b) : SeqAt.EqAt A s (.ref a) (.ref b) (decide (x = y)) := by
  by_cases hab : a = b
  · subst hab
    obtain rfl := hx.inj hy
    rw [decide_eq_true rfl]
    exact SeqAt.EqAt.same _
  refine SeqAt.EqAt.of_refs hab ?_
  obtain ⟨o, items, n, ho, hc, hd, hi⟩ := hx
  obtain ⟨o', items', n', ho', hc', hd', hi'⟩ := hy
  have R := SeqAt.RcAt.tuples (A := A) (s := s) (e := fun j => decide (x[j]? = y[j]?)) (⟨o, ho, hc, n, hd⟩ : s.heap.IsTuple a items) (⟨o', ho', hc', n', hd'⟩ : s.heap.IsTuple b items') (by omega) (fun j h1 h2 => ?_)
  · have l1 : x.length = items.size := by have := hi.length; simpa using this
    have l2 : y.length = items'.size := by have := hi'.length; simpa using this
    have e : ((List.range (min items.size items'.size)).all (fun j => decide (x[j]? = y[j]?)) && items.size == items'.size) = decide (x = y) := by
      by_cases hxy : x = y
      · subst hxy
        rw [decide_eq_true rfl, Bool.and_eq_true]
        exact ⟨List.all_eq_true.mpr fun j _ => decide_eq_true rfl, by simp; omega⟩
      · rw [decide_eq_false hxy, Bool.and_eq_false_iff]
        by_cases hs : items.size = items'.size
        · refine .inl (Bool.eq_false_iff.mpr fun hall => hxy (List.ext_getElem? fun j => ?_))
          rcases Nat.lt_or_ge j items.size with hj | hj
          · exact of_decide_eq_true (List.all_eq_true.mp hall j (List.mem_range.mpr (by omega)))
          · rw [List.getElem?_eq_none (by omega), List.getElem?_eq_none (by omega)]
        · exact .inr (by simpa using hs)
    rw [← e]
    exact R
  · obtain ⟨k1, e1, i1⟩ := hi.get (j := j) (v := items[j]) (by simp [h1])
    obtain ⟨k2, e2, i2⟩ := hi'.get (j := j) (v := items'[j]) (by simp [h2])
    have h3 := knd.eqAt (A := A.in1) (by show A.units + 1 + lev < cLine; omega) i1 i2
    have e3 : decide (x[j]? = y[j]?) = decide (k1 = k2) := by
      rw [e1, e2]
      by_cases h : k1 = k2
      · rw [decide_eq_true h, decide_eq_true (by rw [h])]
      · rw [decide_eq_false h, decide_eq_false (fun z => h (Option.some.inj z))]
    rw [e3]
    exact h3
theorem quiet_tupN {ks : List D} {a : Addr} {Q : Bool → Shared → Prop} (n : Nat) (hn : lev ≤ n) (hk : IsTupN knd s.heap ks a) (h : Q true s) : wpAny (model prog w) A (eqIsQuiet (n + 1) (.ref a)) Q E s := by
  have hT := hk.typeIs
  obtain ⟨o, items, n', ho, _, hd, hi⟩ := hk
  unfold eqIsQuiet
  refine wpAny_bind (wpAny_specialOf hT F.slot_tuple_eq.lookup ?_)
  show wpAny _ _ (isInstance (.ref a) (.type "tuple") >>= _) _ _ s
  refine wpAny_bind (wpAny_isInstance hT isSubtype_tuple_tuple ?_)
  simp only [Bool.not_true, Bool.false_eq_true, if_false]
  refine wpAny_bind (wpAny_seqItems ho hd ?_)
  refine wpAny_bind ?_
  show wpAny _ _ (forIn items _ _) _ _ s
  rw [← Array.forIn_toList]
  refine wpAny_forIn_list _ (fun rest r s' => r.1 = none ∧ s' = s ∧ ∃ left, ItemsN knd s.heap left rest) _ ?_ ?_ _ _ ⟨rfl, rfl, _, hi⟩
  · rintro v rest r s' ⟨hr, rfl, left, hl⟩
    cases hl with
    | @cons k _ ks' _ h1 hl' =>
      refine wpAny_bind (knd.quiet n hn h1 ?_)
      simp only [Bool.not_true, Bool.false_eq_true, if_false]
      exact wpAny_pure ⟨rfl, rfl, _, hl'⟩
  · rintro ⟨r1, r2⟩ s' ⟨hr, rfl, _⟩
    simp only at hr
    subst hr
    exact wpAny_pure h
end
section
variable (prog : Program) (w : World)
noncomputable def keyD : Key → D
  | .inl i => .int i
  | .inr x => .str x
theorem keyD_inj {a b : Key} (h : keyD a = keyD b) : a = b := by
  cases a <;> cases b <;> cases h <;> rfl
noncomputable def flatIs (d : D) (v : Value) : Prop := ∃ k : Key, d = keyD k ∧ keyIs k v = true
theorem flatIs.shape {d : D} {v : Value} (h : flatIs d v) : (∃ i t, d = .int i ∧ v = .int i t) ∨ ∃ x t, d = .str x ∧ v = .str x t := by
  obtain ⟨k, rfl, h⟩ := h
  rcases keyIs_shape h with ⟨i, t, rfl, rfl⟩ | ⟨x, t, rfl, rfl⟩
  · exact .inl ⟨i, t, rfl, rfl⟩
  · exact .inr ⟨x, t, rfl, rfl⟩
noncomputable def flatH (w : World) : D → Int
  | .int i => keyH w (.inl i)
  | .str x => keyH w (.inr x)
  | _ => 0
theorem flat_hash {A : Around} {E : Value → Shared → Prop} {s : Shared} {d : D} {v : Value} {Q : Int → Shared → Prop} (h : flatIs d v) (q : Q (flatH w d) { s with toks := s.toks + 1 }) : wpAny (model prog w) A (PySem.pyHash v) Q E s := by
  obtain ⟨k, rfl, h⟩ := h
  have e : flatH w (keyD k) = keyH w k := by cases k <;> rfl
  rw [e] at q
  exact (mixKind prog w).pyHash h q
theorem flat_eq {A : Around} {s : Shared} {x y : D} {u v : Value} (hx : flatIs x u) (hy : flatIs y v) : SeqAt.EqAt A s u v (decide (x = y)) := by
  rcases hx.shape with ⟨i, t, rfl, rfl⟩ | ⟨i, t, rfl, rfl⟩ <;> rcases hy.shape with ⟨j, t', rfl, rfl⟩ | ⟨j, t', rfl, rfl⟩
  · have e : decide (D.int i = D.int j) = decide (i = j) := by
      by_cases h : i = j
      · rw [decide_eq_true h, decide_eq_true (by rw [h])]
      · rw [decide_eq_false h, decide_eq_false (fun z => h (by injection z))]
    rw [e]
    exact SeqAt.EqAt.int_int _ _ _ _
  · rw [decide_eq_false (fun z => nomatch z)]
    exact SeqAt.EqAt.int_str _ _ _ _
  · rw [decide_eq_false (fun z => nomatch z)]
    exact SeqAt.EqAt.str_int _ _ _ _
  · have e : decide (D.str i = D.str j) = decide (i = j) := by
      by_cases h : i = j
      · rw [decide_eq_true h, decide_eq_true (by rw [h])]
      · rw [decide_eq_false h, decide_eq_false (fun z => h (by injection z))]
    rw [e]
    exact SeqAt.EqAt.str_str _ _ _ _
theorem flat_inj {x y : D} {v : Value} (hx : flatIs x v) (hy : flatIs y v) : x = y := by
  rcases hx.shape with ⟨i, t, rfl, rfl⟩ | ⟨i, t, rfl, rfl⟩ <;> rcases hy.shape with ⟨j, t', rfl, e⟩ | ⟨j, t', rfl, e⟩
  · injection e with e1 _; rw [e1]
  · exact nomatch e
  · exact nomatch e
  · injection e with e1 _; rw [e1]
theorem flat_byValue {d : D} {v : Value} (h : flatIs d v) : carriedByValue v = true := by
  rcases h.shape with ⟨i, t, rfl, rfl⟩ | ⟨i, t, rfl, rfl⟩ <;> rfl
noncomputable def vFlat : VKind prog w 0 where
  is := fun _ d v => flatIs d v
  hash := flatH w
  draws := fun _ => 1
  inj := flat_inj
  keeps := fun h _ _ _ => h
  pyHash := fun _ h q => flat_hash prog w h q
  eqAt := fun _ hx hy => flat_eq hx hy
  quiet := fun n _ h q => by rw [eqIsQuiet_byValue n (flat_byValue h)]; exact wpAny_pure q
variable {prog} {w} {lev : Nat} (knd : VKind prog w lev)
noncomputable def stepIs (h : Heap) (d : D) (v : Value) : Prop := flatIs d v ∨ ∃ ds a, d = .tup ds ∧ v = .ref a ∧ IsTupN knd h ds a
noncomputable def stepH : D → Int
  | .tup ds => hashN knd ds
  | d => flatH w d
noncomputable def stepD : D → Nat
  | .tup ds => drawsN knd ds
  | _ => 1
theorem stepH_flat {d : D} {v : Value} (h : flatIs d v) : stepH knd d = flatH w d ∧ stepD knd d = 1 := by
  rcases h.shape with ⟨i, t, rfl, rfl⟩ | ⟨i, t, rfl, rfl⟩ <;> exact ⟨rfl, rfl⟩
theorem tup_is {s : Shared} {ds : List D} {a : Addr} (h : IsTupN knd s.heap ds a) : ∃ items, s.heap.IsTuple a items := let ⟨o, items, n, ho, hc, hd, _⟩ := h; ⟨items, o, ho, hc, n, hd⟩
noncomputable def vStep : VKind prog w (lev + 1) where
  is := stepIs knd
  hash := stepH knd
  draws := stepD knd
  inj := fun {h v x y} hx hy => by
    rcases hx with hx | ⟨ds, a, rfl, rfl, hx⟩ <;> rcases hy with hy | ⟨es, b, rfl, e, hy⟩
    · exact flat_inj hx hy
    · rcases hx.shape with ⟨i, t, rfl, rfl⟩ | ⟨i, t, rfl, rfl⟩ <;> exact nomatch e
    · rcases hy.shape with ⟨i, t, rfl, e⟩ | ⟨i, t, rfl, e⟩ <;> exact nomatch e
    · injection e with e
      subst e
      rw [hx.inj hy]
  keeps := fun h ho hd hs => h.imp id fun ⟨ds, a, e1, e2, h⟩ => ⟨ds, a, e1, e2, h.keeps ho hd hs⟩
  pyHash := fun {A E s k v Q} hu h q => by
    rcases h with h | ⟨ds, a, rfl, rfl, h⟩
    · obtain ⟨e1, e2⟩ := stepH_flat knd h
      rw [e1, e2] at q
      exact flat_hash prog w h q
    · exact pyHash_tupN hu h q
  eqAt := fun {A s x y u v} hu hx hy => by
    rcases hx with hx | ⟨ds, a, rfl, rfl, hx⟩ <;> rcases hy with hy | ⟨es, b, rfl, rfl, hy⟩
    · exact flat_eq hx hy
    · obtain ⟨items, p⟩ := tup_is knd hy
      rcases hx.shape with ⟨i, t, rfl, rfl⟩ | ⟨i, t, rfl, rfl⟩
      · rw [decide_eq_false (fun z => nomatch z)]; exact SeqAt.EqAt.int_tuple _ _ p (by omega)
      · rw [decide_eq_false (fun z => nomatch z)]; exact SeqAt.EqAt.str_tuple _ _ p (by omega)
    · obtain ⟨items, p⟩ := tup_is knd hx
      rcases hy.shape with ⟨i, t, rfl, rfl⟩ | ⟨i, t, rfl, rfl⟩
      · rw [decide_eq_false (fun z => nomatch z)]; exact SeqAt.EqAt.tuple_int _ _ p (by omega)
      · rw [decide_eq_false (fun z => nomatch z)]; exact SeqAt.EqAt.tuple_str _ _ p (by omega)
    · have e : decide (D.tup ds = D.tup es) = decide (ds = es) := by
        by_cases h : ds = es
        · rw [decide_eq_true h, decide_eq_true (by rw [h])]
        · rw [decide_eq_false h, decide_eq_false (fun z => h (by injection z))]
      rw [e]
      exact eqAt_tupN hu hx hy
  quiet := fun {A E s k v Q} n hn h q => by
    rcases h with h | ⟨ds, a, rfl, rfl, h⟩
    · rw [eqIsQuiet_byValue n (flat_byValue h)]; exact wpAny_pure q
    · obtain ⟨m, rfl⟩ : ∃ m, n = m + 1 := ⟨n - 1, by omega⟩
      exact quiet_tupN m (by omega) h q
end
noncomputable def vD (prog : Program) (w : World) : VKind prog w 3 := vStep (vStep (vStep (vFlat prog w)))
noncomputable def nkind (prog : Program) (w : World) : HeapKind prog w (List D) where
  is := IsTupN (vD prog w)
  hash := hashN (vD prog w)
  draws := drawsN (vD prog w)
  room := fun A => A.units + 4 < cLine
  inj := fun hx hy => hx.inj hy
  keeps := fun x ho hd hs => x.keeps ho hd hs
  pyHash := fun hu hk h => pyHash_tupN hu hk h
  eqBool := fun {A E s x y a b Q} hu hx hy h => by
    have := eqAt_tupN hu hx hy prog w E Q
    have e : @decide (x = y) (instDecidableEqList x y) = @decide (x = y) _ := rfl
    exact this (by first | exact h | (rw [e] at h; exact h))
  quiet := fun hk h => quiet_tupN 7 (by decide) hk h
end L2

namespace L2
open PySem PySem.Spec PyProof.Rows

inductive V where
  | non | bl (b : Bool) | int (i : Int) | str (x : Str) | byt (b : Array UInt8) | flt (b : UInt64) | ref (a : Addr) | ty (n : String)
  deriving DecidableEq

noncomputable def RelV : V → Value → Prop
  | .non, u => u = Value.none
  | .bl b, u => u = Value.bool b
  | .int i, u => ∃ t, u = Value.int i t
  | .str x, u => ∃ t, u = Value.str x t
  | .byt b, u => ∃ t, u = Value.bytes b t
  | .flt b, u => ∃ t, u = Value.float b t
  | .ref a, u => u = Value.ref a
  | .ty n, u => u = Value.type n

noncomputable abbrev Vals : List V → List Value → Prop := Paired RelV
theorem Vals.length {xs : List V} {us : List Value} (r : Vals xs us) : xs.length = us.length := Paired.length r
theorem Vals.get : ∀ {xs : List V} {us : List Value} {i : Nat} {x : V}, Vals xs us → xs[i]? = some x → ∃ u, us[i]? = some u ∧ RelV x u
  | _, _, _, _, .nil, e => by simp at e
  | _, _, 0, _, .cons r _, e => by simp at e; subst e; exact ⟨_, rfl, r⟩
  | _, _, i + 1, x, .cons _ t, e => by
    obtain ⟨u, h1, h2⟩ := Vals.get (i := i) (x := x) t (by simpa using e)
    exact ⟨u, by simpa using h1, h2⟩
theorem Vals.set {x : V} {u : Value} (r : RelV x u) : ∀ {xs : List V} {us : List Value} (i : Nat), Vals xs us → Vals (xs.set i x) (us.set i u)
  | _, _, _, .nil => .nil
  | _, _, 0, .cons _ t => .cons r t
  | _, _, i + 1, .cons q t => .cons q (Vals.set r i t)
theorem Vals.append : ∀ {xs ys : List V} {us ws : List Value}, Vals xs us → Vals ys ws → Vals (xs ++ ys) (us ++ ws)
  | _, _, _, _, .nil, s => s
  | _, _, _, _, .cons r t, s => .cons r (Vals.append t s)
theorem Vals.take : ∀ {xs : List V} {us : List Value} (n : Nat), Vals xs us → Vals (xs.take n) (us.take n)
  | _, _, 0, _ => .nil
  | _, _, _ + 1, .nil => .nil
  | _, _, n + 1, .cons r t => .cons r (Vals.take n t)
theorem Vals.drop : ∀ {xs : List V} {us : List Value} (n : Nat), Vals xs us → Vals (xs.drop n) (us.drop n)
  | _, _, 0, r => r
  | _, _, _ + 1, .nil => .nil
  | _, _, n + 1, .cons _ t => Vals.drop n t
theorem Vals.none_of : ∀ {xs : List V} {us : List Value} {i : Nat}, Vals xs us → xs[i]? = none → us[i]? = none := fun {xs us i} r e => by
  have h1 := r.length
  have h2 : xs.length ≤ i := List.getElem?_eq_none_iff.mp e
  exact List.getElem?_eq_none_iff.mpr (by omega)

noncomputable def RelO : Option V → Option Value → Prop
  | some v, some u => RelV v u
  | none, none => True
  | _, _ => False
noncomputable def KV {κ : Type} : List (κ × V) → List (κ × Value) → Prop := Paired fun (p : κ × V) (q : κ × Value) => p.1 = q.1 ∧ RelV p.2 q.2

noncomputable def kV : Key → V
  | .inl i => .int i
  | .inr x => .str x

inductive HO where
    | lst (xs : List V)
    | tup (xs : List V)
    | dK (kvs : List (Key × V)) | dT (kvs : List (List Key × V)) | dZ (zs : List (Addr × List Key)) (kvs : List (List Key × V)) | dN (zs : List (Addr × List D)) (kvs : List (List D × V))
    | set (S : Int → Bool) (n : Nat)
    | ins (C dx : Addr) (fs : List (Str × V))
    | own (x : Addr)
    | xd (fs : List (Str × V))
    | met (f x : Addr)
    | rng (lo hi : Int)
    | frz (o : Obj) (u : HO)
    | tbl (ps : Array Value)
    | ext (φ : Heap → Prop)

noncomputable abbrev Hp := Addr → Option HO
noncomputable def upd (H : Hp) (a : Addr) (o : HO) : Hp := fun b => if b = a then some o else H b
theorem upd_same {H : Hp} {a : Addr} {o : HO} : upd H a o a = some o := by unfold upd; rw [if_pos rfl]
theorem upd_ne {H : Hp} {a b : Addr} {o : HO} (h : b ≠ a) : upd H a o b = H b := by unfold upd; rw [if_neg h]
theorem upd_upd {H : Hp} {a : Addr} {o u : HO} : upd (upd H a o) a u = upd H a u := by
  funext b; unfold upd; split <;> rfl
theorem ne_of {H : Hp} {a b : Addr} {o u : HO} (h : H a = some o) (h' : H b = some u) (d : o ≠ u) : a ≠ b := by
  intro e; subst e; rw [h] at h'; exact d (Option.some.inj h')
theorem ne_of_none {H : Hp} {a b : Addr} {o : HO} (h : H a = some o) (h' : H b = none) : a ≠ b := by
  intro e; subst e; rw [h] at h'; cases h'

mutual
noncomputable def TrD (C : Addr → List D → Prop) (H : Hp) : D → V → Prop
  | .non, _ => False
  | .int i, v => v = .int i
  | .str x, v => v = .str x
  | .tup ds, v => ∃ b, v = .ref b ∧ (C b ds ∨ ∃ vs, H b = some (.tup vs) ∧ TrDL C H ds vs)
noncomputable def TrDL (C : Addr → List D → Prop) (H : Hp) : List D → List V → Prop
  | [], vs => vs = []
  | d :: ds, vs => ∃ v r, vs = v :: r ∧ TrD C H d v ∧ TrDL C H ds r
end
mutual
theorem TrD.mono {C C' : Addr → List D → Prop} {H H' : Hp} (hc : ∀ b ds, C b ds → C' b ds) (ht : ∀ b xs, H b = some (.tup xs) → H' b = some (.tup xs)) : ∀ {d : D} {v : V}, TrD C H d v → TrD C' H' d v
  | .non, _, h => by unfold TrD at h; exact h.elim
  | .int _, _, h => by unfold TrD at h ⊢; exact h
  | .str _, _, h => by unfold TrD at h ⊢; exact h
  | .tup ds, _, h => by
    unfold TrD at h ⊢
    obtain ⟨b, e, h⟩ := h
    refine ⟨b, e, ?_⟩
    rcases h with h | ⟨vs, h1, h2⟩
    · exact .inl (hc _ _ h)
    · exact .inr ⟨vs, ht _ _ h1, TrDL.mono hc ht h2⟩
theorem TrDL.mono {C C' : Addr → List D → Prop} {H H' : Hp} (hc : ∀ b ds, C b ds → C' b ds) (ht : ∀ b xs, H b = some (.tup xs) → H' b = some (.tup xs)) : ∀ {ds : List D} {vs : List V}, TrDL C H ds vs → TrDL C' H' ds vs
  | [], _, h => by unfold TrDL at h ⊢; exact h
  | d :: ds, _, h => by
    unfold TrDL at h ⊢
    obtain ⟨v, r, e, p, q⟩ := h
    exact ⟨v, r, e, TrD.mono hc ht p, TrDL.mono hc ht q⟩
end
noncomputable def TrZ (zs : List (Addr × List D)) (H : Hp) (ds : List D) (b : Addr) : Prop := TrD (fun b ds => (b, ds) ∈ zs) H (.tup ds) (.ref b)
section
variable (P : Program) (w : World)
noncomputable def ObjOk (H : Hp) (h : Heap) (a : Addr) : HO → Prop
  | .lst xs => xs.length ≤ sizeLine ∧ ∃ (its : List Value) (n : Nat), Vals xs its ∧ h.get? a = some { cls := .type "list", data := .seq its.toArray n }
  | .tup xs => xs.length ≤ sizeLine ∧ ∃ its : List Value, Vals xs its ∧ IsTup h a its.toArray
  | .dK kvs => kvs.length ≤ sizeLine ∧ (a == sysModules) = false ∧ ∃ vs, KV kvs vs ∧ h.DictOf (mixKind P w) a vs
  | .dT kvs => kvs.length ≤ sizeLine ∧ (a == sysModules) = false ∧ ∃ xs : List (List Key × Addr × Value),
      Paired (fun (p : List Key × V) (q : List Key × Addr × Value) => p.1 = q.1 ∧ H q.2.1 = some (.tup (p.1.map kV)) ∧ RelV p.2 q.2.2) kvs xs ∧
      ∃ o es ep, h.get? a = some o ∧ o.ExactDict ∧ o.data = .dict es ep ∧ es.toList = xs.map (entryOfKey (tupleKind (mixKind P w))) ∧ (xs.map (·.1)).Nodup
  | .dZ zs kvs => kvs.length ≤ sizeLine ∧ (a == sysModules) = false ∧ ∃ xs : List (List Key × Addr × Value),
      Paired (fun (p : List Key × V) (q : List Key × Addr × Value) => p.1 = q.1 ∧ (H q.2.1 = some (.tup (p.1.map kV)) ∨ (q.2.1, p.1) ∈ zs) ∧ RelV p.2 q.2.2) kvs xs ∧
      ∃ o es ep, h.get? a = some o ∧ o.ExactDict ∧ o.data = .dict es ep ∧ es.toList = xs.map (entryOfKey (tupleKind (mixKind P w))) ∧ (xs.map (·.1)).Nodup
  | .dN zs kvs => kvs.length ≤ sizeLine ∧ (a == sysModules) = false ∧ ∃ xs : List (List D × Addr × Value),
      Paired (fun (p : List D × V) (q : List D × Addr × Value) => p.1 = q.1 ∧ TrZ zs H p.1 q.2.1 ∧ RelV p.2 q.2.2) kvs xs ∧
      ∃ o es ep, h.get? a = some o ∧ o.ExactDict ∧ o.data = .dict es ep ∧ es.toList = xs.map (entryOfKey (nkind P w)) ∧ (xs.map (·.1)).Nodup
  | .set S n => h.SetOf (intKind P w) a S n
  | .ins C dx fs => H dx = some (.own a) ∧ fs.length ≤ 1000 ∧ dx ≠ a ∧ h.get? a = some (PySem.W.instObj C dx) ∧
      ∃ mA, h.Ns1 dx mA ∧ (∀ f, RelO (fs.lookup f) (mA f)) ∧ PySem.Within mA (fs.map (·.1))
  | .own _ => ∃ o, h.get? a = some o
  | .xd fs => ∃ mA, h.Ns1 a mA ∧ ∀ f, RelO (fs.lookup f) (mA f)
  | .rng lo hi => ∃ t u v, h.get? a = some { cls := .type "range", data := .fields #[.int lo t, .int hi u, .int 1 v] }
  | .frz o u => h.get? a = some o ∧ ObjOk H h a u
  | .tbl ps => h.get? a = some { cls := .none, data := .fields ps }
  | .met f x => h.get? a = some (PySem.W.methodObj (.ref f) (.ref x))
  | .ext φ => φ h ∧ (∃ o, h.get? a = some o) ∧ ∀ h1 h2 : Heap, φ h1 → (∀ o, h1.get? a = some o → h2.get? a = some o) → φ h2
noncomputable def HOk (H : Hp) (h : Heap) : Prop := ∀ a o, H a = some o → ObjOk P w H h a o
end

section
variable {P : Program} {w : World} {H H' : Hp} {h h' : Heap} {a : Addr} {o : HO}
theorem ObjOk.lt (x : ObjOk P w H h a o) : a < h.objs.size := by
  cases o with
  | lst xs => obtain ⟨_, _, _, _, e⟩ := x; exact Heap.lt_size e
  | tup xs => obtain ⟨_, _, _, p⟩ := x; exact p.lt
  | dK kvs => obtain ⟨_, _, _, _, o, _, _, e, _⟩ := x; exact Heap.lt_size e
  | dT kvs => obtain ⟨_, _, _, _, o, _, _, e, _⟩ := x; exact Heap.lt_size e
  | dZ zs kvs => obtain ⟨_, _, _, _, o, _, _, e, _⟩ := x; exact Heap.lt_size e
  | dN zs kvs => obtain ⟨_, _, _, _, o, _, _, e, _⟩ := x; exact Heap.lt_size e
  | set S n => obtain ⟨o, _, _, _, e, _⟩ := x; exact Heap.lt_size e
  | ins C dx fs => obtain ⟨_, _, _, e, _⟩ := x; exact Heap.lt_size e
  | own y => obtain ⟨_, e⟩ := x; exact Heap.lt_size e
  | xd fs => obtain ⟨_, ⟨_, _, _, e, _⟩, _⟩ := x; exact Heap.lt_size e
  | rng lo hi => obtain ⟨_, _, _, e⟩ := x; exact Heap.lt_size e
  | frz ob u => obtain ⟨e, _⟩ := x; exact Heap.lt_size e
  | tbl ps => exact Heap.lt_size (show h.get? a = some _ from x)
  | met f y => exact Heap.lt_size (show h.get? a = some _ from x)
  | ext φ => obtain ⟨_, ⟨_, e⟩, _⟩ := x; exact Heap.lt_size e
theorem Paired.mapP {α β : Type} {F G : α → β → Prop} : ∀ {l₁ : List α} {l₂ : List β}, Paired F l₁ l₂ → (∀ a b, F a b → G a b) → Paired G l₁ l₂
  | _, _, .nil, _ => .nil
  | _, _, .cons r t, f => .cons (f _ _ r) (Paired.mapP t f)
theorem ObjOk.stay (x : ObjOk P w H h a o) (k : ∀ b u, (b = a ∨ H b = some (.own a)) → h.get? b = some u → h'.get? b = some u)
    (ho : ∀ b, H b = some (.own a) → H' b = some (.own a)) (ht : ∀ b xs, H b = some (.tup xs) → H' b = some (.tup xs)) : ObjOk P w H' h' a o := by
  induction o with
  | lst xs => obtain ⟨z, its, n, r, e⟩ := x; exact ⟨z, its, n, r, k _ _ (.inl rfl) e⟩
  | tup xs => obtain ⟨z, its, r, ob, e, c⟩ := x; exact ⟨z, its, r, ob, k _ _ (.inl rfl) e, c⟩
  | dK kvs => obtain ⟨z, y, vs, r, ob, es, ep, e, c⟩ := x; exact ⟨z, y, vs, r, ob, es, ep, k _ _ (.inl rfl) e, c⟩
  | dT kvs =>
    obtain ⟨z, y, xs, r, ob, es, ep, e, c⟩ := x
    exact ⟨z, y, xs, Paired.mapP r fun p q z => ⟨z.1, ht _ _ z.2.1, z.2.2⟩, ob, es, ep, k _ _ (.inl rfl) e, c⟩
  | dZ zs kvs =>
    obtain ⟨z, y, xs, r, ob, es, ep, e, c⟩ := x
    exact ⟨z, y, xs, Paired.mapP r fun p q z => ⟨z.1, z.2.1.imp (ht _ _) id, z.2.2⟩, ob, es, ep, k _ _ (.inl rfl) e, c⟩
  | dN zs kvs =>
    obtain ⟨z, y, xs, r, ob, es, ep, e, c⟩ := x
    exact ⟨z, y, xs, Paired.mapP r fun p q z => ⟨z.1, TrD.mono (fun _ _ h => h) ht z.2.1, z.2.2⟩, ob, es, ep, k _ _ (.inl rfl) e, c⟩
  | set S n => obtain ⟨ob, es, ep, t, e, c⟩ := x; exact ⟨ob, es, ep, t, k _ _ (.inl rfl) e, c⟩
  | ins C dx fs =>
    obtain ⟨d, z, ne, e, mA, ⟨od, es, ep, e2, c⟩, r⟩ := x
    exact ⟨ho _ d, z, ne, k _ _ (.inl rfl) e, mA, ⟨od, es, ep, k _ _ (.inr d) e2, c⟩, r⟩
  | own y => obtain ⟨ob, e⟩ := x; exact ⟨ob, k _ _ (.inl rfl) e⟩
  | xd fs => obtain ⟨mA, ⟨od, es, ep, e, c⟩, r⟩ := x; exact ⟨mA, ⟨od, es, ep, k _ _ (.inl rfl) e, c⟩, r⟩
  | rng lo hi => obtain ⟨t, u, v, e⟩ := x; exact ⟨t, u, v, k _ _ (.inl rfl) e⟩
  | frz ob u ih => obtain ⟨e, q⟩ := x; exact ⟨k _ _ (.inl rfl) e, ih q⟩
  | tbl ps =>
    have e : h.get? a = some { cls := .none, data := .fields ps } := x
    show h'.get? a = some { cls := .none, data := .fields ps }
    exact k a _ (.inl rfl) e
  | met f y =>
    have e : h.get? a = some (PySem.W.methodObj (.ref f) (.ref y)) := x
    show h'.get? a = some (PySem.W.methodObj (.ref f) (.ref y))
    exact k a _ (.inl rfl) e
  | ext φ => obtain ⟨p, ⟨o, e⟩, st⟩ := x; exact ⟨st _ _ p fun o q => k _ _ (.inl rfl) q, ⟨o, k _ _ (.inl rfl) e⟩, st⟩
theorem HOk.lt (x : HOk P w H h) (e : H a = some o) : a < h.objs.size := (x a o e).lt
theorem HOk.fresh (x : HOk P w H h) (e : h.objs.size ≤ a) : H a = none := by
  cases q : H a with
  | none => rfl
  | some u => exact absurd (Nat.lt_of_lt_of_le (x.lt q) e) (Nat.lt_irrefl _)
theorem HOk.kept (x : HOk P w H h) (k : ∀ b u, h.get? b = some u → h'.get? b = some u) : HOk P w H h' := fun a o e =>
  (x a o e).stay (fun b u _ q => k b u q) (fun _ q => q) fun _ _ q => q
theorem HOk.laid (x : HOk P w H h) (k : ∀ b u, h.get? b = some u → h'.get? b = some u) (hp : h.objs.size ≤ a) (new : ObjOk P w (upd H a o) h' a o) : HOk P w (upd H a o) h' := fun b u e => by
  have hn := x.fresh hp
  by_cases hb : b = a
  · subst hb; rw [upd_same] at e; cases e; exact new
  · rw [upd_ne hb] at e
    exact (x b u e).stay (fun c v _ q => k c v q) (fun c q => by rw [upd_ne (ne_of_none q hn)]; exact q) fun c xs q => by rw [upd_ne (ne_of_none q hn)]; exact q
end

noncomputable def Rd (H : Hp) (a : Addr) (u : HO) : Prop := H a = some u ∨ ∃ o, H a = some (.frz o u)
theorem Rd.of {H : Hp} {a : Addr} {u : HO} (h : H a = some u) : Rd H a u := .inl h
theorem Rd.ok {P : Program} {w : World} {H : Hp} {h : Heap} {a : Addr} {u : HO} (r : Rd H a u) (x : HOk P w H h) : ObjOk P w H h a u := by
  rcases r with r | ⟨o, r⟩
  · exact x a u r
  · obtain ⟨_, q⟩ := x a _ r
    exact q
noncomputable def Mut : Option HO → Prop
  | some (.lst _) => True
  | some (.dK _) => True
  | some (.dT _) => True
  | some (.dZ _ _) => True
  | some (.dN _ _) => True
  | some (.set _ _) => True
  | some (.ins _ _ _) => True
  | some (.ext _) => True
  | _ => False
section
variable {P : Program} {w : World} {H : Hp} {h h' : Heap} {x e : Addr} {o' : HO}
theorem HOk.write (ok : HOk P w H h) (mu : Mut (H x)) (he : e = x ∨ H e = some (.own x)) (k : ∀ b u, b ≠ e → h.get? b = some u → h'.get? b = some u) (heo : ∃ u, h'.get? e = some u)
    (new : ObjOk P w (upd H x o') h' x o') : HOk P w (upd H x o') h' := fun b u q => by
  have nown : ∀ c y, H c = some (.own y) → c ≠ x := fun c y r z => by subst z; rw [r] at mu; exact mu
  have ntup : ∀ c xs, H c = some (.tup xs) → c ≠ x := fun c xs r z => by subst z; rw [r] at mu; exact mu
  by_cases hb : b = x
  · subst hb; rw [upd_same] at q; cases q; exact new
  · rw [upd_ne hb] at q
    by_cases hbe : b = e
    · have q' : H b = some (.own x) := by
        rcases he with z | z
        · exact absurd (hbe.trans z) hb
        · rw [hbe]; exact z
      rw [q] at q'; cases q'
      obtain ⟨v, hv⟩ := heo
      exact ⟨v, by rw [hbe]; exact hv⟩
    · refine (ok b u q).stay (fun c v hc r => k c v ?_ r) (fun c r => by rw [upd_ne (nown c b r)]; exact r) fun c xs r => by rw [upd_ne (ntup c xs r)]; exact r
      rcases hc with rfl | hc
      · exact hbe
      · rintro rfl
        rcases he with z | z
        · exact nown c b hc z
        · rw [hc] at z; cases z; exact hb rfl
end

structure Un (fs ex : List Addr) (H H' : Hp) (h h' : Heap) : Prop where
  keep : ∀ b o, h.get? b = some o → H b = none → b ∉ fs → b ∉ ex → h'.get? b = some o
  slot : ∀ b o, h.get? b = some o → H b = none → b ∈ fs → b ∉ ex → ∃ sl, h'.get? b = some { o with slots := sl }
  free : ∀ b o, h.get? b = some o → H b = none → b ∉ ex → H' b = none
  there : ∀ b o, h.get? b = some o → b ∉ ex → ∃ o', h'.get? b = some o'
  tups : ∀ b xs, H b = some (.tup xs) → H' b = some (.tup xs)
  frzs : ∀ b o u, H b = some (.frz o u) → H' b = some (.frz o u)
  tbls : ∀ b ps, H b = some (.tbl ps) → ∃ more, H' b = some (.tbl (ps ++ more))
section
variable {fs fs' ex ex' : List Addr} {H H1 H2 : Hp} {h h1 h2 h' : Heap} {a x e : Addr} {o : HO}
theorem Un.any (u : Un fs ex H H1 h h1) {b : Addr} {ob : Obj} (q : h.get? b = some ob) (n : H b = none) (hx : b ∉ ex) : ∃ sl, h1.get? b = some { ob with slots := sl } := by
  by_cases hb : b ∈ fs
  · exact u.slot b ob q n hb hx
  · exact ⟨ob.slots, u.keep b ob q n hb hx⟩
theorem Un.trans (a : Un fs ex H H1 h h1) (b : Un fs ex H1 H2 h1 h2) : Un fs ex H H2 h h2 where
  keep := fun c ob q n hc hx => b.keep c ob (a.keep c ob q n hc hx) (a.free c ob q n hx) hc hx
  slot := fun c ob q n hc hx => by
    obtain ⟨sl, e1⟩ := a.slot c ob q n hc hx
    obtain ⟨sl', e2⟩ := b.slot c _ e1 (a.free c ob q n hx) hc hx
    exact ⟨sl', e2⟩
  free := fun c ob q n hx => by
    obtain ⟨o', e1⟩ := a.there c ob q hx
    exact b.free c o' e1 (a.free c ob q n hx) hx
  there := fun c ob q hx => by
    obtain ⟨o', e1⟩ := a.there c ob q hx
    exact b.there c o' e1 hx
  tups := fun c xs q => b.tups c xs (a.tups c xs q)
  frzs := fun c ob xs q => b.frzs c ob xs (a.frzs c ob xs q)
  tbls := fun c ps q => by
    obtain ⟨m1, e1⟩ := a.tbls c ps q
    obtain ⟨m2, e2⟩ := b.tbls c _ e1
    exact ⟨m1 ++ m2, by rw [e2, Array.append_assoc]⟩
theorem Un.kept (k : ∀ b u, h.get? b = some u → h'.get? b = some u) : Un fs ex H H h h' :=
  ⟨fun b ob q _ _ _ => k b ob q, fun b ob q _ _ _ => ⟨ob.slots, k b ob q⟩, fun _ _ _ n _ => n, fun b ob q _ => ⟨ob, k b ob q⟩, fun _ _ q => q, fun _ _ _ q => q, fun _ ps q => ⟨#[], by rw [q]; simp⟩⟩
theorem Un.refl : Un fs ex H H h h := Un.kept fun _ _ q => q
theorem Un.laid (k : ∀ b u, h.get? b = some u → h'.get? b = some u) (hp : h.objs.size ≤ a) (hn : H a = none) : Un fs ex H (upd H a o) h h' where
  keep := fun b u q _ _ _ => k b u q
  slot := fun b u q _ _ _ => ⟨u.slots, k b u q⟩
  free := fun b u q n _ => by rw [upd_ne (Nat.ne_of_lt (Nat.lt_of_lt_of_le (Heap.lt_size q) hp))]; exact n
  there := fun b u q _ => ⟨u, k b u q⟩
  tups := fun b xs q => by rw [upd_ne (ne_of_none q hn)]; exact q
  frzs := fun b u xs q => by rw [upd_ne (ne_of_none q hn)]; exact q
  tbls := fun b ps q => ⟨#[], by rw [upd_ne (ne_of_none q hn), q]; simp⟩
theorem Un.write (mu : Mut (H x)) (he : e = x ∨ H e = some (.own x)) (k : ∀ b u, b ≠ e → h.get? b = some u → h'.get? b = some u) (heo : ∃ u, h'.get? e = some u) : Un fs ex H (upd H x o) h h' := by
  have hx : ∀ b, H b = none → b ≠ x := fun b n z => by subst z; rw [n] at mu; exact mu
  have hb : ∀ b, H b = none → b ≠ e := fun b n z => by
    subst z
    rcases he with r | r
    · exact hx b n r
    · rw [n] at r; cases r
  have hm : ∀ b u, H b = some u → ¬ Mut (some u) → b ≠ x := fun b u q nm z => by subst z; rw [q] at mu; exact nm mu
  refine ⟨fun b u q n _ _ => k b u (hb b n) q, fun b u q n _ _ => ⟨u.slots, k b u (hb b n) q⟩, fun b u q n _ => by rw [upd_ne (hx b n)]; exact n, fun b u q _ => ?_,
    fun b xs q => by rw [upd_ne (hm b _ q fun z => z)]; exact q, fun b u xs q => by rw [upd_ne (hm b _ q fun z => z)]; exact q, fun b ps q => ⟨#[], by rw [upd_ne (hm b _ q fun z => z), q]; simp⟩⟩
  by_cases hbe : b = e
  · subst hbe; exact heo
  · exact ⟨u, k b u hbe q⟩
theorem Un.mono (u : Un fs ex H H1 h h1) (hs : ∀ b ∈ fs, b ∈ fs') (hx : ∀ b ∈ ex, b ∈ ex') : Un fs' ex' H H1 h h1 :=
  ⟨fun b ob q n hb he => u.keep b ob q n (fun z => hb (hs b z)) fun z => he (hx b z), fun _ _ q n _ he => u.any q n fun z => he (hx _ z), fun b ob q n he => u.free b ob q n fun z => he (hx b z), fun b ob q he => u.there b ob q fun z => he (hx b z), u.tups, u.frzs, u.tbls⟩
end

noncomputable def trk (h : Heap) (H : Hp) : List Addr := (List.range h.objs.size).filter fun a => (H a).isSome
noncomputable def hidT (h : Heap) (H : Hp) : Heap := PySem.W.hideAll h (trk h H)
theorem hidT_size (h : Heap) (H : Hp) : (hidT h H).objs.size = h.objs.size := PySem.W.hideAll_size _ _
theorem hidT_get {h : Heap} {H : Hp} {b : Addr} {o : Obj} (e : h.get? b = some o) (n : H b = none) : (hidT h H).get? b = some o :=
  PySem.W.hideAll_get _ e fun hm => by
    have q : (H b).isSome = true := (List.mem_filter.mp hm).2
    rw [n] at q; simp at q
theorem of_hidT {h : Heap} {H : Hp} {b : Addr} {o : Obj} (e : (hidT h H).get? b = some o) : h.get? b = some o ∧ H b = none := by
  have e' : h.get? b = some o := PySem.W.of_hideAll (trk h H) e
  refine ⟨e', ?_⟩
  cases q : H b with
  | none => rfl
  | some x =>
    have hm : b ∈ trk h H := List.mem_filter.mpr ⟨List.mem_range.mpr (Heap.lt_size e'), by simp [q]⟩
    have z : (hidT h H).get? b = none := PySem.W.hideAll_none (trk h H) hm
    rw [z] at e; cases e

noncomputable def allNews (g h : Heap) (L : Addr) : List (Addr × Obj) := (List.range h.objs.size).filterMap fun a => if a = L ∨ (g.get? a).isSome = true then none else (h.get? a).map fun o => (a, o)
noncomputable def rest (g h : Heap) (L d : Addr) : List (Addr × Obj) := (allNews g h L).filter fun p => decide (p.1 ≠ d)
end L2

namespace L2
open PySem PySem.Spec PyProof.Rows

structure Mod (K : PySem.W.Frag) (mg : Str → Option Value) (base : Heap) : Prop where
  kin : K.In base
  glob : base.Ns mainGlobals mg
  blt : ∃ mb, base.Ns builtinsNs mb ∧ ∀ x : Str, x ≠ "__name__" → mb x = bootBuiltins x
  nolimit : base.NoLimit

structure Cx where
  prog : Program
  w : World
  K : PySem.W.Frag
  mg : Str → Option Value
  base : Heap
  A : Around
  N : List Str
  s₀ : Shared
  H₀ : Hp
  env : Env
  outer : List Env
  stack : List Env
  ex : List Addr
  fn : Str → Bool
  calm : Bool
  pn : List (Addr × Obj)
  xe : Value → Shared → Prop
noncomputable def frs (l : List Env) : List Addr := l.filterMap (·.frame)
noncomputable abbrev Cx.fs (X : Cx) : List Addr := frs X.outer

noncomputable def Vis (sc : Scope) (x : Str) : Prop := sc.names.lookup x = some .local ∨ sc.names.lookup x = some .cell ∨ sc.names.lookup x = some .free
noncomputable def Loc (sc : Scope) (x : Str) : Prop := sc.names.lookup x = some .local ∨ sc.names.lookup x = some .cell
noncomputable def Look (env : Env) (h : Heap) (m : Str → Option Value) (x : Str) (u : Value) : Prop :=
  (env.kindOf x = some .local ∧ m x = some u) ∨ ((env.kindOf x = some .cell ∨ env.kindOf x = some .free) ∧ ∃ c, env.cells.lookup x = some c ∧ h.IsCell c (some u))

structure Cx.Ok (X : Cx) : Prop where
  mod : Mod X.K X.mg X.base
  kind : X.env.scope.kind = .function
  glob : X.env.globals = mainGlobals
  blt : X.env.builtins = builtinsNs
  above : X.s₀.heap.objs.size ≤ X.env.locals
  inj : ∀ x y c, X.env.cells.lookup x = some c → X.env.cells.lookup y = some c → x = y
  has : ∀ x, (X.env.kindOf x = some .cell ∨ X.env.kindOf x = some .free) → ∃ c, X.env.cells.lookup x = some c
  cab : ∀ x c, X.fn x = true → X.env.cells.lookup x = some c → X.s₀.heap.objs.size ≤ c
  hd : X.calm = true → X.A.handled = none
  frames : X.A.frames = some X.stack
  stk : X.stack = X.outer ∨ (X.stack = X.env :: X.outer ∧ X.env.frame = some X.env.locals)
  exf : ∀ b ∈ X.ex, b ≠ X.env.locals ∧ ∀ x c, X.env.cells.lookup x = some c → c ≠ b
  bs : ∀ b o, X.base.get? b = some o → X.s₀.heap.get? b = some o ∧ X.H₀ b = none
  bsz : X.base.objs.size ≤ X.s₀.heap.objs.size
  noex : ∀ b o, X.base.get? b = some o → b ∉ X.ex
  exfs : ∀ b ∈ X.ex, b ∉ X.fs
  funs : X.s₀.heap.FunFrames X.base X.outer
  frf : ∀ b ∈ X.fs, X.H₀ b = none

structure Inv (X : Cx) (pins : List (Addr × Obj)) (σ : List (Option V)) (H : Hp) (s : Shared) : Prop where
  ok : X.Ok
  os : s.os = X.s₀.os
  bare : AllBare s.gens
  base : Un X.fs X.ex X.H₀ H X.s₀.heap s.heap
  loc : ∃ m, s.heap.Ns X.env.locals m ∧ ∀ (i : Nat) (x : Str) (v : V), X.N[i]? = some x → σ[i]? = some (some v) → Vis X.env.scope x → ∃ u, RelV v u ∧ Look X.env s.heap m x u
  cell : ∀ x c, X.env.cells.lookup x = some c → ∃ v, s.heap.IsCell c v
  free : H X.env.locals = none
  freeC : ∀ x c, X.env.cells.lookup x = some c → H c = none
  pin : ∀ p ∈ X.pn ++ pins, s.heap.get? p.1 = some p.2 ∧ H p.1 = none ∧ p.1 ≠ X.env.locals ∧ p.1 ∉ X.fs ∧ ∀ v, p.2.data ≠ .cell v
  hok : HOk X.prog X.w H s.heap
  len : σ.length = X.N.length

section
variable {X : Cx} {pins : List (Addr × Obj)} {σ : List (Option V)} {H H' : Hp} {s : Shared} {h' : Heap}

theorem Cx.Ok.nofr (ok : X.Ok) {b : Addr} {o : Obj} (e : X.base.get? b = some o) : b ∉ X.fs := fun hb => by
  have := (ok.funs.mem hb).1
  rw [e] at this; cases this
theorem Inv.bs (I : Inv X pins σ H s) : ∀ b o, X.base.get? b = some o → s.heap.get? b = some o ∧ H b = none := fun b o e =>
  ⟨I.base.keep b o (I.ok.bs b o e).1 (I.ok.bs b o e).2 (I.ok.nofr e) (I.ok.noex b o e), I.base.free b o (I.ok.bs b o e).1 (I.ok.bs b o e).2 (I.ok.noex b o e)⟩
theorem Inv.bk (I : Inv X pins σ H s) : ∀ b o, X.base.get? b = some o → s.heap.get? b = some o := fun b o e => (I.bs b o e).1
theorem Inv.mod (I : Inv X pins σ H s) : Mod X.K X.mg X.base := I.ok.mod
theorem Inv.kIn (I : Inv X pins σ H s) : X.K.In s.heap := I.ok.mod.kin.keeps I.bk
theorem Inv.nolimit (I : Inv X pins σ H s) : s.heap.NoLimit := I.ok.mod.nolimit.keeps I.bk
theorem Inv.fr (I : Inv X pins σ H s) : ∃ m, Fr X.base X.env.locals s.heap m :=
  let ⟨m, hn, _⟩ := I.loc
  ⟨m, hn, I.bk, Nat.le_trans I.ok.bsz I.ok.above⟩
theorem Inv.lt (I : Inv X pins σ H s) : X.env.locals < s.heap.objs.size := let ⟨_, hn, _⟩ := I.loc; hn.lt
theorem Inv.sz (I : Inv X pins σ H s) : X.s₀.heap.objs.size ≤ s.heap.objs.size := Nat.le_trans I.ok.above (Nat.le_of_lt I.lt)
theorem Inv.nofs (I : Inv X pins σ H s) {a : Addr} (h : s.heap.objs.size ≤ a) : a ∉ X.fs := fun hb => by
  obtain ⟨_, o, ho, _⟩ := I.ok.funs.mem hb
  exact absurd (Nat.lt_of_lt_of_le (Heap.lt_size ho) (Nat.le_trans I.sz h)) (Nat.lt_irrefl _)
theorem Inv.cne (I : Inv X pins σ H s) : ∀ x c, X.env.cells.lookup x = some c → c ≠ X.env.locals := fun x c e z => by
  obtain ⟨v, o, ho, hd⟩ := I.cell x c e
  obtain ⟨m, ⟨o', es, ep, ho', hd', _⟩, _⟩ := I.loc
  rw [z, ho'] at ho; cases ho; rw [hd'] at hd; cases hd
theorem Inv.funs (I : Inv X pins σ H s) : s.heap.FunFrames X.base X.outer := by
  have all : ∀ (l : List Env), (∀ b ∈ frs l, b ∈ X.fs) → X.s₀.heap.FunFrames X.base l → s.heap.FunFrames X.base l := by
    intro l
    induction l with
    | nil => intro _ _; trivial
    | cons env r ih =>
      intro hs hl
      obtain ⟨hk, ⟨L, o, hf, hn, ho, hd⟩, hr⟩ := hl
      have hL : L ∈ X.fs := hs L (by unfold frs; rw [List.filterMap_cons, hf]; exact List.mem_cons_self)
      obtain ⟨sl, e⟩ := I.base.slot L o ho (I.ok.frf L hL) hL fun z => I.ok.exfs L z hL
      exact ⟨hk, ⟨L, _, hf, hn, e, hd⟩, ih (fun b hb => hs b (by unfold frs; rw [List.filterMap_cons, hf]; exact List.mem_cons_of_mem _ hb)) hr⟩
  exact all X.outer (fun _ hb => hb) I.ok.funs

theorem Inv.stack (I : Inv X pins σ H s) : s.heap.FunFrames X.base X.stack := by
  rcases I.ok.stk with e | ⟨e, hf⟩
  · rw [e]; exact I.funs
  · rw [e]
    obtain ⟨m, hn, _⟩ := I.loc
    refine .cons (by rw [I.ok.kind]; decide) hf hn ?_ I.funs
    exact Heap.get?_none_of_le (Nat.le_trans I.ok.bsz I.ok.above)
theorem Inv.stkSub (I : Inv X pins σ H s) : ∀ b ∈ frs X.stack, b ∈ X.env.locals :: X.fs := fun b hb => by
  rcases I.ok.stk with e | ⟨e, hf⟩
  · rw [e] at hb; exact List.mem_cons_of_mem _ hb
  · rw [e] at hb
    unfold frs at hb
    rw [List.filterMap_cons, hf] at hb
    exact hb
theorem Inv.stkFree (I : Inv X pins σ H s) : ∀ b ∈ frs X.stack, H b = none := fun b hb => by
  rcases List.mem_cons.mp (I.stkSub b hb) with e | hb
  · rw [e]; exact I.free
  · obtain ⟨_, o, ho, _⟩ := I.ok.funs.mem hb
    exact I.base.free b o ho (I.ok.frf b hb) fun z => I.ok.exfs b z hb

theorem Inv.step {g' : Array GenState} {t' : Nat} {d' : Drawn} {ch : List Addr} (I : Inv X pins σ H s)
    (hch : ∀ b ∈ ch, (b ∈ X.ex ∨ X.s₀.heap.objs.size ≤ b) ∧ b ≠ X.env.locals ∧ (∀ x c, X.env.cells.lookup x = some c → c ≠ b) ∧ ∀ p ∈ X.pn ++ pins, p.1 ≠ b)
    (keep : ∀ b o, b ≠ X.env.locals → b ∉ X.fs → b ∉ ch → s.heap.get? b = some o → H b = none → h'.get? b = some o)
    (slot : ∀ b o, b ≠ X.env.locals → b ∈ X.fs → b ∉ ch → s.heap.get? b = some o → H b = none → ∃ sl, h'.get? b = some { o with slots := sl }) (free : ∀ b o, b ∉ ch → s.heap.get? b = some o → H b = none → H' b = none)
    (there : ∀ b o, b ∉ ch → s.heap.get? b = some o → ∃ o', h'.get? b = some o')
    (tups : ∀ b xs, H b = some (.tup xs) → H' b = some (.tup xs)) (frzs : ∀ b o u, H b = some (.frz o u) → H' b = some (.frz o u)) (tbls : ∀ b ps, H b = some (.tbl ps) → ∃ more, H' b = some (.tbl (ps ++ more)))
    (ns : ∀ m, s.heap.Ns X.env.locals m → h'.Ns X.env.locals m) (hok : HOk X.prog X.w H' h') (hg : AllBare g') :
    Inv X pins σ H' { s with heap := h', gens := g', drawn := d', toks := t' } := by
  have neL : ∀ b o, X.s₀.heap.get? b = some o → b ≠ X.env.locals := fun b o e => Nat.ne_of_lt (Nat.lt_of_lt_of_le (Heap.lt_size e) I.ok.above)
  have neC : ∀ b o, X.s₀.heap.get? b = some o → b ∉ X.ex → b ∉ ch := fun b o e hx hb => by
    rcases (hch b hb).1 with z | z
    · exact hx z
    · exact absurd (Nat.lt_of_lt_of_le (Heap.lt_size e) z) (Nat.lt_irrefl _)
  have cellK : ∀ x c, X.env.cells.lookup x = some c → ∀ v, s.heap.IsCell c v → h'.IsCell c v := fun x c e v ⟨o, ho, hd⟩ => by
    have nch : c ∉ ch := fun z => (hch c z).2.2.1 x c e rfl
    by_cases hc : c ∈ X.fs
    · obtain ⟨sl, q⟩ := slot c o (I.cne x c e) hc nch ho (I.freeC x c e)
      exact ⟨_, q, hd⟩
    · exact ⟨o, keep c o (I.cne x c e) hc nch ho (I.freeC x c e), hd⟩
  refine ⟨I.ok, I.os, hg, ⟨fun b o e n hb hx => ?_, fun b o e n hb hx => ?_, fun b o e n hx => ?_, fun b o e hx => ?_, fun b xs e => tups b xs (I.base.tups b xs e), fun b o xs e => frzs b o xs (I.base.frzs b o xs e), fun b ps e => ?_⟩, ?_, fun x c e => ?_, ?_, fun x c e => ?_, fun p hp => ?_, hok, I.len⟩
  · exact keep b o (neL b o e) hb (neC b o e hx) (I.base.keep b o e n hb hx) (I.base.free b o e n hx)
  · obtain ⟨sl, e1⟩ := I.base.slot b o e n hb hx
    obtain ⟨sl', e2⟩ := slot b _ (neL b o e) hb (neC b o e hx) e1 (I.base.free b o e n hx)
    exact ⟨sl', e2⟩
  · obtain ⟨o', e1⟩ := I.base.there b o e hx
    exact free b o' (neC b o e hx) e1 (I.base.free b o e n hx)
  · obtain ⟨o', e1⟩ := I.base.there b o e hx
    exact there b o' (neC b o e hx) e1
  · obtain ⟨m1, e1⟩ := I.base.tbls b ps e
    obtain ⟨m2, e2⟩ := tbls b _ e1
    exact ⟨m1 ++ m2, by rw [e2, Array.append_assoc]⟩
  · obtain ⟨m, hn, hl⟩ := I.loc
    refine ⟨m, ns m hn, fun i x v e1 e2 e3 => ?_⟩
    obtain ⟨u, r, l⟩ := hl i x v e1 e2 e3
    refine ⟨u, r, ?_⟩
    rcases l with l | ⟨k, c, e, z⟩
    · exact .inl l
    · exact .inr ⟨k, c, e, cellK x c e _ z⟩
  · obtain ⟨v, z⟩ := I.cell x c e
    exact ⟨v, cellK x c e v z⟩
  · obtain ⟨m, ⟨o, _, _, ho, _⟩, _⟩ := I.loc
    exact free _ o (fun z => (hch _ z).2.1 rfl) ho I.free
  · obtain ⟨v, o, ho, hd⟩ := I.cell x c e
    exact free c o (fun z => (hch c z).2.2.1 x c e rfl) ho (I.freeC x c e)
  · obtain ⟨e, n, ne, nf, d⟩ := I.pin p hp
    have nch : p.1 ∉ ch := fun z => (hch p.1 z).2.2.2 p hp rfl
    exact ⟨keep p.1 p.2 ne nf nch e n, free p.1 p.2 nch e n, ne, nf, d⟩
theorem Inv.un {t' : Nat} (I : Inv X pins σ H s) (u : Un X.fs [] H H' s.heap h') (hok : HOk X.prog X.w H' h') : Inv X pins σ H' { s with heap := h', toks := t' } := by
  obtain ⟨m, ⟨o, es, ep, ho, r⟩, _⟩ := id I.loc
  obtain ⟨sl, hL⟩ := u.any ho I.free (by simp)
  exact I.step (g' := s.gens) (d' := s.drawn) (ch := []) (fun _ z => nomatch z) (fun b o _ hb _ e n => u.keep b o e n hb (by simp)) (fun b o _ hb _ e n => u.slot b o e n hb (by simp)) (fun b o _ e n => u.free b o e n (by simp)) (fun b o _ e => u.there b o e (by simp)) u.tups u.frzs u.tbls (fun m' hm => by
    obtain ⟨o', es', ep', ho', r'⟩ := hm
    rw [ho] at ho'; cases ho'
    exact ⟨_, es', ep', hL, r'⟩) hok I.bare
theorem Inv.call {g' : Array GenState} {t' : Nat} {d' : Drawn} {ch : List Addr} (I : Inv X pins σ H s) (u : Un (frs X.stack) ch H H' s.heap h') (hok : HOk X.prog X.w H' h') (hg : AllBare g')
    (hch : ∀ b ∈ ch, (b ∈ X.ex ∨ X.s₀.heap.objs.size ≤ b) ∧ b ≠ X.env.locals ∧ (∀ x c, X.env.cells.lookup x = some c → c ≠ b) ∧ ∀ p ∈ X.pn ++ pins, p.1 ≠ b) :
    Inv X pins σ H' { s with heap := h', gens := g', drawn := d', toks := t' } := by
  obtain ⟨m, ⟨o, es, ep, ho, r⟩, _⟩ := id I.loc
  obtain ⟨sl, hL⟩ := u.any ho I.free fun z => (hch _ z).2.1 rfl
  exact I.step (ch := ch) hch (fun b o hL hb hc e n => u.keep b o e n (fun z => (List.mem_cons.mp (I.stkSub b z)).elim hL hb) hc) (fun b o _ _ hc e n => u.any e n hc) (fun b o hc e n => u.free b o e n hc) (fun b o hc e => u.there b o e hc) u.tups u.frzs u.tbls (fun m' hm => by
    obtain ⟨o', es', ep', ho', r'⟩ := hm
    rw [ho] at ho'; cases ho'
    exact ⟨_, es', ep', hL, r'⟩) hok hg
theorem Inv.turned {t' : Nat} {it : Addr} (I : Inv X pins σ H s) (k : ∀ b o, b ≠ it → s.heap.get? b = some o → h'.get? b = some o) (hn : H it = none) (hL : it ≠ X.env.locals)
    (h1 : it ∈ X.ex ∨ X.s₀.heap.objs.size ≤ it) (h2 : ∀ x c, X.env.cells.lookup x = some c → c ≠ it) (h3 : ∀ p ∈ X.pn ++ pins, p.1 ≠ it) : Inv X pins σ H { s with heap := h', toks := t' } := by
  have nit : ∀ b u, H b = some u → b ≠ it := fun b u e z => by rw [z, hn] at e; cases e
  refine I.step (g' := s.gens) (d' := s.drawn) (ch := [it]) (fun b hb => ?_) (fun b o _ _ hc e _ => k b o (fun z => hc (by simp [z])) e) (fun b o _ _ hc e _ => ⟨o.slots, k b o (fun z => hc (by simp [z])) e⟩) (fun _ _ _ _ n => n)
    (fun b o hc e => ⟨o, k b o (fun z => hc (by simp [z])) e⟩) (fun _ _ e => e) (fun _ _ _ e => e) (fun b ps e => ⟨#[], by rw [e]; simp⟩) (fun m hm => ?_) (fun b u e => ?_) I.bare
  · have e : b = it := by simpa using hb
    subst e
    exact ⟨h1, hL, h2, h3⟩
  · obtain ⟨o, es, ep, ho, r⟩ := hm
    exact ⟨o, es, ep, k _ o (Ne.symm hL) ho, r⟩
  · refine (I.hok b u e).stay (fun c v hc q => k c v ?_ q) (fun _ q => q) fun _ _ q => q
    rcases hc with z | z
    · rw [z]; exact nit b u e
    · exact nit c _ z
theorem Inv.tok (I : Inv X pins σ H s) (t : Nat) : Inv X pins σ H { s with toks := t } := I.un (h' := s.heap) (t' := t) Un.refl I.hok
theorem Inv.kept {t' : Nat} (I : Inv X pins σ H s) (k : ∀ b u, s.heap.get? b = some u → h'.get? b = some u) : Inv X pins σ H { s with heap := h', toks := t' } := I.un (Un.kept k) (I.hok.kept k)
theorem Inv.laid {a : Addr} {o : HO} {t' : Nat} (I : Inv X pins σ H s) (k : ∀ b u, s.heap.get? b = some u → h'.get? b = some u) (hp : s.heap.objs.size ≤ a) (new : ObjOk X.prog X.w (upd H a o) h' a o) :
    Inv X pins σ (upd H a o) { s with heap := h', toks := t' } := I.un (Un.laid k hp (I.hok.fresh hp)) (I.hok.laid k hp new)
theorem Inv.write {x e : Addr} {o : HO} {t' : Nat} (I : Inv X pins σ H s) (mu : Mut (H x)) (he : e = x ∨ H e = some (.own x)) (k : ∀ b u, b ≠ e → s.heap.get? b = some u → h'.get? b = some u) (heo : ∃ u, h'.get? e = some u)
    (new : ObjOk X.prog X.w (upd H x o) h' x o) : Inv X pins σ (upd H x o) { s with heap := h', toks := t' } := I.un (Un.write mu he k heo) (I.hok.write mu he k heo new)
theorem Inv.weak {σ' : List (Option V)} (I : Inv X pins σ H s) (hl : σ'.length = σ.length) (w : ∀ (i : Nat) v, σ'[i]? = some (some v) → σ[i]? = some (some v)) : Inv X pins σ' H s :=
  ⟨I.ok, I.os, I.bare, I.base, let ⟨m, hn, hl'⟩ := I.loc; ⟨m, hn, fun i x v e1 e2 e3 => hl' i x v e1 (w i v e2) e3⟩, I.cell, I.free, I.freeC, I.pin, I.hok, hl.trans I.len⟩
theorem Inv.pins_of {pins' : List (Addr × Obj)} (I : Inv X pins σ H s) (h : ∀ p ∈ pins', s.heap.get? p.1 = some p.2 ∧ H p.1 = none ∧ p.1 ≠ X.env.locals ∧ p.1 ∉ X.fs ∧ ∀ v, p.2.data ≠ .cell v) : Inv X pins' σ H s :=
  ⟨I.ok, I.os, I.bare, I.base, I.loc, I.cell, I.free, I.freeC, fun p hp => (List.mem_append.mp hp).elim (fun z => I.pin p (List.mem_append_left _ z)) (h p), I.hok, I.len⟩

theorem nodup_ix {N : List Str} (hN : N.Nodup) {i j : Nat} {x : Str} (a : N[i]? = some x) (b : N[j]? = some x) : i = j := by
  obtain ⟨h1, e1⟩ := List.getElem?_eq_some_iff.mp a
  obtain ⟨h2, e2⟩ := List.getElem?_eq_some_iff.mp b
  exact (List.getElem_inj hN).mp (e1.trans e2.symm)

theorem store_ok2 {M : Model} {A : Around} {E : Value → Shared → Prop} {i : Nat} {x : Str} {v : V} {u : Value} {Q : Unit → Shared → Prop} (I : Inv X pins σ H s) (hN : X.N.Nodup) (hi : X.N[i]? = some x) (hx : Loc X.env.scope x) (r : RelV v u)
    (h : ∀ s', Inv X pins (σ.set i (some v)) H s' → (∃ a, Heap.SameBut a s.heap s'.heap ∧ (a = X.env.locals ∨ X.env.cells.lookup x = some a)) → Q () s') (hf : X.fn x = true ∨ X.env.scope.names.lookup x = some .local := by first | exact .inl rfl | exact .inr rfl | assumption) : wpAny M A (storeName X.env x u) Q E s := by
  obtain ⟨m, hn, hl⟩ := id I.loc
  have hcls : (X.env.scope.kind == .class || (X.env.scope.kind == .module && X.env.locals != X.env.globals)) = false := by rw [I.ok.kind]; rfl
  have hiσ : i < σ.length := by rw [I.len]; exact (List.getElem?_eq_some_iff.mp hi).1
  have cne := I.cne
  have tracked : ∀ {a : Addr} {h' : Heap}, (∃ o, s.heap.get? a = some o ∧ H a = none) → Heap.SameBut a s.heap h' → HOk X.prog X.w H h' := fun {a h'} ha hs b ob e => by
    obtain ⟨_, _, hfree⟩ := ha
    refine (I.hok b ob e).stay (fun c w' hc q => (hs.2 c ?_).trans q) (fun _ q => q) fun _ _ q => q
    rintro rfl
    rcases hc with rfl | hc
    · rw [hfree] at e; cases e
    · rw [hfree] at hc; cases hc
  rcases hx with hk | hk
  · refine wpAny_storeName_local hk hn (fun h' hn' hs => ?_) hcls
    obtain ⟨oL, _, _, hoL, _⟩ := id hn
    refine h _ ⟨I.ok, I.os, I.bare, ⟨fun b o e n hb hx => ?_, fun b o e n hb hx => ?_, I.base.free, fun b o e hx => ?_, I.base.tups, I.base.frzs, I.base.tbls⟩, ⟨_, hn', fun j y v' e1 e2 e3 => ?_⟩, fun y c e => ?_, I.free, I.freeC, fun p hp => ?_, tracked ⟨oL, hoL, I.free⟩ hs, by simpa using I.len⟩ ⟨_, hs, .inl rfl⟩
    · exact (hs.2 b (Nat.ne_of_lt (Nat.lt_of_lt_of_le (Heap.lt_size e) I.ok.above))).trans (I.base.keep b o e n hb hx)
    · obtain ⟨sl, e1⟩ := I.base.slot b o e n hb hx
      exact ⟨sl, (hs.2 b (Nat.ne_of_lt (Nat.lt_of_lt_of_le (Heap.lt_size e) I.ok.above))).trans e1⟩
    · obtain ⟨o', e1⟩ := I.base.there b o e hx
      exact ⟨o', (hs.2 b (Nat.ne_of_lt (Nat.lt_of_lt_of_le (Heap.lt_size e) I.ok.above))).trans e1⟩
    · by_cases hj : j = i
      · subst hj
        rw [hi] at e1; cases e1
        rw [List.getElem?_set_self hiσ] at e2
        cases e2
        exact ⟨u, r, .inl ⟨hk, by simp⟩⟩
      · rw [List.getElem?_set_ne (Ne.symm hj)] at e2
        obtain ⟨u', r', q⟩ := hl j y v' e1 e2 e3
        refine ⟨u', r', ?_⟩
        rcases q with ⟨k, e⟩ | ⟨k, c, e, z⟩
        · refine .inl ⟨k, ?_⟩
          have : y ≠ x := fun e => hj (nodup_ix hN e1 (e ▸ hi))
          simp [this, e]
        · exact .inr ⟨k, c, e, z.sameBut hs (cne y c e)⟩
    · obtain ⟨w', z⟩ := I.cell y c e
      exact ⟨w', z.sameBut hs (cne y c e)⟩
    · obtain ⟨e, n, ne, nf, d⟩ := I.pin p hp
      exact ⟨(hs.2 p.1 ne).trans e, n, ne, nf, d⟩
  · have hfn : X.fn x = true := by
      rcases hf with z | z
      · exact z
      · rw [z] at hk; cases hk
    obtain ⟨c, hc⟩ := I.ok.has x (.inl hk)
    obtain ⟨w', z⟩ := I.cell x c hc
    refine wpAny_storeName_cell I.ok.kind hk hc z (fun h' hc' hs => ?_)
    obtain ⟨oc, hoc, hocd⟩ := id z
    refine h { s with heap := h' } ⟨I.ok, I.os, I.bare, ⟨fun b o e n hb hx => ?_, fun b o e n hb hx => ?_, I.base.free, fun b o e hx => ?_, I.base.tups, I.base.frzs, I.base.tbls⟩, ⟨m, hn.sameBut hs (Ne.symm (cne x c hc)), fun j y v' e1 e2 e3 => ?_⟩, fun y c' e => ?_, I.free, I.freeC, fun p hp => ?_, tracked ⟨oc, hoc, I.freeC x c hc⟩ hs, by simpa using I.len⟩ ⟨c, hs, .inr hc⟩
    · exact (hs.2 b (Nat.ne_of_lt (Nat.lt_of_lt_of_le (Heap.lt_size e) (I.ok.cab x c hfn hc)))).trans (I.base.keep b o e n hb hx)
    · obtain ⟨sl, e1⟩ := I.base.slot b o e n hb hx
      exact ⟨sl, (hs.2 b (Nat.ne_of_lt (Nat.lt_of_lt_of_le (Heap.lt_size e) (I.ok.cab x c hfn hc)))).trans e1⟩
    · obtain ⟨o', e1⟩ := I.base.there b o e hx
      exact ⟨o', (hs.2 b (Nat.ne_of_lt (Nat.lt_of_lt_of_le (Heap.lt_size e) (I.ok.cab x c hfn hc)))).trans e1⟩
    · by_cases hj : j = i
      · subst hj
        rw [hi] at e1; cases e1
        rw [List.getElem?_set_self hiσ] at e2
        cases e2
        exact ⟨u, r, .inr ⟨.inl hk, c, hc, hc'⟩⟩
      · rw [List.getElem?_set_ne (Ne.symm hj)] at e2
        obtain ⟨u', r', q⟩ := hl j y v' e1 e2 e3
        refine ⟨u', r', ?_⟩
        rcases q with q | ⟨k, c', e, z'⟩
        · exact .inl q
        · refine .inr ⟨k, c', e, z'.sameBut hs ?_⟩
          rintro rfl
          exact hj (nodup_ix hN e1 (I.ok.inj _ _ _ e hc ▸ hi))
    · by_cases hcc : c' = c
      · subst hcc; exact ⟨_, hc'⟩
      · obtain ⟨w2, z2⟩ := I.cell y c' e
        exact ⟨w2, z2.sameBut hs hcc⟩
    · obtain ⟨e, n, ne, nf, d⟩ := I.pin p hp
      refine ⟨(hs.2 p.1 ?_).trans e, n, ne, nf, d⟩
      intro q
      rw [q, hoc] at e
      have q' : oc = p.2 := Option.some.inj e
      exact d w' (by rw [← q']; exact hocd)
theorem store_ok {M : Model} {A : Around} {E : Value → Shared → Prop} {i : Nat} {x : Str} {v : V} {u : Value} {Q : Unit → Shared → Prop} (I : Inv X pins σ H s) (hN : X.N.Nodup) (hi : X.N[i]? = some x) (hx : Loc X.env.scope x) (r : RelV v u)
    (h : ∀ s', Inv X pins (σ.set i (some v)) H s' → Q () s') (hf : X.fn x = true ∨ X.env.scope.names.lookup x = some .local := by first | exact .inl rfl | exact .inr rfl | assumption) : wpAny M A (storeName X.env x u) Q E s :=
  store_ok2 I hN hi hx r (fun s' I' _ => h s' I') hf
theorem Inv.call' {s' : Shared} {ch : List Addr} (I : Inv X pins σ H s) (ho : s'.os = s.os) (u : Un (frs X.stack) ch H H' s.heap s'.heap) (hok : HOk X.prog X.w H' s'.heap) (hg : AllBare s'.gens)
    (hch : ∀ b ∈ ch, (b ∈ X.ex ∨ X.s₀.heap.objs.size ≤ b) ∧ b ≠ X.env.locals ∧ (∀ x c, X.env.cells.lookup x = some c → c ≠ b) ∧ ∀ p ∈ X.pn ++ pins, p.1 ≠ b) : Inv X pins σ H' s' := by
  obtain ⟨h', g', d', t', o'⟩ := s'
  have e : o' = s.os := ho
  subst e
  exact I.call (g' := g') (t' := t') (d' := d') u hok hg hch
end

noncomputable abbrev XK := Value → Option Addr → Hp → Prop
noncomputable abbrev St := List (Option V)
noncomputable abbrev VK := V → Hp → Prop
noncomputable abbrev TE := St → Hp → VK → Prop
noncomputable abbrev TT := St → Hp → (Bool → Hp → Prop) → Prop
noncomputable abbrev TA := St → Hp → (List V → Hp → Prop) → Prop
structure Ends where
  nx : St → Hp → Prop
  rt : VK
  bk : St → Hp → Prop := fun _ _ => False
  ct : St → Hp → Prop := fun _ _ => False
noncomputable abbrev TS := Ends → St → Hp → Prop

noncomputable def EP (X : Cx) (pins : List (Addr × Obj)) (σ : St) (Q : VK) (u : Value) (s' : Shared) : Prop := ∃ v H', Inv X pins σ H' s' ∧ RelV v u ∧ Q v H'
noncomputable def TP (X : Cx) (pins : List (Addr × Obj)) (σ : St) (Q : Bool → Hp → Prop) (b : Bool) (s' : Shared) : Prop := ∃ H', Inv X pins σ H' s' ∧ Q b H'
noncomputable def AP (X : Cx) (pins : List (Addr × Obj)) (σ : St) (Q : List V → Hp → Prop) (us : List Value) (s' : Shared) : Prop := ∃ vs H', Inv X pins σ H' s' ∧ Vals vs us ∧ Q vs H'
noncomputable def SP (X : Cx) (pins : List (Addr × Obj)) (D : Ends) (f : Flow) (s' : Shared) : Prop :=
  match f with
  | .next => ∃ σ' H', Inv X pins σ' H' s' ∧ D.nx σ' H'
  | .brk => ∃ σ' H', Inv X pins σ' H' s' ∧ D.bk σ' H'
  | .cont => ∃ σ' H', Inv X pins σ' H' s' ∧ D.ct σ' H'
  | .ret u => ∃ v σ' H', Inv X pins σ' H' s' ∧ RelV v u ∧ D.rt v H'

noncomputable def PE (X : Cx) (e : Expr) (t : TE) : Prop :=
  ∀ (pins : List (Addr × Obj)) (s : Shared) (σ : St) (H : Hp) (Q : VK), Inv X pins σ H s → t σ H Q → wpAny (model X.prog X.w) X.A (eval e X.env) (EP X pins σ Q) X.xe s
noncomputable def PT (X : Cx) (e : Expr) (t : TT) : Prop :=
  ∀ (pins : List (Addr × Obj)) (s : Shared) (σ : St) (H : Hp) (Q : Bool → Hp → Prop), Inv X pins σ H s → t σ H Q → wpAny (model X.prog X.w) X.A (isTrue e X.env (eval e X.env)) (TP X pins σ Q) X.xe s
noncomputable def PW (X : Cx) (e : Expr) (t : TT) : Prop :=
  ∀ (whole : Sem Value) (pins : List (Addr × Obj)) (s : Shared) (σ : St) (H : Hp) (Q : Bool → Hp → Prop), Inv X pins σ H s → t σ H Q → wpAny (model X.prog X.w) X.A (isTrue e X.env whole) (TP X pins σ Q) X.xe s
theorem PW.pt {X : Cx} {e : Expr} {t : TT} (h : PW X e t) : PT X e t := h _
noncomputable def PA (X : Cx) (es : List Expr) (t : TA) : Prop :=
  ∀ (pos : Pos) (pins : List (Addr × Obj)) (s : Shared) (σ : St) (H : Hp) (Q : List V → Hp → Prop), Inv X pins σ H s → t σ H Q → wpAny (model X.prog X.w) X.A (spliced (backTo pos (starEach es X.env))) (AP X pins σ Q) X.xe s
noncomputable def PS (X : Cx) (st : Stmt) (t : TS) : Prop :=
  ∀ (pins : List (Addr × Obj)) (s : Shared) (σ : St) (H : Hp) (D : Ends), Inv X pins σ H s → t D σ H → wpAny (model X.prog X.w) X.A (exec st X.env) (SP X pins D) X.xe s
noncomputable def PSs (X : Cx) (st : List Stmt) (t : TS) : Prop :=
  ∀ (pins : List (Addr × Obj)) (s : Shared) (σ : St) (H : Hp) (D : Ends), Inv X pins σ H s → t D σ H → wpAny (model X.prog X.w) X.A (execs st X.env) (SP X pins D) X.xe s
theorem thn {α : Type} {t : Sem α} {Q Q' : α → Shared → Prop} {M : Model} {A : Around} {E : Value → Shared → Prop} {s : Shared} (h : wpAny M A t Q E s) (hQ : ∀ a s, Q a s → Q' a s) : wpAny M A t Q' E s := wpAny_mono h hQ fun _ _ x => x
end L2

namespace L2
open PySem PySem.Spec PyProof.Rows
section
variable {X : Cx}

noncomputable def tVar (i : Nat) : TE := fun σ H Q => ExQ Q (fun v Q => σ[i]? = some (some v) ∧ Q v H)
noncomputable def tC (v : V) : TE := fun _ H Q => Q v H
theorem pe_var {i : Nat} {x : Str} {pos : Pos} (hN : X.N[i]? = some x) (hv : Vis X.env.scope x) (hd : (x == ("__debug__" : Str)) = false := by decide) (hcd : (x == ("__classdict__" : Str)) = false := by decide) : PE X (.Name x pos) (tVar i) := by
  intro pins s σ H Q I h
  obtain ⟨v, e, h⟩ := h
  obtain ⟨m, hn, hl⟩ := I.loc
  obtain ⟨u, r, l⟩ := hl i x v hN e hv
  have fin : EP X pins σ Q u s := ⟨v, H, I, r, h⟩
  rcases l with ⟨hk, hm⟩ | ⟨hk, c, hc, hcell⟩
  · exact wpAny_Name (wpAny_loadName_local I.ok.kind hk hn hm fin) hd
  · rcases hk with hk | hk
    · exact wpAny_Name (wpAny_loadName_cell I.ok.kind hk hc hcell fin) hd
    · exact wpAny_Name (wpAny_loadName_free I.ok.kind hk hc hcell fin hcd) hd
theorem pe_int {i j pos} : PE X (.Constant (.int i) j pos) (tC (.int i)) := fun _ _ _ H _ I h => wpAny_Constant_int ⟨.int i, H, I.tok _, ⟨_, rfl⟩, h⟩
theorem pe_bl {b j pos} : PE X (.Constant (.bool b) j pos) (tC (.bl b)) := fun _ _ _ H _ I h => Constant_bool ⟨.bl b, H, I, rfl, h⟩
theorem pe_non {j pos} : PE X (.Constant .none j pos) (tC .non) := fun _ _ _ H _ I h => Constant_none ⟨.non, H, I, rfl, h⟩
theorem pe_str {x j pos} : PE X (.Constant (.str x) j pos) (tC (.str x)) := fun _ _ _ H _ I h => Calls.Constant_str ⟨.str x, H, I.tok _, ⟨_, rfl⟩, h⟩

noncomputable def Gl (X : Cx) (x : Str) : Prop := X.env.kindOf x = some .globalImplicit
theorem ld_glob {E : Value → Shared → Prop} {pins : List (Addr × Obj)} {s : Shared} {σ : St} {H : Hp} {x : Str} {u : Value} {pos : Pos} {Q : Value → Shared → Prop} (I : Inv X pins σ H s) (hg : Gl X x) (hm : X.mg x = some u) (h : Q u s)
    (hd : (x == ("__debug__" : Str)) = false := by decide) : wpAny (model X.prog X.w) X.A (eval (.Name x pos) X.env) Q E s :=
  Calls.Name_function_global I.ok.kind hg (Calls.loadGlobal_global (by rw [I.ok.glob]; exact I.mod.glob.keeps I.bk) hm h) hd
theorem ld_blt {E : Value → Shared → Prop} {pins : List (Addr × Obj)} {s : Shared} {σ : St} {H : Hp} {x : Str} {u : Value} {pos : Pos} {Q : Value → Shared → Prop} (I : Inv X pins σ H s) (hg : Gl X x) (hm : X.mg x = none) (hv : bootBuiltins x = some u) (h : Q u s)
    (hn : x ≠ "__name__" := by decide) (hd : (x == ("__debug__" : Str)) = false := by decide) : wpAny (model X.prog X.w) X.A (eval (.Name x pos) X.env) Q E s := by
  obtain ⟨mb, h1, h2⟩ := I.mod.blt
  exact Calls.Name_function_global I.ok.kind hg (Calls.loadGlobal_builtin (by rw [I.ok.glob]; exact I.mod.glob.keeps I.bk) hm (by rw [I.ok.blt]; exact h1.keeps I.bk) ((h2 x hn).trans hv) h) hd
theorem pe_glob {x : Str} {v : V} {u : Value} {pos : Pos} (hg : Gl X x) (hm : X.mg x = some u) (r : RelV v u) (hd : (x == ("__debug__" : Str)) = false := by decide) : PE X (.Name x pos) (tC v) :=
  fun _ _ _ H _ I h => ld_glob I hg hm ⟨v, H, I, r, h⟩ hd
theorem pe_bltn {x : Str} {v : V} {u : Value} {pos : Pos} (hg : Gl X x) (hm : X.mg x = none) (hv : bootBuiltins x = some u) (r : RelV v u) (hn : x ≠ "__name__" := by decide) (hd : (x == ("__debug__" : Str)) = false := by decide) : PE X (.Name x pos) (tC v) :=
  fun _ _ _ H _ I h => ld_blt I hg hm hv ⟨v, H, I, r, h⟩ hn hd

noncomputable def t2I (ta tb : TE) (k : Int → Int → Hp → Prop) : St → Hp → Prop := fun σ H => ta σ H fun x H1 => tb σ H1 fun y H2 => ∃ i j, x = .int i ∧ y = .int j ∧ k i j H2
variable {a b : Expr} {ta tb : TE} {pos : Pos}
noncomputable def PC (X : Cx) (op : CmpOp) (a b : Expr) (t : TE) : Prop :=
  ∀ (pins : List (Addr × Obj)) (s : Shared) (σ : St) (H : Hp) (Q : VK), Inv X pins σ H s → t σ H Q →
    wpAny (model X.prog X.w) X.A (eval a X.env) (fun v s₁ => wpAny (model X.prog X.w) X.A (eval b X.env) (fun u s₂ => wpAny (model X.prog X.w) X.A (compareOp op v u) (EP X pins σ Q) X.xe s₂) X.xe s₁) X.xe s
theorem nobehind (b : Expr) {op : CmpOp} (h : op ≠ .In) (h2 : op ≠ .NotIn) : behindInMarks op b = false := by
  have e1 : (op == CmpOp.In) = false := by cases op <;> first | rfl | exact absurd rfl h
  have e2 : (op == CmpOp.NotIn) = false := by cases op <;> first | rfl | exact absurd rfl h2
  cases b <;> simp [behindInMarks, e1, e2]
noncomputable def tCmp (p : Int → Int → Bool) (ta tb : TE) : TE := fun σ H Q => t2I ta tb (fun i j H2 => Q (.bl (p i j)) H2) σ H
noncomputable abbrev tLe : TE → TE → TE := tCmp fun i j => decide (i ≤ j)
noncomputable def tB (t : TE) : TT := fun σ H Q => t σ H fun x H1 => ExQ Q (fun c Q => x = .bl c ∧ Q c H1)
theorem pe_cmp {op : CmpOp} {t : TE} (h : PC X op a b t) (h1 : behindInMarks op b = false := by first | exact nobehind _ (by decide) (by decide) | rfl) : PE X (.Compare a [op] [b] pos) t := fun pins s σ H Q I hw => wpAny_Compare1 (h pins s σ H Q I hw) h1
theorem pt_cmp {op : CmpOp} {t : TE} (h : PC X op a b t) (h1 : behindInMarks op b = false := by first | exact nobehind _ (by decide) (by decide) | rfl) : PT X (.Compare a [op] [b] pos) (tB t) := by
  intro pins s σ H Q I hw
  refine wpAny_isTrue_Compare1 (thn (h pins s σ H _ I hw) fun v s1 h1 => thn h1 fun u s2 h2 => thn h2 fun c s3 hpat => ?_) h1
  obtain ⟨x, H1, I1, r1, q1⟩ := hpat
  obtain ⟨d, rfl, q⟩ := q1
  cases r1
  exact wpAny_truthy_bool ⟨H1, I1, q⟩
theorem pt_val {e : Expr} {t : TE} (h : PE X e t) (he : ∀ whole, isTrue e X.env whole = (do let v ← whole; standAt e.pos; holding [v] (truthy v)) := by intro _; rfl) : PT X e (tB t) := by
  intro pins s σ H Q I hw
  refine isTrue_plain (thn (h pins s σ H _ I hw) fun v s1 hpat => ?_) (he _)
  obtain ⟨x, H1, I1, r1, q1⟩ := hpat
  obtain ⟨d, rfl, q⟩ := q1
  cases r1
  exact wpAny_truthy_bool ⟨H1, I1, q⟩

variable {tA tB' : TT} {rest : List Expr}
noncomputable def tAnd (t u : TT) : TT := fun σ H Q => t σ H fun c H1 => if c = true then u σ H1 Q else Q false H1
noncomputable def tOr (t u : TT) : TT := fun σ H Q => t σ H fun c H1 => if c = true then Q true H1 else u σ H1 Q
noncomputable def tNot (t : TT) : TT := fun σ H Q => t σ H fun c H1 => Q (!c) H1
theorem pw_and1 (ha : PT X a tA) : PW X (.BoolOp .And [a] pos) tA := by
  intro wh pins s σ H Q I h
  refine isTrue_and (thn (ha pins s σ H Q I h) fun c s1 e => ?_)
  cases c with
  | true => exact isTrue_and_nil e
  | false => exact e
theorem pw_or1 (ha : PT X a tA) : PW X (.BoolOp .Or [a] pos) tA := by
  intro wh pins s σ H Q I h
  refine isTrue_or (thn (ha pins s σ H Q I h) fun c s1 e => ?_)
  cases c with
  | false => exact isTrue_or_nil e
  | true => exact e
theorem pw_and (ha : PT X a tA) (hb : PW X (.BoolOp .And (b :: rest) pos) tB') : PW X (.BoolOp .And (a :: b :: rest) pos) (tAnd tA tB') := by
  intro wh pins s σ H Q I h
  refine isTrue_and (thn (ha pins s σ H _ I h) fun c s1 hpat => ?_)
  obtain ⟨H1, I1, q1⟩ := hpat
  cases c with
  | true => exact hb wh pins s1 σ H1 Q I1 q1
  | false => exact ⟨H1, I1, q1⟩
theorem pw_or (ha : PT X a tA) (hb : PW X (.BoolOp .Or (b :: rest) pos) tB') : PW X (.BoolOp .Or (a :: b :: rest) pos) (tOr tA tB') := by
  intro wh pins s σ H Q I h
  refine isTrue_or (thn (ha pins s σ H _ I h) fun c s1 hpat => ?_)
  obtain ⟨H1, I1, q1⟩ := hpat
  cases c with
  | true => exact ⟨H1, I1, q1⟩
  | false => exact hb wh pins s1 σ H1 Q I1 q1
theorem pt_not (ha : PT X a tA) : PT X (.UnaryOp .Not a pos) (tNot tA) := by
  intro pins s σ H Q I h
  exact isTrue_not (ha pins s σ H (fun c H1 => Q (!c) H1) I h)
noncomputable def tAndV (ta tb : TE) : TE := fun σ H Q => ta σ H fun x H1 => ExQ Q (fun c Q => x = .bl c ∧ if c = true then tb σ H1 Q else Q (.bl false) H1)
noncomputable def tNotV (ta : TE) : TE := fun σ H Q => ta σ H fun x H1 => ExQ Q (fun c Q => x = .bl c ∧ Q (.bl (!c)) H1)
theorem pe_one {op} {t : TE} (h : PE X a t) : PE X (.BoolOp op [a] pos) t := fun pins s σ H Q I hw => BoolOp_one (h pins s σ H Q I hw)
theorem pe_and (ha : PE X a ta) (hb : PE X (.BoolOp .And (b :: rest) pos) tb) : PE X (.BoolOp .And (a :: b :: rest) pos) (tAndV ta tb) := by
  intro pins s σ H Q I h
  refine BoolOp_and (thn (ha pins s σ H _ I h) fun v s1 hpat => ?_)
  obtain ⟨x, H1, I1, r1, q1⟩ := hpat
  obtain ⟨c, rfl, q1⟩ := q1
  cases r1
  refine wpAny_truthy_bool ?_
  cases c with
  | true => exact hb pins s1 σ H1 Q I1 q1
  | false => exact ⟨.bl false, H1, I1, rfl, q1⟩
theorem pe_not (ha : PE X a ta) : PE X (.UnaryOp .Not a pos) (tNotV ta) := by
  intro pins s σ H Q I h
  refine UnaryOp_ (thn (ha pins s σ H _ I h) fun v s1 hpat => ?_)
  obtain ⟨x, H1, I1, r1, q1⟩ := hpat
  obtain ⟨c, rfl, q1⟩ := q1
  cases r1
  exact not_of (wpAny_truthy_bool ⟨.bl (!c), H1, I1, rfl, q1⟩)
end
end L2

namespace L2
open PySem PySem.Spec PyProof.Rows

noncomputable def SqL (K : PySem.W.Frag) (H : Hp) (a : Addr) (xs : List V) : Prop :=
  Rd H a (.lst xs) ∨
    ∃ (o : Obj) (its : Array Value) (n : Nat), K.lookup a = some o ∧ o.cls = .type "list" ∧ o.dict = none ∧ o.data = .seq its n ∧ its.size ≤ sizeLine ∧ Vals xs its.toList
noncomputable def SqT (K : PySem.W.Frag) (H : Hp) (a : Addr) (xs : List V) : Prop :=
  Rd H a (.tup xs) ∨
    ∃ (o : Obj) (its : Array Value) (n : Nat), K.lookup a = some o ∧ o.cls = .type "tuple" ∧ o.data = .seq its n ∧ its.size ≤ sizeLine ∧ Vals xs its.toList
noncomputable def absV : Value → Option V
  | .none => some .non
  | .bool b => some (.bl b)
  | .int i _ => some (.int i)
  | .str x _ => some (.str x)
  | .bytes b _ => some (.byt b)
  | .float b _ => some (.flt b)
  | .ref a => some (.ref a)
  | .type n => some (.ty n)
  | _ => none
theorem RelV.abs {x : V} {u : Value} (r : RelV x u) : absV u = some x := by
  cases x with
  | non => cases r; rfl
  | bl _ => cases r; rfl
  | int _ => obtain ⟨t, rfl⟩ := r; rfl
  | str _ => obtain ⟨t, rfl⟩ := r; rfl
  | byt _ => obtain ⟨t, rfl⟩ := r; rfl
  | flt _ => obtain ⟨t, rfl⟩ := r; rfl
  | ref _ => cases r; rfl
  | ty _ => cases r; rfl
theorem RelV.inj {x y : V} {u : Value} (r : RelV x u) (q : RelV y u) : x = y := Option.some.inj (r.abs.symm.trans q.abs)
theorem Vals.inj : ∀ {xs ys : List V} {us : List Value}, Vals xs us → Vals ys us → xs = ys
  | _, _, _, .nil, .nil => rfl
  | _, _, _, .cons r t, .cons r' t' => by rw [r.inj r', Vals.inj t t']
section
variable {X : Cx} {pins : List (Addr × Obj)} {σ : St} {H : Hp} {s : Shared} {a : Addr} {xs ys : List V}
theorem SqL.of {K : PySem.W.Frag} (h : H a = some (.lst xs)) : SqL K H a xs := .inl (.inl h)
theorem SqT.of {K : PySem.W.Frag} (h : H a = some (.tup xs)) : SqT K H a xs := .inl (.inl h)
theorem Inv.list (I : Inv X pins σ H s) (h : SqL X.K H a xs) : ∃ its : List Value, Vals xs its ∧ PlainL s.heap a its.toArray ∧ xs.length ≤ sizeLine := by
  rcases h with h | ⟨o, its, n, hk, hc, hd, hs, hz, r⟩
  · obtain ⟨z, its, n, r, e⟩ := h.ok I.hok
    exact ⟨its, r, ⟨_, n, e, rfl, rfl, rfl⟩, z⟩
  · refine ⟨its.toList, r, ⟨o, n, I.kIn a o hk, hc, hd, by simpa using hs⟩, ?_⟩
    have e := r.length
    simp only [Array.length_toList] at e
    omega
theorem Inv.tuple (I : Inv X pins σ H s) (h : SqT X.K H a xs) : ∃ its : List Value, Vals xs its ∧ IsTup s.heap a its.toArray ∧ xs.length ≤ sizeLine := by
  rcases h with h | ⟨o, its, n, hk, hc, hs, hz, r⟩
  · obtain ⟨z, its, r, p⟩ := h.ok I.hok
    exact ⟨its, r, p, z⟩
  · refine ⟨its.toList, r, ⟨o, I.kIn a o hk, hc, n, by simpa using hs⟩, ?_⟩
    have e := r.length
    simp only [Array.length_toList] at e
    omega
theorem Inv.list_inj (I : Inv X pins σ H s) (h : SqL X.K H a xs) (h' : SqL X.K H a ys) : xs = ys := by
  obtain ⟨its, r, ⟨o, n, e, _, _, d⟩, _⟩ := I.list h
  obtain ⟨its', r', ⟨o', n', e', _, _, d'⟩, _⟩ := I.list h'
  rw [e] at e'; cases e'
  rw [d] at d'
  injection d' with d1 _
  have : its = its' := by simpa using congrArg Array.toList d1
  subst this
  exact r.inj r'
theorem Inv.tuple_inj (I : Inv X pins σ H s) (h : SqT X.K H a xs) (h' : SqT X.K H a ys) : xs = ys := by
  obtain ⟨its, r, ⟨o, e, _, n, d⟩, _⟩ := I.tuple h
  obtain ⟨its', r', ⟨o', e', _, n', d'⟩, _⟩ := I.tuple h'
  rw [e] at e'; cases e'
  rw [d] at d'
  injection d' with d1 _
  have : its = its' := by simpa using congrArg Array.toList d1
  subst this
  exact r.inj r'
end

noncomputable abbrev Cx.wish (X : Cx) (E : Value → Shared → Prop) : Cx := { X with xe := E }
noncomputable abbrev Cx.nox (X : Cx) : Cx := X.wish fun _ _ => False
theorem Cx.Ok.wish {X : Cx} (ok : X.Ok) (E : Value → Shared → Prop) : (X.wish E).Ok :=
  ⟨ok.mod, ok.kind, ok.glob, ok.blt, ok.above, ok.inj, ok.has, ok.cab, ok.hd, ok.frames, ok.stk, ok.exf, ok.bs, ok.bsz, ok.noex, ok.exfs, ok.funs, ok.frf⟩
theorem Cx.Ok.unwish {X : Cx} {E : Value → Shared → Prop} (ok : (X.wish E).Ok) : X.Ok :=
  ⟨ok.mod, ok.kind, ok.glob, ok.blt, ok.above, ok.inj, ok.has, ok.cab, ok.hd, ok.frames, ok.stk, ok.exf, ok.bs, ok.bsz, ok.noex, ok.exfs, ok.funs, ok.frf⟩
section
variable {X : Cx} {pins : List (Addr × Obj)} {σ : St} {H : Hp} {s : Shared} {E : Value → Shared → Prop}
theorem Inv.wish (I : Inv X pins σ H s) (E : Value → Shared → Prop) : Inv (X.wish E) pins σ H s := ⟨I.ok.wish E, I.os, I.bare, I.base, I.loc, I.cell, I.free, I.freeC, I.pin, I.hok, I.len⟩
theorem Inv.unwish (I : Inv (X.wish E) pins σ H s) : Inv X pins σ H s := ⟨I.ok.unwish, I.os, I.bare, I.base, I.loc, I.cell, I.free, I.freeC, I.pin, I.hok, I.len⟩
theorem SP.unwish {D : Ends} {f : Flow} {s' : Shared} (h : SP (X.wish E) pins D f s') : SP X pins D f s' := by
  cases f with
  | next => obtain ⟨σ', H', I, q⟩ := h; exact ⟨σ', H', I.unwish, q⟩
  | brk => obtain ⟨σ', H', I, q⟩ := h; exact ⟨σ', H', I.unwish, q⟩
  | cont => obtain ⟨σ', H', I, q⟩ := h; exact ⟨σ', H', I.unwish, q⟩
  | ret u => obtain ⟨v, σ', H', I, r, q⟩ := h; exact ⟨v, σ', H', I.unwish, r, q⟩
theorem PE.nox {e : Expr} {t : TE} (h : PE X.nox e t) : PE X e t := fun pins s σ H Q I hw =>
  wpAny_mono (h pins s σ H Q (I.wish _) hw) (fun _ _ hp2 => by obtain ⟨v, H', I', r, q⟩ := hp2; exact ⟨v, H', I'.unwish, r, q⟩) fun _ _ z => False.elim z
theorem PT.nox {e : Expr} {t : TT} (h : PT X.nox e t) : PT X e t := fun pins s σ H Q I hw =>
  wpAny_mono (h pins s σ H Q (I.wish _) hw) (fun _ _ hp2 => by obtain ⟨H', I', q⟩ := hp2; exact ⟨H', I'.unwish, q⟩) fun _ _ z => False.elim z
theorem PSs.nox {st : List Stmt} {t : TS} (h : PSs X.nox st t) : PSs X st t := fun pins s σ H D I hw =>
  wpAny_mono (h pins s σ H D (I.wish _) hw) (fun _ _ q => q.unwish) fun _ _ z => False.elim z
end

section
variable {X : Cx} {st : Stmt} {rest : List Stmt} {t u : TS} {e : Expr} {te : TE} {pos : Pos}
noncomputable def tNext : TS := fun D σ H => D.nx σ H
noncomputable def tSeq (t u : TS) : TS := fun D σ H => t { D with nx := u D } σ H
theorem pss_nil : PSs X [] tNext := fun _ _ σ H _ I h => wpAny_execs_nil ⟨σ, H, I, h⟩
theorem pss_cons (h1 : PS X st t) (h2 : PSs X rest u) : PSs X (st :: rest) (tSeq t u) := by
  intro pins s σ H D I h
  refine wpAny_execs_cons (thn (h1 pins s σ H { D with nx := u D } I h) fun f s1 q => ?_)
  cases f with
  | next =>
    obtain ⟨σ', H', I', q⟩ := q
    exact h2 pins s1 σ' H' D I' q
  | ret v => exact q
  | brk => exact q
  | cont => exact q
theorem pss_one (h1 : PS X st t) : PSs X [st] t := by
  intro pins s σ H D I h
  refine wpAny_execs_cons (thn (h1 pins s σ H D I h) fun f s1 q => ?_)
  cases f with
  | next => exact wpAny_execs_nil q
  | ret v => exact q
  | brk => exact q
  | cont => exact q
theorem Inv.quiet {pins : List (Addr × Obj)} {σ : St} {H : Hp} {s : Shared} (I : Inv X pins σ H s) : interactive X.env = false := by simp [interactive, I.ok.kind]
noncomputable def tDrop (te : TE) : TS := fun D σ H => te σ H fun _ H1 => D.nx σ H1
theorem ps_expr (he : PE X e te) (hs : swapsWith e none pos.line X.env = pure false := by rfl) : PS X (.Expr e pos) (tDrop te) := by
  intro pins s σ H D I h
  exact wpAny_Expr_any (thn (he pins s σ H _ I h) fun v s1 hp2 => by obtain ⟨x, H1, I1, r1, q1⟩ := hp2; exact ⟨σ, H1, I1, q1⟩) I.quiet hs
noncomputable def tRet (te : TE) : TS := fun D σ H => te σ H D.rt
theorem ps_ret (he : PE X e te) : PS X (.Return (some e) pos) (tRet te) := by
  intro pins s σ H D I h
  exact wpAny_Return_some (thn (he pins s σ H _ I h) fun v s1 hp2 => by obtain ⟨x, H1, I1, r1, q1⟩ := hp2; exact ⟨x, σ, H1, I1, r1, q1⟩)
noncomputable def tIfS (c : TT) (t u : TS) : TS := fun D σ H => c σ H fun b H1 => if b = true then t D σ H1 else u D σ H1
theorem ps_if {c : Expr} {a b : List Stmt} {tc : TT} (hc : PT X c tc) (ha : PSs X a t) (hb : PSs X b u) : PS X (.If c a b pos) (tIfS tc t u) := by
  intro pins s σ H D I h
  refine wpAny_If (thn (hc pins s σ H _ I h) fun d s1 hpat => ?_)
  obtain ⟨H1, I1, q1⟩ := hpat
  cases d with
  | true => exact ha pins s1 σ H1 D I1 q1
  | false => exact hb pins s1 σ H1 D I1 q1
end

noncomputable abbrev TG := V → St → Hp → (St → Hp → Prop) → Prop
noncomputable abbrev TGs := List V → St → Hp → (St → Hp → Prop) → Prop
noncomputable def PG (X : Cx) (target : Expr) (t : TG) : Prop :=
  ∀ (pins : List (Addr × Obj)) (s : Shared) (σ : St) (H : Hp) (v : V) (u : Value) (Q : St → Hp → Prop), Inv X pins σ H s → RelV v u → t v σ H Q →
    wpAny (model X.prog X.w) X.A (assign target X.env u) (fun _ s' => ∃ σ' H', Inv X pins σ' H' s' ∧ Q σ' H') X.xe s
noncomputable def PGs (X : Cx) (ts : List Expr) (t : TGs) : Prop :=
  ∀ (pins : List (Addr × Obj)) (s : Shared) (σ : St) (H : Hp) (vs : List V) (us : List Value) (Q : St → Hp → Prop), Inv X pins σ H s → Vals vs us → t vs σ H Q →
    wpAny (model X.prog X.w) X.A (assignInOrder ((assignEach ts X.env).map (·.2)) us) (fun _ s' => ∃ σ' H', Inv X pins σ' H' s' ∧ Q σ' H') X.xe s
noncomputable abbrev TIp := V → V → Hp → VK → Prop
noncomputable def PIp (X : Cx) (op : Operator) (t : TIp) : Prop :=
  ∀ (pins : List (Addr × Obj)) (s : Shared) (σ : St) (H : Hp) (x y : V) (v u : Value) (Q : VK), Inv X pins σ H s → RelV x v → RelV y u → t x y H Q →
    wpAny (model X.prog X.w) X.A (inplaceOp op v u) (EP X pins σ Q) X.xe s
section
variable {X : Cx} {pos : Pos}
noncomputable def gName (i : Nat) : TG := fun v σ H Q => Q (σ.set i (some v)) H
theorem pg_name {i : Nat} {x : Str} (hN : X.N.Nodup) (hi : X.N[i]? = some x) (hx : Loc X.env.scope x) (hf : X.fn x = true ∨ X.env.scope.names.lookup x = some .local := by first | exact .inl rfl | exact .inr rfl | assumption) : PG X (.Name x pos) (gName i) := by
  intro pins s σ H v u Q I r h
  exact wpAny_assign_Name (store_ok I hN hi hx r (fun s' I' => ⟨_, H, I', h⟩) hf)
noncomputable def gNil : TGs := fun vs σ H Q => vs = [] ∧ Q σ H
noncomputable def gCons (t : TG) (u : TGs) : TGs := fun vs σ H Q => ExQ Q (fun v Q => ExQ Q (fun r Q => vs = v :: r ∧ t v σ H fun σ' H' => u r σ' H' Q))
theorem pgs_nil : PGs X [] gNil := by
  intro pins s σ H vs us Q I r h
  obtain ⟨e, h⟩ := h
  subst e
  cases r
  exact assignInOrder_nil ⟨σ, H, I, h⟩
theorem pgs_cons {e : Expr} {es : List Expr} {t : TG} {u : TGs} (h1 : PG X e t) (h2 : PGs X es u)
    (hs : (assignEach (e :: es) X.env).map (·.2) = assign e X.env :: (assignEach es X.env).map (·.2) := by rfl) : PGs X (e :: es) (gCons t u) := by
  intro pins s σ H vs us Q I r h
  obtain ⟨v, vr, e1, h⟩ := h
  subst e1
  cases r with
  | cons r rr =>
    rw [hs]
    refine assignInOrder_cons (thn (h1 pins s σ H _ _ _ I r h) fun _ s1 hpat => ?_)
    obtain ⟨σ1, H1, I1, q1⟩ := hpat
    exact h2 pins s1 σ1 H1 _ _ Q I1 rr q1
noncomputable def gTup (K : PySem.W.Frag) (n : Nat) (t : TGs) : TG := fun v σ H Q => ExQ Q (fun a Q => ExQ Q (fun xs Q => v = .ref a ∧ SqT K H a xs ∧ xs.length = n ∧ t xs σ H Q))
theorem pg_tup {es : List Expr} {k : Nat} {t : TGs} {n : Nat} (hc : X.calm = true) (h : PGs X es t)
    (hn : (assignEach es X.env).length = n := by rfl) (hst : (assignEach es X.env).findIdx? (·.1) = none := by rfl) : PG X (.Tuple es k pos) (gTup X.K n t) := by
  intro pins s σ H v u Q I r hw
  obtain ⟨a, xs, e1, hq, hl, hw⟩ := hw
  subst e1
  cases r
  obtain ⟨its, rv, ht, hz⟩ := I.tuple hq
  refine assign_Tuple_tuple (I.ok.hd hc) ht (by simp [hn, ← hl, rv.length]) hst fun h' hx => ?_
  have I1 : Inv X pins σ H { s with heap := h' } := I.kept (t' := s.toks) fun b o e => hx b o (Nat.ne_of_lt (Heap.lt_size e)) e
  exact h pins _ σ H xs _ Q I1 (by simpa using rv) hw
noncomputable def tAsg (te : TE) (g : TG) : TS := fun D σ H => te σ H fun x H1 => g x σ H1 D.nx
theorem ps_asg {tg e : Expr} {te : TE} {g : TG} (he : PE X e te) (hg : PG X tg g) (hs : swapsWithSole [tg] e pos.line X.env = pure false := by rfl) (hw : swappedStores [tg] e X.env = pure none := by rfl)
    (h1 : (assignEach [tg] X.env).map (·.2) = [assign tg X.env] := by rfl) : PS X (.Assign [tg] e pos) (tAsg te g) := by
  intro pins s σ H D I h
  refine wpAny_Assign_stores (thn (he pins s σ H _ I h) fun v s1 hpat => ?_) hs hw
  obtain ⟨x, H1, I1, r1, q1⟩ := hpat
  rw [h1]
  exact thn (hg pins s1 σ H1 x v _ I1 r1 q1) fun _ s2 q => q
theorem ps_set {i : Nat} {x : Str} {e : Expr} {te : TE} {pos' : Pos} (hN : X.N.Nodup) (hi : X.N[i]? = some x) (hx : Loc X.env.scope x) (he : PE X e te) (hs : swapsWith e (some (.Name x pos')) pos.line X.env = pure false := by rfl) (hf : X.fn x = true ∨ X.env.scope.names.lookup x = some .local := by first | exact .inl rfl | exact .inr rfl | assumption) :
    PS X (.Assign [.Name x pos'] e pos) (tAsg te (gName i)) := by
  intro pins s σ H D I h
  refine wpAny_Assign_Name (thn (he pins s σ H _ I h) fun v s1 hpat => ?_) hs
  obtain ⟨y, H1, I1, r1, q1⟩ := hpat
  exact store_ok I1 hN hi hx r1 (fun s2 I2 => ⟨_, H1, I2, q1⟩) hf
noncomputable def tAug (i : Nat) (te : TE) (ti : TIp) : TS := fun D σ H => ExQ D (fun x D => σ[i]? = some (some x) ∧ te σ H fun y H1 => ti x y H1 fun z H2 => D.nx (σ.set i (some z)) H2)
theorem ps_aug {i : Nat} {x : Str} {e : Expr} {te : TE} {op : Operator} {ti : TIp} {pos' : Pos} (hN : X.N.Nodup) (hi : X.N[i]? = some x) (hx : Loc X.env.scope x) (he : PE X e te) (ho : PIp X op ti) (hf : X.fn x = true ∨ X.env.scope.names.lookup x = some .local := by first | exact .inl rfl | exact .inr rfl | assumption) :
    PS X (.AugAssign (.Name x pos') op e pos) (tAug i te ti) := by
  intro pins s σ H D I h
  obtain ⟨v, e1, h⟩ := h
  obtain ⟨m, hn, hl⟩ := I.loc
  have vis : Vis X.env.scope x := by rcases hx with k | k; exact .inl k; exact .inr (.inl k)
  obtain ⟨u, r, l⟩ := hl i x v hi e1 vis
  refine wpAny_AugAssign_Name ?_
  have go : wpAny (model X.prog X.w) X.A (eval e X.env) (fun w s₂ => wpAny (model X.prog X.w) X.A (inplaceOp op u w) (fun r s₃ => wpAny (model X.prog X.w) X.A (storeName X.env x r) (fun _ => SP X pins D .next) X.xe s₃) X.xe s₂) X.xe s := by
    refine thn (he pins s σ H _ I h) fun w s1 hpat => ?_
    obtain ⟨y, H1, I1, r1, q1⟩ := hpat
    refine thn (ho pins s1 σ H1 v y u w _ I1 r r1 q1) fun z s2 hpat => ?_
    obtain ⟨zv, H2, I2, r2, q2⟩ := hpat
    exact store_ok I2 hN hi hx r2 (fun s3 I3 => ⟨_, H2, I3, q2⟩) hf
  rcases l with ⟨hk, hm⟩ | ⟨hk, c, hc, hcell⟩
  · exact wpAny_loadName_local I.ok.kind hk hn hm go
  · rcases hk with hk | hk
    · exact wpAny_loadName_cell I.ok.kind hk hc hcell go
    · rcases hx with k | k
      · have : X.env.scope.names.lookup x = some .free := hk
        rw [k] at this; cases this
      · have : X.env.scope.names.lookup x = some .free := hk
        rw [k] at this; cases this
end

section
variable {X : Cx} {pos : Pos}
noncomputable def tWhile (c : TT) (tb : TS) : TS := fun D σ H => ∃ W : Nat → St → Hp → Prop, (∃ m, W m σ H) ∧ ∀ m σ H, W m σ H →
  c σ H fun b H1 => if b = true then ∃ N : St → Hp → Prop, (∀ σ' H', N σ' H' → ∃ m', m' < m ∧ W m' σ' H') ∧ tb { D with nx := N, ct := N, bk := D.nx } σ H1 else D.nx σ H1
theorem ps_while {c : Expr} {body : List Stmt} {tc : TT} {tb : TS} (hp : PassesOwn (model X.prog X.w) X.A X.env X.xe) (hc : PT X c tc) (hb : PSs X body tb) : PS X (.While c body [] pos) (tWhile tc tb) := by
  intro pins s σ H D I h
  obtain ⟨W, ⟨m0, w0⟩, turn⟩ := h
  refine wpAny_While (codeAny_whileLoop (fun n s' => ∃ σ' H', Inv X pins σ' H' s' ∧ W n σ' H') ?_ m0 ⟨σ, H, I, w0⟩)
  rintro n s1 ⟨σ1, H1, I1, w1⟩
  refine wpAny_passesOwn hp (thn (hc pins s1 σ1 H1 _ I1 (turn n σ1 H1 w1)) fun b s2 hpat => ?_)
  obtain ⟨H2, I2, q2⟩ := hpat
  cases b with
  | true =>
    obtain ⟨N, hN, q2⟩ := q2
    rw [if_pos rfl]
    refine wpAny_passesOwn hp (thn (hb pins s2 σ1 H2 _ I2 q2) fun f s3 q3 => ?_)
    cases f with
    | next =>
      obtain ⟨σ3, H3, I3, n3⟩ := q3
      obtain ⟨m', hm, w3⟩ := hN σ3 H3 n3
      exact ⟨m', hm, σ3, H3, I3, w3⟩
    | cont =>
      obtain ⟨σ3, H3, I3, n3⟩ := q3
      obtain ⟨m', hm, w3⟩ := hN σ3 H3 n3
      exact ⟨m', hm, σ3, H3, I3, w3⟩
    | brk => exact q3
    | ret v => exact q3
  | false =>
    rw [if_neg Bool.false_ne_true]
    exact wpAny_execs_nil ⟨σ1, H2, I2, q2⟩
end

structure It where
  go : Nat → Hp → Prop
  yld : Nat → Hp → V → Hp → Prop
  stop : Nat → Hp → Prop
noncomputable def FpOk (X : Cx) (pins : List (Addr × Obj)) (H : Hp) (b : Addr) : Prop :=
  H b = none ∧ b ≠ X.env.locals ∧ b ∉ X.fs ∧ (b ∈ X.ex ∨ X.s₀.heap.objs.size ≤ b) ∧ (∀ x c, X.env.cells.lookup x = some c → c ≠ b) ∧ ∀ p ∈ X.pn ++ pins, p.1 ≠ b
theorem Inv.fpOk {X : Cx} {pins : List (Addr × Obj)} {σ : St} {H H' : Hp} {s : Shared} {b : Addr} (I : Inv X pins σ H s) (hb : s.heap.objs.size ≤ b) (hn : H' b = none) : FpOk X pins H' b := by
  refine ⟨hn, Nat.ne_of_gt (Nat.lt_of_lt_of_le I.lt hb), I.nofs hb, .inr (Nat.le_trans I.sz hb), fun x c e z => ?_, fun p hp z => ?_⟩
  · obtain ⟨v, q⟩ := I.cell x c e
    exact absurd (Nat.lt_of_lt_of_le q.lt (by rw [z]; exact hb)) (Nat.lt_irrefl _)
  · exact absurd (Nat.lt_of_lt_of_le (Heap.lt_size (I.pin p hp).1) (by rw [z]; exact hb)) (Nat.lt_irrefl _)
structure Turn (P : Program) (w : World) (K : PySem.W.Frag) (tg : Expr) (J : It) (fp : List Addr) (it : Addr) (tn : Nat → Heap → Prop) : Prop where
  mem : it ∈ fp
  obj : ∀ i h, tn i h → ∀ b ∈ fp, ∃ o, h.get? b = some o ∧ ∀ v, o.data ≠ .cell v
  keep : ∀ i h h', tn i h → (∀ b ∈ fp, ∀ o, h.get? b = some o → h'.get? b = some o) → tn i h'
  item : ∀ (X : Cx), X.prog = P → X.w = w → X.K = K → X.calm = true → ∀ (i : Nat) (pins : List (Addr × Obj)) (s : Shared) (σ : St) (H : Hp) (E : Value → Shared → Prop), Inv X pins σ H s → (∀ b ∈ fp, FpOk X pins H b) → tn i s.heap → J.go i H →
    wpAny (model P w) X.A (pyNext (.ref it)) (fun r s1 => ∃ u, r = some u ∧
      wpAny (model P w) X.A (letOwnedTupleGo tg (.ref it) u) (fun _ s2 => ∃ x H', Inv X pins σ H' s2 ∧ RelV x u ∧ J.yld i H x H' ∧ tn (i + 1) s2.heap ∧ ∀ b ∈ fp, H' b = none) E s1) E s
  done : ∀ (X : Cx), X.prog = P → X.w = w → X.K = K → X.calm = true → ∀ (i : Nat) (pins : List (Addr × Obj)) (s : Shared) (σ : St) (H : Hp) (E : Value → Shared → Prop), Inv X pins σ H s → (∀ b ∈ fp, FpOk X pins H b) → tn i s.heap → J.stop i H →
    wpAny (model P w) X.A (pyNext (.ref it)) (fun r s1 => r = none ∧ Inv X pins σ H s1) E s
  self : ∀ (A : Around) (i : Nat) (s : Shared) (Q : Value → Shared → Prop) (E : Value → Shared → Prop), tn i s.heap → Q (.ref it) s → wpAny (model P w) A (pyIter (.ref it)) Q E s
noncomputable abbrev TI := St → Hp → (It → Hp → Prop) → Prop
noncomputable def PIE (X : Cx) (pins : List (Addr × Obj)) (σ : St) (tg : Expr) (R : It → Hp → Prop) (itv : Value) (s2 : Shared) : Prop :=
  ∃ (it : Addr) (fp : List Addr) (tn : Nat → Heap → Prop) (J : It) (H' : Hp), itv = .ref it ∧ Inv X pins σ H' s2 ∧ Turn X.prog X.w X.K tg J fp it tn ∧ tn 0 s2.heap ∧ (∀ b ∈ fp, FpOk X pins H' b) ∧ R J H'
noncomputable def PI (X : Cx) (tg iter : Expr) (wi : TI) : Prop :=
  ∀ (pins : List (Addr × Obj)) (s : Shared) (σ : St) (H : Hp) (R : It → Hp → Prop), Inv X pins σ H s → wi σ H R →
    wpAny (model X.prog X.w) X.A (eval iter X.env) (fun v s1 => wpAny (model X.prog X.w) X.A (pyIter v) (PIE X pins σ tg R) X.xe s1) X.xe s

theorem go_of {M : Model} {A : Around} {E : Value → Shared → Prop} {s : Shared} {tg : Expr} {it : Addr} {u : Value} {o : Obj} {n : String} {vs : Array Value} {Q : Unit → Shared → Prop} (ho : s.heap.get? it = some o) (hc : o.cls = .type n) (hd : o.data = .fields vs)
    (hn : ["enumerate", "zip", "dict_itemiterator", "dict_reverseitemiterator", "odict_iterator", "itertools.zip_longest", "itertools.pairwise"].contains n = false) (hQ : Q () s) : wpAny M A (letOwnedTupleGo tg (.ref it) u) Q E s := by
  unfold letOwnedTupleGo
  cases tg <;> first
    | exact wpAny_pure hQ
    | (cases u <;> first
        | exact wpAny_pure hQ
        | (refine wpAny_bind (wpAny_load ho ?_)
           rw [hc, hd]
           show wpAny M A (if (["enumerate", "zip", "dict_itemiterator", "dict_reverseitemiterator", "odict_iterator", "itertools.zip_longest", "itertools.pairwise"].contains n && vs[0]? == some (rawInt _)) = true then _ else _) Q E s
           rw [if_neg (by intro h; rw [hn, Bool.false_and] at h; cases h)]
           exact wpAny_pure hQ))

noncomputable def Itl (K : PySem.W.Frag) (a : Addr) : It :=
  ⟨fun i H => ∃ xs x, SqL K H a xs ∧ xs[i]? = some x, fun i H x H' => H' = H ∧ ∀ xs, SqL K H a xs → xs[i]? = some x, fun i H => ∃ xs, SqL K H a xs ∧ xs.length ≤ i⟩
noncomputable def Itr (lo : Int) (n : Nat) : It := ⟨fun i _ => i < n, fun i H x H' => H' = H ∧ x = .int (lo + i), fun i _ => n ≤ i⟩
theorem turn_list {P : Program} {w : World} {K : PySem.W.Frag} {tg : Expr} (a it : Addr) : Turn P w K tg (Itl K a) [it] it (fun i h => h.IsListIter it a i) where
  mem := by simp
  obj := fun i h st b hb => by
    have e : b = it := by simpa using hb
    subst e
    obtain ⟨o, e, c, d⟩ := st
    exact ⟨o, e, fun v z => by rw [d] at z; cases z⟩
  keep := fun i h h' st k => st.at fun o e => k it (by simp) o e
  item := by
    intro X hP hw hK hc i pins s σ H E I hf st hg
    subst hP hw hK
    obtain ⟨xs, x, hq, hx⟩ := hg
    obtain ⟨its, rv, p, hz⟩ := I.list hq
    obtain ⟨u, hu, ru⟩ := rv.get hx
    obtain ⟨f0, f1, f2, f3, f4, f5⟩ := hf it (by simp)
    refine wpAny_pyNext_list_item st p.isList (x := u) (by simpa using hu) fun h' st' sb => ?_
    have I1 : Inv X pins σ H { s with heap := h' } := I.turned (t' := s.toks) (fun b o hb e => (sb.2 b hb).trans e) f0 f1 f3 f4 f5
    obtain ⟨o, e, c, d⟩ := id st'
    exact ⟨u, rfl, go_of (s := { s with heap := h' }) e c d (by decide) ⟨x, H, I1, ru, ⟨rfl, fun ys hy => by rw [I.list_inj hy hq]; exact hx⟩, st', fun b hb => (hf b hb).1⟩⟩
  done := by
    intro X hP hw hK hc i pins s σ H E I hf st hg
    subst hP hw hK
    obtain ⟨xs, hq, hx⟩ := hg
    obtain ⟨its, rv, p, hz⟩ := I.list hq
    obtain ⟨f0, f1, f2, f3, f4, f5⟩ := hf it (by simp)
    have hl := rv.length
    exact wpAny_pyNext_list_end (I.ok.hd hc) st p.isList (by simp; omega) fun h' eb => ⟨rfl, I.turned (t' := s.toks) (fun b o hb e => eb b o hb e) f0 f1 f3 f4 f5⟩
  self := fun _ _ _ _ _ st h => wpAny_pyIter_listiter st h
theorem turn_range {P : Program} {w : World} {K : PySem.W.Frag} {tg : Expr} (it : Addr) (lo : Int) (n : Nat) : Turn P w K tg (Itr lo n) [it] it (fun i h => IsRangeIter h it (lo + (i : Nat) * 1) ((n : Int) - (i : Nat)) 1) where
  mem := by simp
  obj := fun i h st b hb => by
    have e : b = it := by simpa using hb
    subst e
    exact ⟨_, st, fun v z => by
      have z' : Data.fields _ = Data.cell v := z
      cases z'⟩
  keep := fun i h h' st k => k it (by simp) _ st
  item := by
    intro X hP hw hK hc i pins s σ H E I hf st hg
    subst hP hw hK
    obtain ⟨f0, f1, f2, f3, f4, f5⟩ := hf it (by simp)
    have W := Walks.range (prog := X.prog) (w := X.w) (I.ok.hd hc) it lo 1 n
    refine W.item i s _ _ hg st fun v h' tk hv st' kk => ?_
    obtain ⟨t, rfl⟩ := hv
    have I1 : Inv X pins σ H { s with heap := h', toks := tk } := I.turned (fun b o hb e => kk b o (by simpa using hb) e) f0 f1 f3 f4 f5
    refine ⟨_, rfl, go_of (s := { s with heap := h', toks := tk }) (n := "range_iterator") st' rfl rfl (by decide) ⟨.int (lo + i), H, I1, ⟨t, ?_⟩, ⟨rfl, rfl⟩, st', fun b hb => (hf b hb).1⟩⟩
    rw [Int.mul_one]
  done := by
    intro X hP hw hK hc i pins s σ H E I hf st hg
    subst hP hw hK
    obtain ⟨f0, f1, f2, f3, f4, f5⟩ := hf it (by simp)
    exact wpAny_pyNext_range_end (I.ok.hd hc) st (by have : n ≤ i := hg; omega) fun h' eb => ⟨rfl, I.turned (t' := s.toks) (fun b o hb e => eb b o hb e) f0 f1 f3 f4 f5⟩
  self := fun _ _ _ _ _ st h => wpAny_pyIter_rangeiter st h
end L2

namespace L2
open PySem PySem.Spec PyProof.Rows
section
variable {X : Cx} {tg : Expr}
noncomputable def iList (K : PySem.W.Frag) (tl : TE) : TI := fun σ H R => tl σ H fun x H1 => ExQ R (fun a R => x = .ref a ∧ (∃ xs, SqL K H1 a xs) ∧ R (Itl K a) H1)
theorem pi_list {l : Expr} {tl : TE} (hl : PE X l tl) : PI X tg l (iList X.K tl) := by
  intro pins s σ H R I h
  refine thn (hl pins s σ H _ I h) fun v s1 hpat => ?_
  obtain ⟨x, H1, I1, r1, q1⟩ := hpat
  obtain ⟨a, e, ⟨xs, hq⟩, q⟩ := q1
  subst e
  cases r1
  obtain ⟨its, rv, p, hz⟩ := I1.list hq
  refine wpAny_pyIter_list p.isList ?_
  refine ⟨s1.heap.objs.size, [s1.heap.objs.size], _, _, H1, rfl, I1.kept (t' := s1.toks) fun b o e => Heap.get?_push_of_some _ e, turn_list a _, ⟨_, Heap.get?_push_size _ rfl, rfl, rfl⟩, fun b hb => ?_, q⟩
  have e : b = s1.heap.objs.size := by simpa using hb
  subst e
  exact I1.fpOk (Nat.le_refl _) (I1.hok.fresh (Nat.le_refl _))
theorem range_it {pins : List (Addr × Obj)} {σ : St} {H : Hp} {s : Shared} {R : It → Hp → Prop} {E : Value → Shared → Prop} {lo hi : Int} {t u v : Tok} {tk : Nat} (I : Inv X pins σ H s) (h1 : -(2 ^ 62) ≤ lo) (h2 : lo < 2 ^ 62) (h3 : -(2 ^ 62) ≤ hi) (h4 : hi < 2 ^ 62)
    (q : R (Itr lo (hi - lo).toNat) H) : wpAny (model X.prog X.w) X.A (pyIter (.ref s.heap.objs.size)) (PIE X pins σ tg R) E { s with heap := s.heap.push { cls := .type "range", data := .fields #[.int lo t, .int hi u, .int 1 v] }, toks := tk } := by
  refine wpAny_pyIter_range (IsRange.new ..) (small_one h1 h2 h3 h4) ?_
  have I1 : Inv X pins σ H { s with heap := s.heap.push { cls := .type "range", data := .fields #[.int lo t, .int hi u, .int 1 v] }, toks := tk } := I.kept fun b o e => Heap.get?_push_of_some _ e
  refine ⟨(s.heap.push { cls := .type "range", data := .fields #[.int lo t, .int hi u, .int 1 v] }).objs.size, [(s.heap.push { cls := .type "range", data := .fields #[.int lo t, .int hi u, .int 1 v] }).objs.size], _, _, H, rfl,
    I1.kept (t' := tk) fun b o e => Heap.get?_push_of_some _ e, turn_range _ lo (hi - lo).toNat, ?_, fun b hb => ?_, q⟩
  · have e1 : lo + ((0 : Nat) : Int) * 1 = lo := by simp
    have e2 : (((hi - lo).toNat : Nat) : Int) - ((0 : Nat) : Int) = Builtin.Range.rangeSize lo hi 1 := by rw [rangeSize_one]; split <;> omega
    show IsRangeIter _ _ (lo + ((0 : Nat) : Int) * 1) ((((hi - lo).toNat : Nat) : Int) - ((0 : Nat) : Int)) 1
    rw [e1, e2]
    exact Heap.get?_push_size _ rfl
  · have e : b = (s.heap.push { cls := .type "range", data := .fields #[.int lo t, .int hi u, .int 1 v] }).objs.size := by simpa using hb
    subst e
    exact I1.fpOk (Nat.le_refl _) (I1.hok.fresh (Nat.le_refl _))
noncomputable def iRng1 (ta : TA) : TI := fun σ H R => ta σ H fun vs H1 => ExQ R (fun (j : Int) R => vs = [.int j] ∧ -(2 ^ 62) ≤ j ∧ j < 2 ^ 62 ∧ R (Itr 0 j.toNat) H1)
noncomputable def iRng2 (ta : TA) : TI := fun σ H R => ta σ H fun vs H1 => ExQ R (fun (i : Int) R => ExQ R (fun (j : Int) R => vs = [.int i, .int j] ∧ (-(2 ^ 62) ≤ i ∧ i < 2 ^ 62 ∧ -(2 ^ 62) ≤ j ∧ j < 2 ^ 62) ∧ R (Itr i (j - i).toNat) H1))
theorem pi_range1 {a : Expr} {ta : TA} {p pos : Pos} (hg : Gl X "range") (hm : X.mg "range" = none) (ha : PA X [a] ta) (hs : starEach [a] X.env = [(false, eval a X.env)] := by rfl) : PI X tg (.Call (.Name "range" p) [a] [] pos) (iRng1 ta) := by
  intro pins s σ H R I h
  refine Call_ (ld_blt I hg hm boot_range (PyProof.Rows.callWith_type1 (thn (ha pos pins s σ H _ I h) fun us s1 hpat => ?_) hs rfl))
  obtain ⟨vs, H1, I1, r1, q1⟩ := hpat
  obtain ⟨j, e, q1, q2, q⟩ := q1
  subst e
  cases r1 with
  | cons r rr =>
    cases rr
    obtain ⟨t, rfl⟩ := r
    exact call_range_1 (range_it I1 (by omega) (by omega) q1 q2 (by simpa using q))
theorem pi_range2 {a b : Expr} {ta : TA} {p pos : Pos} (hg : Gl X "range") (hm : X.mg "range" = none) (ha : PA X [a, b] ta) (hs : starEach [a, b] X.env = [(false, eval a X.env), (false, eval b X.env)] := by rfl) (hs2 : starEach [b] X.env = [(false, eval b X.env)] := by rfl) :
    PI X tg (.Call (.Name "range" p) [a, b] [] pos) (iRng2 ta) := by
  intro pins s σ H R I h
  refine Call_ (ld_blt I hg hm boot_range (PyProof.Rows.callWith_type1 (thn (ha pos pins s σ H _ I h) fun us s1 ⟨vs, H1, I1, r1, q1⟩ => ?_) (by rw [hs, hs2]) (by rw [hs2]; rfl)))
  obtain ⟨i, j, e, ⟨q1, q2, q3, q4⟩, q⟩ := q1
  subst e
  cases r1 with
  | cons r rr =>
    cases rr with
    | cons r' rr =>
      cases rr
      obtain ⟨t, rfl⟩ := r
      obtain ⟨t', rfl⟩ := r'
      exact call_range_2 (range_it I1 q1 q2 q3 q4 q)

noncomputable def tFor (wi : TI) (g : TG) (tb : TS) : TS := fun D σ H => wi σ H fun J H1 => ∃ W : Nat → Nat → St → Hp → Prop, (∃ m, W 0 m σ H1) ∧ ∀ i m σ H, W i m σ H →
  (J.stop i H ∧ D.nx σ H) ∨ (J.go i H ∧ ∃ N : St → Hp → Prop, (∀ σ' H', N σ' H' → ∃ m', m' < m ∧ W (i + 1) m' σ' H') ∧ ∀ x H', J.yld i H x H' → g x σ H' fun σ2 H2 => tb { D with nx := N, ct := N, bk := D.nx } σ2 H2)
noncomputable def pinsAt (fp : List Addr) (h : Heap) : List (Addr × Obj) := fp.filterMap fun b => (h.get? b).map fun o => (b, o)
theorem mem_pinsAt {fp : List Addr} {h : Heap} {b : Addr} {o : Obj} (hb : b ∈ fp) (e : h.get? b = some o) : (b, o) ∈ pinsAt fp h := List.mem_filterMap.mpr ⟨b, hb, by rw [e]; rfl⟩
theorem of_pinsAt {fp : List Addr} {h : Heap} {p : Addr × Obj} (hp : p ∈ pinsAt fp h) : p.1 ∈ fp ∧ h.get? p.1 = some p.2 := by
  obtain ⟨b, hb, e⟩ := List.mem_filterMap.mp hp
  cases q : h.get? b with
  | none => rw [q] at e; cases e
  | some o =>
    rw [q] at e
    have e' : (b, o) = p := Option.some.inj e
    subst e'
    exact ⟨hb, q⟩
theorem Inv.pinned {pins : List (Addr × Obj)} {σ : St} {H : Hp} {s : Shared} {fp : List Addr} (I : Inv X pins σ H s) (hf : ∀ b ∈ fp, FpOk X pins H b) (ho : ∀ b ∈ fp, ∃ o, s.heap.get? b = some o ∧ ∀ v, o.data ≠ .cell v) : Inv X (pins ++ pinsAt fp s.heap) σ H s :=
  I.pins_of fun p hp => (List.mem_append.mp hp).elim (fun z => I.pin p (List.mem_append_right _ z)) fun z => by
    obtain ⟨hb, e⟩ := of_pinsAt z
    obtain ⟨f0, f1, f2, _⟩ := hf p.1 hb
    obtain ⟨o, e', d⟩ := ho p.1 hb
    rw [e] at e'; cases e'
    exact ⟨e, f0, f1, f2, d⟩
theorem Inv.unpinned {pins pl : List (Addr × Obj)} {σ : St} {H : Hp} {s : Shared} (I : Inv X (pins ++ pl) σ H s) : Inv X pins σ H s := I.pins_of fun p hp => I.pin p (List.mem_append_right _ (List.mem_append_left _ hp))
theorem ps_for {iter : Expr} {body : List Stmt} {wi : TI} {g : TG} {tb : TS} {pos : Pos} (hp : PassesOwn (model X.prog X.w) X.A X.env X.xe) (hc : X.calm = true) (hi : PI X tg iter wi) (hg : PG X tg g) (hb : PSs X body tb)
    (hs : ∀ x, foldedSetIterable iter X.env x = pure x := by intro _; rfl) : PS X (.For tg iter body [] pos) (tFor wi g tb) := by
  intro pins s σ H D I h
  refine wpAny_For (thn (hi pins s σ H _ I h) fun v s1 h1 => thn h1 fun itv s2 h2 => ?_) hs
  obtain ⟨it, fp, tn, J, H2, e, I2, T, st2, f2, W, ⟨m0, w0⟩, turn⟩ := h2
  subst e
  -- what stays true of the iterator's objects through the loop
  have stat : ∀ {H' : Hp}, (∀ b ∈ fp, H' b = none) → ∀ b ∈ fp, FpOk X pins H' b := fun hn b hb => ⟨hn b hb, (f2 b hb).2⟩
  refine codeAny_forLoop_any (fun n s' => ∃ i σ' H', Inv X pins σ' H' s' ∧ tn i s'.heap ∧ (∀ b ∈ fp, H' b = none) ∧ W i n σ' H') ?_ m0 ⟨0, σ, H2, I2, st2, fun b hb => (f2 b hb).1, w0⟩
  rintro n s3 ⟨i, σ3, H3, I3, st3, fr3, w3⟩
  rcases turn i n σ3 H3 w3 with ⟨stop, qn⟩ | ⟨go, N, hN, step⟩
  · refine wpAny_passesOwn hp (thn (T.done X rfl rfl rfl hc i pins s3 σ3 H3 X.xe I3 (stat fr3) st3 stop) fun r s4 hpat => ?_)
    obtain ⟨hr, I4⟩ := hpat
    subst hr
    exact wpAny_execs_nil ⟨σ3, H3, I4, qn⟩
  · refine wpAny_passesOwn hp (thn (T.item X rfl rfl rfl hc i pins s3 σ3 H3 X.xe I3 (stat fr3) st3 go) fun r s4 hpat => ?_)
    obtain ⟨u, hr, h4⟩ := hpat
    subst hr
    refine wpAny_passesOwn hp (thn h4 fun _ s5 hpat => ?_)
    obtain ⟨x, H5, I5, r5, y5, st5, fr5⟩ := hpat
    have I5' := I5.pinned (stat fr5) (T.obj _ _ st5)
    refine wpAny_passesOwn hp (thn (hg _ s5 σ3 H5 x u _ I5' r5 (step x H5 y5)) fun _ s6 hpat => ?_)
    obtain ⟨σ6, H6, I6, q6⟩ := hpat
    refine wpAny_passesOwn hp (thn (hb _ s6 σ6 H6 _ I6 q6) fun f s7 q7 => ?_)
    have again : ∀ {σ7 : St} {H7 : Hp}, Inv X (pins ++ pinsAt fp s5.heap) σ7 H7 s7 → N σ7 H7 → ∃ m, m < n ∧ ∃ i σ' H', Inv X pins σ' H' s7 ∧ tn i s7.heap ∧ (∀ b ∈ fp, H' b = none) ∧ W i m σ' H' := fun {σ7 H7} I7 n7 => by
      obtain ⟨m', hm, w7⟩ := hN σ7 H7 n7
      refine ⟨m', hm, i + 1, σ7, H7, I7.unpinned, T.keep _ _ _ st5 fun b hb o e => (I7.pin (b, o) (List.mem_append_right _ (List.mem_append_right _ (mem_pinsAt hb e)))).1, fun b hb => ?_, w7⟩
      obtain ⟨o, e, d⟩ := T.obj _ _ st5 b hb
      exact (I7.pin (b, o) (List.mem_append_right _ (List.mem_append_right _ (mem_pinsAt hb e)))).2.1
    cases f with
    | next => obtain ⟨σ7, H7, I7, n7⟩ := q7; exact again I7 n7
    | cont => obtain ⟨σ7, H7, I7, n7⟩ := q7; exact again I7 n7
    | brk => obtain ⟨σ7, H7, I7, q7⟩ := q7; exact ⟨σ7, H7, I7.unpinned, q7⟩
    | ret v => obtain ⟨x7, σ7, H7, I7, r7, q7⟩ := q7; exact ⟨x7, σ7, H7, I7.unpinned, r7, q7⟩
end

theorem for_list {K : PySem.W.Frag} {a : Addr} {xs : List V} {g : TG} {tb : TS} {D : Ends} {σ : St} {H : Hp} (Pv : Nat → St → Hp → Prop) (h0 : Pv 0 σ H) (hl : ∀ i σ H, i ≤ xs.length → Pv i σ H → SqL K H a xs)
    (hs : ∀ i x σ H, xs[i]? = some x → Pv i σ H → g x σ H fun σ2 H2 => tb { D with nx := Pv (i + 1), ct := Pv (i + 1), bk := D.nx } σ2 H2) (hd : ∀ σ H, Pv xs.length σ H → D.nx σ H) :
    ∃ W : Nat → Nat → St → Hp → Prop, (∃ m, W 0 m σ H) ∧ ∀ i m σ H, W i m σ H →
      ((Itl K a).stop i H ∧ D.nx σ H) ∨ ((Itl K a).go i H ∧ ∃ N : St → Hp → Prop, (∀ σ' H', N σ' H' → ∃ m', m' < m ∧ W (i + 1) m' σ' H') ∧ ∀ x H', (Itl K a).yld i H x H' → g x σ H' fun σ2 H2 => tb { D with nx := N, ct := N, bk := D.nx } σ2 H2) := by
  refine ⟨fun i m σ H => m = xs.length - i ∧ i ≤ xs.length ∧ Pv i σ H, ⟨xs.length, by simp, Nat.zero_le _, h0⟩, ?_⟩
  rintro i m σ H ⟨rfl, hi, p⟩
  have q := hl i σ H hi p
  by_cases hlt : i < xs.length
  · refine .inr ⟨⟨xs, xs[i], q, by simp [hlt]⟩, Pv (i + 1), fun σ' H' p' => ⟨xs.length - (i + 1), by omega, rfl, hlt, p'⟩, fun x H' y => ?_⟩
    obtain ⟨e, y⟩ := y
    subst e
    exact hs i x σ _ (y xs q) p
  · have e : i = xs.length := by omega
    subst e
    exact .inl ⟨⟨xs, q, Nat.le_refl _⟩, hd σ H p⟩
theorem for_range {lo : Int} {n : Nat} {g : TG} {tb : TS} {D : Ends} {σ : St} {H : Hp} (Pv : Nat → St → Hp → Prop) (h0 : Pv 0 σ H)
    (hs : ∀ i σ H, i < n → Pv i σ H → g (.int (lo + i)) σ H fun σ2 H2 => tb { D with nx := Pv (i + 1), ct := Pv (i + 1), bk := D.nx } σ2 H2) (hd : ∀ σ H, Pv n σ H → D.nx σ H) :
    ∃ W : Nat → Nat → St → Hp → Prop, (∃ m, W 0 m σ H) ∧ ∀ i m σ H, W i m σ H →
      ((Itr lo n).stop i H ∧ D.nx σ H) ∨ ((Itr lo n).go i H ∧ ∃ N : St → Hp → Prop, (∀ σ' H', N σ' H' → ∃ m', m' < m ∧ W (i + 1) m' σ' H') ∧ ∀ x H', (Itr lo n).yld i H x H' → g x σ H' fun σ2 H2 => tb { D with nx := N, ct := N, bk := D.nx } σ2 H2) := by
  refine ⟨fun i m σ H => m = n - i ∧ i ≤ n ∧ Pv i σ H, ⟨n, by simp, Nat.zero_le _, h0⟩, ?_⟩
  rintro i m σ H ⟨rfl, hi, p⟩
  by_cases hlt : i < n
  · refine .inr ⟨hlt, Pv (i + 1), fun σ' H' p' => ⟨n - (i + 1), by omega, rfl, hlt, p'⟩, fun x H' y => ?_⟩
    obtain ⟨e, y⟩ := y
    subst e y
    exact hs i σ _ hlt p
  · have e : i = n := by omega
    subst e
    exact .inl ⟨Nat.le_refl _, hd σ H p⟩
end L2

namespace L2
open PySem PySem.Spec PyProof.Rows

noncomputable abbrev R2 := V → V → Hp → VK → Prop
noncomputable def OpR (X : Cx) (f : Value → Value → Sem Value) (r : R2) : Prop :=
  ∀ (pins : List (Addr × Obj)) (s : Shared) (σ : St) (H : Hp) (x y : V) (v u : Value) (Q : VK), Inv X pins σ H s → RelV x v → RelV y u → r x y H Q →
    wpAny (model X.prog X.w) X.A (f v u) (EP X pins σ Q) X.xe s
noncomputable def UnR (X : Cx) (f : Value → Sem Value) (r : V → Hp → VK → Prop) : Prop :=
  ∀ (pins : List (Addr × Obj)) (s : Shared) (σ : St) (H : Hp) (x : V) (v : Value) (Q : VK), Inv X pins σ H s → RelV x v → r x H Q →
    wpAny (model X.prog X.w) X.A (f v) (EP X pins σ Q) X.xe s
noncomputable def CallR (X : Cx) (f : Value) (r : List V → Hp → VK → Prop) : Prop :=
  ∀ (pins : List (Addr × Obj)) (s : Shared) (σ : St) (H : Hp) (xs : List V) (us : List Value) (Q : VK), Inv X pins σ H s → Vals xs us → r xs H Q →
    wpAny (model X.prog X.w) X.A (call f us) (EP X pins σ Q) X.xe s
noncomputable def TruR (X : Cx) (r : V → Hp → (Bool → Hp → Prop) → Prop) : Prop :=
  ∀ (pins : List (Addr × Obj)) (s : Shared) (σ : St) (H : Hp) (x : V) (v : Value) (Q : Bool → Hp → Prop), Inv X pins σ H s → RelV x v → r x H Q →
    wpAny (model X.prog X.w) X.A (truthy v) (TP X pins σ Q) X.xe s

noncomputable def tOp (r : R2) (ta tb : TE) : TE := fun σ H Q => ta σ H fun x H1 => tb σ H1 fun y H2 => r x y H2 Q
noncomputable def tUn (r : V → Hp → VK → Prop) (ta : TE) : TE := fun σ H Q => ta σ H fun x H1 => r x H1 Q
noncomputable def rI (C : Int → Int → Prop) (g : Int → Int → V) : R2 := fun x y H Q => ExQ Q (fun i Q => ExQ Q (fun j Q => x = .int i ∧ y = .int j ∧ C i j ∧ Q (g i j) H))
noncomputable def rI0 (g : Int → Int → V) : R2 := fun x y H Q => ExQ Q (fun i Q => ExQ Q (fun j Q => x = .int i ∧ y = .int j ∧ Q (g i j) H))
noncomputable def rU (g : Int → V) : V → Hp → VK → Prop := fun x H Q => ExQ Q (fun i Q => x = .int i ∧ Q (g i) H)

section
variable {X : Cx} {a b c : Expr} {ta tb tc : TE} {pos : Pos}

theorem binT (ha : PE X a ta) (hb : PE X b tb) {pins : List (Addr × Obj)} {s : Shared} {σ : St} {H : Hp} {R : V → V → Hp → Prop} (I : Inv X pins σ H s)
    (h : ta σ H fun x H1 => tb σ H1 fun y H2 => R x y H2) {Q : Value → Shared → Prop} {f : Value → Value → Sem Value}
    (hf : ∀ v u s2 x y H2, Inv X pins σ H2 s2 → RelV x v → RelV y u → R x y H2 → wpAny (model X.prog X.w) X.A (f v u) Q X.xe s2) :
    wpAny (model X.prog X.w) X.A (eval a X.env) (fun v s₁ => wpAny (model X.prog X.w) X.A (eval b X.env) (fun u s₂ => wpAny (model X.prog X.w) X.A (f v u) Q X.xe s₂) X.xe s₁) X.xe s := by
  refine thn (ha pins s σ H _ I h) fun v s1 hpat => ?_
  obtain ⟨x, H1, I1, r1, q1⟩ := hpat
  refine thn (hb pins s1 σ H1 _ I1 q1) fun u s2 hpat => ?_
  obtain ⟨y, H2, I2, r2, q2⟩ := hpat
  exact hf v u s2 x y H2 I2 r1 r2 q2

theorem pe_op {op : Operator} {r : R2} (ho : OpR X (binaryOp op) r) (ha : PE X a ta) (hb : PE X b tb) : PE X (.BinOp a op b pos) (tOp r ta tb) := by
  intro pins s σ H Q I h
  exact wpAny_BinOp (binT ha hb I h fun v u s2 x y H2 I2 rx ry q => ho pins s2 σ H2 x y v u Q I2 rx ry q)
theorem pe_un {op : UnaryOp} {r : V → Hp → VK → Prop} (ho : UnR X (unaryOp op) r) (ha : PE X a ta) : PE X (.UnaryOp op a pos) (tUn r ta) := by
  intro pins s σ H Q I h
  exact UnaryOp_ (thn (ha pins s σ H _ I h) fun v s1 hp2 => by obtain ⟨x, H1, I1, r1, q1⟩ := hp2; exact ho pins s1 σ H1 x v Q I1 r1 q1)
theorem opI {f : Value → Value → Sem Value} {C : Int → Int → Prop} {g : Int → Int → Int}
    (rule : ∀ (i j : Int) (t u : Tok) (s : Shared) (Q : Value → Shared → Prop) (E : Value → Shared → Prop), C i j → Q (.int (g i j) s.toks) { s with toks := s.toks + 1 } → wpAny (model X.prog X.w) X.A (f (.int i t) (.int j u)) Q E s) :
    OpR X f (rI C fun i j => .int (g i j)) := by
  intro pins s σ H x y v u Q I rx ry h
  obtain ⟨i, j, rfl, rfl, hc, q⟩ := h
  obtain ⟨t, rfl⟩ := rx
  obtain ⟨t', rfl⟩ := ry
  exact rule i j t t' s _ _ hc ⟨.int (g i j), H, I.tok _, ⟨_, rfl⟩, q⟩
theorem opI0 {f : Value → Value → Sem Value} {g : Int → Int → Int}
    (rule : ∀ (i j : Int) (t u : Tok) (s : Shared) (Q : Value → Shared → Prop) (E : Value → Shared → Prop), Q (.int (g i j) s.toks) { s with toks := s.toks + 1 } → wpAny (model X.prog X.w) X.A (f (.int i t) (.int j u)) Q E s) :
    OpR X f (rI0 fun i j => .int (g i j)) := by
  intro pins s σ H x y v u Q I rx ry h
  obtain ⟨i, j, rfl, rfl, q⟩ := h
  obtain ⟨t, rfl⟩ := rx
  obtain ⟨t', rfl⟩ := ry
  exact rule i j t t' s _ _ ⟨.int (g i j), H, I.tok _, ⟨_, rfl⟩, q⟩
theorem opB0 {f : Value → Value → Sem Value} {g : Int → Int → Bool}
    (rule : ∀ (i j : Int) (t u : Tok) (s : Shared) (Q : Value → Shared → Prop) (E : Value → Shared → Prop), Q (.bool (g i j)) s → wpAny (model X.prog X.w) X.A (f (.int i t) (.int j u)) Q E s) :
    OpR X f (rI0 fun i j => .bl (g i j)) := by
  intro pins s σ H x y v u Q I rx ry h
  obtain ⟨i, j, rfl, rfl, q⟩ := h
  obtain ⟨t, rfl⟩ := rx
  obtain ⟨t', rfl⟩ := ry
  exact rule i j t t' s _ _ ⟨.bl (g i j), H, I, rfl, q⟩

noncomputable def CDiv (i j : Int) : Prop := 0 < j ∧ j < 1073741824
noncomputable def CPow (i j : Int) : Prop := 0 ≤ j ∧ j ≤ 1000000 ∧ i.natAbs < 2 ^ 64
noncomputable def CMul (i j : Int) : Prop := (-(2 ^ 64) < i ∧ i < 2 ^ 64) ∨ (-(2 ^ 64) < j ∧ j < 2 ^ 64)
theorem CMul.ok {i j : Int} (h : CMul i j) : IntMulOk i j := by
  rcases h with ⟨h1, h2⟩ | ⟨h1, h2⟩
  · exact .of_left (intBits_le_64 h1 h2)
  · exact .of_right (intBits_le_64 h1 h2)
theorem two_pow_nn (k : Nat) : (0 : Int) ≤ 2 ^ k := by
  rw [two_pow_cast]
  exact Int.natCast_nonneg _

theorem op_add : OpR X (binaryOp .Add) (rI0 fun i j => .int (i + j)) := opI0 fun _ _ _ _ _ _ _ q => add_int q
theorem op_sub : OpR X (binaryOp .Sub) (rI0 fun i j => .int (i - j)) := opI0 fun _ _ _ _ _ _ _ q => sub_int q
theorem op_mul : OpR X (binaryOp .Mult) (rI CMul fun i j => .int (i * j)) := opI fun _ _ _ _ _ _ _ hc q => mul_int q hc.ok
theorem op_fdiv : OpR X (binaryOp .FloorDiv) (rI CDiv fun i j => .int (i / j)) := opI fun i j _ _ _ _ _ hc q => by
  have h1 : (0 : Int) < j := hc.1
  have h2 : j < 1073741824 := hc.2
  exact floordiv_int (by omega) (by rw [Int.fdiv_eq_ediv_of_nonneg i (by omega)]; exact q) (.inl (PyProof.noPylong_small (by omega)))
theorem op_mod : OpR X (binaryOp .Mod) (rI (fun _ j => 0 < j) fun i j => .int (i % j)) := opI fun i j _ _ _ _ _ hc q => by
  have h1 : (0 : Int) < j := hc
  exact mod_int' (by omega) (by rw [Int.fmod_eq_emod_of_nonneg i (by omega)]; exact q)
theorem op_pow : OpR X (binaryOp .Pow) (rI CPow fun i j => .int (i ^ j.toNat)) := opI fun _ _ _ _ _ _ _ hc q => pow_int_small hc.1 hc.2.1 hc.2.2 q
theorem op_shr : OpR X (binaryOp .RShift) (rI (fun _ j => 0 ≤ j) fun i j => .int (i / 2 ^ j.toNat)) := opI fun i j _ _ _ _ _ hc q =>
  rshift_int hc (by rw [Int.fdiv_eq_ediv_of_nonneg i (two_pow_nn _)]; exact q)
theorem op_and : OpR X (binaryOp .BitAnd) (rI0 fun i j => .int (Builtin.bitAnd i j)) := opI0 fun _ _ _ _ _ _ _ q => and_int q
theorem iop_add : OpR X (inplaceOp .Add) (rI0 fun i j => .int (i + j)) := opI0 fun _ _ _ _ _ _ _ q => iadd_int q
theorem unI {f : Value → Sem Value} {g : Int → Int}
    (rule : ∀ (i : Int) (t : Tok) (s : Shared) (Q : Value → Shared → Prop) (E : Value → Shared → Prop), Q (.int (g i) s.toks) { s with toks := s.toks + 1 } → wpAny (model X.prog X.w) X.A (f (.int i t)) Q E s) :
    UnR X f (rU fun i => .int (g i)) := by
  intro pins s σ H x v Q I rx h
  obtain ⟨i, rfl, q⟩ := h
  obtain ⟨t, rfl⟩ := rx
  exact rule i t s _ _ ⟨.int (g i), H, I.tok _, ⟨_, rfl⟩, q⟩
theorem un_neg : UnR X (unaryOp .USub) (rU fun i => .int (-i)) := unI fun _ _ _ _ _ q => neg_int q
end

noncomputable def scal : V → V → Bool
  | .non, .non => true | .non, .int _ => true | .int _, .non => true | .non, .bl _ => true | .bl _, .non => true | .non, .str _ => true | .str _, .non => true
  | .int _, .int _ => true | .bl _, .bl _ => true | .str _, .str _ => true | .byt _, .byt _ => true
  | .int _, .str _ => true | .str _, .int _ => true | .bl _, .str _ => true | .str _, .bl _ => true
  | _, _ => false
noncomputable def rEq : R2 := fun x y H Q => scal x y = true ∧ Q (.bl (decide (x = y))) H
noncomputable def rNe : R2 := fun x y H Q => scal x y = true ∧ Q (.bl (!decide (x = y))) H

theorem dec_int {i j : Int} : decide (V.int i = V.int j) = (i == j) := by
  rw [Bool.eq_iff_iff]
  simp
theorem dec_bl {i j : Bool} : decide (V.bl i = V.bl j) = (i == j) := by
  rw [Bool.eq_iff_iff]
  simp
theorem dec_str {i j : Str} : decide (V.str i = V.str j) = (i == j) := by
  rw [Bool.eq_iff_iff]
  simp
theorem dec_byt {i j : Array UInt8} : decide (V.byt i = V.byt j) = (i.toList == j.toList) := by
  rw [Bool.eq_iff_iff]
  cases i
  cases j
  simp

section
variable {X : Cx} {a b c : Expr} {ta tb tc : TE} {pos : Pos}
theorem fin_bl {pins : List (Addr × Obj)} {σ : St} {H : Hp} {s : Shared} {Q : VK} {k k' : Bool} (I : Inv X pins σ H s) (q : Q (.bl k) H) (e : k = k') : EP X pins σ Q (.bool k') s := by
  subst e
  exact ⟨.bl k, H, I, rfl, q⟩
theorem op_eq : OpR X (compareOp .Eq) rEq := by
  intro pins s σ H x y v u Q I rx ry h
  obtain ⟨hs, q⟩ := h
  cases x with
  | non =>
    cases rx
    cases y with
    | non => cases ry; exact PySem.EqNone.eq_none_none (fin_bl I q (by simp))
    | bl j => cases ry; exact PySem.EqNone.eq_none_bool (fin_bl I q (by simp))
    | int j => obtain ⟨t', rfl⟩ := ry; exact PySem.EqNone.eq_none_int (fin_bl I q (by simp))
    | str j => obtain ⟨t', rfl⟩ := ry; exact PySem.EqNone.eq_none_str (fin_bl I q (by simp))
    | _ => exact absurd (show false = true from hs) Bool.false_ne_true
  | bl i =>
    cases rx
    cases y with
    | non => cases ry; exact PySem.EqNone.eq_bool_none (fin_bl I q (by simp))
    | bl j => cases ry; exact eq_bool (fin_bl I q dec_bl)
    | str j => obtain ⟨t', rfl⟩ := ry; exact PySem.EqMixed.eq_bool_str (fin_bl I q (by simp))
    | _ => exact absurd (show false = true from hs) Bool.false_ne_true
  | int i =>
    obtain ⟨t, rfl⟩ := rx
    cases y with
    | non => cases ry; exact PySem.EqNone.eq_int_none (fin_bl I q (by simp))
    | int j => obtain ⟨t', rfl⟩ := ry; exact eq_int (fin_bl I q dec_int)
    | str j => obtain ⟨t', rfl⟩ := ry; exact PySem.EqMixed.eq_int_str (fin_bl I q (by simp))
    | _ => exact absurd (show false = true from hs) Bool.false_ne_true
  | str i =>
    obtain ⟨t, rfl⟩ := rx
    cases y with
    | non => cases ry; exact PySem.EqNone.eq_str_none (fin_bl I q (by simp))
    | bl j => cases ry; exact PySem.EqMixed.eq_str_bool (fin_bl I q (by simp))
    | int j => obtain ⟨t', rfl⟩ := ry; exact PySem.EqMixed.eq_str_int (fin_bl I q (by simp))
    | str j => obtain ⟨t', rfl⟩ := ry; exact eq_str (fin_bl I q dec_str)
    | _ => exact absurd (show false = true from hs) Bool.false_ne_true
  | byt i =>
    obtain ⟨t, rfl⟩ := rx
    cases y with
    | byt j => obtain ⟨t', rfl⟩ := ry; exact PySem.W.eq_bytes (fin_bl I q dec_byt)
    | _ => exact absurd (show false = true from hs) Bool.false_ne_true
  | _ => cases y <;> exact absurd (show false = true from hs) Bool.false_ne_true
theorem op_ne : OpR X (compareOp .NotEq) rNe := by
  intro pins s σ H x y v u Q I rx ry h
  obtain ⟨hs, q⟩ := h
  cases x with
  | non =>
    cases rx
    cases y with
    | non => cases ry; exact PySem.EqNone.ne_none_none (fin_bl I q (by simp))
    | bl j => cases ry; exact PySem.EqNone.ne_none_bool (fin_bl I q (by simp))
    | int j => obtain ⟨t', rfl⟩ := ry; exact PySem.EqNone.ne_none_int (fin_bl I q (by simp))
    | str j => obtain ⟨t', rfl⟩ := ry; exact PySem.EqNone.ne_none_str (fin_bl I q (by simp))
    | _ => exact absurd (show false = true from hs) Bool.false_ne_true
  | bl i =>
    cases rx
    cases y with
    | non => cases ry; exact PySem.EqNone.ne_bool_none (fin_bl I q (by simp))
    | bl j => cases ry; exact ne_bool (fin_bl I q (congrArg not dec_bl))
    | str j => obtain ⟨t', rfl⟩ := ry; exact PySem.EqMixed.ne_bool_str (fin_bl I q (by simp))
    | _ => exact absurd (show false = true from hs) Bool.false_ne_true
  | int i =>
    obtain ⟨t, rfl⟩ := rx
    cases y with
    | non => cases ry; exact PySem.EqNone.ne_int_none (fin_bl I q (by simp))
    | int j => obtain ⟨t', rfl⟩ := ry; exact ne_int (fin_bl I q (congrArg not dec_int))
    | str j => obtain ⟨t', rfl⟩ := ry; exact PySem.EqMixed.ne_int_str (fin_bl I q (by simp))
    | _ => exact absurd (show false = true from hs) Bool.false_ne_true
  | str i =>
    obtain ⟨t, rfl⟩ := rx
    cases y with
    | non => cases ry; exact PySem.EqNone.ne_str_none (fin_bl I q (by simp))
    | bl j => cases ry; exact PySem.EqMixed.ne_str_bool (fin_bl I q (by simp))
    | int j => obtain ⟨t', rfl⟩ := ry; exact PySem.EqMixed.ne_str_int (fin_bl I q (by simp))
    | str j => obtain ⟨t', rfl⟩ := ry; exact ne_str (fin_bl I q (congrArg not dec_str))
    | _ => exact absurd (show false = true from hs) Bool.false_ne_true
  | byt i =>
    obtain ⟨t, rfl⟩ := rx
    cases y with
    | byt j => obtain ⟨t', rfl⟩ := ry; exact PySem.W.ne_bytes (fin_bl I q (congrArg not dec_byt))
    | _ => exact absurd (show false = true from hs) Bool.false_ne_true
  | _ => cases y <;> exact absurd (show false = true from hs) Bool.false_ne_true

theorem op_lt : OpR X (compareOp .Lt) (rI0 fun i j => .bl (decide (i < j))) := opB0 fun _ _ _ _ _ _ _ q => lt_int q
theorem op_le : OpR X (compareOp .LtE) (rI0 fun i j => .bl (decide (i ≤ j))) := opB0 fun _ _ _ _ _ _ _ q => le_int q
theorem op_gt : OpR X (compareOp .Gt) (rI0 fun i j => .bl (decide (j < i))) := opB0 fun _ _ _ _ _ _ _ q => gt_int q
theorem op_ge : OpR X (compareOp .GtE) (rI0 fun i j => .bl (decide (j ≤ i))) := opB0 fun _ _ _ _ _ _ _ q => ge_int q
theorem op_isN : OpR X (compareOp .Is) (fun x y H Q => y = .non ∧ Q (.bl (decide (x = .non))) H) := by
  intro pins s σ H x y v u Q I rx ry h
  obtain ⟨rfl, q⟩ := h
  cases ry
  refine is_none_gen (fin_bl I q ?_)
  cases x <;> first
    | (cases rx; rfl)
    | (obtain ⟨t, rfl⟩ := rx; rfl)
theorem op_notN : OpR X (compareOp .IsNot) (fun x y H Q => y = .non ∧ Q (.bl (!decide (x = .non))) H) := by
  intro pins s σ H x y v u Q I rx ry h
  obtain ⟨rfl, q⟩ := h
  cases ry
  refine isnot_none_gen (fin_bl I q ?_)
  cases x <;> first
    | (cases rx; rfl)
    | (obtain ⟨t, rfl⟩ := rx; rfl)

theorem OpR.or {f : Value → Value → Sem Value} {r r' : R2} (h : OpR X f r) (h' : OpR X f r') : OpR X f (fun x y H Q => r x y H Q ∨ r' x y H Q) := by
  intro pins s σ H x y v u Q I rx ry q
  rcases q with q | q
  · exact h pins s σ H x y v u Q I rx ry q
  · exact h' pins s σ H x y v u Q I rx ry q

theorem nomark (b : Expr) {op : CmpOp} (h : op ≠ .In := by decide) (h2 : op ≠ .NotIn := by decide) : behindInMarks op b = false := by
  have e1 : (op == CmpOp.In) = false := by cases op <;> first | rfl | exact absurd rfl h
  have e2 : (op == CmpOp.NotIn) = false := by cases op <;> first | rfl | exact absurd rfl h2
  cases b <;> simp [behindInMarks, e1, e2]
theorem pe_cmpR {op : CmpOp} {r : R2} (ho : OpR X (compareOp op) r) (ha : PE X a ta) (hb : PE X b tb) (hm : behindInMarks op b = false) : PE X (.Compare a [op] [b] pos) (tOp r ta tb) := by
  intro pins s σ H Q I h
  exact wpAny_Compare1 (binT ha hb I h fun v u s2 x y H2 I2 rx ry q => ho pins s2 σ H2 x y v u Q I2 rx ry q) hm
noncomputable def tTest (t : TE) : TT := fun σ H Q => t σ H fun x H' => ExQ Q (fun k Q => x = .bl k ∧ Q k H')
theorem pt_cmpR {op : CmpOp} {r : R2} (ho : OpR X (compareOp op) r) (ha : PE X a ta) (hb : PE X b tb) (hm : behindInMarks op b = false) : PT X (.Compare a [op] [b] pos) (tTest (tOp r ta tb)) := by
  intro pins s σ H Q I h
  refine wpAny_isTrue_Compare1 (thn (ha pins s σ H _ I h) fun v s1 hpat => ?_) hm
  obtain ⟨x, H1, I1, r1, q1⟩ := hpat
  refine thn (hb pins s1 σ H1 _ I1 q1) fun u s2 hpat => ?_
  obtain ⟨y, H2, I2, r2, q2⟩ := hpat
  refine thn (ho pins s2 σ H2 x y v u _ I2 r1 r2 q2) fun c s3 hpat => ?_
  obtain ⟨z, H3, I3, r3, k, e, q3⟩ := hpat
  subst e
  cases r3
  exact wpAny_truthy_bool ⟨H3, I3, q3⟩
noncomputable def TruV (K : PySem.W.Frag) (x : V) (H : Hp) (k : Bool) : Prop :=
  match x with
  | .non => k = false
  | .bl b => k = b
  | .int i => k = (i != 0)
  | .str y => y.length ≤ sizeLine ∧ k = ((y.length : Int) != 0)
  | .byt y => y.size ≤ sizeLine ∧ k = ((y.size : Int) != 0)
  | .ref p => (∃ xs, SqL K H p xs ∧ k = !xs.isEmpty) ∨ (∃ xs, SqT K H p xs ∧ k = !xs.isEmpty) ∨ ∃ kvs, H p = some (.dK kvs) ∧ k = !kvs.isEmpty
  | _ => False
theorem isEmpty_kv {κ : Type} {kvs : List (κ × V)} {vs : List (κ × Value)} (r : KV kvs vs) : (!vs.isEmpty) = !kvs.isEmpty := by
  cases r <;> rfl
theorem isEmpty_of {xs : List V} {its : List Value} (r : Vals xs its) : (!its.toArray.isEmpty) = !xs.isEmpty := by
  cases r <;> simp
theorem line63 : (sizeLine : Nat) < 2 ^ 63 := by rw [sizeLine_eq]; decide
theorem tru_ok : TruR X (fun x H Q => ∃ k, TruV X.K x H k ∧ Q k H) := by
  intro pins s σ H x v Q I rx h
  obtain ⟨k, e, q⟩ := h
  have hl := line63
  have hs : sizeLine = 16777216 := sizeLine_eq
  cases x with
  | non =>
    cases rx
    have e' : k = false := e
    subst e'
    exact truthy_none ⟨H, I, q⟩
  | bl b =>
    cases rx
    have e' : k = b := e
    subst e'
    exact wpAny_truthy_bool ⟨H, I, q⟩
  | int i =>
    obtain ⟨t, rfl⟩ := rx
    have e' : k = (i != 0) := e
    subst e'
    exact PySem.P.truthy_int ⟨H, I, q⟩
  | str y =>
    obtain ⟨t, rfl⟩ := rx
    obtain ⟨hy, e'⟩ : y.length ≤ sizeLine ∧ k = ((y.length : Int) != 0) := e
    subst e'
    exact PySem.P.truthy_str (by omega) ⟨H, I.tok _, q⟩
  | byt y =>
    obtain ⟨t, rfl⟩ := rx
    obtain ⟨hy, e'⟩ : y.size ≤ sizeLine ∧ k = ((y.size : Int) != 0) := e
    subst e'
    exact PySem.W.truthy_bytes (by omega) ⟨H, I.tok _, q⟩
  | ref p =>
    cases rx
    have e' : (∃ xs, SqL X.K H p xs ∧ k = !xs.isEmpty) ∨ (∃ xs, SqT X.K H p xs ∧ k = !xs.isEmpty) ∨ ∃ kvs, H p = some (.dK kvs) ∧ k = !kvs.isEmpty := e
    rcases e' with ⟨xs, hx, e'⟩ | ⟨xs, hx, e'⟩ | ⟨kvs, hx, e'⟩
    · subst e'
      obtain ⟨its, r, pl, hz⟩ := I.list hx
      have hlen := r.length
      exact wpAny_truthy_list pl.isList (by simp only [List.size_toArray]; omega) ⟨H, I.tok _, by rw [isEmpty_of r]; exact q⟩
    · subst e'
      obtain ⟨its, r, pl, hz⟩ := I.tuple hx
      have hlen := r.length
      exact truthy_tuple pl (by simp only [List.size_toArray]; omega) ⟨H, I.tok _, by rw [isEmpty_of r]; exact q⟩
    · subst e'
      obtain ⟨hz, hS, vs, r, m⟩ : kvs.length ≤ sizeLine ∧ (p == sysModules) = false ∧ ∃ vs, KV kvs vs ∧ s.heap.DictOf (mixKind X.prog X.w) p vs := I.hok p _ hx
      have hlen : kvs.length = vs.length := Paired.length r
      exact wpAny_truthy_dict hS m (by omega) ⟨H, I.tok _, by rw [isEmpty_kv r]; exact q⟩
  | _ => exact (show False from e).elim
theorem pt_truth (ha : PE X a ta) (he : ∀ whole, isTrue a X.env whole = (do let v ← whole; standAt a.pos; holding [v] (truthy v))) :
    PT X a (fun σ H Q => ta σ H fun x H' => ∃ k, TruV X.K x H' k ∧ Q k H') := by
  intro pins s σ H Q I h
  exact isTrue_plain (thn (ha pins s σ H _ I h) fun v s1 hp2 => by obtain ⟨x, H1, I1, r1, q1⟩ := hp2; exact tru_ok pins s1 σ H1 x v Q I1 r1 q1) (he _)

theorem vals1 {x : V} {us : List Value} (r : Vals [x] us) : ∃ u, us = [u] ∧ RelV x u := by
  cases r with
  | cons r1 r2 => cases r2; exact ⟨_, rfl, r1⟩
theorem vals2 {x y : V} {us : List Value} (r : Vals [x, y] us) : ∃ u w', us = [u, w'] ∧ RelV x u ∧ RelV y w' := by
  cases r with
  | cons r1 r2 =>
    cases r2 with
    | cons r3 r4 => cases r4; exact ⟨_, _, rfl, r1, r3⟩
theorem call_abs : CallR X (.builtin "abs") (fun xs H Q => ∃ i, xs = [.int i] ∧ Q (.int (if i < 0 then -i else i)) H) := by
  intro pins s σ H xs us Q I r h
  obtain ⟨i, rfl, q⟩ := h
  obtain ⟨u, rfl, t, rfl⟩ := vals1 r
  exact call_abs_int fun u tk => ⟨.int (if i < 0 then -i else i), H, I.tok _, ⟨_, rfl⟩, q⟩
theorem call_max2 (hc : X.calm = true) : CallR X (.builtin "max") (fun xs H Q => ∃ i j, xs = [.int i, .int j] ∧ Q (.int (if j > i then j else i)) H) := by
  intro pins s σ H xs us Q I r h
  obtain ⟨i, j, rfl, q⟩ := h
  obtain ⟨u, w', rfl, ⟨t, rfl⟩, ⟨t', rfl⟩⟩ := vals2 r
  refine max_two_ints (I.ok.hd hc) fun h' tk k => ⟨_, H, I.kept k, ?_, q⟩
  by_cases hj : j > i
  · rw [if_pos hj, if_pos hj]; exact ⟨_, rfl⟩
  · rw [if_neg hj, if_neg hj]; exact ⟨_, rfl⟩
end
end L2

namespace L2
open PySem PySem.Spec PyProof.Rows

structure ObjM (h : Heap) (x dx C : Addr) (mA : Str → Option Value) : Prop where
  obj : h.get? x = some (PySem.W.instObj C dx)
  ns : h.Ns1 dx mA
  ne : dx ≠ x

theorem lookIn_ns {h : Heap} {dx : Addr} {mA : Str → Option Value} (n : h.Ns1 dx mA) : ∃ od, h.get? dx = some od ∧ ∀ name, PySem.W.lookIn name od = some (mA name) := by
  obtain ⟨o, es, ep, ho, hd, hk, _, hm⟩ := n
  refine ⟨o, ho, fun name => ?_⟩
  have e := hm name
  unfold nsFind findBy at e
  rw [← Array.find?_toList] at e
  unfold PySem.W.lookIn
  rw [hd]
  dsimp only
  split
  · rename_i y q
    rw [q] at e
    exact congrArg some e
  · rename_i q
    rw [q] at e
    have a : es.toList.any (·.refKey) = false := by
      rw [List.any_eq_false]
      intro y hy
      obtain ⟨z, t, hkey⟩ := hk y (Array.mem_toList_iff.mp hy)
      simp [DictEntry.refKey, hkey]
    have a' : ¬ es.toList.any (·.refKey) = true := by rw [a]; exact Bool.false_ne_true
    rw [if_neg a']
    exact congrArg some e

theorem ObjM.look {h : Heap} {x dx C : Addr} {mA : Str → Option Value} (I : ObjM h x dx C mA) : ∃ od, PySem.W.InstAt h x (PySem.W.instObj C dx) C (some od) ∧ ∀ name, PySem.W.lookIn name od = some (mA name) :=
  let ⟨od, ho, hl⟩ := lookIn_ns I.ns
  ⟨od, ⟨I.obj, rfl, rfl, ho⟩, hl⟩

section
variable {prog : Program} {w : World} {A : Around} {E : Value → Shared → Prop} {s : Shared} {K : PySem.W.Frag} {x dx C f : Addr} {mA : Str → Option Value} {name : Str} {v : Value}

theorem get_map {expr : Bool} {Q : Value → Shared → Prop} (X : K.In s.heap) (I : ObjM s.heap x dx C mA) (hg : PySem.W.plainGet K C name = true) (hh : PySem.W.hasDictIn K C = true)
    (ha : PySem.W.findIn K (.ref C) name = some none) (hv : mA name = some v) (hv' : PySem.W.handedIn v = true) (h : Q v { s with toks := s.toks + 1 }) :
    wpAny (model prog w) A (getAttr (.ref x) name expr) Q E s := by
  obtain ⟨od, J, hl⟩ := I.look
  exact PySem.W.get_value X J (PySem.W.plainGet_of hg).1 (PySem.W.findObj_own hh ha rfl (by rw [hl, hv])) hv' h

theorem get_meth {pl : Sem Bool} {Q : Value × List Value → Shared → Prop} (X : K.In s.heap) (I : ObjM s.heap x dx C mA) (hg : PySem.W.plainGet K C name = true)
    (hf : PySem.W.findIn K (.ref C) name = some (some (.ref f))) (ht : PySem.W.isFn K (.ref f) = true) (hv : mA name = none) (h : Q (.ref f, [.ref x]) s) :
    wpAny (model prog w) A (getMethod (.ref x) name pl) Q E s := by
  obtain ⟨od, J, hl⟩ := I.look
  exact PySem.W.method_fn X J (PySem.W.plainGet_of hg).1 (PySem.W.plainGet_of hg).2 hf (beq_iff_eq.mp ht) (by show (PySem.W.lookIn name od).map (·.isSome) = some false; rw [hl, hv]; rfl) h

theorem set_map {ns : List Str} {Q : Unit → Shared → Prop} (X : K.In s.heap) (I : ObjM s.heap x dx C mA)
    (hs : PySem.W.findIn K (.ref C) "__setattr__" = some (some (.builtin "object.__setattr__"))) (hp : PySem.W.plainOver K C = true) (ht : PySem.W.takerIn K C name = some none) (hh : PySem.W.hasDictIn K C = true)
    (hw : PySem.Within mA ns) (hsz : ns.length ≤ sizeLine)
    (h : ∀ h', ObjM h' x dx C (fun y => if y = name then some v else mA y) → Heap.SameBut dx s.heap h' → Q () { s with heap := h', toks := s.toks + 2 }) :
    wpAny (model prog w) A (setAttr (.ref x) name v) Q E s := by
  obtain ⟨od, J, hl⟩ := I.look
  refine PySem.W.set_plain X J hs (PySem.W.osa_open (s := { s with toks := s.toks + 1 }) (r := none) X J hp ht fun b => ?_)
  obtain ⟨cd, hc, hd'⟩ := PySem.W.any_some hh
  have hx : s.heap.get? x = some ⟨.ref C, some dx, .plain, #[]⟩ := I.obj
  refine wpAny_bind (wpAny_pure (wpAny_bind (wpAny_bind (wpAny_loadPart hx (wpAny_bind (PySem.W.Looks.here (s := { s with toks := s.toks + 1 }) (PySem.W.looks_clsIn X hc) ?_))))))
  rw [hd']
  refine wpAny_pure (a := some dx) (wpAny_bind (wpAny_pure (wpAny_bind ?_)))
  refine wpAny_nsSet1 (s := { s with toks := s.toks + 1 }) I.ns fun h' hn2 hs2 => ?_
  obtain ⟨oD, esD, epD, hoD, hdD, hcD⟩ := hn2.count (PySem.Within.cons name v hw)
  refine wpAny_bind (wpAny_lookBehind hoD (by rw [hdD]; exact pastItsLine_dict (Nat.le_trans hcD (by rw [List.length_cons]; omega))) ?_)
  exact wpAny_pure (h _ ⟨(hs2.2 _ (Ne.symm I.ne)).trans I.obj, hn2, I.ne⟩ hs2)

theorem make_map {R : Result → Shared → Prop} {vs : List Value} {kw : List (Str × Value)} (X : K.In s.heap) (hm : PySem.W.makesIn K C = true)
    (hi : PySem.W.findIn K (.ref C) "__init__" = some (some (.ref f))) (hf : PySem.W.typeIn K (.ref f) = some (.type "function"))
    (h : codeAny (model prog w) (A.under (.builtin "type.__call__" ⟨.ref C :: vs, kw⟩)) (.call (.ref f) ⟨.ref (s.heap.objs.size + 1) :: vs, kw⟩) (PySem.W.InitBack (s.heap.objs.size + 1) R)
      { s with heap := (s.heap.push PySem.W.emptyDict).push (PySem.W.instObj C s.heap.objs.size) }) :
    codeAny (model prog w) A (.call (.ref C) ⟨vs, kw⟩) R s := by
  obtain ⟨hh, g, d, t, os⟩ := s
  exact PySem.W.make_core (PySem.W.makes_of X hm) (PySem.W.looks_findIn X hi) (fun self => PySem.W.bind_fn X self hf) (.inl rfl) h
end

noncomputable def putF (f : Str) (v : V) : List (Str × V) → List (Str × V)
  | [] => [(f, v)]
  | (g, x) :: r => if g = f then (g, v) :: r else (g, x) :: putF f v r
theorem lookup_putF (f g : Str) (v : V) : ∀ fs : List (Str × V), (putF f v fs).lookup g = if g = f then some v else fs.lookup g
  | [] => by
    show List.lookup g [(f, v)] = _
    by_cases h : g = f
    · have hb : (g == f) = true := beq_iff_eq.mpr h
      simp only [List.lookup, hb, if_pos h]
    · have hb : (g == f) = false := beq_eq_false_iff_ne.mpr h
      simp only [List.lookup, hb, if_neg h]
  | (k, x) :: r => by
    have ih := lookup_putF f g v r
    rw [show putF f v ((k, x) :: r) = (if k = f then (k, v) :: r else (k, x) :: putF f v r) from rfl]
    by_cases hk : k = f
    · rw [if_pos hk]
      by_cases h : g = k
      · have hb : (g == k) = true := beq_iff_eq.mpr h
        simp only [List.lookup, hb, if_pos (h.trans hk)]
      · have hb : (g == k) = false := beq_eq_false_iff_ne.mpr h
        simp only [List.lookup, hb, if_neg (fun e : g = f => h (e.trans hk.symm))]
    · rw [if_neg hk]
      by_cases h : g = k
      · have hb : (g == k) = true := beq_iff_eq.mpr h
        simp only [List.lookup, hb, if_neg (fun e : g = f => hk (h.symm.trans e))]
      · have hb : (g == k) = false := beq_eq_false_iff_ne.mpr h
        simp only [List.lookup, hb]
        exact ih
theorem keys_putF (f : Str) (v : V) : ∀ fs : List (Str × V), f ∈ (putF f v fs).map (·.1) ∧ ∀ g, g ∈ fs.map (·.1) → g ∈ (putF f v fs).map (·.1)
  | [] => ⟨by simp [putF], fun g h => by simp at h⟩
  | (k, x) :: r => by
    obtain ⟨i1, i2⟩ := keys_putF f v r
    rw [show putF f v ((k, x) :: r) = (if k = f then (k, v) :: r else (k, x) :: putF f v r) from rfl]
    by_cases hk : k = f
    · rw [if_pos hk]
      subst hk
      exact ⟨by simp, fun g h => by simpa using h⟩
    · rw [if_neg hk]
      refine ⟨?_, fun g h => ?_⟩
      · rw [List.map_cons]
        exact List.mem_cons_of_mem _ i1
      · rw [List.map_cons] at h ⊢
        rcases List.mem_cons.mp h with e | e
        · exact List.mem_cons.mpr (.inl e)
        · exact List.mem_cons_of_mem _ (i2 g e)
theorem length_putF (f : Str) (v : V) : ∀ fs : List (Str × V), (putF f v fs).length ≤ fs.length + 1
  | [] => by simp [putF]
  | (k, x) :: r => by
    have ih := length_putF f v r
    rw [show putF f v ((k, x) :: r) = (if k = f then (k, v) :: r else (k, x) :: putF f v r) from rfl]
    by_cases hk : k = f
    · rw [if_pos hk, List.length_cons, List.length_cons]; omega
    · rw [if_neg hk, List.length_cons, List.length_cons]; omega

theorem RelO.some_of {v : V} {o : Option Value} (r : RelO (some v) o) : ∃ u, o = some u ∧ RelV v u := by
  cases o with
  | none => exact (show False from r).elim
  | some u => exact ⟨u, rfl, r⟩
theorem RelO.none_of {o : Option Value} (r : RelO none o) : o = none := by
  cases o with
  | none => rfl
  | some u => exact (show False from r).elim
theorem handed_of {v : V} {u : Value} (r : RelV v u) : PySem.W.handedIn u = true := by
  cases v with
  | non => cases (show u = Value.none from r); rfl
  | bl b => cases (show u = Value.bool b from r); rfl
  | int i => obtain ⟨t, e⟩ := (show ∃ t, u = Value.int i t from r); cases e; rfl
  | str x => obtain ⟨t, e⟩ := (show ∃ t, u = Value.str x t from r); cases e; rfl
  | byt b => obtain ⟨t, e⟩ := (show ∃ t, u = Value.bytes b t from r); cases e; rfl
  | flt b => obtain ⟨t, e⟩ := (show ∃ t, u = Value.float b t from r); cases e; rfl
  | ref a => cases (show u = Value.ref a from r); rfl
  | ty n => cases (show u = Value.type n from r); rfl

section
variable {P : Program} {w : World} {H H' : Hp} {h h' : Heap} {a C dx : Addr} {fs fs' : List (Str × V)}
theorem ins_get (hok : HOk P w H h) (e : H a = some (.ins C dx fs)) : ∃ mA, ObjM h a dx C mA ∧ (∀ f, RelO (fs.lookup f) (mA f)) ∧ PySem.Within mA (fs.map (·.1)) ∧ fs.length ≤ 1000 ∧ H dx = some (.own a) := by
  obtain ⟨d, z, ne, ob, mA, n, r, q⟩ := (show ObjOk P w H h a (.ins C dx fs) from hok a _ e)
  exact ⟨mA, ⟨ob, n, ne⟩, r, q, z, d⟩
end

structure Cls (K : PySem.W.Frag) (C : Addr) : Prop where
  pg : PySem.W.plainGet K C Str.empty = true
  hd : PySem.W.hasDictIn K C = true
  po : PySem.W.plainOver K C = true
  sa : PySem.W.findIn K (.ref C) "__setattr__" = some (some (.builtin "object.__setattr__"))
theorem Cls.get {K : PySem.W.Frag} {C : Addr} (c : Cls K C) (f : Str) : PySem.W.plainGet K C f = true := c.pg
noncomputable def NoAttr (K : PySem.W.Frag) (C : Addr) (f : Str) : Prop := PySem.W.findIn K (.ref C) f = some none
theorem NoAttr.taker {K : PySem.W.Frag} {C : Addr} {f : Str} (n : NoAttr K C f) : PySem.W.takerIn K C f = some none := by
  unfold PySem.W.takerIn
  rw [show PySem.W.findIn K (.ref C) f = some none from n]
  rfl
structure Con (K : PySem.W.Frag) (C : Addr) (f : Str) (v : V) (u : Value) : Prop where
  at_ : PySem.W.findIn K (.ref C) f = some (some u)
  rel : RelV v u
  get : PySem.W.specialIn K u "__get__" = some none
  cp : PySem.W.copiedNames.contains f = false
structure Meth (K : PySem.W.Frag) (C : Addr) (m : Str) (f : Addr) : Prop where
  at_ : PySem.W.findIn K (.ref C) m = some (some (.ref f))
  fn : PySem.W.isFn K (.ref f) = true
  kp : PySem.W.keepIn K (.ref f) = true

section
variable {X : Cx} {pins : List (Addr × Obj)} {σ : St} {H : Hp} {s : Shared} {a C dx : Addr} {fs : List (Str × V)} {f : Str} {v : V} {A : Around} {E : Value → Shared → Prop}

theorem getattr_ok {b : Bool} {Q : Value → Shared → Prop} (I : Inv X pins σ H s) (e : H a = some (.ins C dx fs)) (c : Cls X.K C) (n : NoAttr X.K C f) (l : fs.lookup f = some v)
    (h : ∀ u s', Inv X pins σ H s' → RelV v u → Q u s') : wpAny (model X.prog X.w) A (getAttr (.ref a) f b) Q E s := by
  obtain ⟨mA, O, r, _, _, _⟩ := ins_get I.hok e
  obtain ⟨u, hu, ru⟩ := RelO.some_of (v := v) (o := mA f) (by rw [← l]; exact r f)
  exact get_map I.kIn O (c.get f) c.hd n hu (handed_of ru) (h u _ (I.tok _) ru)

theorem getmeth_ok {m : Str} {g : Addr} {pl : Sem Bool} {Q : Value × List Value → Shared → Prop} (I : Inv X pins σ H s) (e : H a = some (.ins C dx fs)) (c : Cls X.K C) (k : Meth X.K C m g) (l : fs.lookup m = none)
    (h : Q (.ref g, [.ref a]) s) : wpAny (model X.prog X.w) A (getMethod (.ref a) m pl) Q E s := by
  obtain ⟨mA, O, r, _, _, _⟩ := ins_get I.hok e
  have hn : mA m = none := RelO.none_of (by rw [← l]; exact r m)
  exact get_meth I.kIn O (c.get m) k.at_ k.fn hn h

theorem setattr_ok {y : V} {u : Value} {Q : Unit → Shared → Prop} (I : Inv X pins σ H s) (e : H a = some (.ins C dx fs)) (c : Cls X.K C) (n : NoAttr X.K C f) (hl : fs.length < 1000) (ry : RelV y u)
    (h : ∀ s', Inv X pins σ (upd H a (.ins C dx (putF f y fs))) s' → Q () s') : wpAny (model X.prog X.w) A (setAttr (.ref a) f u) Q E s := by
  obtain ⟨mA, O, r, wi, _, ho⟩ := ins_get I.hok e
  have hz : (fs.map (·.1)).length ≤ sizeLine := by rw [List.length_map, sizeLine_eq]; omega
  refine set_map I.kIn O c.sa c.po n.taker c.hd wi hz fun h' O' sb => h _ ?_
  have hd : ∃ o, h'.get? dx = some o := let ⟨o, _, _, e', _⟩ := O'.ns; ⟨o, e'⟩
  refine I.write (x := a) (e := dx) (by rw [e]; exact True.intro) (.inr ho) (fun b q hb z => (sb.2 b hb).trans z) hd ?_
  refine ⟨by rw [upd_ne O.ne]; exact ho, ?_, O.ne, O'.obj, _, O'.ns, fun g => ?_, fun g hg => ?_⟩
  · have := length_putF f y fs; omega
  · show RelO ((putF f y fs).lookup g) (if g = f then some u else mA g)
    rw [lookup_putF]
    by_cases q : g = f
    · rw [if_pos q, if_pos q]; exact ry
    · rw [if_neg q, if_neg q]; exact r g
  · by_cases q : g = f
    · rw [q]; exact (keys_putF f y fs).1
    · refine (keys_putF f y fs).2 g (wi g fun z => hg ?_)
      show (if g = f then some u else mA g) = none
      rw [if_neg q]; exact z

theorem Inv.made (I : Inv X pins σ H s) : Inv X pins σ (upd (upd H s.heap.objs.size (.own (s.heap.objs.size + 1))) (s.heap.objs.size + 1) (.ins C s.heap.objs.size []))
    { s with heap := (s.heap.push PySem.W.emptyDict).push (PySem.W.instObj C s.heap.objs.size) } := by
  have e1 : (s.heap.push PySem.W.emptyDict).get? s.heap.objs.size = some PySem.W.emptyDict := Heap.get?_push_size s.heap rfl
  have e2 : ((s.heap.push PySem.W.emptyDict).push (PySem.W.instObj C s.heap.objs.size)).get? (s.heap.objs.size + 1) = some (PySem.W.instObj C s.heap.objs.size) := by
    have := Heap.get?_push_size (s.heap.push PySem.W.emptyDict) (o := PySem.W.instObj C s.heap.objs.size) rfl
    rwa [Heap.size_push] at this
  have e3 : (s.heap.push PySem.W.emptyDict).Ns s.heap.objs.size (fun _ => none) := ⟨PySem.W.emptyDict, #[], _, e1, rfl, (fun e he => absurd he (by simp)), fun _ => rfl⟩
  have I1 := I.laid (a := s.heap.objs.size) (o := .own (s.heap.objs.size + 1)) (h' := s.heap.push PySem.W.emptyDict) (t' := s.toks) (fun b u q => Heap.get?_push_of_some _ q) (Nat.le_refl _) ⟨_, e1⟩
  refine I1.laid (a := s.heap.objs.size + 1) (o := .ins C s.heap.objs.size []) (t' := s.toks) (fun b u q => Heap.get?_push_of_some _ q) (Nat.le_of_eq (Heap.size_push _ _)) ?_
  have ne : s.heap.objs.size ≠ s.heap.objs.size + 1 := Nat.ne_of_lt (Nat.lt_succ_self _)
  refine ⟨by rw [upd_ne ne, upd_same], Nat.zero_le _, ne, e2, fun _ => none, (Heap.Ns1.of_empty e3).at fun o q => Heap.get?_push_of_some _ q, fun _ => True.intro, fun y hy => absurd rfl hy⟩

theorem attr_of {prog : Program} {w : World} {env : Env} {e : Expr} {f : Str} {pos : Pos} {s : Shared} {Q : Value → Shared → Prop} (hb : attributeBase e f env (eval e env) = eval e env)
    (h : wpAny (model prog w) A (eval e env) (fun o s₁ => wpAny (model prog w) A (getAttr o f true) Q E s₁) E s) : wpAny (model prog w) A (eval (.Attribute e f pos) env) Q E s :=
  Attribute_any_ h (by rw [arm_eval_Attribute, hb])
end

section
variable {X : Cx} {o e value : Expr} {f : Str} {pos pos' tpos : Pos} {ta tv : TE}
theorem methcall_of {pl : Sem Bool} {m : Str} {apos : Pos} {args : List Expr} {pins : List (Addr × Obj)} {s : Shared} {σ : St} {H : Hp} {Q : Value → Shared → Prop} {te : TE} (he : PE X e te) (I : Inv X pins σ H s)
    (h : te σ H fun x H1 => ∃ a C dx fs g, x = .ref a ∧ H1 a = some (.ins C dx fs) ∧ Cls X.K C ∧ Meth X.K C m g ∧ fs.lookup m = none ∧
      ∀ s1, Inv X pins σ H1 s1 → wpAny (model X.prog X.w) X.A (callWith pos (.ref g) [.ref a] (backTo pos (starEach args X.env)) (backToKw pos (keywordEach [] X.env))) Q X.xe s1)
    (ht : eval (.Call (.Attribute e m apos) args [] pos) X.env = (do
      let ov ← eval e X.env
      standAt apos.atName
      let (f, first) ← holding [ov] (getMethod ov m pl)
      callWith pos f first (backTo pos (starEach args X.env)) (backToKw pos (keywordEach [] X.env)))) :
    wpAny (model X.prog X.w) X.A (eval (.Call (.Attribute e m apos) args [] pos) X.env) Q X.xe s := by
  refine PySem.W.methodCall_KW (pl := pl) (thn (he pins s σ H _ I h) fun u s1 hpat => ?_) ht
  obtain ⟨x, H1, I1, rx, a, C, dx, fs, g, ex, ea, c, k, l, q⟩ := hpat
  subst ex
  obtain rfl : u = Value.ref a := rx
  exact getmeth_ok I1 ea c k l (q s1 I1)
end

section
variable {X : Cx} {pins : List (Addr × Obj)} {σ : St} {H : Hp} {s : Shared} {A : Around} {E : Value → Shared → Prop} {Q : Value → Shared → Prop} {c : Value} {b : Bool}
inductive TyOf (K : PySem.W.Frag) (H : Hp) : V → Value → Prop where
  | non : TyOf K H .non (.type "NoneType")
  | bl (x : Bool) : TyOf K H (.bl x) (.type "bool")
  | int (i : Int) : TyOf K H (.int i) (.type "int")
  | str (x : Str) : TyOf K H (.str x) (.type "str")
  | flt (x : UInt64) : TyOf K H (.flt x) (.type "float")
  | lst {a : Addr} {xs : List V} (e : H a = some (.lst xs)) : TyOf K H (.ref a) (.type "list")
  | frz {a : Addr} {o : Obj} {xs : List V} (e : H a = some (.frz o (.lst xs))) : TyOf K H (.ref a) (.type "list")
  | tup {a : Addr} {xs : List V} (e : H a = some (.tup xs)) : TyOf K H (.ref a) (.type "tuple")
  | dK {a : Addr} {kvs : List (Key × V)} (e : H a = some (.dK kvs)) : TyOf K H (.ref a) (.type "dict")
  | dT {a : Addr} {kvs : List (List Key × V)} (e : H a = some (.dT kvs)) : TyOf K H (.ref a) (.type "dict")
  | dZ {a : Addr} {zs : List (Addr × List Key)} {kvs : List (List Key × V)} (e : H a = some (.dZ zs kvs)) : TyOf K H (.ref a) (.type "dict")
  | dN {a : Addr} {zs : List (Addr × List D)} {kvs : List (List D × V)} (e : H a = some (.dN zs kvs)) : TyOf K H (.ref a) (.type "dict")
  | ins {a C dx : Addr} {fs : List (Str × V)} (e : H a = some (.ins C dx fs)) (cl : Cls K C) (ha : PySem.W.findIn K (.ref C) "__class__" = some (some (.builtin "object.__class__")))
      (hn : PySem.W.specialIn K (.builtin "object.__class__") "__get__" = some (some (.builtin "getset_descriptor.__get__"))) (htk : PySem.W.takesIn K (.builtin "object.__class__") = some true)
      (hm : PySem.W.mroIn K C (.type "object") = some true) : TyOf K H (.ref a) (.ref C)
theorem isinst_ok {x : V} {u t : Value} (I : Inv X pins σ H s) (rx : RelV x u) (ty : TyOf X.K H x t) (e : PySem.W.kitOne X.K t c = some b) (h : ∀ tk, Q (.bool b) { s with toks := tk }) :
    wpAny (model X.prog X.w) A (call (.builtin "isinstance") [u, c]) Q E s := by
  cases ty with
  | non => cases (show u = Value.none from rx); exact PySem.W.kia_one PySem.W.kitx_none I.kIn True.intro e (fun z => nomatch z) h
  | bl y => cases (show u = Value.bool y from rx); exact PySem.W.kia_one PySem.W.kitx_bool I.kIn True.intro e (fun z => nomatch z) h
  | int i => obtain ⟨t, q⟩ := (show ∃ t, u = Value.int i t from rx); cases q; exact PySem.W.kia_one PySem.W.kitx_int I.kIn True.intro e (fun z => nomatch z) h
  | str y => obtain ⟨t, q⟩ := (show ∃ t, u = Value.str y t from rx); cases q; exact PySem.W.kia_one PySem.W.kitx_str I.kIn True.intro e (fun z => nomatch z) h
  | flt y => obtain ⟨t, q⟩ := (show ∃ t, u = Value.float y t from rx); cases q; exact PySem.W.kia_one PySem.W.kitx_float I.kIn True.intro e (fun z => nomatch z) h
  | @lst a xs ea =>
    cases (show u = Value.ref a from rx)
    obtain ⟨_, _, n, _, h1⟩ := (show ObjOk X.prog X.w H s.heap a (.lst xs) from I.hok a _ ea)
    exact PySem.W.kia_one PySem.W.kitx_list I.kIn ⟨_, h1, rfl⟩ e (fun z => nomatch z) h
  | @frz a ob xs ea =>
    cases (show u = Value.ref a from rx)
    obtain ⟨_, _, _, n, _, h1⟩ := (show ObjOk X.prog X.w H s.heap a (.frz ob (.lst xs)) from I.hok a _ ea)
    exact PySem.W.kia_one PySem.W.kitx_list I.kIn ⟨_, h1, rfl⟩ e (fun z => nomatch z) h
  | @tup a xs ea =>
    cases (show u = Value.ref a from rx)
    obtain ⟨_, _, _, p⟩ := (show ObjOk X.prog X.w H s.heap a (.tup xs) from I.hok a _ ea)
    obtain ⟨o, h1, h2, _⟩ := p
    exact PySem.W.kia_one PySem.W.kitx_tuple I.kIn ⟨o, h1, h2⟩ e (fun z => nomatch z) h
  | @dK a kvs ea =>
    cases (show u = Value.ref a from rx)
    obtain ⟨_, _, vs, _, p⟩ := (show ObjOk X.prog X.w H s.heap a (.dK kvs) from I.hok a _ ea)
    obtain ⟨o, es, ep, h1, h2, _⟩ := p
    exact PySem.W.kia_one PySem.W.kitx_dict I.kIn ⟨o, h1, h2.1⟩ e (fun z => nomatch z) h
  | @dT a kvs ea =>
    cases (show u = Value.ref a from rx)
    obtain ⟨_, _, xs, _, o, es, ep, h1, h2, _⟩ := (show ObjOk X.prog X.w H s.heap a (.dT kvs) from I.hok a _ ea)
    exact PySem.W.kia_one PySem.W.kitx_dict I.kIn ⟨o, h1, h2.1⟩ e (fun z => nomatch z) h
  | @dZ a zs kvs ea =>
    cases (show u = Value.ref a from rx)
    obtain ⟨_, _, xs, _, o, es, ep, h1, h2, _⟩ := (show ObjOk X.prog X.w H s.heap a (.dZ zs kvs) from I.hok a _ ea)
    exact PySem.W.kia_one PySem.W.kitx_dict I.kIn ⟨o, h1, h2.1⟩ e (fun z => nomatch z) h
  | @dN a zs kvs ea =>
    cases (show u = Value.ref a from rx)
    obtain ⟨_, _, xs, _, o, es, ep, h1, h2, _⟩ := (show ObjOk X.prog X.w H s.heap a (.dN zs kvs) from I.hok a _ ea)
    exact PySem.W.kia_one PySem.W.kitx_dict I.kIn ⟨o, h1, h2.1⟩ e (fun z => nomatch z) h
  | @ins a C dx fs ea cl ha hn htk hm =>
    cases (show u = Value.ref a from rx)
    obtain ⟨mA, O, _⟩ := ins_get I.hok ea
    obtain ⟨od, J, _⟩ := O.look
    exact PySem.W.kia_one (PySem.W.kitx_own (cl.get _) cl.hd ha hn htk hm) I.kIn J e (fun z => nomatch z) h
end
end L2

namespace L2
open PySem PySem.Spec PyProof.Rows

structure Room (k : Nat) (A : Around) : Prop where
  hd : A.handled = none
  dp : A.depth + 3 * k + 5 < recursionLimit
  un : A.units + 16 * k + 200 < cLine
  gd : A.guards = some []
theorem Room.mono {j k : Nat} {A : Around} (r : Room k A) (h : j ≤ k) : Room j A := ⟨r.hd, by have := r.dp; omega, by have := r.un; omega, r.gd⟩
theorem Room.deeper {k : Nat} {A : Around} (r : Room (k + 1) A) (env : Env) : Room k (A.deeper env) :=
  ⟨r.hd, by have := r.dp; show A.depth + 1 + 3 * k + 5 < _; omega, by have := r.un; show A.units + 3 + 16 * k + 200 < _; omega, r.gd⟩
theorem Room.in1 {k : Nat} {A : Around} (r : Room (k + 1) A) : Room k A.in1 :=
  ⟨r.hd, by have := r.dp; show A.depth + 3 * k + 5 < _; omega, by have := r.un; show A.units + 1 + 16 * k + 200 < _; omega, r.gd⟩
theorem make_depth {A : Around} {C : Addr} {us : List Value} {kw : List (Str × Value)} : (A.under (.builtin "type.__call__" ⟨.ref C :: us, kw⟩)).depth = A.depth + 1 := by
  first | rfl | simp [Around.under, Code.weight, Code.isCreation, Code.isGuard, Code.isCaller, Code.frames, Code.isFrame, guardIds]
theorem make_units {A : Around} {C : Addr} {us : List Value} {kw : List (Str × Value)} : (A.under (.builtin "type.__call__" ⟨.ref C :: us, kw⟩)).units = A.units + 1 := by
  first | rfl | simp [Around.under, Code.cUnits, Code.frames, Code.isFrame]
theorem make_guards {A : Around} {C : Addr} {us : List Value} {kw : List (Str × Value)} : (A.under (.builtin "type.__call__" ⟨.ref C :: us, kw⟩)).guards = A.guards := by
  unfold Around.under
  dsimp only
  rw [pushGuards_eq]
  have : (Code.builtin "type.__call__" ⟨.ref C :: us, kw⟩).guards = [] := by
    unfold Code.guards
    have e : (Code.builtin "type.__call__" ⟨.ref C :: us, kw⟩).isGuard = false := by
      show guardIds.contains "type.__call__" = false
      decide +kernel
    rw [e]; rfl
  rw [this]
  cases A.guards <;> simp
theorem Room.make {k : Nat} {A : Around} (r : Room (k + 1) A) (C : Addr) (us : List Value) (kw : List (Str × Value)) : Room k (A.under (.builtin "type.__call__" ⟨.ref C :: us, kw⟩)) :=
  ⟨r.hd, by have := r.dp; rw [make_depth]; omega, by have := r.un; rw [make_units]; omega, by rw [make_guards]; exact r.gd⟩
theorem Room.depth {k : Nat} {A : Around} (r : Room k A) : A.depth < recursionLimit := by have := r.dp; omega
theorem Room.units {k : Nat} {A : Around} (r : Room k A) : A.units + 64 < cLine := by have := r.un; omega
noncomputable def tNil : TA := fun _ H Q => Q [] H
noncomputable def tCons (ta : TE) (tr : TA) : TA := fun σ H Q => ta σ H fun x H1 => tr σ H1 fun xs H2 => Q (x :: xs) H2
section
variable {X : Cx} {e : Expr} {es : List Expr} {te : TE} {t : TA} {pos : Pos}
theorem pa_nil : PA X [] tNil := fun _ _ _ _ H Q I h => Calls.spliced_nil ⟨[], H, I, .nil, h⟩
theorem pa_cons (ha : PE X e te) (hr : PA X es t) (hs : starEach (e :: es) X.env = (false, eval e X.env) :: starEach es X.env := by rfl) : PA X (e :: es) (tCons te t) := by
  intro pos pins s σ H Q I h
  rw [hs]
  show wpAny _ _ (spliced ((false, eval e X.env) :: backTo pos (starEach es X.env))) _ _ s
  refine Calls.spliced_cons (thn (ha pins s σ H _ I h) fun u s1 hpat => ?_)
  obtain ⟨x, H1, I1, r1, q1⟩ := hpat
  exact thn (hr pos pins s1 σ H1 _ I1 q1) fun us s2 hp2 => by obtain ⟨xs, H2, I2, r2, q2⟩ := hp2; exact ⟨x :: xs, H2, I2, .cons r1 r2, q2⟩

noncomputable def tTup (t : TA) : TE := fun σ H Q => t σ H fun xs H1 => xs.length ≤ sizeLine ∧ ∀ p, H1 p = none → Q (.ref p) (upd H1 p (.tup xs))
noncomputable def tLst (t : TA) : TE := fun σ H Q => t σ H fun xs H1 => xs.length ≤ sizeLine ∧ ∀ p, H1 p = none → Q (.ref p) (upd H1 p (.lst xs))
theorem pe_tup {x1} (h : PA X es t) : PE X (.Tuple es x1 pos) (tTup t) := by
  intro pins s σ H Q I hq
  refine wpAny_Tuple_spliced (thn (h pos pins s σ H _ I hq) fun us s1 ⟨xs, H1, I1, r, z, q⟩ => ⟨by rw [← r.length]; exact z, ?_⟩)
  have hf : H1 s1.heap.objs.size = none := I1.hok.fresh (Nat.le_refl _)
  refine ⟨.ref s1.heap.objs.size, upd H1 s1.heap.objs.size (.tup xs), I1.laid (t' := s1.toks) (fun b u e => Heap.get?_push_of_some _ e) (Nat.le_refl _) ?_, rfl, q _ hf⟩
  exact ⟨z, us, r, ⟨_, Heap.get?_push_size _ rfl, rfl, _, rfl⟩⟩
theorem pe_lst (h : PA X es t) : PE X (.List es pos) (tLst t) := by
  intro pins s σ H Q I hq
  refine wpAny_List_spliced (thn (h pos pins s σ H _ I hq) fun us s1 ⟨xs, H1, I1, r, z, q⟩ => ⟨by rw [← r.length]; exact z, ?_⟩)
  have hf : H1 s1.heap.objs.size = none := I1.hok.fresh (Nat.le_refl _)
  refine ⟨.ref s1.heap.objs.size, upd H1 s1.heap.objs.size (.lst xs), I1.laid (t' := s1.toks) (fun b u e => Heap.get?_push_of_some _ e) (Nat.le_refl _) ?_, rfl, q _ hf⟩
  exact ⟨z, us, 0, r, Heap.get?_push_size _ rfl⟩
end

noncomputable abbrev Sp := List V → Hp → VK → XK → Prop
noncomputable abbrev CXT := List Env → Hp → Shared → XK → Value → Shared → Prop

structure Env0 (P : Program) (w : World) (K : PySem.W.Frag) (mg : Str → Option Value) (base : Heap) (A : Around) (outer : List Env) (s : Shared) (H : Hp) : Prop where
  frames : A.frames = some outer
  mod : Mod K mg base
  bs : ∀ b o, base.get? b = some o → s.heap.get? b = some o ∧ H b = none
  bsz : base.objs.size ≤ s.heap.objs.size
  funs : s.heap.FunFrames base outer
  frf : ∀ b ∈ frs outer, H b = none
  hok : HOk P w H s.heap
  bare : AllBare s.gens
noncomputable def CE (outer : List Env) (P : Program) (w : World) (H : Hp) (s : Shared) (Q : VK) (u : Value) (s' : Shared) : Prop :=
  ∃ v H', s'.os = s.os ∧ AllBare s'.gens ∧ Un (frs outer) [] H H' s.heap s'.heap ∧ HOk P w H' s'.heap ∧ RelV v u ∧ Q v H'
noncomputable def CR (CX : CXT) (outer : List Env) (P : Program) (w : World) (H : Hp) (s : Shared) (Q : VK) (E : XK) (r : Result) (s' : Shared) : Prop :=
  match r with
  | .ok (.ret u) => CE outer P w H s Q u s'
  | .ok _ => False
  | .error e => CX outer H s E e s'
structure FnOk (P : Program) (w : World) (K : PySem.W.Frag) (mg : Str → Option Value) (base : Heap) (CX : CXT) (k : Nat) (f : Addr) (fd : FuncData) (ps : List Str) (sp : Sp) : Prop where
  len : ∀ vs H Q E, sp vs H Q E → vs.length = ps.length
  run : ∀ (A : Around) (outer : List Env) (s : Shared) (H : Hp) (args : Args) (us : List Value) (vs : List V) (Q : VK) (E : XK), Room k A → Env0 P w K mg base A outer s H → BindsTo s fd args (ps.zip us) → Vals vs us → sp vs H Q E →
    codeAny (model P w) A (.call (.ref f) args) (CR CX outer P w H s Q E) s
theorem FnOk.mono {P : Program} {w : World} {K : PySem.W.Frag} {mg : Str → Option Value} {base : Heap} {CX : CXT} {j k : Nat} {f : Addr} {fd : FuncData} {ps : List Str} {sp : Sp} (F : FnOk P w K mg base CX j f fd ps sp) (h : j ≤ k) :
    FnOk P w K mg base CX k f fd ps sp := ⟨F.len, fun A outer s H args us vs Q E hr => F.run A outer s H args us vs Q E (hr.mono h)⟩
theorem FnOk.imp {P : Program} {w : World} {K : PySem.W.Frag} {mg : Str → Option Value} {base : Heap} {CX : CXT} {k : Nat} {f : Addr} {fd : FuncData} {ps : List Str} {sp sp' : Sp} (F : FnOk P w K mg base CX k f fd ps sp)
    (h : ∀ vs H Q E, sp' vs H Q E → sp vs H Q E) : FnOk P w K mg base CX k f fd ps sp' :=
  ⟨fun vs H Q E q => F.len vs H Q E (h _ _ _ _ q), fun A outer s H args us vs Q E hr he hb hv hs => F.run A outer s H args us vs Q E hr he hb hv (h _ _ _ _ hs)⟩

theorem Env0.make {P : Program} {w : World} {K : PySem.W.Frag} {mg : Str → Option Value} {base : Heap} {A : Around} {outer : List Env} {s : Shared} {H : Hp} (e : Env0 P w K mg base A outer s H) (C : Addr) (us : List Value) (kw : List (Str × Value)) :
    Env0 P w K mg base (A.under (.builtin "type.__call__" ⟨.ref C :: us, kw⟩)) outer s H := ⟨by first | exact e.frames | (simpa [Around.under, Code.envs, Code.isFrame, pushEnvs] using e.frames), e.mod, e.bs, e.bsz, e.funs, e.frf, e.hok, e.bare⟩
theorem Env0.in1 {P : Program} {w : World} {K : PySem.W.Frag} {mg : Str → Option Value} {base : Heap} {A : Around} {outer : List Env} {s : Shared} {H : Hp} (e : Env0 P w K mg base A outer s H) :
    Env0 P w K mg base A.in1 outer s H := ⟨e.frames, e.mod, e.bs, e.bsz, e.funs, e.frf, e.hok, e.bare⟩

section
variable {X : Cx} {pins : List (Addr × Obj)} {σ : St} {H : Hp} {s s' : Shared}
theorem Inv.env0 (I : Inv X pins σ H s) : Env0 X.prog X.w X.K X.mg X.base X.A X.stack s H :=
  ⟨I.ok.frames, I.ok.mod, I.bs, Nat.le_trans I.ok.bsz I.sz, I.stack, I.stkFree, I.hok, I.bare⟩
theorem Inv.after {Q : VK} {u : Value} (I : Inv X pins σ H s) (h : CE X.stack X.prog X.w H s Q u s') : EP X pins σ Q u s' := by
  obtain ⟨v, H', os, bare, un, hok, r, q⟩ := h
  obtain ⟨hh, g, d, t, os'⟩ := s'
  obtain rfl : os' = s.os := os
  exact ⟨v, H', I.call (h' := hh) (g' := g) (d' := d) (t' := t) (ch := []) un hok bare (fun b z => absurd z (by simp)), r, q⟩
end

noncomputable def tCall (sp : Sp) (dvs : List V) (E : XK) (t : TA) : TE := fun σ H Q => t σ H fun vs H1 => sp (vs ++ dvs) H1 Q E
noncomputable def tMeth (C : Addr) (m : Str) (sp : Sp) (dvs : List V) (E : XK) (ta : TE) (t : TA) : TE := fun σ H Q => ta σ H fun x H1 => ExQ Q (fun a Q => ExQ Q (fun dx Q => ExQ Q (fun fs Q => x = .ref a ∧ H1 a = some (.ins C dx fs) ∧ fs.lookup m = none ∧
  t σ H1 fun vs H2 => sp (x :: (vs ++ dvs)) H2 Q E)))
noncomputable def tMake (C : Addr) (sp : Sp) (dvs : List V) (E : XK) (t : TA) : TE := fun σ H Q => t σ H fun vs H1 => ∀ x dx, H1 x = none → H1 dx = none → dx ≠ x →
  sp (.ref x :: (vs ++ dvs)) (upd (upd H1 dx (.own x)) x (.ins C dx [])) (fun v H2 => v = .non ∧ Q (.ref x) H2) E

noncomputable def Binds (K : PySem.W.Frag) (fd : FuncData) (ps : List Str) (ds : List Value) : Prop :=
  ∀ (s : Shared) (us : List Value), K.In s.heap → (us ++ ds).length = ps.length → BindsTo s fd ⟨us, []⟩ (ps.zip (us ++ ds))
theorem Binds.all {K : PySem.W.Frag} {fd : FuncData} {ps : List Str} (h : ∀ us : List Value, us.length = ps.length → bindArgs fd ⟨us, []⟩ = pure (ps.zip us)) : Binds K fd ps [] := fun s us _ hl => by
  rw [List.append_nil] at hl ⊢
  exact .of_eq (h us hl)

noncomputable def Passes (CX : CXT) (X : Cx) (E : XK) : Prop := ∀ (pins : List (Addr × Obj)) (σ : St) (H : Hp) (s : Shared) (e : Value) (s' : Shared), Inv X pins σ H s → CX X.stack H s E e s' → X.xe e s'

section
variable {X : Cx} {CX : CXT} {k : Nat} {f C : Addr} {fd : FuncData} {ps : List Str} {sp : Sp} {dvs : List V} {ds : List Value} {E : XK} {x m : Str} {p pos apos : Pos} {e o : Expr} {es : List Expr} {ta : TE} {t : TA}

theorem run_fn {pins : List (Addr × Obj)} {σ : St} {H : Hp} {s : Shared} {Q : VK} {us : List Value} {vs : List V} (F : FnOk X.prog X.w X.K X.mg X.base CX k f fd ps sp) (hr : Room k X.A) (hb : Binds X.K fd ps ds) (hd : Vals dvs ds) (hx : Passes CX X E)
    (I : Inv X pins σ H s) (r : Vals vs us) (h : sp (vs ++ dvs) H Q E) : wpAny (model X.prog X.w) X.A (call (.ref f) us) (EP X pins σ Q) X.xe s := by
  have r2 : Vals (vs ++ dvs) (us ++ ds) := r.append hd
  have hl : (us ++ ds).length = ps.length := by rw [← r2.length]; exact F.len _ _ _ _ h
  refine wpAny_call (codeAny_mono (F.run X.A X.stack s H ⟨us, []⟩ (us ++ ds) (vs ++ dvs) Q E hr I.env0 (hb s us I.kIn hl) r2 h) fun r s' hq => ?_)
  cases r with
  | error e => exact hx pins σ H s e s' I hq
  | ok fl =>
    cases fl with
    | ret u => exact I.after hq
    | next => exact False.elim hq
    | brk => exact False.elim hq
    | cont => exact False.elim hq

theorem pe_call (F : FnOk X.prog X.w X.K X.mg X.base CX k f fd ps sp) (hr : Room k X.A) (hg : Gl X x) (hm : X.mg x = some (.ref f)) (hk : PySem.W.keepIn X.K (.ref f) = true) (hb : Binds X.K fd ps ds) (hd : Vals dvs ds) (hx : Passes CX X E)
    (ha : PA X (e :: es) t) (hdb : (x == ("__debug__" : Str)) = false := by decide) (he : starEach (e :: es) X.env = (false, eval e X.env) :: starEach es X.env := by rfl) (hpl : (backTo pos (starEach es X.env)).any (·.1) = false := by rfl) :
    PE X (.Call (.Name x p) (e :: es) [] pos) (tCall sp dvs E t) := by
  intro pins s σ H Q I h
  refine wpAny_Call_Name_kw (ld_glob I hg hm ?_ hdb)
  refine PySem.W.callWith_K (h₀ := X.base) I.ok.mod.kin hk (thn (ha pos pins s σ H _ I h) fun us s1 hpat => ?_) he hpl
  obtain ⟨vs, H1, I1, r, q⟩ := hpat
  refine ⟨I1.kIn, ?_⟩
  exact run_fn F hr hb hd hx I1 r q
theorem pe_meth {pl : Sem Bool} (he : PE X o ta) (c : Cls X.K C) (hm : Meth X.K C m f) (F : FnOk X.prog X.w X.K X.mg X.base CX k f fd ps sp) (hr : Room k X.A) (hb : Binds X.K fd ps ds) (hd : Vals dvs ds) (hx : Passes CX X E) (ha : PA X (e :: es) t)
    (hst : starEach (e :: es) X.env = (false, eval e X.env) :: starEach es X.env := by rfl) (hpl : (backTo pos (starEach es X.env)).any (·.1) = false := by rfl)
    (ht : eval (.Call (.Attribute o m apos) (e :: es) [] pos) X.env = (do
      let ov ← eval o X.env
      standAt apos.atName
      let (f, first) ← holding [ov] (getMethod ov m pl)
      callWith pos f first (backTo pos (starEach (e :: es) X.env)) (backToKw pos (keywordEach [] X.env))) := by rfl) :
    PE X (.Call (.Attribute o m apos) (e :: es) [] pos) (tMeth C m sp dvs E ta t) := by
  intro pins s σ H Q I h
  refine PySem.W.methodCall_KW (pl := pl) (thn (he pins s σ H _ I h) fun u s1 hpat => ?_) ht
  obtain ⟨x, H1, I1, rx, a, dx, fs, ex, ea, l, q⟩ := hpat
  subst ex
  obtain rfl : u = Value.ref a := rx
  refine getmeth_ok I1 ea c hm l ?_
  refine PySem.W.callWith_K (first := [.ref a]) (h₀ := X.base) I.ok.mod.kin hm.kp (thn (ha pos pins s1 σ H1 _ I1 q) fun us s2 hpat => ?_) hst hpl
  obtain ⟨vs, H2, I2, r, q2⟩ := hpat
  refine ⟨I2.kIn, ?_⟩
  exact run_fn (us := .ref a :: us) (vs := .ref a :: vs) F hr hb hd hx I2 (.cons rfl r) q2
structure Mk (K : PySem.W.Frag) (C f : Addr) : Prop where
  makes : PySem.W.makesIn K C = true
  init : PySem.W.findIn K (.ref C) "__init__" = some (some (.ref f))
  fn : PySem.W.isFn K (.ref f) = true
  kp : PySem.W.keepIn K (.ref C) = true

theorem run_make {pins : List (Addr × Obj)} {σ : St} {H : Hp} {s : Shared} {Q : VK} {us : List Value} {vs : List V} (M : Mk X.K C f) (F : FnOk X.prog X.w X.K X.mg X.base CX k f fd ps sp) (hr : Room (k + 1) X.A) (hb : Binds X.K fd ps ds) (hd : Vals dvs ds)
    (hx : Passes CX X E) (I : Inv X pins σ H s) (r : Vals vs us)
    (h : ∀ x dx, H x = none → H dx = none → dx ≠ x → sp (.ref x :: (vs ++ dvs)) (upd (upd H dx (.own x)) x (.ins C dx [])) (fun v H2 => v = .non ∧ Q (.ref x) H2) E) :
    wpAny (model X.prog X.w) X.A (call (.ref C) us) (EP X pins σ Q) X.xe s := by
  have hq := h (s.heap.objs.size + 1) s.heap.objs.size (I.hok.fresh (Nat.le_succ _)) (I.hok.fresh (Nat.le_refl _)) (Nat.ne_of_lt (Nat.lt_succ_self _))
  have I2 := Inv.made (C := C) I
  have r2 : Vals (V.ref (s.heap.objs.size + 1) :: (vs ++ dvs)) (Value.ref (s.heap.objs.size + 1) :: (us ++ ds)) := .cons rfl (r.append hd)
  have hl : (Value.ref (s.heap.objs.size + 1) :: us ++ ds).length = ps.length := by
    have e := r2.length
    rw [F.len _ _ _ _ hq] at e
    exact e.symm
  refine wpAny_call (make_map (f := f) I.kIn M.makes M.init (beq_iff_eq.mp M.fn) (codeAny_mono (F.run _ X.stack _ _ ⟨Value.ref (s.heap.objs.size + 1) :: us, []⟩ (Value.ref (s.heap.objs.size + 1) :: (us ++ ds)) _ _ E (hr.make C us [])
    (I2.env0.make C us []) (hb _ (Value.ref (s.heap.objs.size + 1) :: us) I2.kIn hl) r2 hq) fun r s' hq' => ?_))
  cases r with
  | error e => exact hx pins σ _ _ e s' I2 hq'
  | ok fl =>
    cases fl with
    | ret u =>
      obtain ⟨v, H', I3, rv, ev, q3⟩ := I2.after hq'
      subst ev
      exact ⟨rv, ⟨V.ref (s.heap.objs.size + 1), H', I3, rfl, q3⟩⟩
    | next => exact False.elim hq'
    | brk => exact False.elim hq'
    | cont => exact False.elim hq'
theorem pe_make (M : Mk X.K C f) (F : FnOk X.prog X.w X.K X.mg X.base CX k f fd ps sp) (hr : Room (k + 1) X.A) (hg : Gl X x) (hm : X.mg x = some (.ref C)) (hb : Binds X.K fd ps ds) (hd : Vals dvs ds) (hx : Passes CX X E)
    (ha : PA X (e :: es) t) (hdb : (x == ("__debug__" : Str)) = false := by decide) (he : starEach (e :: es) X.env = (false, eval e X.env) :: starEach es X.env := by rfl) (hpl : (backTo pos (starEach es X.env)).any (·.1) = false := by rfl) :
    PE X (.Call (.Name x p) (e :: es) [] pos) (tMake C sp dvs E t) := by
  intro pins s σ H Q I h
  refine wpAny_Call_Name_kw (ld_glob I hg hm ?_ hdb)
  refine PySem.W.callWith_K (h₀ := X.base) I.ok.mod.kin M.kp (thn (ha pos pins s σ H _ I h) fun us s1 hpat => ?_) he hpl
  obtain ⟨vs, H1, I1, r, q⟩ := hpat
  refine ⟨I1.kIn, ?_⟩
  exact run_make M F hr hb hd hx I1 r q
end

section
variable {X : Cx} {CX : CXT} {k : Nat} {f C : Addr} {fd : FuncData} {ps ks : List Str} {sp : Sp} {E : XK} {x m : Str} {p pos apos kpos : Pos} {e o : Expr} {es : List Expr} {kws : List Keyword} {te ta : TE} {t tk : TA} {nm : Option Str}
structure KBinds (K : PySem.W.Frag) (fd : FuncData) (ps ks : List Str) (g : List Value → List Value → List Value) (gV : List V → List V → List V) : Prop where
  to : ∀ (s : Shared) (us ws : List Value), K.In s.heap → (g us ws).length = ps.length → BindsTo s fd ⟨us, ks.zip ws⟩ (ps.zip (g us ws))
  rel : ∀ {vs : List V} {us : List Value} {zs : List V} {ws : List Value}, Vals vs us → Vals zs ws → Vals (gV vs zs) (g us ws)
variable {g : List Value → List Value → List Value} {gV : List V → List V → List V}
end

structure FnScope (N P : List Str) (sc : Scope) : Prop where
  kind : sc.kind = .function
  co : sc.isCoroutine = false
  gen : sc.isGenerator = false
  nd : N.Nodup
  pre : N.take P.length = P
  par : ∀ x ∈ P, sc.names.lookup x = some .local ∨ sc.names.lookup x = some .cell
  nofree : ∀ y ∈ sc.names, y.2 ≠ .free

theorem bindL_out {kindOf : Str → Option NameKind} {x : Str} : ∀ {binds : List (Str × Value)} {m : Str → Option Value}, (∀ v, (x, v) ∉ binds) → bindL kindOf binds m x = m x
  | [], _, _ => rfl
  | (n, v) :: r, m, h => by
    unfold bindL
    rw [bindL_out fun w hw => h w (List.mem_cons_of_mem _ hw)]
    split
    · have : x ≠ n := by rintro rfl; exact h v List.mem_cons_self
      simp [this]
    · rfl
theorem bindC_out {kindOf : Str → Option NameKind} {x : Str} : ∀ {binds : List (Str × Value)} {m : Str → Option Value}, (∀ v, (x, v) ∉ binds) → bindC kindOf binds m x = m x
  | [], _, _ => rfl
  | (n, v) :: r, m, h => by
    unfold bindC
    rw [bindC_out fun w hw => h w (List.mem_cons_of_mem _ hw)]
    split
    · rfl
    · have : x ≠ n := by rintro rfl; exact h v List.mem_cons_self
      simp [this]
theorem bindL_get {kindOf : Str → Option NameKind} {x : Str} {v : Value} : ∀ {P : List Str} {vs : List Value} {i : Nat} {m : Str → Option Value}, P.Nodup → P[i]? = some x → vs[i]? = some v → kindOf x = some .local →
    bindL kindOf (P.zip vs) m x = some v
  | [], _, _, _, _, h, _, _ => by simp at h
  | _ :: _, [], _, _, _, _, h, _ => by simp at h
  | p :: P, w :: vs, 0, m, nd, h1, h2, hk => by
    simp at h1 h2; subst h1; subst h2
    show bindL kindOf ((p, w) :: P.zip vs) m p = _
    unfold bindL
    rw [bindL_out fun v hv => (List.nodup_cons.mp nd).1 (List.of_mem_zip hv).1, if_pos hk]
    simp
  | p :: P, w :: vs, i + 1, m, nd, h1, h2, hk => by
    show bindL kindOf ((p, w) :: P.zip vs) m x = _
    unfold bindL
    exact bindL_get (i := i) (List.nodup_cons.mp nd).2 (by simpa using h1) (by simpa using h2) hk
theorem bindC_get {kindOf : Str → Option NameKind} {x : Str} {v : Value} : ∀ {P : List Str} {vs : List Value} {i : Nat} {m : Str → Option Value}, P.Nodup → P[i]? = some x → vs[i]? = some v → kindOf x ≠ some .local →
    bindC kindOf (P.zip vs) m x = some v
  | [], _, _, _, _, h, _, _ => by simp at h
  | _ :: _, [], _, _, _, _, h, _ => by simp at h
  | p :: P, w :: vs, 0, m, nd, h1, h2, hk => by
    simp at h1 h2; subst h1; subst h2
    show bindC kindOf ((p, w) :: P.zip vs) m p = _
    unfold bindC
    rw [bindC_out fun v hv => (List.nodup_cons.mp nd).1 (List.of_mem_zip hv).1, if_neg hk]
    simp
  | p :: P, w :: vs, i + 1, m, nd, h1, h2, hk => by
    show bindC kindOf ((p, w) :: P.zip vs) m x = _
    unfold bindC
    exact bindC_get (i := i) (List.nodup_cons.mp nd).2 (by simpa using h1) (by simpa using h2) hk

noncomputable def start (N : List Str) (vs : List V) : St := vs.map some ++ List.replicate (N.length - vs.length) none

noncomputable def cxOf (CX : CXT) (P : Program) (w : World) (K : PySem.W.Frag) (mg : Str → Option Value) (base : Heap) (N : List Str) (qual : Str) (scope : Scope) (f : Addr) (cd : Value) (A : Around) (outer : List Env) (s : Shared) (H : Hp) (E : XK) : Cx where
  prog := P
  w := w
  K := K
  mg := mg
  base := base
  A := A.deeper (envOfC qual scope s.heap.objs.size f cd)
  N := N
  s₀ := s
  H₀ := H
  env := envOfC qual scope s.heap.objs.size f cd
  outer := outer
  stack := envOfC qual scope s.heap.objs.size f cd :: outer
  ex := []
  calm := true
  fn := fun _ => true
  pn := []
  xe := fun e s' => wpAny (model P w) (A.deeper (envOfC qual scope s.heap.objs.size f cd)) (leaving (envOfC qual scope s.heap.objs.size f cd) e) (fun _ s'' => CX outer H s E e s'') (fun e' s'' => CX outer H s E e' s'') s'

theorem cell_has {sc : Scope} {n : Nat} {x : Str} (h : sc.names.lookup x = some .cell) : ∃ c, (cellsFrom n sc.names []).lookup x = some c := by
  have q := PySem.W.cellsFrom_some sc.names n [] (.inl h)
  exact Option.isSome_iff_exists.mp q

theorem inv_start {CX : CXT} {P : Program} {w : World} {K : PySem.W.Frag} {mg : Str → Option Value} {base : Heap} {N ps : List Str} {qual : Str} {scope : Scope} {f : Addr} {cd : Value} {A : Around} {outer : List Env} {s s1 : Shared} {H : Hp} {E : XK} {us : List Value} {vs : List V}
    (S : FnScope N ps scope) (hd : A.handled = none) (e0 : Env0 P w K mg base A outer s H) (hl : vs.length = ps.length) (r : Vals vs us)
    (x : InCallC s s.heap.objs.size (bindL (envOfC qual scope s.heap.objs.size f cd).kindOf (ps.zip us) fun _ => none) (cellsFrom (s.heap.objs.size + 1) scope.names []) (bindC (envOfC qual scope s.heap.objs.size f cd).kindOf (ps.zip us) fun _ => none) s1) :
    Inv (cxOf CX P w K mg base N qual scope f cd A outer s H E) [] (start N vs) H s1 := by
  have hpl : ps.length ≤ N.length := by have := congrArg List.length S.pre; rw [List.length_take] at this; omega
  obtain ⟨h1, tk, rfl, hk⟩ := x.done
  have noA : ∀ b : Addr, b ∉ (cxOf CX P w K mg base N qual scope f cd A outer s H E).ex := fun b z => absurd (show b ∈ ([] : List Addr) from z) (by simp)
  refine ⟨⟨e0.mod, S.kind, rfl, rfl, Nat.le_refl _, fun y z c h1 h2 => ?_, fun y hy => ?_, fun y c _ h => ?_, fun _ => hd, Around.frames_deeper e0.frames, .inr ⟨rfl, rfl⟩, fun b z => absurd z (noA b), e0.bs, e0.bsz, fun b _ _ => noA b, fun b z => absurd z (noA b), e0.funs, e0.frf⟩,
    rfl, e0.bare, Un.kept hk, ⟨_, x.toInCall.ns, fun i y v h1 h2 h3 => ?_⟩, fun y c h => ⟨_, x.cell y c h⟩, e0.hok.fresh (Nat.le_refl _), fun y c h => ?_, fun p hp => absurd (show p ∈ ([] : List (Addr × Obj)) from hp) (by simp), e0.hok.kept hk, ?_⟩
  · exact name_of_addr x.apart (PySem.mem_of_lookup h1) (PySem.mem_of_lookup h2)
  · have hy : scope.names.lookup y = some .cell ∨ scope.names.lookup y = some .free := hy
    rcases hy with hy | hy
    · exact cell_has hy
    · exact absurd rfl (S.nofree _ (PySem.mem_of_lookup hy))
  · exact Nat.le_of_lt (x.above y c (PySem.mem_of_lookup h))
  · have hi : i < vs.length := by
      unfold start at h2
      by_cases hi : i < vs.length
      · exact hi
      · rw [List.getElem?_append_right (by simpa using hi)] at h2
        rw [List.getElem?_replicate] at h2
        split at h2 <;> cases h2
    have ha : vs[i]? = some v := by
      unfold start at h2
      rw [List.getElem?_append_left (by simpa using hi), List.getElem?_map] at h2
      cases e : vs[i]? with
      | none => rw [e] at h2; cases h2
      | some a => rw [e] at h2; cases h2; rfl
    obtain ⟨u, hu, rv⟩ := r.get ha
    have hp : ps[i]? = some y := by
      rw [← S.pre, List.getElem?_take_of_lt (by omega)]; exact h1
    have ndP : ps.Nodup := by rw [← S.pre]; exact S.nd.sublist (List.take_sublist _ _)
    refine ⟨u, rv, ?_⟩
    rcases S.par y (List.mem_of_getElem? hp) with k | k
    · exact .inl ⟨k, bindL_get ndP hp hu k⟩
    · obtain ⟨c, e⟩ := cell_has (n := s.heap.objs.size + 1) k
      refine .inr ⟨.inl k, c, e, ?_⟩
      have q := x.cell y c e
      rw [bindC_get ndP hp hu (by show scope.names.lookup y ≠ _; rw [k]; decide)] at q
      exact q
  · exact e0.hok.fresh (Nat.le_of_lt (x.above y c (PySem.mem_of_lookup h)))
  · unfold start
    show _ = N.length
    rw [List.length_append, List.length_map, List.length_replicate]
    omega

theorem fn_of {CX : CXT} {P : Program} {w : World} {K : PySem.W.Frag} {mg : Str → Option Value} {base : Heap} {k : Nat} {f : Addr} {name qual : Str} {params : Arguments} {body : List Stmt} {scope : Scope} {dV kV doc pm cdv ct oc : Value} {an od : Option Addr}
    {osl : Array (Option Value)} {N ps : List Str} {sp : Sp} (lk : K.lookup f = some ⟨oc, od, .func (PySem.W.fnOf name qual params body scope dV kV doc pm an cdv ct), osl⟩) (hcd : PySem.W.codeIn K cdv qual = true) (S : FnScope N ps scope)
    (len : ∀ vs H Q E, sp vs H Q E → vs.length = ps.length)
    (hbody : ∀ (A : Around) (outer : List Env) (s : Shared) (H : Hp) (vs : List V) (Q : VK) (E : XK), Room k (A.deeper (envOfC qual scope s.heap.objs.size f cdv)) → sp vs H Q E →
      ∃ t, PSs (cxOf CX P w K mg base N qual scope f cdv A outer s H E) body t ∧ t { nx := fun _ H' => Q .non H', rt := Q } (start N vs) H) :
    FnOk P w K mg base CX (k + 1) f (PySem.W.fnOf name qual params body scope dV kV doc pm an cdv ct) ps sp := by
  refine ⟨len, fun A outer s H args us vs Q E hr e0 hb r hsp => ?_⟩
  have hl := len _ _ _ _ hsp
  have KX : K.In s.heap := e0.mod.kin.keeps fun b o e => (e0.bs b o e).1
  have lim : s.heap.NoLimit := e0.mod.nolimit.keeps fun b o e => (e0.bs b o e).1
  have hkind : ∀ y ∈ ps.zip us, scope.names.lookup y.1 = some .local ∨ (scope.names.lookup y.1 = some .cell ∧ ((cellsFrom (s.heap.objs.size + 1) scope.names []).lookup y.1).isSome = true) := fun ⟨n, v⟩ hy => by
    rcases S.par n (List.of_mem_zip hy).1 with q | q
    · exact .inl q
    · exact .inr ⟨q, PySem.W.cellsFrom_some _ _ _ (.inl q)⟩
  refine codeAny_call_function hr.depth (KX _ _ lk) rfl S.co S.gen rfl (PySem.W.codeRec_of KX hcd) (hb _ _ _ _ ?_)
  refine wpAny_newFunctionEnv_cells S.kind hkind fun env he s1 x => ?_
  subst he
  refine ⟨lim.keeps x.toInCall.keep, codeAny_func ?_⟩
  obtain ⟨t, ht, hq⟩ := hbody A outer s H vs Q E (hr.deeper _) hsp
  have I : Inv (cxOf CX P w K mg base N qual scope f cdv A outer s H E) [] (start N vs) H s1 := inv_start S hr.hd e0 hl r x
  refine wpAny_mono (ht [] s1 (start N vs) H _ I hq) (fun fl s' hs => ?_) fun e s' hs => hs
  have fin : ∀ {σ' : St} {H' : Hp} {v : V} {u : Value}, Inv (cxOf CX P w K mg base N qual scope f cdv A outer s H E) [] σ' H' s' → RelV v u → Q v H' → CE outer P w H s Q u s' :=
    fun {σ' H' v u} J rv q => ⟨v, H', J.os, J.bare, J.base, J.hok, rv, q⟩
  cases fl with
  | ret u =>
    obtain ⟨v, σ', H', J, rv, q⟩ := hs
    exact fin J rv q
  | next =>
    obtain ⟨σ', H', J, q⟩ := hs
    exact fin (v := V.non) (u := Value.none) J rfl q
  | brk =>
    obtain ⟨_, _, _, q⟩ := hs
    exact False.elim q
  | cont =>
    obtain ⟨_, _, _, q⟩ := hs
    exact False.elim q
end L2

namespace L2
open PySem PySem.Spec PyProof.Rows
section
variable {X : Cx} {x : Str} {p pos : Pos} {e : Expr} {es : List Expr} {t : TA} {id T : String} {r : List V → Hp → VK → Prop}

noncomputable def tCB (r : List V → Hp → VK → Prop) (t : TA) : TE := fun σ H Q => t σ H fun vs H1 => r vs H1 Q
theorem pe_callB (hc : CallR X (.builtin id) r) (hg : Gl X x) (hm : X.mg x = none) (hv : bootBuiltins x = some (.builtin id)) (ha : PA X (e :: es) t) (hn : x ≠ "__name__" := by decide) (hdb : (x == ("__debug__" : Str)) = false := by decide)
    (he : starEach (e :: es) X.env = (false, eval e X.env) :: starEach es X.env := by rfl) (hpl : (backTo pos (starEach es X.env)).any (·.1) = false := by rfl) : PE X (.Call (.Name x p) (e :: es) [] pos) (tCB r t) := by
  intro pins s σ H Q I h
  refine wpAny_Call_Name_kw (ld_blt I hg hm hv ?_ hn hdb)
  exact PyProof.Rows.callWith_builtin1 (thn (ha pos pins s σ H _ I h) fun us s1 hp2 => by obtain ⟨vs, H1, I1, r1, q1⟩ := hp2; exact hc pins s1 σ H1 vs us Q I1 r1 q1) he hpl
theorem pe_callTy (hc : CallR X (.type T) r) (hg : Gl X x) (hm : X.mg x = none) (hv : bootBuiltins x = some (.type T)) (ha : PA X (e :: es) t) (hn : x ≠ "__name__" := by decide) (hdb : (x == ("__debug__" : Str)) = false := by decide)
    (he : starEach (e :: es) X.env = (false, eval e X.env) :: starEach es X.env := by rfl) (hpl : (backTo pos (starEach es X.env)).any (·.1) = false := by rfl) : PE X (.Call (.Name x p) (e :: es) [] pos) (tCB r t) := by
  intro pins s σ H Q I h
  refine wpAny_Call_Name_kw (ld_blt I hg hm hv ?_ hn hdb)
  exact PyProof.Rows.callWith_type1 (thn (ha pos pins s σ H _ I h) fun us s1 hp2 => by obtain ⟨vs, H1, I1, r1, q1⟩ := hp2; exact hc pins s1 σ H1 vs us Q I1 r1 q1) he hpl
end
end L2

namespace HT
open PySem PyProof.Rows

section
open PySem.SeqAt
open PySem.AutoSeq1 (wpAny_loadPart')
open PySem.MeetsSeq PySem.MeetsSeq2 PySem.MeetsSeq3

end

section
variable {prog : Program} {w : World} {A : Around} {E : Value → Shared → Prop} {s : Shared}

noncomputable def sIx (n d : Nat) : Option Int → Nat
  | none => d
  | some v => if v < 0 then (v + (n : Int)).toNat else min v.toNat n
theorem sIx_none (n d : Nat) : sIx n d none = d := rfl
theorem sIx_nat (n d k : Nat) : sIx n d (some (k : Int)) = min k n := by
  show (if (k : Int) < 0 then ((k : Int) + (n : Int)).toNat else min (k : Int).toNat n) = min k n
  rw [if_neg (by omega), Int.toNat_natCast]
end
end HT

namespace L2
open PySem PySem.Spec PyProof.Rows

noncomputable abbrev TO := St → Hp → (Option Int → Hp → Prop) → Prop
noncomputable def PO (X : Cx) (e : Option Expr) (t : TO) : Prop :=
  ∀ (pins : List (Addr × Obj)) (s : Shared) (σ : St) (H : Hp) (Q : Option Int → Hp → Prop), Inv X pins σ H s → t σ H Q →
    wpAny (model X.prog X.w) X.A (evalPart e X.env) (fun u s' => ∃ o H', Inv X pins σ H' s' ∧ IsPart u o ∧ Q o H') X.xe s
noncomputable def tNoPart : TO := fun _ H Q => Q none H
noncomputable def tPart (t : TE) : TO := fun σ H Q => t σ H fun x H1 => ExQ Q (fun i Q => x = .int i ∧ Q (some i) H1)

section
variable {X : Cx} {e : Expr} {te : TE} {lo hi : Option Expr} {tl th : TO} {pos p2 : Pos}

theorem po_none : PO X none tNoPart := by
  intro pins s σ H Q I h
  rw [evalPart_none]
  exact wpAny_pure ⟨none, H, I, .none, h⟩
theorem po_some (h : PE X e te) : PO X (some e) (tPart te) := by
  intro pins s σ H Q I hw
  rw [evalPart_some]
  refine thn (h pins s σ H _ I hw) fun u s1 hpat => ?_
  obtain ⟨x, H1, I1, r1, q1⟩ := hpat
  obtain ⟨i, rfl, q⟩ := q1
  obtain ⟨t, rfl⟩ := r1
  exact ⟨some i, H1, I1, .int i t, q⟩

noncomputable def SlR (X : Cx) (r : V → Option Int → Option Int → Hp → VK → Prop) : Prop :=
  ∀ (pins : List (Addr × Obj)) (s : Shared) (σ : St) (H : Hp) (x : V) (v vl vu : Value) (lo hi : Option Int) (sl : Addr) (Q : VK), Inv X pins σ H s → RelV x v → s.heap.IsSliceOf sl vl vu .none → IsPart vl lo → IsPart vu hi → r x lo hi H Q →
    ∃ T id, typeLookup (.type T) "__getitem__" = pure (some (.builtin id)) ∧ s.TypeIs v T ∧ wpAny (model X.prog X.w) X.A (getItem v (.ref sl)) (EP X pins σ Q) X.xe s
theorem SlR.or {r r' : V → Option Int → Option Int → Hp → VK → Prop} (h : SlR X r) (h' : SlR X r') : SlR X (fun x lo hi H Q => r x lo hi H Q ∨ r' x lo hi H Q) := by
  intro pins s σ H x v vl vu lo hi sl Q I rx hs pl pu q
  rcases q with q | q
  · exact h pins s σ H x v vl vu lo hi sl Q I rx hs pl pu q
  · exact h' pins s σ H x v vl vu lo hi sl Q I rx hs pl pu q
noncomputable def tSl (r : V → Option Int → Option Int → Hp → VK → Prop) (te : TE) (tl th : TO) : TE := fun σ H Q => te σ H fun x H1 => tl σ H1 fun l H2 => th σ H2 fun u H3 => r x l u H3 Q
theorem pe_slice {r : V → Option Int → Option Int → Hp → VK → Prop} (hr : SlR X r) (he : PE X e te) (hl : PO X lo tl) (hu : PO X hi th) : PE X (.Subscript e (.Slice lo hi none p2) pos) (tSl r te tl th) := by
  intro pins s σ H Q I h
  refine Subscript_ (thn (he pins s σ H _ I h) fun v s1 hpat => ?_)
  obtain ⟨x, H1, I1, r1, q1⟩ := hpat
  refine wpAny_Slice (thn (hl pins s1 σ H1 _ I1 q1) fun vl s2 hpat => ?_)
  obtain ⟨l, H2, I2, pl, q2⟩ := hpat
  refine thn (hu pins s2 σ H2 _ I2 q2) fun vu s3 hpat => ?_
  obtain ⟨u, H3, I3, pu, q3⟩ := hpat
  rw [evalPart_none]
  refine wpAny_pure ?_
  have I4 : Inv X pins σ H3 { s3 with heap := s3.heap.push { cls := .type "slice", data := .fields #[vl, vu, .none] } } := I3.kept (t' := s3.toks) fun b ob q => Heap.get?_push_of_some _ q
  obtain ⟨T, id, hT, ht, hg⟩ := hr pins { s3 with heap := s3.heap.push { cls := .type "slice", data := .fields #[vl, vu, .none] } } σ H3 x v vl vu l u s3.heap.objs.size Q I4 r1 (Heap.IsSliceOf.new ..) pl pu q3
  show wpAny (model X.prog X.w) X.A (subscriptTail e (.Slice lo hi none p2) v (.ref s3.heap.objs.size)) (EP X pins σ Q) X.xe { s3 with heap := s3.heap.push { cls := .type "slice", data := .fields #[vl, vu, .none] } }
  exact tail_any (ops := [.ref s3.heap.objs.size, v]) ht hT hg (by with_unfolding_all rfl)

noncomputable def cutV (xs : List V) (lo hi : Option Int) : List V := (xs.drop (HT.sIx xs.length 0 lo)).take (HT.sIx xs.length xs.length hi - HT.sIx xs.length 0 lo)
theorem cutV_length (xs : List V) (lo hi : Option Int) : (cutV xs lo hi).length ≤ xs.length := by
  unfold cutV
  rw [List.length_take, List.length_drop]
  omega
end
end L2

namespace L2
open PySem PySem.Spec PyProof.Rows

noncomputable def ixN (n : Nat) (i : Int) : Option Nat := if 0 ≤ i then (if i < n then some i.toNat else none) else if -(n : Int) ≤ i then some (i + n).toNat else none
noncomputable def atI {α : Type} (xs : List α) (i : Int) : Option α := (ixN xs.length i).bind fun j => xs[j]?
theorem ixN_seq {n : Nat} {i : Int} {j : Nat} (h : ixN n i = some j) : seqIndex? i n = some j ∧ j < n ∧ -(n : Int) ≤ i ∧ i < n := by
  unfold ixN at h
  by_cases h0 : 0 ≤ i
  · rw [if_pos h0] at h
    by_cases h1 : i < n
    · rw [if_pos h1] at h
      have e : i.toNat = j := Option.some.inj h
      exact ⟨by rw [seqIndex_of h0 h1, e], by omega, by omega, h1⟩
    · rw [if_neg h1] at h; cases h
  · rw [if_neg h0] at h
    by_cases h1 : -(n : Int) ≤ i
    · rw [if_pos h1] at h
      have e : (i + n).toNat = j := Option.some.inj h
      exact ⟨by rw [seqIndex_neg (by omega) h1, e], by omega, h1, by omega⟩
    · rw [if_neg h1] at h; cases h
theorem atI_get {α : Type} {xs : List α} {i : Int} {v : α} (h : atI xs i = some v) : ∃ j, seqIndex? i xs.length = some j ∧ xs[j]? = some v ∧ j < xs.length ∧ -(xs.length : Int) ≤ i ∧ i < xs.length := by
  unfold atI at h
  cases e : ixN xs.length i with
  | none => rw [e] at h; cases h
  | some j =>
    rw [e] at h
    obtain ⟨h1, h2, h3, h4⟩ := ixN_seq e
    exact ⟨j, h1, h, h2, h3, h4⟩
theorem atI_nat {α : Type} {xs : List α} {j : Nat} {v : α} (h : xs[j]? = some v) : atI xs (j : Int) = some v := by
  have hj : j < xs.length := (List.getElem?_eq_some_iff.mp h).1
  have e : ixN xs.length (j : Int) = some j := by
    unfold ixN
    rw [if_pos (by omega), if_pos (by omega)]; simp
  unfold atI; rw [e]; exact h
theorem atI_last {α : Type} (xs : List α) (v : α) : atI (xs ++ [v]) (-1) = some v := by
  have hl : (xs ++ [v]).length = xs.length + 1 := by simp
  have e : ixN (xs ++ [v]).length (-1) = some xs.length := by
    unfold ixN
    rw [hl, if_neg (by decide), if_pos (by omega)]
    congr 1
    omega
  unfold atI
  rw [e]
  show (xs ++ [v])[xs.length]? = some v
  simp

noncomputable def PlainIx (b : Expr) : Prop := ∀ o i, subscripted b false o i = operate [o, i] (getItem o i)
noncomputable def IxR (X : Cx) (r : R2) : Prop :=
  ∀ (value slice : Expr) (pins : List (Addr × Obj)) (s : Shared) (σ : St) (H : Hp) (x y : V) (v u : Value) (Q : VK), Inv X pins σ H s → RelV x v → RelV y u → r x y H Q →
    subscripted slice false v u = operate [v, u] (getItem v u) → wpAny (model X.prog X.w) X.A (subscriptTail value slice v u) (EP X pins σ Q) X.xe s
noncomputable def MtR (X : Cx) (id : String) (r : V → List V → Hp → VK → Prop) : Prop :=
  ∀ (pins : List (Addr × Obj)) (s : Shared) (σ : St) (H : Hp) (x : V) (xs : List V) (v : Value) (us : List Value) (Q : VK), Inv X pins σ H s → RelV x v → Vals xs us → r x xs H Q →
    wpAny (model X.prog X.w) X.A (call (.builtin id) (v :: us)) (EP X pins σ Q) X.xe s
section
variable {X : Cx} {a b : Expr} {ta tb : TE} {pos : Pos}
theorem IxR.or {r r' : R2} (h : IxR X r) (h' : IxR X r') : IxR X (fun x y H Q => r x y H Q ∨ r' x y H Q) := by
  intro value slice pins s σ H x y v u Q I rx ry q hs
  rcases q with q | q
  · exact h value slice pins s σ H x y v u Q I rx ry q hs
  · exact h' value slice pins s σ H x y v u Q I rx ry q hs
theorem MtR.or {id : String} {r r' : V → List V → Hp → VK → Prop} (h : MtR X id r) (h' : MtR X id r') : MtR X id (fun x xs H Q => r x xs H Q ∨ r' x xs H Q) := by
  intro pins s σ H x xs v us Q I rx rs q
  rcases q with q | q
  · exact h pins s σ H x xs v us Q I rx rs q
  · exact h' pins s σ H x xs v us Q I rx rs q
theorem pe_ix {r : R2} (hr : IxR X r) (ha : PE X a ta) (hb : PE X b tb) (hs : PlainIx b) : PE X (.Subscript a b pos) (tOp r ta tb) := by
  intro pins s σ H Q I h
  exact Subscript_ (binT ha hb I h fun v u s2 x y H2 I2 rx ry q => hr a b pins s2 σ H2 x y v u Q I2 rx ry q (hs _ _))

noncomputable def rIxL (K : PySem.W.Frag) : R2 := fun x y H Q => ExQ Q (fun p Q => ExQ Q (fun xs Q => ExQ Q (fun i Q => ExQ Q (fun v Q => x = .ref p ∧ y = .int i ∧ SqL K H p xs ∧ atI xs i = some v ∧ Q v H))))
noncomputable def rIxT (K : PySem.W.Frag) : R2 := fun x y H Q => ExQ Q (fun p Q => ExQ Q (fun xs Q => ExQ Q (fun i Q => ExQ Q (fun v Q => x = .ref p ∧ y = .int i ∧ SqT K H p xs ∧ atI xs i = some v ∧ Q v H))))
theorem ix_list : IxR X (rIxL X.K) := by
  intro value slice pins s σ H x y v u Q I rx ry h hs
  obtain ⟨p, xs, i, z, rfl, rfl, hq, he, q⟩ := h
  cases rx
  obtain ⟨t, rfl⟩ := ry
  obtain ⟨its, r, pl, hz⟩ := I.list hq
  obtain ⟨j, h1, h2, h3, h4, h5⟩ := atI_get he
  obtain ⟨w, ew, rw'⟩ := r.get h2
  have hl := r.length
  have hn := line63
  have fin : EP X pins σ Q w s := ⟨z, H, I, rw', q⟩
  by_cases h0 : 0 ≤ i
  · have hj : i.toNat = j := by
      rw [seqIndex_of h0 h5] at h1
      exact Option.some.inj h1
    exact item_listR pl.isList h0 (by omega) (by rw [hj]; simpa using ew) fin hs
  · have hj : (i + (its.toArray.size : Int)).toNat = j := by
      rw [seqIndex_neg (by omega) h4] at h1
      rw [List.size_toArray, ← hl]
      exact Option.some.inj h1
    exact subscriptTail_builtinR (x := w) pl.isList.typeIs slot_list_getitem.lookup
      (wpAny_getItem_list_neg (Q := fun r s' => r = w ∧ EP X pins σ Q r s') pl.isList (by omega) (by rw [List.size_toArray] <;> omega) (by omega) (by rw [hj]; simpa using ew) ⟨rfl, fin⟩) hs
theorem ix_tup : IxR X (rIxT X.K) := by
  intro value slice pins s σ H x y v u Q I rx ry h hs
  obtain ⟨p, xs, i, z, rfl, rfl, hq, he, q⟩ := h
  cases rx
  obtain ⟨t, rfl⟩ := ry
  obtain ⟨its, r, pl, hz⟩ := I.tuple hq
  obtain ⟨j, h1, h2, h3, h4, h5⟩ := atI_get he
  obtain ⟨w, ew, rw'⟩ := r.get h2
  have hl := r.length
  have hn := line63
  have fin : EP X pins σ Q w s := ⟨z, H, I, rw', q⟩
  exact subscriptTail_builtinR (x := w) pl.typeIs slot_tuple_getitem.lookup
    (getItem_tuple (j := j) (Q := fun r s' => r = w ∧ EP X pins σ Q r s') pl (by omega) (by omega) (by rw [List.size_toArray, ← hl]; exact h1) (by simpa using ew) ⟨rfl, fin⟩) hs
theorem Inv.lst {pins : List (Addr × Obj)} {σ : St} {H : Hp} {s : Shared} {p : Addr} {xs : List V} (I : Inv X pins σ H s) (h : H p = some (.lst xs)) :
    ∃ (its : List Value) (n : Nat), Vals xs its ∧ s.heap.get? p = some { cls := .type "list", data := .seq its.toArray n } ∧ xs.length ≤ sizeLine := by
  obtain ⟨z, its, n, r, e⟩ := I.hok p _ h
  exact ⟨its, n, r, e, z⟩
theorem slice_bounds (lo hi : Option Int) (n : Nat) : (sliceBounds lo hi none n).1 = ((HT.sIx n 0 lo : Nat) : Int) ∧ (sliceBounds lo hi none n).2.1 = ((HT.sIx n n hi : Nat) : Int) ∧ (sliceBounds lo hi none n).2.2 = 1 := by
  refine ⟨?_, ?_, rfl⟩
  · cases lo with
    | none => simp [sliceBounds, HT.sIx]
    | some i =>
      simp only [sliceBounds, HT.sIx, Option.getD_none, show (1 : Int) > 0 by decide, if_true]
      by_cases h : i < 0
      · simp only [h, if_true] <;> omega
      · simp only [h, if_false] <;> omega
  · cases hi with
    | none => simp [sliceBounds, HT.sIx]
    | some i =>
      simp only [sliceBounds, HT.sIx, Option.getD_none, show (1 : Int) > 0 by decide, if_true]
      by_cases h : i < 0
      · simp only [h, if_true] <;> omega
      · simp only [h, if_false] <;> omega
theorem slicePick_cut (its : List Value) (lo hi : Option Int) : slicePick its.toArray lo hi none = ((its.drop (HT.sIx its.length 0 lo)).take (HT.sIx its.length its.length hi - HT.sIx its.length 0 lo)).toArray := by
  obtain ⟨h1, h2, h3⟩ := slice_bounds lo hi its.toArray.size
  unfold slicePick
  rw [h1, h2, h3]
  simp only [sliceRange_one, pick_run, List.size_toArray] <;> rfl
noncomputable def rSlL (K : PySem.W.Frag) : V → Option Int → Option Int → Hp → VK → Prop := fun x lo hi H Q => ExQ Q (fun a Q => ExQ Q (fun xs Q => x = .ref a ∧ SqL K H a xs ∧ ∀ p, H p = none → Q (.ref p) (upd H p (.lst (cutV xs lo hi)))))
theorem sl_list : SlR X (rSlL X.K) := by
  intro pins s σ H x v vl vu lo hi sl Q I rx hs pl pu h
  obtain ⟨a, xs, rfl, hx, q⟩ := h
  cases rx
  obtain ⟨its, r, ht, hz⟩ := I.list hx
  have hlen := r.length
  refine ⟨"list", _, slot_list_getitem.lookup, ht.isList.typeIs, ?_⟩
  refine wpAny_getItem_list_slice ht.isList hs pl pu .none (by simp) ?_ (by rw [List.size_toArray] <;> omega)
  rw [slicePick_cut, ← hlen]
  refine ⟨.ref s.heap.objs.size, _, I.laid (t' := s.toks) (o := .lst (cutV xs lo hi)) (fun b ob q => Heap.get?_push_of_some _ q) (Nat.le_refl _) ?_, rfl, q _ (I.hok.fresh (Nat.le_refl _))⟩
  exact ⟨Nat.le_trans (cutV_length xs lo hi) hz, _, 0, (r.drop (HT.sIx xs.length 0 lo)).take (HT.sIx xs.length xs.length hi - HT.sIx xs.length 0 lo), Heap.get?_push_size _ rfl⟩

theorem call_len_seq : CallR X (.builtin "len") (fun xs H Q => ∃ p ys, xs = [.ref p] ∧ (SqL X.K H p ys ∨ SqT X.K H p ys) ∧ Q (.int ys.length) H) := by
  intro pins s σ H xs us Q I r h
  obtain ⟨p, ys, rfl, hq, q⟩ := h
  obtain ⟨u, rfl, rx⟩ := vals1 r
  cases rx
  have hn := line63
  rcases hq with hq | hq
  · obtain ⟨its, r', pl, hz⟩ := I.list hq
    have hlen := r'.length
    exact Calls.call_len_list pl.isList (by simp only [List.size_toArray] <;> omega) ⟨.int ys.length, H, I.tok _, ⟨s.toks + 1, by rw [List.size_toArray, hlen]⟩, q⟩
  · obtain ⟨its, r', pl, hz⟩ := I.tuple hq
    have hlen := r'.length
    exact len_tuple pl (by simp only [List.size_toArray] <;> omega) ⟨.int ys.length, H, I.tok _, ⟨s.toks + 1, by rw [List.size_toArray, hlen]⟩, q⟩
theorem CallR.or {f : Value} {r r' : List V → Hp → VK → Prop} (h : CallR X f r) (h' : CallR X f r') : CallR X f (fun xs H Q => r xs H Q ∨ r' xs H Q) := by
  intro pins s σ H xs us Q I rs q
  rcases q with q | q
  · exact h pins s σ H xs us Q I rs q
  · exact h' pins s σ H xs us Q I rs q
theorem call_list_of : CallR X (.type "list") (fun xs H Q => ∃ p ys, xs = [.ref p] ∧ (SqL X.K H p ys ∨ SqT X.K H p ys) ∧ ∀ l, H l = none → Q (.ref l) (upd H l (.lst ys))) := by
  intro pins s σ H xs us Q I r h
  obtain ⟨p, ys, rfl, hq, q⟩ := h
  obtain ⟨u, rfl, rx⟩ := vals1 r
  cases rx
  have fin : ∀ (its : List Value), Vals ys its → ys.length ≤ sizeLine → ∀ (h' : Heap) (c' : Nat), (∀ b o', s.heap.get? b = some o' → h'.get? b = some o') →
      h'.get? s.heap.objs.size = some { cls := .type "list", dict := none, data := .seq its.toArray c', slots := #[] } → EP X pins σ Q (.ref s.heap.objs.size) { s with heap := h' } := fun its r' hz h' c' kp e =>
    ⟨.ref s.heap.objs.size, _, I.laid (t' := s.toks) kp (Nat.le_refl _) (show ObjOk X.prog X.w _ h' _ (.lst ys) from ⟨hz, its, c', r', e⟩), rfl, q _ (I.hok.fresh (Nat.le_refl _))⟩
  rcases hq with hq | hq
  · obtain ⟨its, r', pl, hz⟩ := I.list hq
    have hlen := r'.length
    obtain ⟨o, ho, hc, n, hd⟩ := pl.isList
    exact call_list_seq p (.inl rfl) ho hc hd (fun h' c' kp e => fin its r' hz h' c' kp e) (by simp only [List.size_toArray] <;> omega)
  · obtain ⟨its, r', pl, hz⟩ := I.tuple hq
    have hlen := r'.length
    obtain ⟨o, ho, hc, n, hd⟩ := pl
    exact call_list_seq p (.inr rfl) ho hc hd (fun h' c' kp e => fin its r' hz h' c' kp e) (by simp only [List.size_toArray] <;> omega)
noncomputable def tyV (K : PySem.W.Frag) (T : String) (x : V) (H : Hp) : Prop := match x with
  | .str _ => T = "str"
  | .int _ => T = "int"
  | .ref p => (T = "list" ∧ ∃ xs, SqL K H p xs) ∨ (T = "tuple" ∧ ∃ o, K.lookup p = some o ∧ o.cls = .type "tuple" ∧ o.dict = none) ∨
      (T = "dict" ∧ ((∃ kvs, H p = some (.dK kvs)) ∨ (∃ kvs, H p = some (.dT kvs)) ∨ (∃ zs kvs, H p = some (.dZ zs kvs)) ∨ ∃ zs kvs, H p = some (.dN zs kvs))) ∨ (T = "set" ∧ ∃ S n, H p = some (.set S n))
  | _ => False
theorem tyV_is {pins : List (Addr × Obj)} {σ : St} {H : Hp} {s : Shared} {T : String} {x : V} {v : Value} (I : Inv X pins σ H s) (r : RelV x v) (ty : tyV X.K T x H) :
    s.TypeIs v T ∧ ∀ a, v = .ref a → ∃ ob, s.heap.get? a = some ob ∧ ob.dict = none := by
  cases x with
  | str z =>
    obtain ⟨t, rfl⟩ := r
    cases (show T = "str" from ty)
    exact ⟨typeIs_str s z t, fun _ e => nomatch e⟩
  | int i =>
    obtain ⟨t, rfl⟩ := r
    cases (show T = "int" from ty)
    exact ⟨typeIs_int s i t, fun _ e => nomatch e⟩
  | ref p =>
    cases r
    rcases ty with ⟨rfl, xs, hq⟩ | ⟨rfl, o, hk, hc, hd⟩ | ⟨rfl, hk⟩ | ⟨rfl, S, n, hk⟩
    · obtain ⟨its, _, pl, _⟩ := I.list hq
      refine ⟨pl.isList.typeIs, fun a e => ?_⟩
      cases e
      obtain ⟨o, n, e, c, hd, _⟩ := pl
      exact ⟨o, e, hd⟩
    · refine ⟨⟨o, I.kIn p o hk, hc⟩, fun a e => ?_⟩
      cases e
      exact ⟨o, I.kIn _ o hk, hd⟩
    · have z : ∃ o, s.heap.get? p = some o ∧ o.ExactDict := by
        rcases hk with ⟨kvs, hk⟩ | ⟨kvs, hk⟩ | ⟨zs, kvs, hk⟩ | ⟨zs, kvs, hk⟩
        · obtain ⟨_, _, _, _, o, _, _, e, ex, _⟩ := I.hok p _ hk
          exact ⟨o, e, ex⟩
        · obtain ⟨_, _, _, _, o, _, _, e, ex, _⟩ := I.hok p _ hk
          exact ⟨o, e, ex⟩
        · obtain ⟨_, _, _, _, o, _, _, e, ex, _⟩ := I.hok p _ hk
          exact ⟨o, e, ex⟩
        · obtain ⟨_, _, _, _, o, _, _, e, ex, _⟩ := I.hok p _ hk
          exact ⟨o, e, ex⟩
      obtain ⟨o, e, ex⟩ := z
      refine ⟨⟨o, e, ex.1⟩, fun a e2 => ?_⟩
      cases e2
      exact ⟨o, e, ex.2.1⟩
    · obtain ⟨o, _, _, _, e, ex, _⟩ := I.hok p _ hk
      refine ⟨⟨o, e, ex.1⟩, fun a e2 => ?_⟩
      cases e2
      exact ⟨o, e, ex.2.1⟩
  | _ => exact False.elim ty
noncomputable def tBM (K : PySem.W.Frag) (T : String) (r : V → List V → Hp → VK → Prop) (to : TE) (t : TA) : TE := fun σ H Q => to σ H fun x H1 => tyV K T x H1 ∧ t σ H1 fun xs H2 => r x xs H2 Q
variable {o e : Expr} {es : List Expr} {to : TE} {t : TA} {name : Str} {apos cpos : Pos} {T id : String} {r : V → List V → Hp → VK → Prop}
theorem pe_bm (pa : PlainAttrs T) (slot : Slot T name id) (hty : typeOf (.builtin id) = pure (.type "method_descriptor")) (hm : MtR X id r) (ho : PE X o to) (ha : PA X (e :: es) t)
    (hbase : attributeBase o name X.env (eval o X.env) = eval o X.env := by rfl)
    (hfew : ((backTo cpos (starEach (e :: es) X.env)).all (fun x => !x.1) && (backToKw cpos (keywordEach [] X.env)).all (fun x => x.1.isSome)
      && decide ((e :: es).length + ([] : List Keyword).length + (if ([] : List Keyword).isEmpty then 0 else 1) < 30)) = true := by rfl)
    (hline : (apos.endLine == cpos.line) = true := by rfl) (hs : starEach (e :: es) X.env = (false, eval e X.env) :: starEach es X.env := by rfl) (hplain : (backTo cpos (starEach es X.env)).any (·.1) = false := by rfl) :
    PE X (.Call (.Attribute o name apos) (e :: es) [] cpos) (tBM X.K T r to t) := by
  intro pins s σ H Q I h
  refine wpAny_Call_method_late hbase hfew hline rfl (thn (ho pins s σ H _ I h) fun v s1 hpat => ?_)
  obtain ⟨x, H1, I1, r1, ty, q1⟩ := hpat
  obtain ⟨h1, h2⟩ := tyV_is I1 r1 ty
  refine ⟨T, id, pa, slot, hty, h1, h2, ?_⟩
  have hA := ha cpos pins s1 σ H1 _ I1 q1
  rw [hs] at hA ⊢
  refine Calls.callWith_builtin (by show (false || (backTo cpos (starEach es X.env)).any (·.1)) = false; rw [hplain] <;> rfl) (Calls.evalArgs_plain ?_)
  exact thn hA fun us s2 hp2 => by obtain ⟨vs, H2, I2, r2, q2⟩ := hp2; exact hm pins s2 σ H2 x vs v us Q I2 r1 r2 q2
/- xs.append(e), list.index on a module's tuple .. are MtR facts of 06m -/
end
end L2

namespace L2
open PySem PySem.Spec PyProof.Rows

noncomputable def MtM (X : Cx) (id : String) (r : V → List V → Hp → VK → Prop) : Prop :=
  ∀ (pins : List (Addr × Obj)) (s : Shared) (σ : St) (H : Hp) (x : V) (xs : List V) (v : Value) (us : List Value) (Q : VK), Inv X pins σ H s → RelV x v → Vals xs us → r x xs H Q →
    wpAny (model X.prog X.w) X.A (call (.builtin id) (v :: us)) (EP X pins σ Q) X.xe s

theorem Vals.zero {us : List Value} (h : Vals [] us) : us = [] := by
  cases h
  rfl
theorem Vals.consI {x : V} {xs : List V} {us : List Value} (h : Vals (x :: xs) us) : ∃ u r, us = u :: r ∧ RelV x u ∧ Vals xs r := by
  cases h with
  | cons r t => exact ⟨_, _, rfl, r, t⟩
theorem Vals.one {x : V} {us : List Value} (h : Vals [x] us) : ∃ u, us = [u] ∧ RelV x u := by
  obtain ⟨u, r, rfl, a, t⟩ := h.consI
  obtain rfl := t.zero
  exact ⟨u, rfl, a⟩
theorem Vals.two {x y : V} {us : List Value} (h : Vals [x, y] us) : ∃ u v, us = [u, v] ∧ RelV x u ∧ RelV y v := by
  obtain ⟨u, r, rfl, a, t⟩ := h.consI
  obtain ⟨v, rfl, b⟩ := t.one
  exact ⟨u, v, rfl, a, b⟩
theorem Vals.dropLast {xs : List V} {us : List Value} (h : Vals xs us) : Vals xs.dropLast us.dropLast := by
  induction h with
  | nil => exact .nil
  | cons r t ih =>
    cases t with
    | nil => exact .nil
    | cons q t' => exact .cons r ih
theorem Vals.reverse {xs : List V} {us : List Value} (h : Vals xs us) : Vals xs.reverse us.reverse := by
  induction h with
  | nil => exact .nil
  | cons r t ih => rw [List.reverse_cons, List.reverse_cons]; exact Vals.append ih (.cons r .nil)
section
variable {X : Cx} {pins : List (Addr × Obj)} {σ : St} {H : Hp} {s : Shared} {l b : Addr} {xs ys zs : List V}

theorem Inv.lset {its its' : List Value} {n : Nat} {f : Array Value → Array Value} {t' : Nat} (I : Inv X pins σ H s) (hH : H l = some (.lst xs))
    (e : s.heap.get? l = some { cls := .type "list", data := .seq its.toArray n }) (hf : f its.toArray = its'.toArray) (hv : Vals ys its') (hz : ys.length ≤ sizeLine) :
    Inv X pins σ (upd H l (.lst ys)) { s with heap := s.heap.update l (Obj.mapSeq f), toks := t' } := by
  have q := PySem.IsL.update e f
  rw [hf] at q
  refine I.write (x := l) (e := l) (by rw [hH]; exact trivial) (.inl rfl) (fun b' u hb hu => (Heap.get?_update_other s.heap (Obj.mapSeq f) (Ne.symm hb)).trans hu) ⟨_, q⟩ ?_
  exact ⟨hz, its', _, hv, q⟩
theorem Inv.lnew {its : List Value} {t' : Nat} (I : Inv X pins σ H s) (hv : Vals ys its) (hz : ys.length ≤ sizeLine) :
    Inv X pins σ (upd H s.heap.objs.size (.lst ys)) { s with heap := s.heap.push { cls := .type "list", data := .seq its.toArray }, toks := t' } :=
  I.laid (fun _ _ q => Heap.get?_push_of_some _ q) (Nat.le_refl _) ⟨hz, its, 0, hv, Heap.get?_push_size _ rfl⟩
theorem Inv.fresh (I : Inv X pins σ H s) : H s.heap.objs.size = none := I.hok.fresh (Nat.le_refl _)
theorem Inv.lstM (I : Inv X pins σ H s) (hH : H l = some (.lst xs)) : xs.length ≤ sizeLine ∧ ∃ (its : List Value) (n : Nat), Vals xs its ∧ xs.length = its.length ∧ s.heap.get? l = some { cls := .type "list", data := .seq its.toArray n } := by
  obtain ⟨z, its, n, r, e⟩ := I.hok l _ hH
  exact ⟨z, its, n, r, r.length, e⟩

theorem notLongL {n : Nat} (h : n ≤ sizeLine) : Builtin.List.listTooLong n = false := by
  unfold Builtin.List.listTooLong
  exact decide_eq_false (by omega)
end

section
variable {X : Cx}

noncomputable def rAppend : V → List V → Hp → VK → Prop := fun x vs H Q => ExQ Q (fun l Q => ExQ Q (fun xs Q => ExQ Q (fun y Q => x = .ref l ∧ vs = [y] ∧ H l = some (.lst xs) ∧ xs.length < sizeLine ∧ Q .non (upd H l (.lst (xs ++ [y]))))))
theorem mt_append : MtM X "list.append" rAppend := by
  intro pins s σ H x vs v us Q I rx rv h
  obtain ⟨l, xs, y, rfl, rfl, hH, hz, q⟩ := h
  cases rx
  obtain ⟨u, rfl, ru⟩ := rv.one
  obtain ⟨z, its, n, r, hl, e⟩ := I.lstM hH
  refine call_meets F.slot_list_append ⟨_, e, rfl⟩ F.entry_list_append (F.args_list_append_2 _ _) (PySem.list_append l its.toArray n u (by rw [List.size_toArray]; omega)) ⟨e, ?_⟩
  refine ⟨.non, _, I.lset (its' := its ++ [u]) hH e (by simp) (r.append (.cons ru .nil)) ?_, rfl, q⟩
  rw [List.length_append, List.length_singleton]
  omega

noncomputable def rExtend : V → List V → Hp → VK → Prop := fun x vs H Q => ExQ Q (fun l Q => ExQ Q (fun b Q => ExQ Q (fun xs Q => ExQ Q (fun zs Q => x = .ref l ∧ vs = [.ref b] ∧ H l = some (.lst xs) ∧ H b = some (.lst zs) ∧ xs.length + zs.length ≤ sizeLine ∧ Q .non (upd H l (.lst (xs ++ zs)))))))
theorem mt_extend : MtM X "list.extend" rExtend := by
  intro pins s σ H x vs v us Q I rx rv h
  obtain ⟨l, b, xs, zs, rfl, rfl, hH, hB, hz, q⟩ := h
  cases rx
  obtain ⟨u, rfl, ru⟩ := rv.one
  cases ru
  obtain ⟨z, its, n, r, hl, e⟩ := I.lstM hH
  obtain ⟨z2, its2, n2, r2, hl2, e2⟩ := I.lstM hB
  have hsz : its.toArray.size + its2.toArray.size ≤ sizeLine := by rw [List.size_toArray, List.size_toArray]; omega
  have hlong : ¬ (!its.toArray.isEmpty && Builtin.List.listTooLong (its.toArray.size + its2.toArray.size)) = true := by
    rw [notLongL hsz, Bool.and_false]
    exact Bool.false_ne_true
  refine call_meets F.slot_list_extend ⟨_, e, rfl⟩ F.entry_list_extend (F.args_list_extend_2 _ _)
    (AutoSeq1.list_extend_list_list_0 l its.toArray n b its2.toArray n2 hlong (by rw [List.size_toArray]; omega) (by omega)) ⟨e, e2, ?_⟩
  refine ⟨.non, _, I.lset (its' := its ++ its2) hH e (by simp) (r.append r2) ?_, rfl, q⟩
  rw [List.length_append]
  omega

noncomputable def rCat : R2 := fun x y H Q => ExQ Q (fun l Q => ExQ Q (fun b Q => ExQ Q (fun xs Q => ExQ Q (fun zs Q => x = .ref l ∧ y = .ref b ∧ H l = some (.lst xs) ∧ H b = some (.lst zs) ∧ xs.length + zs.length ≤ sizeLine ∧ ∀ p, H p = none → Q (.ref p) (upd H p (.lst (xs ++ zs)))))))
theorem op_cat : OpR X (binaryOp .Add) rCat := by
  intro pins s σ H x y v u Q I rx ry h
  obtain ⟨l, b, xs, zs, rfl, rfl, hH, hB, hz, q⟩ := h
  cases rx
  cases ry
  obtain ⟨z, its, n, r, hl, e⟩ := I.lstM hH
  obtain ⟨z2, its2, n2, r2, hl2, e2⟩ := I.lstM hB
  refine PySem.P.add_list e e2 ?_ (by rw [List.size_toArray, List.size_toArray]; omega)
  have ea : its.toArray ++ its2.toArray = (its ++ its2).toArray := by simp
  rw [ea]
  exact ⟨.ref _, _, I.lnew (t' := s.toks) (r.append r2) (by rw [List.length_append]; omega), rfl, q _ I.fresh⟩
end

section
variable {prog : Program} {w : World} {A : Around} {E : Value → Shared → Prop} {s : Shared}
set_option maxRecDepth 100000 in
end

section
variable {X : Cx}
end
end L2

namespace Att
open PySem PySem.W PySem.Calls PyProof.Rows

theorem ints_of_wellAll {P : Params} {h : Heap} : ∀ (ns : List Int) (vs : List Value), WellAll P h vs (ns.map WData.int) → IntsAre vs ns := by
  intro ns
  induction ns with
  | nil =>
    intro vs w
    rw [List.map_nil] at w
    cases w
    exact .nil
  | cons n ns ih =>
    intro vs w
    rw [List.map_cons] at w
    cases w with
    | cons a b =>
      cases a
      exact .cons _ _ (ih _ b)

theorem script_of {l : OpenLaw} {n : Nat} (hn : l.most = some n) {P : Params} {h : Heap} {args : List WData} {vals : List Value}
    (hpre : l.row.toRowW.claim.pre args = true) (hwl : WellAll P h vals args) :
    ∃ a vs ns, vals = [Value.ref a] ∧ args = [WData.list (ns.map WData.int)] ∧ h.get? a = some { cls := .type "list", data := .seq vs.toArray } ∧ IntsAre vs ns ∧ ns.length ≤ n := by
  have hsh : WShape.hasAll [] args [.list .int] = true := (pre_splitW hpre).1
  have hc : l.pre.holds [] { args := args } = true := (pre_splitW hpre).2
  obtain ⟨d, r, rfl, h1, h2⟩ := hasAllW_cons hsh
  obtain rfl := hasAllW_nil h2
  obtain ⟨xs, rfl, h3⟩ := hasW_list h1
  obtain ⟨ns, rfl⟩ := items_int h3
  have hlen : ns.length ≤ n := by
    unfold OpenLaw.pre at hc
    have h4 : (WTm.not (.lt (.lit (.int (n : Int))) (.len (.arg 0)))).holds [] { args := [.list (ns.map .int)] } = true := by
      have h4 := (holds_andW hc).1
      rw [hn] at h4
      exact h4
    have h5 := condW_of h4 (w_not (w_lt w_lit (w_len_list (w_arg rfl))))
    rw [List.length_map] at h5
    refine Nat.le_of_not_lt fun q => ?_
    have q' : (n : Int) < ((ns.length : Nat) : Int) := by omega
    first
      | (rw [decide_eq_true q'] at h5; exact absurd h5 (by decide))
      | (simp at h5; omega)
  cases hwl with
  | cons w1 w2 =>
    cases w2
    cases w1 with
    | list ho hall => exact ⟨_, _, ns, rfl, rfl, ho, ints_of_wellAll ns _ hall, hlen⟩

theorem post_true (l : OpenLaw) (args : List WData) : l.row.toRowW.claim.post args (.bool true) args = true :=
  postW_of (r := l.row.toRowW) (X := (true == true))
    (show WShape.has [] (.bool true) .bool = true by first | rfl | decide | simp [WShape.has, WShape.arms, WShape.armsAll])
    (show (WTm.eq .res (.lit (.bool true))).value [] { args := args, res := some (.bool true), after := args } = some (.bool (true == true)) from w_eq_bool (w_res rfl) w_lit) rfl

theorem attach_call {l : OpenLaw} {n : Nat} {q : Program} {loose : List Str} {XP : (Str → Option Value) → Heap → Prop} {YP : World → Heap → Prop} {d : DefRec}
    (hn : l.most = some n) (hdf : d.params.defaults = [])
    (call : ∀ (w : World) (s₀ s₁ : Shared) (mg mb : Str → Option Value) (fa : Addr) (o : Obj) (pm cd doc : Value) (a : Addr) (vs : List Value) (ns : List Int),
      Ground q loose [] XP w s₀ mg mb s₁.heap → YP w s₁.heap →
      s₁.heap.get? fa = some o → o.data = .func (docDef d.name d.params d.body d.scope pm cd doc) → s₁.heap.CodeRec cd d.name → mg d.name = some (.ref fa) →
      s₁.heap.get? a = some { cls := .type "list", data := .seq vs.toArray } → IntsAre vs ns → ns.length ≤ n → s₁.gens = #[] →
      codeAny (model l.prog w) callerA (.call (.ref fa) ⟨[.ref a], []⟩) (fun r s' => r = .ok (.ret (.bool true)) ∧ OldK s₁.heap s'.heap ∧ s'.os = s₁.os ∧ AllBare s'.gens) s₁) :
    WalkO q loose XP YP l.row.toRowW d [] (fun f vs => PySem.call f vs) := by
  intro w s₀ s₁ mg mb G Y fa o pm cd doc dV kV ho hd hcd hD hmg hg args vals as hpre hlay hrd hwl hlo
  obtain rfl : dV = .none := Dflts.none hD hdf
  obtain rfl : kV = .none := Dflts.noKw hD
  obtain ⟨a, vs, ns, rfl, rfl, hobj, hints, hlen⟩ := script_of hn hpre hwl
  refine enter_call (codeAny_mono (call w s₀ s₁ mg mb fa o pm cd doc a vs ns G Y ho (fd_plain hd) hcd hmg hobj hints hlen hg) fun r s' hq => ?_)
  obtain ⟨rfl, h2, h3, h4⟩ := hq
  exact ⟨.inl ⟨.bool true, .bool true, [], rfl, fun _ => rfl, .bool true, post_true l _, fun _ => ⟨List.Pairwise.nil, fun _ hm => (nomatch hm)⟩⟩, h2, h3, h4⟩

section
variable {prog : Program} {w : World} {A : Around} {E : Value → Shared → Prop} {s : Shared} {K : Frag}

noncomputable def ledger (h : Heap) (L d : Addr) : List (Addr × Obj) := (List.range h.objs.size).filterMap fun a => if a = L ∨ a = d then none else (h.get? a).map fun o => (a, o)
end
end Att

namespace L2
open PySem PySem.Spec PyProof.Rows

theorem vals_ints : ∀ {vs : List Value} {ns : List Int}, IntsAre vs ns → Vals (ns.map V.int) vs
  | _, _, .nil => .nil
  | _, _, .cons n t h => .cons ⟨t, rfl⟩ (vals_ints h)

noncomputable def Only (H : Hp) : Prop := ∀ b, H b = none ∨ ∃ o xs, H b = some (.frz o (.lst xs))

theorem law_call {P : Program} {w : World} {K : PySem.W.Frag} {mg mb : Str → Option Value} {CX : CXT} {k : Nat} {fa a : Addr} {fd : FuncData} {x : Str} {sp : Sp} {s₁ : Shared} {vs : List Value} {ns : List Int}
    (KX : K.In s₁.heap) (hns : s₁.heap.Ns mainGlobals mg) (hb : s₁.heap.Ns builtinsNs mb) (hbb : ∀ x : Str, x ≠ "__name__" → mb x = bootBuiltins x) (hlim : s₁.heap.NoLimit) (hg : s₁.gens = #[])
    (ha : s₁.heap.get? a = some { cls := .type "list", data := .seq vs.toArray }) (hi : IntsAre vs ns) (hl : ns.length ≤ sizeLine) (hr : Room k callerA)
    (F : ∀ base : Heap, K.In base → base.Ns mainGlobals mg → FnOk P w K mg base CX k fa fd [x] sp) (hbind : ∀ (s : Shared) (u : Value), BindsTo s fd ⟨[u], []⟩ [(x, u)])
    (hsp : ∀ H : Hp, Only H → SqL K H a (ns.map V.int) → sp [.ref a] H (fun v _ => v = .bl true) fun _ _ _ => False)
    (hCX : ∀ H e s', CX [] H s₁ (fun _ _ _ => False) e s' → False) :
    codeAny (model P w) callerA (.call (.ref fa) ⟨[.ref a], []⟩) (fun r s' => r = .ok (.ret (.bool true)) ∧ OldK s₁.heap s'.heap ∧ s'.os = s₁.os ∧ AllBare s'.gens) s₁ := by
  have rv := vals_ints hi
  have lenV := hi.length
  -- from an abstract heap in which nothing but the script may be tracked
  have core : ∀ H : Hp, Only H → SqL K H a (ns.map V.int) → HOk P w H s₁.heap → (∀ b, H b ≠ none → b = a) → (H a ≠ none → K.lookup a = none) →
      codeAny (model P w) callerA (.call (.ref fa) ⟨[.ref a], []⟩) (fun r s' => r = .ok (.ret (.bool true)) ∧ OldK s₁.heap s'.heap ∧ s'.os = s₁.os ∧ AllBare s'.gens) s₁ := by
    intro H hO hS hok hA hK
    have base_of : ∀ {b : Addr} {o : Obj}, s₁.heap.get? b = some o → H b = none → (hidT s₁.heap H).get? b = some o := fun e n => hidT_get e n
    have noA : ∀ {b : Addr} {o : Obj} {es : Array DictEntry} {ep : Nat}, s₁.heap.get? b = some o → o.data = .dict es ep → H b = none := fun {b o es ep} e d => by
      cases q : H b with
      | none => rfl
      | some u =>
        have e' : b = a := hA b (by rw [q]; simp)
        subst e'
        rw [ha] at e; cases e
        have d' : Data.seq vs.toArray _ = Data.dict es ep := d
        cases d'
    have nsK : ∀ {b : Addr} {m : Str → Option Value}, s₁.heap.Ns b m → (hidT s₁.heap H).Ns b m := fun {b m} hp1 => by obtain ⟨o, es, ep, e, d, r⟩ := hp1; exact ⟨o, es, ep, base_of e (noA e d), d, r⟩
    have hKb : K.In (hidT s₁.heap H) := fun b o e => base_of (KX b o e) (by
      cases q : H b with
      | none => rfl
      | some u =>
        have e' : b = a := hA b (by rw [q]; simp)
        subst e'
        rw [hK (by rw [q]; simp)] at e; cases e)
    have hM : Mod K mg (hidT s₁.heap H) := ⟨hKb, nsK hns, ⟨mb, nsK hb, hbb⟩, let ⟨mc, h1, h2⟩ := hlim; ⟨mc, nsK h1, h2⟩⟩
    have e0 : Env0 P w K mg (hidT s₁.heap H) callerA [] s₁ H := ⟨rfl, hM, fun b o e => of_hidT e, Nat.le_of_eq (hidT_size _ _), trivial, fun b hb => absurd (show b ∈ ([] : List Addr) from hb) (by simp), hok, .of_eq hg⟩
    refine codeAny_mono ((F _ hKb (nsK hns)).run callerA [] s₁ H ⟨[.ref a], []⟩ [.ref a] [.ref a] _ _ hr e0 (hbind s₁ (.ref a)) (.cons rfl .nil) (hsp H hO hS)) fun r s' h => ?_
    cases r with
    | error e => exact (hCX H e s' h).elim
    | ok fl =>
      cases fl with
      | next => exact False.elim h
      | brk => exact False.elim h
      | cont => exact False.elim h
      | ret u =>
        obtain ⟨v, H', os, bare, un, hok', r', q⟩ := h
        have q' : v = .bl true := q
        subst q'
        obtain rfl : u = Value.bool true := r'
        refine ⟨rfl, OldK.of_keep fun b o e => ?_, os, bare⟩
        cases q : H b with
        | none => exact un.keep b o e q (by intro z; exact absurd (show b ∈ ([] : List Addr) from z) (by simp)) (by simp)
        | some u =>
          rcases hO b with z | ⟨ob, xs, z⟩
          · rw [q] at z; cases z
          · have z2 := un.frzs b ob _ z
            obtain ⟨e1, _⟩ := hok b _ z
            obtain ⟨e2, _⟩ := hok' b _ z2
            rw [e] at e1; cases e1
            exact e2
  cases hk : K.lookup a with
  | some o =>
    -- the script is one of the module's own objects
    have e := KX a o hk
    rw [ha] at e
    cases e
    refine core (fun _ => none) (fun _ => .inl rfl) (.inr ⟨_, vs.toArray, _, hk, rfl, rfl, rfl, by rw [List.size_toArray, lenV]; exact hl, by simpa using rv⟩) (fun b u z => by have z' : (none : Option HO) = some u := z; cases z') (fun b z => absurd rfl z) fun z => absurd rfl z
  | none =>
    refine core (fun b => if b = a then some (.frz { cls := .type "list", data := .seq vs.toArray } (.lst (ns.map V.int))) else none) (fun b => ?_) (.inl (.inr ⟨{ cls := .type "list", data := .seq vs.toArray }, if_pos rfl⟩)) (fun b u z => ?_) (fun b z => ?_) fun _ => hk
    · by_cases hb : b = a
      · exact .inr ⟨_, _, if_pos hb⟩
      · exact .inl (if_neg hb)
    · by_cases hb : b = a
      · have z' := (if_pos hb).symm.trans z
        cases z'
        subst hb
        exact ⟨ha, by rw [List.length_map]; exact hl, vs, _, rv, ha⟩
      · have z' := (if_neg hb).symm.trans z
        cases z'
    · by_cases hb : b = a
      · exact hb
      · exact absurd (if_neg hb) z
end L2

namespace L2
open PySem PySem.Spec PyProof.Rows

noncomputable abbrev KOf {K : PySem.W.Frag} {h : Heap} (_ : K.In h) : PySem.W.Frag := K

theorem walk_of {l : PySem.W.OpenLaw} {n k : Nat} {q : Program} {loose : List Str} {XP : (Str → Option Value) → Heap → Prop} {YP : World → Heap → Prop} {d : DefRec} {K : Params → PySem.W.Frag} {CX : World → CXT} {sp : World → Sp} {x : Str}
    (hn : l.most = some n) (hn2 : n ≤ sizeLine) (hdf : d.params.defaults = []) (hr : Room k callerA)
    (hY : ∀ (w : World) (h : Heap), YP w h → (K w.params).In h)
    (F : ∀ (w : World) (mg : Str → Option Value) (fa : Addr) (h : Heap), (K w.params).In h → h.Ns mainGlobals mg → mg d.name = some (.ref fa) →
      ∃ fd : FuncData, (∀ (s : Shared) (u : Value), BindsTo s fd ⟨[u], []⟩ [(x, u)]) ∧
        ∀ base : Heap, (K w.params).In base → base.Ns mainGlobals mg → FnOk l.prog w (K w.params) mg base (CX w) k fa fd [x] (sp w))
    (hsp : ∀ (w : World) (H : Hp) (a : Addr) (ns : List Int), ns.length ≤ n → Only H → SqL (K w.params) H a (ns.map V.int) → sp w [.ref a] H (fun v _ => v = .bl true) fun _ _ _ => False)
    (hCX : ∀ (w : World) (H : Hp) (s : Shared) (e : Value) (s' : Shared), CX w [] H s (fun _ _ _ => False) e s' → False) :
    PySem.W.WalkO q loose XP YP l.row.toRowW d [] (fun f vs => PySem.call f vs) := by
  refine Att.attach_call hn hdf fun w s₀ s₁ mg mb fa o pm cd doc a vs ns G Y ho hd hcd hmg hobj hints hlen hg => ?_
  have KX := hY w _ Y
  obtain ⟨fd, hb, hF⟩ := F w mg fa _ KX G.T.g hmg
  exact law_call KX G.T.g G.T.b G.T.builtins G.T.nolimit hg hobj hints (Nat.le_trans hlen hn2) hr hF hb (fun H hO hS => hsp w H a ns hlen hO hS) fun H e s' => hCX w H s₁ e s'
end L2

/- THE LAST THEOREM (shape; LID, My.* are yours):
   My.Adr: a structure of the addresses that your layer names (classes, functions); My.Txt K t: a structure (Prop) of the equations over K;
   My.txt_mk : {K} {implicit addresses ..} (e1 : nsIn K mainGlobals "law" = some (some (.ref f))) (e2 : K.lookup f = some ⟨oc, od, .func (fnOf "law" "law" params body scope dV kV doc pm an cdv ct), sl⟩) (e3 : codeIn K cdv "law" = true) .. : ∃ t, My.Txt K t

set_option maxRecDepth 100000 in
set_option maxHeartbeats 0 in
theorem PySem.Challenge.cw_LID_holds : PySem.Challenge.rw_LID.Holds := by
  w_on; o_law; k_head; (case hw => w_witness2)
  k_fill
  refine L2.walk_of (l := PySem.Challenge.rw_LID) (n := 63) (k := 40) (x := "script") (CX := fun w => ..) (sp := fun _ => My.sp_law) rfl (by decide) rfl ⟨rfl, by decide, by decide⟩ (fun w h Y => PySem.W.kIn_of Y) ?F ?S ?C
  case F =>
    intro w mg fa h KX G hmg
    have T : ∃ t, My.Txt (L2.KOf KX) t := by
      dsimp only [L2.KOf]                          -- K must stand as «<heap const> w.params» for k_is
      refine' My.txt_mk ?e1 ?e2 ?e3 ..
      (case e1 => PySem.W.k_is)                    -- in the order: a name -> its address -> its object -> its parts
      (case e2 => PySem.W.k_is)
      ..
    obtain ⟨t, T⟩ := T
    have e0 := hmg.symm.trans (PySem.W.mg_of KX G T.law)
    cases e0                                       -- fa is the law's own address
    exact ⟨_, fun s u => .of_eq rfl, fun base kb nb => My.law_fn T kb nb⟩     -- if «.of_eq rfl» comes too early: refine' ⟨_, ?b, fun base kb nb => My.law_fn T kb nb⟩; exact fun s u => .of_eq rfl
  case S => exact fun w H a ns hl hO hS => ..
  case C => exact ..
(the tactic k_is has no namespace: write k_is) -/

namespace L2
open PySem PySem.Spec PyProof.Rows

noncomputable def inClass (s : Stmt) (j : Nat) : Stmt := match s with
  | .ClassDef _ _ _ body _ _ _ _ _ _ _ => body.getD j (.Pass ⟨0, 0, 0, 0⟩)
  | _ => .Pass ⟨0, 0, 0, 0⟩
noncomputable def defArgs (s : Stmt) : Arguments := match s with
  | .FunctionDef _ a _ _ _ _ _ _ _ _ => a
  | _ => { posonlyargs := [], args := [], vararg := none, kwonlyargs := [], kw_defaults := [], kwarg := none, defaults := [] }
noncomputable def defBody (s : Stmt) : List Stmt := match s with
  | .FunctionDef _ _ b _ _ _ _ _ _ _ => b
  | _ => []
noncomputable def defScope (s : Stmt) : Scope := match s with
  | .FunctionDef _ _ _ _ _ _ sc _ _ _ => sc
  | _ => { kind := .function, names := [], isGenerator := false, isCoroutine := false }

noncomputable abbrev CX0 : CXT := fun _ _ _ _ _ _ => False
noncomputable abbrev E0 : XK := fun _ _ _ => False
theorem pass0 {X : Cx} : Passes CX0 X E0 := fun _ _ _ _ _ _ _ h => h.elim

structure Fun (K : PySem.W.Frag) (x qual : Str) (st : Stmt) (f : Addr) (fd : FuncData) : Prop where
  ex : ∃ (oc : Value) (od : Option Addr) (kV doc pm : Value) (an : Option Addr) (cdv ct : Value) (osl : Array (Option Value)),
    fd = PySem.W.fnOf x qual (defArgs st) (defBody st) (defScope st) .none kV doc pm an cdv ct ∧ K.lookup f = some ⟨oc, od, .func fd, osl⟩ ∧ PySem.W.codeIn K cdv qual = true
  kp : PySem.W.keepIn K (.ref f) = true
section
variable {P : Program} {w : World} {K : PySem.W.Frag} {mg : Str → Option Value} {base : Heap}
theorem Fun.ok {x qual : Str} {st : Stmt} {f : Addr} {fd : FuncData} {N ps : List Str} {k : Nat} {sp : Sp} (F : Fun K x qual st f fd) (S : FnScope N ps (defScope st)) (len : ∀ vs H Q E, sp vs H Q E → vs.length = ps.length)
    (hbody : ∀ (cdv : Value) (A : Around) (outer : List Env) (s : Shared) (H : Hp) (vs : List V) (Q : VK) (E : XK), Room k (A.deeper (envOfC qual (defScope st) s.heap.objs.size f cdv)) → sp vs H Q E →
      ∃ t, PSs (cxOf CX0 P w K mg base N qual (defScope st) f cdv A outer s H E).nox (defBody st) t ∧ t { nx := fun _ H' => Q .non H', rt := Q } (start N vs) H) : FnOk P w K mg base CX0 (k + 1) f fd ps sp := by
  obtain ⟨oc, od, kV, doc, pm, an, cdv, ct, osl, rfl, lk, hcd⟩ := F.ex
  refine fn_of lk hcd S len fun A outer s H vs Q E hr hsp => ?_
  obtain ⟨t, h, q⟩ := hbody cdv A outer s H vs Q E hr hsp
  exact ⟨t, h.nox, q⟩
theorem Fun.binds {x qual : Str} {st : Stmt} {f : Addr} {fd : FuncData} {ps : List Str} (F : Fun K x qual st f fd)
    (h : ∀ (kV doc pm : Value) (an : Option Addr) (cdv ct : Value) (us : List Value), us.length = ps.length → bindArgs (PySem.W.fnOf x qual (defArgs st) (defBody st) (defScope st) .none kV doc pm an cdv ct) ⟨us, []⟩ = pure (ps.zip us)) : Binds K fd ps [] := by
  obtain ⟨oc, od, kV, doc, pm, an, cdv, ct, osl, rfl, lk, hcd⟩ := F.ex
  exact .all (h kV doc pm an cdv ct)
theorem fun_mk {x qual : Str} {st : Stmt} {f : Addr} {oc : Value} {od an : Option Addr} {osl : Array (Option Value)} {kV doc pm cdv ct : Value} (l : K.lookup f = some ⟨oc, od, .func (PySem.W.fnOf x qual (defArgs st) (defBody st) (defScope st) .none kV doc pm an cdv ct), osl⟩)
    (c : PySem.W.codeIn K cdv qual = true) (k : PySem.W.keepIn K (.ref f) = true) : Fun K x qual st f (PySem.W.fnOf x qual (defArgs st) (defBody st) (defScope st) .none kV doc pm an cdv ct) := ⟨⟨oc, od, kV, doc, pm, an, cdv, ct, osl, rfl, l, c⟩, k⟩
end
section
variable {X : Cx}
theorem pv (i : Nat) {x : Str} {pos : Pos} (hN : X.N[i]? = some x := by rfl) (hv : Vis X.env.scope x := by first | exact Or.inl rfl | exact Or.inr (Or.inl rfl) | exact Or.inr (Or.inr rfl)) (hd : (x == ("__debug__" : Str)) = false := by decide)
    (hcd : (x == ("__classdict__" : Str)) = false := by decide) : PE X (.Name x pos) (tVar i) := pe_var hN hv hd hcd
end

theorem iteF {A B : Prop} (h : B) : if false = true then A else B := by
  rw [if_neg Bool.false_ne_true]
  exact h
theorem iteT {A B : Prop} (h : A) : if true = true then A else B := by
  rw [if_pos rfl]
  exact h
theorem ite2 {c A B : Prop} [Decidable c] (h1 : c → A) (h2 : ¬ c → B) : if c then A else B := by
  by_cases h : c
  · rw [if_pos h]
    exact h1 h
  · rw [if_neg h]
    exact h2 h
noncomputable def Same (H H' : Hp) : Prop := ∀ b o, H b = some o → H' b = some o
theorem Same.refl (H : Hp) : Same H H := fun _ _ h => h
theorem Same.trans {H H1 H2 : Hp} (a : Same H H1) (b : Same H1 H2) : Same H H2 := fun c o h => b c o (a c o h)
theorem Same.free {H H' : Hp} (e : Same H H') {l : Addr} (h : H' l = Option.none) : H l = Option.none := by
  cases q : H l with
  | none => rfl
  | some o =>
    rw [e l o q] at h
    cases h
theorem Same.seq {K : PySem.W.Frag} {H H' : Hp} {a : Addr} {xs : List V} (e : Same H H') (h : SqL K H a xs) : SqL K H' a xs := by
  rcases h with (h | ⟨o, h⟩) | h
  · exact .inl (.inl (e _ _ h))
  · exact .inl (.inr ⟨o, e _ _ h⟩)
  · exact .inr h

end L2
set_option Elab.async false
set_option linter.all false
set_option maxRecDepth 100000
set_option maxHeartbeats 4000000
namespace L2
open PySem PySem.Spec PyProof.Rows

noncomputable abbrev Cx.cmp (X : Cx) (scope : Scope) (cl : List (Str × Addr)) (vars : List Str) (C : Addr) (s : Shared) (H : Hp) (fp : List Addr) (pins : List (Addr × Obj)) : Cx :=
  { X with N := vars ++ X.N, s₀ := s, H₀ := H, env := compEnvC scope cl C X.env, outer := X.stack, stack := X.stack, ex := fp, fn := fun _ => false, pn := X.pn ++ pins, xe := fun _ _ => False }

structure CmpScope (X : Cx) (scope : Scope) : Prop where
  kind : scope.kind = .function
  nocell : ∀ y ∈ scope.names, y.2 ≠ .cell
  names : ∀ y ∈ scope.names, y.2 = .local → scope.names.lookup y.1 = some .local
  free : ∀ y ∈ scope.names, y.2 = .free → X.env.scope.names.lookup y.1 = some .cell ∨ X.env.scope.names.lookup y.1 = some .free
  locs : ∀ x ∈ X.N, scope.names.lookup x ≠ some .local

noncomputable def cmpB (N : List Str) (so sc : Scope) : Bool := decide (sc.kind = .function) && sc.names.all (fun y => decide (y.2 ≠ .cell)) && sc.names.all (fun y => decide (y.2 = .local → sc.names.lookup y.1 = some .local)) &&
  sc.names.all (fun y => decide (y.2 = .free → so.names.lookup y.1 = some .cell ∨ so.names.lookup y.1 = some .free)) && N.all (fun x => decide (sc.names.lookup x ≠ some .local))
theorem cmp_ok {X : Cx} {scope : Scope} {N : List Str} {so : Scope} (hN : X.N = N) (hs : X.env.scope = so) (h : cmpB N so scope = true) : CmpScope X scope := by
  unfold cmpB at h
  simp only [Bool.and_eq_true, List.all_eq_true, decide_eq_true_eq] at h
  obtain ⟨⟨⟨⟨h1, h2⟩, h3⟩, h4⟩, h5⟩ := h
  subst hN hs
  exact ⟨h1, h2, h3, h4, h5⟩
theorem closure_go {env : Env} : ∀ (names : List (Str × NameKind)) (acc : List (Str × Addr)), (∀ y ∈ names, y.2 = .free → ∃ c, env.cells.lookup y.1 = some c) → (∀ p ∈ acc, env.cells.lookup p.1 = some p.2) →
    ∃ cl, (forIn names acc (fun x cs => (match x with | (name, kind) => if (kind == NameKind.free) = true then do let c ← cellOf env name; pure (ForInStep.yield ((name, c) :: cs)) else pure (ForInStep.yield cs) : Sem (ForInStep (List (Str × Addr)))))) = pure cl ∧
      (∀ p ∈ cl, env.cells.lookup p.1 = some p.2) ∧ (∀ p ∈ acc, p ∈ cl) ∧ ∀ y ∈ names, y.2 = .free → ∃ c, (y.1, c) ∈ cl := by
  intro names
  induction names with
  | nil => intro acc _ h; exact ⟨acc, rfl, h, fun _ z => z, fun y hy => by cases hy⟩
  | cons y r ih =>
    intro acc hn ha
    obtain ⟨n, k⟩ := y
    by_cases hk : k = .free
    · subst hk
      obtain ⟨c, hc⟩ := hn (n, .free) List.mem_cons_self rfl
      obtain ⟨cl, e, h1, h2, h3⟩ := ih ((n, c) :: acc) (fun y hy => hn y (List.mem_cons_of_mem _ hy)) (fun p hp => by
        rcases List.mem_cons.mp hp with rfl | hp
        · exact hc
        · exact ha p hp)
      refine ⟨cl, ?_, h1, fun p hp => h2 p (List.mem_cons_of_mem _ hp), fun y hy hf => ?_⟩
      · rw [List.forIn_cons]
        have e1 : cellOf env n = pure c := by unfold cellOf; rw [hc]
        simp only [beq_self_eq_true, if_true]
        rw [e1]
        exact e
      · rcases List.mem_cons.mp hy with rfl | hy
        · exact ⟨c, h2 _ List.mem_cons_self⟩
        · exact h3 y hy hf
    · obtain ⟨cl, e, h1, h2, h3⟩ := ih acc (fun y hy => hn y (List.mem_cons_of_mem _ hy)) ha
      refine ⟨cl, ?_, h1, h2, fun y hy hf => ?_⟩
      · rw [List.forIn_cons]
        have hb : (k == NameKind.free) = false := by simpa using hk
        simp only [hb, Bool.false_eq_true, if_false]
        exact e
      · rcases List.mem_cons.mp hy with rfl | hy
        · exact absurd hf hk
        · exact h3 y hy hf

theorem closure_ok {scope : Scope} {env : Env} (h : ∀ y ∈ scope.names, y.2 = .free → ∃ c, env.cells.lookup y.1 = some c) :
    ∃ cl, closureFor scope env = pure cl ∧ (∀ p ∈ cl, env.cells.lookup p.1 = some p.2) ∧ ∀ y ∈ scope.names, y.2 = .free → ∃ c, (y.1, c) ∈ cl := by
  obtain ⟨cl, e, h1, _, h3⟩ := closure_go (env := env) scope.names [] h (fun p hp => by cases hp)
  refine ⟨cl, ?_, h1, h3⟩
  unfold closureFor
  dsimp only
  rw [e]
  rfl

theorem lookup_relabel {env : Env} : ∀ {names : List (Str × NameKind)} {x : Str} {k : NameKind},
    (names.map fun (n, k) => if (k == NameKind.free && env.scope.kind == .function && env.kindOf n == some .cell) then (n, NameKind.cell) else (n, k)).lookup x = some k →
    names.lookup x = some k ∨ (k = .cell ∧ names.lookup x = some .free)
  | [], _, _, h => by simp at h
  | (n, k0) :: r, x, k, h => by
    have ih := @lookup_relabel env r x k
    change List.lookup x ((if (k0 == NameKind.free && env.scope.kind == .function && env.kindOf n == some .cell) = true then (n, NameKind.cell) else (n, k0)) :: _) = _ at h
    by_cases hc : (k0 == NameKind.free && env.scope.kind == .function && env.kindOf n == some .cell) = true
    · rw [if_pos hc] at h
      cases hx : x == n with
      | true =>
        simp only [List.lookup_cons, hx] at h ⊢
        have hk0 : k0 = .free := by
          simp only [Bool.and_eq_true] at hc
          simpa using hc.1.1
        subst hk0
        cases h
        exact .inr ⟨rfl, rfl⟩
      | false =>
        simp only [List.lookup_cons, hx] at h ⊢
        exact ih h
    · rw [if_neg hc] at h
      cases hx : x == n with
      | true =>
        simp only [List.lookup_cons, hx] at h ⊢
        exact .inl h
      | false =>
        simp only [List.lookup_cons, hx] at h ⊢
        exact ih h

theorem lookup_mem {α β : Type} [BEq α] [LawfulBEq α] : ∀ {l : List (α × β)} {x : α} {b : β}, (x, b) ∈ l → ∃ c, l.lookup x = some c
  | (y, c) :: r, x, b, h => by
    cases hx : x == y with
    | true => exact ⟨c, by simp only [List.lookup_cons, hx]⟩
    | false =>
      have hr : (x, b) ∈ r := by
        rcases List.mem_cons.mp h with e | e
        · cases e; simp at hx
        · exact e
      obtain ⟨c', e⟩ := lookup_mem hr
      exact ⟨c', by simp only [List.lookup_cons, hx]; exact e⟩

section
variable {X : Cx} {pins : List (Addr × Obj)} {σ : St} {H : Hp} {s : Shared}

theorem inv_cmp {scope : Scope} {cl : List (Str × Addr)} {vars : List Str} {h1 : Heap} {t1 : Nat} {fp : List Addr} (hc : X.calm = true) (S : CmpScope X scope) (I : Inv X pins σ H s)
    (c1 : ∀ p ∈ cl, X.env.cells.lookup p.1 = some p.2) (c2 : ∀ y ∈ scope.names, y.2 = .free → ∃ c, (y.1, c) ∈ cl) (hns : h1.Ns s.heap.objs.size (fun _ => none)) (hk : ∀ b o, s.heap.get? b = some o → h1.get? b = some o)
    (f : ∀ b ∈ fp, FpOk X pins H b) (fo : ∀ b ∈ fp, b < s.heap.objs.size) :
    Inv (X.cmp scope cl vars s.heap.objs.size s H fp pins) [] (List.replicate vars.length none ++ σ) H { s with heap := h1, toks := t1 } := by
  have cl1 : ∀ x c, cl.lookup x = some c → X.env.cells.lookup x = some c := fun x c e => c1 (x, c) (PySem.mem_of_lookup e)
  have fsub : ∀ b ∈ frs X.stack, b ∈ X.env.locals :: X.fs := I.stkSub
  refine ⟨⟨I.ok.mod, S.kind, I.ok.glob, I.ok.blt, Nat.le_refl _, fun x y c h1 h2 => I.ok.inj x y c (cl1 x c h1) (cl1 y c h2), fun x hx => ?_, fun x c hf => absurd hf (by simp), I.ok.hd, I.ok.frames, .inl rfl,
      fun b hb => ⟨Nat.ne_of_lt (fo b hb), fun x c e => (f b hb).2.2.2.2.1 x c (cl1 x c e)⟩, I.bs, Nat.le_trans I.ok.bsz I.sz, fun b o e hb => ?_, fun b hb hm => ?_, I.stack, I.stkFree⟩,
    rfl, I.bare, Un.kept hk, ⟨_, hns, fun i x v e1 e2 e3 => ?_⟩, fun x c e => ?_, I.hok.fresh (Nat.le_refl _), fun x c e => I.freeC x c (cl1 x c e), fun p hp => ?_, I.hok.kept hk, ?_⟩
  · -- has
    have hx' : (relabel scope X.env).names.lookup x = some .cell ∨ (relabel scope X.env).names.lookup x = some .free := hx
    have hfree : scope.names.lookup x = some .free := by
      rcases hx' with q | q
      · rcases lookup_relabel q with z | ⟨_, z⟩
        · exact absurd rfl (S.nocell _ (PySem.mem_of_lookup z))
        · exact z
      · rcases lookup_relabel q with z | ⟨z, _⟩
        · exact z
        · cases z
    obtain ⟨c, hm⟩ := c2 _ (PySem.mem_of_lookup hfree) rfl
    exact lookup_mem hm
  · -- noex
    rcases (f b hb).2.2.2.1 with z | z
    · exact I.ok.noex b o e z
    · exact absurd (Nat.lt_of_lt_of_le (Heap.lt_size (I.ok.bs b o e).1) z) (Nat.lt_irrefl _)
  · -- exfs
    rcases List.mem_cons.mp (fsub b hm) with z | z
    · exact (f b hb).2.1 z
    · exact (f b hb).2.2.1 z
  · -- loc
    have hi : vars.length ≤ i := by
      by_cases hi : i < vars.length
      · rw [List.getElem?_append_left (by simpa using hi), List.getElem?_replicate, if_pos hi] at e2
        cases e2
      · omega
    rw [List.getElem?_append_right (by simpa using hi), List.length_replicate] at e2
    have e1' : X.N[i - vars.length]? = some x := by
      rw [← List.getElem?_append_right hi]; exact e1
    have hfree : scope.names.lookup x = some .free := by
      rcases e3 with q | q | q
      · rcases lookup_relabel q with z | ⟨z, _⟩
        · exact absurd z (S.locs x (List.mem_of_getElem? e1'))
        · cases z
      · rcases lookup_relabel q with z | ⟨_, z⟩
        · exact absurd rfl (S.nocell _ (PySem.mem_of_lookup z))
        · exact z
      · rcases lookup_relabel q with z | ⟨z, _⟩
        · exact z
        · cases z
    have hout := S.free _ (PySem.mem_of_lookup hfree) rfl
    obtain ⟨m, hn, hl⟩ := I.loc
    obtain ⟨u, r, lk⟩ := hl _ x v e1' e2 (by rcases hout with z | z; exact .inr (.inl z); exact .inr (.inr z))
    refine ⟨u, r, .inr ⟨?_, ?_⟩⟩
    · rcases e3 with q | q | q
      · rcases lookup_relabel q with z | ⟨z, _⟩
        · exact absurd z (S.locs x (List.mem_of_getElem? e1'))
        · cases z
      · exact .inl q
      · exact .inr q
    · obtain ⟨c0, hm⟩ := c2 _ (PySem.mem_of_lookup hfree) rfl
      obtain ⟨c, hc'⟩ := lookup_mem hm
      refine ⟨c, hc', ?_⟩
      rcases lk with ⟨z, _⟩ | ⟨_, c', e', z⟩
      · have z' : X.env.scope.names.lookup x = some .local := z
        rcases hout with y | y
        · rw [y] at z'; cases z'
        · rw [y] at z'; cases z'
      · rw [cl1 x c hc'] at e'; cases e'
        exact z.keeps hk
  · -- cell
    obtain ⟨v, z⟩ := I.cell x c (cl1 x c e)
    exact ⟨v, z.keeps hk⟩
  · -- pins
    have hp' : p ∈ X.pn ++ pins := by simpa using hp
    obtain ⟨e, n, ne, nf, d⟩ := I.pin p hp'
    refine ⟨hk _ _ e, n, Nat.ne_of_lt (Heap.lt_size e), fun hm => ?_, d⟩
    rcases List.mem_cons.mp (fsub p.1 hm) with z | z
    · exact ne z
    · exact nf z
  · show (List.replicate vars.length none ++ σ).length = (vars ++ X.N).length
    rw [List.length_append, List.length_append, List.length_replicate, I.len]

theorem inv_cmp_end {scope : Scope} {cl : List (Str × Addr)} {vars : List Str} {H' : Hp} {σ' : St} {s' : Shared} {h' : Heap} {fp : List Addr} (I : Inv X pins σ H s)
    (f : ∀ b ∈ fp, FpOk X pins H b) (J : Inv (X.cmp scope cl vars s.heap.objs.size s H fp pins) [] σ' H' s') (hs : Heap.SameBut s.heap.objs.size s'.heap h') : Inv X pins σ H' { s' with heap := h' } := by
  have u : Un (frs X.stack) fp H H' s.heap s'.heap := J.base
  have ne : ∀ b o, s.heap.get? b = some o → b ≠ s.heap.objs.size := fun b o e => Nat.ne_of_lt (Heap.lt_size e)
  have u' : Un (frs X.stack) fp H H' s.heap h' := ⟨fun b o e n hb hx => (hs.2 b (ne b o e)).trans (u.keep b o e n hb hx), fun b o e n hb hx => by
      obtain ⟨sl, z⟩ := u.slot b o e n hb hx
      exact ⟨sl, (hs.2 b (ne b o e)).trans z⟩, u.free, fun b o e hx => by
      obtain ⟨o', z⟩ := u.there b o e hx
      exact ⟨o', (hs.2 b (ne b o e)).trans z⟩, u.tups, u.frzs, u.tbls⟩
  have hn : H' s.heap.objs.size = none := J.free
  have ok : HOk X.prog X.w H' h' := fun b o e => by
    refine (J.hok b o e).stay (fun c v hc q => (hs.2 c ?_).trans q) (fun _ q => q) fun _ _ q => q
    rintro rfl
    rcases hc with z | z
    · rw [← z, hn] at e; cases e
    · rw [hn] at z; cases z
  exact I.call' (s' := { s' with heap := h' }) (ch := fp) J.os u' ok J.bare fun b hb => ⟨(f b hb).2.2.2.1, (f b hb).2.1, (f b hb).2.2.2.2.1, (f b hb).2.2.2.2.2⟩
end

section
variable {prog : Program} {w : World} {A : Around} {R : Result → Shared → Prop} {s : Shared}
theorem codeAny_compLoop_go {elt target iter : Expr} {ifs : List Expr} {scope : Scope} {pos : Pos} {it acc : Value} {env : Env} (I : Nat → Shared → Prop)
    (turn : ∀ n s, I n s → wpAny (model prog w) A (pyNext it) (fun r s₁ => match r with
      | none => R (.ok .next) s₁
      | some v => wpAny (model prog w) A (letOwnedTupleGo target it v) (fun _ s₂ => wpAny (model prog w) A (assign target env v) (fun _ s₂ =>
          wpAny (model prog w) A (forIn ifs true fun c r => if r = true then do let ok ← isTrue c env (eval c env); pure (ForInStep.yield ok) else pure (ForInStep.yield r)) (fun ok s₃ =>
            if ok = true then wpAny (model prog w) A (eval elt env) (fun x s₄ =>
              wpAny (model prog w) A (call (.builtin "list.append") [acc, x]) (fun _ s₅ => ∃ m, m < n ∧ I m s₅) (fun _ _ => False) s₄) (fun _ _ => False) s₃
            else ∃ m, m < n ∧ I m s₃) (fun _ _ => False) s₂) (fun _ _ => False) s₂) (fun _ _ => False) s₁) (fun _ _ => False) s)
    (n : Nat) (h : I n s) : codeAny (model prog w) A (.compLoop (.ListComp elt [⟨target, iter, ifs, 0⟩] scope pos) 0 it acc env) R s := by
  refine codeAny_loop rfl I (fun n s hI => ?_) n h
  show wpAny _ A ((compTurn (.ListComp elt [⟨target, iter, ifs, 0⟩] scope pos) 0 it acc env).onRaise (fun x => do noteFrame x env; theTreesLotGoes x)) _ _ s
  refine wpAny_noted ?_
  rw [compTurn_list]
  have no : ∀ {E : Value → Shared → Prop} (e : Value) (s : Shared), False → E e s := fun _ _ h => h.elim
  refine wpAny_bind (wpAny_standAt (wpAny_bind (wpAny_mono (turn n s hI) (fun r s₁ h₁ => ?_) no)))
  cases r with
  | none => exact wpAny_pure h₁
  | some v =>
    refine wpAny_bind (wpAny_mono h₁ (fun _ s₂ h₂ => ?_) no)
    refine wpAny_bind (wpAny_mono h₂ (fun _ s₂ h₂ => wpAny_bind (wpAny_mono h₂ (fun ok s₃ h₃ => ?_) no)) no)
    cases ok with
    | false => exact wpAny_pure ⟨rfl, h₃⟩
    | true =>
      exact wpAny_bind (wpAny_bind (wpAny_mono h₃ (fun x s₄ h₄ => wpAny_bind (wpAny_mono h₄ (fun _ s₅ h₅ => wpAny_pure (wpAny_pure ⟨rfl, h₅⟩)) no)) no))
end

noncomputable def PIfs (X : Cx) (ifs : List Expr) (t : TT) : Prop :=
  ∀ (pins : List (Addr × Obj)) (s : Shared) (σ : St) (H : Hp) (Q : Bool → Hp → Prop), Inv X pins σ H s → t σ H Q →
    wpAny (model X.prog X.w) X.A (forIn ifs true fun c r => if r = true then do let ok ← isTrue c X.env (eval c X.env); pure (ForInStep.yield ok) else pure (ForInStep.yield r)) (TP X pins σ Q) X.xe s
noncomputable def tTrue : TT := fun _ H Q => Q true H
theorem pifs_nil {X : Cx} : PIfs X [] tTrue := fun pins s σ H Q I h => wpAny_tests_nil ⟨H, I, h⟩
theorem pifs_one {X : Cx} {c : Expr} {t : TT} (h : PT X c t) : PIfs X [c] t := fun pins s σ H Q I q => wpAny_tests_one (h pins s σ H Q I q)

noncomputable def tCompW (J : It) (vn : Nat) (g : TG) (tc : TT) (te : TE) (σ : St) (p : Addr) (H1 : Hp) (Q : Hp → Prop) : Prop :=
  ∃ W : Nat → Nat → Hp → Prop, (∃ m, W 0 m (upd H1 p (.lst []))) ∧ ∀ i m H, W i m H →
    (J.stop i H ∧ Q H) ∨ (J.go i H ∧ ∃ N : Hp → Prop, (∀ H', N H' → ∃ m', m' < m ∧ W (i + 1) m' H') ∧ ∀ x H', J.yld i H x H' → g x (List.replicate vn none ++ σ) H' fun σ2 H2 => (∃ τ : St, σ2 = τ ++ σ ∧ τ.length = vn) ∧ tc σ2 H2 fun b H3 =>
      if b = true then te σ2 H3 fun v H4 => ∃ acc, H4 p = some (.lst acc) ∧ acc.length < sizeLine ∧ N (upd H4 p (.lst (acc ++ [v]))) else N H3)
noncomputable def tComp (wi : TI) (vn : Nat) (g : TG) (tc : TT) (te : TE) : TE := fun σ H Q => wi σ H fun J H1 => ∀ p, H1 p = none → tCompW J vn g tc te σ p H1 (Q (.ref p))

section
variable {X : Cx}
theorem comp_block {elt tg iter : Expr} {ifs : List Expr} {scope : Scope} {pos : Pos} {vars : List Str} {g : TG} {tc : TT} {te : TE} {cl : List (Str × Addr)} (hc : X.calm = true) (S : CmpScope X scope)
    (hg : ∀ cl C s H fp pins, PG (X.cmp scope cl vars C s H fp pins) tg g) (ht : ∀ cl C s H fp pins, PIfs (X.cmp scope cl vars C s H fp pins) ifs tc) (he : ∀ cl C s H fp pins, PE (X.cmp scope cl vars C s H fp pins) elt te)
    (c1 : ∀ p ∈ cl, X.env.cells.lookup p.1 = some p.2) (c2 : ∀ y ∈ scope.names, y.2 = .free → ∃ c, (y.1, c) ∈ cl)
    {pins : List (Addr × Obj)} {s : Shared} {σ : St} {H : Hp} {it : Addr} {fp : List Addr} {tn : Nat → Heap → Prop} {J : It} {E : Value → Shared → Prop} (I : Inv X pins σ H s) (T : Turn X.prog X.w X.K tg J fp it tn) (st : tn 0 s.heap) (f : ∀ b ∈ fp, FpOk X pins H b)
    {Q : Addr → Hp → Prop} (q : ∀ p, H p = none → tCompW J vars.length g tc te σ p H (Q p)) {RR : Value → Addr → Result → Shared → Prop}
    (hRR : ∀ (p C : Addr) (s' : Shared) (H' : Hp) (m : Str → Option Value), s'.heap.Ns C m → H' C = none → C ≠ X.env.locals → (∀ x c, X.env.cells.lookup x = some c → c ≠ C) → (∀ p ∈ X.pn ++ pins, p.1 ≠ C) → X.s₀.heap.objs.size ≤ C →
      (∀ h', Heap.SameBut C s'.heap h' → Inv X pins σ H' { s' with heap := h' }) → Q p H' → RR (.ref p) C (.ok .next) s') :
    wpAny (model X.prog X.w) X.A (newList []) (fun acc s₃ => wpAny (model X.prog X.w) X.A (newFunctionEnv scope X.env.globals cl [] X.env.qual none .none (some X.env)) (fun cenv s₄ =>
      codeAny (model X.prog X.w) X.A (.compStart (.ListComp elt [⟨tg, iter, ifs, 0⟩] scope pos) 0 (.ref it) acc { cenv with scope := relabel scope X.env }) (RR acc cenv.locals) s₄) E s₃) E s := by
  refine wpAny_newObj_type (wpAny_newFunctionEnv S.nocell (by intro y hy; simp at hy) (fun h₁ hns hsb => ?_) S.kind)
  dsimp only at hns hsb ⊢
  have I3 : Inv X pins σ (upd H s.heap.objs.size (.lst [])) { s with heap := s.heap.push { cls := .type "list", data := .seq ([] : List Value).toArray }, toks := s.toks } := I.lnew (its := []) .nil (Nat.zero_le _)
  generalize hs3 : ({ s with heap := s.heap.push { cls := .type "list", data := .seq ([] : List Value).toArray }, toks := s.toks } : Shared) = s3 at I3
  have hp : H s.heap.objs.size = none := I.fresh
  have eh : s3.heap = s.heap.push { cls := .type "list", data := .seq ([] : List Value).toArray } := by rw [← hs3]
  have sz3 : s3.heap.objs.size = s.heap.objs.size + 1 := by rw [eh, Heap.size_push]
  rw [← eh] at hns hsb
  have fo : ∀ b ∈ fp, b < s.heap.objs.size := fun b hb => by
    obtain ⟨o, e, _⟩ := T.obj _ _ st b hb
    exact Heap.lt_size e
  have f3 : ∀ b ∈ fp, FpOk X pins (upd H s.heap.objs.size (.lst [])) b := fun b hb => by
    refine ⟨?_, (f b hb).2⟩
    rw [upd_ne (Nat.ne_of_lt (fo b hb))]; exact (f b hb).1
  have fo3 : ∀ b ∈ fp, b < s3.heap.objs.size := fun b hb => by rw [sz3]; exact Nat.lt_succ_of_lt (fo b hb)
  have up : ∀ b o, s3.heap.get? b = some o → h₁.get? b = some o := fun b o e => hsb.extBut b o (Nat.ne_of_lt (Heap.lt_size e)) (Heap.get?_push_of_some _ e)
  have st1 : tn 0 h₁ := T.keep 0 _ _ st fun b hb o e => up b o (by rw [eh]; exact Heap.get?_push_of_some _ e)
  have I4 : Inv (X.cmp scope cl vars s3.heap.objs.size s3 (upd H s.heap.objs.size (.lst [])) fp pins) [] (List.replicate vars.length none ++ σ) (upd H s.heap.objs.size (.lst [])) { s3 with heap := h₁, toks := s3.toks + ([] : List (Str × Value)).length } :=
    inv_cmp hc S I3 c1 c2 hns up f3 fo3
  obtain ⟨W, ⟨m0, w0⟩, turn⟩ := q _ hp
  have es : ({ s3 with heap := h₁, toks := s3.toks + ([] : List (Str × Value)).length } : Shared) = { s with heap := h₁, toks := s.toks + ([] : List (Str × Value)).length } := by rw [← hs3]
  -- what stays true of the iterator's objects
  have stat : ∀ {H' : Hp}, (∀ b ∈ fp, H' b = none) → ∀ b ∈ fp, FpOk (X.cmp scope cl vars s3.heap.objs.size s3 (upd H s.heap.objs.size (.lst [])) fp pins) [] H' b := fun hn b hb => by
    refine ⟨hn b hb, Nat.ne_of_lt (fo3 b hb), fun hm => ?_, .inl hb, fun x c e => (f b hb).2.2.2.2.1 x c (c1 (x, c) (PySem.mem_of_lookup e)), fun p hp => (f b hb).2.2.2.2.2 p (by simpa using hp)⟩
    rcases List.mem_cons.mp (I3.stkSub b hm) with z | z
    · exact (f b hb).2.1 z
    · exact (f b hb).2.2.1 z
  have loop : ∀ s₄ : Shared, s₄ = { s3 with heap := h₁, toks := s3.toks + ([] : List (Str × Value)).length } →
      codeAny (model X.prog X.w) X.A (.compLoop (.ListComp elt [⟨tg, iter, ifs, 0⟩] scope pos) 0 (.ref it) (.ref s.heap.objs.size) (compEnvC scope cl s3.heap.objs.size X.env)) (RR (.ref s.heap.objs.size) s3.heap.objs.size) s₄ := by
    rintro s₄ rfl
    refine codeAny_compLoop_go (fun n s' => ∃ i H', Inv (X.cmp scope cl vars s3.heap.objs.size s3 (upd H s.heap.objs.size (.lst [])) fp pins) [] (List.replicate vars.length none ++ σ) H' s' ∧ tn i s'.heap ∧ (∀ b ∈ fp, H' b = none) ∧ W i n H') ?_ m0
      ⟨0, _, I4, st1, fun b hb => (f3 b hb).1, w0⟩
    rintro n s5 ⟨i, H5, I5, st5, fr5, w5⟩
    rcases turn i n H5 w5 with ⟨stop, qn⟩ | ⟨go, N, hN, step⟩
    · refine thn (T.done (X.cmp scope cl vars s3.heap.objs.size s3 (upd H s.heap.objs.size (.lst [])) fp pins) rfl rfl rfl hc i [] s5 _ H5 _ I5 (stat fr5) st5 stop) fun r s6 hpat => ?_
      obtain ⟨hr, I6⟩ := hpat
      subst hr
      obtain ⟨m, hn, _⟩ := id I6.loc
      refine hRR _ _ s6 H5 m hn I6.free ?_ ?_ ?_ ?_ (fun h' hs' => inv_cmp_end I3 f3 I6 hs') qn
      · exact Nat.ne_of_gt I3.lt
      · intro x c e z
        obtain ⟨v, hv⟩ := I3.cell x c e
        exact absurd hv.lt (by rw [z]; exact Nat.lt_irrefl _)
      · intro p hp z
        obtain ⟨e, _⟩ := I3.pin p hp
        exact absurd (Heap.lt_size e) (by rw [z]; exact Nat.lt_irrefl _)
      · exact I3.sz
    · refine thn (T.item (X.cmp scope cl vars s3.heap.objs.size s3 (upd H s.heap.objs.size (.lst [])) fp pins) rfl rfl rfl hc i [] s5 _ H5 _ I5 (stat fr5) st5 go) fun r s6 hpat => ?_
      obtain ⟨u, hr, h6⟩ := hpat
      subst hr
      refine thn h6 fun _ s7 hpat => ?_
      obtain ⟨x, H7, I7, r7, y7, st7, fr7⟩ := hpat
      have I7' := I7.pinned (stat fr7) (T.obj _ _ st7)
      refine thn (hg _ _ _ _ _ _ _ s7 _ H7 x u _ I7' r7 (step x H7 y7)) fun _ s8 hpat => ?_
      obtain ⟨σ8, H8, I8, ⟨τ, e8, l8⟩, q8⟩ := hpat
      have back : ∀ {H9 : Hp} {s9 : Shared} {m' : Nat}, Inv (X.cmp scope cl vars s3.heap.objs.size s3 (upd H s.heap.objs.size (.lst [])) fp pins) ([] ++ pinsAt fp s7.heap) σ8 H9 s9 → m' < n → W (i + 1) m' H9 →
          ∃ m, m < n ∧ ∃ i H', Inv (X.cmp scope cl vars s3.heap.objs.size s3 (upd H s.heap.objs.size (.lst [])) fp pins) [] (List.replicate vars.length none ++ σ) H' s9 ∧ tn i s9.heap ∧ (∀ b ∈ fp, H' b = none) ∧ W i m H' := by
        intro H9 s9 m' I9 hm w9
        refine ⟨m', hm, i + 1, H9, (I9.unpinned (pins := [])).weak ?_ ?_, T.keep _ _ _ st7 fun b hb o e => (I9.pin (b, o) (List.mem_append_right _ (List.mem_append_right _ (mem_pinsAt hb e)))).1, fun b hb => ?_, w9⟩
        · rw [e8, List.length_append, List.length_append, List.length_replicate, l8]
        · intro j v ej
          by_cases hj : j < vars.length
          · rw [List.getElem?_append_left (by simpa using hj), List.getElem?_replicate, if_pos hj] at ej
            cases ej
          · rw [List.getElem?_append_right (by simpa using hj), List.length_replicate] at ej
            rw [e8, List.getElem?_append_right (by omega), l8]
            exact ej
        · obtain ⟨o, e, d⟩ := T.obj _ _ st7 b hb
          exact (I9.pin (b, o) (List.mem_append_right _ (List.mem_append_right _ (mem_pinsAt hb e)))).2.1
      refine thn (ht _ _ _ _ _ _ _ s8 σ8 H8 _ I8 q8) fun b s9 hpat => ?_
      obtain ⟨H9, I9, q9⟩ := hpat
      cases b with
      | false =>
        rw [if_neg Bool.false_ne_true] at q9 ⊢
        obtain ⟨m', hm, w9⟩ := hN _ q9
        exact back I9 hm w9
      | true =>
        rw [if_pos rfl] at q9 ⊢
        refine thn (he _ _ _ _ _ _ _ s9 σ8 H9 _ I9 q9) fun y s10 hpat => ?_
        obtain ⟨v, H10, I10, r10, acc, a10, z10, w10⟩ := hpat
        refine thn (mt_append _ s10 σ8 H10 (.ref s.heap.objs.size) [v] (.ref s.heap.objs.size) [y] (fun _ H11 => N H11) I10 rfl (.cons r10 .nil) ⟨_, acc, v, rfl, rfl, a10, z10, w10⟩) fun _ s11 hpat => ?_
        obtain ⟨_, H11, I11, _, w11⟩ := hpat
        obtain ⟨m', hm, w12⟩ := hN _ w11
        exact back I11 hm w12
  have fin := codeAny_compStart_list (loop _ rfl) (T.self X.A 0 { s3 with heap := h₁, toks := s3.toks + ([] : List (Str × Value)).length } _ _ st1 (loop _ rfl))
  subst hs3
  exact fin

theorem pe_comp {elt tg iter : Expr} {ifs : List Expr} {scope : Scope} {pos : Pos} (vars : List Str) {wi : TI} {g : TG} {tc : TT} {te : TE} (hc : X.calm = true) (S : CmpScope X scope) (hi : PI X tg iter wi)
    (hg : ∀ cl C s H fp pins, PG (X.cmp scope cl vars C s H fp pins) tg g) (ht : ∀ cl C s H fp pins, PIfs (X.cmp scope cl vars C s H fp pins) ifs tc) (he : ∀ cl C s H fp pins, PE (X.cmp scope cl vars C s H fp pins) elt te)
    (hs : ∀ x, foldedSetIterable iter X.env x = pure x := by intro _; rfl) : PE X (.ListComp elt [⟨tg, iter, ifs, 0⟩] scope pos) (tComp wi vars.length g tc te) := by
  intro pins s σ H Q I h
  obtain ⟨cl, hcl, c1, c2⟩ := closure_ok (scope := scope) (env := X.env) fun y hy hf => I.ok.has y.1 (by rcases S.free y hy hf with z | z; exact .inl z; exact .inr z)
  rw [eval_ListComp]
  refine wpAny_comprehension_free (use := none) rfl hs hcl S.kind S.names (thn (hi pins s σ H _ I h) fun v s1 h1 => thn h1 fun itv s2 h2 => ?_)
  obtain ⟨it, fp, tn, J, H2, e, I2, T, st2, f2, q⟩ := h2
  subst e
  refine comp_block (vars := vars) (Q := fun p => Q (.ref p)) hc S hg ht he c1 c2 I2 T st2 f2 q (RR := fun acc C => compPost (model X.prog X.w) X.A X.xe none (EP X pins σ Q) acc C) ?_
  intro p C s' H' m hn _ _ _ _ _ back hq
  exact ⟨m, hn, fun h' hs' => ⟨.ref p, H', back h' hs', rfl, hq⟩⟩

noncomputable def tSetComp (i : Nat) (wi : TI) (vn : Nat) (g : TG) (tc : TT) (te : TE) : TS := fun D σ H => tComp wi vn g tc te σ H fun v H1 => D.nx (σ.set i (some v)) H1
theorem ps_setcomp {elt tg iter : Expr} {ifs : List Expr} {scope : Scope} {pos spos py : Pos} {i : Nat} {y : Str} (vars : List Str) {wi : TI} {g : TG} {tc : TT} {te : TE} (hc : X.calm = true) (S : CmpScope X scope)
    (hN : X.N.Nodup) (hy : X.N[i]? = some y) (hl : Loc X.env.scope y) (hi : PI X tg iter wi)
    (hg : ∀ cl C s H fp pins, PG (X.cmp scope cl vars C s H fp pins) tg g) (ht : ∀ cl C s H fp pins, PIfs (X.cmp scope cl vars C s H fp pins) ifs tc) (he : ∀ cl C s H fp pins, PE (X.cmp scope cl vars C s H fp pins) elt te)
    (hsw : swapsWith (.ListComp elt [⟨tg, iter, ifs, 0⟩] scope pos) (some (.Name y py)) spos.line X.env = pure true)
    (hf : X.fn y = true ∨ X.env.scope.names.lookup y = some .local := by first | exact .inl rfl | exact .inr rfl | assumption)
    (hs : ∀ x, foldedSetIterable iter X.env x = pure x := by intro _; rfl) :
    PS X (.Assign [.Name y py] (.ListComp elt [⟨tg, iter, ifs, 0⟩] scope pos) spos) (tSetComp i wi vars.length g tc te) := by
  intro pins s σ H D I h
  obtain ⟨cl, hcl, c1, c2⟩ := closure_ok (scope := scope) (env := X.env) fun y hy hf => I.ok.has y.1 (by rcases S.free y hy hf with z | z; exact .inl z; exact .inr z)
  rw [exec_Assign_Name_used _ _ _ _ hsw]
  refine wpAny_bind (wpAny_standAt (wpAny_bind ?_))
  show wpAny _ X.A (do let _ ← comprehension (.ListComp elt [⟨tg, iter, ifs, 0⟩] scope pos) scope X.env _ (newList []) false (eval iter X.env) (some (assign (.Name y py) X.env))) _ _ s
  refine wpAny_bind (wpAny_mono (wpAny_comprehension_free (use := some (assign (.Name y py) X.env)) (Q := fun _ s' => SP X pins D .next s') rfl hs hcl S.kind S.names
    (thn (hi pins s σ H _ I h) fun v s1 h1 => thn h1 fun itv s2 h2 => ?_)) (fun _ s' hq => wpAny_pure (wpAny_pure hq)) fun _ _ e => e)
  obtain ⟨it, fp, tn, J, H2, e, I2, T, st2, f2, q⟩ := h2
  subst e
  refine comp_block (vars := vars) (Q := fun p H1 => D.nx (σ.set i (some (.ref p))) H1) hc S hg ht he c1 c2 I2 T st2 f2 q (RR := fun acc C => compPost (model X.prog X.w) X.A X.xe (some (assign (.Name y py) X.env)) (fun _ s' => SP X pins D .next s') acc C) ?_
  intro p C s' H' m hn hC hL hcells hpins hsz back hq
  have I' : Inv X pins σ H' s' := by have := back s'.heap (.refl ..); exact this
  show wpAny _ X.A (assign (.Name y py) X.env (.ref p)) _ _ _
  refine wpAny_assign_Name (store_ok2 I' hN hy hl (v := .ref p) (u := .ref p) rfl (fun s'' I'' hpat => ?_) hf)
  obtain ⟨a, sb, ha⟩ := hpat
  have hCa : C ≠ a := by
    rcases ha with z | z
    · rw [z]; exact hL
    · exact fun w => hcells _ _ z w.symm
  refine ⟨m, hn.sameBut sb hCa, fun h' hs' => ⟨_, H', I''.turned (t' := s''.toks) (it := C) (fun b o hb e => (hs'.2 b hb).trans e) hC hL (.inr hsz) hcells hpins, hq⟩⟩
end

theorem comp_range {lo : Int} {n vn : Nat} {g : TG} {tc : TT} {te : TE} {σ : St} {p : Addr} {H1 : Hp} {Q : Hp → Prop} (Pv : Nat → Hp → Prop) (h0 : Pv 0 (upd H1 p (.lst [])))
    (hs : ∀ i H, i < n → Pv i H → g (.int (lo + i)) (List.replicate vn none ++ σ) H fun σ2 H2 => (∃ τ : St, σ2 = τ ++ σ ∧ τ.length = vn) ∧ tc σ2 H2 fun b H3 =>
      if b = true then te σ2 H3 fun v H4 => ∃ acc, H4 p = some (.lst acc) ∧ acc.length < sizeLine ∧ Pv (i + 1) (upd H4 p (.lst (acc ++ [v]))) else Pv (i + 1) H3) (hd : ∀ H, Pv n H → Q H) : tCompW (Itr lo n) vn g tc te σ p H1 Q := by
  refine ⟨fun i m H => i ≤ n ∧ m = n - i ∧ Pv i H, ⟨n, Nat.zero_le _, rfl, h0⟩, fun i m H hw => ?_⟩
  obtain ⟨hi, rfl, hp⟩ := hw
  by_cases hl : i < n
  · refine .inr ⟨hl, Pv (i + 1), fun H' h' => ⟨n - (i + 1), by omega, by omega, rfl, h'⟩, fun x H' hy => ?_⟩
    obtain ⟨e1, e2⟩ := hy
    subst e1 e2
    exact hs i _ hl hp
  · have e : i = n := by omega
    subst e
    exact .inl ⟨Nat.le_refl _, hd H hp⟩
theorem comp_list {K : PySem.W.Frag} {a : Addr} {xs : List V} {vn : Nat} {g : TG} {tc : TT} {te : TE} {σ : St} {p : Addr} {H1 : Hp} {Q : Hp → Prop} (Pv : Nat → Hp → Prop) (h0 : Pv 0 (upd H1 p (.lst []))) (hl : ∀ i H, i ≤ xs.length → Pv i H → SqL K H a xs)
    (hs : ∀ i x H, xs[i]? = some x → Pv i H → g x (List.replicate vn none ++ σ) H fun σ2 H2 => (∃ τ : St, σ2 = τ ++ σ ∧ τ.length = vn) ∧ tc σ2 H2 fun b H3 =>
      if b = true then te σ2 H3 fun v H4 => ∃ acc, H4 p = some (.lst acc) ∧ acc.length < sizeLine ∧ Pv (i + 1) (upd H4 p (.lst (acc ++ [v]))) else Pv (i + 1) H3) (hd : ∀ H, Pv xs.length H → Q H) : tCompW (Itl K a) vn g tc te σ p H1 Q := by
  refine ⟨fun i m H => i ≤ xs.length ∧ m = xs.length - i ∧ Pv i H, ⟨xs.length, Nat.zero_le _, rfl, h0⟩, fun i m H hw => ?_⟩
  obtain ⟨hi, rfl, hp⟩ := hw
  have hq := hl i H hi hp
  by_cases hlt : i < xs.length
  · refine .inr ⟨⟨xs, xs[i], hq, List.getElem?_eq_getElem hlt⟩, Pv (i + 1), fun H' h' => ⟨xs.length - (i + 1), by omega, by omega, rfl, h'⟩, fun x H' hy => ?_⟩
    obtain ⟨e1, e2⟩ := hy
    subst e1
    exact hs i x _ (e2 xs hq) hp
  · have e : i = xs.length := by omega
    subst e
    exact .inl ⟨⟨xs, hq, Nat.le_refl _⟩, hd H hp⟩
end L2
set_option Elab.async false
set_option linter.all false
set_option maxRecDepth 100000
set_option maxHeartbeats 4000000
namespace ZT
open PySem PySem.Spec PyProof.Rows

section
variable {prog : Program} {w : World} {A : Around} {E : Value → Shared → Prop} {s : Shared}

theorem next_item {it t : Addr} {i : Nat} {items : Array Value} {x : Value} {Q : Value → Shared → Prop} (hit : s.heap.IsTupleIter it t i) (ht : s.heap.IsTuple t items) (hx : items[i]? = some x)
    (hQ : ∀ h', h'.IsTupleIter it t (i + 1) → Heap.SameBut it s.heap h' → Q x { s with heap := h' }) : wpAny (model prog w) A (Builtin.SmallTypes.nextOf (.ref it)) Q E s := by
  obtain ⟨o, ho, hc, hd⟩ := id hit
  obtain ⟨ol, hol, _, nl, hdl⟩ := ht
  unfold Builtin.SmallTypes.nextOf
  refine wpAny_bind (wpAny_callSpecial?_slot (name := Str.ofString "__next__") hit.typeIs F.slot_tuple_iterator_next (wpAny_call_entry F.slot_tuple_iterator_next hit.typeIs F.entry_tuple_iterator_next ?_ (F.args_tuple_iterator_next_1 _)))
  change wpAny _ _ (field (.ref it) 0 >>= _) _ _ s
  refine wpAny_bind (wpAny_field ho hd (x := .ref t) rfl ?_)
  change wpAny _ _ (if (Value.ref t == Value.none) = true then _ else _) _ _ s
  rw [if_neg (show ¬ ((Value.ref t == Value.none) = true) from Bool.false_ne_true)]
  change wpAny _ _ (field (.ref it) 1 >>= _) _ _ s
  refine wpAny_bind (wpAny_field ho hd (x := .int i 0) rfl ?_)
  change wpAny _ _ (seqItems? (.ref t) >>= _) _ _ s
  refine wpAny_bind (wpAny_seqItems hol hdl ?_)
  simp only [Int.toNat_natCast, hx]
  refine wpAny_bind (wpAny_setField ho hd (by simp) (wpAny_pure ⟨x, rfl, wpAny_pure (hQ _ ?_ (Heap.SameBut.update ..))⟩))
  exact ⟨_, Heap.get?_update_self _ ho (Obj.isFreed_of_fields (Obj.data_mapFields hd _)), (Obj.cls_mapFields ..).trans hc, by rw [Obj.data_mapFields hd]; simp [rawInt]⟩

theorem next_end {it t : Addr} {i : Nat} {items : Array Value} {Q : Value → Shared → Prop} (hh : A.handled = none) (hit : s.heap.IsTupleIter it t i) (ht : s.heap.IsTuple t items) (hx : items[i]? = none)
    (hE : ∀ h' e, Heap.ExtBut it s.heap h' → (∃ o, h'.get? e = some o ∧ o.cls = .type "StopIteration") → E (.ref e) { s with heap := h' }) : wpAny (model prog w) A (Builtin.SmallTypes.nextOf (.ref it)) Q E s := by
  obtain ⟨o, ho, hc, hd⟩ := id hit
  obtain ⟨ol, hol, _, nl, hdl⟩ := ht
  unfold Builtin.SmallTypes.nextOf
  refine wpAny_bind (wpAny_callSpecial?_slot (name := Str.ofString "__next__") hit.typeIs F.slot_tuple_iterator_next (wpAny_call_entry F.slot_tuple_iterator_next hit.typeIs F.entry_tuple_iterator_next ?_ (F.args_tuple_iterator_next_1 _)))
  change wpAny _ _ (field (.ref it) 0 >>= _) _ _ s
  refine wpAny_bind (wpAny_field ho hd (x := .ref t) rfl ?_)
  change wpAny _ _ (if (Value.ref t == Value.none) = true then _ else _) _ _ s
  rw [if_neg (show ¬ ((Value.ref t == Value.none) = true) from Bool.false_ne_true)]
  change wpAny _ _ (field (.ref it) 1 >>= _) _ _ s
  refine wpAny_bind (wpAny_field ho hd (x := .int i 0) rfl ?_)
  change wpAny _ _ (seqItems? (.ref t) >>= _) _ _ s
  refine wpAny_bind (wpAny_seqItems hol hdl ?_)
  simp only [Int.toNat_natCast, hx]
  refine wpAny_bind (wpAny_rule (wpAny_bind (wpAny_setField ho hd (by simp) ?_)))
  change wpAny _ _ (newExc (.type "StopIteration") [] >>= _) _ _ _
  refine wpAny_bind ?_
  simp only [newExc, newTuple]
  refine wpAny_bind (wpAny_newObj_type ?_ (by size_fits))
  refine wpAny_bind (m := firstArgMember _ _) (wpAny_of_eq (a := Value.none) (by first | rfl | (simp only [firstArgMember]; rfl)) ?_)
  refine wpAny_newObj_type ?_ (by size_fits)
  simp only [raiseNew]
  refine wpAny_bind (wpAny_handled ?_)
  first | rw [show A.in1.handled = none from hh] | rw [hh]
  refine wpAny_bind (wpAny_pure (wpAny_throw ?_))
  exact hE _ _ (((Heap.SameBut.update ..).extBut.push _).push _) ⟨_, Heap.get?_push_size _ rfl, rfl⟩

noncomputable abbrev IsZ (h : Heap) (z TI TO : Addr) (f0 f1 : Value) : Prop := h.get? z = some { cls := .type "zip", dict := none, data := .fields #[f0, f1, .bool false, .ref TI, .ref TO], slots := #[] }

structure Zt (h : Heap) (z TI TO i1 i2 l1 l2 : Addr) (xs ys : Array Value) (k : Nat) : Prop where
  ti : IsPair h TI (.ref i1) (.ref i2)
  to : ∃ a b, IsPair h TO a b
  n1 : h.IsTupleIter i1 l1 k
  n2 : h.IsTupleIter i2 l2 k
  t1 : h.IsTuple l1 xs
  t2 : h.IsTuple l2 ys

theorem tupleAt {h h' : Heap} {a : Addr} {items : Array Value} (x : h.IsTuple a items) (k : ∀ o, h.get? a = some o → h'.get? a = some o) : h'.IsTuple a items := let ⟨o, e, r⟩ := x; ⟨o, k o e, r⟩

theorem first_item {z TI TO i1 i2 l1 l2 : Addr} {k : Nat} {xs ys : Array Value} {x y : Value} {Q : Value → Shared → Prop} (D : ZipApart z TI TO i1 i2 l1 l2) (hz : IsZ s.heap z TI TO .none (.bool false)) (Z : Zt s.heap z TI TO i1 i2 l1 l2 xs ys k)
    (hx : xs[k]? = some x) (hy : ys[k]? = some y)
    (hQ : ∀ h', IsZ h' z TI TO (rawInt s.heap.objs.size) (.bool false) → Zt h' z TI TO i1 i2 l1 l2 xs ys (k + 1) → IsPair h' s.heap.objs.size x y →
      (∀ c o, c ≠ z → c ≠ TO → c ≠ i1 → c ≠ i2 → s.heap.get? c = some o → h'.get? c = some o) → Q (.ref s.heap.objs.size) { s with heap := h' }) :
    wpAny (model prog w) A (Builtin.«zip.__next__» ⟨[.ref z], []⟩) (fun fin s' => ∃ v, fin = .done (.ret v) ∧ Q v s') E s := by
  obtain ⟨hTI, ⟨a, b, hTO⟩, h1, h2, hl1, hl2⟩ := Z
  change wpAny _ _ (field (.ref z) 2 >>= _) _ _ _
  refine wpAny_bind (wpAny_field hz rfl (x := .bool false) rfl ?_)
  change wpAny _ _ (field (.ref z) 3 >>= _) _ _ _
  refine wpAny_bind (wpAny_field hz rfl (x := .ref TI) rfl ?_)
  refine wpAny_bind (wpAny_seqItems hTI rfl ?_)
  change wpAny _ _ (Builtin.SmallTypes.ownedTupleIsFree (.ref z) >>= _) _ _ _
  refine wpAny_bind ?_
  unfold Builtin.SmallTypes.ownedTupleIsFree
  refine wpAny_bind (wpAny_field hz rfl (x := .none) rfl (wpAny_pure ?_))
  simp only [if_true]
  refine wpAny_bind (wpAny_rule ?_)
  refine wpAny_bind (wpAny_field hz rfl (x := .ref TO) rfl ?_)
  refine wpAny_bind (wpAny_setField_rec hz (by simp) fun g1 z1 b1 => ?_)
  replace z1 : IsZ g1 z TI TO .ellipsis (.bool false) := z1
  refine wpAny_bind ?_
  simp only [List.zipIdx_cons, List.zipIdx_nil, List.forIn_cons, List.forIn_nil]
  refine wpAny_bind (wpAny_bind (wpAny_onRaise ?_))
  change wpAny _ _ (Builtin.SmallTypes.nextOf (.ref i1) >>= _) _ _ _
  refine wpAny_bind (next_item (h1.extBut b1.extBut D.i1z) (hl1.extBut b1.extBut D.l1z) hx fun g2 n2 b2 => wpAny_pure ?_)
  have o2 : IsPair g2 TO a b := b2.extBut _ _ D.TOi1 (b1.extBut _ _ D.TOz hTO)
  refine wpAny_bind (wpAny_seqItems o2 rfl ?_)
  refine wpAny_bind (wpAny_updateSeq_pair o2 fun g3 o3 b3 => ?_)
  replace o3 : IsPair g3 TO x b := o3
  refine wpAny_bind (wpAny_letGo (wpAny_pure ?_))
  refine wpAny_bind (wpAny_bind (wpAny_onRaise ?_))
  change wpAny _ _ (Builtin.SmallTypes.nextOf (.ref i2) >>= _) _ _ _
  refine wpAny_bind (next_item (((h2.extBut b1.extBut D.i2z).extBut b2.extBut D.i12.symm).extBut b3.extBut D.TOi2.symm) (((hl2.extBut b1.extBut D.l2z).extBut b2.extBut D.l2i1).extBut b3.extBut D.l2TO) hy fun g4 n4 b4 => wpAny_pure ?_)
  have o4 : IsPair g4 TO x b := b4.extBut _ _ D.TOi2 o3
  refine wpAny_bind (wpAny_seqItems o4 rfl ?_)
  refine wpAny_bind (wpAny_updateSeq_pair o4 fun g5 o5 b5 => ?_)
  replace o5 : IsPair g5 TO x y := o5
  refine wpAny_bind (wpAny_letGo (wpAny_pure (wpAny_pure ?_)))
  refine wpAny_bind (wpAny_seqItems o5 rfl ?_)
  refine wpAny_bind (wpAny_newTuple ?_)
  have hsz : g5.objs.size = s.heap.objs.size := by rw [b5.1, b4.1, b3.1, b2.1, b1.1]
  have z5 : IsZ g5 z TI TO .ellipsis (.bool false) := b5.extBut _ _ D.TOz.symm (b4.extBut _ _ D.i2z.symm (b3.extBut _ _ D.TOz.symm (b2.extBut _ _ D.i1z.symm z1)))
  have k5 : ∀ c o, c ≠ z → c ≠ TO → c ≠ i1 → c ≠ i2 → s.heap.get? c = some o → g5.get? c = some o := fun c o c1 c2 c3 c4 e =>
    b5.extBut _ _ c2 (b4.extBut _ _ c4 (b3.extBut _ _ c2 (b2.extBut _ _ c3 (b1.extBut _ _ c1 e))))
  have m1 : g5.IsTupleIter i1 l1 (k + 1) := ((n2.extBut b3.extBut D.TOi1.symm).extBut b4.extBut D.i12).extBut b5.extBut D.TOi1.symm
  have m2 : g5.IsTupleIter i2 l2 (k + 1) := n4.extBut b5.extBut D.TOi2.symm
  have zlt : z < g5.objs.size := Heap.lt_size z5
  change wpAny _ _ (Builtin.SmallTypes.ownedTupleHandOut (.ref z) (.ref g5.objs.size) >>= _) _ _ _
  refine wpAny_bind ?_
  unfold Builtin.SmallTypes.ownedTupleHandOut
  have z6 : IsZ (g5.push { cls := .type "tuple", data := .seq #[x, y] }) z TI TO .ellipsis (.bool false) := Heap.get?_push_of_some _ z5
  refine wpAny_bind (wpAny_setField_rec z6 (by simp) fun g7 z7 b7 => ?_)
  replace z7 : IsZ g7 z TI TO (rawInt g5.objs.size) (.bool false) := z7
  refine wpAny_setField_rec z7 (by simp) fun g8 z8 b8 => ?_
  replace z8 : IsZ g8 z TI TO (rawInt g5.objs.size) (.bool false) := z8
  have up : ∀ c o, c ≠ z → g5.get? c = some o → g8.get? c = some o := fun c o c1 e => b8.extBut _ _ c1 (b7.extBut _ _ c1 (Heap.get?_push_of_some _ e))
  have p8 : IsPair g8 g5.objs.size x y := b8.extBut _ _ (Nat.ne_of_gt zlt) (b7.extBut _ _ (Nat.ne_of_gt zlt) (Heap.get?_push_size _ rfl))
  rw [hsz] at z8 p8
  refine wpAny_pure ⟨_, rfl, ?_⟩
  change Q (.ref g5.objs.size) _
  rw [hsz]
  have all : ∀ c o, c ≠ z → c ≠ TO → c ≠ i1 → c ≠ i2 → s.heap.get? c = some o → g8.get? c = some o := fun c o c1 c2 c3 c4 e => up c o c1 (k5 c o c1 c2 c3 c4 e)
  exact hQ g8 z8 ⟨all _ _ D.TIz D.TITO D.TIi1 D.TIi2 hTI, ⟨x, y, up _ _ D.TOz o5⟩, m1.at fun o e => up _ o D.i1z e, m2.at fun o e => up _ o D.i2z e, tupleAt hl1 fun o e => all _ o D.l1z D.l1TO D.l1i1 D.l1i2 e,
    tupleAt hl2 fun o e => all _ o D.l2z D.l2TO D.l2i1 D.l2i2 e⟩ p8 all

theorem more_item {z TI TO i1 i2 l1 l2 T : Addr} {k : Nat} {f : Bool} {oT : Obj} {xs ys : Array Value} {x y : Value} {Q : Value → Shared → Prop} (D : ZipApart z TI TO i1 i2 l1 l2) (hz : IsZ s.heap z TI TO (rawInt T) (.bool f)) (hT : s.heap.get? T = some oT)
    (Z : Zt s.heap z TI TO i1 i2 l1 l2 xs ys k) (hx : xs[k]? = some x) (hy : ys[k]? = some y)
    (hQ : ∀ h', IsZ h' z TI TO (rawInt T) (.bool true) → Zt h' z TI TO i1 i2 l1 l2 xs ys (k + 1) → IsPair h' s.heap.objs.size x y →
      (∀ c o, c ≠ z → c ≠ TO → c ≠ i1 → c ≠ i2 → s.heap.get? c = some o → h'.get? c = some o) → Q (.ref s.heap.objs.size) { s with heap := h' }) :
    wpAny (model prog w) A (Builtin.«zip.__next__» ⟨[.ref z], []⟩) (fun fin s' => ∃ v, fin = .done (.ret v) ∧ Q v s') E s := by
  obtain ⟨hTI, ⟨a, b, hTO⟩, h1, h2, hl1, hl2⟩ := Z
  change wpAny _ _ (field (.ref z) 2 >>= _) _ _ _
  refine wpAny_bind (wpAny_field hz rfl (x := .bool false) rfl ?_)
  change wpAny _ _ (field (.ref z) 3 >>= _) _ _ _
  refine wpAny_bind (wpAny_field hz rfl (x := .ref TI) rfl ?_)
  refine wpAny_bind (wpAny_seqItems hTI rfl ?_)
  change wpAny _ _ (Builtin.SmallTypes.ownedTupleIsFree (.ref z) >>= _) _ _ _
  refine wpAny_bind ?_
  unfold Builtin.SmallTypes.ownedTupleIsFree
  refine wpAny_bind (wpAny_field hz rfl (x := rawInt T) rfl ?_)
  change wpAny _ _ (loadIfAlive ((T : Int).toNat) >>= _) _ _ _
  rw [Int.toNat_natCast]
  refine wpAny_bind (PySem.W.kdx_alive hT ?_)
  simp only [Option.isNone_some, Bool.false_eq_true, if_false]
  refine wpAny_bind (wpAny_field hz rfl (x := .bool f) rfl ?_)
  have tailOk : ∀ g1 : Heap, IsZ g1 z TI TO (rawInt T) (.bool true) → Heap.SameBut z s.heap g1 → ∀ {g2 : Heap}, g2.IsTupleIter i1 l1 (k + 1) → Heap.SameBut i1 g1 g2 → ∀ {g3 : Heap}, g3.IsTupleIter i2 l2 (k + 1) → Heap.SameBut i2 g2 g3 →
      Q (.ref g3.objs.size) { s with heap := g3.push { cls := .type "tuple", data := .seq #[x, y] } } := by
    intro g1 z1 b1 g2 n2 b2 g3 n3 b3
    have hsz : g3.objs.size = s.heap.objs.size := by rw [b3.1, b2.1, b1.1]
    have k3 : ∀ c o, c ≠ z → c ≠ i1 → c ≠ i2 → s.heap.get? c = some o → (g3.push { cls := .type "tuple", data := .seq #[x, y] }).get? c = some o := fun c o c1 c2 c3 e =>
      Heap.get?_push_of_some _ (b3.extBut _ _ c3 (b2.extBut _ _ c2 (b1.extBut _ _ c1 e)))
    have z3 : IsZ (g3.push { cls := .type "tuple", data := .seq #[x, y] }) z TI TO (rawInt T) (.bool true) := Heap.get?_push_of_some _ (b3.extBut _ _ D.i2z.symm (b2.extBut _ _ D.i1z.symm z1))
    have p3 : IsPair (g3.push { cls := .type "tuple", data := .seq #[x, y] }) g3.objs.size x y := Heap.get?_push_size _ rfl
    rw [hsz] at p3 ⊢
    refine hQ _ z3 ⟨k3 _ _ D.TIz D.TIi1 D.TIi2 hTI, ⟨a, b, k3 _ _ D.TOz D.TOi1 D.TOi2 hTO⟩, (n2.extBut b3.extBut D.i12).at fun o e => Heap.get?_push_of_some _ e, n3.at fun o e => Heap.get?_push_of_some _ e,
      tupleAt hl1 fun o e => k3 _ o D.l1z D.l1i1 D.l1i2 e, tupleAt hl2 fun o e => k3 _ o D.l2z D.l2i1 D.l2i2 e⟩ p3 fun c o c1 _ c3 c4 e => k3 c o c1 c3 c4 e
  cases f with
  | true =>
    rw [if_neg (show ¬ ((Value.bool true != Value.bool true) = true) from Bool.false_ne_true)]
    refine wpAny_pure ?_
    simp only [Bool.false_eq_true, if_false, ← Array.forIn_toList, List.forIn_cons, List.forIn_nil]
    refine wpAny_bind (wpAny_bind (wpAny_bind (wpAny_holding ?_)))
    change wpAny _ _ (Builtin.SmallTypes.nextOf (.ref i1) >>= _) _ _ _
    refine wpAny_bind (next_item h1 hl1 hx fun g2 n2 b2 => wpAny_pure (wpAny_pure ?_))
    refine wpAny_bind (wpAny_bind (wpAny_holding ?_))
    change wpAny _ _ (Builtin.SmallTypes.nextOf (.ref i2) >>= _) _ _ _
    refine wpAny_bind (next_item (h2.extBut b2.extBut D.i12.symm) (hl2.extBut b2.extBut D.l2i1) hy fun g3 n3 b3 => wpAny_pure (wpAny_pure (wpAny_pure ?_)))
    refine wpAny_bind (wpAny_newTuple (hsz := by show 2 ≤ sizeLine; decide) (wpAny_pure ⟨_, rfl, ?_⟩))
    exact tailOk s.heap hz (.refl ..) n2 b2 n3 b3
  | false =>
    rw [if_pos (show (Value.bool false != Value.bool true) = true from rfl)]
    refine wpAny_bind (wpAny_setField_rec hz (by simp) fun g1 z1 b1 => ?_)
    replace z1 : IsZ g1 z TI TO (rawInt T) (.bool true) := z1
    refine wpAny_pure ?_
    simp only [Bool.false_eq_true, if_false, ← Array.forIn_toList, List.forIn_cons, List.forIn_nil]
    refine wpAny_bind (wpAny_bind (wpAny_bind (wpAny_holding ?_)))
    change wpAny _ _ (Builtin.SmallTypes.nextOf (.ref i1) >>= _) _ _ _
    refine wpAny_bind (next_item (h1.extBut b1.extBut D.i1z) (hl1.extBut b1.extBut D.l1z) hx fun g2 n2 b2 => wpAny_pure (wpAny_pure ?_))
    refine wpAny_bind (wpAny_bind (wpAny_holding ?_))
    change wpAny _ _ (Builtin.SmallTypes.nextOf (.ref i2) >>= _) _ _ _
    refine wpAny_bind (next_item ((h2.extBut b1.extBut D.i2z).extBut b2.extBut D.i12.symm) ((hl2.extBut b1.extBut D.l2z).extBut b2.extBut D.l2i1) hy fun g3 n3 b3 => wpAny_pure (wpAny_pure (wpAny_pure ?_)))
    refine wpAny_bind (wpAny_newTuple (hsz := by show 2 ≤ sizeLine; decide) (wpAny_pure ⟨_, rfl, ?_⟩))
    exact tailOk g1 z1 b1 n2 b2 n3 b3

theorem zip_end {z TI TO i1 i2 l1 l2 : Addr} {k : Nat} {f0 : Value} {f : Bool} {xs ys : Array Value} {Q : Fin → Shared → Prop} (hh : A.handled = none) (D : ZipApart z TI TO i1 i2 l1 l2) (hz : IsZ s.heap z TI TO f0 (.bool f))
    (hf : f0 = .none ∨ ∃ T oT, f0 = rawInt ((T : Nat) : Int) ∧ s.heap.get? T = some oT) (Z : Zt s.heap z TI TO i1 i2 l1 l2 xs ys k) (hend : xs[k]? = none ∨ ys[k]? = none)
    (hE : ∀ h' e, (∀ c o, c ≠ z → c ≠ TO → c ≠ i1 → c ≠ i2 → s.heap.get? c = some o → h'.get? c = some o) → (∃ o, h'.get? e = some o ∧ o.cls = .type "StopIteration") → E (.ref e) { s with heap := h' }) :
    wpAny (model prog w) A (Builtin.«zip.__next__» ⟨[.ref z], []⟩) Q E s := by
  obtain ⟨hTI, ⟨a, b, hTO⟩, h1, h2, hl1, hl2⟩ := Z
  change wpAny _ _ (field (.ref z) 2 >>= _) _ _ _
  refine wpAny_bind (wpAny_field hz rfl (x := .bool false) rfl ?_)
  change wpAny _ _ (field (.ref z) 3 >>= _) _ _ _
  refine wpAny_bind (wpAny_field hz rfl (x := .ref TI) rfl ?_)
  refine wpAny_bind (wpAny_seqItems hTI rfl ?_)
  change wpAny _ _ (Builtin.SmallTypes.ownedTupleIsFree (.ref z) >>= _) _ _ _
  refine wpAny_bind ?_
  unfold Builtin.SmallTypes.ownedTupleIsFree
  rcases hf with rfl | ⟨T, oT, rfl, hT⟩
  · refine wpAny_bind (wpAny_field hz rfl (x := .none) rfl (wpAny_pure ?_))
    simp only [if_true]
    refine wpAny_bind (wpAny_rule ?_)
    refine wpAny_bind (wpAny_field hz rfl (x := .ref TO) rfl ?_)
    refine wpAny_bind (wpAny_setField_rec hz (by simp) fun g1 z1 b1 => ?_)
    replace z1 : IsZ g1 z TI TO .ellipsis (.bool f) := z1
    refine wpAny_bind ?_
    simp only [List.zipIdx_cons, List.zipIdx_nil, List.forIn_cons, List.forIn_nil]
    refine wpAny_bind (wpAny_bind (wpAny_onRaise ?_))
    change wpAny _ _ (Builtin.SmallTypes.nextOf (.ref i1) >>= _) _ _ _
    cases hx : xs[k]? with
    | none =>
      refine wpAny_bind (next_end hh (h1.extBut b1.extBut D.i1z) (hl1.extBut b1.extBut D.l1z) hx fun g2 e b2 he => ?_)
      obtain ⟨oe, hoe, hce⟩ := he
      have z2 : IsZ g2 z TI TO .ellipsis (.bool f) := b2 _ _ D.i1z.symm z1
      have hez : e ≠ z := fun x => by subst x; rw [z2] at hoe; cases hoe; simp at hce
      exact wpAny_setField_rec z2 (by simp) fun g3 _ b3 => hE g3 e (fun c o c1 _ c3 _ x => b3.extBut _ _ c1 (b2 _ _ c3 (b1.extBut _ _ c1 x))) ⟨oe, b3.extBut _ _ hez hoe, hce⟩
    | some x =>
      have hy : ys[k]? = none := by rcases hend with h | h; rw [hx] at h; cases h; exact h
      refine wpAny_bind (next_item (h1.extBut b1.extBut D.i1z) (hl1.extBut b1.extBut D.l1z) hx fun g2 n2 b2 => wpAny_pure ?_)
      have o2 : IsPair g2 TO a b := b2.extBut _ _ D.TOi1 (b1.extBut _ _ D.TOz hTO)
      refine wpAny_bind (wpAny_seqItems o2 rfl ?_)
      refine wpAny_bind (wpAny_updateSeq_pair o2 fun g3 o3 b3 => ?_)
      refine wpAny_bind (wpAny_letGo (wpAny_pure ?_))
      refine wpAny_bind (wpAny_bind (wpAny_onRaise ?_))
      change wpAny _ _ (Builtin.SmallTypes.nextOf (.ref i2) >>= _) _ _ _
      refine wpAny_bind (next_end hh (((h2.extBut b1.extBut D.i2z).extBut b2.extBut D.i12.symm).extBut b3.extBut D.TOi2.symm) (((hl2.extBut b1.extBut D.l2z).extBut b2.extBut D.l2i1).extBut b3.extBut D.l2TO) hy fun g4 e b4 he => ?_)
      obtain ⟨oe, hoe, hce⟩ := he
      have z4 : IsZ g4 z TI TO .ellipsis (.bool f) := b4 _ _ D.i2z.symm (b3.extBut _ _ D.TOz.symm (b2.extBut _ _ D.i1z.symm z1))
      have hez : e ≠ z := fun x => by subst x; rw [z4] at hoe; cases hoe; simp at hce
      exact wpAny_setField_rec z4 (by simp) fun g5 _ b5 => hE g5 e (fun c o c1 c2 c3 c4 x => b5.extBut _ _ c1 (b4 _ _ c4 (b3.extBut _ _ c2 (b2.extBut _ _ c3 (b1.extBut _ _ c1 x))))) ⟨oe, b5.extBut _ _ hez hoe, hce⟩
  · refine wpAny_bind (wpAny_field hz rfl (x := rawInt T) rfl ?_)
    change wpAny _ _ (loadIfAlive ((T : Int).toNat) >>= _) _ _ _
    rw [Int.toNat_natCast]
    refine wpAny_bind (PySem.W.kdx_alive hT ?_)
    simp only [Option.isNone_some, Bool.false_eq_true, if_false]
    refine wpAny_bind (wpAny_field hz rfl (x := .bool f) rfl ?_)
    have fin : ∀ g1 : Heap, Heap.SameBut z s.heap g1 → (xs[k]? = none → ∀ {g2 : Heap} {e : Addr}, Heap.ExtBut i1 g1 g2 → (∃ o, g2.get? e = some o ∧ o.cls = .type "StopIteration") → E (.ref e) { s with heap := g2 }) ∧
        (∀ {g2 g3 : Heap} {e : Addr}, Heap.SameBut i1 g1 g2 → Heap.ExtBut i2 g2 g3 → (∃ o, g3.get? e = some o ∧ o.cls = .type "StopIteration") → E (.ref e) { s with heap := g3 }) := fun g1 b1 =>
      ⟨fun _ {g2 e} b2 he => hE g2 e (fun c o c1 _ c3 _ x => b2 _ _ c3 (b1.extBut _ _ c1 x)) he, fun {g2 g3 e} b2 b3 he => hE g3 e (fun c o c1 _ c3 c4 x => b3 _ _ c4 (b2.extBut _ _ c3 (b1.extBut _ _ c1 x))) he⟩
    cases f with
    | true =>
      rw [if_neg (show ¬ ((Value.bool true != Value.bool true) = true) from Bool.false_ne_true)]
      refine wpAny_pure ?_
      simp only [Bool.false_eq_true, if_false, ← Array.forIn_toList, List.forIn_cons, List.forIn_nil]
      refine wpAny_bind (wpAny_bind (wpAny_bind (wpAny_holding ?_)))
      change wpAny _ _ (Builtin.SmallTypes.nextOf (.ref i1) >>= _) _ _ _
      cases hx : xs[k]? with
      | none => exact wpAny_bind (next_end hh h1 hl1 hx fun g2 e b2 he => (fin s.heap (.refl ..)).1 hx b2 he)
      | some x =>
        have hy : ys[k]? = none := by rcases hend with h | h; rw [hx] at h; cases h; exact h
        refine wpAny_bind (next_item h1 hl1 hx fun g2 n2 b2 => wpAny_pure (wpAny_pure ?_))
        refine wpAny_bind (wpAny_bind (wpAny_holding ?_))
        change wpAny _ _ (Builtin.SmallTypes.nextOf (.ref i2) >>= _) _ _ _
        exact wpAny_bind (next_end hh (h2.extBut b2.extBut D.i12.symm) (hl2.extBut b2.extBut D.l2i1) hy fun g3 e b3 he => (fin s.heap (.refl ..)).2 b2 b3 he)
    | false =>
      rw [if_pos (show (Value.bool false != Value.bool true) = true from rfl)]
      refine wpAny_bind (wpAny_setField_rec hz (by simp) fun g1 z1 b1 => ?_)
      refine wpAny_pure ?_
      simp only [Bool.false_eq_true, if_false, ← Array.forIn_toList, List.forIn_cons, List.forIn_nil]
      refine wpAny_bind (wpAny_bind (wpAny_bind (wpAny_holding ?_)))
      change wpAny _ _ (Builtin.SmallTypes.nextOf (.ref i1) >>= _) _ _ _
      cases hx : xs[k]? with
      | none => exact wpAny_bind (next_end hh (h1.extBut b1.extBut D.i1z) (hl1.extBut b1.extBut D.l1z) hx fun g2 e b2 he => (fin g1 b1).1 hx b2 he)
      | some x =>
        have hy : ys[k]? = none := by rcases hend with h | h; rw [hx] at h; cases h; exact h
        refine wpAny_bind (next_item (h1.extBut b1.extBut D.i1z) (hl1.extBut b1.extBut D.l1z) hx fun g2 n2 b2 => wpAny_pure (wpAny_pure ?_))
        refine wpAny_bind (wpAny_bind (wpAny_holding ?_))
        change wpAny _ _ (Builtin.SmallTypes.nextOf (.ref i2) >>= _) _ _ _
        exact wpAny_bind (next_end hh ((h2.extBut b1.extBut D.i2z).extBut b2.extBut D.i12.symm) ((hl2.extBut b1.extBut D.l2z).extBut b2.extBut D.l2i1) hy fun g3 e b3 he => (fin g1 b1).2 b2 b3 he)

theorem zip_no_len : typeLookup (.type "zip") "__len__" = pure none := by rw [typeLookup_type, builtinLookup_eq_fast]; kernel_rfl
theorem zip_no_hint : typeLookup (.type "zip") "__length_hint__" = pure none := by rw [typeLookup_type, builtinLookup_eq_fast]; kernel_rfl

noncomputable def Pairs (h : Heap) (S : Addr) (xs ys : Array Value) (acc : Array Value) : Prop := ∀ (j : Nat) (v : Value), acc[j]? = some v → ∃ T x y, v = .ref T ∧ xs[j]? = some x ∧ ys[j]? = some y ∧ S < T ∧ IsPair h T x y

theorem loop {R : Result → Shared → Prop} {z TI TO i1 i2 l1 l2 S : Addr} {xs ys : Array Value} {res : Value} (hh : A.handled = none) (D : ZipApart z TI TO i1 i2 l1 l2) (hS1 : ∀ b ∈ [z, TI, TO, i1, i2, l1, l2], S ≠ b) (hn : min xs.size ys.size ≤ sizeLine) :
    ∀ (r k : Nat) (s : Shared) (acc : Array Value) (c : Nat) (f0 : Value) (f : Bool), min xs.size ys.size - k = r → k ≤ min xs.size ys.size → Zt s.heap z TI TO i1 i2 l1 l2 xs ys k → IsZ s.heap z TI TO f0 (.bool f) →
      ((f0 = .none ∧ f = false) ∨ ∃ T oT, f0 = rawInt ((T : Nat) : Int) ∧ s.heap.get? T = some oT ∧ ∀ b ∈ [z, TO, i1, i2, S], T ≠ b) →
      s.heap.get? S = some { cls := .type "list", dict := none, data := .seq acc c, slots := #[] } → acc.size = k → Pairs s.heap S xs ys acc → (∀ (j : Nat) (T : Addr), acc[j]? = some (.ref T) → ∀ b ∈ [z, TO, i1, i2, S], T ≠ b) →
      (∀ h' acc' c', (∀ b o, b ≠ S → b ≠ z → b ≠ TO → b ≠ i1 → b ≠ i2 → s.heap.get? b = some o → h'.get? b = some o) → h'.get? S = some { cls := .type "list", dict := none, data := .seq acc' c', slots := #[] } →
        acc'.size = min xs.size ys.size → Pairs h' S xs ys acc' → R (.ok (.ret res)) { s with heap := h' }) →
      codeAny (model prog w) A (.builtin "list.extend.loop" ⟨[.ref S, .ref z, res], []⟩) R s := by
  intro r
  have Sz : S ≠ z := hS1 z (by simp)
  have STO : S ≠ TO := hS1 TO (by simp)
  have Si1 : S ≠ i1 := hS1 i1 (by simp)
  have Si2 : S ≠ i2 := hS1 i2 (by simp)
  induction r with
  | zero =>
    intro k s acc c f0 f hr hk Z hz hf hS ha hp hap hR
    have hkn : k = min xs.size ys.size := by omega
    refine codeAny_builtin F.entry_extend_loop ?_
    rw [Around.under_plainId F.plain_extend_loop _]
    change wpAny _ A.in1 (pyNext (.ref z) >>= _) _ _ s
    have hT : s.TypeIs (.ref z) "zip" := ⟨_, hz, rfl⟩
    have hend : xs[k]? = none ∨ ys[k]? = none := by
      rcases Nat.le_total xs.size ys.size with h | h
      · exact .inl (Array.getElem?_eq_none (by rw [hkn, Nat.min_eq_left h]; exact Nat.le_refl _))
      · exact .inr (Array.getElem?_eq_none (by rw [hkn, Nat.min_eq_right h]; exact Nat.le_refl _))
    refine wpAny_bind ?_
    unfold pyNext
    refine wpAny_bind (wpAny_attempt (wpAny_callSpecial?_slot (name := Str.ofString "__next__") hT F.slot_zip_next (wpAny_call_entry F.slot_zip_next hT F.entry_zip_next
      (zip_end hh D hz (by rcases hf with ⟨e, _⟩ | ⟨T, oT, e, eT, _⟩; exact .inl e; exact .inr ⟨T, oT, e, eT⟩) Z hend fun h' e kp he => ?_) (F.args_zip_next_1 _))))
    obtain ⟨o, ho, hc⟩ := he
    refine wpAny_bind (wpAny_isInstance (T := "StopIteration") (b := true) ⟨o, ho, hc⟩ isSubtype_stop ?_)
    refine wpAny_pure (wpAny_pure ?_)
    refine hR h' acc c (fun b o _ b1 b2 b3 b4 e => kp b o b1 b2 b3 b4 e) (kp _ _ Sz STO Si1 Si2 hS) (by omega) (fun j v e => ?_)
    obtain ⟨T, x, y, rfl, ex, ey, lt, pr⟩ := hp j v e
    have q := hap j T e
    exact ⟨T, x, y, rfl, ex, ey, lt, kp _ _ (q z (by simp)) (q TO (by simp)) (q i1 (by simp)) (q i2 (by simp)) pr⟩
  | succ r ih =>
    intro k s acc c f0 f hr hk Z hz hf hS ha hp hap hR
    have hkx : k < xs.size := by omega
    have hky : k < ys.size := by omega
    refine codeAny_builtin F.entry_extend_loop ?_
    rw [Around.under_plainId F.plain_extend_loop _]
    change wpAny _ A.in1 (pyNext (.ref z) >>= _) _ _ s
    have hT : s.TypeIs (.ref z) "zip" := ⟨_, hz, rfl⟩
    have slt : ∀ {b : Addr} {o : Obj}, s.heap.get? b = some o → s.heap.objs.size ≠ b := fun e => Nat.ne_of_gt (Heap.lt_size e)
    obtain ⟨o1, e1, _⟩ := id Z.n1
    obtain ⟨o2, e2, _⟩ := id Z.n2
    obtain ⟨a0, b0, e3⟩ := id Z.to
    have newAp : ∀ b ∈ [z, TO, i1, i2, S], s.heap.objs.size ≠ b := by
      intro b hb
      simp only [List.mem_cons, List.not_mem_nil, or_false] at hb
      rcases hb with rfl | rfl | rfl | rfl | rfl
      · exact slt hz
      · exact slt e3
      · exact slt e1
      · exact slt e2
      · exact slt hS
    -- what follows when the pair has come
    have next : ∀ (h' : Heap) (f0' : Value) (f' : Bool), IsZ h' z TI TO f0' (.bool f') → ((f0' = .none ∧ f' = false) ∨ ∃ T oT, f0' = rawInt ((T : Nat) : Int) ∧ h'.get? T = some oT ∧ ∀ b ∈ [z, TO, i1, i2, S], T ≠ b) →
        Zt h' z TI TO i1 i2 l1 l2 xs ys (k + 1) → IsPair h' s.heap.objs.size xs[k] ys[k] → (∀ c o, c ≠ z → c ≠ TO → c ≠ i1 → c ≠ i2 → s.heap.get? c = some o → h'.get? c = some o) →
        wpAny (model prog w) A.in1 (updateSeq S (·.push (.ref s.heap.objs.size)) >>= fun _ => again (.builtin "list.extend.loop" ⟨[.ref S, .ref z, res], []⟩))
          (fun fin s' => match fin with | .done f => R (.ok f) s' | .again c' => c'.quiet = true ∧ codeAny (model prog w) A c' R s') (fun e s' => R (.error e) s') { s with heap := h' } := by
      intro h' f0' f' z' hf' Z' pr kp
      have S' : h'.get? S = some { cls := .type "list", dict := none, data := .seq acc c, slots := #[] } := kp _ _ Sz STO Si1 Si2 hS
      refine wpAny_bind (wpAny_updateSeq S' rfl (wpAny_pure ⟨plainId_quiet F.plain_extend_loop _, ?_⟩) (by rw [ha]; omega) (by show (acc.push _).size ≤ sizeLine + 1; rw [Array.size_push, ha]; omega))
      have oth : ∀ b o, b ≠ S → h'.get? b = some o → (h'.update S (Obj.mapSeq (·.push (Value.ref s.heap.objs.size)))).get? b = some o := fun b o hb e => (Heap.get?_update_other _ _ (Ne.symm hb)).trans e
      have S7 : ∀ b ∈ [z, TI, TO, i1, i2, l1, l2], b ≠ S := fun b hb => (hS1 b hb).symm
      refine ih (k + 1) _ (acc.push (.ref s.heap.objs.size)) _ f0' f' (by omega) (by omega) ?_ (oth _ _ Sz.symm z') ?_ (Heap.get?_update_self _ S' rfl) (by rw [Array.size_push, ha]) ?_ ?_ ?_
      · obtain ⟨q1, ⟨qa, qb, q2⟩, q3, q4, q5, q6⟩ := Z'
        exact ⟨oth _ _ (S7 TI (by simp)) q1, ⟨qa, qb, oth _ _ (S7 TO (by simp)) q2⟩, q3.at fun o e => oth _ o (S7 i1 (by simp)) e, q4.at fun o e => oth _ o (S7 i2 (by simp)) e, tupleAt q5 fun o e => oth _ o (S7 l1 (by simp)) e, tupleAt q6 fun o e => oth _ o (S7 l2 (by simp)) e⟩
      · rcases hf' with q | ⟨T, oT, q1, q2, q3⟩
        · exact .inl q
        · exact .inr ⟨T, oT, q1, oth _ _ (q3 S (by simp)) q2, q3⟩
      · intro j v e
        rw [Array.getElem?_push] at e
        split at e
        · rename_i ej
          cases e
          rw [ha] at ej
          subst ej
          exact ⟨_, xs[j], ys[j], rfl, Array.getElem?_eq_getElem hkx, Array.getElem?_eq_getElem hky, Heap.lt_size hS, oth _ _ (newAp S (by simp)) pr⟩
        · obtain ⟨T, x, y, rfl, ex, ey, lt0, pr0⟩ := hp j v e
          have q := hap j T e
          exact ⟨T, x, y, rfl, ex, ey, lt0, oth _ _ (q S (by simp)) (kp _ _ (q z (by simp)) (q TO (by simp)) (q i1 (by simp)) (q i2 (by simp)) pr0)⟩
      · intro j T e
        rw [Array.getElem?_push] at e
        split at e
        · cases e; exact newAp
        · exact hap j T e
      · intro h'' acc' c' kp2 g1 g2 g3
        exact hR h'' acc' c' (fun b o b0 b1 b2 b3 b4 e => kp2 b o b0 b1 b2 b3 b4 (oth _ _ b0 (kp _ _ b1 b2 b3 b4 e))) g1 g2 g3
    refine wpAny_bind ?_
    unfold pyNext
    rcases hf with ⟨rfl, rfl⟩ | ⟨T, oT, rfl, eT, aT⟩
    · refine wpAny_bind (wpAny_attempt (wpAny_callSpecial?_slot (name := Str.ofString "__next__") hT F.slot_zip_next (wpAny_call_entry F.slot_zip_next hT F.entry_zip_next
        (first_item D hz Z (Array.getElem?_eq_getElem hkx) (Array.getElem?_eq_getElem hky) fun h' z' Z' pr kp => wpAny_pure ?_) (F.args_zip_next_1 _))))
      exact next h' _ false z' (.inr ⟨_, _, rfl, pr, newAp⟩) Z' pr kp
    · refine wpAny_bind (wpAny_attempt (wpAny_callSpecial?_slot (name := Str.ofString "__next__") hT F.slot_zip_next (wpAny_call_entry F.slot_zip_next hT F.entry_zip_next
        (more_item D hz eT Z (Array.getElem?_eq_getElem hkx) (Array.getElem?_eq_getElem hky) fun h' z' Z' pr kp => wpAny_pure ?_) (F.args_zip_next_1 _))))
      exact next h' _ true z' (.inr ⟨T, oT, rfl, kp _ _ (aT z (by simp)) (aT TO (by simp)) (aT i1 (by simp)) (aT i2 (by simp)) eT, aT⟩) Z' pr kp

theorem extend {R : Result → Shared → Prop} {z TI TO i1 i2 l1 l2 S : Addr} {xs ys : Array Value} {res : Value} {c₀ : Nat} (hh : A.handled = none) (D : ZipApart z TI TO i1 i2 l1 l2) (hS1 : ∀ b ∈ [z, TI, TO, i1, i2, l1, l2], S ≠ b) (hn : min xs.size ys.size ≤ sizeLine)
    (Z : Zt s.heap z TI TO i1 i2 l1 l2 xs ys 0) (hz : IsZ s.heap z TI TO .none (.bool false)) (hS : s.heap.get? S = some { cls := .type "list", data := .seq #[] c₀ })
    (hR : ∀ h' acc' c', (∀ b o, b ≠ S → b ≠ z → b ≠ TO → b ≠ i1 → b ≠ i2 → s.heap.get? b = some o → h'.get? b = some o) → h'.get? S = some { cls := .type "list", dict := none, data := .seq acc' c', slots := #[] } →
      acc'.size = min xs.size ys.size → Pairs h' S xs ys acc' → R (.ok (.ret res)) { s with heap := h' }) :
    wpAny (model prog w) A.in1 (Builtin.List.listExtendWith (.ref S) (.ref z) res)
      (fun fin s' => match fin with | .done f => R (.ok f) s' | .again c' => c'.quiet = true ∧ codeAny (model prog w) A c' R s') (fun e s' => R (.error e) s') s := by
  have hT : s.TypeIs (.ref z) "zip" := ⟨_, hz, rfl⟩
  have Sz : S ≠ z := hS1 z (by simp)
  unfold Builtin.List.listExtendWith
  refine wpAny_bind (wpAny_typeOf hT ?_)
  have q1 : Builtin.List.listSameRef (.ref S) (.ref z) = false := by simp [Builtin.List.listSameRef, Sz]
  have q2 : (Value.type "zip" == Value.type "list") = false := by decide
  have q3 : (Value.type "zip" == Value.type "tuple") = false := by decide
  simp only [q1, q2, q3, Bool.or_false, Bool.false_eq_true, if_false]
  refine wpAny_bind (wpAny_pyIter_slot hT F.slot_zip_iter (wpAny_call_entry F.slot_zip_iter hT F.entry_zip_iter (wpAny_pure ⟨_, rfl, "zip", _, hT, F.slot_zip_next.lookup, ?_⟩) (F.args_zip_iter_1 _)))
  refine wpAny_bind (wpAny_holding ?_)
  unfold Builtin.List.listLengthHint
  refine wpAny_bind (wpAny_specialOf hT zip_no_len ?_)
  change wpAny _ A.in1 (specialOf (Value.ref z) (Str.ofString "__length_hint__") >>= _) _ _ _
  refine wpAny_bind (wpAny_specialOf hT zip_no_hint ?_)
  refine wpAny_pure ?_
  change wpAny _ A.in1 (rule "list.extend.makes-room" >>= fun _ => Builtin.List.listTouch (.ref S) >>= fun _ => again (.builtin "list.extend.loop" ⟨[.ref S, .ref z, res], []⟩)) _ _ _
  refine wpAny_bind (wpAny_rule (wpAny_bind ?_))
  change wpAny _ A.in1 (updateSeq S (·.push .none) >>= fun _ => updateSeq S (·.pop)) _ _ _
  refine wpAny_bind (wpAny_updateSeq hS rfl ?_)
  have S2 := Heap.get?_update_self (Obj.mapSeq (·.push Value.none)) hS rfl
  refine wpAny_updateSeq (hz := by seq_fits) S2 rfl ?_
  have S3 := Heap.get?_update_self (Obj.mapSeq (·.pop)) S2 rfl
  have oth : ∀ b o, b ≠ S → s.heap.get? b = some o → ((s.heap.update S (Obj.mapSeq (·.push Value.none))).update S (Obj.mapSeq (·.pop))).get? b = some o :=
    fun b o hb e => (Heap.get?_update_other _ _ (Ne.symm hb)).trans ((Heap.get?_update_other _ _ (Ne.symm hb)).trans e)
  have S7 : ∀ b ∈ [z, TI, TO, i1, i2, l1, l2], b ≠ S := fun b hb => (hS1 b hb).symm
  obtain ⟨p1, ⟨pa, pb, p2⟩, p3, p4, p5, p6⟩ := Z
  refine wpAny_pure ⟨plainId_quiet F.plain_extend_loop _, loop hh D hS1 hn _ 0 _ _ _ .none false rfl (Nat.zero_le _)
    ⟨oth _ _ (S7 TI (by simp)) p1, ⟨pa, pb, oth _ _ (S7 TO (by simp)) p2⟩, p3.at fun o e => oth _ o (S7 i1 (by simp)) e, p4.at fun o e => oth _ o (S7 i2 (by simp)) e, tupleAt p5 fun o e => oth _ o (S7 l1 (by simp)) e, tupleAt p6 fun o e => oth _ o (S7 l2 (by simp)) e⟩
    (oth _ _ Sz.symm hz) (.inl ⟨rfl, rfl⟩) S3 rfl (fun j v e => by simp at e) (fun j T e => by simp at e) fun h' acc' c' kp g1 g2 g3 => ?_⟩
  exact hR h' acc' c' (fun b o b0 b1 b2 b3 b4 e => kp b o b0 b1 b2 b3 b4 (oth _ _ b0 e)) g1 g2 g3

noncomputable abbrev k1 (h : Heap) (l1 : Addr) : Heap := h.push { cls := .type "tuple_iterator", data := .fields #[.ref l1, .int 0 0] }
noncomputable abbrev k2 (h : Heap) (l1 l2 : Addr) : Heap := (k1 h l1).push { cls := .type "tuple_iterator", data := .fields #[.ref l2, .int 0 0] }
noncomputable abbrev k3 (h : Heap) (l1 l2 : Addr) : Heap := (k2 h l1 l2).push { cls := .type "tuple", data := .seq #[.ref h.objs.size, .ref (k1 h l1).objs.size] }
noncomputable abbrev k4 (h : Heap) (l1 l2 : Addr) : Heap := (k3 h l1 l2).push { cls := .type "tuple", data := .seq #[.none, .none] }
noncomputable abbrev k5 (h : Heap) (l1 l2 : Addr) : Heap := (k4 h l1 l2).push { cls := .type "zip", data := .fields #[.none, .bool false, .bool false, .ref (k2 h l1 l2).objs.size, .ref (k3 h l1 l2).objs.size] }
end
section
variable {prog : Program} {w : World} {A : Around} {E : Value → Shared → Prop} {s : Shared}
end
end ZT

namespace L2
open PySem PySem.Spec PyProof.Rows
section
variable {X : Cx} {pins : List (Addr × Obj)} {σ : St} {H H' : Hp} {s : Shared}
theorem Inv.grow {h' : Heap} {t' : Nat} (I : Inv X pins σ H s) (k : ∀ b o, s.heap.get? b = some o → h'.get? b = some o) (same : ∀ b, b < s.heap.objs.size → H' b = H b) (hok : HOk X.prog X.w H' h') : Inv X pins σ H' { s with heap := h', toks := t' } := by
  have old : ∀ b u, H b = some u → H' b = some u := fun b u e => by rw [same b (I.hok.lt e)]; exact e
  exact I.un ⟨fun b o e _ _ _ => k b o e, fun b o e _ _ _ => ⟨o.slots, k b o e⟩, fun b o e n _ => by rw [same b (Heap.lt_size e)]; exact n, fun b o e _ => ⟨o, k b o e⟩, fun b xs e => old b _ e, fun b o u e => old b _ e,
    fun b ps e => ⟨#[], by rw [old b _ e]; simp⟩⟩ hok
end
end L2
set_option Elab.async false
set_option linter.all false
set_option maxRecDepth 100000
set_option maxHeartbeats 4000000
namespace L2
open PySem PySem.Spec PyProof.Rows

section
variable {X : Cx}
end
end L2
set_option Elab.async false
set_option linter.all false
set_option maxRecDepth 100000
set_option maxHeartbeats 4000000
namespace L2
open PySem PySem.Spec PyProof.Rows


mutual
noncomputable def Is (K : PySem.W.Frag) (H : Hp) : D → V → Prop
  | .non, v => v = .non
  | .int i, v => v = .int i
  | .str x, v => v = .str x
  | .tup ds, v => ∃ a xs, v = .ref a ∧ SqT K H a xs ∧ IsL K H ds xs
noncomputable def IsL (K : PySem.W.Frag) (H : Hp) : List D → List V → Prop
  | [], vs => vs = []
  | d :: ds, vs => ∃ v r, vs = v :: r ∧ Is K H d v ∧ IsL K H ds r
end

noncomputable def Tups (H H' : Hp) : Prop := (∀ b xs, H b = some (.tup xs) → H' b = some (.tup xs)) ∧ ∀ b o u, H b = some (.frz o u) → H' b = some (.frz o u)
theorem Same.tups {H H' : Hp} (h : Same H H') : Tups H H' := ⟨fun b xs e => h b _ e, fun b o u e => h b _ e⟩
theorem Tups.refl (H : Hp) : Tups H H := ⟨fun _ _ e => e, fun _ _ _ e => e⟩
theorem Tups.trans {H H1 H2 : Hp} (a : Tups H H1) (b : Tups H1 H2) : Tups H H2 := ⟨fun c xs e => b.1 c xs (a.1 c xs e), fun c o u e => b.2 c o u (a.2 c o u e)⟩
theorem Tups.sq {K : PySem.W.Frag} {H H' : Hp} {a : Addr} {xs : List V} (t : Tups H H') (h : SqT K H a xs) : SqT K H' a xs := by
  rcases h with (h | ⟨o, h⟩) | h
  · exact .inl (.inl (t.1 _ _ h))
  · exact .inl (.inr ⟨o, t.2 _ _ _ h⟩)
  · exact .inr h
mutual
theorem Is.mono {K : PySem.W.Frag} {H H' : Hp} (t : Tups H H') : ∀ {d : D} {v : V}, Is K H d v → Is K H' d v
  | .non, _, h => by unfold Is at h ⊢; exact h
  | .int _, _, h => by unfold Is at h ⊢; exact h
  | .str _, _, h => by unfold Is at h ⊢; exact h
  | .tup ds, _, h => by
    unfold Is at h ⊢
    obtain ⟨a, xs, e, q, l⟩ := h
    exact ⟨a, xs, e, t.sq q, IsL.mono t l⟩
theorem IsL.mono {K : PySem.W.Frag} {H H' : Hp} (t : Tups H H') : ∀ {ds : List D} {vs : List V}, IsL K H ds vs → IsL K H' ds vs
  | [], _, h => by unfold IsL at h ⊢; exact h
  | d :: ds, _, h => by
    unfold IsL at h ⊢
    obtain ⟨v, r, e, p, q⟩ := h
    exact ⟨v, r, e, Is.mono t p, IsL.mono t q⟩
end
theorem is_int {K : PySem.W.Frag} {H : Hp} {i : Int} : Is K H (.int i) (.int i) := by unfold Is; rfl
theorem is_str {K : PySem.W.Frag} {H : Hp} {x : Str} : Is K H (.str x) (.str x) := by unfold Is; rfl
theorem is_tup {K : PySem.W.Frag} {H : Hp} {a : Addr} {xs : List V} {ds : List D} (h : SqT K H a xs) (l : IsL K H ds xs) : Is K H (.tup ds) (.ref a) := by unfold Is; exact ⟨a, xs, rfl, h, l⟩
theorem isl_nil {K : PySem.W.Frag} {H : Hp} : IsL K H [] [] := by unfold IsL; rfl
theorem isl_cons {K : PySem.W.Frag} {H : Hp} {d : D} {ds : List D} {v : V} {vs : List V} (h : Is K H d v) (l : IsL K H ds vs) : IsL K H (d :: ds) (v :: vs) := by unfold IsL; exact ⟨v, vs, rfl, h, l⟩
theorem Is.int_inv {K : PySem.W.Frag} {H : Hp} {i : Int} {v : V} (h : Is K H (.int i) v) : v = .int i := by unfold Is at h; exact h
theorem Is.str_inv {K : PySem.W.Frag} {H : Hp} {i : Str} {v : V} (h : Is K H (.str i) v) : v = .str i := by unfold Is at h; exact h
theorem Is.non_inv {K : PySem.W.Frag} {H : Hp} {v : V} (h : Is K H .non v) : v = .non := by unfold Is at h; exact h
theorem Is.tup_inv {K : PySem.W.Frag} {H : Hp} {ds : List D} {v : V} (h : Is K H (.tup ds) v) : ∃ a xs, v = .ref a ∧ SqT K H a xs ∧ IsL K H ds xs := by unfold Is at h; exact h
theorem IsL.nil_inv {K : PySem.W.Frag} {H : Hp} {vs : List V} (h : IsL K H [] vs) : vs = [] := by unfold IsL at h; exact h
theorem IsL.cons_inv {K : PySem.W.Frag} {H : Hp} {d : D} {ds : List D} {vs : List V} (h : IsL K H (d :: ds) vs) : ∃ v r, vs = v :: r ∧ Is K H d v ∧ IsL K H ds r := by unfold IsL at h; exact h
theorem IsL.length {K : PySem.W.Frag} {H : Hp} : ∀ {ds : List D} {vs : List V}, IsL K H ds vs → ds.length = vs.length
  | [], _, h => by rw [h.nil_inv]; rfl
  | d :: ds, _, h => by
    obtain ⟨v, r, rfl, _, q⟩ := h.cons_inv
    simp [IsL.length q]
theorem IsL.get {K : PySem.W.Frag} {H : Hp} : ∀ {ds : List D} {vs : List V} {j : Nat} {d : D}, IsL K H ds vs → ds[j]? = some d → ∃ v, vs[j]? = some v ∧ Is K H d v
  | [], _, _, _, _, e => by simp at e
  | d :: ds, _, 0, _, h, e => by
    obtain ⟨v, r, rfl, p, _⟩ := h.cons_inv
    simp at e; subst e
    exact ⟨v, rfl, p⟩
  | d :: ds, _, j + 1, _, h, e => by
    obtain ⟨v, r, rfl, _, q⟩ := h.cons_inv
    obtain ⟨v', e', p'⟩ := IsL.get (j := j) q (by simpa using e)
    exact ⟨v', by simpa using e', p'⟩
theorem IsL.get' {K : PySem.W.Frag} {H : Hp} {ds : List D} {vs : List V} {j : Nat} {v : V} (h : IsL K H ds vs) (e : vs[j]? = some v) : ∃ d, ds[j]? = some d ∧ Is K H d v := by
  have hj : j < ds.length := by rw [h.length]; exact (List.getElem?_eq_some_iff.mp e).1
  obtain ⟨v', e', p⟩ := h.get (List.getElem?_eq_getElem hj)
  rw [e] at e'; cases e'
  exact ⟨_, List.getElem?_eq_getElem hj, p⟩
theorem IsL.drop {K : PySem.W.Frag} {H : Hp} : ∀ {ds : List D} {vs : List V} (n : Nat), IsL K H ds vs → IsL K H (ds.drop n) (vs.drop n)
  | _, _, 0, h => h
  | [], _, n + 1, h => by rw [h.nil_inv]; exact isl_nil
  | d :: ds, _, n + 1, h => by
    obtain ⟨v, r, rfl, _, q⟩ := h.cons_inv
    exact IsL.drop n q
theorem IsL.append {K : PySem.W.Frag} {H : Hp} : ∀ {ds es : List D} {vs ws : List V}, IsL K H ds vs → IsL K H es ws → IsL K H (ds ++ es) (vs ++ ws)
  | [], _, _, _, h, q => by rw [h.nil_inv]; exact q
  | d :: ds, _, _, _, h, q => by
    obtain ⟨v, r, rfl, p, t⟩ := h.cons_inv
    exact isl_cons p (IsL.append t q)

mutual
noncomputable def D.dep : D → Nat
  | .tup ds => 1 + D.depL ds
  | _ => 0
noncomputable def D.depL : List D → Nat
  | [] => 0
  | d :: ds => max d.dep (D.depL ds)
end
mutual
noncomputable def D.beq : D → D → Bool
  | .non, .non => true
  | .int i, .int j => i == j
  | .str x, .str y => x == y
  | .tup ds, .tup es => D.beqL ds es
  | _, _ => false
noncomputable def D.beqL : List D → List D → Bool
  | [], [] => true
  | d :: ds, e :: es => D.beq d e && D.beqL ds es
  | _, _ => false
end
mutual
theorem D.beq_iff : ∀ (d e : D), D.beq d e = true ↔ d = e
  | .non, e => by cases e <;> simp [D.beq]
  | .int i, e => by cases e <;> simp [D.beq]
  | .str i, e => by cases e <;> simp [D.beq]
  | .tup ds, e => by
    cases e with
    | tup es => simp [D.beq, D.beqL_iff ds es]
    | _ => simp [D.beq]
theorem D.beqL_iff : ∀ (ds es : List D), D.beqL ds es = true ↔ ds = es
  | [], es => by cases es <;> simp [D.beqL]
  | d :: ds, es => by
    cases es with
    | nil => simp [D.beqL]
    | cons e es => simp [D.beqL, D.beq_iff d e, D.beqL_iff ds es]
end
theorem D.beq_self (d : D) : D.beq d d = true := (D.beq_iff d d).mpr rfl
theorem D.beqL_self (d : List D) : D.beqL d d = true := (D.beqL_iff d d).mpr rfl
theorem D.beqL_len : ∀ (ds es : List D), D.beqL ds es = true → ds.length = es.length := fun ds es h => by rw [(D.beqL_iff ds es).mp h]
theorem D.dep_le : ∀ {ds : List D} {d : D}, d ∈ ds → d.dep ≤ D.depL ds
  | e :: ds, d, h => by
    rcases List.mem_cons.mp h with rfl | h
    · unfold D.depL; exact Nat.le_max_left ..
    · unfold D.depL; exact Nat.le_trans (D.dep_le h) (Nat.le_max_right ..)
theorem D.beqL_all : ∀ (ds es : List D), ((List.range (min ds.length es.length)).all (fun j => match ds[j]?, es[j]? with | some d, some e => D.beq d e | _, _ => true) && ds.length == es.length) = D.beqL ds es := by
  intro ds es
  by_cases hl : ds.length = es.length
  · rw [Bool.eq_iff_iff, Bool.and_eq_true, List.all_eq_true, D.beqL_iff]
    constructor
    · rintro ⟨h, _⟩
      refine List.ext_getElem? fun j => ?_
      by_cases hj : j < ds.length
      · have hj' : j < es.length := by omega
        have q := h j (List.mem_range.mpr (by omega))
        rw [List.getElem?_eq_getElem hj, List.getElem?_eq_getElem hj'] at q
        rw [List.getElem?_eq_getElem hj, List.getElem?_eq_getElem hj', (D.beq_iff _ _).mp q]
      · rw [List.getElem?_eq_none (by omega), List.getElem?_eq_none (by omega)]
    · rintro rfl
      refine ⟨fun j hj => ?_, by simp⟩
      have hj' : j < ds.length := by have := List.mem_range.mp hj; omega
      rw [List.getElem?_eq_getElem hj']
      exact D.beq_self _
  · have e1 : (ds.length == es.length) = false := by simpa using hl
    have e2 : D.beqL ds es = false := by
      cases h : D.beqL ds es with
      | false => rfl
      | true => exact absurd (D.beqL_len ds es h) hl
    rw [e1, e2, Bool.and_false]

section
variable {X : Cx} {pins : List (Addr × Obj)} {σ : St} {H : Hp} {s : Shared}
mutual
theorem Is.inj (I : Inv X pins σ H s) : ∀ {d e : D} {v : V}, Is X.K H d v → Is X.K H e v → d = e
  | .non, e, _, h, k => by
    have := h.non_inv; subst this
    cases e with
    | non => rfl
    | int i => cases k.int_inv
    | str i => cases k.str_inv
    | tup es => obtain ⟨_, _, q, _⟩ := k.tup_inv; cases q
  | .int i, e, _, h, k => by
    have := h.int_inv; subst this
    cases e with
    | non => cases k.non_inv
    | int j => cases k.int_inv; rfl
    | str i => cases k.str_inv
    | tup es => obtain ⟨_, _, q, _⟩ := k.tup_inv; cases q
  | .str i, e, _, h, k => by
    have := h.str_inv; subst this
    cases e with
    | non => cases k.non_inv
    | int j => cases k.int_inv
    | str i => cases k.str_inv; rfl
    | tup es => obtain ⟨_, _, q, _⟩ := k.tup_inv; cases q
  | .tup ds, e, _, h, k => by
    obtain ⟨a, xs, rfl, q, l⟩ := h.tup_inv
    cases e with
    | non => cases k.non_inv
    | int j => cases k.int_inv
    | str i => cases k.str_inv
    | tup es =>
      obtain ⟨b, ys, e', q', l'⟩ := k.tup_inv
      cases e'
      have := I.tuple_inj q q'
      subst this
      rw [IsL.inj I l l']
theorem IsL.inj (I : Inv X pins σ H s) : ∀ {ds es : List D} {vs : List V}, IsL X.K H ds vs → IsL X.K H es vs → ds = es
  | [], es, _, h, k => by
    have := h.nil_inv; subst this
    have := k.length
    simp at this; rw [this]
  | d :: ds, es, _, h, k => by
    obtain ⟨v, r, rfl, p, q⟩ := h.cons_inv
    cases es with
    | nil => cases k.nil_inv
    | cons e es =>
      obtain ⟨v', r', e', p', q'⟩ := k.cons_inv
      cases e'
      rw [Is.inj I p p', IsL.inj I q q']
end

theorem in1_units (A : Around) : A.in1.units = A.units + 1 := rfl
mutual
theorem eqAt_D (I : Inv X pins σ H s) : ∀ (d : D) (e : D) {A : Around} {v v' : V} {u u' : Value}, Is X.K H d v → Is X.K H e v' → RelV v u → RelV v' u' → A.units + d.dep < cLine → SeqAt.EqAt A s u u' (D.beq d e)
  | .non, e, A, v, v', u, u', h, k, r, r', hu => by
    have := h.non_inv; subst this
    have eu : u = .none := r
    subst eu
    cases e with
    | non => have := k.non_inv; subst this; have eu : u' = .none := r'; subst eu; exact SeqAt.EqAt.same _
    | int i => have := k.int_inv; subst this; obtain ⟨t, rfl⟩ := r'; exact SeqAt.EqAt.none_int _ _
    | str i => have := k.str_inv; subst this; obtain ⟨t, rfl⟩ := r'; exact SeqAt.EqAt.none_str _ _
    | tup es =>
      obtain ⟨a, xs, rfl, q, l⟩ := k.tup_inv
      have eu : u' = .ref a := r'
      subst eu
      obtain ⟨its, rv, p, z⟩ := I.tuple q
      exact SeqAt.EqAt.none_tuple p (by have : D.dep .non = 0 := by unfold D.dep; rfl
                                        omega)
  | .int i, e, A, v, v', u, u', h, k, r, r', hu => by
    have := h.int_inv; subst this
    obtain ⟨t, rfl⟩ := r
    cases e with
    | non => have := k.non_inv; subst this; have eu : u' = .none := r'; subst eu; exact SeqAt.EqAt.int_none _ _
    | int j => have := k.int_inv; subst this; obtain ⟨t', rfl⟩ := r'; exact SeqAt.EqAt.int_int _ _ _ _
    | str j => have := k.str_inv; subst this; obtain ⟨t', rfl⟩ := r'; exact SeqAt.EqAt.int_str _ _ _ _
    | tup es =>
      obtain ⟨a, xs, rfl, q, l⟩ := k.tup_inv
      have eu : u' = .ref a := r'
      subst eu
      obtain ⟨its, rv, p, z⟩ := I.tuple q
      exact SeqAt.EqAt.int_tuple _ _ p (by omega)
  | .str i, e, A, v, v', u, u', h, k, r, r', hu => by
    have := h.str_inv; subst this
    obtain ⟨t, rfl⟩ := r
    cases e with
    | non => have := k.non_inv; subst this; have eu : u' = .none := r'; subst eu; exact SeqAt.EqAt.str_none _ _
    | int j => have := k.int_inv; subst this; obtain ⟨t', rfl⟩ := r'; exact SeqAt.EqAt.str_int _ _ _ _
    | str j => have := k.str_inv; subst this; obtain ⟨t', rfl⟩ := r'; exact SeqAt.EqAt.str_str _ _ _ _
    | tup es =>
      obtain ⟨a, xs, rfl, q, l⟩ := k.tup_inv
      have eu : u' = .ref a := r'
      subst eu
      obtain ⟨its, rv, p, z⟩ := I.tuple q
      exact SeqAt.EqAt.str_tuple _ _ p (by omega)
  | .tup ds, e, A, v, v', u, u', h, k, r, r', hu => by
    obtain ⟨a, xs, rfl, q, l⟩ := h.tup_inv
    have eu : u = .ref a := r
    subst eu
    obtain ⟨its, rv, p, z⟩ := I.tuple q
    have hd : D.dep (.tup ds) = 1 + D.depL ds := by conv => lhs; unfold D.dep
    cases e with
    | non => have := k.non_inv; subst this; have eu : u' = .none := r'; subst eu; exact SeqAt.EqAt.tuple_none p (by omega)
    | int j => have := k.int_inv; subst this; obtain ⟨t', rfl⟩ := r'; exact SeqAt.EqAt.tuple_int _ _ p (by omega)
    | str j => have := k.str_inv; subst this; obtain ⟨t', rfl⟩ := r'; exact SeqAt.EqAt.tuple_str _ _ p (by omega)
    | tup es =>
      obtain ⟨b, ys, rfl, q', l'⟩ := k.tup_inv
      have eu : u' = .ref b := r'
      subst eu
      by_cases hab : a = b
      · subst hab
        have e := I.tuple_inj q q'
        subst e
        have e := IsL.inj I l l'
        subst e
        rw [D.beq_self]
        exact SeqAt.EqAt.same _
      · refine SeqAt.EqAt.of_refs hab ?_
        obtain ⟨its', rv', p', z'⟩ := I.tuple q'
        have ln := l.length
        have ln' := l'.length
        have lr := rv.length
        have lr' := rv'.length
        have R := SeqAt.RcAt.tuples (A := A) (s := s) (e := fun j => match ds[j]?, es[j]? with | some d, some e => D.beq d e | _, _ => true) p p' (by omega) (fun j h1 h2 => ?_)
        · have e1 : its.toArray.size = ds.length := by rw [List.size_toArray]; omega
          have e2 : its'.toArray.size = es.length := by rw [List.size_toArray]; omega
          rw [e1, e2, D.beqL_all] at R
          have e3 : D.beq (.tup ds) (.tup es) = D.beqL ds es := by conv => lhs; unfold D.beq
          rw [e3]
          exact R
        · have j1 : j < ds.length := by rw [List.size_toArray] at h1; omega
          have j2 : j < es.length := by rw [List.size_toArray] at h2; omega
          obtain ⟨x, ex, ix⟩ := l.get (List.getElem?_eq_getElem j1)
          obtain ⟨y, ey, iy⟩ := l'.get (List.getElem?_eq_getElem j2)
          obtain ⟨w1, ew1, rw1⟩ := rv.get ex
          obtain ⟨w2, ew2, rw2⟩ := rv'.get ey
          have f1 : its.toArray[j] = w1 := by
            have : its.toArray[j]? = some w1 := by simpa using ew1
            exact (Array.getElem?_eq_some_iff.mp this).2
          have f2 : its'.toArray[j] = w2 := by
            have : its'.toArray[j]? = some w2 := by simpa using ew2
            exact (Array.getElem?_eq_some_iff.mp this).2
          rw [f1, f2]
          try dsimp only
          rw [List.getElem?_eq_getElem j1, List.getElem?_eq_getElem j2]
          have dl : (ds[j]).dep ≤ D.depL ds := D.dep_le (List.getElem_mem j1)
          exact eqAt_L I ds j ds[j] (List.getElem?_eq_getElem j1) es[j] ix iy rw1 rw2 (by rw [in1_units]; omega)
theorem eqAt_L (I : Inv X pins σ H s) : ∀ (ds : List D) (j : Nat) (d : D), ds[j]? = some d → ∀ (e : D) {A : Around} {v v' : V} {u u' : Value}, Is X.K H d v → Is X.K H e v' → RelV v u → RelV v' u' → A.units + d.dep < cLine → SeqAt.EqAt A s u u' (D.beq d e)
  | [], _, _, h => by simp at h
  | d :: ds, 0, _, h => by
    simp at h; subst h
    exact fun e {A v v' u u'} => eqAt_D I d e
  | d :: ds, j + 1, _, h => by
    exact eqAt_L I ds j _ (by simpa using h)
end

noncomputable def rEqD (K : PySem.W.Frag) (n : Nat) (neg : Bool) : R2 := fun x y H Q => ExQ Q (fun ds Q => ExQ Q (fun es Q => Is K H (.tup ds) x ∧ Is K H (.tup es) y ∧ D.depL ds < n ∧ Q (.bl (if neg then !D.beqL ds es else D.beqL ds es)) H))
theorem rc_D (I : Inv X pins σ H s) {A : Around} {ds es : List D} {a b : Addr} (h : Is X.K H (.tup ds) (.ref a)) (k : Is X.K H (.tup es) (.ref b)) (hu : A.units + 1 + D.depL ds < cLine) :
    SeqAt.RcAt A s (.ref a) (.ref b) (D.beqL ds es) ∧ SeqAt.RcNeAt A s (.ref a) (.ref b) (!D.beqL ds es) := by
  obtain ⟨_, xs, e, q, l⟩ := h.tup_inv
  cases e
  obtain ⟨_, ys, e, q', l'⟩ := k.tup_inv
  cases e
  obtain ⟨its, rv, p, z⟩ := I.tuple q
  obtain ⟨its', rv', p', z'⟩ := I.tuple q'
  have ln := l.length
  have ln' := l'.length
  have lr := rv.length
  have lr' := rv'.length
  have e1 : its.toArray.size = ds.length := by rw [List.size_toArray]; omega
  have e2 : its'.toArray.size = es.length := by rw [List.size_toArray]; omega
  have he : ∀ j (h1 : j < its.toArray.size) (h2 : j < its'.toArray.size), SeqAt.EqAt A.in1 s its.toArray[j] its'.toArray[j] ((fun j => match ds[j]?, es[j]? with | some d, some e => D.beq d e | _, _ => true) j) := fun j h1 h2 => by
    have j1 : j < ds.length := by omega
    have j2 : j < es.length := by omega
    obtain ⟨x, ex, ix⟩ := l.get (List.getElem?_eq_getElem j1)
    obtain ⟨y, ey, iy⟩ := l'.get (List.getElem?_eq_getElem j2)
    obtain ⟨w1, ew1, rw1⟩ := rv.get ex
    obtain ⟨w2, ew2, rw2⟩ := rv'.get ey
    have f1 : its.toArray[j] = w1 := by
      have : its.toArray[j]? = some w1 := by simpa using ew1
      exact (Array.getElem?_eq_some_iff.mp this).2
    have f2 : its'.toArray[j] = w2 := by
      have : its'.toArray[j]? = some w2 := by simpa using ew2
      exact (Array.getElem?_eq_some_iff.mp this).2
    rw [f1, f2]
    try dsimp only
    rw [List.getElem?_eq_getElem j1, List.getElem?_eq_getElem j2]
    have dl : (ds[j]).dep ≤ D.depL ds := D.dep_le (List.getElem_mem j1)
    exact eqAt_D I _ _ ix iy rw1 rw2 (by rw [in1_units]; omega)
  have R1 := SeqAt.RcAt.tuples p p' (by omega) he
  have R2 := SeqAt.RcNeAt.tuples p p' (by omega) he
  rw [e1, e2, D.beqL_all] at R1 R2
  exact ⟨R1, R2⟩
end
section
variable {X : Cx}
theorem op_eqD {n : Nat} (hu : X.A.units + 1 + n < cLine) : OpR X (compareOp .Eq) (rEqD X.K n false) := by
  intro pins s σ H x y v u Q I rx ry h
  obtain ⟨ds, es, h1, h2, hd, q⟩ := h
  obtain ⟨a, _, rfl, _⟩ := h1.tup_inv
  obtain ⟨b, _, rfl, _⟩ := h2.tup_inv
  cases rx; cases ry
  exact (rc_D I h1 h2 (by omega)).1 X.prog X.w X.xe _ ⟨.bl _, H, I, rfl, q⟩
theorem op_neD {n : Nat} (hu : X.A.units + 1 + n < cLine) : OpR X (compareOp .NotEq) (rEqD X.K n true) := by
  intro pins s σ H x y v u Q I rx ry h
  obtain ⟨ds, es, h1, h2, hd, q⟩ := h
  obtain ⟨a, _, rfl, _⟩ := h1.tup_inv
  obtain ⟨b, _, rfl, _⟩ := h2.tup_inv
  cases rx; cases ry
  exact (rc_D I h1 h2 (by omega)).2 X.prog X.w X.xe _ ⟨.bl _, H, I, rfl, q⟩

noncomputable def rIsi (K : PySem.W.Frag) : List V → Hp → VK → Prop := fun xs H Q => ExQ Q (fun x Q => ExQ Q (fun T Q => ExQ Q (fun t Q => ExQ Q (fun b Q => xs = [x, .ty T] ∧ TyOf K H x t ∧ PySem.W.kitOne K t (.type T) = some b ∧ Q (.bl b) H))))
theorem call_isi : CallR X (.builtin "isinstance") (rIsi X.K) := by
  intro pins s σ H xs us Q I r h
  obtain ⟨x, T, t, b, rfl, ty, k, q⟩ := h
  obtain ⟨u, w', rfl, rx, rT⟩ := r.two
  have e : w' = .type T := rT
  subst e
  exact isinst_ok I rx ty k fun tk => ⟨.bl b, H, I.tok tk, rfl, q⟩
end
end L2
set_option Elab.async false
set_option linter.all false
set_option maxRecDepth 100000
set_option maxHeartbeats 4000000
namespace L2
open PySem PySem.Spec PyProof.Rows

noncomputable def Cl (P : Program) (w : World) (K : PySem.W.Frag) (mg : Str → Option Value) (base : Heap) (x : Str) (k : Nat) (ps : List Str) (sp : Sp) : Prop :=
  ∃ f fd, FnOk P w K mg base CX0 k f fd ps sp ∧ Binds K fd ps [] ∧ PySem.W.keepIn K (.ref f) = true ∧ mg x = some (.ref f)
theorem Cl.mono {P : Program} {w : World} {K : PySem.W.Frag} {mg : Str → Option Value} {base : Heap} {x : Str} {j k : Nat} {ps : List Str} {sp : Sp} (c : Cl P w K mg base x j ps sp) (h : j ≤ k) : Cl P w K mg base x k ps sp :=
  let ⟨f, fd, F, b, kp, m⟩ := c; ⟨f, fd, F.mono h, b, kp, m⟩
theorem Fun.cl {P : Program} {w : World} {K : PySem.W.Frag} {mg : Str → Option Value} {base : Heap} {x : Str} {st : Stmt} {f : Addr} {fd : FuncData} {k : Nat} {ps : List Str} {sp : Sp} (F : Fun K x x st f fd) (ok : FnOk P w K mg base CX0 k f fd ps sp) (m : mg x = some (.ref f))
    (h : ∀ (kV doc pm : Value) (an : Option Addr) (cdv ct : Value) (us : List Value), us.length = ps.length → bindArgs (PySem.W.fnOf x x (defArgs st) (defBody st) (defScope st) .none kV doc pm an cdv ct) ⟨us, []⟩ = pure (ps.zip us)) : Cl P w K mg base x k ps sp :=
  ⟨f, fd, ok, F.binds h, F.kp, m⟩
noncomputable def tCl (sp : Sp) (t : TA) : TE := fun σ H Q => t σ H fun vs H1 => sp vs H1 Q E0
section
variable {X : Cx} {x : Str} {k : Nat} {ps : List Str} {sp : Sp} {p pos : Pos} {e : Expr} {es : List Expr} {t : TA}
theorem pe_cl (c : Cl X.prog X.w X.K X.mg X.base x k ps sp) (hr : Room k X.A) (hg : Gl X x) (ha : PA X (e :: es) t) (hdb : (x == ("__debug__" : Str)) = false := by decide)
    (he : starEach (e :: es) X.env = (false, eval e X.env) :: starEach es X.env := by rfl) (hpl : (backTo pos (starEach es X.env)).any (·.1) = false := by rfl) : PE X (.Call (.Name x p) (e :: es) [] pos) (tCl sp t) := by
  obtain ⟨f, fd, F, b, kp, m⟩ := c
  have h := pe_call (E := E0) (pos := pos) (p := p) F hr hg m kp b .nil pass0 ha hdb he hpl
  have e1 : tCall sp [] E0 t = tCl sp t := by
    funext σ H Q
    unfold tCall tCl
    simp only [List.append_nil]
  rw [e1] at h
  exact h
end

noncomputable def KD (P : Program) (w : World) (K : PySem.W.Frag) (a : Addr) (kvs : List (Str × V)) : Prop :=
  ∀ h : Heap, K.In h → ∃ vs, KV (kvs.map fun p => ((Sum.inr p.1 : Key), p.2)) vs ∧ h.DictOf (mixKind P w) a vs
section
variable {X : Cx}
end
theorem KD.of {P : Program} {w : World} {K : PySem.W.Frag} {a : Addr} {o : Obj} {es : Array DictEntry} {ep : Nat} {kvs : List (Str × V)} (l : K.lookup a = some o) (hx : o.ExactDict) (hd : o.data = .dict es ep)
    (hp : Paired (fun (p : Str × V) (e : DictEntry) => e.hash = hashStr w p.1 ∧ (∃ t, e.key = .str p.1 t) ∧ RelV p.2 e.val) kvs es.toList) (hn : (kvs.map (·.1)).Nodup) : KD P w K a kvs := by
  intro h hk
  have go : ∀ (kvs : List (Str × V)) (l : List DictEntry), Paired (fun (p : Str × V) (e : DictEntry) => e.hash = hashStr w p.1 ∧ (∃ t, e.key = .str p.1 t) ∧ RelV p.2 e.val) kvs l →
      ∃ vs : List (Key × Value), KV (kvs.map fun p => ((Sum.inr p.1 : Key), p.2)) vs ∧ (∀ e ∈ l, ∃ k, (mixKind P w).is k e.key = true ∧ e.hash = (mixKind P w).hash k) ∧ PySem.Pairs (mixKind P w) l vs ∧ vs.map (·.1) = kvs.map fun p => (Sum.inr p.1 : Key) := by
    intro kvs l hp
    induction hp with
    | nil => exact ⟨[], .nil, fun e he => (nomatch he), .nil, rfl⟩
    | @cons p e l1 l2 hd tl ih =>
      obtain ⟨vs, h1, h2, h3, h4⟩ := ih
      obtain ⟨q1, ⟨t, q2⟩, q3⟩ := hd
      refine ⟨(Sum.inr p.1, e.val) :: vs, .cons ⟨rfl, q3⟩ h1, fun e' he' => ?_, ?_, ?_⟩
      · rcases List.mem_cons.mp he' with rfl | he'
        · exact ⟨Sum.inr p.1, by rw [q2]; exact mixKind_str _ _ _ _, q1⟩
        · exact h2 e' he'
      · exact .cons (by rw [q2]; exact mixKind_str _ _ _ _) rfl h3
      · simp [h4]
  obtain ⟨vs, h1, h2, h3, h4⟩ := go kvs es.toList hp
  refine ⟨vs, h1, o, es, ep, hk a o l, hx, hd, fun e he => h2 e (by simpa using he), h3, ?_⟩
  rw [h4]
  have : (kvs.map fun p => (Sum.inr p.1 : Key)) = (kvs.map (·.1)).map Sum.inr := by simp
  rw [this]
  exact List.Pairwise.map _ (fun a b hab q => hab (Sum.inr.inj q)) hn

section
variable {X : Cx} {K : PySem.W.Frag}
theorem ix_tupK (h : X.K = K) : IxR X (rIxT K) := h ▸ ix_tup
theorem pg_tupK {es : List Expr} {k : Nat} {t : TGs} {n : Nat} {pos : Pos} (hK : X.K = K) (hc : X.calm = true) (h : PGs X es t)
    (hn : (assignEach es X.env).length = n := by rfl) (hst : (assignEach es X.env).findIdx? (·.1) = none := by rfl) : PG X (.Tuple es k pos) (gTup K n t) := hK ▸ pg_tup hc h hn hst
end
end L2
set_option Elab.async false
set_option linter.all false
set_option maxRecDepth 100000
set_option maxHeartbeats 4000000
namespace L2
open PySem PySem.Spec PyProof.Rows
section
variable {X : Cx}
end
noncomputable def rEqDL (K : PySem.W.Frag) (n : Nat) (neg : Bool) : R2 := fun x y H Q => ExQ Q (fun a Q => ExQ Q (fun b Q => ExQ Q (fun xs Q => ExQ Q (fun ys Q => ExQ Q (fun ds Q => ExQ Q (fun es Q => x = .ref a ∧ y = .ref b ∧ SqL K H a xs ∧ SqL K H b ys ∧ IsL K H ds xs ∧ IsL K H es ys ∧ D.depL ds < n ∧ Q (.bl (if neg then !D.beqL ds es else D.beqL ds es)) H))))))
section
variable {X : Cx} {pins : List (Addr × Obj)} {σ : St} {H : Hp} {s : Shared}
theorem rc_DL (I : Inv X pins σ H s) {A : Around} {ds es : List D} {a b : Addr} {xs ys : List V} (q : SqL X.K H a xs) (q' : SqL X.K H b ys) (l : IsL X.K H ds xs) (l' : IsL X.K H es ys) (hu : A.units + 1 + D.depL ds < cLine) :
    SeqAt.RcAt A s (.ref a) (.ref b) (D.beqL ds es) ∧ SeqAt.RcNeAt A s (.ref a) (.ref b) (!D.beqL ds es) := by
  obtain ⟨its, rv, p, z⟩ := I.list q
  obtain ⟨its', rv', p', z'⟩ := I.list q'
  have ln := l.length
  have ln' := l'.length
  have lr := rv.length
  have lr' := rv'.length
  have e1 : its.toArray.size = ds.length := by rw [List.size_toArray]; omega
  have e2 : its'.toArray.size = es.length := by rw [List.size_toArray]; omega
  by_cases hl : ds.length = es.length
  · have he : ∀ j (h1 : j < its.toArray.size) (h2 : j < its'.toArray.size), SeqAt.EqAt A.in1 s its.toArray[j] its'.toArray[j] ((fun j => match ds[j]?, es[j]? with | some d, some e => D.beq d e | _, _ => true) j) := fun j h1 h2 => by
      have j1 : j < ds.length := by omega
      have j2 : j < es.length := by omega
      obtain ⟨x, ex, ix⟩ := l.get (List.getElem?_eq_getElem j1)
      obtain ⟨y, ey, iy⟩ := l'.get (List.getElem?_eq_getElem j2)
      obtain ⟨w1, ew1, rw1⟩ := rv.get ex
      obtain ⟨w2, ew2, rw2⟩ := rv'.get ey
      have f1 : its.toArray[j] = w1 := by
        have : its.toArray[j]? = some w1 := by simpa using ew1
        exact (Array.getElem?_eq_some_iff.mp this).2
      have f2 : its'.toArray[j] = w2 := by
        have : its'.toArray[j]? = some w2 := by simpa using ew2
        exact (Array.getElem?_eq_some_iff.mp this).2
      rw [f1, f2]
      try dsimp only
      rw [List.getElem?_eq_getElem j1, List.getElem?_eq_getElem j2]
      have dl : (ds[j]).dep ≤ D.depL ds := D.dep_le (List.getElem_mem j1)
      exact eqAt_D I _ _ ix iy rw1 rw2 (by rw [in1_units]; omega)
    have R1 := SeqAt.RcAt.lists p.isList p'.isList (by omega) (by omega) he
    have R2 := SeqAt.RcNeAt.lists p.isList p'.isList (by omega) (by omega) he
    have eb := D.beqL_all ds es
    rw [show (ds.length == es.length) = true from by simpa using hl, Bool.and_true, Nat.min_eq_left (by omega)] at eb
    rw [e1] at R1 R2
    exact ⟨by rw [← eb]; exact R1, by rw [← eb]; exact R2⟩
  · have eb : D.beqL ds es = false := by
      cases h : D.beqL ds es with
      | false => rfl
      | true => exact absurd (D.beqL_len ds es h) hl
    rw [eb]
    have hs : (its.toArray.size != its'.toArray.size) = true := by rw [e1, e2]; simpa using hl
    exact ⟨SeqAt.RcAt.lists_lengths p.isList p'.isList hs (by omega), SeqAt.RcNeAt.lists_lengths p.isList p'.isList hs (by omega)⟩
end
section
variable {X : Cx}
theorem op_eqDL {n : Nat} (hu : X.A.units + 1 + n < cLine) : OpR X (compareOp .Eq) (rEqDL X.K n false) := by
  intro pins s σ H x y v u Q I rx ry h
  obtain ⟨a, b, xs, ys, ds, es, rfl, rfl, q1, q2, l1, l2, hd, q⟩ := h
  cases rx; cases ry
  exact (rc_DL I q1 q2 l1 l2 (by omega)).1 X.prog X.w X.xe _ ⟨.bl _, H, I, rfl, q⟩
theorem op_neDL {n : Nat} (hu : X.A.units + 1 + n < cLine) : OpR X (compareOp .NotEq) (rEqDL X.K n true) := by
  intro pins s σ H x y v u Q I rx ry h
  obtain ⟨a, b, xs, ys, ds, es, rfl, rfl, q1, q2, l1, l2, hd, q⟩ := h
  cases rx; cases ry
  exact (rc_DL I q1 q2 l1 l2 (by omega)).2 X.prog X.w X.xe _ ⟨.bl _, H, I, rfl, q⟩
end
end L2
set_option Elab.async false
set_option linter.all false
set_option maxRecDepth 100000
set_option maxHeartbeats 4000000
namespace L2
open PySem PySem.Spec PyProof.Rows PySem.W

section
variable {prog : Program} {w : World} {A : Around} {E : Value → Shared → Prop} {h : Heap} {g : Array GenState} {d : Drawn} {t : Nat} {os : OsState}
variable {nm q : Str} {C N : Addr} {bs bm bmB : List Value} {hdct : Bool} {sn : List Str} {sub : List Value} {ab : Bool} {col : Option Bool} {dd : Option Addr} {k0 k1 k2 k3 k5 : Option Value} {B newId initId : String}

end

noncomputable def overV : List Value → Bool
  | .ref _ :: r => overV r
  | l => l == [.type "ValueError", .type "Exception", .type "BaseException", .type "object"]
noncomputable def xOver (K : PySem.W.Frag) (C : Addr) : Bool := (PySem.W.clsIn K C).any fun c => overV c.mro
section
variable {prog : Program} {w : World} {A : Around} {E : Value → Shared → Prop} {s : Shared} {K : PySem.W.Frag}
variable {C x : Addr} {name : Str} {v : Value} {vs : Array Value} {sl : Array (Option Value)}

end

noncomputable def XFly (lo : Nat) (base : Heap) (l : List Env) (e : Addr) (c : Value) (od : Option Addr) (fl : Value) (h : Heap) : Prop :=
  base.StaysIn h ∧ base.get? e = none ∧ h.FunFrames base l ∧
    ∃ vs sl T oT ts, h.get? e = some ⟨c, od, .fields vs, sl⟩ ∧ vs[1]? = some (.ref T) ∧ base.get? T = none ∧ T ≠ e ∧ h.get? T = some oT ∧ oT.data = .fields ts ∧ ts[3]? = some fl ∧ lo ≤ T

section
variable {M : Model} {A : Around} {E : Value → Shared → Prop} {s : Shared} {base : Heap} {env : Env} {outer l : List Env} {L e : Addr} {c fl head : Value} {od : Option Addr} {vs : Array Value} {sl : Array (Option Value)} {hadNext : Bool} {lo : Nat} {Q : Unit → Shared → Prop}

end
end L2
set_option Elab.async false
set_option linter.all false
set_option maxRecDepth 100000
set_option maxHeartbeats 4000000
namespace L2
open PySem PySem.Spec PyProof.Rows

noncomputable def XNew (e C : Addr) (od : Option Addr) : HO := .ext fun h => ∃ t, h.get? e = some ⟨.ref C, od, .fields #[.ref t, .none, .none, .none, .bool false, .none], #[]⟩
noncomputable def XHad (e C : Addr) (od : Option Addr) : HO := .ext fun h => ∃ vs sl, h.get? e = some ⟨.ref C, od, .fields vs, sl⟩
section
variable {P : Program} {w : World} {H : Hp} {h : Heap} {e C t : Addr} {od : Option Addr}
theorem XNew.ok (k : h.get? e = some ⟨.ref C, od, .fields #[.ref t, .none, .none, .none, .bool false, .none], #[]⟩) : ObjOk P w H h e (XNew e C od) :=
  ⟨⟨t, k⟩, ⟨_, k⟩, fun _ _ hp2 q => by obtain ⟨t, p⟩ := hp2; exact ⟨t, q _ p⟩⟩
theorem XHad.ok {vs sl} (k : h.get? e = some ⟨.ref C, od, .fields vs, sl⟩) : ObjOk P w H h e (XHad e C od) :=
  ⟨⟨vs, sl, k⟩, ⟨_, k⟩, fun _ _ hp2 q => by obtain ⟨vs, sl, p⟩ := hp2; exact ⟨vs, sl, q _ p⟩⟩
theorem XNew.get (x : HOk P w H h) (q : H e = some (XNew e C od)) : ∃ t, h.get? e = some ⟨.ref C, od, .fields #[.ref t, .none, .none, .none, .bool false, .none], #[]⟩ := (x e _ q).1
theorem XHad.get (x : HOk P w H h) (q : H e = some (XHad e C od)) : ∃ vs sl, h.get? e = some ⟨.ref C, od, .fields vs, sl⟩ := (x e _ q).1
end

structure XCls (K : PySem.W.Frag) (C : Addr) : Prop where
  sa : PySem.W.findIn K (.ref C) "__setattr__" = some (some (.builtin "object.__setattr__"))
  po : xOver K C = true
  hd : PySem.W.hasDictIn K C = true
structure XMk (K : PySem.W.Frag) (C f : Addr) : Prop where
  ex : ∃ nm q N bs bm hdct sn sub ab col dd k0 k1 k2 k3 k5 newId B initId bmB, K.lookup C = some (excClassObj nm q C N bs bm hdct sn sub ab col dd k0 k1 k2 k3 k5 newId) ∧ ExcBaseFacts B newId initId bmB ∧
    bm.contains (.type "BaseException") = true ∧ (∀ h, K.In h → OwnTail h bmB bm) ∧ (∀ h, K.In h → ∃ mN, h.Ns N mN ∧ mN "__init__" = some (.ref f))
  fn : ∃ oI, K.lookup f = some oI ∧ oI.cls = .type "function"
  kp : PySem.W.keepIn K (.ref C) = true

section
variable {X : Cx} {o value : Expr} {f : Str} {pos pos' : Pos} {ta tv : TE} {C : Addr}
end

section
variable {M : Model} {A : Around} {E : Value → Shared → Prop} {env : Env}
variable {nm q : Str} {C N : Addr} {bs bm : List Value} {hdct : Bool} {sn : List Str} {sub : List Value} {ab : Bool} {col : Option Bool} {dd : Option Addr} {k0 k1 k2 k3 k5 : Option Value} {newId : String}
end

section
variable {X : Cx} {k : Nat} {f C : Addr} {fd : FuncData} {ps : List Str} {sp : Sp} {x : Str} {np cpos pos : Pos} {e : Expr} {es : List Expr} {t : TA} {R : Addr → Addr → Hp → Prop}
end
end L2
set_option Elab.async false
set_option linter.all false
set_option maxRecDepth 100000
set_option maxHeartbeats 4000000
namespace L2
open PySem PySem.Spec PyProof.Rows

theorem ObjOk.has {P : Program} {w : World} {H : Hp} {h : Heap} {a : Addr} {o : HO} (x : ObjOk P w H h a o) : ∃ u, h.get? a = some u := by
  cases o with
  | lst xs => obtain ⟨_, _, _, _, e⟩ := x; exact ⟨_, e⟩
  | tup xs => obtain ⟨_, _, _, ob, e, _⟩ := x; exact ⟨_, e⟩
  | dK kvs => obtain ⟨_, _, _, _, o, _, _, e, _⟩ := x; exact ⟨_, e⟩
  | dT kvs => obtain ⟨_, _, _, _, o, _, _, e, _⟩ := x; exact ⟨_, e⟩
  | dZ zs kvs => obtain ⟨_, _, _, _, o, _, _, e, _⟩ := x; exact ⟨_, e⟩
  | dN zs kvs => obtain ⟨_, _, _, _, o, _, _, e, _⟩ := x; exact ⟨_, e⟩
  | set S n => obtain ⟨o, _, _, _, e, _⟩ := x; exact ⟨_, e⟩
  | ins C dx fs => obtain ⟨_, _, _, e, _⟩ := x; exact ⟨_, e⟩
  | own y => obtain ⟨_, e⟩ := x; exact ⟨_, e⟩
  | xd fs => obtain ⟨_, ⟨_, _, _, e, _⟩, _⟩ := x; exact ⟨_, e⟩
  | rng lo hi => obtain ⟨_, _, _, e⟩ := x; exact ⟨_, e⟩
  | frz ob u => obtain ⟨e, _⟩ := x; exact ⟨_, e⟩
  | tbl ps => exact ⟨_, show h.get? a = some _ from x⟩
  | met f y => exact ⟨_, show h.get? a = some _ from x⟩
  | ext φ => obtain ⟨_, ⟨_, e⟩, _⟩ := x; exact ⟨_, e⟩

end L2
set_option Elab.async false
set_option linter.all false
set_option maxRecDepth 100000
set_option maxHeartbeats 4000000
namespace L2
open PySem PySem.Spec PyProof.Rows

section
variable {X : Cx} {pins pins' : List (Addr × Obj)} {σ : St} {H : Hp} {s : Shared} {E : XK} {a : Addr}
theorem inv_fly {C dx T : Addr} {lo : Nat} {fl : Value} {h' : Heap} {t' : Nat} (I : Inv X pins σ H s) (ea : H a = some (XHad a C (some dx))) (hT : H T = none) (hlo : X.s₀.heap.objs.size ≤ T)
    (hTL : T ≠ X.env.locals) (hTc : ∀ x c, X.env.cells.lookup x = some c → c ≠ T) (hTp : ∀ p ∈ X.pn ++ pins, p.1 ≠ T)
    (fly : XFly lo (PySem.W.hideAll s.heap (a :: T :: frs X.stack)) X.stack a (.ref C) (some dx) fl h') (up : s.heap.UpToSlots h') : Inv X pins σ H { s with heap := h', toks := t' } := by
  obtain ⟨sta, _, _, vs, sl, T2, oT, ts, g1, g2, g3, g4, g5, g6, g7, g8⟩ := fly
  have keepB : ∀ b o, s.heap.get? b = some o → b ≠ a → b ≠ T → b ∉ frs X.stack → h'.get? b = some o := fun b o e n1 n2 n3 =>
    sta b o (PySem.W.hideAll_get _ e fun z => (List.mem_cons.mp z).elim n1 fun z => (List.mem_cons.mp z).elim n2 n3)
  have frame : ∀ b o, b ∈ frs X.stack → s.heap.get? b = some o → ∃ sl, h'.get? b = some { o with slots := sl } := fun b o m e => by
    obtain ⟨_, o', e', hd⟩ := I.stack.mem m
    rw [e] at e'; cases e'
    exact up b o e hd
  have trk : ∀ b u, H b = some u → b ∉ frs X.stack := fun b u e m => by rw [I.stkFree b m] at e; cases e
  have nT : ∀ b u, H b = some u → b ≠ T := fun b u e z => by rw [z, hT] at e; cases e
  refine I.call (t' := t') (g' := s.gens) (d' := s.drawn) (ch := [T]) ⟨fun b o e n m x => ?_, fun b o e n m x => frame b o m e, fun b o e n x => n, fun b o e x => ?_, fun b xs e => e, fun b o u e => e, fun b ps e => ⟨#[], by rw [e]; simp⟩⟩ ?_ I.bare fun b hb => ?_
  · exact keepB b o e (fun z => by rw [z, ea] at n; cases n) (fun z => x (by rw [z]; exact .head _)) m
  · by_cases z : b = a
    · exact ⟨_, by rw [z]; exact g1⟩
    · by_cases m : b ∈ frs X.stack
      · obtain ⟨sl, q⟩ := frame b o m e
        exact ⟨_, q⟩
      · exact ⟨o, keepB b o e z (fun z => x (by rw [z]; exact .head _)) m⟩
  · intro b u e
    by_cases z : b = a
    · subst z
      rw [ea] at e; cases e
      exact XHad.ok g1
    · refine (I.hok b u e).stay (fun c v hc r => ?_) (fun _ r => r) fun _ _ r => r
      rcases hc with rfl | hc
      · exact keepB c v r z (nT c u e) (trk c u e)
      · exact keepB c v r (fun z => by rw [z, ea] at hc; cases hc) (nT c _ hc) (trk c _ hc)
  · obtain rfl : b = T := by simpa using hb
    exact ⟨.inr hlo, hTL, hTc, hTp⟩

end

section
variable {X : Cx} {E : XK} {i : Nat} {n x : Str} {S : Addr} {b₀ : Stmt} {body suite : List Stmt} {np hpos pos : Pos} {tb th : TS}
end
end L2
set_option Elab.async false
set_option linter.all false
set_option maxRecDepth 100000
set_option maxHeartbeats 4000000
namespace L2
open PySem PySem.Spec PyProof.Rows PySem.W

section
variable {prog : Program} {w : World} {A : Around} {E : Value → Shared → Prop} {s : Shared} {K : PySem.W.Frag} {x D : Addr} {ox : Obj} {odo : Option Obj} {name : Str} {v : Value}
end
end L2
set_option Elab.async false
set_option linter.all false
set_option maxRecDepth 100000
set_option maxHeartbeats 4000000
namespace L2
open PySem PySem.Spec PyProof.Rows

structure XGet (K : PySem.W.Frag) (C : Addr) : Prop where
  ga : PySem.W.findIn K (.ref C) "__getattribute__" = some (some (.builtin "BaseException.__getattribute__"))
  gn : PySem.W.findIn K (.ref C) "__getattr__" = some none
  mb : PySem.W.mroIn K C (.type "BaseException") = some true
  hd : PySem.W.hasDictIn K C = true
  cl : PySem.W.findIn K (.ref C) "__class__" = some (some (.builtin "object.__class__"))
  cg : PySem.W.specialIn K (.builtin "object.__class__") "__get__" = some (some (.builtin "getset_descriptor.__get__"))
  ct : PySem.W.takesIn K (.builtin "object.__class__") = some true
  mo : PySem.W.mroIn K C (.type "object") = some true

section
variable {prog : Program} {w : World} {A : Around} {E : Value → Shared → Prop} {s : Shared} {K : PySem.W.Frag} {x C : Addr} {ox : Obj} {od : Obj} {name : Str} {v : Value}
end

section
variable {X : Cx} {pins : List (Addr × Obj)} {σ : St} {H : Hp} {s : Shared} {a C dx : Addr} {fs : List (Str × V)}
end
end L2
set_option Elab.async false
set_option linter.all false
set_option maxRecDepth 100000
set_option maxHeartbeats 4000000
namespace L2
open PySem PySem.Spec PyProof.Rows

section
variable {X : Cx} {x : Str} {k : Nat} {ps : List Str} {sp : Sp} {p pos : Pos} {e : Expr} {es : List Expr} {t : TA} {E : XK} {pins : List (Addr × Obj)}
end

noncomputable def spXInit (C : Addr) (f : Str) : Sp := fun vs H Q _ => ExQ Q (fun a Q => ExQ Q (fun v Q => vs = [.ref a, v] ∧ H a = some (XNew a C none) ∧ ∀ dx, H dx = none → dx ≠ a → Q .non (upd (upd H dx (.xd [(f, v)])) a (XNew a C (some dx)))))
structure XErr (P : Program) (w : World) (K : PySem.W.Frag) (mg : Str → Option Value) (base : Heap) (x : Str) (k : Nat) (ps : List Str) (C : Addr) (f : Str) : Prop where
  ex : ∃ fI fd, XMk K C fI ∧ FnOk P w K mg base CX0 k fI fd ps (spXInit C f) ∧ Binds K fd ps []
  mg : mg x = some (.ref C)
  len : ps.length ≤ sizeLine
section
variable {P : Program} {w : World} {K : PySem.W.Frag} {mg : Str → Option Value} {base : Heap} {N : List Str} {qual : Str} {scope : Scope} {fa : Addr} {cd : Value} {A : Around} {outer : List Env} {s₀ : Shared} {H₀ : Hp} {E : XK}
variable {x : Str} {k : Nat} {ps : List Str} {C : Addr} {f : Str} {np cpos pos : Pos} {e : Expr} {es : List Expr} {t : TA}
end
end L2
set_option Elab.async false
set_option linter.all false
set_option maxRecDepth 100000
set_option maxHeartbeats 4000000
namespace L2
open PySem PySem.Spec PyProof.Rows
section
variable {X : Cx}
end
end L2
set_option Elab.async false
set_option linter.all false
set_option maxRecDepth 100000
set_option maxHeartbeats 4000000
namespace L2
open PySem PySem.Spec PyProof.Rows

section
variable {κ : Type} [DecidableEq κ]
noncomputable def valV (kvs : List (κ × V)) (k : κ) : Option V := (kvs.find? fun kv => decide (kv.1 = k)).map (·.2)
noncomputable def putK (kvs : List (κ × V)) (k : κ) (v : V) : List (κ × V) :=
  if (kvs.any fun kv => decide (kv.1 = k)) = true then kvs.map (fun kv => if kv.1 = k then (kv.1, v) else kv) else kvs ++ [(k, v)]
noncomputable def dropK (kvs : List (κ × V)) (k : κ) : List (κ × V) := kvs.filter fun kv => decide (kv.1 ≠ k)

theorem valV_pos {p : κ × V} {r : List (κ × V)} {k : κ} (e : p.1 = k) : valV (p :: r) k = some p.2 := by simp [valV, List.find?_cons, e]
theorem valV_neg {p : κ × V} {r : List (κ × V)} {k : κ} (e : ¬ p.1 = k) : valV (p :: r) k = valV r k := by simp [valV, List.find?_cons, e]
theorem valV_any (k : κ) : ∀ kvs : List (κ × V), (kvs.any fun kv => decide (kv.1 = k)) = (valV kvs k).isSome
  | [] => rfl
  | p :: r => by
    rw [List.any_cons]
    by_cases e : p.1 = k
    · simp only [valV_pos e, decide_eq_true e, Bool.true_or, Option.isSome_some]
    · rw [valV_neg e, decide_eq_false e, Bool.false_or]; exact valV_any k r
theorem valV_map (k j : κ) (y : V) : ∀ kvs : List (κ × V), valV (kvs.map fun kv => if kv.1 = k then (kv.1, y) else kv) j = (valV kvs j).map fun x => if j = k then y else x
  | [] => rfl
  | p :: r => by
    have ih := valV_map k j y r
    rw [List.map_cons]
    by_cases h : p.1 = k
    · rw [if_pos h]
      by_cases e : p.1 = j
      · rw [valV_pos (p := (p.1, y)) e, valV_pos e, Option.map_some, if_pos (e.symm.trans h)]
      · rw [valV_neg (p := (p.1, y)) e, valV_neg e, ih]
    · rw [if_neg h]
      by_cases e : p.1 = j
      · rw [valV_pos (p := p) e, valV_pos e, Option.map_some, if_neg (fun z => h (e.trans z))]
      · rw [valV_neg (p := p) e, valV_neg e, ih]
theorem valV_snoc (k j : κ) (y : V) : ∀ kvs : List (κ × V), valV kvs k = none → valV (kvs ++ [(k, y)]) j = if j = k then some y else valV kvs j
  | [], _ => by
    by_cases e : k = j
    · rw [if_pos e.symm]; exact valV_pos (p := (k, y)) e
    · rw [if_neg (fun z => e z.symm)]; exact valV_neg (p := (k, y)) e
  | p :: r, hn => by
    rw [List.cons_append]
    have hk : ¬ p.1 = k := fun z => by rw [valV_pos z] at hn; cases hn
    rw [valV_neg hk] at hn
    have ih := valV_snoc k j y r hn
    by_cases e : p.1 = j
    · rw [valV_pos e, valV_pos e, if_neg (fun z => hk (e.trans z))]
    · rw [valV_neg e, valV_neg e, ih]
theorem valV_put (kvs : List (κ × V)) (k j : κ) (y : V) : valV (putK kvs k y) j = if j = k then some y else valV kvs j := by
  unfold putK
  by_cases a : (kvs.any fun kv => decide (kv.1 = k)) = true
  · rw [if_pos a, valV_map]
    rw [valV_any] at a
    by_cases e : j = k
    · obtain ⟨x, hx⟩ := Option.isSome_iff_exists.mp a
      rw [if_pos e, e, hx, Option.map_some, if_pos rfl]
    · rw [if_neg e]
      cases valV kvs j with
      | none => rfl
      | some x => rw [Option.map_some, if_neg e]
  · rw [if_neg a]
    refine valV_snoc k j y kvs ?_
    rw [valV_any] at a
    cases q : valV kvs k with
    | none => rfl
    | some x => rw [q] at a; exact (a rfl).elim
theorem length_putK (kvs : List (κ × V)) (k : κ) (v : V) : (putK kvs k v).length ≤ kvs.length + 1 := by
  unfold putK
  split
  · rw [List.length_map]; omega
  · rw [List.length_append, List.length_cons, List.length_nil]; omega
theorem putK_new {kvs : List (κ × V)} {k : κ} (v : V) (h : valV kvs k = none) : putK kvs k v = kvs ++ [(k, v)] := by
  unfold putK
  rw [valV_any, h]
  exact if_neg (by decide)

theorem RelO.isSome_eq {o : Option V} {u : Option Value} (r : RelO o u) : o.isSome = u.isSome := by
  cases o with
  | none => cases u with
    | none => rfl
    | some _ => exact (show False from r).elim
  | some _ => cases u with
    | none => exact (show False from r).elim
    | some _ => rfl
theorem RelO.getD {o : Option V} {u : Option Value} {d : V} {d' : Value} (r : RelO o u) (rd : RelV d d') : RelV (o.getD d) (u.getD d') := by
  cases o with
  | none => cases u with
    | none => exact rd
    | some _ => exact (show False from r).elim
  | some _ => cases u with
    | none => exact (show False from r).elim
    | some _ => exact r

theorem KV.val {kvs : List (κ × V)} {vs : List (κ × Value)} (r : KV kvs vs) (k : κ) : RelO (valV kvs k) (valueAt vs k) := by
  unfold KV at r
  induction r with
  | nil => exact True.intro
  | @cons p q ps qs h t ih =>
    obtain ⟨h1, h2⟩ := h
    by_cases e : p.1 = k
    · have e' : q.1 = k := h1.symm.trans e
      have b : valueAt (q :: qs) k = some q.2 := by simp [valueAt, List.find?_cons, e']
      rw [valV_pos e, b]; exact h2
    · have e' : ¬ q.1 = k := fun z => e (h1.trans z)
      have b : valueAt (q :: qs) k = valueAt qs k := by simp [valueAt, List.find?_cons, e']
      rw [valV_neg e, b]; exact ih
theorem KV.any {kvs : List (κ × V)} {vs : List (κ × Value)} (r : KV kvs vs) (k : κ) : (kvs.any fun kv => decide (kv.1 = k)) = vs.any fun kv => decide (kv.1 = k) := by
  unfold KV at r
  induction r with
  | nil => rfl
  | cons h t ih => rw [List.any_cons, List.any_cons, ih, h.1]
theorem KV.repl {kvs : List (κ × V)} {vs : List (κ × Value)} (r : KV kvs vs) (k : κ) {y : V} {u : Value} (ry : RelV y u) :
    KV (kvs.map fun kv => if kv.1 = k then (kv.1, y) else kv) (vs.map fun kv => if kv.1 = k then (kv.1, u) else kv) := by
  unfold KV at r ⊢
  induction r with
  | nil => exact .nil
  | @cons p q ps qs h t ih =>
    rw [List.map_cons, List.map_cons]
    refine .cons ?_ ih
    obtain ⟨h1, h2⟩ := h
    by_cases e : p.1 = k
    · rw [if_pos e, if_pos (h1.symm.trans e)]; exact ⟨h1, ry⟩
    · rw [if_neg e, if_neg (fun z => e (h1.trans z))]; exact ⟨h1, h2⟩
theorem KV.put {kvs : List (κ × V)} {vs : List (κ × Value)} (r : KV kvs vs) (k : κ) {y : V} {u : Value} (ry : RelV y u) : KV (putK kvs k y) (stored vs k u) := by
  unfold putK stored
  rw [r.any k]
  by_cases e : (vs.any fun kv => decide (kv.1 = k)) = true
  · rw [if_pos e, if_pos e]; exact r.repl k ry
  · rw [if_neg e, if_neg e]; exact Paired.snoc r ⟨rfl, ry⟩
theorem KV.drop {kvs : List (κ × V)} {vs : List (κ × Value)} (r : KV kvs vs) (k : κ) : KV (dropK kvs k) (without vs k) := by
  unfold KV at r ⊢
  unfold dropK without
  induction r with
  | nil => exact .nil
  | @cons p q ps qs h t ih =>
    obtain ⟨h1, h2⟩ := h
    rw [List.filter_cons, List.filter_cons]
    by_cases e : p.1 = k
    · have a : ¬ decide (p.1 ≠ k) = true := by simp [e]
      have b : ¬ decide (q.1 ≠ k) = true := by simp [h1.symm.trans e]
      rw [if_neg a, if_neg b]; exact ih
    · have e' : ¬ q.1 = k := fun z => e (h1.trans z)
      have a : decide (p.1 ≠ k) = true := by simp [e]
      have b : decide (q.1 ≠ k) = true := by simp [e']
      rw [if_pos a, if_pos b]; exact .cons ⟨h1, h2⟩ ih
theorem KV.keys {kvs : List (κ × V)} {vs : List (κ × Value)} (r : KV kvs vs) : kvs.map (·.1) = vs.map (·.1) := by
  unfold KV at r
  induction r with
  | nil => rfl
  | cons h t ih => rw [List.map_cons, List.map_cons, ih, h.1]
theorem KV.length {kvs : List (κ × V)} {vs : List (κ × Value)} (r : KV kvs vs) : kvs.length = vs.length := Paired.length r
end


theorem kV_is {P : Program} {w : World} {k : Key} {u : Value} (r : RelV (kV k) u) : (mixKind P w).is k u = true := by
  cases k with
  | inl i => obtain ⟨t, e⟩ := (show ∃ t, u = Value.int i t from r); subst e; exact mixKind_int P w i t
  | inr x => obtain ⟨t, e⟩ := (show ∃ t, u = Value.str x t from r); subst e; exact mixKind_str P w x t
theorem items_are {P : Program} {w : World} : ∀ {ks : List Key} {us : List Value}, Vals (ks.map kV) us → ItemsAre (mixKind P w) ks us
  | [], _, r => by rw [List.map_nil] at r; cases r; exact .nil
  | k :: ks, _, r => by
    rw [List.map_cons] at r
    cases r with
    | cons h t => exact .cons (kV_is h) (items_are t)

noncomputable abbrev KT (H : Hp) : List (List Key × V) → List (List Key × Addr × Value) → Prop := Paired fun p q => p.1 = q.1 ∧ H q.2.1 = some (.tup (p.1.map kV)) ∧ RelV p.2 q.2.2
theorem KT.val {H : Hp} {kvs : List (List Key × V)} {xs : List (List Key × Addr × Value)} (r : KT H kvs xs) (k : List Key) : RelO (valV kvs k) ((atKey xs k).map (·.2)) := by
  induction r with
  | nil => exact True.intro
  | @cons p q ps qs h t ih =>
    obtain ⟨h1, _, h2⟩ := h
    by_cases e : p.1 = k
    · have e' : q.1 = k := h1.symm.trans e
      have b : atKey (q :: qs) k = some q.2 := by simp [atKey, List.find?_cons, e']
      rw [valV_pos e, b]; exact h2
    · have e' : ¬ q.1 = k := fun z => e (h1.trans z)
      have b : atKey (q :: qs) k = atKey qs k := by simp [atKey, List.find?_cons, e']
      rw [valV_neg e, b]; exact ih
theorem KT.repl {H : Hp} {kvs : List (List Key × V)} {xs : List (List Key × Addr × Value)} (r : KT H kvs xs) (k : List Key) {y : V} {u : Value} (ry : RelV y u) :
    KT H (kvs.map fun kv => if kv.1 = k then (kv.1, y) else kv) (xs.map (putAt k u)) := by
  induction r with
  | nil => exact .nil
  | @cons p q ps qs h t ih =>
    rw [List.map_cons, List.map_cons]
    refine .cons ?_ ih
    obtain ⟨h1, h2, h3⟩ := h
    unfold putAt
    by_cases e : p.1 = k
    · rw [if_pos e, if_pos (h1.symm.trans e)]; exact ⟨h1, h2, ry⟩
    · rw [if_neg e, if_neg (fun z => e (h1.trans z))]; exact ⟨h1, h2, h3⟩
theorem KT.put {H : Hp} {kvs : List (List Key × V)} {xs : List (List Key × Addr × Value)} (r : KT H kvs xs) (k : List Key) {b : Addr} {y : V} {u : Value} (hb : H b = some (.tup (k.map kV))) (ry : RelV y u) :
    KT H (putK kvs k y) (storedH xs k b u) := by
  have e : (kvs.any fun kv => decide (kv.1 = k)) = (atKey xs k).isSome := by
    rw [valV_any, (r.val k).isSome_eq, Option.isSome_map]
  unfold putK storedH
  rw [e]
  by_cases q : (atKey xs k).isSome = true
  · rw [if_pos q, if_pos q]; exact r.repl k ry
  · rw [if_neg q, if_neg q]; exact Paired.snoc r ⟨rfl, hb, ry⟩
theorem KT.keeps {H H' : Hp} {kvs : List (List Key × V)} {xs : List (List Key × Addr × Value)} (r : KT H kvs xs) (ht : ∀ b ys, H b = some (.tup ys) → H' b = some (.tup ys)) : KT H' kvs xs :=
  Paired.mapP r fun _ _ z => ⟨z.1, ht _ _ z.2.1, z.2.2⟩

section
variable {P : Program} {w : World} {H : Hp} {h : Heap} {a : Addr}
theorem rd_of {u : HO} (ok : HOk P w H h) (e : Rd H a u) : ObjOk P w H h a u := e.ok ok
end

noncomputable def DGet (H : Hp) (a : Addr) (y : V) (r : Option V) : Prop :=
  (∃ kvs k, Rd H a (.dK kvs) ∧ y = kV k ∧ r = valV kvs k) ∨ ∃ kvs k b, Rd H a (.dT kvs) ∧ y = .ref b ∧ H b = some (.tup (k.map kV)) ∧ r = valV kvs k
noncomputable def DPut (H : Hp) (a : Addr) (y v : V) (H' : Hp) : Prop :=
  (∃ kvs k, H a = some (.dK kvs) ∧ y = kV k ∧ kvs.length < sizeLine ∧ H' = upd H a (.dK (putK kvs k v))) ∨
  ∃ kvs k b, H a = some (.dT kvs) ∧ y = .ref b ∧ H b = some (.tup (k.map kV)) ∧ kvs.length < sizeLine ∧ H' = upd H a (.dT (putK kvs k v))
theorem DGet.k {H : Hp} {a : Addr} {kvs : List (Key × V)} {k : Key} (e : H a = some (.dK kvs)) : DGet H a (kV k) (valV kvs k) := .inl ⟨kvs, k, .inl e, rfl, rfl⟩
theorem DGet.t {H : Hp} {a b : Addr} {kvs : List (List Key × V)} {k : List Key} (e : H a = some (.dT kvs)) (eb : H b = some (.tup (k.map kV))) : DGet H a (.ref b) (valV kvs k) := .inr ⟨kvs, k, b, .inl e, rfl, eb, rfl⟩
theorem DPut.k {H : Hp} {a : Addr} {kvs : List (Key × V)} {k : Key} {v : V} (e : H a = some (.dK kvs)) (hl : kvs.length < sizeLine) : DPut H a (kV k) v (upd H a (.dK (putK kvs k v))) := .inl ⟨kvs, k, e, rfl, hl, rfl⟩
theorem DPut.t {H : Hp} {a b : Addr} {kvs : List (List Key × V)} {k : List Key} {v : V} (e : H a = some (.dT kvs)) (eb : H b = some (.tup (k.map kV))) (hl : kvs.length < sizeLine) :
    DPut H a (.ref b) v (upd H a (.dT (putK kvs k v))) := .inr ⟨kvs, k, b, e, rfl, eb, hl, rfl⟩


section
variable {X : Cx} {pins : List (Addr × Obj)} {σ : St} {H : Hp} {s : Shared} {a : Addr} {y v : V} {u r : Value} {o : Option V} {A : Around} {E : Value → Shared → Prop}

theorem Inv.big (I : Inv X pins σ H s) : sysModules < s.heap.objs.size := by
  have h : mainGlobals < s.heap.objs.size := (I.mod.glob.keeps I.bk).lt
  exact Nat.lt_trans (by decide) h

theorem d_write {h' : Heap} {t' : Nat} {ob : HO} (I : Inv X pins σ H s) (mu : Mut (H a)) (hs : Heap.SameBut a s.heap h') (he : ∃ q, h'.get? a = some q) (new : ObjOk X.prog X.w (upd H a ob) h' a ob) :
    Inv X pins σ (upd H a ob) { s with heap := h', toks := t' } :=
  I.write (x := a) (e := a) mu (.inl rfl) (fun b q hb z => (hs.2 b hb).trans z) he new
end

section
variable {X : Cx} {pins : List (Addr × Obj)} {σ : St} {H : Hp} {s : Shared} {a : Addr} {kvs : List (Key × V)} {k : Key} {u : Value} {A : Around} {E : Value → Shared → Prop}
end


noncomputable def NoSl (i : Expr) : Prop := ∀ ov iv, subscripted i false ov iv = operate [ov, iv] (getItem ov iv)
theorem subD_of {prog : Program} {w : World} {A : Around} {E : Value → Shared → Prop} {s : Shared} {env : Env} {value slice : Expr} {pos : Pos} {T id : String} {Q : Value → Shared → Prop}
    (hl : typeLookup (.type T) "__getitem__" = pure (some (.builtin id))) (hs : NoSl slice)
    (h : wpAny (model prog w) A (eval value env) (fun o s₁ => wpAny (model prog w) A (eval slice env) (fun i s₂ => s₂.TypeIs o T ∧ wpAny (model prog w) A (getItem o i) Q E s₂) E s₁) E s) :
    wpAny (model prog w) A (eval (.Subscript value slice pos) env) Q E s := by
  refine Subscript_ (wpAny_mono h (fun o s₁ h₁ => wpAny_mono h₁ (fun i s₂ h₂ => ?_) fun _ _ x => x) fun _ _ x => x)
  obtain ⟨hT, h₂⟩ := h₂
  unfold subscriptTail
  refine wpAny_bind ?_
  rw [getitemInPython_of_ne hT.not_modules]
  refine wpAny_bind (wpAny_specialOf hT hl ?_)
  have fin : wpAny (model prog w) A (subscripted slice false o i) (fun r s₃ => wpAny (model prog w) A (letTemporaryGo value o r >>= fun _ => pure r) Q E s₃) E s₂ := by
    rw [hs o i]
    exact wpAny_operating (wpAny_mono h₂ (fun r s₃ h₃ => wpAny_bind (wpAny_letTemporaryGo (wpAny_pure h₃))) fun _ _ x => x)
  first
    | exact wpAny_pure (wpAny_bind fin)
    | exact wpAny_bind (wpAny_pure (wpAny_bind fin))
    | exact wpAny_bind fin

section
variable {X : Cx} {o i e value : Expr} {pos pos' tpos : Pos} {td ty tv : TE}
end


section
variable {X : Cx} {pos : Pos}
end

structure M1 (X : Cx) (o : Expr) (m : Str) (apos : Pos) (e : Expr) (cpos : Pos) : Prop where
  base : attributeBase o m X.env (eval o X.env) = eval o X.env
  few : ((backTo cpos (starEach [e] X.env)).all (fun x => !x.1) && (backToKw cpos (keywordEach [] X.env)).all (fun x => x.1.isSome)
    && decide (([e] : List Expr).length + ([] : List Keyword).length + (if ([] : List Keyword).isEmpty then 0 else 1) < 30)) = true
  line : (apos.endLine == cpos.line) = true
  trees : backTo cpos (starEach [e] X.env) = [(false, eval e X.env)]
structure M2 (X : Cx) (o : Expr) (m : Str) (apos : Pos) (e f : Expr) (cpos : Pos) : Prop where
  base : attributeBase o m X.env (eval o X.env) = eval o X.env
  few : ((backTo cpos (starEach [e, f] X.env)).all (fun x => !x.1) && (backToKw cpos (keywordEach [] X.env)).all (fun x => x.1.isSome)
    && decide (([e, f] : List Expr).length + ([] : List Keyword).length + (if ([] : List Keyword).isEmpty then 0 else 1) < 30)) = true
  line : (apos.endLine == cpos.line) = true
  trees : backTo cpos (starEach [e, f] X.env) = [(false, eval e X.env), (false, eval f X.env)]

section
variable {X : Cx} {pins : List (Addr × Obj)} {σ : St} {H : Hp} {s : Shared} {a : Addr} {y d : V} {u r : Value} {o : Option V} {A : Around} {E : Value → Shared → Prop}
end

section
variable {X : Cx} {o e f : Expr} {apos cpos : Pos} {td ty tx : TE}
end

section
variable {X : Cx} {pins : List (Addr × Obj)} {σ : St} {H : Hp} {s : Shared} {a : Addr} {kvs : List (Key × V)} {A : Around} {E : Value → Shared → Prop}
end


section
variable {X : Cx} {pins : List (Addr × Obj)} {σ : St} {H : Hp} {s : Shared} {a : Addr} {y : V} {u : Value} {A : Around} {E : Value → Shared → Prop}
end
end L2

namespace L2
open PySem PySem.Spec PyProof.Rows
section
variable {κ : Type} [DecidableEq κ]
theorem valV_not {kvs : List (κ × V)} {k : κ} (h : valV kvs k = none) : ¬ k ∈ kvs.map (·.1) := by
  intro m
  obtain ⟨p, hp, e⟩ := List.mem_map.mp m
  have q : (kvs.any fun kv => decide (kv.1 = k)) = true := List.any_eq_true.mpr ⟨p, hp, decide_eq_true e⟩
  rw [valV_any, h] at q
  exact absurd q (by simp)
theorem valV_in {kvs : List (κ × V)} {k : κ} {v : V} (h : valV kvs k = some v) : k ∈ kvs.map (·.1) := by
  have q : (kvs.any fun kv => decide (kv.1 = k)) = true := by
    rw [valV_any, h]
    all_goals rfl
  obtain ⟨p, hp, e⟩ := List.any_eq_true.mp q
  exact List.mem_map.mpr ⟨p, hp, of_decide_eq_true e⟩
theorem nd_snoc : ∀ {l : List κ} {k : κ}, l.Nodup → ¬ k ∈ l → (l ++ [k]).Nodup
  | [], k, _, _ => by simp
  | a :: r, k, h, hk => by
    obtain ⟨h1, h2⟩ := List.nodup_cons.mp h
    show (a :: (r ++ [k])).Nodup
    refine List.nodup_cons.mpr ⟨fun m => ?_, nd_snoc h2 fun m => hk (List.mem_cons.mpr (Or.inr m))⟩
    rcases List.mem_append.mp m with q | q
    · exact h1 q
    · exact hk (List.mem_cons.mpr (Or.inl (List.mem_singleton.mp q).symm))
theorem nd_putK {kvs : List (κ × V)} {k : κ} (v : V) (hn : (kvs.map (·.1)).Nodup) (h : valV kvs k = none) : ((putK kvs k v).map (·.1)).Nodup := by
  rw [putK_new v h, List.map_append]
  exact nd_snoc hn (valV_not h)
end
end L2
set_option Elab.async false
set_option linter.all false
set_option maxRecDepth 100000
set_option maxHeartbeats 4000000
namespace L2
open PySem PySem.Spec PyProof.Rows
section
variable {X : Cx}
end
section
end
section
variable {X : Cx}
end
end L2
set_option Elab.async false
set_option linter.all false
set_option maxRecDepth 100000
set_option maxHeartbeats 4000000
namespace L2
open PySem PySem.Spec PyProof.Rows
inductive T where
  | d (d : D) | lst (ts : List T) | tup (ts : List T)
mutual
noncomputable def IsT (K : PySem.W.Frag) (H : Hp) : T → V → Prop
  | .d d, v => Is K H d v
  | .lst ts, v => ∃ a xs, v = .ref a ∧ SqL K H a xs ∧ IsTL K H ts xs
  | .tup ts, v => ∃ a xs, v = .ref a ∧ SqT K H a xs ∧ IsTL K H ts xs
noncomputable def IsTL (K : PySem.W.Frag) (H : Hp) : List T → List V → Prop
  | [], vs => vs = []
  | t :: ts, vs => ∃ v r, vs = v :: r ∧ IsT K H t v ∧ IsTL K H ts r
end
mutual
noncomputable def T.dep : T → Nat
  | .d x => x.dep
  | .lst ts => 1 + T.depL ts
  | .tup ts => 1 + T.depL ts
noncomputable def T.depL : List T → Nat
  | [] => 0
  | t :: ts => max t.dep (T.depL ts)
end
section
variable {K : PySem.W.Frag} {H : Hp}
theorem IsTL.length : ∀ {ts : List T} {vs : List V}, IsTL K H ts vs → ts.length = vs.length
  | [], vs, h => by unfold IsTL at h; rw [h]; rfl
  | t :: ts, vs, h => by
    unfold IsTL at h
    obtain ⟨v, r, rfl, _, l⟩ := h
    rw [List.length_cons, List.length_cons, IsTL.length l]
end
section
variable {X : Cx} {pins : List (Addr × Obj)} {σ : St} {H : Hp} {s : Shared}
end
section
variable {X : Cx} {pins : List (Addr × Obj)} {σ : St} {H : Hp} {s : Shared}
end
section
variable {X : Cx}
end
end L2
set_option Elab.async false
set_option linter.all false
set_option maxRecDepth 100000
set_option maxHeartbeats 4000000
namespace L2
open PySem PySem.Spec PyProof.Rows
noncomputable def ClM (P : Program) (w : World) (K : PySem.W.Frag) (mg : Str → Option Value) (base : Heap) (C : Addr) (m : Str) (k : Nat) (ps : List Str) (sp : Sp) : Prop :=
  ∃ (f : Addr) (fd : FuncData), Cls K C ∧ Meth K C m f ∧ FnOk P w K mg base CX0 k f fd ps sp ∧ Binds K fd ps []
theorem ClM.mono {P : Program} {w : World} {K : PySem.W.Frag} {mg : Str → Option Value} {base : Heap} {C : Addr} {m : Str} {j k : Nat} {ps : List Str} {sp : Sp} (c : ClM P w K mg base C m j ps sp) (h : j ≤ k) : ClM P w K mg base C m k ps sp :=
  let ⟨f, fd, a, b, F, d⟩ := c; ⟨f, fd, a, b, F.mono h, d⟩
noncomputable def tMcl (C : Addr) (m : Str) (sp : Sp) (ta : TE) (t : TA) : TE := fun σ H Q => ta σ H fun x H1 => ExQ Q (fun a Q => ExQ Q (fun dx Q => ExQ Q (fun fs Q => x = .ref a ∧ H1 a = some (.ins C dx fs) ∧ fs.lookup m = none ∧ t σ H1 fun vs H2 => sp (x :: vs) H2 Q E0)))
noncomputable def ClK (P : Program) (w : World) (K : PySem.W.Frag) (mg : Str → Option Value) (base : Heap) (x : Str) (C : Addr) (k : Nat) (ps : List Str) (sp : Sp) : Prop :=
  ∃ (f : Addr) (fd : FuncData), Mk K C f ∧ FnOk P w K mg base CX0 k f fd ps sp ∧ Binds K fd ps [] ∧ mg x = some (.ref C)
noncomputable def tMk (C : Addr) (sp : Sp) (t : TA) : TE := fun σ H Q => t σ H fun vs H1 => ∀ x dx, H1 x = none → H1 dx = none → dx ≠ x → sp (.ref x :: vs) (upd (upd H1 dx (.own x)) x (.ins C dx [])) (fun v H2 => v = .non ∧ Q (.ref x) H2) E0
section
variable {X : Cx} {x m : Str} {k : Nat} {ps : List Str} {sp : Sp} {p pos apos : Pos} {o e : Expr} {es : List Expr} {ta : TE} {t : TA} {C : Addr}
theorem pe_mcl {pl : Sem Bool} (he : PE X o ta) (c : ClM X.prog X.w X.K X.mg X.base C m k ps sp) (hr : Room k X.A) (ha : PA X (e :: es) t)
    (hst : starEach (e :: es) X.env = (false, eval e X.env) :: starEach es X.env := by rfl) (hpl : (backTo pos (starEach es X.env)).any (·.1) = false := by rfl)
    (ht : eval (.Call (.Attribute o m apos) (e :: es) [] pos) X.env = (do
      let ov ← eval o X.env; standAt apos.atName; let (f, first) ← holding [ov] (getMethod ov m pl)
      callWith pos f first (backTo pos (starEach (e :: es) X.env)) (backToKw pos (keywordEach [] X.env))) := by rfl) : PE X (.Call (.Attribute o m apos) (e :: es) [] pos) (tMcl C m sp ta t) := by
  obtain ⟨f, fd, cl, hm, F, b⟩ := c
  have h := pe_meth (E := E0) (pos := pos) (apos := apos) (pl := pl) he cl hm F hr b .nil pass0 ha hst hpl ht
  have e1 : tMeth C m sp [] E0 ta t = tMcl C m sp ta t := by
    funext σ H Q
    unfold tMeth tMcl
    simp only [List.append_nil]
  rw [e1] at h
  exact h
theorem pe_mk (c : ClK X.prog X.w X.K X.mg X.base x C k ps sp) (hr : Room (k + 1) X.A) (hg : Gl X x) (ha : PA X (e :: es) t) (hdb : (x == ("__debug__" : Str)) = false := by decide)
    (he : starEach (e :: es) X.env = (false, eval e X.env) :: starEach es X.env := by rfl) (hpl : (backTo pos (starEach es X.env)).any (·.1) = false := by rfl) : PE X (.Call (.Name x p) (e :: es) [] pos) (tMk C sp t) := by
  obtain ⟨f, fd, M, F, b, m⟩ := c
  have h := pe_make (E := E0) (pos := pos) (p := p) M F hr hg m b .nil pass0 ha hdb he hpl
  have e1 : tMake C sp [] E0 t = tMk C sp t := by
    funext σ H Q
    unfold tMake tMk
    simp only [List.append_nil]
  rw [e1] at h
  exact h
end
section
variable {X : Cx} {K : PySem.W.Frag}
end
noncomputable def tSf (C : Addr) (f : Str) (ta : TE) : TE := fun σ H Q => ta σ H fun x H1 => ExQ Q (fun a Q => ExQ Q (fun dx Q => ExQ Q (fun fs Q => ExQ Q (fun v Q => x = .ref a ∧ H1 a = some (.ins C dx fs) ∧ fs.lookup f = some v ∧ Q v H1))))
noncomputable def sSf (C : Addr) (f : Str) (ta tv : TE) : TS := fun D σ H => tv σ H fun y H1 => ta σ H1 fun x H2 => ExQ D (fun a D => ExQ D (fun dx D => ExQ D (fun fs D => x = .ref a ∧ H2 a = some (.ins C dx fs) ∧ fs.length < 1000 ∧ D.nx σ (upd H2 a (.ins C dx (putF f y fs))))))
section
variable {X : Cx} {o e value : Expr} {f : Str} {pos pos' tpos : Pos} {ta tv : TE} {C : Addr}
theorem pe_sf (c : Cls X.K C) (n : NoAttr X.K C f) (he : PE X e ta) (hb : attributeBase e f X.env (eval e X.env) = eval e X.env := by rfl) : PE X (.Attribute e f pos) (tSf C f ta) := by
  intro pins s σ H Q I h
  refine attr_of hb (thn (he pins s σ H _ I h) fun u s1 ⟨x, H1, I1, rx, a, dx, fs, v, ex, ea, l, q⟩ => ?_); subst ex; obtain rfl : u = Value.ref a := rx
  exact getattr_ok I1 ea c n l fun u s2 I2 ru => ⟨v, H1, I2, ru, q⟩
theorem ps_sf (c : Cls X.K C) (n : NoAttr X.K C f) (ha : PE X o ta) (hv : PE X value tv) (hs : swapsWith value (some (.Attribute o f pos')) pos.line X.env = pure false := by rfl) : PS X (.Assign [.Attribute o f pos'] value pos) (sSf C f ta tv) := by
  intro pins s σ H D I h
  refine plainObj_wpAny_Assign_Attribute (thn (hv pins s σ H _ I h) fun u s1 hpat => ?_) hs
  obtain ⟨y, H1, I1, ry, q⟩ := hpat
  refine thn (ha pins s1 σ H1 _ I1 q) fun ov s2 hpat => ?_
  obtain ⟨x, H2, I2, rx, a, dx, fs, ex, ea, l, q2⟩ := hpat
  subst ex; obtain rfl : ov = Value.ref a := rx
  exact setattr_ok I2 ea c n l ry fun s3 I3 => ⟨σ, _, I3, q2⟩
end
end L2
set_option Elab.async false
set_option linter.all false
set_option maxRecDepth 100000
set_option maxHeartbeats 4000000
namespace L2
open PySem PySem.Spec PyProof.Rows
section
variable {X : Cx}
end
end L2
set_option Elab.async false
set_option linter.all false
set_option maxRecDepth 100000
set_option maxHeartbeats 4000000
namespace L2
open PySem PySem.Spec PyProof.Rows
section
variable {X : Cx} {pins : List (Addr × Obj)} {σ : List (Option V)} {H : Hp} {s : Shared}
end
end L2
set_option Elab.async false
set_option linter.all false
set_option maxRecDepth 100000
set_option maxHeartbeats 4000000
namespace L2
open PySem PySem.Spec PyProof.Rows
section
variable {X : Cx}
end
end L2
set_option Elab.async false
set_option linter.all false
set_option maxRecDepth 100000
set_option maxHeartbeats 4000000
namespace L2
open PySem PySem.Spec PyProof.Rows
noncomputable def Itz (K : PySem.W.Frag) (a b : Addr) : It :=
  ⟨fun i H => ∃ xs ys x y, SqL K H a xs ∧ SqL K H b ys ∧ xs[i]? = some x ∧ ys[i]? = some y, fun i H x H' => ∃ t, H t = none ∧ x = .ref t ∧ ∀ xs ys, SqL K H a xs → SqL K H b ys → ∃ v u, xs[i]? = some v ∧ ys[i]? = some u ∧ H' = upd H t (.tup [v, u]), fun i H => ∃ xs ys, SqL K H a xs ∧ SqL K H b ys ∧ (xs.length ≤ i ∨ ys.length ≤ i)⟩
theorem turn_zip {P : Program} {w : World} {K : PySem.W.Frag} {es : List Expr} {k : Nat} {pos : Pos} {z TI TO i1 i2 a b : Addr} (D : ZipApart z TI TO i1 i2 a b) :
    Turn P w K (.Tuple es k pos) (Itz K a b) [z, TI, TO, i1, i2] z (fun i h => IsZip h z TI TO .none ∧ IsPair h TI (.ref i1) (.ref i2) ∧ (∃ x y, IsPair h TO x y) ∧ h.IsListIter i1 a i ∧ h.IsListIter i2 b i) where
  mem := by simp
  obj := fun i h st c hc => by
    obtain ⟨st1, st2, ⟨x, y, st3⟩, ⟨o4, e4, c4, d4⟩, ⟨o5, e5, c5, d5⟩⟩ := st
    simp only [List.mem_cons, List.not_mem_nil, or_false] at hc
    rcases hc with rfl | rfl | rfl | rfl | rfl
    · exact ⟨_, st1, fun v z => by cases z⟩
    · exact ⟨_, st2, fun v z => by cases z⟩
    · exact ⟨_, st3, fun v z => by cases z⟩
    · exact ⟨o4, e4, fun v z => by rw [d4] at z; cases z⟩
    · exact ⟨o5, e5, fun v z => by rw [d5] at z; cases z⟩
  keep := fun i h h' st kp => ⟨kp z (by simp) _ st.1, kp TI (by simp) _ st.2.1, let ⟨x, y, q⟩ := st.2.2.1; ⟨x, y, kp TO (by simp) _ q⟩, st.2.2.2.1.at fun o q => kp i1 (by simp) o q, st.2.2.2.2.at fun o q => kp i2 (by simp) o q⟩
  item := by
    intro X hP hw hK hc i pins s σ H E I hf st hg
    subst hP hw hK
    obtain ⟨xs, ys, x, y, hq, hq2, hx, hy⟩ := hg
    obtain ⟨its, rv, p, hz⟩ := I.list hq
    obtain ⟨its2, rv2, p2, hz2⟩ := I.list hq2
    obtain ⟨u, hu, ru⟩ := rv.get hx
    obtain ⟨u2, hu2, ru2⟩ := rv2.get hy
    obtain ⟨st1, st2, ⟨a1, b1, st3⟩, st4, st5⟩ := st
    refine wpAny_pyNext_zip_item D st1 st2 st3 st4 st5 p.isList p2.isList (x := u) (y := u2) (by simpa using hu) (by simpa using hu2) fun h1 o1 to1 m1 m2 t1 z1 k1 => ?_
    refine ⟨_, rfl, wpAny_letOwnedTupleGo_zip o1 fun h2 o2 b2 => ?_⟩
    have hnew : H s.heap.objs.size = none := I.fresh
    have ltz : z < s.heap.objs.size := Heap.lt_size st1
    have k2 : ∀ c o, c ≠ z → c ≠ TO → c ≠ i1 → c ≠ i2 → s.heap.get? c = some o → h2.get? c = some o := fun c o c1 c2 c3 c4 q => b2.extBut c o c1 (k1 c o c1 c2 c3 c4 q)
    have t2 : h2.get? s.heap.objs.size = some { cls := .type "tuple", data := .seq #[u, u2] } := b2.extBut _ _ (Nat.ne_of_gt ltz) t1
    have fz := hf z (by simp)
    have fTI := hf TI (by simp)
    have fTO := hf TO (by simp)
    have f1 := hf i1 (by simp)
    have f2 := hf i2 (by simp)
    have nch : ∀ c o, H c = some o → c ≠ z ∧ c ≠ TO ∧ c ≠ i1 ∧ c ≠ i2 := fun c o q => ⟨fun e => by (rw [e, fz.1] at q; cases q), fun e => by (rw [e, fTO.1] at q; cases q), fun e => by (rw [e, f1.1] at q; cases q), fun e => by (rw [e, f2.1] at q; cases q)⟩
    have kc : ∀ c o, ¬ c ∈ [z, TO, i1, i2] → s.heap.get? c = some o → h2.get? c = some o := fun c o hc q => k2 c o (fun e => hc (by simp [e])) (fun e => hc (by simp [e])) (fun e => hc (by simp [e])) (fun e => hc (by simp [e])) q
    have I2 : Inv X pins σ (upd H s.heap.objs.size (.tup [x, y])) { s with heap := h2, gens := s.gens, drawn := s.drawn, toks := s.toks } := by
      refine I.step (ch := [z, TO, i1, i2]) (fun c hc => ?_) (fun c o _ _ hc q _ => kc c o hc q) (fun c o _ _ hc q _ => ⟨o.slots, kc c o hc q⟩)
        (fun c o _ q n => by rw [upd_ne (Nat.ne_of_lt (Heap.lt_size q))]; exact n) (fun c o hc q => ⟨o, kc c o hc q⟩)
        (fun c zs q => by rw [upd_ne (ne_of_none q hnew)]; exact q) (fun c o v q => by rw [upd_ne (ne_of_none q hnew)]; exact q) (fun c ps q => ⟨#[], by rw [upd_ne (ne_of_none q hnew), q]; simp⟩) (fun m hm => ?_) (fun c o q => ?_) I.bare
      · simp only [List.mem_cons, List.not_mem_nil, or_false] at hc
        rcases hc with rfl | rfl | rfl | rfl
        · exact ⟨fz.2.2.2.1, fz.2.1, fz.2.2.2.2.1, fz.2.2.2.2.2⟩
        · exact ⟨fTO.2.2.2.1, fTO.2.1, fTO.2.2.2.2.1, fTO.2.2.2.2.2⟩
        · exact ⟨f1.2.2.2.1, f1.2.1, f1.2.2.2.2.1, f1.2.2.2.2.2⟩
        · exact ⟨f2.2.2.2.1, f2.2.1, f2.2.2.2.2.1, f2.2.2.2.2.2⟩
      · obtain ⟨o, es', ep, ho, r⟩ := hm
        exact ⟨o, es', ep, k2 _ o (Ne.symm fz.2.1) (Ne.symm fTO.2.1) (Ne.symm f1.2.1) (Ne.symm f2.2.1) ho, r⟩
      · by_cases hb : c = s.heap.objs.size
        · subst hb
          rw [upd_same] at q
          cases q
          exact ⟨by show 2 ≤ sizeLine; decide, [u, u2], .cons ru (.cons ru2 .nil), _, t2, rfl, _, rfl⟩
        · rw [upd_ne hb] at q
          refine (I.hok c o q).stay (fun d v hd e => ?_) (fun d e => by rw [upd_ne (ne_of_none e hnew)]; exact e) fun d zs e => by rw [upd_ne (ne_of_none e hnew)]; exact e
          have nd : d ≠ z ∧ d ≠ TO ∧ d ≠ i1 ∧ d ≠ i2 := by
            rcases hd with z' | z'
            · rw [z']; exact nch c o q
            · exact nch d _ z'
          exact k2 d v nd.1 nd.2.1 nd.2.2.1 nd.2.2.2 e
    refine ⟨.ref s.heap.objs.size, _, I2, rfl, ⟨_, hnew, rfl, fun xs' ys' hy1 hy2 => ⟨x, y, by rw [I.list_inj hy1 hq]; exact hx, by rw [I.list_inj hy2 hq2]; exact hy, rfl⟩⟩, ⟨o2, b2.extBut _ _ D.TIz (k1 _ _ D.TIz D.TITO D.TIi1 D.TIi2 st2), ⟨_, _, b2.extBut _ _ D.TOz to1⟩, m1.extBut b2.extBut D.i1z, m2.extBut b2.extBut D.i2z⟩, fun c hc => ?_⟩
    obtain ⟨oc, ec⟩ : ∃ oc, s.heap.get? c = some oc := by
      obtain ⟨o4, e4, _⟩ := st4
      obtain ⟨o5, e5, _⟩ := st5
      simp only [List.mem_cons, List.not_mem_nil, or_false] at hc
      rcases hc with rfl | rfl | rfl | rfl | rfl
      · exact ⟨_, st1⟩
      · exact ⟨_, st2⟩
      · exact ⟨_, st3⟩
      · exact ⟨_, e4⟩
      · exact ⟨_, e5⟩
    rw [upd_ne (Nat.ne_of_lt (Heap.lt_size ec))]; exact (hf c hc).1
  done := by
    intro X hP hw hK hc i pins s σ H E I hf st hg
    subst hP hw hK
    obtain ⟨xs, ys, hq, hq2, hx⟩ := hg
    obtain ⟨its, rv, p, hz⟩ := I.list hq
    obtain ⟨its2, rv2, p2, hz2⟩ := I.list hq2
    obtain ⟨st1, st2, ⟨a1, b1, st3⟩, st4, st5⟩ := st
    have hl := rv.length
    have hl2 := rv2.length
    have fz := hf z (by simp)
    have fTO := hf TO (by simp)
    have f1 := hf i1 (by simp)
    have f2 := hf i2 (by simp)
    refine wpAny_pyNext_zip_end (I.ok.hd hc) D st1 st2 st3 st4 st5 p.isList p2.isList ?_ fun h' eb => ⟨rfl, ?_⟩
    · rcases hx with e | e
      · exact .inl (by simp; omega)
      · exact .inr (by simp; omega)
    · have nch : ∀ c o, H c = some o → c ≠ z ∧ c ≠ TO ∧ c ≠ i1 ∧ c ≠ i2 := fun c o q => ⟨fun e => by (rw [e, fz.1] at q; cases q), fun e => by (rw [e, fTO.1] at q; cases q), fun e => by (rw [e, f1.1] at q; cases q), fun e => by (rw [e, f2.1] at q; cases q)⟩
      have kc : ∀ c o, ¬ c ∈ [z, TO, i1, i2] → s.heap.get? c = some o → h'.get? c = some o := fun c o hc q => eb c o (fun e => hc (by simp [e])) (fun e => hc (by simp [e])) (fun e => hc (by simp [e])) (fun e => hc (by simp [e])) q
      refine I.step (g' := s.gens) (d' := s.drawn) (t' := s.toks) (ch := [z, TO, i1, i2]) (fun c hc => ?_) (fun c o _ _ hc q _ => kc c o hc q) (fun c o _ _ hc q _ => ⟨o.slots, kc c o hc q⟩) (fun _ _ _ _ n => n) (fun c o hc q => ⟨o, kc c o hc q⟩)
        (fun _ _ e => e) (fun _ _ _ e => e) (fun c ps q => ⟨#[], by rw [q]; simp⟩) (fun m hm => ?_) (fun c o q => ?_) I.bare
      · simp only [List.mem_cons, List.not_mem_nil, or_false] at hc
        rcases hc with rfl | rfl | rfl | rfl
        · exact ⟨fz.2.2.2.1, fz.2.1, fz.2.2.2.2.1, fz.2.2.2.2.2⟩
        · exact ⟨fTO.2.2.2.1, fTO.2.1, fTO.2.2.2.2.1, fTO.2.2.2.2.2⟩
        · exact ⟨f1.2.2.2.1, f1.2.1, f1.2.2.2.2.1, f1.2.2.2.2.2⟩
        · exact ⟨f2.2.2.2.1, f2.2.1, f2.2.2.2.2.1, f2.2.2.2.2.2⟩
      · obtain ⟨o, es', ep, ho, r⟩ := hm
        exact ⟨o, es', ep, eb _ o (Ne.symm fz.2.1) (Ne.symm fTO.2.1) (Ne.symm f1.2.1) (Ne.symm f2.2.1) ho, r⟩
      · refine (I.hok c o q).stay (fun d v hd e => ?_) (fun d e => e) fun d zs e => e
        have nd : d ≠ z ∧ d ≠ TO ∧ d ≠ i1 ∧ d ≠ i2 := by
          rcases hd with z' | z'
          · rw [z']; exact nch c o q
          · exact nch d _ z'
        exact eb d v nd.1 nd.2.1 nd.2.2.1 nd.2.2.2 e
  self := fun A i s Q E st h => wpAny_pyIter_zip st.1 h
section
variable {X : Cx}
noncomputable def iZip (K : PySem.W.Frag) (ta : TA) : TI := fun σ H R => ta σ H fun vs H1 => ∃ a b, vs = [.ref a, .ref b] ∧ (∃ xs, SqL K H1 a xs) ∧ (∃ ys, SqL K H1 b ys) ∧ R (Itz K a b) H1
theorem pi_zip {es : List Expr} {k : Nat} {post : Pos} {a b : Expr} {ta : TA} {p pos : Pos} (hg : Gl X "zip") (hm : X.mg "zip" = none) (ha : PA X [a, b] ta) (hs : starEach [a, b] X.env = (false, eval a X.env) :: starEach [b] X.env := by rfl) (hz : ((backTo pos (starEach [b] X.env)).any fun x => x.fst) = false := by rfl) :
    PI X (.Tuple es k post) (.Call (.Name "zip" p) [a, b] [] pos) (iZip X.K ta) := by
  intro pins s σ H R I h
  refine Call_ (ld_blt I hg hm PyProof.Rows.boot_zip (PyProof.Rows.callWith_type1 (thn (ha pos pins s σ H _ I h) fun us s1 ⟨vs, H1, I1, r1, q1⟩ => ?_) hs hz))
  obtain ⟨l1, l2, rfl, ⟨xs, hq⟩, ⟨ys, hq2⟩, q⟩ := q1
  obtain ⟨u, u2, rfl, ru, ru2⟩ := r1.two
  cases ru
  cases ru2
  obtain ⟨its, rv, pl, hz⟩ := I1.list hq
  obtain ⟨its2, rv2, pl2, hz2⟩ := I1.list hq2
  have lt1 : l1 < s1.heap.objs.size := by obtain ⟨_, e, _⟩ := pl.isList; exact Heap.lt_size e
  have lt2 : l2 < s1.heap.objs.size := by obtain ⟨_, e, _⟩ := pl2.isList; exact Heap.lt_size e
  refine call_zip_2 pl.isList pl2.isList fun h' c1 c2 c3 c4 c5 sz kp => ?_
  have D := PyProof.Rows.zipApart_new lt1 lt2
  have T := turn_zip (P := X.prog) (w := X.w) (K := X.K) (es := es) (k := k) (pos := post) D
  have I2 : Inv X pins σ H1 { s1 with heap := h' } := I1.kept (t' := s1.toks) kp
  refine T.self X.A 0 { s1 with heap := h' } _ _ ⟨c1, c2, ⟨_, _, c3⟩, c4, c5⟩ ?_
  refine ⟨_, _, _, _, H1, rfl, I2, T, ⟨c1, c2, ⟨_, _, c3⟩, c4, c5⟩, fun c hc => ?_, q⟩
  have hn : s1.heap.objs.size ≤ c := by
    simp only [List.mem_cons, List.not_mem_nil, or_false] at hc
    rcases hc with e | e | e | e | e <;> rw [e]
    · exact Nat.le_add_right _ _
    · exact Nat.le_add_right _ _
    · exact Nat.le_add_right _ _
    · exact Nat.le_refl _
    · exact Nat.le_add_right _ _
  exact I1.fpOk hn (I1.hok.fresh hn)
end
section
variable {X : Cx}
end
section
variable {prog : Program} {w : World} {A : Around} {E : Value → Shared → Prop} {s : Shared}
end
section
variable {X : Cx} {pos : Pos}
end
end L2
set_option Elab.async false
set_option linter.all false
set_option maxRecDepth 100000
set_option maxHeartbeats 4000000
namespace L2
open PySem PySem.Spec PyProof.Rows
section
variable {X : Cx}
end
end L2
set_option Elab.async false
set_option linter.all false
set_option maxRecDepth 100000
set_option maxHeartbeats 4000000
namespace L2
open PySem PySem.Spec PyProof.Rows
section
variable {X : Cx}
end
end L2
set_option Elab.async false
set_option linter.all false
set_option maxRecDepth 100000
set_option maxHeartbeats 4000000
namespace L2
open PySem PySem.Spec PyProof.Rows
section
variable {X : Cx} {tg : Expr}
end
end L2
set_option Elab.async false
set_option linter.all false
set_option maxRecDepth 100000
set_option maxHeartbeats 4000000
namespace L2
open PySem PySem.Spec PyProof.Rows
section
variable {X : Cx} {o e : Expr} {apos cpos : Pos} {td ty : TE}
end
section
variable {X : Cx} {tg : Expr}
end
end L2
set_option Elab.async false
set_option linter.all false
set_option maxRecDepth 100000
set_option maxHeartbeats 4000000
namespace L2
open PySem PySem.Spec PyProof.Rows
section
variable {prog : Program} {w : World} {A : Around} {E : Value → Shared → Prop} {s : Shared}
end
end L2
set_option Elab.async false
set_option linter.all false
set_option maxRecDepth 100000
set_option maxHeartbeats 4000000
namespace L2
open PySem PySem.Spec PyProof.Rows
section
variable {prog : Program} {w : World} {A : Around} {E : Value → Shared → Prop} {s : Shared}
end
end L2
set_option Elab.async false
set_option linter.all false
set_option maxRecDepth 100000
set_option maxHeartbeats 4000000
namespace L2
open PySem PySem.Spec PyProof.Rows
section
variable {M : Model} {A : Around} {E : Value → Shared → Prop} {s : Shared}
end
section
variable {X : Cx}
end
end L2
set_option Elab.async false
set_option linter.all false
set_option maxRecDepth 100000
set_option maxHeartbeats 4000000
namespace L2
open PySem PySem.Spec PyProof.Rows
structure Sub (P : Program) (w : World) (it : Addr) (src : List Addr) (St : Nat → Heap → Prop) (Vl : Nat → Value → Prop) (n : Nat) : Prop where
  keep : ∀ k h h', St k h → (∀ b, (b = it ∨ b ∈ src) → ∀ o, h.get? b = some o → h'.get? b = some o) → St k h'
  obj : ∀ k h, St k h → ∃ o, h.get? it = some o ∧ ∀ v, o.data ≠ .cell v
  item : ∀ (A : Around) (E : Value → Shared → Prop) (s : Shared) (Q : Value → Shared → Prop) (k : Nat), St k s.heap → k < n → (∀ g x tk, Vl k x → St (k + 1) g → Heap.SameBut it s.heap g → Q x { s with heap := g, toks := tk }) → wpAny (model P w) A (Builtin.SmallTypes.nextOf (.ref it)) Q E s
  stop : ∀ (A : Around) (E : Value → Shared → Prop) (s : Shared) (Q : Value → Shared → Prop) (k : Nat), A.handled = none → St k s.heap → n ≤ k → (∀ g e, Heap.ExtBut it s.heap g → (∃ o, g.get? e = some o ∧ o.cls = .type "StopIteration") → E (.ref e) { s with heap := g }) → wpAny (model P w) A (Builtin.SmallTypes.nextOf (.ref it)) Q E s
structure Apart (z TI TO i1 i2 : Addr) (s1 s2 : List Addr) : Prop where
  TIz : TI ≠ z
  TOz : TO ≠ z
  i1z : i1 ≠ z
  i2z : i2 ≠ z
  TITO : TI ≠ TO
  TIi1 : TI ≠ i1
  TIi2 : TI ≠ i2
  TOi1 : TO ≠ i1
  TOi2 : TO ≠ i2
  i12 : i1 ≠ i2
  a1 : ∀ b ∈ s1, b ≠ z ∧ b ≠ TO ∧ b ≠ i1 ∧ b ≠ i2
  a2 : ∀ b ∈ s2, b ≠ z ∧ b ≠ TO ∧ b ≠ i1 ∧ b ≠ i2
section
variable {prog : Program} {w : World} {A : Around} {E : Value → Shared → Prop} {s : Shared} {z TI TO i1 i2 : Addr} {s1 s2 : List Addr} {St1 St2 : Nat → Heap → Prop} {V1 V2 : Nat → Value → Prop} {n1 n2 k : Nat}
end
end L2
set_option Elab.async false
set_option linter.all false
set_option maxRecDepth 100000
set_option maxHeartbeats 4000000
namespace L2
open PySem PySem.Spec PyProof.Rows
structure Src where
  rd : PySem.W.Frag → Hp → List V → Prop
  itr : Heap → Addr → Nat → Prop
  src : List Addr
structure SrcOk (S : Src) : Prop where
  keepI : ∀ h h' it k, S.itr h it k → (∀ o, h.get? it = some o → h'.get? it = some o) → S.itr h' it k
  objI : ∀ h it k, S.itr h it k → ∃ o, h.get? it = some o ∧ ∀ v, o.data ≠ .cell v
  inj : ∀ (X : Cx) pins σ H s xs ys, Inv X pins σ H s → S.rd X.K H xs → S.rd X.K H ys → xs = ys
  sub : ∀ (X : Cx) pins σ H s xs it, Inv X pins σ H s → S.rd X.K H xs → (∀ b ∈ S.src, b ≠ it) → ∃ (St : Nat → Heap → Prop) (Vl : Nat → Value → Prop), Sub X.prog X.w it S.src St Vl xs.length ∧ (∀ k, S.itr s.heap it k → St k s.heap) ∧ (∀ k h, St k h → S.itr h it k) ∧ ∀ k v u, xs[k]? = some u → Vl k v → RelV u v
end L2
set_option Elab.async false
set_option linter.all false
set_option maxRecDepth 100000
set_option maxHeartbeats 4000000
namespace L2
open PySem PySem.Spec PyProof.Rows
section
variable {prog : Program} {w : World} {A : Around} {E : Value → Shared → Prop} {s : Shared}
end
end L2
set_option Elab.async false
set_option linter.all false
set_option maxRecDepth 100000
set_option maxHeartbeats 4000000
namespace L2
open PySem PySem.Spec PyProof.Rows
section
variable {X : Cx}
end
end L2
set_option Elab.async false
set_option linter.all false
set_option maxRecDepth 100000
set_option maxHeartbeats 4000000
namespace L2
open PySem PySem.Spec PyProof.Rows
section
variable {X : Cx}
end
end L2
set_option Elab.async false
set_option linter.all false
set_option maxRecDepth 100000
set_option maxHeartbeats 4000000
namespace L2
open PySem PySem.Spec PyProof.Rows
section
variable {X : Cx}
end
end L2
set_option Elab.async false
set_option linter.all false
set_option maxRecDepth 100000
set_option maxHeartbeats 4000000
namespace L2
open PySem PySem.Spec PyProof.Rows
section
variable {M : Model} {A : Around} {E : Value → Shared → Prop} {s : Shared} {base : Heap} {env : Env} {outer l : List Env} {L e : Addr} {c fl : Value} {od : Option Addr} {lo : Nat} {Q : Unit → Shared → Prop}
theorem xf_set (fr : Option Addr) (hx : XFly lo base l e c od fl s.heap) (h : ∀ h', XFly lo base l e c od (fr.elim Value.none fun f => rawInt f) h' → s.heap.UpToSlots h' → Q () { s with heap := h' }) : wpAny M A (setFlight (.ref e) fr) Q E s := by
  obtain ⟨hkb, hen, hl, vs, sl, T, oT, ts, he, h1, hnT, hTe, hT, hdT, h3, hloT⟩ := hx
  have hsz3 : 3 < ts.size := (Array.getElem?_eq_some_iff.mp h3).1
  have other : ∀ b, b ≠ T → (s.heap.update T (Obj.mapFields (·.setIfInBounds 3 (fr.elim Value.none fun f => rawInt f)))).get? b = s.heap.get? b :=
    fun b hb => Heap.get?_update_other _ _ (Ne.symm hb)
  have noRecord : ∀ b o, s.heap.get? b = some o → (∀ vs, o.data ≠ .fields vs) → b ≠ T := fun b o hb hnf q => by
    rw [q, hT] at hb; injection hb with hb; subst hb; exact hnf ts hdT
  unfold setFlight
  refine wpAny_bind (wpAny_field he rfl h1 ?_)
  rw [if_pos (show (Value.ref T != Value.none) = true from by simp)]
  refine wpAny_setField hT hdT hsz3 (h _ ⟨fun b o hbo => (other b fun q => by rw [q, hnT] at hbo; cases hbo).trans (hkb b o hbo), hen,
    hl.of_keeps fun b o hb hnf => ⟨o, (other b (noRecord b o hb hnf)).trans hb, rfl⟩, vs, sl, T, _, _, (other e (Ne.symm hTe)).trans he, h1, hnT, hTe, Heap.get?_update_self _ hT (Obj.isFreed_of_fields (Obj.data_mapFields hdT _)), Obj.data_mapFields hdT _, by simp [hsz3], hloT⟩
    fun b o hb hnf => ⟨o.slots, (other b (noRecord b o hb hnf)).trans hb⟩)
end
end L2
set_option Elab.async false
set_option linter.all false
set_option maxRecDepth 100000
set_option maxHeartbeats 4000000
namespace L2
open PySem PySem.Spec PyProof.Rows

noncomputable def Flies (X : Cx) (pins : List (Addr × Obj)) (σ : St) (H : Hp) (s : Shared) (a C dx : Addr) (fl : Value) : Prop :=
  Inv X pins σ H s ∧ X.s₀.heap.objs.size ≤ a ∧ H a = some (XHad a C (some dx)) ∧ ∃ T vs sl oT ts, s.heap.get? a = some ⟨.ref C, some dx, .fields vs, sl⟩ ∧ vs[1]? = some (.ref T) ∧ T ≠ a ∧ s.heap.get? T = some oT ∧ oT.data = .fields ts ∧ ts[3]? = some fl ∧
    X.s₀.heap.objs.size ≤ T ∧ H T = none ∧ T ≠ X.env.locals ∧ (∀ x c, X.env.cells.lookup x = some c → c ≠ T) ∧ ∀ p ∈ X.pn ++ pins, p.1 ≠ T
section
variable {X : Cx} {pins : List (Addr × Obj)} {σ : St} {H : Hp} {s : Shared} {a C dx : Addr} {fl : Value}
theorem Flies.go {fl' : Value} {Q : Unit → Shared → Prop} {M : Model} {A : Around} {E : Value → Shared → Prop} {act : Sem Unit} (F : Flies X pins σ H s a C dx fl)
    (hact : ∀ lo base, XFly lo base X.stack a (.ref C) (some dx) fl s.heap → (∀ h', XFly lo base X.stack a (.ref C) (some dx) fl' h' → s.heap.UpToSlots h' → Q () { s with heap := h' }) → wpAny M A act Q E s)
    (h : ∀ h', Flies X pins σ H { s with heap := h' } a C dx fl' → Q () { s with heap := h' }) : wpAny M A act Q E s := by
  obtain ⟨I, hza, ea, T, vs, sl, oT, ts, g1, g2, g4, g5, g6, g7, hlo, hT, hTL, hTc, hTp⟩ := F
  have fly : XFly X.s₀.heap.objs.size (PySem.W.hideAll s.heap (a :: T :: frs X.stack)) X.stack a (.ref C) (some dx) fl s.heap :=
    ⟨fun b o e => PySem.W.of_hideAll _ e, PySem.W.hideAll_none _ (.head _), PySem.W.funFrames_hide I.stack fun env he b hb => .tail _ (.tail _ (List.mem_filterMap.mpr ⟨env, he, hb⟩)),
      vs, sl, T, oT, ts, g1, g2, PySem.W.hideAll_none _ (.tail _ (.head _)), g4, g5, g6, g7, hlo⟩
  refine hact _ _ fly fun h' fly' up => h h' ?_
  have I' : Inv X pins σ H { s with heap := h', toks := s.toks } := inv_fly I ea hT hlo hTL hTc hTp fly' up
  obtain ⟨_, _, _, vs4, sl4, T4, oT4, ts4, k1, k2, k3, k4, k5, k6, k7, k8⟩ := fly'
  have nf : T4 ∉ frs X.stack := fun m => by
    obtain ⟨_, o', e', hd⟩ := I'.stack.mem m
    have e' : h'.get? T4 = some o' := e'
    rw [k5] at e'; cases e'
    exact hd _ k6
  have alt : T4 = T ∨ s.heap.get? T4 = none := by
    cases q : s.heap.get? T4 with
    | none => exact .inr rfl
    | some o =>
      have : T4 ∈ a :: T :: frs X.stack := Classical.byContradiction fun z => by rw [PySem.W.hideAll_get _ q z] at k3; cases k3
      rcases List.mem_cons.mp this with z | z
      · exact absurd z k4
      · rcases List.mem_cons.mp z with z | z
        · exact .inl z
        · exact absurd z nf
  refine ⟨I', hza, ea, T4, vs4, sl4, oT4, ts4, k1, k2, k4, k5, k6, k7, k8, ?_, ?_, ?_, ?_⟩
  · rcases alt with rfl | q
    · exact hT
    · cases r : H T4 with
      | none => rfl
      | some u =>
        obtain ⟨o, e⟩ := (I.hok T4 u r).has
        rw [q] at e; cases e
  · rcases alt with rfl | q
    · exact hTL
    · intro z
      obtain ⟨m, ⟨o, _, _, ho, _⟩, _⟩ := I.loc
      rw [← z, q] at ho; cases ho
  · intro x c e
    rcases alt with rfl | q
    · exact hTc x c e
    · intro z
      obtain ⟨v, o, ho, _⟩ := I.cell x c e
      rw [z, q] at ho; cases ho
  · intro p hp
    rcases alt with rfl | q
    · exact hTp p hp
    · intro z
      have := (I.pin p hp).1
      rw [z, q] at this; cases this
theorem Flies.set (fr : Option Addr) {Q : Unit → Shared → Prop} {M : Model} {A : Around} {E : Value → Shared → Prop} (F : Flies X pins σ H s a C dx fl)
    (h : ∀ h', Flies X pins σ H { s with heap := h' } a C dx (fr.elim Value.none fun f => rawInt f) → Q () { s with heap := h' }) : wpAny M A (setFlight (.ref a) fr) Q E s :=
  F.go (fun lo base fly k => xf_set fr fly k) h
end

section
variable {P : Program} {w : World} {K : PySem.W.Frag} {mg : Str → Option Value} {base : Heap} {N : List Str} {qual : Str} {scope : Scope} {fa : Addr} {cd : Value} {A : Around} {outer : List Env} {s₀ : Shared} {H₀ : Hp} {E : XK}
variable {x : Str} {k : Nat} {ps : List Str} {sp : Sp} {p pos : Pos} {e : Expr} {es : List Expr} {t : TA}
end

section
variable {X : Cx} {E : XK} {scope : Scope} {cl : List (Str × Addr)} {vars : List Str} {Cm : Addr} {sm : Shared} {Hm : Hp} {fp : List Addr} {pm pins : List (Addr × Obj)} {σ : St} {H : Hp} {s : Shared} {a C dx : Addr} {fl : Value}
variable {x : Str} {k : Nat} {ps : List Str} {sp : Sp} {p pos : Pos} {e : Expr} {es : List Expr} {t : TA}
theorem Flies.up {pd : List (Addr × Obj)} {σ' : St} {h' : Heap} (I : Inv X pd σ Hm sm) (f : ∀ b ∈ fp, FpOk X pd Hm b) (F : Flies (X.cmp scope cl vars sm.heap.objs.size sm Hm fp pd) pins σ' H s a C dx fl) (hs : Heap.SameBut sm.heap.objs.size s.heap h') :
    Flies X pd σ H { s with heap := h' } a C dx fl := by
  obtain ⟨J, hza, ea, T, vs, sl, oT, ts, g1, g2, g4, g5, g6, g7, hlo, hT, hTL, hTc, hTp⟩ := F
  have J0 : Inv (X.cmp scope cl vars sm.heap.objs.size sm Hm fp pd) [] σ' H s := Inv.unpinned (pins := []) (pl := pins) J
  have hza : sm.heap.objs.size ≤ a := hza
  have hlo : sm.heap.objs.size ≤ T := hlo
  have nC : a ≠ sm.heap.objs.size := fun z => by
    have := J.free
    have this : H sm.heap.objs.size = none := this
    rw [← z, ea] at this; cases this
  have nT : T ≠ sm.heap.objs.size := hTL
  refine ⟨inv_cmp_end I f J0 hs, Nat.le_trans I.sz hza, ea, T, vs, sl, oT, ts, (hs.2 a nC).trans g1, g2, g4, (hs.2 T nT).trans g5, g6, g7, Nat.le_trans I.sz hlo, hT, ?_, ?_, ?_⟩
  · exact Nat.ne_of_gt (Nat.lt_of_lt_of_le I.lt hlo)
  · intro y c e
    obtain ⟨v, o, ho, _⟩ := I.cell y c e
    exact Nat.ne_of_lt (Nat.lt_of_lt_of_le (Heap.lt_size ho) hlo)
  · exact fun p hp => Nat.ne_of_lt (Nat.lt_of_lt_of_le (Heap.lt_size (I.pin p hp).1) hlo)
end

section
variable {prog : Program} {w : World} {A : Around} {R : Result → Shared → Prop} {s : Shared}
end
end L2
set_option Elab.async false
set_option linter.all false
set_option maxRecDepth 100000
set_option maxHeartbeats 4000000
namespace L2
open PySem PySem.Spec PyProof.Rows
section
variable {X : Cx}
end
end L2
set_option Elab.async false
set_option linter.all false
set_option maxRecDepth 100000
set_option maxHeartbeats 4000000
namespace L2
open PySem PySem.Spec PyProof.Rows
section
variable {X : Cx} {o e : Expr} {apos cpos : Pos} {td ty : TE}
end
end L2
set_option Elab.async false
set_option linter.all false
set_option maxRecDepth 100000
set_option maxHeartbeats 4000000
namespace L2
open PySem PySem.Spec PyProof.Rows
section
variable {X : Cx}
variable {o e : Expr} {es : List Expr} {to : TE} {t : TA} {name : Str} {apos cpos : Pos} {T id : String} {r : V → List V → Hp → VK → Prop}
end
end L2
set_option Elab.async false
set_option linter.all false
set_option maxRecDepth 100000
set_option maxHeartbeats 4000000
namespace Srt
open PySem PyProof.Rows
theorem len_dict : typeLookup (.type "dict") "__len__" = pure (some (.builtin "dict.__len__")) := by rw [typeLookup_type, builtinLookup_eq_fast]; kernel_rfl
section
variable {prog : Program} {w : World} {A : Around} {s : Shared} {R : Result → Shared → Prop} {κ : Type} [DecidableEq κ] {knd : PySem.KeyKind prog w κ}
end
end Srt
set_option Elab.async false
set_option linter.all false
set_option maxRecDepth 100000
set_option maxHeartbeats 4000000
namespace Srt
open PySem PyProof.Rows
section
variable {prog : Program} {w : World} {A : Around} {E : Value → Shared → Prop} {s : Shared}
end
end Srt
set_option Elab.async false
set_option linter.all false
set_option maxRecDepth 100000
set_option maxHeartbeats 4000000
namespace Srt
open PySem PyProof.Rows
theorem list_no_keys : typeLookup (.type "list") "keys" = pure none := by rw [typeLookup_type, builtinLookup_eq_fast]; kernel_rfl
theorem plain_upd_loop : plainId "dict.update.loop" = true := by decide +kernel
theorem entry_upd_loop : entryFor table "dict.update.loop" = some Builtin.«dict.update.loop» := entryFor_of_fast (by kernel_rfl)
section
variable {prog : Program} {w : World} {A : Around} {E : Value → Shared → Prop} {s : Shared}
theorem keys_miss {a : Addr} {xs : Array Value} {k : Nat} {Q : Option Value → Shared → Prop} (hx : s.heap.get? a = some { cls := .type "list", data := .seq xs k }) (hA : A.handled = none)
    (h : ∀ h' tk, (∀ b o, s.heap.get? b = some o → h'.get? b = some o) → Q none { s with heap := h', toks := tk }) : wpAny (model prog w) A (getAttr? (.ref a) "keys") Q E s := by
  obtain ⟨hp, g, d, tk, os⟩ := s
  have hT : ∀ tk', (⟨hp, g, d, tk', os⟩ : Shared).TypeIs (.ref a) "list" := fun _ => ⟨_, hx, rfl⟩
  have f1 := sub_AttributeError
  have f3 := F.slot_list_getattribute.lookup
  have f4 := F.slot_list_getattribute.bind (.ref a)
  have f5 := am_list_getattr_none
  unfold getAttr? getAttrBy? getAttrBy
  repeat (any_goals (first | assumption | exact hT _ | ((with_reducible show wpAny _ _ (call (Value.builtin "list.__getattribute__") _ _) _ _ _); refine call_meets F.slot_list_getattribute (hT _) am_entry_list_getattribute (F.args_list_getattribute_2 _ _) (meets_getattribute_miss_list a xs k #[] "keys" _ list_no_keys (by decide) (by rw [sizeLine_eq]; decide)) ⟨hx, hA, fun h' tk' e hx' => ?_⟩) | wp_step))
  obtain ⟨t', u', he⟩ := hx'.there
  show wpAny _ _ (getattributeRaised _ _ _ _ _ _ _) _ _ _
  unfold getattributeRaised
  repeat (any_goals (first | assumption | wp_step))
  exact h _ _ hx'.keeps
structure Pr (κ : Type) where
  p : Addr
  k : κ
  key : Value
  v : Value
variable {κ : Type} [DecidableEq κ] {knd : PySem.KeyKind prog w κ} {ts : List (Pr κ)}
end
end Srt
set_option Elab.async false
set_option linter.all false
set_option maxRecDepth 100000
set_option maxHeartbeats 4000000
namespace L2
open PySem PySem.Spec PyProof.Rows
section
variable {prog : Program} {w : World} {A : Around} {E : Value → Shared → Prop} {s : Shared} {κ : Type} [DecidableEq κ] {knd : PySem.KeyKind prog w κ}
end
section
variable {X : Cx}
theorem Inv.new {pins : List (Addr × Obj)} {σ : St} {H : Hp} {s s' : Shared} {a : Addr} {o : HO} (I : Inv X pins σ H s) (k : ∀ b u, s.heap.get? b = some u → s'.heap.get? b = some u) (g : s'.gens = s.gens) (d : s'.drawn = s.drawn) (os : s'.os = s.os)
    (hp : s.heap.objs.size ≤ a) (new : ObjOk X.prog X.w (upd H a o) s'.heap a o) : Inv X pins σ (upd H a o) s' := by
  obtain ⟨h', g', d', t', o'⟩ := s'
  cases g
  cases d
  cases os
  exact I.laid (t' := t') k hp new
theorem KV.at_ {kvs : List (Key × V)} {vs : List (Key × Value)} (r : KV kvs vs) {i : Nat} {k : Key} {x : Value} (h : vs[i]? = some (k, x)) : ∃ v, kvs[i]? = some (k, v) ∧ RelV v x := by
  induction r generalizing i with
  | nil => simp at h
  | cons a _ ih =>
    cases i with
    | zero =>
      have h : some _ = some (k, x) := h
      cases h
      exact ⟨_, congrArg some (Prod.ext a.1 rfl), a.2⟩
    | succ i => exact ih h
theorem vals_refs : ∀ {as : List Addr} {us : List Value}, Vals (as.map V.ref) us → us = as.map Value.ref
  | [], _, .nil => rfl
  | a :: as, _, .cons r t => by rw [List.map_cons, vals_refs t]; cases r; rfl
theorem entry_setdefault : entryFor table "dict.setdefault" = some Builtin.«dict.setdefault» := entryFor_of_fast (by kernel_rfl)
end
end L2
set_option Elab.async false
set_option linter.all false
set_option maxRecDepth 100000
set_option maxHeartbeats 4000000
namespace L2
open PySem PySem.Spec PyProof.Rows
theorem KV.to {kvs : List (Key × V)} {vs : List (Key × Value)} (r : KV kvs vs) {i : Nat} {k : Key} {v : V} (h : kvs[i]? = some (k, v)) : ∃ x, vs[i]? = some (k, x) ∧ RelV v x := by
  induction r generalizing i with
  | nil => simp at h
  | cons a _ ih =>
    cases i with
    | zero =>
      have h : some _ = some (k, v) := h
      cases h
      exact ⟨_, congrArg some (Prod.ext a.1.symm rfl), a.2⟩
    | succ i => exact ih h
section
variable {X : Cx}
end
section
variable {X : Cx} {e : Expr} {te : TE} {lo hi : Option Expr} {st : Expr} {tl th tk : TO} {pos p2 : Pos}
end
end L2
set_option Elab.async false
set_option linter.all false
set_option maxRecDepth 100000
set_option maxHeartbeats 4000000
namespace L2
open PySem PySem.Spec PyProof.Rows
open AutoSeq1 (wpAny_loadPart')
section
variable {prog : Program} {w : World} {A : Around} {E : Value → Shared → Prop} {s : Shared}
end
section
variable {X : Cx}
end
end L2
set_option Elab.async false
set_option linter.all false
set_option maxRecDepth 100000
set_option maxHeartbeats 4000000
namespace L2
open PySem PySem.Spec PyProof.Rows
section
variable {X : Cx}
end
end L2
set_option Elab.async false
set_option linter.all false
set_option maxRecDepth 100000
set_option maxHeartbeats 4000000
namespace Srt
open PySem PyProof.Rows
theorem len_lri : typeLookup (.type "list_reverseiterator") "__len__" = pure none := by rw [typeLookup_type, builtinLookup_eq_fast]; kernel_rfl
theorem hint_lri : typeLookup (.type "list_reverseiterator") "__length_hint__" = pure (some (.builtin "list_reverseiterator.__length_hint__")) := by rw [typeLookup_type, builtinLookup_eq_fast]; kernel_rfl
section
variable {prog : Program} {w : World} {A : Around} {s : Shared} {R : Result → Shared → Prop}
theorem extend_rev (S l I : Addr) (res : Value) (c₀ : Nat) {items : Array Value} (hh : A.handled = none) (hSI : I ≠ S) (hSl : l ≠ S) (hIl : l ≠ I)
    (hS : s.heap.get? S = some { cls := .type "list", data := .seq #[] c₀ }) (hI : s.heap.IsRevIter I l ((items.size : Int) - 1)) (hl : s.heap.IsList l items) (hn : items.size ≤ sizeLine)
    (hR : ∀ s' acc c', (∀ b o, b ≠ S → b ≠ I → s.heap.get? b = some o → s'.heap.get? b = some o) → s'.gens = s.gens → s'.drawn = s.drawn → s'.os = s.os →
      s'.heap.get? S = some { cls := .type "list", dict := none, data := .seq acc c', slots := #[] } → ItemsOf (fun i v => items[items.size - 1 - i]? = some v) acc items.size → R (.ok (.ret res)) s') :
    wpAny (model prog w) A.in1 (Builtin.List.listExtendWith (.ref S) (.ref I) res)
      (fun fin s' => match fin with | .done f => R (.ok f) s' | .again c' => c'.quiet = true ∧ codeAny (model prog w) A c' R s') (fun e s' => R (.error e) s') s := by
  have hT := hI.typeIs
  unfold Builtin.List.listExtendWith
  refine wpAny_bind (wpAny_typeOf hT ?_)
  have h1 : Builtin.List.listSameRef (.ref S) (.ref I) = false := by simp [Builtin.List.listSameRef, Ne.symm hSI]
  rw [if_neg (by rw [h1]; decide)]
  refine wpAny_bind (wpAny_pyIter_revIter hI ?_)
  refine wpAny_bind (wpAny_holding ?_)
  unfold Builtin.List.listLengthHint
  refine wpAny_bind (wpAny_specialOf hT len_lri ?_)
  show wpAny _ A.in1 (specialOf (Value.ref I) (Str.ofString "__length_hint__") >>= _) _ _ _
  refine wpAny_bind (wpAny_specialOf hT hint_lri ?_)
  (generalize hid : ("list_reverseiterator.__length_hint__" : String) = id0; (fail_if_success (clear hid id0)); wp_delta; rw [show splitId id0 = some ("list_reverseiterator", "__length_hint__") from by subst hid; decide +kernel]; subst hid)
  refine wpAny_bind (wpAny_isInstance (b := true) hT (by rw [isSubtype_type]; kernel_rfl) ?_)
  refine wpAny_pure ?_
  show wpAny _ A.in1 (again (.builtin "list.extend.loop" ⟨[.ref S, .ref I, res], []⟩)) _ _ _
  have W := (Walks.listRev (prog := prog) (w := w) (A := A.in1) hh I l hIl items).toS
  refine wpAny_pure ⟨plainId_quiet F.plain_extend_loop _, codeAny_extend_loopS W hn S (by simp [Ne.symm hSI, Ne.symm hSl]) _ items.size 0 _ _ _ rfl (Nat.zero_le _) ?_ hS (ItemsOf.nil _) fun s' acc' c' hm' hS' hacc => ?_⟩
  · exact ⟨Nat.zero_le _, by rw [show (items.size : Int) - 1 - ((0 : Nat) : Int) = (items.size : Int) - 1 by omega]; exact hI, hl⟩
  · exact hR s' acc' c' (fun b o hb hb' e => hm'.heap b o (by simp [hb, hb']) e) hm'.gens hm'.drawn hm'.os hS' hacc
theorem list_rev {l I : Addr} {items : Array Value} {Q : Value → Shared → Prop} {E : Value → Shared → Prop} (hh : A.handled = none) (hI : s.heap.IsRevIter I l ((items.size : Int) - 1)) (hl : s.heap.IsList l items) (hIl : l ≠ I) (hn : items.size ≤ sizeLine)
    (q : ∀ (s' : Shared) (acc : Array Value) (c : Nat), (∀ b o, b ≠ I → s.heap.get? b = some o → s'.heap.get? b = some o) → s'.gens = s.gens → s'.drawn = s.drawn → s'.os = s.os →
      s'.heap.get? s.heap.objs.size = some (seqObj "list" acc c) → ItemsOf (fun i v => items[items.size - 1 - i]? = some v) acc items.size → Q (.ref s.heap.objs.size) s') :
    wpAny (model prog w) A (call (.type "list") [.ref I]) Q E s := by
  have hIn : I ≠ s.heap.objs.size := by
    obtain ⟨o, ho, _⟩ := hI
    exact Nat.ne_of_lt (Heap.lt_size ho)
  have hln : l ≠ s.heap.objs.size := by
    obtain ⟨o, ho, _⟩ := hl
    exact Nat.ne_of_lt (Heap.lt_size ho)
  refine callType_codes (Q₁ := fun obj s₁ => obj = .ref s.heap.objs.size ∧ s₁ = { s with heap := s.heap.push { cls := .type "list", data := .seq #[] } }) F.called_list (F.typeCall_list_1 _) F.entry_list_init
    (code_list_new _ ⟨rfl, rfl⟩) fun obj s₁ h₁ => ?_
  obtain ⟨rfl, rfl⟩ := h₁
  have hS : (s.heap.push { cls := .type "list", data := .seq #[] }).get? s.heap.objs.size = some { cls := .type "list", data := .seq #[] } := Heap.get?_push_size _ rfl
  refine ⟨⟨_, hS, rfl⟩, F.args_list_init_2 _ _, ?_⟩
  show wpAny _ A.in1.in1 (do let old ← Builtin.List.listItems (.ref s.heap.objs.size); Builtin.List.listUpdate (.ref s.heap.objs.size) (fun _ => #[]); letGo old.toList.reverse; Builtin.List.listExtendWith (.ref s.heap.objs.size) (.ref I) .none) _ _ _
  refine wpAny_bind (listItems_at hS rfl (wpAny_bind (listUpdate_at hS rfl (wpAny_bind (wpAny_letGo ?_)) (Nat.zero_le _) (Nat.zero_le _))))
  have hS2 := get?_update_seq (c := "list") hS (fun _ => #[])
  have ot : ∀ b o, b ≠ s.heap.objs.size → (s.heap.push { cls := .type "list", data := .seq #[] }).get? b = some o → ((s.heap.push { cls := .type "list", data := .seq #[] }).update s.heap.objs.size (Obj.mapSeq (fun _ => (#[] : Array Value)))).get? b = some o := fun b o hb e => (Heap.get?_update_other _ _ (Ne.symm hb)).trans e
  refine extend_rev (items := items) s.heap.objs.size l I _ _ (by exact hh) hIn hln hIl hS2 (hI.at fun o e => ot _ o hIn (Heap.get?_push_of_some _ e)) (hl.at fun o e => ot _ o hln (Heap.get?_push_of_some _ e)) hn fun s1 acc c1 k1 g1 d1 o1 hS1 hacc => ?_
  refine ⟨rfl, q s1 acc c1 (fun b o hb' e => ?_) g1 d1 o1 hS1 hacc⟩
  have hb := Nat.ne_of_lt (Heap.lt_size e)
  exact k1 b o hb hb' (ot b o hb (Heap.get?_push_of_some _ e))
end
end Srt
namespace L2
open PySem PySem.Spec PyProof.Rows
section
variable {X : Cx}
noncomputable def tListRev (ta : TA) : TE := fun σ H Q => ta σ H fun vs H1 => ∃ (l : Addr) (xs : List V), vs = [.ref l] ∧ H1 l = some (.lst xs) ∧ ∀ p, H1 p = none → Q (.ref p) (upd H1 p (.lst xs.reverse))
theorem vals_of_at : ∀ {xs : List V} {us : List Value}, us.length = xs.length → (∀ (i : Nat) (v : Value) (x : V), us[i]? = some v → xs[i]? = some x → RelV x v) → Vals xs us
  | [], [], _, _ => .nil
  | x :: xs, u :: us, hl, h => .cons (h 0 u x rfl rfl) (vals_of_at (Nat.succ.inj hl) fun i v y e1 e2 => h (i + 1) v y e1 e2)
theorem pe_listrev {a : Expr} {ta : TA} {p pos p2 pos2 : Pos} (hc : X.calm = true) (gl : Gl X "list") (ml : X.mg "list" = none) (gz : Gl X "reversed") (mz : X.mg "reversed" = none) (ha : PA X [a] ta)
    (h1 : starEach [.Call (.Name "reversed" p2) [a] [] pos2] X.env = (false, eval (.Call (.Name "reversed" p2) [a] [] pos2) X.env) :: starEach [] X.env := by rfl) (h2 : (backTo pos (starEach [] X.env)).any (·.1) = false := by rfl)
    (h3 : starEach [a] X.env = (false, eval a X.env) :: starEach [] X.env := by rfl) (h4 : (backTo pos2 (starEach [] X.env)).any (·.1) = false := by rfl) :
    PE X (.Call (.Name "list" p) [.Call (.Name "reversed" p2) [a] [] pos2] [] pos) (tListRev ta) := by
  intro pins s σ H Q I h
  refine wpAny_Call_Name_kw (ld_blt I gl ml PyProof.Rows.boot_list ?_)
  refine PyProof.Rows.callWith_type1 ?_ h1 h2
  rw [h1]
  change wpAny _ _ (spliced ((false, eval (.Call (.Name "reversed" p2) [a] [] pos2) X.env) :: backTo pos (starEach [] X.env))) _ _ s
  refine Calls.spliced_cons ?_
  refine wpAny_Call_Name_kw (ld_blt I gz mz PyProof.Rows.boot_reversed ?_)
  refine PyProof.Rows.callWith_type1 (thn (ha pos2 pins s σ H _ I h) fun us s1 ⟨vs, H1, I1, r1, q1⟩ => ?_) h3 h4
  obtain ⟨l, xs, rfl, hl, q⟩ := q1
  obtain ⟨u1, rfl, e1⟩ := r1.one
  cases e1
  obtain ⟨z, its, n, rv, hg⟩ := I1.hok l _ hl
  have lt1 : l < s1.heap.objs.size := Heap.lt_size hg
  have isl : s1.heap.IsList l its.toArray := ⟨_, hg, rfl, n, rfl⟩
  refine call_reversed_list isl ?_
  refine Calls.spliced_nil ?_
  have hv := rv.length
  have hsz : (s1.heap.push (revObj l ((its.toArray.size : Int) - 1))).objs.size = s1.heap.objs.size + 1 := by simp [Heap.push]
  refine Srt.list_rev (s := { s1 with heap := s1.heap.push (revObj l ((its.toArray.size : Int) - 1)) }) (items := its.toArray) (l := l) (I1.ok.hd hc) ⟨_, Heap.get?_push_size _ rfl, rfl, rfl⟩ (isl.at fun o e => Heap.get?_push_of_some _ e) (Nat.ne_of_lt lt1) (by simp only [List.size_toArray]; omega) fun s' acc c k g d o hl' hi => ?_
  have ha : (s1.heap.push (revObj l ((its.toArray.size : Int) - 1))).objs.size = s1.heap.objs.size + 1 := hsz
  change s'.heap.get? (s1.heap.push (revObj l ((its.toArray.size : Int) - 1))).objs.size = _ at hl'
  rw [ha] at hl'
  refine ⟨.ref (s1.heap.objs.size + 1), _, I1.new (a := s1.heap.objs.size + 1) (o := .lst xs.reverse) (fun b u e => k b u (Nat.ne_of_lt (Heap.lt_size e)) (Heap.get?_push_of_some _ e)) g d o (Nat.le_succ _) ⟨by rw [List.length_reverse]; exact z, acc.toList, c, ?_, hl'⟩, by show RelV (.ref (s1.heap.objs.size + 1)) (.ref _); rw [ha]; rfl, q _ (I1.hok.fresh (Nat.le_succ _))⟩
  have hn : acc.toList.length = xs.length := by rw [Array.length_toList, hi.1]; simp only [List.size_toArray]; omega
  refine vals_of_at (by rw [List.length_reverse]; exact hn) fun i v x ev ex => ?_
  have hi' := hi.2 i v (by rw [← Array.getElem?_toList]; exact ev)
  have hlt : i < xs.length := by have := (List.getElem?_eq_some_iff.mp ev).1; omega
  rw [List.getElem?_reverse hlt] at ex
  have e2 : its[xs.length - 1 - i]? = some v := by
    simp only [List.size_toArray, List.getElem?_toArray] at hi'
    rw [← hv] at hi'
    exact hi'
  obtain ⟨u, eu, ru⟩ := rv.get ex
  rw [e2] at eu
  cases eu
  exact ru
end
end L2
set_option Elab.async false
set_option linter.all false
set_option maxRecDepth 100000
set_option maxHeartbeats 4000000
namespace L2
open PySem PySem.Spec PyProof.Rows
mutual
noncomputable def D.pd : D → PyData
  | .non => .none | .int i => .int i | .str x => .str x | .tup ds => .tuple (D.pdL ds)
noncomputable def D.pdL : List D → List PyData
  | [] => []
  | d :: ds => d.pd :: D.pdL ds
end
mutual
noncomputable def T.pd : T → PyData
  | .d x => x.pd
  | .lst ts => .list (T.pdL ts)
  | .tup ts => .tuple (T.pdL ts)
noncomputable def T.pdL : List T → List PyData
  | [] => []
  | t :: ts => t.pd :: T.pdL ts
end
section
variable {X : Cx} {pins : List (Addr × Obj)} {σ : St} {H : Hp} {s : Shared}
end
end L2
set_option Elab.async false
set_option linter.all false
set_option maxRecDepth 100000
set_option maxHeartbeats 4000000
namespace L2
open PySem PySem.Spec PyProof.Rows
theorem Paired.fromR {α β : Type} {F : α → β → Prop} {l : List α} {m : List β} (h : Paired F l m) : ∀ y ∈ m, ∃ x ∈ l, F x y := by
  induction h with
  | nil => intro y hy; cases hy
  | @cons a b l m r t ih =>
    intro y hy
    rcases List.mem_cons.mp hy with rfl | hy
    · exact ⟨a, List.mem_cons_self, r⟩
    · obtain ⟨x, hx, q⟩ := ih y hy
      exact ⟨x, List.mem_cons_of_mem _ hx, q⟩
noncomputable abbrev KZ (zs : List (Addr × List Key)) (H : Hp) : List (List Key × V) → List (List Key × Addr × Value) → Prop := Paired fun p q => p.1 = q.1 ∧ (H q.2.1 = some (.tup (p.1.map kV)) ∨ (q.2.1, p.1) ∈ zs) ∧ RelV p.2 q.2.2
section
variable {zs zs' : List (Addr × List Key)} {H H' : Hp} {kvs : List (List Key × V)} {xs : List (List Key × Addr × Value)}
theorem KZ.val (r : KZ zs H kvs xs) (k : List Key) : RelO (valV kvs k) ((atKey xs k).map (·.2)) := by
  induction r with
  | nil => exact True.intro
  | @cons p q ps qs h t ih =>
    by_cases e : p.1 = k
    · have b : atKey (q :: qs) k = some q.2 := by simp [atKey, List.find?_cons, h.1.symm.trans e]
      rw [valV_pos e, b]
      exact h.2.2
    · have e2 : ¬ q.1 = k := fun z => e (h.1.trans z)
      have b : atKey (q :: qs) k = atKey qs k := by simp [atKey, List.find?_cons, e2]
      rw [valV_neg e, b]
      exact ih
theorem KZ.keeps (r : KZ zs H kvs xs) (ht : ∀ b ys, H b = some (.tup ys) → H' b = some (.tup ys)) (hz : ∀ z ∈ zs, z ∈ zs') : KZ zs' H' kvs xs :=
  Paired.mapP r fun _ _ z => ⟨z.1, z.2.1.imp (ht _ _) (hz _), z.2.2⟩
theorem KZ.put (r : KZ zs H kvs xs) (k : List Key) {b : Addr} {y : V} {u : Value} (hb : H b = some (.tup (k.map kV)) ∨ (b, k) ∈ zs) (ry : RelV y u) : KZ zs H (putK kvs k y) (storedH xs k b u) := by
  have e : (kvs.any fun kv => decide (kv.1 = k)) = (atKey xs k).isSome := by rw [valV_any, (r.val k).isSome_eq, Option.isSome_map]
  unfold putK storedH
  rw [e]
  by_cases q : (atKey xs k).isSome = true
  · rw [if_pos q, if_pos q]
    clear e q
    induction r with
    | nil => exact .nil
    | @cons p q ps qs h t ih =>
      rw [List.map_cons, List.map_cons]
      refine .cons ?_ ih
      unfold putAt
      by_cases e : p.1 = k
      · rw [if_pos e, if_pos (h.1.symm.trans e)]; exact ⟨h.1, h.2.1, ry⟩
      · rw [if_neg e, if_neg (fun z => e (h.1.trans z))]; exact h
  · rw [if_neg q, if_neg q]
    exact Paired.snoc r ⟨rfl, hb, ry⟩
end
noncomputable def Cn (K : PySem.W.Frag) (b : Addr) (k : List Key) : Prop := ∃ (o : Obj) (its : Array Value) (n : Nat), K.lookup b = some o ∧ o.cls = .type "tuple" ∧ o.data = .seq its n ∧ its.size ≤ sizeLine ∧ Vals (k.map kV) its.toList
noncomputable def Cz (K : PySem.W.Frag) (zs : List (Addr × List Key)) : Prop := ∀ z ∈ zs, Cn K z.1 z.2
noncomputable def DZ (K : PySem.W.Frag) (H : Hp) (a : Addr) (kvs : List (List Key × V)) : Prop := ∃ zs, Rd H a (.dZ zs kvs) ∧ Cz K zs
noncomputable def DW (K : PySem.W.Frag) (H : Hp) (a : Addr) (kvs : List (List Key × V)) : Prop := ∃ zs, H a = some (.dZ zs kvs) ∧ Cz K zs
theorem DW.rd {K : PySem.W.Frag} {H : Hp} {a : Addr} {kvs : List (List Key × V)} (h : DW K H a kvs) : DZ K H a kvs := let ⟨zs, e, c⟩ := h; ⟨zs, .inl e, c⟩
noncomputable def Ky (K : PySem.W.Frag) (H : Hp) (b : Addr) (k : List Key) : Prop := H b = some (.tup (k.map kV)) ∨ Cn K b k
theorem Ky.sq {K : PySem.W.Frag} {H : Hp} {b : Addr} {k : List Key} (h : Ky K H b k) : SqT K H b (k.map kV) := h.elim (fun e => .inl (.inl e)) .inr
section
variable {X : Cx} {pins : List (Addr × Obj)} {σ : St} {H : Hp} {s : Shared} {a b : Addr} {zs : List (Addr × List Key)} {kvs : List (List Key × V)} {k : List Key} {v d : V} {u r : Value} {A : Around} {E : Value → Shared → Prop}
theorem ky_is (I : Inv X pins σ H s) (h : Ky X.K H b k) : (tupleKind (mixKind X.prog X.w)).is s.heap k b := by
  obtain ⟨its, r, ⟨o, h1, h2, n, h3⟩, _⟩ := I.tuple h.sq
  exact ⟨o, its.toArray, n, h1, h2, h3, by simpa using items_are r⟩
theorem dz_rd (I : Inv X pins σ H s) (e : Rd H a (.dZ zs kvs)) (hz : Cz X.K zs) : kvs.length ≤ sizeLine ∧ (a == sysModules) = false ∧ ∃ xs, KZ zs H kvs xs ∧ s.heap.DictOfH (tupleKind (mixKind X.prog X.w)) a xs := by
  obtain ⟨z, y, xs, r, o, es, ep, h1, h2, h3, h4, h5⟩ := (show ObjOk X.prog X.w H s.heap a (.dZ zs kvs) from rd_of I.hok e)
  refine ⟨z, y, xs, r, o, es, ep, h1, h2, h3, h4, fun x hx => ?_, h5⟩
  obtain ⟨p, _, q1, q2, _⟩ := Paired.fromR r x hx
  rw [← q1]
  rcases q2 with q2 | q2
  · exact ky_is I (.inl q2)
  · exact ky_is I (.inr (hz _ q2))
theorem z_at (I : Inv X pins σ H s) (g : DZ X.K H a kvs) : s.TypeIs (.ref a) "dict" ∧ (∀ b, Value.ref a = .ref b → ∃ ob, s.heap.get? b = some ob ∧ ob.dict = none) ∧ (a == sysModules) = false := by
  obtain ⟨zs, e, hz⟩ := g
  obtain ⟨_, hd, xs, _, dd⟩ := dz_rd I e hz
  refine ⟨dd.typeIs, fun b q => ?_, hd⟩
  cases q
  obtain ⟨ob, _, _, h1, h2, _⟩ := dd
  exact ⟨ob, h1, h2.2.1⟩
theorem z_getItem {Q : Value → Shared → Prop} (hu : A.units + 1 < cLine) (I : Inv X pins σ H s) (g : DZ X.K H a kvs) (hk : Ky X.K H b k) (l : valV kvs k = some v) (h : ∀ w' s', Inv X pins σ H s' → RelV v w' → Q w' s') :
    wpAny (model X.prog X.w) A (getItem (.ref a) (.ref b)) Q E s := by
  obtain ⟨zs, e, hz⟩ := g
  obtain ⟨z, hd, xs, rel, dd⟩ := dz_rd I e hz
  obtain ⟨w', hw, rw'⟩ := RelO.some_of (v := v) (o := (atKey xs k).map (·.2)) (by rw [← l]; exact rel.val k)
  obtain ⟨p, hp, hp2⟩ := Option.map_eq_some_iff.mp hw
  refine wpAny_getItem_heap (tupleKind_room_in1 hu) (ky_is I hk) dd hp ?_
  rw [hp2]
  exact h w' _ (I.tok _) rw'
theorem z_in {Q : Value → Shared → Prop} (hu : A.units + 1 < cLine) (I : Inv X pins σ H s) (g : DZ X.K H a kvs) (hk : Ky X.K H b k) (h : ∀ s', Inv X pins σ H s' → Q (.bool (valV kvs k).isSome) s') :
    wpAny (model X.prog X.w) A (compareOp .In (.ref b) (.ref a)) Q E s := by
  obtain ⟨zs, e, hz⟩ := g
  obtain ⟨z, hd, xs, rel, dd⟩ := dz_rd I e hz
  refine wpAny_in_heap (tupleKind_room_in1 hu) (ky_is I hk) hd dd ?_
  have q := (rel.val k).isSome_eq
  rw [Option.isSome_map] at q
  rw [← q]
  exact h _ (I.tok _)
theorem z_notIn {Q : Value → Shared → Prop} (hu : A.units + 1 < cLine) (I : Inv X pins σ H s) (g : DZ X.K H a kvs) (hk : Ky X.K H b k) (h : ∀ s', Inv X pins σ H s' → Q (.bool (!(valV kvs k).isSome)) s') :
    wpAny (model X.prog X.w) A (compareOp .NotIn (.ref b) (.ref a)) Q E s := by
  obtain ⟨zs, e, hz⟩ := g
  obtain ⟨z, hd, xs, rel, dd⟩ := dz_rd I e hz
  refine wpAny_notIn_heap (tupleKind_room_in1 hu) (ky_is I hk) hd dd ?_
  have q := (rel.val k).isSome_eq
  rw [Option.isSome_map] at q
  rw [← q]
  exact h _ (I.tok _)
theorem key_way {K : PySem.W.Frag} (hz : Cz K zs) (hk : Ky K H b k) : ∃ zs', (∀ z ∈ zs, z ∈ zs') ∧ Cz K zs' ∧ (H b = some (.tup (k.map kV)) ∨ (b, k) ∈ zs') := by
  rcases hk with e | c
  · exact ⟨zs, fun _ h => h, hz, .inl e⟩
  · refine ⟨(b, k) :: zs, fun _ h => List.mem_cons_of_mem _ h, fun z h => ?_, .inr List.mem_cons_self⟩
    rcases List.mem_cons.mp h with rfl | h
    · exact c
    · exact hz z h
theorem z_new {h' : Heap} {H' : Hp} {xs : List (List Key × Addr × Value)} (hl : kvs.length ≤ sizeLine) (hd : (a == sysModules) = false) (rel : KZ zs H' kvs xs) (dd : h'.DictOfH (tupleKind (mixKind X.prog X.w)) a xs) : ObjOk X.prog X.w H' h' a (.dZ zs kvs) := by
  obtain ⟨q, es, ep, hq, h2, h3, h4, _, h5⟩ := dd
  exact ⟨hl, hd, xs, rel, q, es, ep, hq, h2, h3, h4, h5⟩
theorem z_setItem {Q : Unit → Shared → Prop} (hu : A.units + 1 < cLine) (I : Inv X pins σ H s) (g : DW X.K H a kvs) (hk : Ky X.K H b k) (hl : kvs.length < sizeLine) (rv : RelV v r)
    (h : ∀ zs' s', Cz X.K zs' → Inv X pins σ (upd H a (.dZ zs' (putK kvs k v))) s' → Q () s') : wpAny (model X.prog X.w) A (setItem (.ref a) (.ref b) r) Q E s := by
  obtain ⟨zs, e, hz⟩ := g
  obtain ⟨z, hd, xs, rel, dd⟩ := dz_rd I (.inl e) hz
  obtain ⟨zs', z1, z2, z3⟩ := key_way hz hk
  have hx : xs.length ≤ sizeLine := by rw [← Paired.length rel]; exact z
  have hl2 : (putK kvs k v).length ≤ sizeLine := by have := length_putK kvs k v; omega
  refine wpAny_setItem_heap (hsz := hx) (tupleKind_room_in1 hu) (ky_is I hk) dd fun h' dd' hs => h zs' _ z2 ?_
  have he : ∃ q, h'.get? a = some q := let ⟨q, _, _, hq, _⟩ := dd'; ⟨q, hq⟩
  refine d_write I (by rw [e]; exact True.intro) hs he (z_new hl2 hd (((rel.keeps (fun _ _ e => e) z1).put k z3 rv).keeps (fun c ys ec => ?_) fun _ h => h) dd')
  rw [upd_ne (ne_of ec e (fun z => nomatch z))]
  exact ec
theorem z_get2 {Q : Value → Shared → Prop} (hu : A.units + 1 < cLine) (I : Inv X pins σ H s) (g : DZ X.K H a kvs) (hk : Ky X.K H b k) (rd : RelV d r) (h : ∀ w' s', Inv X pins σ H s' → RelV ((valV kvs k).getD d) w' → Q w' s') :
    wpAny (model X.prog X.w) A (call (.builtin "dict.get") [.ref a, .ref b, r]) Q E s := by
  obtain ⟨zs, e, hz⟩ := g
  obtain ⟨z, hd, xs, rel, dd⟩ := dz_rd I e hz
  exact call_meetsIn PySem.F.slot_dict_get dd.typeIs PySem.F.entry_dict_get (PySem.F.args_dict_get_3 _ _ _) (meetsH_dict_get_default (tupleKind (mixKind X.prog X.w)) a b hd r) ⟨tupleKind_room_in1 hu, k, xs, ky_is I hk, dd, h _ _ (I.tok _) ((rel.val k).getD rd)⟩
theorem z_get1 {Q : Value → Shared → Prop} (hu : A.units + 1 < cLine) (I : Inv X pins σ H s) (g : DZ X.K H a kvs) (hk : Ky X.K H b k) (h : ∀ w' s', Inv X pins σ H s' → RelV ((valV kvs k).getD .non) w' → Q w' s') :
    wpAny (model X.prog X.w) A (call (.builtin "dict.get") [.ref a, .ref b]) Q E s := by
  obtain ⟨zs, e, hz⟩ := g
  obtain ⟨z, hd, xs, rel, dd⟩ := dz_rd I e hz
  exact call_meetsIn PySem.F.slot_dict_get dd.typeIs PySem.F.entry_dict_get (PySem.F.args_dict_get_2 _ _) (meetsH_dict_get (tupleKind (mixKind X.prog X.w)) a b hd) ⟨tupleKind_room_in1 hu, k, xs, ky_is I hk, dd, h _ _ (I.tok _) ((rel.val k).getD rfl)⟩
end
end L2
set_option Elab.async false
set_option linter.all false
set_option maxRecDepth 100000
set_option maxHeartbeats 4000000
namespace L2
open PySem PySem.Spec PyProof.Rows
noncomputable def tZGet (K : PySem.W.Frag) (td ty : TE) : TE := fun σ H Q => td σ H fun x H1 => ty σ H1 fun y H2 => ∃ a kvs b k v, x = .ref a ∧ y = .ref b ∧ DZ K H2 a kvs ∧ Ky K H2 b k ∧ valV kvs k = some v ∧ Q v H2
noncomputable def tZIn (K : PySem.W.Frag) (ty td : TE) : TE := fun σ H Q => ty σ H fun y H1 => td σ H1 fun x H2 => ∃ a kvs b k, x = .ref a ∧ y = .ref b ∧ DZ K H2 a kvs ∧ Ky K H2 b k ∧ Q (.bl (valV kvs k).isSome) H2
noncomputable def tZNotIn (K : PySem.W.Frag) (ty td : TE) : TE := fun σ H Q => ty σ H fun y H1 => td σ H1 fun x H2 => ∃ a kvs b k, x = .ref a ∧ y = .ref b ∧ DZ K H2 a kvs ∧ Ky K H2 b k ∧ Q (.bl (!(valV kvs k).isSome)) H2
noncomputable def sZPut (K : PySem.W.Frag) (td ty tv : TE) : TS := fun D σ H => tv σ H fun v H1 => td σ H1 fun x H2 => ty σ H2 fun y H3 => ∃ a kvs b k, x = .ref a ∧ y = .ref b ∧ DW K H3 a kvs ∧ Ky K H3 b k ∧ kvs.length < sizeLine ∧
  ∀ H4, (∀ c o, c ≠ a → H3 c = some o → H4 c = some o) → (∀ c, c ≠ a → H4 c = H3 c) → DW K H4 a (putK kvs k v) → D.nx σ H4
noncomputable def tZGet2 (K : PySem.W.Frag) (td ty tx : TE) : TE := fun σ H Q => td σ H fun x H1 => ∃ a, x = .ref a ∧ (∃ kvs, DZ K H1 a kvs) ∧ ty σ H1 fun y H2 => tx σ H2 fun z H3 => ∃ kvs b k, y = .ref b ∧ DZ K H3 a kvs ∧ Ky K H3 b k ∧ Q ((valV kvs k).getD z) H3
noncomputable def tZGet1 (K : PySem.W.Frag) (td ty : TE) : TE := fun σ H Q => td σ H fun x H1 => ∃ a, x = .ref a ∧ (∃ kvs, DZ K H1 a kvs) ∧ ty σ H1 fun y H2 => ∃ kvs b k, y = .ref b ∧ DZ K H2 a kvs ∧ Ky K H2 b k ∧ Q ((valV kvs k).getD .non) H2
noncomputable def tDNewZ : TE := fun _ H Q => ∀ p, H p = none → Q (.ref p) (upd H p (.dZ [] []))
section
variable {X : Cx} {o i e f value : Expr} {pos pos' tpos apos cpos : Pos} {td ty tv tx : TE}
theorem pe_zget (hu : X.A.units + 1 < cLine) (ho : PE X o td) (hi : PE X i ty) (hs : NoSl i) : PE X (.Subscript o i pos) (tZGet X.K td ty) := by
  intro pins s σ H Q I h
  refine subD_of PySem.F.slot_dict_getitem.lookup hs (thn (ho pins s σ H _ I h) fun u s1 hp => ?_)
  obtain ⟨x, H1, I1, rx, q1⟩ := hp
  refine thn (hi pins s1 σ H1 _ I1 q1) fun iv s2 hp => ?_
  obtain ⟨y, H2, I2, ry, a, kvs, b, k, v, rfl, rfl, g, hk, l, q2⟩ := hp
  cases rx
  cases ry
  exact ⟨(z_at I2 g).1, z_getItem hu I2 g hk l fun w' s3 I3 rw' => ⟨v, H2, I3, rw', q2⟩⟩
theorem pc_zin (hu : X.A.units + 1 < cLine) (hi : PE X i ty) (ho : PE X o td) : PC X .In i o (tZIn X.K ty td) := by
  intro pins s σ H Q I h
  refine thn (hi pins s σ H _ I h) fun iv s1 hp => ?_
  obtain ⟨y, H1, I1, ry, q1⟩ := hp
  refine thn (ho pins s1 σ H1 _ I1 q1) fun u s2 hp => ?_
  obtain ⟨x, H2, I2, rx, a, kvs, b, k, rfl, rfl, g, hk, q2⟩ := hp
  cases rx
  cases ry
  exact z_in hu I2 g hk fun s3 I3 => ⟨.bl (valV kvs k).isSome, H2, I3, rfl, q2⟩
theorem pc_znotin (hu : X.A.units + 1 < cLine) (hi : PE X i ty) (ho : PE X o td) : PC X .NotIn i o (tZNotIn X.K ty td) := by
  intro pins s σ H Q I h
  refine thn (hi pins s σ H _ I h) fun iv s1 hp => ?_
  obtain ⟨y, H1, I1, ry, q1⟩ := hp
  refine thn (ho pins s1 σ H1 _ I1 q1) fun u s2 hp => ?_
  obtain ⟨x, H2, I2, rx, a, kvs, b, k, rfl, rfl, g, hk, q2⟩ := hp
  cases rx
  cases ry
  exact z_notIn hu I2 g hk fun s3 I3 => ⟨.bl (!(valV kvs k).isSome), H2, I3, rfl, q2⟩
theorem ps_zput (hu : X.A.units + 1 < cLine) (ho : PE X o td) (hi : PE X i ty) (hv : PE X value tv) (hs : swapsWith value (some (.Subscript o i pos')) pos.line X.env = pure false) :
    PS X (.Assign [.Subscript o i pos'] value pos) (sZPut X.K td ty tv) := by
  intro pins s σ H D I h
  refine wpAny_Assign_Subscript (thn (hv pins s σ H _ I h) fun r s1 hp => ?_) hs
  obtain ⟨v, H1, I1, rv, q1⟩ := hp
  refine thn (ho pins s1 σ H1 _ I1 q1) fun u s2 hp => ?_
  obtain ⟨x, H2, I2, rx, q2⟩ := hp
  refine thn (hi pins s2 σ H2 _ I2 q2) fun iv s3 hp => ?_
  obtain ⟨y, H3, I3, ry, a, kvs, b, k, rfl, rfl, g, hk, hl, q3⟩ := hp
  cases rx
  cases ry
  exact z_setItem hu I3 g hk hl rv fun zs' s4 hz I4 => ⟨σ, _, I4, q3 _ (fun c o hc e => by rw [upd_ne hc]; exact e) (fun c hc => upd_ne hc) ⟨zs', upd_same, hz⟩⟩
theorem pe_zget1 (hu : X.A.units + 1 < cLine) (ho : PE X o td) (he : PE X e ty) (m : M1 X o "get" apos e cpos) : PE X (.Call (.Attribute o "get" apos) [e] [] cpos) (tZGet1 X.K td ty) := by
  intro pins s σ H Q I h
  refine wpAny_Call_method m.base m.few m.line PySem.F.plainAttrs_dict PySem.F.slot_dict_get PySem.F.type_dict_get (thn (ho pins s σ H _ I h) fun u s1 hp => ?_)
  obtain ⟨x, H1, I1, rx, a, rfl, ⟨kvs0, g0⟩, q1⟩ := hp
  cases rx
  obtain ⟨t1, t2, _⟩ := z_at I1 g0
  refine ⟨t1, t2, ?_⟩
  rw [m.trees]
  refine Calls.callWith_builtin rfl (Calls.evalArgs_plain (Calls.spliced_cons (thn (he pins s1 σ H1 _ I1 q1) fun iv s2 hp => Calls.spliced_nil ?_)))
  obtain ⟨y, H2, I2, ry, kvs, b, k, rfl, g, hk, q2⟩ := hp
  cases ry
  exact z_get1 hu I2 g hk fun w' s3 I3 rw' => ⟨_, H2, I3, rw', q2⟩
theorem pe_zget2 (hu : X.A.units + 1 < cLine) (ho : PE X o td) (he : PE X e ty) (hf : PE X f tx) (m : M2 X o "get" apos e f cpos) : PE X (.Call (.Attribute o "get" apos) [e, f] [] cpos) (tZGet2 X.K td ty tx) := by
  intro pins s σ H Q I h
  refine wpAny_Call_method m.base m.few m.line PySem.F.plainAttrs_dict PySem.F.slot_dict_get PySem.F.type_dict_get (thn (ho pins s σ H _ I h) fun u s1 hp => ?_)
  obtain ⟨x, H1, I1, rx, a, rfl, ⟨kvs0, g0⟩, q1⟩ := hp
  cases rx
  obtain ⟨t1, t2, _⟩ := z_at I1 g0
  refine ⟨t1, t2, ?_⟩
  rw [m.trees]
  refine Calls.callWith_builtin rfl (Calls.evalArgs_plain (Calls.spliced_cons (thn (he pins s1 σ H1 _ I1 q1) fun iv s2 hp => ?_)))
  obtain ⟨y, H2, I2, ry, q2⟩ := hp
  refine Calls.spliced_cons (thn (hf pins s2 σ H2 _ I2 q2) fun fv s3 hp => Calls.spliced_nil ?_)
  obtain ⟨z, H3, I3, rz, kvs, b, k, rfl, g, hk, q3⟩ := hp
  cases ry
  exact z_get2 hu I3 g hk rz fun w' s4 I4 rw' => ⟨_, H3, I4, rw', q3⟩
theorem pe_dnewZ : PE X (.Dict [] [] pos) tDNewZ := fun pins s σ H Q I h =>
  wpAny_Dict_empty ⟨.ref s.heap.objs.size, _, I.laid (a := s.heap.objs.size) (o := .dZ [] []) (t' := s.toks) (fun _ _ q => Heap.get?_push_of_some _ q) (Nat.le_refl _)
    ⟨Nat.zero_le _, beq_eq_false_iff_ne.mpr (Ne.symm (Nat.ne_of_lt I.big)), [], .nil, _, #[], 0, Heap.get?_push_size _ rfl, ⟨rfl, rfl, rfl⟩, rfl, rfl, List.nodup_nil⟩, rfl, h _ (I.hok.fresh (Nat.le_refl _))⟩
end
section
variable {prog : Program} {w : World} {A : Around} {E : Value → Shared → Prop} {s : Shared} {κ : Type} [DecidableEq κ] {knd : PySem.HeapKind prog w κ}
theorem setdef_heap {d a : Addr} {xs : List (κ × Addr × Value)} {k : κ} {dflt : Value} {Q : Value → Shared → Prop} (hu : knd.room A) (hkey : knd.is s.heap k a) (hm : s.heap.DictOfH knd d xs) (hz : xs.length ≤ sizeLine)
    (there : ∀ v, (atKey xs k).map (·.2) = some v → Q v { s with toks := s.toks + knd.draws k })
    (new : atKey xs k = none → ∀ h', h'.DictOfH knd d (storedH xs k a dflt) → Heap.SameBut d s.heap h' → Q dflt { s with heap := h', toks := s.toks + knd.draws k }) : wpAny (model prog w) A (dictSetDefault d (.ref a) dflt) Q E s := by
  obtain ⟨o, es, ep, ho, hc, hd, he, his, hn⟩ := hm
  unfold dictSetDefault
  refine wpAny_holding (wpAny_bind (knd.pyHash hu hkey (wpAny_bind (wpAny_dictFind_heap (s := { s with toks := s.toks + knd.draws k }) hu hkey ho hd he his hn (fun hno => ?_) fun j p hj => ?_))))
  · have hnot := not_mem_keys_of_get hno
    have hnew := storedH_new (a := a) (v := dflt) (atKey_none_of_get hno)
    refine wpAny_bind (wpAny_rule (wpAny_bind (wpAny_updateDictKeys (hz := by have e := size_of_entries he; omega) (s := { s with toks := s.toks + knd.draws k }) ho hd (wpAny_pure (new (atKey_none_of_get hno) _ ⟨_, _, ep + 1,
      Heap.get?_update_self _ ho (Obj.isFreed_of_dict (Obj.data_mapDictKeys hd _)), hc.mapDictKeys _, Obj.data_mapDictKeys hd _, ?_, fun x hx => ?_, ?_⟩ (Heap.SameBut.update ..))))))
    · rw [hnew, Array.toList_push, he, List.map_append]; rfl
    · rw [hnew] at hx
      rcases List.mem_append.mp hx with hx | hx
      · exact knd.keeps (his x hx) ho hd (Heap.SameBut.update ..)
      · rw [List.mem_singleton.mp hx]
        exact knd.keeps hkey ho hd (Heap.SameBut.update ..)
    · rw [hnew, List.map_append, List.nodup_append]
      refine ⟨hn, by simp, fun x hx y hy => ?_⟩
      rw [List.mem_singleton.mp (show y ∈ [k] from hy)]
      exact fun e => hnot (e ▸ hx)
  · refine wpAny_bind (wpAny_dictEntries (s := { s with toks := s.toks + knd.draws k }) ho hd ?_)
    rw [entry_at he j, hj]
    exact wpAny_bind (wpAny_rule (wpAny_pure (there _ (by rw [atKey_of_get hn hj]; rfl))))
end
noncomputable def rZSetD (K : PySem.W.Frag) : V → List V → Hp → VK → Prop := fun x vs H Q => ∃ (d : Addr) (kvs : List (List Key × V)) (b : Addr) (k : List Key) (y : V), x = .ref d ∧ vs = [.ref b, y] ∧ DW K H d kvs ∧ Ky K H b k ∧ kvs.length < sizeLine ∧ (∀ v, valV kvs k = some v → Q v H) ∧
  (valV kvs k = none → ∀ H4, (∀ c, c ≠ d → H4 c = H c) → DW K H4 d (putK kvs k y) → Q y H4)
theorem mt_zsetdef {X : Cx} (hu : X.A.units + 1 < cLine) : MtM X "dict.setdefault" (rZSetD X.K) := by
  intro pins s σ H x vs v us Q I rx rv h
  obtain ⟨d, kvs, b, k, y, rfl, rfl, ⟨zs, e, hz⟩, hk, hl, q1, q2⟩ := h
  cases rx
  obtain ⟨u1, u2, rfl, r1, r2⟩ := rv.two
  cases r1
  obtain ⟨z, hsm, xs, rel, dd⟩ := dz_rd I (.inl e) hz
  obtain ⟨zs', z1, z2, z3⟩ := key_way hz hk
  have hx : xs.length ≤ sizeLine := by rw [← Paired.length rel]; exact z
  refine wpAny_call_entry F.slot_dict_setdefault dd.typeIs entry_setdefault ?_ (F.args_dict_setdefault_3 _ _ _)
  unfold Builtin.«dict.setdefault»
  refine wpAny_bind ?_
  unfold Builtin.Dict.keyAndDefault
  refine wpAny_bind (wpAny_notOrdered_dict dd.typeIs ?_)
  show wpAny _ _ (pure (d, Value.ref b, some u2)) _ _ s
  refine wpAny_pure ?_
  show wpAny _ _ (if (d == sysModules) = true then _ else (dictSetDefault d (.ref b) u2 >>= _)) _ _ s
  rw [if_neg (by rw [hsm]; exact Bool.false_ne_true)]
  refine wpAny_bind (setdef_heap (tupleKind_room_in1 hu) (ky_is I hk) dd hx (fun v hv => wpAny_pure ⟨v, rfl, ?_⟩) fun hn h' dd' hs => wpAny_pure ⟨u2, rfl, ?_⟩)
  · have := rel.val k
    rw [hv] at this
    cases e : valV kvs k with
    | none => rw [e] at this; exact this.elim
    | some w' =>
      rw [e] at this
      exact ⟨w', H, I.tok _, this, q1 w' e⟩
  · have := rel.val k
    rw [hn] at this
    cases e4 : valV kvs k with
    | some w' => rw [e4] at this; exact this.elim
    | none =>
      have he : ∃ q, h'.get? d = some q := let ⟨q, _, _, hq, _⟩ := dd'; ⟨q, hq⟩
      have hl2 : (putK kvs k y).length ≤ sizeLine := by have := length_putK kvs k y; omega
      refine ⟨y, _, d_write I (by rw [e]; exact True.intro) hs he (z_new (zs := zs') hl2 hsm (((rel.keeps (fun _ _ e => e) z1).put k z3 r2).keeps (fun c ys ec => ?_) fun _ h => h) dd'), r2, q2 e4 _ (fun c hc => upd_ne hc) ⟨zs', upd_same, z2⟩⟩
      rw [upd_ne (ne_of ec e (fun z => nomatch z))]
      exact ec
end L2
set_option Elab.async false
set_option linter.all false
set_option maxRecDepth 100000
set_option maxHeartbeats 4000000
namespace Srt
open PySem PyProof.Rows
noncomputable def RawD (h : Heap) (d : Addr) (es : Array DictEntry) (ep : Nat) : Prop := ∃ o, h.get? d = some o ∧ o.ExactDict ∧ o.data = .dict es ep
theorem RawD.at {h h' : Heap} {d : Addr} {es : Array DictEntry} {ep : Nat} (x : RawD h d es ep) (e : ∀ o, h.get? d = some o → h'.get? d = some o) : RawD h' d es ep := let ⟨o, ho, r⟩ := x; ⟨o, e o ho, r⟩
theorem RawD.ty {s : Shared} {d : Addr} {es : Array DictEntry} {ep : Nat} (x : RawD s.heap d es ep) : s.TypeIs (.ref d) "dict" := let ⟨o, ho, hc, _⟩ := x; ⟨o, ho, hc.1⟩
section
variable {prog : Program} {w : World} {A : Around} {E : Value → Shared → Prop} {s : Shared} {d it : Addr} {es : Array DictEntry} {ep i : Nat}
theorem iter_raw {Q : Value → Shared → Prop} (hd : (d == sysModules) = false) (hm : RawD s.heap d es ep)
    (hQ : Q (.ref s.heap.objs.size) { s with heap := s.heap.push { cls := .type "dict_keyiterator", data := .fields #[.ref d, .int 0 0, .int es.size 0, .int ep 0] } }) : wpAny (model prog w) A (pyIter (.ref d)) Q E s := by
  have hT : s.TypeIs (.ref d) "dict" := hm.ty
  obtain ⟨o, ho, hc, hdat⟩ := hm
  refine wpAny_pyIter_slot hT F.slot_dict_iter (wpAny_call_entry F.slot_dict_iter hT F.entry_dict_iter ?_ (F.args_dict_iter_1 _))
  (unfold Builtin.«dict.__iter__»; refine wpAny_bind ?_; unfold Builtin.Dict.dictSlotNone; refine wpAny_bind (wpAny_notOrdered_dict hT ?_))
  (show wpAny _ _ (pure (Value.ref d)) _ _ s; refine wpAny_pure ?_; show wpAny _ _ (Builtin.Dict.showsAll d >>= _) _ _ s; unfold Builtin.Dict.showsAll)
  (rw [if_neg (by rw [hd]; exact Bool.false_ne_true)]; refine wpAny_bind (wpAny_pure (wpAny_bind (wpAny_dictEntries ho hdat (wpAny_bind (wpAny_dictEpoch ho hdat ?_))))))
  refine wpAny_bind (wpAny_newObj_type (wpAny_pure ⟨_, rfl, "dict_keyiterator", _, ⟨_, Heap.get?_push_size _ rfl, rfl⟩, F.slot_dict_keyiterator_next.lookup, ?_⟩))
  simpa [rawInt] using hQ
theorem next_raw {e : DictEntry} {Q : Option Value → Shared → Prop} (hit : s.heap.IsKeyIter it d i es.size ep) (hm : RawD s.heap d es ep) (hx : es[i]? = some e)
    (hQ : ∀ h', h'.IsKeyIter it d (i + 1) es.size ep → Heap.SameBut it s.heap h' → Q (some e.key) { s with heap := h' }) : wpAny (model prog w) A (pyNext (.ref it)) Q E s := by
  have hTi := hit.typeIs
  obtain ⟨o, ho, hc, hd⟩ := id hit
  obtain ⟨od, hod, hcd, hdd⟩ := hm
  have hlt : i < es.size := by
    rcases Nat.lt_or_ge i es.size with h | h
    · exact h
    · rw [Array.getElem?_eq_none h] at hx; cases hx
  have hown : Builtin.Dict_items.ownsTuple "dict_keyiterator" = false := by decide
  (unfold pyNext; refine wpAny_bind (wpAny_attempt (wpAny_callSpecial?_slot (name := Str.ofString "__next__") hTi F.slot_dict_keyiterator_next (wpAny_call_entry F.slot_dict_keyiterator_next hTi F.entry_dict_keyiterator_next ?_ (F.args_dict_keyiterator_next_1 _)))))
  (refine wpAny_bind (wpAny_pure ?_); refine wpAny_bind ?_; refine wpAny_bind ?_)
  first | refine wpAny_bind (wpAny_typeNameOfWhole_keyiter hTi (wpAny_pure (wpAny_bind (wpAny_fieldsOf ho hd ?_)))) | refine wpAny_bind (wpAny_typeNameOf_keyiter hTi (wpAny_pure (wpAny_bind (wpAny_fieldsOf ho hd ?_))))
  (simp only [hown, Bool.false_eq_true, if_false]; show wpAny _ _ (if (Value.ref d == Value.none) = true then _ else _) _ _ s)
  (rw [if_neg (show ¬ ((Value.ref d == Value.none) = true) from Bool.false_ne_true)]; refine wpAny_bind (wpAny_pure (wpAny_bind (wpAny_dictEntries hod hdd ?_))))
  (rw [if_neg (by simp)]; refine wpAny_bind (wpAny_pure (wpAny_bind (wpAny_dictEpoch hod hdd ?_))); rw [if_neg (by simp)]; refine wpAny_pure ?_)
  simp only [show ¬ ((i : Int) < 0) from by omega, if_false, Int.toNat_natCast, hx]
  refine wpAny_bind ?_
  first | refine wpAny_bind (wpAny_typeNameOfWhole_keyiter hTi (wpAny_pure (wpAny_bind (wpAny_isOneOf_keyiter hTi ?_)))) | refine wpAny_bind (wpAny_typeNameOf_keyiter hTi (wpAny_pure (wpAny_bind (wpAny_isOneOf_keyiter hTi ?_))))
  (show wpAny _ _ (setField (.ref it) 1 (rawInt ((i : Int) + 1)) >>= _) _ _ s; refine wpAny_bind (wpAny_setField ho hd (by simp) ?_))
  have hit' : (s.heap.update it (Obj.mapFields (·.setIfInBounds 1 (rawInt ((i : Int) + 1))))).IsKeyIter it d (i + 1) es.size ep :=
    ⟨_, Heap.get?_update_self _ ho (Obj.isFreed_of_fields (Obj.data_mapFields hd _)), (Obj.cls_mapFields ..).trans hc, by rw [Obj.data_mapFields hd]; simp [rawInt]⟩
  refine wpAny_bind (wpAny_holding (wpAny_bind (wpAny_isOneOf_keyiter (s := { s with heap := s.heap.update it (Obj.mapFields (·.setIfInBounds 1 (rawInt ((i : Int) + 1)))) }) hit'.typeIs ?_)))
  (show wpAny _ _ (pure e.key) _ _ _; exact wpAny_pure (wpAny_pure ⟨_, rfl, wpAny_pure (hQ _ hit' (Heap.SameBut.update ..))⟩))
theorem end_raw {Q : Option Value → Shared → Prop} (hh : A.handled = none) (hit : s.heap.IsKeyIter it d i es.size ep) (hm : RawD s.heap d es ep) (hx : es.size ≤ i)
    (hQ : ∀ h', Heap.ExtBut it s.heap h' → Q none { s with heap := h' }) : wpAny (model prog w) A (pyNext (.ref it)) Q E s := by
  have hTi := hit.typeIs
  obtain ⟨o, ho, hc, hd⟩ := id hit
  obtain ⟨od, hod, hcd, hdd⟩ := hm
  have hown : Builtin.Dict_items.ownsTuple "dict_keyiterator" = false := by decide
  (unfold pyNext; refine wpAny_bind (wpAny_attempt (wpAny_callSpecial?_slot (name := Str.ofString "__next__") hTi F.slot_dict_keyiterator_next (wpAny_call_entry F.slot_dict_keyiterator_next hTi F.entry_dict_keyiterator_next ?_ (F.args_dict_keyiterator_next_1 _)))))
  (refine wpAny_bind (wpAny_pure ?_); refine wpAny_bind ?_; refine wpAny_bind ?_)
  first | refine wpAny_bind (wpAny_typeNameOfWhole_keyiter hTi (wpAny_pure (wpAny_bind (wpAny_fieldsOf ho hd ?_)))) | refine wpAny_bind (wpAny_typeNameOf_keyiter hTi (wpAny_pure (wpAny_bind (wpAny_fieldsOf ho hd ?_))))
  (simp only [hown, Bool.false_eq_true, if_false]; show wpAny _ _ (if (Value.ref d == Value.none) = true then _ else _) _ _ s)
  (rw [if_neg (show ¬ ((Value.ref d == Value.none) = true) from Bool.false_ne_true)]; refine wpAny_bind (wpAny_pure (wpAny_bind (wpAny_dictEntries hod hdd ?_))))
  (rw [if_neg (by simp)]; refine wpAny_bind (wpAny_pure (wpAny_bind (wpAny_dictEpoch hod hdd ?_))); rw [if_neg (by simp)]; refine wpAny_pure ?_)
  simp only [show ¬ ((i : Int) < 0) from by omega, if_false, Int.toNat_natCast, Array.getElem?_eq_none hx]
  refine wpAny_bind ?_
  first | refine wpAny_bind (wpAny_typeNameOfWhole_keyiter hTi (wpAny_pure ?_)) | refine wpAny_bind (wpAny_typeNameOf_keyiter hTi (wpAny_pure ?_))
  (show wpAny _ _ (setField (.ref it) 0 .none >>= _) _ _ s; refine wpAny_bind (wpAny_setField ho hd (by simp) ?_); show wpAny _ _ (newExc (.type "StopIteration") [] >>= _) _ _ _; refine wpAny_bind ?_; simp only [newExc, newTuple])
  refine wpAny_bind (wpAny_newObj_type (wpAny_bind (m := firstArgMember _ _) (wpAny_of_eq (a := Value.none) (by first | rfl | (simp only [firstArgMember]; rfl)) (wpAny_newObj_type ?_ (by size_fits)))) (by size_fits))
  (simp only [raiseNew]; refine wpAny_bind (wpAny_handled ?_); rw [show A.in1.handled = none from hh])
  (refine wpAny_bind (wpAny_pure (wpAny_throw ?_)); refine wpAny_bind (wpAny_isInstance (T := "StopIteration") (b := true) ⟨_, Heap.get?_push_size _ rfl, rfl⟩ isSubtype_stop ?_))
  exact wpAny_pure (hQ _ (((Heap.SameBut.update ..).extBut.push _).push _))
theorem walk_raw (hh : A.handled = none) (I d : Addr) (hne : d ≠ I) (es : Array DictEntry) (ep : Nat) :
    Walks prog w A I [I, d] [I] es.size (fun i v => ∃ e, es[i]? = some e ∧ v = e.key) (fun i h => h.IsKeyIter I d i es.size ep ∧ RawD h d es ep) where
  sub := fun b hb => by simp at hb; simp [hb]
  frame := fun _ _ _ st hk => ⟨st.1.at fun o e => hk I (by simp) o e, st.2.at fun o e => hk d (by simp) o e⟩
  item := fun i s Q E hi st hQ => next_raw st.1 st.2 (Array.getElem?_eq_getElem hi) fun h' hit' hs' => hQ _ h' s.toks ⟨_, Array.getElem?_eq_getElem hi, rfl⟩ ⟨hit', st.2.at fun o e => hs'.extBut d o hne e⟩ fun b o hb e => hs'.extBut b o (fun h => hb (by simp [h])) e
  done := fun s Q E st hQ => end_raw hh st.1 st.2 (Nat.le_refl _) fun h' he' => hQ h' s.toks fun b o hb e => he' b o (fun h => hb (by simp [h])) e
  self := fun _ _ _ _ st hQ => wpAny_pyIter_keyiter st.1 hQ
end
end Srt
set_option Elab.async false
set_option linter.all false
set_option maxRecDepth 100000
set_option maxHeartbeats 4000000
namespace L2
open PySem PySem.Spec PyProof.Rows
section
variable {X : Cx} {pins : List (Addr × Obj)} {σ : St} {H : Hp} {s : Shared} {a : Addr} {o : Obj} {u : HO}
theorem Inv.thaw (I : Inv X pins σ H s) (e : H a = some (.frz o u)) (h0 : ∀ o' u', X.H₀ a ≠ some (.frz o' u')) : Inv X pins σ (upd H a u) s := by
  have nn : ∀ b, H b = none → b ≠ a := fun b q z => by rw [z, e] at q; cases q
  have nt : ∀ b v, H b = some v → (∀ o' u', v ≠ .frz o' u') → b ≠ a := fun b v q n z => by rw [z, e] at q; cases q; exact n _ _ rfl
  refine ⟨I.ok, I.os, I.bare, ⟨I.base.keep, I.base.slot, fun b ob q n x => ?_, I.base.there, fun b xs q => ?_, fun b ob v q => ?_, fun b ps q => ?_⟩, I.loc, I.cell, ?_, fun x c q => ?_, fun p hp => ?_, fun b v q => ?_, I.len⟩
  · have := I.base.free b ob q n x
    rw [upd_ne (nn b this)]; exact this
  · have := I.base.tups b xs q
    rw [upd_ne (nt b _ this fun _ _ z => nomatch z)]; exact this
  · have := I.base.frzs b ob v q
    rw [upd_ne (fun z => h0 ob v (by rw [← z]; exact q))]; exact this
  · obtain ⟨m, this⟩ := I.base.tbls b ps q
    exact ⟨m, by rw [upd_ne (nt b _ this fun _ _ z => nomatch z)]; exact this⟩
  · rw [upd_ne (nn _ I.free)]; exact I.free
  · have := I.freeC x c q
    rw [upd_ne (nn _ this)]; exact this
  · obtain ⟨p1, p2, p3⟩ := I.pin p hp
    exact ⟨p1, by rw [upd_ne (nn _ p2)]; exact p2, p3⟩
  · have ho : ∀ c x, H c = some (.own x) → upd H a u c = some (.own x) := fun c x r => by rw [upd_ne (nt c _ r fun _ _ z => nomatch z)]; exact r
    have ht : ∀ c xs, H c = some (.tup xs) → upd H a u c = some (.tup xs) := fun c xs r => by rw [upd_ne (nt c _ r fun _ _ z => nomatch z)]; exact r
    by_cases hb : b = a
    · subst hb
      rw [upd_same] at q
      cases q
      obtain ⟨_, r⟩ := I.hok _ _ e
      exact r.stay (fun _ _ _ q => q) (fun c r => ho c _ r) ht
    · rw [upd_ne hb] at q
      exact (I.hok b v q).stay (fun _ _ _ q => q) (fun c r => ho c _ r) ht
noncomputable def tThaw (H0 : Hp) (t : TS) : TS := fun D σ H => t { D with nx := fun σ' H' => ∃ a o u, H' a = some (.frz o u) ∧ (∀ o' u', H0 a ≠ some (.frz o' u')) ∧ D.nx σ' (upd H' a u), rt := fun v H' => ∃ a o u, H' a = some (.frz o u) ∧ (∀ o' u', H0 a ≠ some (.frz o' u')) ∧ D.rt v (upd H' a u) } σ H
theorem ps_thaw {st : Stmt} {t : TS} (h : PS X st t) : PS X st (tThaw X.H₀ t) := by
  intro pins s σ H D I q
  refine wpAny_mono (h pins s σ H _ I q) (fun f s' r => ?_) fun _ _ e => e
  cases f with
  | next =>
    obtain ⟨σ', H', I', a, o, u, e, h0, r⟩ := r
    exact ⟨σ', _, I'.thaw e h0, r⟩
  | brk => exact r
  | cont => exact r
  | ret v =>
    obtain ⟨x, σ', H', I', rx, a, o, u, e, h0, r⟩ := r
    exact ⟨x, σ', _, I'.thaw e h0, rx, r⟩
end
noncomputable def Itk (a : Addr) (o : Obj) (zs : List (Addr × List Key)) (kvs : List (List Key × V)) : It :=
  ⟨fun i H => H a = some (.frz o (.dZ zs kvs)) ∧ i < kvs.length, fun i H x H' => H' = H ∧ ∃ b k v, x = .ref b ∧ kvs[i]? = some (k, v) ∧ (H b = some (.tup (k.map kV)) ∨ (b, k) ∈ zs), fun i H => H a = some (.frz o (.dZ zs kvs)) ∧ kvs.length ≤ i⟩
theorem KZ.to {zs : List (Addr × List Key)} {H : Hp} {kvs : List (List Key × V)} {xs : List (List Key × Addr × Value)} (r : KZ zs H kvs xs) {i : Nat} {k : List Key} {v : V} (h : kvs[i]? = some (k, v)) : ∃ b x, xs[i]? = some (k, b, x) ∧ (H b = some (.tup (k.map kV)) ∨ (b, k) ∈ zs) ∧ RelV v x := by
  induction r generalizing i with
  | nil => simp at h
  | @cons p q ps qs a _ ih =>
    cases i with
    | zero =>
      have h : some p = some (k, v) := h
      cases h
      obtain ⟨q1, q2, q3⟩ := q
      obtain ⟨e1, e2, e3⟩ := a
      cases e1
      exact ⟨q2, q3, rfl, e2, e3⟩
    | succ i => exact ih h
theorem frz_raw {P : Program} {w : World} {H : Hp} {h : Heap} {a : Addr} {o : Obj} {zs : List (Addr × List Key)} {kvs : List (List Key × V)} {es : Array DictEntry} {ep : Nat} (ok : HOk P w H h) (e : H a = some (.frz o (.dZ zs kvs))) (hd : o.data = .dict es ep) :
    Srt.RawD h a es ep ∧ es.size = kvs.length ∧ ∀ (i : Nat) (k : List Key) (v : V), kvs[i]? = some (k, v) → ∃ (b : Addr) (en : DictEntry), es[i]? = some en ∧ en.key = .ref b ∧ (H b = some (.tup (k.map kV)) ∨ (b, k) ∈ zs) := by
  obtain ⟨ho, z, hsm, xs, rel, o', es', ep', ho', hx, hd', he, hn⟩ := ok a _ e
  rw [ho] at ho'
  cases ho'
  rw [hd] at hd'
  cases hd'
  refine ⟨⟨o, ho, hx, hd⟩, by rw [size_of_entries he, Paired.length rel], fun i k v hk => ?_⟩
  obtain ⟨b, x, h1, h2, _⟩ := KZ.to rel hk
  exact ⟨b, _, by rw [entry_at he i, h1]; rfl, rfl, h2⟩
theorem turn_keys {P : Program} {w : World} {K : PySem.W.Frag} {tg : Expr} (a it : Addr) (o : Obj) (zs : List (Addr × List Key)) (kvs : List (List Key × V)) (es : Array DictEntry) (ep : Nat) (hod : o.data = .dict es ep) :
    Turn P w K tg (Itk a o zs kvs) [it] it (fun i h => h.IsKeyIter it a i kvs.length ep) where
  mem := by simp
  obj := fun i h st b hb => by
    have e : b = it := by simpa using hb
    subst e
    obtain ⟨x, h1, _, h2⟩ := st
    exact ⟨x, h1, fun v z => by rw [h2] at z; cases z⟩
  keep := fun i h h' st kp => st.at fun x e => kp it (by simp) x e
  item := by
    intro X hP hw hK hc i pins s σ H E I hf st hg
    subst hP hw hK
    obtain ⟨hg, hlt⟩ := hg
    obtain ⟨f0, f1, f2, f3, f4, f5⟩ := hf it (by simp)
    obtain ⟨raw, hsz, at_⟩ := frz_raw I.hok hg hod
    obtain ⟨⟨k, v⟩, hk⟩ : ∃ q, kvs[i]? = some q := ⟨_, List.getElem?_eq_getElem hlt⟩
    obtain ⟨b, en, e1, e2, e3⟩ := at_ i k v hk
    rw [← hsz] at st
    refine Srt.next_raw st raw e1 fun h' hit' hs' => ?_
    rw [hsz] at hit'
    have I1 : Inv X pins σ H { s with heap := h', toks := s.toks } := I.turned (fun c x hc e => hs'.extBut c x hc e) f0 f1 f3 f4 f5
    obtain ⟨x1, x2, x3, x4⟩ := id hit'
    refine ⟨_, rfl, go_of (s := { s with heap := h' }) (n := "dict_keyiterator") x2 x3 x4 (by decide) ⟨.ref b, H, I1, e2, ⟨rfl, b, k, v, rfl, hk, e3⟩, hit', fun c hc => (hf c hc).1⟩⟩
  done := by
    intro X hP hw hK hc i pins s σ H E I hf st hg
    subst hP hw hK
    obtain ⟨hg, hlt⟩ := hg
    obtain ⟨f0, f1, f2, f3, f4, f5⟩ := hf it (by simp)
    obtain ⟨raw, hsz, _⟩ := frz_raw I.hok hg hod
    rw [← hsz] at st
    exact Srt.end_raw (I.ok.hd hc) st raw (by rw [hsz]; exact hlt) fun h' eb => ⟨rfl, I.turned (t' := s.toks) (fun c x hc e => eb c x hc e) f0 f1 f3 f4 f5⟩
  self := fun _ _ _ _ _ st h => wpAny_pyIter_keyiter st h
section
variable {X : Cx} {tg : Expr}
noncomputable def iKeys (tl : TE) : TI := fun σ H R => tl σ H fun x H1 => ∃ (a : Addr) (zs : List (Addr × List Key)) (kvs : List (List Key × V)), x = .ref a ∧ H1 a = some (.dZ zs kvs) ∧ ∀ o, R (Itk a o zs kvs) (upd H1 a (.frz o (.dZ zs kvs)))
theorem pi_keys {l : Expr} {tl : TE} (hl : PE X l tl) : PI X tg l (iKeys tl) := by
  intro pins s σ H R I h
  refine thn (hl pins s σ H _ I h) fun v s1 hp => ?_
  obtain ⟨x, H1, I1, r1, a, zs, kvs, rfl, ha, q⟩ := hp
  cases r1
  obtain ⟨z, hsm, xs, rel, o, es, ep, ho, hx, hd, he, hn⟩ := (show ObjOk X.prog X.w H1 s1.heap a (.dZ zs kvs) from I1.hok a _ ha)
  refine Srt.iter_raw hsm ⟨o, ho, hx, hd⟩ ?_
  have hsz : es.size = kvs.length := by rw [size_of_entries he, Paired.length rel]
  rw [hsz]
  have I2 : Inv X pins σ H1 { s1 with heap := s1.heap.push { cls := .type "dict_keyiterator", data := .fields #[.ref a, .int 0 0, .int kvs.length 0, .int ep 0] } } := I1.kept (t' := s1.toks) fun b o e => Heap.get?_push_of_some _ e
  have ho2 : (s1.heap.push { cls := .type "dict_keyiterator", data := .fields #[.ref a, .int 0 0, .int kvs.length 0, .int ep 0] }).get? a = some o := Heap.get?_push_of_some _ ho
  have I3 := I2.write (t' := s1.toks) (x := a) (e := a) (o := .frz o (.dZ zs kvs)) (h' := s1.heap.push { cls := .type "dict_keyiterator", data := .fields #[.ref a, .int 0 0, .int kvs.length 0, .int ep 0] }) (by rw [ha]; exact True.intro) (.inl rfl) (fun _ _ _ e => e) ⟨o, ho2⟩
    ⟨ho2, z, hsm, xs, KZ.keeps rel (fun c ys ec => by rw [upd_ne (ne_of ec ha (fun z => nomatch z))]; exact ec) (fun _ h => h), o, es, ep, ho2, hx, hd, he, hn⟩
  refine ⟨s1.heap.objs.size, [s1.heap.objs.size], _, _, _, rfl, I3, turn_keys a _ o zs kvs es ep hd, ⟨_, Heap.get?_push_size _ rfl, rfl, rfl⟩, fun b hb => ?_, q o⟩
  have e : b = s1.heap.objs.size := by simpa using hb
  subst e
  refine I1.fpOk (Nat.le_refl _) ?_
  have hn := I1.hok.fresh (Nat.le_refl s1.heap.objs.size)
  rw [upd_ne (Ne.symm (ne_of_none ha hn))]
  exact hn
end
theorem for_keys {a : Addr} {o : Obj} {zs : List (Addr × List Key)} {kvs : List (List Key × V)} {g : TG} {tb : TS} {D : Ends} {σ : St} {H : Hp} (Pv : Nat → St → Hp → Prop) (h0 : Pv 0 σ H) (hl : ∀ i σ H, i ≤ kvs.length → Pv i σ H → H a = some (.frz o (.dZ zs kvs)))
    (hs : ∀ i b k v σ H, kvs[i]? = some (k, v) → (H b = some (.tup (k.map kV)) ∨ (b, k) ∈ zs) → Pv i σ H → g (.ref b) σ H fun σ2 H2 => tb { D with nx := Pv (i + 1), ct := Pv (i + 1), bk := D.nx } σ2 H2) (hd : ∀ σ H, Pv kvs.length σ H → D.nx σ H) :
    ∃ W : Nat → Nat → St → Hp → Prop, (∃ m, W 0 m σ H) ∧ ∀ i m σ H, W i m σ H →
      ((Itk a o zs kvs).stop i H ∧ D.nx σ H) ∨ ((Itk a o zs kvs).go i H ∧ ∃ N : St → Hp → Prop, (∀ σ' H', N σ' H' → ∃ m', m' < m ∧ W (i + 1) m' σ' H') ∧ ∀ x H', (Itk a o zs kvs).yld i H x H' → g x σ H' fun σ2 H2 => tb { D with nx := N, ct := N, bk := D.nx } σ2 H2) := by
  refine ⟨fun i m σ H => m = kvs.length - i ∧ i ≤ kvs.length ∧ Pv i σ H, ⟨kvs.length, by simp, Nat.zero_le _, h0⟩, fun i m σ H hw => ?_⟩
  obtain ⟨rfl, hi, p⟩ := hw
  have q := hl i σ H hi p
  by_cases hlt : i < kvs.length
  · refine .inr ⟨⟨q, hlt⟩, Pv (i + 1), fun σ' H' p' => ⟨kvs.length - (i + 1), by omega, rfl, hlt, p'⟩, fun x H' y => ?_⟩
    obtain ⟨rfl, b, k, v, rfl, hk, hb⟩ := y
    exact hs i b k v σ _ hk hb p
  · have e : i = kvs.length := by omega
    subst e
    exact .inl ⟨⟨q, Nat.le_refl _⟩, hd σ H p⟩
end L2
set_option Elab.async false
set_option linter.all false
set_option maxRecDepth 100000
set_option maxHeartbeats 4000000
namespace Srt
open PySem PyProof.Rows
theorem RawD.lt_size {h : Heap} {d : Addr} {es : Array DictEntry} {ep : Nat} (x : RawD h d es ep) : d < h.objs.size := let ⟨_, ho, _⟩ := x; Heap.lt_size ho
section
variable {prog : Program} {w : World} {A : Around} {E : Value → Shared → Prop} {s : Shared} {R : Result → Shared → Prop}
theorem extend_raw (S d : Addr) (res : Value) (c₀ : Nat) {es : Array DictEntry} {ep : Nat} (hh : A.handled = none) (hsm : (d == sysModules) = false) (hne : d ≠ S)
    (hS : s.heap.get? S = some { cls := .type "list", data := .seq #[] c₀ }) (hm : RawD s.heap d es ep) (hn : es.size ≤ sizeLine)
    (hR : ∀ s' acc c', (∀ b o, b ≠ S → s.heap.get? b = some o → s'.heap.get? b = some o) → s'.gens = s.gens → s'.drawn = s.drawn → s'.os = s.os →
      s'.heap.get? S = some { cls := .type "list", dict := none, data := .seq acc c', slots := #[] } → ItemsOf (fun i v => ∃ e, es[i]? = some e ∧ v = e.key) acc es.size → R (.ok (.ret res)) s') :
    wpAny (model prog w) A.in1 (Builtin.List.listExtendWith (.ref S) (.ref d) res)
      (fun fin s' => match fin with | .done f => R (.ok f) s' | .again c' => c'.quiet = true ∧ codeAny (model prog w) A c' R s') (fun e s' => R (.error e) s') s := by
  have hT := hm.ty
  unfold Builtin.List.listExtendWith
  refine wpAny_bind (wpAny_typeOf hT ?_)
  have h1 : Builtin.List.listSameRef (.ref S) (.ref d) = false := by simp [Builtin.List.listSameRef, Ne.symm hne]
  rw [if_neg (by rw [h1]; decide)]
  refine wpAny_bind (iter_raw hsm hm ?_)
  have hm1 : RawD (s.heap.push { cls := .type "dict_keyiterator", data := .fields #[.ref d, .int 0 0, .int es.size 0, .int ep 0] }) d es ep := hm.at fun o e => Heap.get?_push_of_some _ e
  have hS1 : (s.heap.push { cls := .type "dict_keyiterator", data := .fields #[.ref d, .int 0 0, .int es.size 0, .int ep 0] }).get? S = some { cls := .type "list", data := .seq #[] c₀ } := Heap.get?_push_of_some _ hS
  have hT1 : Shared.TypeIs { s with heap := s.heap.push { cls := .type "dict_keyiterator", data := .fields #[.ref d, .int 0 0, .int es.size 0, .int ep 0] } } (.ref d) "dict" := hm1.ty
  have hI1 : (s.heap.push { cls := .type "dict_keyiterator", data := .fields #[.ref d, .int 0 0, .int es.size 0, .int ep 0] }).IsKeyIter s.heap.objs.size d 0 es.size ep := ⟨_, Heap.get?_push_size _ rfl, rfl, rfl⟩
  have hid : s.heap.objs.size ≠ d := Ne.symm (Nat.ne_of_lt hm.lt_size)
  have hiS : s.heap.objs.size ≠ S := Ne.symm (Nat.ne_of_lt (Heap.lt_size hS))
  have hk1 : ∀ b o, s.heap.get? b = some o → (s.heap.push { cls := .type "dict_keyiterator", data := .fields #[.ref d, .int 0 0, .int es.size 0, .int ep 0] }).get? b = some o := fun b o e => Heap.get?_push_of_some _ e
  have hlt1 : ∀ b o, s.heap.get? b = some o → b ≠ s.heap.objs.size := fun b o e => Nat.ne_of_lt (Heap.lt_size e)
  generalize (s.heap.push { cls := .type "dict_keyiterator", data := .fields #[.ref d, .int 0 0, .int es.size 0, .int ep 0] }) = g1 at *
  refine wpAny_bind (wpAny_holding ?_)
  unfold Builtin.List.listLengthHint
  refine wpAny_bind (wpAny_specialOf hT1 len_dict ?_)
  (generalize hid : ("dict.__len__" : String) = id0; (fail_if_success (clear hid id0)); wp_delta; rw [show splitId id0 = some ("dict", "__len__") from by subst hid; decide +kernel]; subst hid)
  refine wpAny_bind (wpAny_isInstance (b := true) hT1 (by rw [isSubtype_type]; kernel_rfl) ?_)
  refine wpAny_bind (m := typeOf (.ref d)) (wpAny_typeOf hT1 ?_)
  refine wpAny_pure ?_
  show wpAny _ A.in1 (rule "list.extend.makes-room" >>= fun _ => Builtin.List.listTouch (.ref S) >>= fun _ =>
    again (.builtin "list.extend.loop" ⟨[.ref S, .ref s.heap.objs.size, res], []⟩)) _ _ _
  refine wpAny_bind (wpAny_rule ?_)
  refine wpAny_bind ?_
  unfold Builtin.List.listTouch
  refine wpAny_bind (listUpdate_at (s := { s with heap := g1 }) hS1 rfl ?_ (Nat.zero_le _) (by show 1 ≤ sizeLine + 1; omega))
  have hS2 := get?_update_seq (c := "list") hS1 (·.push .none)
  refine listUpdate_at (s := { s with heap := g1.update S (Obj.mapSeq (·.push .none)) }) hS2 rfl ?_ (by show 1 ≤ sizeLine; decide) (by show 0 ≤ sizeLine + 1; omega)
  have hS3 := get?_update_seq (c := "list") hS2 (·.pop)
  have ot : ∀ b o, b ≠ S → g1.get? b = some o → ((g1.update S (Obj.mapSeq (·.push .none))).update S (Obj.mapSeq (·.pop))).get? b = some o := fun b o hb e =>
    (Heap.get?_update_other _ _ (Ne.symm hb)).trans ((Heap.get?_update_other _ _ (Ne.symm hb)).trans e)
  have W := (walk_raw (prog := prog) (w := w) (A := A.in1) hh s.heap.objs.size d (Ne.symm hid) es ep).toS
  refine wpAny_pure ⟨plainId_quiet F.plain_extend_loop _, codeAny_extend_loopS W hn S (by simp [Ne.symm hiS, Ne.symm hne]) _ es.size 0 _ _ _ rfl (Nat.zero_le _) ?_ hS3 (ItemsOf.nil _) fun s' acc' c' hm' hS' hacc => ?_⟩
  · exact ⟨hI1.at fun o e => ot _ o hiS e, hm1.at fun o e => ot _ o hne e⟩
  · refine hR s' acc' c' (fun b o hb e => ?_) hm'.gens hm'.drawn hm'.os hS' hacc
    exact hm'.heap b o (by simp [hb, hlt1 b o e]) (ot b o hb (hk1 b o e))
theorem list_raw {d : Addr} {es : Array DictEntry} {ep : Nat} {Q : Value → Shared → Prop} (hh : A.handled = none) (hsm : (d == sysModules) = false)
    (hm : RawD s.heap d es ep) (hl : es.size ≤ sizeLine)
    (q : ∀ (s' : Shared) (acc : Array Value) (c : Nat), (∀ b o, s.heap.get? b = some o → s'.heap.get? b = some o) → s'.gens = s.gens → s'.drawn = s.drawn → s'.os = s.os →
      s'.heap.get? s.heap.objs.size = some (seqObj "list" acc c) → ItemsOf (fun i v => ∃ e, es[i]? = some e ∧ v = e.key) acc es.size → Q (.ref s.heap.objs.size) s') :
    wpAny (model prog w) A (call (.type "list") [.ref d]) Q E s := by
  have hne : d ≠ s.heap.objs.size := Nat.ne_of_lt hm.lt_size
  refine callType_codes (Q₁ := fun obj s₁ => obj = .ref s.heap.objs.size ∧ s₁ = { s with heap := s.heap.push { cls := .type "list", data := .seq #[] } }) F.called_list (F.typeCall_list_1 _) F.entry_list_init
    (code_list_new _ ⟨rfl, rfl⟩) fun obj s₁ h₁ => ?_
  obtain ⟨rfl, rfl⟩ := h₁
  have hS : (s.heap.push { cls := .type "list", data := .seq #[] }).get? s.heap.objs.size = some { cls := .type "list", data := .seq #[] } := Heap.get?_push_size _ rfl
  refine ⟨⟨_, hS, rfl⟩, F.args_list_init_2 _ _, ?_⟩
  show wpAny _ A.in1.in1 (do let old ← Builtin.List.listItems (.ref s.heap.objs.size); Builtin.List.listUpdate (.ref s.heap.objs.size) (fun _ => #[]); letGo old.toList.reverse; Builtin.List.listExtendWith (.ref s.heap.objs.size) (.ref d) .none) _ _ _
  refine wpAny_bind (listItems_at hS rfl (wpAny_bind (listUpdate_at hS rfl (wpAny_bind (wpAny_letGo ?_)) (Nat.zero_le _) (Nat.zero_le _))))
  have hS2 := get?_update_seq (c := "list") hS (fun _ => #[])
  have ot : ∀ b o, b ≠ s.heap.objs.size → (s.heap.push { cls := .type "list", data := .seq #[] }).get? b = some o → ((s.heap.push { cls := .type "list", data := .seq #[] }).update s.heap.objs.size (Obj.mapSeq (fun _ => (#[] : Array Value)))).get? b = some o := fun b o hb e => (Heap.get?_update_other _ _ (Ne.symm hb)).trans e
  refine extend_raw (es := es) (ep := ep) s.heap.objs.size d _ _ (by exact hh) hsm hne hS2 (hm.at fun o e => ot _ o hne (Heap.get?_push_of_some _ e)) hl fun s1 acc c1 k1 g1 d1 o1 hS1 hacc => ?_
  refine ⟨rfl, q s1 acc c1 (fun b o e => ?_) g1 d1 o1 hS1 hacc⟩
  have hb := Nat.ne_of_lt (Heap.lt_size e)
  exact k1 b o hb (ot b o hb (Heap.get?_push_of_some _ e))
end
end Srt
namespace L2
open PySem PySem.Spec PyProof.Rows
theorem Paired.mapR {α β γ : Type} {F : α → β → Prop} {G : α → γ → Prop} (f : β → γ) {l : List α} {m : List β} (h : Paired F l m) (q : ∀ a b, F a b → G a (f b)) : Paired G l (m.map f) := by
  induction h with
  | nil => exact .nil
  | cons r t ih => exact .cons (q _ _ r) ih
noncomputable def rListZ (K : PySem.W.Frag) : List V → Hp → VK → Prop := fun xs H Q => ∃ (p : Addr) (kvs : List (List Key × V)), xs = [.ref p] ∧ DZ K H p kvs ∧ ∀ (l : Addr) (bs : List Addr), H l = none → Paired (fun (kv : List Key × V) b => Ky K H b kv.1) kvs bs → Q (.ref l) (upd H l (.lst (bs.map V.ref)))
theorem vals_of_refs : ∀ bs : List Addr, Vals (bs.map V.ref) (bs.map Value.ref)
  | [] => .nil
  | b :: bs => .cons rfl (vals_of_refs bs)
theorem call_listZ {X : Cx} (hc : X.calm = true) : CallR X (.type "list") (rListZ X.K) := by
  intro pins s σ H xs us Q I r h
  obtain ⟨p, kvs, rfl, ⟨zs, e, hz⟩, q⟩ := h
  obtain ⟨u, rfl, ru⟩ := r.one
  cases ru
  obtain ⟨z, hsm, xs, rel, dd⟩ := dz_rd I e hz
  obtain ⟨o, es, ep, ho, hx, hd, he, his, hn⟩ := dd
  have hsz : es.size = xs.length := size_of_entries he
  have hlen := Paired.length rel
  refine Srt.list_raw (I.ok.hd hc) hsm ⟨o, ho, hx, hd⟩ (by omega) fun s' acc c k g d o' hl' hi => ?_
  have ea : acc.toList = (xs.map (·.2.1)).map Value.ref := by
    refine List.ext_getElem? fun i => ?_
    rw [Array.getElem?_toList, List.getElem?_map, List.getElem?_map]
    cases ei : acc[i]? with
    | none =>
      have h1 : acc.size ≤ i := Array.getElem?_eq_none_iff.mp ei
      have : acc.size = es.size := hi.1
      rw [List.getElem?_eq_none (by omega)]; rfl
    | some v =>
      obtain ⟨en, e1, rfl⟩ := hi.2 i v ei
      rw [entry_at he i] at e1
      obtain ⟨x, e2, rfl⟩ := Option.map_eq_some_iff.mp e1
      rw [e2]; rfl
  have kys : Paired (fun (kv : List Key × V) b => Ky X.K H b kv.1) kvs (xs.map (·.2.1)) := Paired.mapR (fun (x : List Key × Addr × Value) => x.2.1) rel fun a b h => by
    rcases h.2.1 with h1 | h1
    · exact .inl h1
    · exact .inr (hz _ h1)
  refine ⟨.ref s.heap.objs.size, _, I.new k g d o' (Nat.le_refl _) (o := .lst ((xs.map (·.2.1)).map V.ref)) ⟨by rw [List.length_map, List.length_map]; omega, acc.toList, c, by rw [ea]; exact vals_of_refs _, hl'⟩, rfl, q _ _ I.fresh kys⟩
end L2
set_option Elab.async false
set_option linter.all false
set_option maxRecDepth 100000
set_option maxHeartbeats 4000000
namespace Srt
open PySem PySem.Spec PyProof.Rows L2
structure PrH where
  p : Addr
  k : List Key
  b : Addr
  v : Value
noncomputable abbrev prRefH (ts : List PrH) : List Value := ts.map fun t => .ref t.p
noncomputable def foldH (ts : List PrH) : List (List Key × Addr × Value) := ts.foldl (fun acc t => storedH acc t.k t.b t.v) []
theorem storedH_len {xs : List (List Key × Addr × Value)} {k : List Key} {b : Addr} {v : Value} : (storedH xs k b v).length ≤ xs.length + 1 := by
  unfold storedH
  split
  · rw [List.length_map]; omega
  · rw [List.length_append, List.length_singleton]; omega
theorem foldH_len (ts : List PrH) : (foldH ts).length ≤ ts.length := by
  have go : ∀ (ts : List PrH) (acc : List (List Key × Addr × Value)), (ts.foldl (fun acc t => storedH acc t.k t.b t.v) acc).length ≤ acc.length + ts.length := by
    intro ts
    induction ts with
    | nil => intro acc; exact Nat.le_refl _
    | cons t ts ih =>
      intro acc
      have h1 := ih (storedH acc t.k t.b t.v)
      have h2 := storedH_len (xs := acc) (k := t.k) (b := t.b) (v := t.v)
      rw [List.foldl_cons, List.length_cons]; omega
  have := go ts []
  rw [List.length_nil, Nat.zero_add] at this
  exact this
theorem foldH_take {ts : List PrH} {i : Nat} (h : i < ts.length) : foldH (ts.take (i + 1)) = storedH (foldH (ts.take i)) ts[i].k ts[i].b ts[i].v := by
  unfold foldH
  rw [List.take_add_one, List.getElem?_eq_getElem h, Option.toList_some, List.foldl_append]
  rfl
section
variable {prog : Program} {w : World} {A : Around} {E : Value → Shared → Prop} {s : Shared} {ts : List PrH}
theorem tk_keep {h h' : Heap} {k : List Key} {b : Addr} (x : (tupleKind (mixKind prog w)).is h k b) (e : ∀ o, h.get? b = some o → h'.get? b = some o) : (tupleKind (mixKind prog w)).is h' k b := by
  obtain ⟨o, its, n, h1, r⟩ := x
  exact ⟨o, its, n, e o h1, r⟩
theorem tk_it {h : Heap} {k : List Key} {b it l : Addr} {i : Nat} (x : (tupleKind (mixKind prog w)).is h k b) (y : h.IsListIter it l i) : b ≠ it := fun z => by
  obtain ⟨o, its, n, h1, h2, _⟩ := x
  obtain ⟨o2, g1, g2, _⟩ := y
  rw [z, g1] at h1
  cases h1
  rw [g2] at h2
  exact absurd h2 (by decide)
theorem tk_d {h : Heap} {k : List Key} {b d : Addr} {xs : List (List Key × Addr × Value)} (x : (tupleKind (mixKind prog w)).is h k b) (y : h.DictOfH (tupleKind (mixKind prog w)) d xs) : b ≠ d := fun z => by
  obtain ⟨o, its, n, h1, h2, _⟩ := x
  obtain ⟨o2, es, ep, g1, g2, _⟩ := y
  rw [z, g1] at h1
  cases h1
  rw [g2.1] at h2
  exact absurd h2 (by decide)
theorem dh_keep {h h' : Heap} {d it l : Addr} {i : Nat} {xs : List (List Key × Addr × Value)} (x : h.DictOfH (tupleKind (mixKind prog w)) d xs) (y : h.IsListIter it l i) (eb : Heap.ExtBut it h h') (hd : d ≠ it) : h'.DictOfH (tupleKind (mixKind prog w)) d xs := by
  obtain ⟨o, es, ep, h1, h2, h3, h4, h5, h6⟩ := x
  exact ⟨o, es, ep, eb d o hd h1, h2, h3, h4, fun q hq => tk_keep (h5 q hq) fun o e => eb _ o (tk_it (h5 q hq) y) e, h6⟩
theorem code_updH {R : Result → Shared → Prop} {d it l : Addr} {res : Value} (hh : A.handled = none) (hil : l ≠ it) (hdi : d ≠ it) (hdl : l ≠ d) (hp : ∀ t ∈ ts, t.p ≠ it ∧ t.p ≠ d) (hu : A.units + 1 < cLine) (hn : ts.length ≤ sizeLine) :
    ∀ (n i : Nat) (s : Shared), ts.length - i = n → i ≤ ts.length → s.heap.IsListIter it l i → s.heap.IsList l (prRefH ts).toArray → (∀ t ∈ ts, s.heap.IsTuple t.p #[.ref t.b, t.v]) → (∀ t ∈ ts, (tupleKind (mixKind prog w)).is s.heap t.k t.b) → s.heap.DictOfH (tupleKind (mixKind prog w)) d (foldH (ts.take i)) →
    (∀ s', (∀ b o, b ≠ it → b ≠ d → s.heap.get? b = some o → s'.heap.get? b = some o) → s'.gens = s.gens → s'.drawn = s.drawn → s'.os = s.os → s'.heap.DictOfH (tupleKind (mixKind prog w)) d (foldH ts) → R (.ok (.ret res)) s') →
    codeAny (model prog w) A (.builtin "dict.update.loop" ⟨[.ref d, .ref it, .int i 0, res], []⟩) R s := by
  intro n
  induction n with
  | zero =>
    intro i s hn0 hi hit hl ht hk hd q
    have e : i = ts.length := by omega
    subst e
    refine codeAny_builtin entry_upd_loop ?_
    rw [Around.under_plainId plain_upd_loop _]
    show wpAny _ A.in1 (pyNext (.ref it) >>= _) _ _ s
    refine wpAny_bind (wpAny_pyNext_list_end hh hit hl (by simp) fun h' eb => ?_)
    refine wpAny_bind (m := Builtin.Dict.addKeywords d []) (wpAny_pure (wpAny_pure ?_))
    refine q { s with heap := h' } (fun b o hb _ e => eb b o hb e) rfl rfl rfl ?_
    rw [List.take_of_length_le (Nat.le_refl _)] at hd
    exact dh_keep hd hit eb hdi
  | succ n ih =>
    intro i s hn0 hi hit hl ht hk hd q
    have hlt : i < ts.length := by omega
    refine codeAny_builtin entry_upd_loop ?_
    rw [Around.under_plainId plain_upd_loop _]
    show wpAny _ A.in1 (pyNext (.ref it) >>= _) _ _ s
    have hm : ts[i] ∈ ts := List.getElem_mem hlt
    refine wpAny_bind (wpAny_pyNext_list_item hit hl (x := .ref ts[i].p) (by simp [hlt]) fun h1 hit1 sb1 => ?_)
    have ht1 : ∀ t ∈ ts, h1.IsTuple t.p #[.ref t.b, t.v] := fun t h => (ht t h).extBut sb1.extBut (hp t h).1
    have hl1 := hl.extBut sb1.extBut hil
    have hd1 := dh_keep hd hit sb1.extBut hdi
    have hk1 : ∀ t ∈ ts, (tupleKind (mixKind prog w)).is h1 t.k t.b := fun t h => tk_keep (hk t h) fun o e => sb1.extBut _ o (tk_it (hk t h) hit) e
    obtain ⟨o, ho, hc, c, hdat⟩ := id (ht1 _ hm)
    refine wpAny_bind (wpAny_holding (wpAny_bind (wpAny_tryCatch ?_)))
    unfold Builtin.Dict.pairItems
    refine wpAny_bind (wpAny_typeOf (s := { s with heap := h1 }) (T := "tuple") ⟨o, ho, hc⟩ ?_)
    rw [if_pos (by decide)]
    refine wpAny_bind (m := seqItems? (.ref ts[i].p)) ?_
    unfold seqItems?
    refine wpAny_bind (wpAny_load (s := { s with heap := h1 }) ho ?_)
    rw [hdat]
    refine wpAny_pure (wpAny_pure ?_)
    show wpAny _ A.in1 (holding [.ref ts[i].b, ts[i].v] (dictSet d (.ref ts[i].b) ts[i].v)) _ _ { s with heap := h1 }
    have hz : (foldH (ts.take i)).length ≤ sizeLine := by
      have := foldH_len (ts.take i)
      rw [List.length_take] at this
      omega
    refine wpAny_holding (wpAny_dictSet_heap (knd := (tupleKind (mixKind prog w))) (hsz := hz) (tupleKind_room_in1 hu) (hk1 _ hm) hd1 fun h2 hd2 sb2 => ?_)
    refine wpAny_pure ⟨plainId_quiet plain_upd_loop _, ?_⟩
    have kp : ∀ b o, b ≠ it → b ≠ d → s.heap.get? b = some o → h2.get? b = some o := fun b o hb hb2 e => (sb2.2 b hb2).trans ((sb1.2 b hb).trans e)
    have := ih (i + 1) { s with heap := h2, toks := s.toks + (tupleKind (mixKind prog w)).draws ts[i].k } (by omega) hlt (hit1.extBut sb2.extBut (Ne.symm hdi)) (hl1.extBut sb2.extBut hdl) (fun t h => (ht1 t h).extBut sb2.extBut (hp t h).2)
      (fun t h => tk_keep (hk1 t h) fun o e => sb2.extBut _ o (tk_d (hk1 t h) hd1) e) (by rw [foldH_take hlt]; exact hd2) fun s' k' g' dr' o' dd => q s' (fun b o hb hb2 e => k' b o hb hb2 (kp b o hb hb2 e)) g' dr' o' dd
    exact this
theorem dict_pairsH {l : Addr} {c : Nat} {Q : Value → Shared → Prop} (hh : A.handled = none) (hl : s.heap.get? l = some { cls := .type "list", data := .seq (prRefH ts).toArray c }) (hu : A.units + 9 < cLine) (ht : ∀ t ∈ ts, s.heap.IsTuple t.p #[.ref t.b, t.v]) (hk : ∀ t ∈ ts, (tupleKind (mixKind prog w)).is s.heap t.k t.b) (hn : ts.length ≤ sizeLine)
    (q : ∀ s' : Shared, (∀ b o, s.heap.get? b = some o → s'.heap.get? b = some o) → s'.gens = s.gens → s'.drawn = s.drawn → s'.os = s.os → s'.heap.DictOfH (tupleKind (mixKind prog w)) s.heap.objs.size (foldH ts) → Q (.ref s.heap.objs.size) s') :
    wpAny (model prog w) A (call (.type "dict") [.ref l]) Q E s := by
  refine callType_codes (Q₁ := fun obj s₁ => obj = .ref s.heap.objs.size ∧ s₁ = { s with heap := s.heap.push { cls := .type "dict", data := .dict #[] } }) F.kt_called_dict (F.kt_typeCall_dict_1 _) F.entry_dict_init (kt_code_dict_new _ ⟨rfl, rfl⟩) ?_
  rintro obj s₁ ⟨rfl, rfl⟩
  have hnew : (s.heap.push { cls := .type "dict", data := .dict #[] }).DictOfH (tupleKind (mixKind prog w)) s.heap.objs.size [] := Heap.DictOfH.new s.heap
  have hl1 : (s.heap.push { cls := .type "dict", data := .dict #[] }).get? l = some { cls := .type "list", data := .seq (prRefH ts).toArray c } := Heap.get?_push_of_some _ hl
  have hz1 : (s.heap.push { cls := .type "dict", data := .dict #[] }).objs.size = s.heap.objs.size + 1 := Heap.size_push ..
  have hk1 : ∀ b o, s.heap.get? b = some o → (s.heap.push { cls := .type "dict", data := .dict #[] }).get? b = some o := fun b o e => Heap.get?_push_of_some _ e
  refine ⟨hnew.typeIs, F.args_dict_init_2 _ _, ?_⟩
  generalize s.heap.push { cls := .type "dict", data := .dict #[] } = g1 at *
  unfold Builtin.«dict.__init__»
  refine wpAny_bind ?_
  unfold Builtin.Dict.selfAndRest
  refine wpAny_bind (wpAny_notOrdered_dict (s := { s with heap := g1 }) hnew.typeIs ?_)
  show wpAny _ _ (pure (s.heap.objs.size, [Value.ref l])) _ _ _
  refine wpAny_pure ?_
  show wpAny _ _ (Builtin.Dict.updateFrom "dict.__init__" s.heap.objs.size (.ref l) [] .none) _ _ _
  unfold Builtin.Dict.updateFrom
  refine wpAny_bind (wpAny_typeOf (s := { s with heap := g1 }) (T := "list") ⟨_, hl1, rfl⟩ ?_)
  rw [if_pos (by decide)]
  refine wpAny_bind (keys_miss (s := { s with heap := g1 }) hl1 (by exact hh) fun h2 tk2 k2 => ?_)
  rw [if_pos (by rfl)]
  refine wpAny_bind (wpAny_rule ?_)
  have hl2 : h2.IsList l (prRefH ts).toArray := ⟨_, k2 _ _ hl1, rfl, _, rfl⟩
  have hd2 : h2.DictOfH (tupleKind (mixKind prog w)) s.heap.objs.size [] := by
    obtain ⟨o, es, ep, ho, r1, r2, r3, _, r4⟩ := hnew
    exact ⟨o, es, ep, k2 _ _ ho, r1, r2, r3, fun _ h => by simp at h, r4⟩
  have lt1 : ∀ b o, g1.get? b = some o → b < h2.objs.size := fun b o e => Heap.lt_size (k2 b o e)
  refine wpAny_bind (wpAny_pyIter_list (s := { s with heap := h2, toks := tk2 }) hl2 (wpAny_pure ⟨plainId_quiet plain_upd_loop _, ?_⟩))
  have hs2 : s.heap.objs.size < h2.objs.size := by
    obtain ⟨o, es, ep, ho, r⟩ := hd2
    exact Heap.lt_size ho
  refine code_updH (ts := ts) (s := { s with heap := h2.push { cls := .type "list_iterator", data := .fields #[.ref l, .int 0 0] }, toks := tk2 }) (n := ts.length) (i := 0) (l := l) (by exact hh) (Nat.ne_of_lt (lt1 l _ hl1)) (Nat.ne_of_lt hs2) (Nat.ne_of_lt (Heap.lt_size hl)) ?_ (by show A.units + 1 + 1 < cLine; omega) hn rfl (Nat.zero_le _)
    ⟨_, Heap.get?_push_size _ rfl, rfl, rfl⟩ ?_ ?_ ?_ ?_ fun s' k' g' d' o' dd => ?_
  · intro t h
    obtain ⟨o, ho, _⟩ := ht t h
    exact ⟨Nat.ne_of_lt (lt1 _ _ (hk1 _ _ ho)), Nat.ne_of_lt (Heap.lt_size ho)⟩
  · obtain ⟨o, ho, r⟩ := hl2
    exact ⟨o, Heap.get?_push_of_some _ ho, r⟩
  · intro t h
    obtain ⟨o, ho, r⟩ := ht t h
    exact ⟨o, Heap.get?_push_of_some _ (k2 _ _ (hk1 _ _ ho)), r⟩
  · intro t h
    exact tk_keep (hk t h) fun o e => Heap.get?_push_of_some _ (k2 _ _ (hk1 _ _ e))
  · obtain ⟨o, es, ep, ho, r1, r2, r3, _, r4⟩ := hd2
    exact ⟨o, es, ep, Heap.get?_push_of_some _ ho, r1, r2, r3, fun _ h => by simp [foldH] at h, r4⟩
  · refine ⟨rfl, q s' (fun b o e => ?_) g' d' o' dd⟩
    exact k' b o (Nat.ne_of_lt (lt1 b o (hk1 b o e))) (Nat.ne_of_lt (Heap.lt_size e)) (Heap.get?_push_of_some _ (k2 _ _ (hk1 _ _ e)))
theorem len_raw {d : Addr} {es : Array DictEntry} {ep : Nat} {Q : Value → Shared → Prop} (hd : (d == sysModules) = false) (hm : RawD s.heap d es ep) (hfit : (es.size : Int) < 2 ^ 63)
    (h : Q (.int es.size (s.toks + 1)) { s with toks := s.toks + 1 + 1 }) : wpAny (model prog w) A (call (.builtin "len") [.ref d]) Q E s := by
  have hT : s.TypeIs (.ref d) "dict" := hm.ty
  obtain ⟨o, ho, hc, hdat⟩ := hm
  refine Calls.call_function_entry kind_len plain_len entry_len (args_len1 _) ?_
  (unfold Builtin.«len»; refine wpAny_bind (m := oneArg "len" _) (wpAny_pure ?_))
  refine wpAny_bind (m := callSpecial? (.ref d) (Str.ofString "__len__")) (wpAny_callSpecial?_slot (name := Str.ofString "__len__") hT F.slot_dict_len (wpAny_call_entry F.slot_dict_len hT F.entry_dict_len ?_ (F.args_dict_len_1 _)))
  (show wpAny _ _ (dictSize d >>= _) _ _ s; unfold dictSize; refine wpAny_bind (wpAny_bind (wpAny_dictEntries ho hdat (wpAny_pure ?_))); show wpAny _ _ (Builtin.Dict.pendingCount d >>= _) _ _ s)
  refine wpAny_bind (wpAny_pendingCount_other hd (wpAny_ret_mkInt ?_))
  rw [show ((es.size : Int) + ((0 : Nat) : Int)) = (es.size : Int) from Int.add_zero _]
  (show wpAny _ _ _ _ _ { s with toks := s.toks + 1 }; refine wpAny_bind (wpAny_holding (wpAny_pure (wpAny_bind (wpAny_letGo ?_)))))
  (show wpAny _ _ (if ((es.size : Nat) : Int) < 0 then _ else _) _ _ _; rw [if_neg (by omega)]; show wpAny _ _ (if ((es.size : Nat) : Int) ≥ 2 ^ 63 then _ else _) _ _ _; rw [if_neg (by omega)])
  exact wpAny_bind (wpAny_mkInt (wpAny_pure ⟨_, rfl, h⟩))
end
end Srt
set_option Elab.async false
set_option linter.all false
set_option maxRecDepth 100000
set_option maxHeartbeats 4000000
namespace L2
open PySem PySem.Spec PyProof.Rows
noncomputable def mergeZ (ps : List (List Key × V)) : List (List Key × V) := ps.foldl (fun acc p => putK acc p.1 p.2) []
theorem length_mergeZ (ps : List (List Key × V)) : (mergeZ ps).length ≤ ps.length := by
  have go : ∀ (ps acc : List (List Key × V)), (ps.foldl (fun acc p => putK acc p.1 p.2) acc).length ≤ acc.length + ps.length := by
    intro ps
    induction ps with
    | nil => intro acc; exact Nat.le_refl _
    | cons p ps ih =>
      intro acc
      have h1 := ih (putK acc p.1 p.2)
      have h2 := length_putK acc p.1 p.2
      rw [List.foldl_cons, List.length_cons]; omega
  have := go ps []
  rw [List.length_nil, Nat.zero_add] at this
  exact this
theorem all_ways {K : PySem.W.Frag} {H : Hp} : ∀ (bs : List (Addr × List Key)), (∀ x ∈ bs, Ky K H x.1 x.2) → ∃ zs, Cz K zs ∧ ∀ x ∈ bs, H x.1 = some (.tup (x.2.map kV)) ∨ x ∈ zs
  | [], _ => ⟨[], fun _ h => absurd h List.not_mem_nil, fun _ h => absurd h List.not_mem_nil⟩
  | x :: bs, h => by
    obtain ⟨zs, z1, z2⟩ := all_ways bs fun y hy => h y (List.mem_cons_of_mem _ hy)
    obtain ⟨zs', w1, w2, w3⟩ := key_way (b := x.1) (k := x.2) z1 (h x List.mem_cons_self)
    refine ⟨zs', w2, fun y hy => ?_⟩
    rcases List.mem_cons.mp hy with rfl | hy
    · exact w3
    · exact (z2 y hy).imp id (w1 y)
noncomputable abbrev PZ := Addr × Addr × List Key × V
theorem KZ.fold {zs : List (Addr × List Key)} {H : Hp} : ∀ {ps : List PZ} {ts : List Srt.PrH} {kvs : List (List Key × V)} {xs : List (List Key × Addr × Value)},
    Paired (fun (p : PZ) (t : Srt.PrH) => p.2.2.1 = t.k ∧ p.2.1 = t.b ∧ RelV p.2.2.2 t.v) ps ts → (∀ p ∈ ps, H p.2.1 = some (.tup (p.2.2.1.map kV)) ∨ (p.2.1, p.2.2.1) ∈ zs) → KZ zs H kvs xs →
    KZ zs H ((ps.map (·.2.2)).foldl (fun acc p => putK acc p.1 p.2) kvs) (ts.foldl (fun acc t => storedH acc t.k t.b t.v) xs) := by
  intro ps ts kvs xs r
  induction r generalizing kvs xs with
  | nil => intro _ q; exact q
  | @cons p t ps ts h _ ih =>
    intro hz q
    have q2 := q.put p.2.2.1 (hz p List.mem_cons_self) h.2.2
    rw [List.map_cons, List.foldl_cons, List.foldl_cons, ← h.1, ← h.2.1]
    exact ih (fun x hx => hz x (List.mem_cons_of_mem _ hx)) q2
noncomputable def rDictZ (K : PySem.W.Frag) : List V → Hp → VK → Prop := fun xs H Q => ∃ (l : Addr) (ps : List PZ), xs = [.ref l] ∧ H l = some (.lst (ps.map fun t => .ref t.1)) ∧ (∀ t ∈ ps, H t.1 = some (.tup [.ref t.2.1, t.2.2.2]) ∧ Ky K H t.2.1 t.2.2.1) ∧
  ∀ p zs, H p = none → Cz K zs → Q (.ref p) (upd H p (.dZ zs (mergeZ (ps.map (·.2.2)))))
theorem prz_of {P : Program} {w : World} {H : Hp} {h : Heap} (ok : HOk P w H h) : ∀ {ps : List PZ}, (∀ t ∈ ps, H t.1 = some (.tup [.ref t.2.1, t.2.2.2])) →
    ∃ ts : List Srt.PrH, ts.map (·.p) = ps.map (·.1) ∧ (∀ t ∈ ts, h.IsTuple t.p #[.ref t.b, t.v]) ∧ Paired (fun (p : PZ) (t : Srt.PrH) => p.2.2.1 = t.k ∧ p.2.1 = t.b ∧ RelV p.2.2.2 t.v) ps ts
  | [], _ => ⟨[], rfl, fun _ h => absurd h List.not_mem_nil, Paired.nil⟩
  | (p, b, k, v) :: ps, hp => by
    obtain ⟨ts, e1, e2, e4⟩ := prz_of ok (ps := ps) fun t ht => hp t (List.mem_cons_of_mem _ ht)
    have hx : H p = some (.tup [.ref b, v]) := hp _ List.mem_cons_self
    obtain ⟨z, its, rv, o, ho, hc, n, hd⟩ := ok p _ hx
    obtain ⟨u1, u2, rfl, r1, r2⟩ := rv.two
    cases r1
    refine ⟨⟨p, k, b, u2⟩ :: ts, by rw [List.map_cons, List.map_cons, e1], fun t ht => ?_, .cons ⟨rfl, rfl, r2⟩ e4⟩
    rcases List.mem_cons.mp ht with rfl | ht
    · exact ⟨o, ho, hc, n, hd⟩
    · exact e2 t ht
theorem call_dictZ {X : Cx} (hc : X.calm = true) (hu : X.A.units + 9 < cLine) : CallR X (.type "dict") (rDictZ X.K) := by
  intro pins s σ H xs us Q I r h
  obtain ⟨l, ps, rfl, hl, ht, q⟩ := h
  obtain ⟨u, rfl, ru⟩ := r.one
  cases ru
  obtain ⟨z, its, n, rv, hlen, e⟩ := I.lstM hl
  obtain ⟨ts, e1, e2, e4⟩ := prz_of I.hok fun t h => (ht t h).1
  obtain ⟨zs, z1, z2⟩ := all_ways (ps.map fun t => (t.2.1, t.2.2.1)) (K := X.K) (H := H) fun x hx => by
    obtain ⟨t, h1, rfl⟩ := List.mem_map.mp hx
    exact (ht t h1).2
  have ei : its = Srt.prRefH ts := by
    have : (ps.map fun t => V.ref t.1) = (ps.map (·.1)).map V.ref := by rw [List.map_map]; rfl
    rw [this] at rv
    rw [vals_refs rv, ← e1, List.map_map]; rfl
  subst ei
  have hz : ts.length ≤ sizeLine := by
    have := congrArg List.length e1
    rw [List.length_map, List.length_map] at this
    rw [List.length_map] at z
    omega
  have hk : ∀ t ∈ ts, (tupleKind (mixKind X.prog X.w)).is s.heap t.k t.b := fun t h => by
    obtain ⟨p, hp, h1, h2, _⟩ := Paired.fromR e4 t h
    rw [← h1, ← h2]
    exact ky_is I (ht p hp).2
  refine Srt.dict_pairsH (I.ok.hd hc) e hu e2 hk hz fun s' k g d o dd => ?_
  have hb : (s.heap.objs.size == sysModules) = false := beq_eq_false_iff_ne.mpr (Ne.symm (Nat.ne_of_lt I.big))
  have hn := I.fresh
  refine ⟨.ref s.heap.objs.size, _, I.new k g d o (Nat.le_refl _) (o := .dZ zs (mergeZ (ps.map (·.2.2)))) (z_new ?_ hb (KZ.keeps (KZ.fold e4 (fun p hp => z2 _ (List.mem_map.mpr ⟨p, hp, rfl⟩)) .nil) (fun c ys ec => ?_) fun _ h => h) dd), rfl, q _ zs hn z1⟩
  · have := length_mergeZ (ps.map (·.2.2))
    rw [List.length_map] at this z
    omega
  · rw [upd_ne (ne_of_none ec hn)]; exact ec
noncomputable def rLenZ (K : PySem.W.Frag) : List V → Hp → VK → Prop := fun xs H Q => ∃ (p : Addr) (kvs : List (List Key × V)), xs = [.ref p] ∧ DZ K H p kvs ∧ Q (.int (kvs.length : Int)) H
theorem call_lenZ {X : Cx} : CallR X (.builtin "len") (rLenZ X.K) := by
  intro pins s σ H xs us Q I r h
  obtain ⟨p, kvs, rfl, ⟨zs, e, hz⟩, q⟩ := h
  obtain ⟨u, rfl, ru⟩ := r.one
  cases ru
  obtain ⟨z, hsm, xs, rel, dd⟩ := dz_rd I e hz
  obtain ⟨o, es, ep, ho, hx, hd, he, his, hn⟩ := dd
  have hsz : es.size = kvs.length := by rw [size_of_entries he, Paired.length rel]
  refine Srt.len_raw hsm ⟨o, ho, hx, hd⟩ (by rw [hsz]; rw [sizeLine_eq] at z; omega) ?_
  rw [hsz]
  exact ⟨.int (kvs.length : Int), H, I.tok _, ⟨_, rfl⟩, q⟩
section
variable {X : Cx} {pins : List (Addr × Obj)} {σ : St} {H : Hp} {s : Shared}
theorem eq_fun (I : Inv X pins σ H s) {A : Around} {its : List Value} {xs : List V} {ds : List D} {e : D} {y : V} {u : Value} (rv : Vals xs its) (il : IsL X.K H ds xs) (ie : Is X.K H e y) (ry : RelV y u) (hu : A.units + D.depL ds < cLine) :
    ∃ f : Value → Bool, (∀ z ∈ its.toArray, SeqAt.EqAt A s z u (f z)) ∧ (∀ (i : Nat) z d, its[i]? = some z → ds[i]? = some d → f z = D.beq d e) := by
  classical
  have at_ : ∀ (i : Nat) z, its[i]? = some z → ∃ d v, ds[i]? = some d ∧ Is X.K H d v ∧ RelV v z := fun i z hz => by
    have hi : i < its.length := (List.getElem?_eq_some_iff.mp hz).1
    have hx : i < xs.length := by rw [rv.length]; exact hi
    obtain ⟨z', e1, r1⟩ := rv.get (List.getElem?_eq_getElem hx)
    rw [hz] at e1
    cases e1
    obtain ⟨d, e2, id⟩ := il.get' (List.getElem?_eq_getElem hx)
    exact ⟨d, _, e2, id, r1⟩
  let f : Value → Bool := fun z => decide (∃ (i : Nat) (d : D), its[i]? = some z ∧ ds[i]? = some d ∧ D.beq d e = true)
  have hf : ∀ (i : Nat) z d, its[i]? = some z → ds[i]? = some d → f z = D.beq d e := fun i z d h1 h2 => by
    cases hb : D.beq d e with
    | true => exact decide_eq_true ⟨i, d, h1, h2, hb⟩
    | false =>
      refine decide_eq_false fun hx => ?_
      obtain ⟨j, d', g1, g2, g3⟩ := hx
      obtain ⟨d1, v1, a1, a2, a3⟩ := at_ i z h1
      obtain ⟨d2, v2, b1, b2, b3⟩ := at_ j z g1
      rw [h2] at a1
      rw [g2] at b1
      cases a1
      cases b1
      obtain rfl := a3.inj b3
      obtain rfl := Is.inj I a2 b2
      rw [hb] at g3
      cases g3
  refine ⟨f, fun z hz => ?_, hf⟩
  obtain ⟨i, hi⟩ := List.mem_iff_getElem?.mp (show z ∈ its by simpa using hz)
  obtain ⟨d, v, a1, a2, a3⟩ := at_ i z hi
  rw [hf i z d hi a1]
  have hd : d.dep ≤ D.depL ds := by
    clear hf hu at_ il rv hi hz a2
    induction ds generalizing i with
    | nil => simp at a1
    | cons x ds ih =>
      rw [show D.depL (x :: ds) = max x.dep (D.depL ds) by conv => lhs; unfold D.depL]
      cases i with
      | zero => cases (show some x = some d from a1); exact Nat.le_max_left _ _
      | succ i => exact Nat.le_trans (ih i a1) (Nat.le_max_right _ _)
  exact eqAt_D I d e a2 ie a3 ry (by omega)
theorem any_fun {its : List Value} {ds : List D} {f : Value → Bool} {e : D} (hl : ds.length = its.length) (hf : ∀ (i : Nat) z d, its[i]? = some z → ds[i]? = some d → f z = D.beq d e) : its.toArray.any f = ds.any fun d => D.beq d e := by
  rw [List.any_toArray]
  induction its generalizing ds with
  | nil =>
    cases ds with
    | nil => rfl
    | cons d ds => cases hl
  | cons z its ih =>
    cases ds with
    | nil => cases hl
    | cons d ds =>
      rw [List.any_cons, List.any_cons, hf 0 z d rfl rfl, ih (by simpa using hl) fun i z' d' h1 h2 => hf (i + 1) z' d' h1 h2]
end
noncomputable def tInL (K : PySem.W.Frag) (n : Nat) (ty tl : TE) : TE := fun σ H Q => ty σ H fun y H1 => tl σ H1 fun x H2 => ∃ a xs ds e, x = .ref a ∧ SqL K H2 a xs ∧ IsL K H2 ds xs ∧ Is K H2 e y ∧ D.depL ds < n ∧ Q (.bl (ds.any fun d => D.beq d e)) H2
noncomputable def tNotInL (K : PySem.W.Frag) (n : Nat) (ty tl : TE) : TE := fun σ H Q => ty σ H fun y H1 => tl σ H1 fun x H2 => ∃ a xs ds e, x = .ref a ∧ SqL K H2 a xs ∧ IsL K H2 ds xs ∧ Is K H2 e y ∧ D.depL ds < n ∧ Q (.bl (!ds.any fun d => D.beq d e)) H2
section
variable {X : Cx} {o i : Expr} {td ty : TE} {n : Nat}
theorem pc_inL (hu : X.A.units + 1 + n < cLine) (hi : PE X i ty) (ho : PE X o td) : PC X .In i o (tInL X.K n ty td) := by
  intro pins s σ H Q I h
  refine thn (hi pins s σ H _ I h) fun iv s1 hp => ?_
  obtain ⟨y, H1, I1, ry, q1⟩ := hp
  refine thn (ho pins s1 σ H1 _ I1 q1) fun u s2 hp => ?_
  obtain ⟨x, H2, I2, rx, a, xs, ds, e, rfl, hq, il, ie, hn, q2⟩ := hp
  cases rx
  obtain ⟨its, rv, pl, _⟩ := I2.list hq
  obtain ⟨f, h1, h2⟩ := eq_fun (A := X.A.in1) I2 rv il ie ry (by show X.A.units + 1 + _ < cLine; omega)
  refine SeqAt.in_listAt f pl.isList h1 ?_
  rw [any_fun (by rw [il.length, rv.length]) h2]
  exact ⟨.bl (ds.any fun d => D.beq d e), H2, I2, rfl, q2⟩
theorem pc_notinL (hu : X.A.units + 1 + n < cLine) (hi : PE X i ty) (ho : PE X o td) : PC X .NotIn i o (tNotInL X.K n ty td) := by
  intro pins s σ H Q I h
  refine thn (hi pins s σ H _ I h) fun iv s1 hp => ?_
  obtain ⟨y, H1, I1, ry, q1⟩ := hp
  refine thn (ho pins s1 σ H1 _ I1 q1) fun u s2 hp => ?_
  obtain ⟨x, H2, I2, rx, a, xs, ds, e, rfl, hq, il, ie, hn, q2⟩ := hp
  cases rx
  obtain ⟨its, rv, pl, _⟩ := I2.list hq
  obtain ⟨f, h1, h2⟩ := eq_fun (A := X.A.in1) I2 rv il ie ry (by show X.A.units + 1 + _ < cLine; omega)
  refine SeqAt.notIn_listAt f pl.isList h1 ?_
  rw [any_fun (by rw [il.length, rv.length]) h2]
  exact ⟨.bl (!ds.any fun d => D.beq d e), H2, I2, rfl, q2⟩
end
noncomputable def rIndex (K : PySem.W.Frag) (n : Nat) : V → List V → Hp → VK → Prop := fun x vs H Q => ∃ (a : Addr) (xs : List V) (ds : List D) (e : D) (y : V) (j : Nat) (d : D), x = .ref a ∧ vs = [y] ∧ H a = some (.lst xs) ∧ IsL K H ds xs ∧ Is K H e y ∧ D.depL ds < n ∧ ds[j]? = some d ∧ D.beq d e = true ∧ (∀ m d', m < j → ds[m]? = some d' → D.beq d' e = false) ∧ Q (.int (j : Int)) H
theorem mt_index {X : Cx} {n : Nat} (hu : X.A.units + 1 + n < cLine) : MtM X "list.index" (rIndex X.K n) := by
  intro pins s σ H x vs v us Q I rx rv h
  obtain ⟨a, xs, ds, e, y, j, d, rfl, rfl, ha, il, ie, hn, hj, hb, hno, q⟩ := h
  cases rx
  obtain ⟨u, rfl, ry⟩ := rv.one
  obtain ⟨z, its, c, rvs, hlen, eo⟩ := I.lstM ha
  obtain ⟨f, h1, h2⟩ := eq_fun (A := X.A.in1) I rvs il ie ry (by show X.A.units + 1 + _ < cLine; omega)
  have hl : ds.length = its.length := by rw [il.length, rvs.length]
  have hjd : j < ds.length := (List.getElem?_eq_some_iff.mp hj).1
  have hji : j < its.toArray.size := by simp; omega
  have at_ : ∀ (m : Nat) (hm : m < its.toArray.size), its[m]? = some its.toArray[m] := fun m hm => by simp
  rw [sizeLine_eq] at z
  refine call_meets F.slot_list_index (T := "list") ⟨_, eo, rfl⟩ F.entry_list_index (F.args_list_index_2 _ _) (SeqAt.list_indexAt a its.toArray c none #[] u f j hji (by rw [hlen] at z; omega) ?_ fun m hm hmj => ?_) ⟨eo, h1, .int (j : Int), H, I.tok _, ⟨_, rfl⟩, q⟩
  · rw [h2 j _ d (at_ j hji) hj]; exact hb
  · have hmd : m < ds.length := by omega
    rw [h2 m _ ds[m] (at_ m hm) (List.getElem?_eq_getElem hmd)]
    exact hno m _ hmj (List.getElem?_eq_getElem hmd)
end L2
set_option Elab.async false
set_option linter.all false
set_option maxRecDepth 100000
set_option maxHeartbeats 4000000
namespace L2
open PySem PySem.Spec PyProof.Rows
theorem disp_heap {prog : Program} {w : World} {A : Around} {E : Value → Shared → Prop} {s : Shared} {env : Env} {κ : Type} [DecidableEq κ] {knd : PySem.HeapKind prog w κ} {k v : Expr} {pos : Pos} {Q : Value → Shared → Prop} (hu : knd.room A)
    (h : wpAny (model prog w) A (evalPairs (pairTrees [some k] [v] env pos)) (fun vs s₁ => ∃ (a : Addr) (kk : κ) (u : Value), vs = [(.ref a, u)] ∧ knd.is s₁.heap kk a ∧ s₁.heap.DictOfH knd s.heap.objs.size [] ∧
      ∀ h' t', h'.DictOfH knd s.heap.objs.size (storedH [] kk a u) → Heap.SameBut s.heap.objs.size s₁.heap h' → Q (.ref s.heap.objs.size) { s₁ with heap := h', toks := t' }) E { s with heap := s.heap.push { cls := .type "dict", data := .dict #[] } }) :
    wpAny (model prog w) A (eval (.Dict [some k] [v] pos) env) Q E s := by
  have hn := pairTrees_length [some k] [v] env pos rfl rfl
  have h0 : pairTrees [some k] [v] env pos ≠ [] := fun z => by rw [z] at hn; cases hn
  rw [arm_eval_Dict, zip_pairTrees [some k] [v] env pos rfl rfl, dictDisplay_pairs _ h0 (by rw [hn]; show 1 < 17; decide)]
  refine wpAny_bind (wpAny_standAt (wpAny_bind ?_))
  (unfold subDict; refine wpAny_bind (wpAny_alloc (wpAny_bind (wpAny_holding ?_))); rw [if_pos (by rw [hn]; show 1 ≤ 15; decide)])
  refine wpAny_bind (wpAny_mono h (fun vs s₁ h₁ => ?_) fun _ _ e => e)
  obtain ⟨a, kk, u, rfl, his, hm, q⟩ := h₁
  refine wpAny_holding (wpAny_bind ?_)
  simp only [List.forIn_cons, List.forIn_nil]
  refine wpAny_bind (wpAny_bind (wpAny_dictSet_heap (hsz := Nat.zero_le _) hu his hm fun h' dd hs => ?_))
  exact wpAny_pure (wpAny_pure (wpAny_pure (wpAny_pure (wpAny_pure (q h' _ dd hs)))))
noncomputable def tDispZ (K : PySem.W.Frag) (tk tv : TE) : TE := fun σ H Q => ∀ p, H p = none → tk σ (upd H p (.dZ [] [])) fun x H1 => tv σ H1 fun y H2 => ∃ b k, x = .ref b ∧ H2 p = some (.dZ [] []) ∧ Ky K H2 b k ∧ ∀ H3, (∀ c, c ≠ p → H3 c = H2 c) → DW K H3 p [(k, y)] → Q (.ref p) H3
theorem pe_dispZ {X : Cx} {pos : Pos} {k v : Expr} {tk tv : TE} (hu : X.A.units < cLine) (hk : PE X k tk) (hv : PE X v tv) : PE X (.Dict [some k] [v] pos) (tDispZ X.K tk tv) := by
  intro pins s σ H Q I q
  have hn := I.hok.fresh (Nat.le_refl s.heap.objs.size)
  have I1 := I.laid (a := s.heap.objs.size) (o := .dZ [] []) (h' := s.heap.push { cls := .type "dict", data := .dict #[] }) (t' := s.toks) (fun _ _ q => Heap.get?_push_of_some _ q) (Nat.le_refl _)
    ⟨Nat.zero_le _, beq_eq_false_iff_ne.mpr (Ne.symm (Nat.ne_of_lt I.big)), [], .nil, _, #[], 0, Heap.get?_push_size _ rfl, ⟨rfl, rfl, rfl⟩, rfl, rfl, List.nodup_nil⟩
  refine disp_heap (knd := tupleKind (mixKind X.prog X.w)) hu (pairTrees_cons_walk (thn (hk pins _ σ _ _ I1 (q _ hn)) fun u1 s2 hp => ?_))
  obtain ⟨x, H1, I2, rx, q1⟩ := hp
  refine thn (hv pins s2 σ H1 _ I2 q1) fun u2 s3 hp => pairTrees_nil_walk ?_
  obtain ⟨y, H2, I3, ry, b, kk, rfl, e, hb, q2⟩ := hp
  cases rx
  obtain ⟨z, hd, xs, rel, dd⟩ := dz_rd I3 (.inl e) (zs := []) fun _ h => absurd h List.not_mem_nil
  cases rel
  refine ⟨b, kk, u2, rfl, ky_is I3 hb, dd, fun h' t' dd' hs => ?_⟩
  obtain ⟨zs', z1, z2, z3⟩ := key_way (zs := []) (fun _ h => absurd h List.not_mem_nil) hb
  have he : ∃ q, h'.get? s.heap.objs.size = some q := let ⟨q, _, _, hq, _⟩ := dd'; ⟨q, hq⟩
  refine ⟨.ref s.heap.objs.size, _, d_write I3 (by rw [e]; exact True.intro) hs he (z_new (zs := zs') (kvs := [(kk, y)]) (by show 1 ≤ sizeLine; decide) hd (KZ.keeps (KZ.put (kvs := []) (xs := []) .nil kk z3 ry) (fun c ys ec => ?_) fun _ h => h) dd'), rfl, q2 _ (fun c hc => upd_ne hc) ⟨zs', upd_same, z2⟩⟩
  rw [upd_ne (ne_of ec e (fun z => nomatch z))]
  exact ec
end L2
set_option Elab.async false
set_option linter.all false
set_option maxRecDepth 100000
set_option maxHeartbeats 4000000
namespace L2
open PySem PySem.Spec PyProof.Rows
section
variable {X : Cx}
noncomputable def rEqDN (K : PySem.W.Frag) (n : Nat) : R2 := fun x y H Q => (x = .non ∧ (∃ es, Is K H (.tup es) y) ∧ Q (.bl false) H) ∨ rEqD K n false x y H Q
theorem op_eqDN {n : Nat} (hu : X.A.units + 1 + n < cLine) : OpR X (compareOp .Eq) (rEqDN X.K n) := by
  intro pins s σ H x y v u Q I rx ry h
  rcases h with ⟨rfl, ⟨es, hy⟩, q⟩ | h
  · obtain ⟨b, xs, rfl, hq, _⟩ := hy.tup_inv
    cases rx
    cases ry
    obtain ⟨its, _, p, _⟩ := I.tuple hq
    exact SeqAt.RcAt.none_tuple (show s.heap.IsTuple b its.toArray from p) (by omega) X.prog X.w X.xe _ ⟨.bl false, H, I, rfl, q⟩
  · exact op_eqD hu pins s σ H x y v u Q I rx ry h
end
end L2
set_option Elab.async false
set_option linter.all false
set_option maxRecDepth 100000
set_option maxHeartbeats 4000000
namespace L2
open PySem PySem.Spec PyProof.Rows
end L2
set_option Elab.async false
set_option linter.all false
set_option maxRecDepth 100000
set_option maxHeartbeats 4000000
namespace L2
open PySem PySem.Spec PyProof.Rows
section
variable {X : Cx} {e : Expr} {te : TE} {lo hi : Option Expr} {st : Expr} {tl th tk : TO} {pos p2 : Pos}
end
end L2
set_option Elab.async false
set_option linter.all false
set_option maxRecDepth 100000
set_option maxHeartbeats 4000000
namespace L2
open PySem PySem.Spec PyProof.Rows
noncomputable abbrev KN (zs : List (Addr × List D)) (H : Hp) : List (List D × V) → List (List D × Addr × Value) → Prop := Paired fun p q => p.1 = q.1 ∧ TrZ zs H p.1 q.2.1 ∧ RelV p.2 q.2.2
section
variable {zs zs' : List (Addr × List D)} {H H' : Hp} {kvs : List (List D × V)} {xs : List (List D × Addr × Value)}
theorem KN.val (r : KN zs H kvs xs) (k : List D) : RelO (valV kvs k) ((atKey xs k).map (·.2)) := by
  induction r with
  | nil => exact True.intro
  | @cons p q ps qs h t ih =>
    by_cases e : p.1 = k
    · have b : atKey (q :: qs) k = some q.2 := by simp [atKey, List.find?_cons, h.1.symm.trans e]
      rw [valV_pos e, b]
      exact h.2.2
    · have e2 : ¬ q.1 = k := fun z => e (h.1.trans z)
      have b : atKey (q :: qs) k = atKey qs k := by simp [atKey, List.find?_cons, e2]
      rw [valV_neg e, b]
      exact ih
theorem KN.keeps (r : KN zs H kvs xs) (ht : ∀ b ys, H b = some (.tup ys) → H' b = some (.tup ys)) (hz : ∀ z ∈ zs, z ∈ zs') : KN zs' H' kvs xs :=
  Paired.mapP r fun _ _ z => ⟨z.1, TrD.mono (fun b ds h => hz (b, ds) h) ht z.2.1, z.2.2⟩
theorem KN.put (r : KN zs H kvs xs) (k : List D) {b : Addr} {y : V} {u : Value} (hb : TrZ zs H k b) (ry : RelV y u) : KN zs H (putK kvs k y) (storedH xs k b u) := by
  have e : (kvs.any fun kv => decide (kv.1 = k)) = (atKey xs k).isSome := by rw [valV_any, (r.val k).isSome_eq, Option.isSome_map]
  unfold putK storedH
  rw [e]
  by_cases q : (atKey xs k).isSome = true
  · rw [if_pos q, if_pos q]
    clear e q
    induction r with
    | nil => exact .nil
    | @cons p q ps qs h t ih =>
      rw [List.map_cons, List.map_cons]
      refine .cons ?_ ih
      unfold putAt
      by_cases e : p.1 = k
      · rw [if_pos e, if_pos (h.1.symm.trans e)]; exact ⟨h.1, h.2.1, ry⟩
      · rw [if_neg e, if_neg (fun z => e (h.1.trans z))]; exact h
  · rw [if_neg q, if_neg q]
    exact Paired.snoc r ⟨rfl, hb, ry⟩
end
noncomputable def CnD (K : PySem.W.Frag) (b : Addr) (ds : List D) : Prop := ∃ ks : List Key, ds = ks.map keyD ∧ Cn K b ks
noncomputable def CzN (K : PySem.W.Frag) (zs : List (Addr × List D)) : Prop := ∀ z ∈ zs, CnD K z.1 z.2
noncomputable def Shal (kvs : List (List D × V)) : Prop := ∀ kv ∈ kvs, D.depL kv.1 ≤ 3
noncomputable def DN (K : PySem.W.Frag) (H : Hp) (a : Addr) (kvs : List (List D × V)) : Prop := ∃ zs, Rd H a (.dN zs kvs) ∧ CzN K zs ∧ Shal kvs
noncomputable def DNW (K : PySem.W.Frag) (H : Hp) (a : Addr) (kvs : List (List D × V)) : Prop := ∃ zs, H a = some (.dN zs kvs) ∧ CzN K zs ∧ Shal kvs
theorem DNW.rd {K : PySem.W.Frag} {H : Hp} {a : Addr} {kvs : List (List D × V)} (h : DNW K H a kvs) : DN K H a kvs := let ⟨zs, e, c⟩ := h; ⟨zs, .inl e, c⟩
noncomputable def KyN (K : PySem.W.Frag) (H : Hp) (b : Addr) (k : List D) : Prop := TrD (CnD K) H (.tup k) (.ref b) ∧ D.depL k ≤ 3
theorem trd_int {C : Addr → List D → Prop} {H : Hp} {i : Int} : TrD C H (.int i) (.int i) := by unfold TrD; rfl
theorem trd_str {C : Addr → List D → Prop} {H : Hp} {x : Str} : TrD C H (.str x) (.str x) := by unfold TrD; rfl
theorem trd_tup {C : Addr → List D → Prop} {H : Hp} {b : Addr} {ds : List D} {vs : List V} (h : H b = some (.tup vs)) (l : TrDL C H ds vs) : TrD C H (.tup ds) (.ref b) := by unfold TrD; exact ⟨b, rfl, .inr ⟨vs, h, l⟩⟩
theorem trd_con {C : Addr → List D → Prop} {H : Hp} {b : Addr} {ds : List D} (h : C b ds) : TrD C H (.tup ds) (.ref b) := by unfold TrD; exact ⟨b, rfl, .inl h⟩
theorem trl_nil {C : Addr → List D → Prop} {H : Hp} : TrDL C H [] [] := by unfold TrDL; rfl
theorem trl_cons {C : Addr → List D → Prop} {H : Hp} {d : D} {ds : List D} {v : V} {vs : List V} (h : TrD C H d v) (l : TrDL C H ds vs) : TrDL C H (d :: ds) (v :: vs) := by unfold TrDL; exact ⟨v, vs, rfl, h, l⟩
theorem trd_key {C : Addr → List D → Prop} {H : Hp} (k : Key) : TrD C H (keyD k) (kV k) := by
  cases k with
  | inl i => exact trd_int
  | inr x => exact trd_str
theorem trl_keys {C : Addr → List D → Prop} {H : Hp} : ∀ ks : List Key, TrDL C H (ks.map keyD) (ks.map kV)
  | [] => trl_nil
  | k :: ks => trl_cons (trd_key k) (trl_keys ks)
theorem trd_ky {K : PySem.W.Frag} {H : Hp} {b : Addr} {k : List Key} (h : Ky K H b k) : TrD (CnD K) H (.tup (k.map keyD)) (.ref b) := by
  rcases h with h | h
  · exact trd_tup h (trl_keys k)
  · exact trd_con ⟨k, rfl, h⟩
mutual
theorem trd_col {K : PySem.W.Frag} {H : Hp} : ∀ {d : D} {v : V}, TrD (CnD K) H d v → ∃ zc, CzN K zc ∧ TrD (fun b ds => (b, ds) ∈ zc) H d v
  | .non, _, h => by unfold TrD at h; exact h.elim
  | .int _, _, h => ⟨[], fun _ h => absurd h List.not_mem_nil, by unfold TrD at h ⊢; exact h⟩
  | .str _, _, h => ⟨[], fun _ h => absurd h List.not_mem_nil, by unfold TrD at h ⊢; exact h⟩
  | .tup ds, _, h => by
    unfold TrD at h
    obtain ⟨b, rfl, h⟩ := h
    rcases h with h | ⟨vs, h1, h2⟩
    · exact ⟨[(b, ds)], fun z hz => by rw [List.mem_singleton.mp hz]; exact h, trd_con (List.mem_singleton.mpr rfl)⟩
    · obtain ⟨zc, c1, c2⟩ := trl_col h2
      exact ⟨zc, c1, trd_tup h1 c2⟩
theorem trl_col {K : PySem.W.Frag} {H : Hp} : ∀ {ds : List D} {vs : List V}, TrDL (CnD K) H ds vs → ∃ zc, CzN K zc ∧ TrDL (fun b ds => (b, ds) ∈ zc) H ds vs
  | [], _, h => ⟨[], fun _ h => absurd h List.not_mem_nil, by unfold TrDL at h ⊢; exact h⟩
  | d :: ds, _, h => by
    unfold TrDL at h
    obtain ⟨v, r, rfl, p, q⟩ := h
    obtain ⟨z1, c1, t1⟩ := trd_col p
    obtain ⟨z2, c2, t2⟩ := trl_col q
    exact ⟨z1 ++ z2, fun z hz => (List.mem_append.mp hz).elim (c1 z) (c2 z), trl_cons (TrD.mono (fun _ _ h => List.mem_append_left _ h) (fun _ _ e => e) t1) (TrDL.mono (fun _ _ h => List.mem_append_right _ h) (fun _ _ e => e) t2)⟩
end
theorem nroom_in1 {P : Program} {w : World} {A : Around} (hu : A.units + 5 < cLine) : (nkind P w).room A.in1 := by show A.units + 1 + 4 < cLine; omega
theorem shal_put {kvs : List (List D × V)} (h : Shal kvs) {k : List D} {v : V} (hk : D.depL k ≤ 3) : Shal (putK kvs k v) := fun kv hkv => by
  cases e : valV kvs k with
  | none =>
    rw [putK_new v e] at hkv
    rcases List.mem_append.mp hkv with h1 | h1
    · exact h kv h1
    · rw [List.mem_singleton.mp h1]; exact hk
  | some u =>
    unfold putK at hkv
    rw [valV_any, e] at hkv
    obtain ⟨p, hp, rfl⟩ := List.mem_map.mp (show kv ∈ kvs.map fun kv => if kv.1 = k then (kv.1, v) else kv from hkv)
    have := h p hp
    by_cases z : p.1 = k
    · rw [if_pos z]; exact this
    · rw [if_neg z]; exact this
section
variable {X : Cx} {pins : List (Addr × Obj)} {σ : St} {H : Hp} {s : Shared}
noncomputable def Lv (X : Cx) (H : Hp) (s : Shared) (n : Nat) (knd : VKind X.prog X.w n) : Prop := (∀ d u, flatIs d u → knd.is s.heap d u) ∧ ∀ d v u, TrD (CnD X.K) H d v → RelV v u → d.dep ≤ n → knd.is s.heap d u
theorem flat_rel {k : Key} {u : Value} (r : RelV (kV k) u) : flatIs (keyD k) u := by
  cases k with
  | inl i => obtain ⟨t, rfl⟩ := (show ∃ t, u = Value.int i t from r); exact ⟨.inl i, rfl, keyIs_int i t⟩
  | inr x => obtain ⟨t, rfl⟩ := (show ∃ t, u = Value.str x t from r); exact ⟨.inr x, rfl, keyIs_str x t⟩
theorem lv_tup (I : Inv X pins σ H s) {n : Nat} {knd : VKind X.prog X.w n} (hL : Lv X H s n knd) {ds : List D} {b : Addr} (h : TrD (CnD X.K) H (.tup ds) (.ref b)) (hd : D.depL ds ≤ n) : IsTupN knd s.heap ds b := by
  unfold TrD at h
  obtain ⟨b', e, h⟩ := h
  cases e
  rcases h with ⟨ks, rfl, hc⟩ | ⟨vs, h1, h2⟩
  · obtain ⟨its, r, ⟨o, h1, h2, m, h3⟩, _⟩ := I.tuple (Or.inr hc : SqT X.K H b (ks.map kV))
    refine ⟨o, its.toArray, m, h1, h2, h3, ?_⟩
    have go : ∀ {ks : List Key} {its : List Value}, Vals (ks.map kV) its → ItemsN knd s.heap (ks.map keyD) its := by
      intro ks
      induction ks with
      | nil => intro its r; obtain rfl := r.zero; exact .nil
      | cons k ks ih =>
        intro its r
        obtain ⟨u, us, rfl, a, t⟩ := r.consI
        exact .cons (hL.1 _ _ (flat_rel a)) (ih t)
    simpa using go r
  · obtain ⟨its, r, ⟨o, g1, g2, m, g3⟩, _⟩ := I.tuple (SqT.of h1 : SqT X.K H b vs)
    refine ⟨o, its.toArray, m, g1, g2, g3, ?_⟩
    have go : ∀ {ds : List D} {vs : List V} {its : List Value}, TrDL (CnD X.K) H ds vs → Vals vs its → D.depL ds ≤ n → ItemsN knd s.heap ds its := by
      intro ds
      induction ds with
      | nil => intro vs its t r _; unfold TrDL at t; subst t; obtain rfl := r.zero; exact .nil
      | cons d ds ih =>
        intro vs its t r hd
        unfold TrDL at t
        obtain ⟨v, rest, rfl, p, q⟩ := t
        obtain ⟨u, us, rfl, a, t'⟩ := r.consI
        have e : D.depL (d :: ds) = max d.dep (D.depL ds) := by conv => lhs; unfold D.depL
        rw [e] at hd
        exact .cons (hL.2 d v u p a (by omega)) (ih q t' (by omega))
    simpa using go h2 r hd
theorem lv_flat : Lv X H s 0 (vFlat X.prog X.w) := by
  refine ⟨fun d u h => h, fun d v u h r hd => ?_⟩
  cases d with
  | non => unfold TrD at h; exact h.elim
  | int i => unfold TrD at h; subst h; exact flat_rel (k := .inl i) r
  | str x => unfold TrD at h; subst h; exact flat_rel (k := .inr x) r
  | tup ds =>
    have e : D.dep (.tup ds) = 1 + D.depL ds := by conv => lhs; unfold D.dep
    omega
theorem lv_step (I : Inv X pins σ H s) {n : Nat} {knd : VKind X.prog X.w n} (hL : Lv X H s n knd) : Lv X H s (n + 1) (vStep knd) := by
  refine ⟨fun d u h => .inl h, fun d v u h r hd => ?_⟩
  cases d with
  | non => unfold TrD at h; exact h.elim
  | int i => unfold TrD at h; subst h; exact .inl (flat_rel (k := .inl i) r)
  | str x => unfold TrD at h; subst h; exact .inl (flat_rel (k := .inr x) r)
  | tup ds =>
    have e : D.dep (.tup ds) = 1 + D.depL ds := by conv => lhs; unfold D.dep
    obtain ⟨b, rfl⟩ : ∃ b, v = .ref b := by unfold TrD at h; obtain ⟨b, e, _⟩ := h; exact ⟨b, e⟩
    cases (show u = Value.ref b from r)
    exact .inr ⟨ds, b, rfl, rfl, lv_tup I hL h (by omega)⟩
end
section
variable {X : Cx} {pins : List (Addr × Obj)} {σ : St} {H : Hp} {s : Shared} {a b : Addr} {zs : List (Addr × List D)} {kvs : List (List D × V)} {k : List D} {v d : V} {u r : Value} {A : Around} {E : Value → Shared → Prop}
theorem kyN_is (I : Inv X pins σ H s) (h : KyN X.K H b k) : (nkind X.prog X.w).is s.heap k b := lv_tup I (lv_step I (lv_step I (lv_step I lv_flat))) h.1 h.2
theorem dn_rd (I : Inv X pins σ H s) (e : Rd H a (.dN zs kvs)) (hz : CzN X.K zs ∧ Shal kvs) : kvs.length ≤ sizeLine ∧ (a == sysModules) = false ∧ ∃ xs, KN zs H kvs xs ∧ s.heap.DictOfH (nkind X.prog X.w) a xs := by
  obtain ⟨z, y, xs, r, o, es, ep, h1, h2, h3, h4, h5⟩ := (show ObjOk X.prog X.w H s.heap a (.dN zs kvs) from rd_of I.hok e)
  refine ⟨z, y, xs, r, o, es, ep, h1, h2, h3, h4, fun x hx => ?_, h5⟩
  obtain ⟨p, hp, q1, q2, _⟩ := Paired.fromR r x hx
  rw [← q1]
  exact kyN_is I ⟨TrD.mono (fun b ds h => hz.1 (b, ds) h) (fun _ _ e => e) q2, hz.2 p hp⟩
theorem n_at (I : Inv X pins σ H s) (g : DN X.K H a kvs) : s.TypeIs (.ref a) "dict" ∧ (∀ b, Value.ref a = .ref b → ∃ ob, s.heap.get? b = some ob ∧ ob.dict = none) ∧ (a == sysModules) = false := by
  obtain ⟨zs, e, hz⟩ := g
  obtain ⟨_, hd, xs, _, dd⟩ := dn_rd I e hz
  refine ⟨dd.typeIs, fun b q => ?_, hd⟩
  cases q
  obtain ⟨ob, _, _, h1, h2, _⟩ := dd
  exact ⟨ob, h1, h2.2.1⟩
theorem n_getItem {Q : Value → Shared → Prop} (hu : A.units + 5 < cLine) (I : Inv X pins σ H s) (g : DN X.K H a kvs) (hk : KyN X.K H b k) (l : valV kvs k = some v) (h : ∀ w' s', Inv X pins σ H s' → RelV v w' → Q w' s') :
    wpAny (model X.prog X.w) A (getItem (.ref a) (.ref b)) Q E s := by
  obtain ⟨zs, e, hz⟩ := g
  obtain ⟨z, hd, xs, rel, dd⟩ := dn_rd I e hz
  obtain ⟨w', hw, rw'⟩ := RelO.some_of (v := v) (o := (atKey xs k).map (·.2)) (by rw [← l]; exact rel.val k)
  obtain ⟨p, hp, hp2⟩ := Option.map_eq_some_iff.mp hw
  refine wpAny_getItem_heap (nroom_in1 hu) (kyN_is I hk) dd hp ?_
  rw [hp2]
  exact h w' _ (I.tok _) rw'
theorem n_in {Q : Value → Shared → Prop} (hu : A.units + 5 < cLine) (I : Inv X pins σ H s) (g : DN X.K H a kvs) (hk : KyN X.K H b k) (h : ∀ s', Inv X pins σ H s' → Q (.bool (valV kvs k).isSome) s') :
    wpAny (model X.prog X.w) A (compareOp .In (.ref b) (.ref a)) Q E s := by
  obtain ⟨zs, e, hz⟩ := g
  obtain ⟨z, hd, xs, rel, dd⟩ := dn_rd I e hz
  refine wpAny_in_heap (nroom_in1 hu) (kyN_is I hk) hd dd ?_
  have q := (rel.val k).isSome_eq
  rw [Option.isSome_map] at q
  rw [← q]
  exact h _ (I.tok _)
theorem n_notIn {Q : Value → Shared → Prop} (hu : A.units + 5 < cLine) (I : Inv X pins σ H s) (g : DN X.K H a kvs) (hk : KyN X.K H b k) (h : ∀ s', Inv X pins σ H s' → Q (.bool (!(valV kvs k).isSome)) s') :
    wpAny (model X.prog X.w) A (compareOp .NotIn (.ref b) (.ref a)) Q E s := by
  obtain ⟨zs, e, hz⟩ := g
  obtain ⟨z, hd, xs, rel, dd⟩ := dn_rd I e hz
  refine wpAny_notIn_heap (nroom_in1 hu) (kyN_is I hk) hd dd ?_
  have q := (rel.val k).isSome_eq
  rw [Option.isSome_map] at q
  rw [← q]
  exact h _ (I.tok _)
theorem keyN_way {K : PySem.W.Frag} (hz : CzN K zs) (hk : KyN K H b k) : ∃ zs', (∀ z ∈ zs, z ∈ zs') ∧ CzN K zs' ∧ TrZ zs' H k b := by
  obtain ⟨zc, c1, c2⟩ := trd_col hk.1
  exact ⟨zs ++ zc, fun _ h => List.mem_append_left _ h, fun z hz' => (List.mem_append.mp hz').elim (hz z) (c1 z), TrD.mono (fun _ _ h => List.mem_append_right _ h) (fun _ _ e => e) c2⟩
theorem n_new {h' : Heap} {H' : Hp} {xs : List (List D × Addr × Value)} (hl : kvs.length ≤ sizeLine) (hd : (a == sysModules) = false) (rel : KN zs H' kvs xs) (dd : h'.DictOfH (nkind X.prog X.w) a xs) : ObjOk X.prog X.w H' h' a (.dN zs kvs) := by
  obtain ⟨q, es, ep, hq, h2, h3, h4, _, h5⟩ := dd
  exact ⟨hl, hd, xs, rel, q, es, ep, hq, h2, h3, h4, h5⟩
theorem n_setItem {Q : Unit → Shared → Prop} (hu : A.units + 5 < cLine) (I : Inv X pins σ H s) (g : DNW X.K H a kvs) (hk : KyN X.K H b k) (hl : kvs.length < sizeLine) (rv : RelV v r)
    (h : ∀ zs' s', CzN X.K zs' ∧ Shal (putK kvs k v) → Inv X pins σ (upd H a (.dN zs' (putK kvs k v))) s' → Q () s') : wpAny (model X.prog X.w) A (setItem (.ref a) (.ref b) r) Q E s := by
  obtain ⟨zs, e, hz⟩ := g
  obtain ⟨z, hd, xs, rel, dd⟩ := dn_rd I (.inl e) hz
  obtain ⟨zs', z1, z2, z3⟩ := keyN_way hz.1 hk
  have hx : xs.length ≤ sizeLine := by rw [← Paired.length rel]; exact z
  have hl2 : (putK kvs k v).length ≤ sizeLine := by have := length_putK kvs k v; omega
  refine wpAny_setItem_heap (hsz := hx) (nroom_in1 hu) (kyN_is I hk) dd fun h' dd' hs => h zs' _ ⟨z2, shal_put hz.2 hk.2⟩ ?_
  have he : ∃ q, h'.get? a = some q := let ⟨q, _, _, hq, _⟩ := dd'; ⟨q, hq⟩
  refine d_write I (by rw [e]; exact True.intro) hs he (n_new hl2 hd (((rel.keeps (fun _ _ e => e) z1).put k z3 rv).keeps (fun c ys ec => ?_) fun _ h => h) dd')
  rw [upd_ne (ne_of ec e (fun z => nomatch z))]
  exact ec
end
end L2
set_option Elab.async false
set_option linter.all false
set_option maxRecDepth 100000
set_option maxHeartbeats 4000000
namespace L2
open PySem PySem.Spec PyProof.Rows
noncomputable def tNGet (K : PySem.W.Frag) (td ty : TE) : TE := fun σ H Q => td σ H fun x H1 => ty σ H1 fun y H2 => ∃ a kvs b k v, x = .ref a ∧ y = .ref b ∧ DN K H2 a kvs ∧ KyN K H2 b k ∧ valV kvs k = some v ∧ Q v H2
noncomputable def tNIn (K : PySem.W.Frag) (ty td : TE) : TE := fun σ H Q => ty σ H fun y H1 => td σ H1 fun x H2 => ∃ a kvs b k, x = .ref a ∧ y = .ref b ∧ DN K H2 a kvs ∧ KyN K H2 b k ∧ Q (.bl (valV kvs k).isSome) H2
noncomputable def tNNotIn (K : PySem.W.Frag) (ty td : TE) : TE := fun σ H Q => ty σ H fun y H1 => td σ H1 fun x H2 => ∃ a kvs b k, x = .ref a ∧ y = .ref b ∧ DN K H2 a kvs ∧ KyN K H2 b k ∧ Q (.bl (!(valV kvs k).isSome)) H2
noncomputable def sNPut (K : PySem.W.Frag) (td ty tv : TE) : TS := fun D σ H => tv σ H fun v H1 => td σ H1 fun x H2 => ty σ H2 fun y H3 => ∃ a kvs b k, x = .ref a ∧ y = .ref b ∧ DNW K H3 a kvs ∧ KyN K H3 b k ∧ kvs.length < sizeLine ∧
  ∀ H4, (∀ c o, c ≠ a → H3 c = some o → H4 c = some o) → (∀ c, c ≠ a → H4 c = H3 c) → DNW K H4 a (putK kvs k v) → D.nx σ H4
noncomputable def tDNewN : TE := fun _ H Q => ∀ p, H p = none → Q (.ref p) (upd H p (.dN [] []))
section
variable {X : Cx} {o i e f value : Expr} {pos pos' tpos apos cpos : Pos} {td ty tv tx : TE}
theorem pe_nget (hu : X.A.units + 5 < cLine) (ho : PE X o td) (hi : PE X i ty) (hs : NoSl i) : PE X (.Subscript o i pos) (tNGet X.K td ty) := by
  intro pins s σ H Q I h
  refine subD_of PySem.F.slot_dict_getitem.lookup hs (thn (ho pins s σ H _ I h) fun u s1 hp => ?_)
  obtain ⟨x, H1, I1, rx, q1⟩ := hp
  refine thn (hi pins s1 σ H1 _ I1 q1) fun iv s2 hp => ?_
  obtain ⟨y, H2, I2, ry, a, kvs, b, k, v, rfl, rfl, g, hk, l, q2⟩ := hp
  cases rx
  cases ry
  exact ⟨(n_at I2 g).1, n_getItem hu I2 g hk l fun w' s3 I3 rw' => ⟨v, H2, I3, rw', q2⟩⟩
theorem pc_nin (hu : X.A.units + 5 < cLine) (hi : PE X i ty) (ho : PE X o td) : PC X .In i o (tNIn X.K ty td) := by
  intro pins s σ H Q I h
  refine thn (hi pins s σ H _ I h) fun iv s1 hp => ?_
  obtain ⟨y, H1, I1, ry, q1⟩ := hp
  refine thn (ho pins s1 σ H1 _ I1 q1) fun u s2 hp => ?_
  obtain ⟨x, H2, I2, rx, a, kvs, b, k, rfl, rfl, g, hk, q2⟩ := hp
  cases rx
  cases ry
  exact n_in hu I2 g hk fun s3 I3 => ⟨.bl (valV kvs k).isSome, H2, I3, rfl, q2⟩
theorem pc_nnotin (hu : X.A.units + 5 < cLine) (hi : PE X i ty) (ho : PE X o td) : PC X .NotIn i o (tNNotIn X.K ty td) := by
  intro pins s σ H Q I h
  refine thn (hi pins s σ H _ I h) fun iv s1 hp => ?_
  obtain ⟨y, H1, I1, ry, q1⟩ := hp
  refine thn (ho pins s1 σ H1 _ I1 q1) fun u s2 hp => ?_
  obtain ⟨x, H2, I2, rx, a, kvs, b, k, rfl, rfl, g, hk, q2⟩ := hp
  cases rx
  cases ry
  exact n_notIn hu I2 g hk fun s3 I3 => ⟨.bl (!(valV kvs k).isSome), H2, I3, rfl, q2⟩
theorem ps_nput (hu : X.A.units + 5 < cLine) (ho : PE X o td) (hi : PE X i ty) (hv : PE X value tv) (hs : swapsWith value (some (.Subscript o i pos')) pos.line X.env = pure false) :
    PS X (.Assign [.Subscript o i pos'] value pos) (sNPut X.K td ty tv) := by
  intro pins s σ H D I h
  refine wpAny_Assign_Subscript (thn (hv pins s σ H _ I h) fun r s1 hp => ?_) hs
  obtain ⟨v, H1, I1, rv, q1⟩ := hp
  refine thn (ho pins s1 σ H1 _ I1 q1) fun u s2 hp => ?_
  obtain ⟨x, H2, I2, rx, q2⟩ := hp
  refine thn (hi pins s2 σ H2 _ I2 q2) fun iv s3 hp => ?_
  obtain ⟨y, H3, I3, ry, a, kvs, b, k, rfl, rfl, g, hk, hl, q3⟩ := hp
  cases rx
  cases ry
  exact n_setItem hu I3 g hk hl rv fun zs' s4 hz I4 => ⟨σ, _, I4, q3 _ (fun c o hc e => by rw [upd_ne hc]; exact e) (fun c hc => upd_ne hc) ⟨zs', upd_same, hz⟩⟩
theorem pe_dnewN : PE X (.Dict [] [] pos) tDNewN := fun pins s σ H Q I h =>
  wpAny_Dict_empty ⟨.ref s.heap.objs.size, _, I.laid (a := s.heap.objs.size) (o := .dN [] []) (t' := s.toks) (fun _ _ q => Heap.get?_push_of_some _ q) (Nat.le_refl _)
    ⟨Nat.zero_le _, beq_eq_false_iff_ne.mpr (Ne.symm (Nat.ne_of_lt I.big)), [], .nil, _, #[], 0, Heap.get?_push_size _ rfl, ⟨rfl, rfl, rfl⟩, rfl, rfl, List.nodup_nil⟩, rfl, h _ (I.hok.fresh (Nat.le_refl _))⟩
end
end L2
set_option Elab.async false
set_option linter.all false
set_option maxRecDepth 100000
set_option maxHeartbeats 4000000
namespace L2
open PySem PySem.Spec PyProof.Rows
section
variable {X : Cx} {o i : Expr} {td ty : TE} {n : Nat}
theorem pc_notinLK {K : PySem.W.Frag} (h : X.K = K) (hi : PE X i ty) (ho : PE X o td) (hu : X.A.units + 1 + n < cLine) : PC X .NotIn i o (tNotInL K n ty td) := h ▸ pc_notinL hu hi ho
end
end L2
set_option Elab.async false
set_option linter.all false
set_option maxRecDepth 100000
set_option maxHeartbeats 4000000
namespace L2
open PySem PySem.Spec PyProof.Rows
section
variable {X : Cx} {o i : Expr} {td ty : TE} {pos : Pos}
theorem ints_are : ∀ {ns : List Int} {its : List Value}, Vals (ns.map V.int) its → IntsAre its ns
  | [], its, r => by obtain rfl := r.zero; exact .nil
  | n :: ns, its, r => by
    obtain ⟨u, us, rfl, a, t⟩ := r.consI
    obtain ⟨tk, rfl⟩ := (show ∃ t, u = Value.int n t from a)
    exact .cons _ _ (ints_are t)
noncomputable def rMinL (K : PySem.W.Frag) : List V → Hp → VK → Prop := fun xs H Q => ∃ (p : Addr) (ns : List Int), xs = [.ref p] ∧ SqL K H p (ns.map V.int) ∧ 0 < ns.length ∧ ∀ m, m ∈ ns → (∀ x ∈ ns, m ≤ x) → Q (.int m) H
theorem call_minL (hc : X.calm = true) : CallR X (.builtin "min") (rMinL X.K) := by
  intro pins s σ H xs us Q I r h
  obtain ⟨p, ns, rfl, hs, hn, q⟩ := h
  obtain ⟨u, rfl, ru⟩ := r.one
  obtain rfl : u = Value.ref p := ru
  obtain ⟨its, rv, hl, _⟩ := I.list hs
  have hl' : s.heap.IsList p its.toArray := hl.isList
  have hi := ints_are rv
  have en := hi.numsOf
  obtain ⟨ys, ey⟩ := hi.allInts.items
  have en2 : numsOf (intItems ys).toList = ns := by rw [← ey]; exact en
  have hsz : 0 < ys.size := by
    have h1 := hi.length
    have h2 := congrArg Array.size ey
    simp [intItems] at h2
    omega
  rw [ey] at hl'
  refine min_intList (I.ok.hd hc) hl' hsz fun v h' tk hv hk => ?_
  obtain ⟨t, rfl⟩ := intItems_at hv
  obtain ⟨h1, h2⟩ := argBest_lt (numAt ys) (ys.size - 1)
  refine ⟨.int _, H, I.kept hk, ⟨t, rfl⟩, q _ ?_ fun a ha => ?_⟩
  · rw [← en2, nums_intItems, numAt_eq]; exact PySem.getD_mem (by rw [List.length_map, Array.length_toList]; omega)
  · rw [← en2, nums_intItems] at ha
    obtain ⟨j, hj, rfl⟩ := mem_getD ha
    rw [List.length_map, Array.length_toList] at hj
    rw [← numAt_eq]; exact h2 j (by omega)
theorem pe_ngetK {K : PySem.W.Frag} (h : X.K = K) (ho : PE X o td) (hi : PE X i ty) (hs : NoSl i) (hu : X.A.units + 5 < cLine) : PE X (.Subscript o i pos) (tNGet K td ty) := h ▸ pe_nget hu ho hi hs
end
end L2
set_option Elab.async false
set_option linter.all false
set_option maxRecDepth 100000
set_option maxHeartbeats 4000000
namespace L2
open PySem PySem.Spec PyProof.Rows
theorem comp_zip {K : PySem.W.Frag} {a b : Addr} {xs ys : List V} {vn : Nat} {g : TG} {tc : TT} {te : TE} {σ : St} {p : Addr} {H1 : Hp} {Q : Hp → Prop} (Pv : Nat → Hp → Prop) (hlen : xs.length = ys.length) (h0 : Pv 0 (upd H1 p (.lst []))) (hl : ∀ i H, i ≤ xs.length → Pv i H → SqL K H a xs ∧ SqL K H b ys)
    (hs : ∀ i x y H t, xs[i]? = some x → ys[i]? = some y → Pv i H → H t = none → g (.ref t) (List.replicate vn none ++ σ) (upd H t (.tup [x, y])) fun σ2 H2 => (∃ τ : St, σ2 = τ ++ σ ∧ τ.length = vn) ∧ tc σ2 H2 fun b H3 =>
      if b = true then te σ2 H3 fun v H4 => ∃ acc, H4 p = some (.lst acc) ∧ acc.length < sizeLine ∧ Pv (i + 1) (upd H4 p (.lst (acc ++ [v]))) else Pv (i + 1) H3) (hd : ∀ H, Pv xs.length H → Q H) : tCompW (Itz K a b) vn g tc te σ p H1 Q := by
  refine ⟨fun i m H => i ≤ xs.length ∧ m = xs.length - i ∧ Pv i H, ⟨xs.length, Nat.zero_le _, rfl, h0⟩, fun i m H hw => ?_⟩
  obtain ⟨hi, rfl, hp⟩ := hw
  obtain ⟨hq, hq2⟩ := hl i H hi hp
  by_cases hlt : i < xs.length
  · have hlt2 : i < ys.length := by omega
    refine .inr ⟨⟨xs, ys, xs[i], ys[i], hq, hq2, List.getElem?_eq_getElem hlt, List.getElem?_eq_getElem hlt2⟩, Pv (i + 1), fun H' h' => ⟨xs.length - (i + 1), by omega, by omega, rfl, h'⟩, fun x H' hy => ?_⟩
    obtain ⟨t, nt, rfl, hv⟩ := hy
    obtain ⟨v, u, ev, eu, rfl⟩ := hv xs ys hq hq2
    exact hs i v u H t ev eu hp nt
  · have e : i = xs.length := by omega
    subst e
    exact .inl ⟨⟨xs, ys, hq, hq2, .inl (Nat.le_refl _)⟩, hd H hp⟩
end L2
set_option Elab.async false
set_option linter.all false
set_option maxRecDepth 100000
set_option maxHeartbeats 4000000
namespace Srt
open PySem PyProof.Rows
section
variable {prog : Program} {w : World} {A : Around} {E : Value → Shared → Prop} {s : Shared} {d it v : Addr} {es : Array DictEntry} {ep i : Nat}
theorem values_raw {Q : Value → Shared → Prop} (hd : (d == sysModules) = false) (hm : RawD s.heap d es ep) (h : Q (.ref s.heap.objs.size) { s with heap := s.heap.push { cls := .type "dict_values", data := .fields #[.ref d] } }) :
    wpAny (model prog w) A (call (.builtin "dict.values") [.ref d]) Q E s := by
  have hT : s.TypeIs (.ref d) "dict" := hm.ty
  refine wpAny_call_entry F.slot_dict_values hT F.entry_dict_values ?_ (F.args_dict_values_1 _)
  refine wpAny_bind ?_
  unfold Builtin.Dict.noArgs
  refine wpAny_bind (wpAny_notOrdered_dict hT ?_)
  show wpAny _ _ (pure d) _ _ s
  refine wpAny_pure ?_
  show wpAny _ _ (Builtin.Dict.showsAll d >>= _) _ _ s
  unfold Builtin.Dict.showsAll
  rw [if_neg (by rw [hd]; exact Bool.false_ne_true)]
  refine wpAny_bind (wpAny_pure ?_)
  exact wpAny_bind (wpAny_newObj_type (wpAny_pure ⟨_, rfl, h⟩))
theorem iterV_raw {Q : Value → Shared → Prop} (hv : s.heap.IsValuesView v d) (hm : RawD s.heap d es ep)
    (hQ : Q (.ref s.heap.objs.size) { s with heap := s.heap.push { cls := .type "dict_valueiterator", data := .fields #[.ref d, .int 0 0, .int es.size 0, .int ep 0] } }) : wpAny (model prog w) A (pyIter (.ref v)) Q E s := by
  obtain ⟨ov, hov, hcv, hdv⟩ := id hv
  obtain ⟨o, ho, hc, hdat⟩ := hm
  refine wpAny_pyIter_slot hv.typeIs F.slot_dict_values_iter (wpAny_call_entry F.slot_dict_values_iter hv.typeIs F.entry_dict_values_iter ?_ (F.args_dict_values_iter_1 _))
  unfold Builtin.«dict_values.__iter__»
  refine wpAny_bind (wpAny_pure ?_)
  refine wpAny_bind ?_
  unfold Builtin.Dict_items.dictOf
  refine wpAny_bind (wpAny_field hov hdv (x := .ref d) rfl (wpAny_pure ?_))
  refine wpAny_bind ?_
  unfold Builtin.Dict_items.newIterator
  refine wpAny_bind (wpAny_dictEntries ho hdat ?_)
  refine wpAny_bind (wpAny_dictEpoch ho hdat ?_)
  have hown : Builtin.Dict_items.ownsTuple "dict_valueiterator" = false := by decide
  simp only [hown, Bool.false_eq_true, if_false]
  refine wpAny_newObj_type (wpAny_pure ⟨_, rfl, "dict_valueiterator", _, ⟨_, Heap.get?_push_size _ rfl, rfl⟩, F.slot_dict_valueiterator_next.lookup, ?_⟩)
  simpa [rawInt] using hQ
theorem nextV_raw {e : DictEntry} {Q : Option Value → Shared → Prop} (hit : s.heap.IsValIter it d i es.size ep) (hm : RawD s.heap d es ep) (hx : es[i]? = some e)
    (hQ : ∀ h', h'.IsValIter it d (i + 1) es.size ep → Heap.SameBut it s.heap h' → Q (some e.val) { s with heap := h' }) : wpAny (model prog w) A (pyNext (.ref it)) Q E s := by
  have hTi := hit.typeIs
  obtain ⟨o, ho, hc, hd⟩ := id hit
  obtain ⟨od, hod, hcd, hdd⟩ := hm
  have hlt : i < es.size := by
    rcases Nat.lt_or_ge i es.size with h | h
    · exact h
    · rw [Array.getElem?_eq_none h] at hx; cases hx
  have hown : Builtin.Dict_items.ownsTuple "dict_valueiterator" = false := by decide
  (unfold pyNext; refine wpAny_bind (wpAny_attempt (wpAny_callSpecial?_slot (name := Str.ofString "__next__") hTi F.slot_dict_valueiterator_next (wpAny_call_entry F.slot_dict_valueiterator_next hTi F.entry_dict_valueiterator_next ?_ (F.args_dict_valueiterator_next_1 _)))))
  (refine wpAny_bind (wpAny_pure ?_); refine wpAny_bind ?_; refine wpAny_bind ?_)
  first | refine wpAny_bind (wpAny_typeNameOfWhole_valiter hTi (wpAny_pure (wpAny_bind (wpAny_fieldsOf ho hd ?_)))) | refine wpAny_bind (wpAny_typeNameOf_valiter hTi (wpAny_pure (wpAny_bind (wpAny_fieldsOf ho hd ?_))))
  (simp only [hown, Bool.false_eq_true, if_false]; show wpAny _ _ (if (Value.ref d == Value.none) = true then _ else _) _ _ s)
  (rw [if_neg (show ¬ ((Value.ref d == Value.none) = true) from Bool.false_ne_true)]; refine wpAny_bind (wpAny_pure (wpAny_bind (wpAny_dictEntries hod hdd ?_))))
  (rw [if_neg (by simp)]; refine wpAny_bind (wpAny_pure (wpAny_bind (wpAny_dictEpoch hod hdd ?_))); rw [if_neg (by simp)]; refine wpAny_pure ?_)
  simp only [show ¬ ((i : Int) < 0) from by omega, if_false, Int.toNat_natCast, hx]
  refine wpAny_bind ?_
  first | refine wpAny_bind (wpAny_typeNameOfWhole_valiter hTi (wpAny_pure (wpAny_bind (wpAny_isOneOf_valiter hTi ?_)))) | refine wpAny_bind (wpAny_typeNameOf_valiter hTi (wpAny_pure (wpAny_bind (wpAny_isOneOf_valiter hTi ?_))))
  (show wpAny _ _ (setField (.ref it) 1 (rawInt ((i : Int) + 1)) >>= _) _ _ s; refine wpAny_bind (wpAny_setField ho hd (by simp) ?_))
  have hit' : (s.heap.update it (Obj.mapFields (·.setIfInBounds 1 (rawInt ((i : Int) + 1))))).IsValIter it d (i + 1) es.size ep :=
    ⟨_, Heap.get?_update_self _ ho (Obj.isFreed_of_fields (Obj.data_mapFields hd _)), (Obj.cls_mapFields ..).trans hc, by rw [Obj.data_mapFields hd]; simp [rawInt]⟩
  refine wpAny_bind (wpAny_holding (wpAny_bind (wpAny_isOneOf_valiter (s := { s with heap := s.heap.update it (Obj.mapFields (·.setIfInBounds 1 (rawInt ((i : Int) + 1)))) }) hit'.typeIs ?_)))
  refine wpAny_bind (wpAny_isOneOf_valiter (s := { s with heap := s.heap.update it (Obj.mapFields (·.setIfInBounds 1 (rawInt ((i : Int) + 1)))) }) hit'.typeIs ?_)
  (show wpAny _ _ (pure e.val) _ _ _; exact wpAny_pure (wpAny_pure ⟨_, rfl, wpAny_pure (hQ _ hit' (Heap.SameBut.update ..))⟩))
theorem endV_raw {Q : Option Value → Shared → Prop} (hh : A.handled = none) (hit : s.heap.IsValIter it d i es.size ep) (hm : RawD s.heap d es ep) (hx : es.size ≤ i)
    (hQ : ∀ h', Heap.ExtBut it s.heap h' → Q none { s with heap := h' }) : wpAny (model prog w) A (pyNext (.ref it)) Q E s := by
  have hTi := hit.typeIs
  obtain ⟨o, ho, hc, hd⟩ := id hit
  obtain ⟨od, hod, hcd, hdd⟩ := hm
  have hown : Builtin.Dict_items.ownsTuple "dict_valueiterator" = false := by decide
  (unfold pyNext; refine wpAny_bind (wpAny_attempt (wpAny_callSpecial?_slot (name := Str.ofString "__next__") hTi F.slot_dict_valueiterator_next (wpAny_call_entry F.slot_dict_valueiterator_next hTi F.entry_dict_valueiterator_next ?_ (F.args_dict_valueiterator_next_1 _)))))
  (refine wpAny_bind (wpAny_pure ?_); refine wpAny_bind ?_; refine wpAny_bind ?_)
  first | refine wpAny_bind (wpAny_typeNameOfWhole_valiter hTi (wpAny_pure (wpAny_bind (wpAny_fieldsOf ho hd ?_)))) | refine wpAny_bind (wpAny_typeNameOf_valiter hTi (wpAny_pure (wpAny_bind (wpAny_fieldsOf ho hd ?_))))
  (simp only [hown, Bool.false_eq_true, if_false]; show wpAny _ _ (if (Value.ref d == Value.none) = true then _ else _) _ _ s)
  (rw [if_neg (show ¬ ((Value.ref d == Value.none) = true) from Bool.false_ne_true)]; refine wpAny_bind (wpAny_pure (wpAny_bind (wpAny_dictEntries hod hdd ?_))))
  (rw [if_neg (by simp)]; refine wpAny_bind (wpAny_pure (wpAny_bind (wpAny_dictEpoch hod hdd ?_))); rw [if_neg (by simp)]; refine wpAny_pure ?_)
  simp only [show ¬ ((i : Int) < 0) from by omega, if_false, Int.toNat_natCast, Array.getElem?_eq_none hx]
  refine wpAny_bind ?_
  first | refine wpAny_bind (wpAny_typeNameOfWhole_valiter hTi (wpAny_pure ?_)) | refine wpAny_bind (wpAny_typeNameOf_valiter hTi (wpAny_pure ?_))
  (show wpAny _ _ (setField (.ref it) 0 .none >>= _) _ _ s; refine wpAny_bind (wpAny_setField ho hd (by simp) ?_); show wpAny _ _ (newExc (.type "StopIteration") [] >>= _) _ _ _; refine wpAny_bind ?_; simp only [newExc, newTuple])
  refine wpAny_bind (wpAny_newObj_type (wpAny_bind (m := firstArgMember _ _) (wpAny_of_eq (a := Value.none) (by first | rfl | (simp only [firstArgMember]; rfl)) (wpAny_newObj_type ?_ (by size_fits)))) (by size_fits))
  (simp only [raiseNew]; refine wpAny_bind (wpAny_handled ?_); rw [show A.in1.handled = none from hh])
  (refine wpAny_bind (wpAny_pure (wpAny_throw ?_)); refine wpAny_bind (wpAny_isInstance (T := "StopIteration") (b := true) ⟨_, Heap.get?_push_size _ rfl, rfl⟩ isSubtype_stop ?_))
  exact wpAny_pure (hQ _ (((Heap.SameBut.update ..).extBut.push _).push _))
end
end Srt
namespace L2
open PySem PySem.Spec PyProof.Rows
noncomputable def valsOf : HO → Option (List V)
  | .dZ _ kvs => some (kvs.map (·.2))
  | .dN _ kvs => some (kvs.map (·.2))
  | _ => none
theorem paired_val {κ : Type} {F : κ × V → κ × Addr × Value → Prop} {kvs : List (κ × V)} {xs : List (κ × Addr × Value)} (r : Paired F kvs xs) (hF : ∀ p q, F p q → RelV p.2 q.2.2) {i : Nat} {v : V} (h : (kvs.map (·.2))[i]? = some v) : ∃ q, xs[i]? = some q ∧ RelV v q.2.2 := by
  induction r generalizing i with
  | nil => simp at h
  | @cons p q ps qs a _ ih =>
    cases i with
    | zero => cases (show some p.2 = some v from h); exact ⟨q, rfl, hF _ _ a⟩
    | succ i => exact ih h
theorem raw_of {P : Program} {w : World} {H : Hp} {h : Heap} {a : Addr} {u : HO} {vs : List V} (ok : ObjOk P w H h a u) (hv : valsOf u = some vs) :
    (a == sysModules) = false ∧ ∃ o es ep, h.get? a = some o ∧ o.ExactDict ∧ o.data = .dict es ep ∧ es.size = vs.length ∧ ∀ (i : Nat) (v : V), vs[i]? = some v → ∃ en : DictEntry, es[i]? = some en ∧ RelV v en.val := by
  cases u with
  | dZ zs kvs =>
    cases hv
    obtain ⟨z, hsm, xs, rel, o, es, ep, ho, hx, hd, he, hn⟩ := ok
    refine ⟨hsm, o, es, ep, ho, hx, hd, by rw [size_of_entries he, List.length_map, Paired.length rel], fun i v e => ?_⟩
    obtain ⟨q, hq, rq⟩ := paired_val rel (fun _ _ h => h.2.2) e
    exact ⟨_, by rw [entry_at he i, hq]; rfl, rq⟩
  | dN zs kvs =>
    cases hv
    obtain ⟨z, hsm, xs, rel, o, es, ep, ho, hx, hd, he, hn⟩ := ok
    refine ⟨hsm, o, es, ep, ho, hx, hd, by rw [size_of_entries he, List.length_map, Paired.length rel], fun i v e => ?_⟩
    obtain ⟨q, hq, rq⟩ := paired_val rel (fun _ _ h => h.2.2) e
    exact ⟨_, by rw [entry_at he i, hq]; rfl, rq⟩
  | _ => cases hv
noncomputable def Itv (a : Addr) (o : Obj) (u : HO) (vs : List V) : It :=
  ⟨fun i H => H a = some (.frz o u) ∧ i < vs.length, fun i H x H' => H' = H ∧ vs[i]? = some x, fun i H => H a = some (.frz o u) ∧ vs.length ≤ i⟩
theorem frz_rawV {P : Program} {w : World} {H : Hp} {h : Heap} {a : Addr} {o : Obj} {u : HO} {vs : List V} {es : Array DictEntry} {ep : Nat} (ok : HOk P w H h) (e : H a = some (.frz o u)) (hv : valsOf u = some vs) (hd : o.data = .dict es ep) :
    Srt.RawD h a es ep ∧ es.size = vs.length ∧ ∀ (i : Nat) (v : V), vs[i]? = some v → ∃ en : DictEntry, es[i]? = some en ∧ RelV v en.val := by
  obtain ⟨ho, r⟩ := ok a _ e
  obtain ⟨_, o', es', ep', ho', hx, hd', h1, h2⟩ := raw_of r hv
  rw [ho] at ho'
  cases ho'
  rw [hd] at hd'
  cases hd'
  exact ⟨⟨o, ho, hx, hd⟩, h1, h2⟩
theorem turn_vals {P : Program} {w : World} {K : PySem.W.Frag} {tg : Expr} (a it : Addr) (o : Obj) (u : HO) (vs : List V) (es : Array DictEntry) (ep : Nat) (hv : valsOf u = some vs) (hod : o.data = .dict es ep) :
    Turn P w K tg (Itv a o u vs) [it] it (fun i h => h.IsValIter it a i vs.length ep) where
  mem := by simp
  obj := fun i h st b hb => by
    have e : b = it := by simpa using hb
    subst e
    obtain ⟨x, h1, _, h2⟩ := st
    exact ⟨x, h1, fun v z => by rw [h2] at z; cases z⟩
  keep := fun i h h' st kp => let ⟨x, h1, h2⟩ := st; ⟨x, kp it (by simp) x h1, h2⟩
  item := by
    intro X hP hw hK hc i pins s σ H E I hf st hg
    subst hP hw hK
    obtain ⟨hg, hlt⟩ := hg
    obtain ⟨f0, f1, f2, f3, f4, f5⟩ := hf it (by simp)
    obtain ⟨raw, hsz, at_⟩ := frz_rawV I.hok hg hv hod
    have hk := List.getElem?_eq_getElem hlt
    obtain ⟨en, e1, e2⟩ := at_ i _ hk
    rw [← hsz] at st
    refine Srt.nextV_raw st raw e1 fun h' hit' hs' => ?_
    rw [hsz] at hit'
    have I1 : Inv X pins σ H { s with heap := h', toks := s.toks } := I.turned (fun c x hc e => hs'.extBut c x hc e) f0 f1 f3 f4 f5
    obtain ⟨x1, x2, x3, x4⟩ := id hit'
    refine ⟨_, rfl, go_of (s := { s with heap := h' }) (n := "dict_valueiterator") x2 x3 x4 (by decide) ⟨_, H, I1, e2, ⟨rfl, hk⟩, hit', fun c hc => (hf c hc).1⟩⟩
  done := by
    intro X hP hw hK hc i pins s σ H E I hf st hg
    subst hP hw hK
    obtain ⟨hg, hlt⟩ := hg
    obtain ⟨f0, f1, f2, f3, f4, f5⟩ := hf it (by simp)
    obtain ⟨raw, hsz, _⟩ := frz_rawV I.hok hg hv hod
    rw [← hsz] at st
    exact Srt.endV_raw (I.ok.hd hc) st raw (by rw [hsz]; exact hlt) fun h' eb => ⟨rfl, I.turned (t' := s.toks) (fun c x hc e => eb c x hc e) f0 f1 f3 f4 f5⟩
  self := fun _ _ _ _ _ st h => wpAny_pyIter_valiter st h
section
variable {X : Cx} {tg : Expr}
noncomputable def iVals (td : TE) : TI := fun σ H R => td σ H fun x H1 => ∃ (a : Addr) (u : HO) (vs : List V), x = .ref a ∧ H1 a = some u ∧ valsOf u = some vs ∧ ∀ o, R (Itv a o u vs) (upd H1 a (.frz o u))
theorem pi_values {d : Expr} {td : TE} {apos cpos : Pos} (hd : PE X d td)
    (hbase : attributeBase d "values" X.env (eval d X.env) = eval d X.env := by rfl) (hline : (apos.endLine == cpos.line) = true := by rfl) : PI X tg (.Call (.Attribute d "values" apos) [] [] cpos) (iVals td) := by
  intro pins s σ H R I h
  refine wpAny_Call_method0_late hbase hline (thn (hd pins s σ H _ I h) fun v s1 hpat => ?_)
  obtain ⟨x, H1, I1, r1, a, u, vs, rfl, ha, hv, q⟩ := hpat
  cases r1
  have ok := I1.hok a _ ha
  obtain ⟨hsm, o, es, ep, ho, hex, hod, hsz, _⟩ := raw_of ok hv
  have raw : Srt.RawD s1.heap a es ep := ⟨o, ho, hex, hod⟩
  refine ⟨"dict", "dict.values", PySem.F.plainAttrs_dict, F.slot_dict_values, F.type_dict_values, raw.ty, fun b e => ?_, Calls.callWith_builtin rfl (PySem.evalArgs_none ?_)⟩
  · cases e
    exact ⟨o, ho, hex.2.1⟩
  refine Srt.values_raw hsm raw ?_
  have I2 : Inv X pins σ H1 { s1 with heap := s1.heap.push { cls := .type "dict_values", data := .fields #[.ref a] } } := I1.kept (t' := s1.toks) fun b o e => Heap.get?_push_of_some _ e
  have hvw : (s1.heap.push { cls := .type "dict_values", data := .fields #[.ref a] }).IsValuesView s1.heap.objs.size a := ⟨_, Heap.get?_push_size _ rfl, rfl, rfl⟩
  have raw2 : Srt.RawD (s1.heap.push { cls := .type "dict_values", data := .fields #[.ref a] }) a es ep := raw.at fun o e => Heap.get?_push_of_some _ e
  refine Srt.iterV_raw (s := { s1 with heap := s1.heap.push { cls := .type "dict_values", data := .fields #[.ref a] } }) hvw raw2 ?_
  rw [hsz]
  generalize hg2 : s1.heap.push { cls := .type "dict_values", data := .fields #[.ref a] } = g2 at *
  have I3 : Inv X pins σ H1 { s1 with heap := g2.push { cls := .type "dict_valueiterator", data := .fields #[.ref a, .int 0 0, .int vs.length 0, .int ep 0] } } := I2.kept (t' := s1.toks) fun b o e => Heap.get?_push_of_some _ e
  have hn : H1 g2.objs.size = none := I2.hok.fresh (Nat.le_refl _)
  have ho3 : (g2.push { cls := .type "dict_valueiterator", data := .fields #[.ref a, .int 0 0, .int vs.length 0, .int ep 0] }).get? a = some o := Heap.get?_push_of_some _ (by rw [← hg2]; exact Heap.get?_push_of_some _ ho)
  have ok3 := I3.hok a _ ha
  have nfr : ∀ o' u', u ≠ .frz o' u' := fun o' u' z => by rw [z] at hv; cases hv
  have ntp : ∀ xs, u ≠ .tup xs := fun xs z => by rw [z] at hv; cases hv
  have now : ∀ x, u ≠ .own x := fun x z => by rw [z] at hv; cases hv
  have I4 := I3.write (t' := s1.toks) (x := a) (e := a) (o := .frz o u) (h' := g2.push { cls := .type "dict_valueiterator", data := .fields #[.ref a, .int 0 0, .int vs.length 0, .int ep 0] }) (by rw [ha]; cases u <;> first | exact True.intro | cases hv) (.inl rfl) (fun _ _ _ e => e) ⟨o, ho3⟩
    ⟨ho3, ok3.stay (fun _ _ _ e => e) (fun c r => by rw [upd_ne (fun z => by rw [z, ha] at r; cases r; exact now _ rfl)]; exact r) (fun c xs r => by rw [upd_ne (fun z => by rw [z, ha] at r; cases r; exact ntp _ rfl)]; exact r)⟩
  refine ⟨g2.objs.size, [g2.objs.size], _, _, _, rfl, I4, turn_vals a g2.objs.size o u vs es ep hv hod, ⟨_, Heap.get?_push_size _ rfl, rfl, rfl⟩, fun b hb => ?_, q o⟩
  have e : b = g2.objs.size := by simpa using hb
  subst e
  refine I2.fpOk (Nat.le_refl _) ?_
  rw [upd_ne (Ne.symm (ne_of_none ha hn))]
  exact hn
end
theorem for_vals {a : Addr} {o : Obj} {u : HO} {vs : List V} {g : TG} {tb : TS} {D : Ends} {σ : St} {H : Hp} (Pv : Nat → St → Hp → Prop) (h0 : Pv 0 σ H) (hl : ∀ i σ H, i ≤ vs.length → Pv i σ H → H a = some (.frz o u))
    (hs : ∀ i v σ H, vs[i]? = some v → Pv i σ H → g v σ H fun σ2 H2 => tb { D with nx := Pv (i + 1), ct := Pv (i + 1), bk := D.nx } σ2 H2) (hd : ∀ σ H, Pv vs.length σ H → D.nx σ H) :
    ∃ W : Nat → Nat → St → Hp → Prop, (∃ m, W 0 m σ H) ∧ ∀ i m σ H, W i m σ H →
      ((Itv a o u vs).stop i H ∧ D.nx σ H) ∨ ((Itv a o u vs).go i H ∧ ∃ N : St → Hp → Prop, (∀ σ' H', N σ' H' → ∃ m', m' < m ∧ W (i + 1) m' σ' H') ∧ ∀ x H', (Itv a o u vs).yld i H x H' → g x σ H' fun σ2 H2 => tb { D with nx := N, ct := N, bk := D.nx } σ2 H2) := by
  refine ⟨fun i m σ H => m = vs.length - i ∧ i ≤ vs.length ∧ Pv i σ H, ⟨vs.length, by simp, Nat.zero_le _, h0⟩, fun i m σ H hw => ?_⟩
  obtain ⟨rfl, hi, p⟩ := hw
  have q := hl i σ H hi p
  by_cases hlt : i < vs.length
  · refine .inr ⟨⟨q, hlt⟩, Pv (i + 1), fun σ' H' p' => ⟨vs.length - (i + 1), by omega, rfl, hlt, p'⟩, fun x H' y => ?_⟩
    obtain ⟨rfl, hk⟩ := y
    exact hs i x σ _ hk p
  · have e : i = vs.length := by omega
    subst e
    exact .inl ⟨⟨q, Nat.le_refl _⟩, hd σ H p⟩
end L2
set_option Elab.async false
set_option linter.all false
set_option maxRecDepth 100000
set_option maxHeartbeats 4000000
namespace K34
open PySem PySem.Spec PyProof.Rows L2
noncomputable abbrev Node := List Key
noncomputable abbrev Last := Node → Option (Node × Int)
inductive Bk (l : Last) : Node → Nat → Int → Node → Prop
  | nil (v : Node) : Bk l v 0 0 v
  | cons {v u x : Node} {c w : Int} {n : Nat} : l v = some (u, c) → Bk l u n w x → Bk l v (n + 1) (c + w) x
theorem Bk.trans {l : Last} {x y z : Node} {n m : Nat} {w w' : Int} (a : Bk l x n w y) (b : Bk l y m w' z) : Bk l x (n + m) (w + w') z := by
  induction a with
  | nil v => rw [Nat.zero_add, Int.zero_add]; exact b
  | @cons v u x c w n e t ih =>
    have := Bk.cons e (ih b)
    rw [show n + 1 + m = n + m + 1 by omega, Int.add_assoc]; exact this
theorem Bk.det {l : Last} {x y z : Node} {n : Nat} {w w' : Int} (a : Bk l x n w y) (b : Bk l x n w' z) : y = z ∧ w = w' := by
  induction a generalizing w' z with
  | nil v => cases b with
    | nil _ => exact ⟨rfl, rfl⟩
  | @cons v u x c w n e t ih =>
    cases b with
    | @cons _ u' _ c' w' _ e' t' =>
      rw [e] at e'
      cases e'
      obtain ⟨h1, h2⟩ := ih t'
      exact ⟨h1, by rw [h2]⟩
structure Good (l : Last) (S0 S : Node → Int) : Prop where
  i1 : ∀ v u c, l v = some (u, c) → S u + c ≤ S v
  i2 : ∀ v n w, Bk l v (n + 1) w v → w < 0
  i3 : ∀ v, l v = none → S v = S0 v
noncomputable def putL (l : Last) (v u : Node) (c : Int) : Last := fun x => if x = v then some (u, c) else l x
noncomputable def putS (S : Node → Int) (v : Node) (t : Int) : Node → Int := fun x => if x = v then t else S x
theorem Good.back {l : Last} {S0 S : Node → Int} (g : Good l S0 S) {v x : Node} {n : Nat} {w : Int} (b : Bk l v n w x) : S x + w ≤ S v := by
  induction b with
  | nil v => omega
  | @cons v u x c w n e t ih =>
    have := g.i1 _ _ _ e
    omega
theorem putL_old {l : Last} {v u x : Node} {c : Int} (h : x ≠ v) : putL l v u c x = l x := if_neg h
theorem new_back {l : Last} {S0 S : Node → Int} (g : Good l S0 S) {v u : Node} {c : Int} (h : S u + c < S v) {y : Node} {n : Nat} {w : Int} (b : Bk (putL l v u c) y n w v) : S v + w ≤ S y ∧ (y = v → 0 < n → w < 0) := by
  have go : ∀ {y z : Node} {n : Nat} {w : Int}, Bk (putL l v u c) y n w z → z = v → S v + w ≤ S y ∧ (y = v → 0 < n → w < 0) := by
    intro y z n w b
    induction b with
    | nil y => intro e; subst e; exact ⟨by omega, fun _ h => absurd h (by omega)⟩
    | @cons y y' x d w n e t ih =>
      intro ex
      have h1 := (ih ex).1
      by_cases hy : y = v
      · subst hy
        have e2 : putL l y u c y = some (u, c) := if_pos rfl
        rw [e2] at e
        cases e
        exact ⟨by omega, fun _ _ => by omega⟩
      · rw [putL_old hy] at e
        have := g.i1 _ _ _ e
        exact ⟨by omega, fun z => absurd z hy⟩
  exact go b rfl
theorem new_split {l : Last} {v u : Node} {c : Int} {y z : Node} {n : Nat} {w : Int} (b : Bk (putL l v u c) y n w z) : Bk l y n w z ∨ ∃ n1 w1 n2 w2, n = n1 + n2 ∧ w = w1 + w2 ∧ Bk (putL l v u c) y n1 w1 v ∧ Bk (putL l v u c) v n2 w2 z := by
  induction b with
  | nil y => exact .inl (.nil y)
  | @cons y y' x d w n e t ih =>
    by_cases hy : y = v
    · subst hy
      exact .inr ⟨0, 0, n + 1, d + w, by omega, by omega, .nil _, .cons e t⟩
    · rcases ih with h | ⟨n1, w1, n2, w2, rfl, rfl, h1, h2⟩
      · exact .inl (.cons (by rw [← putL_old hy (l := l) (u := u) (c := c)]; exact e) h)
      · exact .inr ⟨n1 + 1, d + w1, n2, w2, by omega, by omega, .cons e h1, h2⟩
theorem Good.put {l : Last} {S0 S : Node → Int} (g : Good l S0 S) {v u : Node} {c : Int} (h : S u + c < S v) : Good (putL l v u c) S0 (putS S v (S u + c)) := by
  have le : ∀ x, putS S v (S u + c) x ≤ S x := fun x => by
    unfold putS
    by_cases e : x = v
    · rw [if_pos e, e]; omega
    · rw [if_neg e]; omega
  refine ⟨fun x y d e => ?_, fun x n w b => ?_, fun x e => ?_⟩
  · by_cases hx : x = v
    · rw [hx] at e ⊢
      have e2 : putL l v u c v = some (u, c) := if_pos rfl
      rw [e2] at e
      cases e
      have e3 : putS S v (S u + c) v = S u + c := if_pos rfl
      have := le u
      rw [e3]; omega
    · rw [putL_old hx] at e
      have e3 : putS S v (S u + c) x = S x := if_neg hx
      have h1 := g.i1 _ _ _ e
      have h2 := le y
      rw [e3]; omega
  · rcases new_split b with h1 | ⟨n1, w1, n2, w2, e1, rfl, b1, b2⟩
    · exact g.i2 x n w h1
    · have := (new_back g h (b2.trans b1)).2 rfl (by omega)
      omega
  · by_cases hx : x = v
    · rw [hx] at e
      have e2 : putL l v u c v = some (u, c) := if_pos rfl
      rw [e2] at e
      cases e
    · rw [putL_old hx] at e
      have e3 : putS S v (S u + c) x = S x := if_neg hx
      rw [e3]; exact g.i3 x e
theorem good_none (S0 : Node → Int) : Good (fun _ => none) S0 S0 := ⟨fun v u c e => (nomatch e), (fun v n w b => by cases b with | cons e _ => cases e), fun _ _ => rfl⟩
theorem Bk.low {l : Last} {B : Int} (hB : 0 ≤ B) (hl : ∀ v u c, l v = some (u, c) → -B ≤ c) {v x : Node} {n : Nat} {w : Int} (b : Bk l v n w x) : -(B * (n : Int)) ≤ w := by
  induction b with
  | nil v => simp
  | @cons v u x c w n e t ih =>
    have h1 := hl _ _ _ e
    have h2 : B * ((n + 1 : Nat) : Int) = B * (n : Int) + B := by rw [show ((n + 1 : Nat) : Int) = (n : Int) + 1 by omega, Int.mul_add, Int.mul_one]
    rw [h2]; omega
theorem Good.low {l : Last} {S0 S : Node → Int} (g : Good l S0 S) {B : Int} (hB : 0 ≤ B) (hl : ∀ v u c, l v = some (u, c) → -B ≤ c) {v x : Node} {n m : Nat} {w : Int} (b : Bk l v n w x) (hx : l x = none) (h0 : 0 ≤ S0 x) (hn : n ≤ m) : -(B * (m : Int)) ≤ S v := by
  have h1 := g.back b
  have h2 := b.low hB hl
  rw [g.i3 x hx] at h1
  have h3 : B * (n : Int) ≤ B * (m : Int) := Int.mul_le_mul_of_nonneg_left (by omega) hB
  omega
end K34
set_option Elab.async false
set_option linter.all false
set_option maxRecDepth 100000
set_option maxHeartbeats 4000000
namespace K34
open PySem PySem.Spec PyProof.Rows L2
noncomputable def top (i : Nat) : Stmt := PySem.Challenge.pw_lookspare_k34_road_ring_or_numbers.main.body.getD i (.Pass ⟨0, 0, 0, 0⟩)
noncomputable abbrev s_draw : Stmt := top 15
noncomputable abbrev s_node : Stmt := top 16
noncomputable def spDraw (K : PySem.W.Frag) : Sp := fun vs H Q _ => ExQ Q (fun (a : Addr) Q => ExQ Q (fun (ns : List Int) Q => ExQ Q (fun (k : Int) Q => vs = [.ref a, .int k] ∧ SqL K H a (ns.map V.int) ∧ ns.length ≤ 63 ∧ 0 ≤ k ∧ k ≤ 1000 ∧ ∀ c : Int, Q (.int c) H)))
theorem same_new {H : Hp} {p : Addr} (h : H p = none) (o : HO) : Same H (upd H p o) := fun b u q => by rw [upd_ne (ne_of_none q h)]; exact q
theorem ifs_nx {c : TT} {t u : TS} {D : Ends} {σ : L2.St} {H : Hp} (Φ : L2.St → Hp → Prop) (h : ∀ σ' H', Φ σ' H' → D.nx σ' H') (hi : ∀ D' : Ends, (∀ σ' H', Φ σ' H' → D'.nx σ' H') → tIfS c t u D' σ H) : tIfS c t u D σ H := hi D h
theorem ifs_rt {c : TT} {t u : TS} {D : Ends} {σ : L2.St} {H : Hp} (Φ : L2.St → Hp → Prop) (h : ∀ σ' H', Φ σ' H' → D.nx σ' H') (hi : ∀ nx : L2.St → Hp → Prop, (∀ σ' H', Φ σ' H' → nx σ' H') → tIfS c t u { D with nx := nx } σ H) : tIfS c t u D σ H := hi D.nx h
theorem atI_ints {ns : List Int} {i : Int} (h0 : 0 ≤ i) (h1 : i < (ns.length : Int)) : ∃ c : Int, atI (ns.map V.int) i = some (.int c) := by
  obtain ⟨j, rfl⟩ : ∃ j : Nat, i = (j : Int) := ⟨i.toNat, by omega⟩
  have hj : j < ns.length := by omega
  exact ⟨ns[j], atI_nat (by rw [List.getElem?_map, List.getElem?_eq_getElem hj]; rfl)⟩
section
variable {P : Program} {w : World} {K : PySem.W.Frag} {mg : Str → Option Value} {base : Heap} {f : Addr} {fd : FuncData} {n : Nat}
local macro_rules | `(tactic| walk_at "s") => `(tactic| first | exact ⟨by decide, by decide⟩ | exact ⟨by decide, by decide, by decide⟩ | exact Or.inl ⟨by decide, by decide⟩ | exact Or.inr ⟨by decide, by decide⟩ | (show (0 : Int) < _; decide) | (show (0 : Int) ≤ _; decide) | (show (0 : Int) < _; omega) | (show (0 : Int) ≤ _; omega) | exact ⟨by omega, by omega⟩ | exact Or.inl ⟨by omega, by omega⟩ | exact Or.inr ⟨by omega, by omega⟩)
local macro_rules | `(tactic| walk_at "r") => `(tactic| repeat (first | (refine ⟨_, rfl, ?_⟩) | (refine ⟨_, _, rfl, rfl, ?_⟩) | (refine ⟨rfl, ?_⟩) | (refine ⟨by walk_at "s", ?_⟩) | (refine ⟨Nat.le_of_ble_eq_true rfl, fun _ _ => ?_⟩)))
theorem sc_draw : FnScope ["_law_script", "_law_k", "_law_many", "_law_cell", "_law_mixed", "_law_other"] ["_law_script", "_law_k"] (defScope s_draw) := ⟨rfl, rfl, rfl, by decide +kernel, rfl, by decide +kernel, by decide +kernel⟩
theorem ok_draw (F : Fun K "_law_draw" "_law_draw" s_draw f fd) (m_len : mg "len" = none) : FnOk P w K mg base CX0 (n + 1) f fd ["_law_script", "_law_k"] (spDraw K) := by
  refine F.ok sc_draw (fun vs H Q E h => ?_) (fun cdv A outer s H vs Q E hr h => ?_)
  · obtain ⟨a, ns, k, rfl, _⟩ := h
    rfl
  obtain ⟨a, ns, k, rfl, hS, h63, k0, k1, q⟩ := h
  have sc := sc_draw
  refine ⟨_, (@pss_cons _ _ _ _ _ (ps_set (i := 2) sc.nd rfl (Or.inl rfl) (pe_callB call_len_seq rfl m_len PySem.boot_len (pa_cons (pv 0) pa_nil)))
      (@pss_cons _ _ _ _ _ (ps_if (PW.pt (pw_and (pt_cmpR op_gt (pv 2) pe_int (nomark _)) (pw_and (pt_cmpR op_eq (pe_op op_mod (pe_ix ix_list (pv 0) pe_int (fun _ _ => rfl)) pe_int) pe_int (nomark _)) (pw_and1 (pt_cmpR op_lt (pe_op op_fdiv (pv 1) (pv 2)) pe_int (nomark _)))))) (pss_one (ps_ret (pe_op op_and (pe_op op_shr (pe_ix ix_list (pv 0) (pe_op op_mod (pv 1) (pv 2)) (fun _ _ => rfl)) (pe_op op_add (pe_op op_mul pe_int (pe_op op_fdiv (pv 1) (pv 2))) pe_int)) pe_int))) pss_nil)
      (@pss_cons _ _ _ _ _ (ps_set (i := 3) sc.nd rfl (Or.inl rfl) (pe_op op_mul pe_int (pv 1)))
      (@pss_cons _ _ _ _ _ (ps_if (pt_cmpR op_lt (pv 1) (pv 2) (nomark _)) (pss_one (ps_set (i := 3) sc.nd rfl (Or.inl rfl) (pe_ix ix_list (pv 0) (pv 1) (fun _ _ => rfl)))) (pss_one (ps_if (pt_cmpR op_gt (pv 2) pe_int (nomark _)) (@pss_cons _ _ _ _ _ (ps_set (i := 5) sc.nd rfl (Or.inl rfl) (pe_ix ix_list (pv 0) (pe_op op_mod (pe_op op_add (pe_op op_mul pe_int (pv 1)) pe_int) (pv 2)) (fun _ _ => rfl)))
      (pss_one (ps_set (i := 3) sc.nd rfl (Or.inl rfl) (pe_op op_add (pe_op op_add (pv 3) (pe_ix ix_list (pv 0) (pe_op op_mod (pv 1) (pv 2)) (fun _ _ => rfl))) (pe_op op_mul pe_int (pe_op op_mod (pv 5) pe_int)))))) pss_nil)))
      (@pss_cons _ _ _ _ _ (ps_set (i := 4) sc.nd rfl (Or.inl rfl) (pe_op op_mod (pe_op op_add (pe_op op_mul (pv 3) pe_int) (pe_op op_mul pe_int (pv 1))) pe_int))
      (pss_one (ps_ret (pe_op op_mod (pe_op op_mul (pe_op op_fdiv (pv 4) pe_int) (pe_op op_add (pe_op op_add (pe_op op_mod (pv 4) pe_int) (pe_op op_mul pe_int (pv 1))) pe_int)) pe_int)))))))), ?_⟩
  refine ⟨_, rfl, a, _, rfl, .inl hS, ?_⟩
  rw [List.length_map]
  have mod0 : ∀ x : Int, 0 < (ns.length : Int) → 0 ≤ x % (ns.length : Int) ∧ x % (ns.length : Int) < (ns.length : Int) := fun x h => ⟨Int.emod_nonneg _ (by omega), Int.emod_lt_of_pos _ h⟩
  dsimp only [gName, tSeq]
  refine ifs_rt (fun σ' H' => σ' = [some (.ref a), some (.int k), some (.int (ns.length : Int)), none, none, none] ∧ H = H') (fun σ' H' h => ?_) (fun nx kk => ?_)
  rotate_left
  · dsimp only [tIfS, tAnd, tSeq, tNext]
    refine ⟨_, rfl, _, _, rfl, rfl, _, rfl, ite2 (fun c1 => ?_) (fun c1 => iteF (kk _ _ ⟨rfl, rfl⟩))⟩
    have hp : 0 < (ns.length : Int) := of_decide_eq_true c1
    obtain ⟨s0, es0⟩ := atI_ints (ns := ns) (i := 0) (by decide) hp
    refine ⟨_, rfl, a, _, 0, _, rfl, rfl, hS, es0, _, _, rfl, rfl, by show (0 : Int) < 2; decide, rfl, _, rfl, ite2 (fun c2 => ?_) (fun c2 => iteF (kk _ _ ⟨rfl, rfl⟩))⟩
    refine ⟨_, rfl, _, rfl, _, _, rfl, rfl, ⟨hp, by show (ns.length : Int) < 1073741824; omega⟩, _, _, rfl, rfl, _, rfl, ite2 (fun c3 => ?_) (fun c3 => kk _ _ ⟨rfl, rfl⟩)⟩
    obtain ⟨sk, esk⟩ := atI_ints (ns := ns) (i := k % (ns.length : Int)) (mod0 k hp).1 (mod0 k hp).2
    have hd : 0 ≤ k / (ns.length : Int) := Int.ediv_nonneg k0 (by omega)
    refine ⟨_, rfl, _, rfl, _, rfl, _, _, rfl, rfl, by show (0 : Int) < (ns.length : Int); exact hp, a, _, _, _, rfl, rfl, hS, esk, _, rfl, _, rfl, _, _, rfl, rfl, ⟨hp, by show (ns.length : Int) < 1073741824; omega⟩, _, _, rfl, rfl, .inl ⟨by decide, by decide⟩, _, _, rfl, rfl, _, _, rfl, rfl, by show (0 : Int) ≤ 61 * (k / (ns.length : Int)) + 1; omega, _, _, rfl, rfl, q _⟩
  obtain ⟨rfl, rfl⟩ := h
  refine ⟨_, rfl, _, _, rfl, rfl, .inl ⟨by decide, by decide⟩, ?_⟩
  dsimp only [gName, tSeq]
  refine ifs_nx (fun σ' H' => ∃ (c : Int) (y5 : Option V), σ' = [some (.ref a), some (.int k), some (.int (ns.length : Int)), some (.int c), none, y5] ∧ H = H') (fun σ' H' h => ?_) (fun D' kk => ?_)
  rotate_left
  · refine ⟨_, rfl, _, rfl, _, _, rfl, rfl, _, rfl, ite2 (fun c1 => ?_) (fun c1 => ?_)⟩
    · have hlt : k < (ns.length : Int) := of_decide_eq_true c1
      obtain ⟨sk, esk⟩ := atI_ints (ns := ns) (i := k) k0 hlt
      exact ⟨_, rfl, _, rfl, a, _, _, _, rfl, rfl, hS, esk, kk _ _ ⟨_, _, rfl, rfl⟩⟩
    · refine ⟨_, rfl, _, _, rfl, rfl, _, rfl, ite2 (fun c2 => ?_) (fun c2 => kk _ _ ⟨_, _, rfl, rfl⟩)⟩
      have hp : 0 < (ns.length : Int) := of_decide_eq_true c2
      obtain ⟨so, eso⟩ := atI_ints (ns := ns) (i := (3 * k + 1) % (ns.length : Int)) (mod0 _ hp).1 (mod0 _ hp).2
      obtain ⟨sk, esk⟩ := atI_ints (ns := ns) (i := k % (ns.length : Int)) (mod0 k hp).1 (mod0 k hp).2
      refine ⟨_, rfl, _, rfl, _, _, rfl, rfl, .inl ⟨by decide, by decide⟩, _, _, rfl, rfl, _, rfl, _, _, rfl, rfl, by show (0 : Int) < (ns.length : Int); exact hp, a, _, _, _, rfl, rfl, hS, eso, ?_⟩
      exact ⟨_, rfl, _, rfl, _, rfl, _, rfl, _, _, rfl, rfl, by show (0 : Int) < (ns.length : Int); exact hp, a, _, _, _, rfl, rfl, hS, esk, _, _, rfl, rfl, _, rfl, _, _, rfl, rfl, by show (0 : Int) < 1000033; decide, _, _, rfl, rfl, .inl ⟨by decide, by decide⟩, _, _, rfl, rfl, kk _ _ ⟨_, _, rfl, rfl⟩⟩
  obtain ⟨c, y5, rfl, rfl⟩ := h
  refine ⟨_, rfl, _, _, rfl, rfl, .inr ⟨by decide, by decide⟩, _, rfl, _, _, rfl, rfl, .inl ⟨by decide, by decide⟩, _, _, rfl, rfl, _, _, rfl, rfl, by show (0 : Int) < 2305843009213693951; decide, ?_⟩
  have hm : 0 ≤ (c * 6364136223846793005 + 1442695040888963407 * k) % 2305843009213693951 ∧ (c * 6364136223846793005 + 1442695040888963407 * k) % 2305843009213693951 < 2305843009213693951 := ⟨Int.emod_nonneg _ (by decide), Int.emod_lt_of_pos _ (by decide)⟩
  exact ⟨_, rfl, _, _, rfl, rfl, ⟨by decide, by decide⟩, _, rfl, _, _, rfl, rfl, by show (0 : Int) < 1000003; decide, _, rfl, _, _, rfl, rfl, .inl ⟨by decide, by decide⟩, _, _, rfl, rfl, _, _, rfl, rfl, _, _, rfl, rfl, .inl ⟨by show -(2 ^ 64 : Int) < ((c * 6364136223846793005 + 1442695040888963407 * k) % 2305843009213693951) / 1024; omega, by show ((c * 6364136223846793005 + 1442695040888963407 * k) % 2305843009213693951) / 1024 < (2 ^ 64 : Int); omega⟩, _, _, rfl, rfl, by show (0 : Int) < 2305843009213693951; decide, q _⟩
noncomputable def NodeAt (K : PySem.W.Frag) (H : Hp) (v : V) (k : Node) : Prop := ∃ b, v = .ref b ∧ Ky K H b k
noncomputable def NodeOk (k : Node) : Prop := k = [.inr "zero"] ∨ (∃ i : Int, k = [.inr "len", .inl i]) ∨ ∃ i j : Int, k = [.inr "name", .inl i, .inl j]
noncomputable def spNode (K : PySem.W.Frag) : Sp := fun vs H Q _ => ExQ Q (fun (c : Int) Q => vs = [.int c] ∧ ∀ (v : V) (H' : Hp) (k : Node), NodeOk k → Same H H' → NodeAt K H' v k → Q v H')
theorem sc_node : FnScope ["_law_cell"] ["_law_cell"] (defScope s_node) := ⟨rfl, rfl, rfl, by decide +kernel, rfl, by decide +kernel, by decide +kernel⟩
theorem ok_node (F : Fun K "_law_node" "_law_node" s_node f fd) : FnOk P w K mg base CX0 (n + 1) f fd ["_law_cell"] (spNode K) := by
  refine F.ok sc_node (fun vs H Q E h => ?_) (fun cdv A outer s H vs Q E hr h => ?_)
  · obtain ⟨c, rfl, _⟩ := h
    rfl
  obtain ⟨c, rfl, q⟩ := h
  have sc := sc_node
  refine ⟨_, (@pss_cons _ _ _ _ _ (ps_if (pt_cmpR op_eq (pe_op op_mod (pv 0) pe_int) pe_int (nomark _)) (pss_one (ps_ret (pe_tup (pa_cons pe_str pa_nil)))) pss_nil)
      (@pss_cons _ _ _ _ _ (ps_if (pt_cmpR op_eq (pe_op op_mod (pv 0) pe_int) pe_int (nomark _)) (pss_one (ps_ret (pe_tup (pa_cons pe_str (pa_cons (pe_op op_mod (pe_op op_fdiv (pv 0) pe_int) pe_int) pa_nil))))) pss_nil)
      (pss_one (ps_ret (pe_tup (pa_cons pe_str (pa_cons (pe_op op_mod (pe_op op_fdiv (pv 0) pe_int) pe_int) (pa_cons (pe_op op_mod (pe_op op_fdiv (pv 0) pe_int) pe_int) pa_nil)))))))), ?_⟩
  refine ⟨_, rfl, _, _, rfl, rfl, (by decide : (0 : Int) < 5), rfl, _, rfl, ite2 (fun _ => ?_) (fun _ => ?_)⟩
  · exact ⟨Nat.le_of_ble_eq_true rfl, fun p np => q (.ref p) _ [.inr "zero"] (.inl rfl) (same_new np _) ⟨p, rfl, .inl upd_same⟩⟩
  refine ⟨_, rfl, _, _, rfl, rfl, (by decide : (0 : Int) < 5), rfl, _, rfl, ite2 (fun _ => ?_) (fun _ => ?_)⟩
  · exact ⟨_, rfl, _, _, rfl, rfl, ⟨by decide, by decide⟩, _, _, rfl, rfl, (by decide : (0 : Int) < 3), Nat.le_of_ble_eq_true rfl, fun p np => q (.ref p) _ [.inr "len", .inl (c / 5 % 3)] (.inr (.inl ⟨_, rfl⟩)) (same_new np _) ⟨p, rfl, .inl upd_same⟩⟩
  · exact ⟨_, rfl, _, _, rfl, rfl, ⟨by decide, by decide⟩, _, _, rfl, rfl, (by decide : (0 : Int) < 6), _, rfl, _, _, rfl, rfl, ⟨by decide, by decide⟩, _, _, rfl, rfl, (by decide : (0 : Int) < 201), Nat.le_of_ble_eq_true rfl, fun p np => q (.ref p) _ [.inr "name", .inl (c / 5 % 6), .inl (c / 30 % 201)] (.inr (.inr ⟨_, _, rfl⟩)) (same_new np _) ⟨p, rfl, .inl upd_same⟩⟩
end
end K34
set_option Elab.async false
set_option linter.all false
set_option maxRecDepth 100000
set_option maxHeartbeats 4000000
namespace K34
open PySem PySem.Spec PyProof.Rows L2
structure Fct where
  a : Node
  b : Node
  c : Int
noncomputable def Tp (H H' : Hp) : Prop := ∀ b xs, H b = some (.tup xs) → H' b = some (.tup xs)
theorem Tp.of {H H' : Hp} (s : Same H H') : Tp H H' := fun b xs e => s b _ e
theorem Tp.trans {H H1 H2 : Hp} (a : Tp H H1) (b : Tp H1 H2) : Tp H H2 := fun c xs e => b c xs (a c xs e)
theorem Tp.refl {H : Hp} : Tp H H := fun _ _ e => e
theorem ky_mono {K : PySem.W.Frag} {H H' : Hp} {b : Addr} {k : Node} (h : Ky K H b k) (t : Tp H H') : Ky K H' b k := h.imp (t _ _) id
theorem NodeAt.mono {K : PySem.W.Frag} {H H' : Hp} {v : V} {k : Node} (h : NodeAt K H v k) (t : Tp H H') : NodeAt K H' v k := let ⟨b, e, h⟩ := h; ⟨b, e, ky_mono h t⟩
noncomputable def FactAt (K : PySem.W.Frag) (H : Hp) (f : Fct) (v : V) : Prop := ∃ t va vb, v = .ref t ∧ H t = some (.tup [va, vb, .int f.c]) ∧ NodeAt K H va f.a ∧ NodeAt K H vb f.b
theorem FactAt.mono {K : PySem.W.Frag} {H H' : Hp} {v : V} {f : Fct} (h : FactAt K H f v) (t : Tp H H') : FactAt K H' f v := let ⟨p, va, vb, e, h1, h2, h3⟩ := h; ⟨p, va, vb, e, t _ _ h1, h2.mono t, h3.mono t⟩
noncomputable abbrev FactsAt (K : PySem.W.Frag) (H : Hp) : List Fct → List V → Prop := Paired (FactAt K H)
theorem FactsAt.mono {K : PySem.W.Frag} {H H' : Hp} {fs : List Fct} {xs : List V} (h : FactsAt K H fs xs) (t : Tp H H') : FactsAt K H' fs xs := Paired.mapP h fun _ _ q => q.mono t
theorem paired_at {α β : Type} {F : α → β → Prop} {l : List α} {m : List β} (h : Paired F l m) {i : Nat} {y : β} (e : m[i]? = some y) : ∃ x, l[i]? = some x ∧ F x y := by
  induction h generalizing i with
  | nil => simp at e
  | @cons a b l m r t ih =>
    cases i with
    | zero => cases (show some b = some y from e); exact ⟨a, rfl, r⟩
    | succ i => exact ih e
noncomputable def Keys (kvs : List (Node × V)) : List Node := kvs.map (·.1)
theorem key_iff {kvs : List (Node × V)} {k : Node} : k ∈ Keys kvs ↔ (valV kvs k).isSome = true := by
  constructor
  · intro h
    cases e : valV kvs k with
    | none => exact absurd h (valV_not e)
    | some v => rfl
  · intro h
    obtain ⟨v, e⟩ := Option.isSome_iff_exists.mp h
    exact valV_in e
theorem key_put {kvs : List (Node × V)} {k n : Node} {v : V} : n ∈ Keys (putK kvs k v) ↔ n = k ∨ n ∈ Keys kvs := by
  rw [key_iff, valV_put, key_iff]
  by_cases e : n = k
  · rw [if_pos e]; exact ⟨fun _ => .inl e, fun _ => rfl⟩
  · rw [if_neg e]; exact ⟨.inr, fun h => h.resolve_left e⟩
theorem keys_put_old {kvs : List (Node × V)} {k : Node} {v : V} (h : (valV kvs k).isSome = true) : Keys (putK kvs k v) = Keys kvs := by
  unfold Keys putK
  rw [valV_any, h, if_pos rfl, List.map_map]
  refine List.map_congr_left fun kv _ => ?_
  show (if kv.1 = k then (kv.1, v) else kv).1 = kv.1
  split <;> rfl
theorem nd_put {kvs : List (Node × V)} {k : Node} {v : V} (h : (Keys kvs).Nodup) : (Keys (putK kvs k v)).Nodup := by
  cases e : valV kvs k with
  | none => exact nd_putK v h e
  | some u => rw [keys_put_old (by rw [e]; rfl)]; exact h
noncomputable abbrev s_against : Stmt := top 2
noncomputable abbrev s_nodes_of : Stmt := top 6
theorem sc_against : FnScope ["bound"] ["bound"] (defScope s_against) := ⟨rfl, rfl, rfl, by decide +kernel, rfl, by decide +kernel, by decide +kernel⟩
theorem sc_nodes_of : FnScope ["facts", "nodes", "fact"] ["facts"] (defScope s_nodes_of) := ⟨rfl, rfl, rfl, by decide +kernel, rfl, by decide +kernel, by decide +kernel⟩
noncomputable def Fct.turn (f : Fct) : Fct := ⟨f.b, f.a, -1 - f.c⟩
noncomputable def spAgainst (K : PySem.W.Frag) : Sp := fun vs H Q _ => ExQ Q (fun (f : Fct) Q => ExQ Q (fun (v : V) Q => vs = [v] ∧ FactAt K H f v ∧ ∀ v H', Same H H' → FactAt K H' f.turn v → Q v H'))
noncomputable def spNodesOf (K : PySem.W.Frag) : Sp := fun vs H Q _ => ExQ Q (fun (l : Addr) Q => ExQ Q (fun (xs : List V) Q => ExQ Q (fun (fs : List Fct) Q => vs = [.ref l] ∧ H l = some (.lst xs) ∧ FactsAt K H fs xs ∧ fs.length ≤ 1000 ∧
  ∀ (H' : Hp) (p : Addr) (bs : List Addr) (ns : List Node), Same H H' → H' p = some (.lst (bs.map V.ref)) → H p = none → Paired (fun n b => Ky K H' b n) ns bs → ns.Nodup → (∀ n, n ∈ ns ↔ ∃ f ∈ fs, n = f.a ∨ n = f.b) → ns.length ≤ 2000 → Q (.ref p) H')))
section
variable {P : Program} {w : World} {K : PySem.W.Frag} {mg : Str → Option Value} {base : Heap} {f : Addr} {fd : FuncData} {n : Nat}
theorem at0 (v : V) (vs : List V) : atI (v :: vs) 0 = some v := atI_nat (j := 0) rfl
theorem at1 (v u : V) (vs : List V) : atI (v :: u :: vs) 1 = some u := atI_nat (j := 1) rfl
theorem at2 (v u w : V) (vs : List V) : atI (v :: u :: w :: vs) 2 = some w := atI_nat (j := 2) rfl
theorem ok_against (F : Fun K "against" "against" s_against f fd) : FnOk P w K mg base CX0 (n + 1) f fd ["bound"] (spAgainst K) := by
  refine F.ok sc_against (fun vs H Q E h => ?_) (fun cdv A outer s H vs Q E hr h => ?_)
  · obtain ⟨g, v, rfl, _⟩ := h
    rfl
  obtain ⟨g, v, rfl, ⟨t, va, vb, rfl, et, h1, h2⟩, q⟩ := h
  have sc := sc_against
  refine ⟨_, (pss_one (ps_ret (pe_tup (pa_cons (pe_ix ix_tup (pv 0) pe_int (fun _ _ => rfl)) (pa_cons (pe_ix ix_tup (pv 0) pe_int (fun _ _ => rfl)) (pa_cons (pe_op op_sub (pe_un un_neg pe_int) (pe_ix ix_tup (pv 0) pe_int (fun _ _ => rfl))) pa_nil)))))), ?_⟩
  refine ⟨_, rfl, t, _, 1, _, rfl, rfl, SqT.of et, at1 _ _ _, _, rfl, t, _, 0, _, rfl, rfl, SqT.of et, at0 _ _, _, rfl, _, rfl, t, _, 2, _, rfl, rfl, SqT.of et, at2 _ _ _ _, _, _, rfl, rfl, Nat.le_of_ble_eq_true rfl, fun p np => ?_⟩
  have s1 := same_new np (.tup [vb, va, .int (-1 - g.c)])
  exact q (.ref p) _ s1 ⟨p, vb, va, rfl, upd_same, h2.mono (Tp.of s1), h1.mono (Tp.of s1)⟩
theorem ok_nodes_of (F : Fun K "nodes_of" "nodes_of" s_nodes_of f fd) (m_list : mg "list" = none) : FnOk P w K mg base CX0 (n + 1) f fd ["facts"] (spNodesOf K) := by
  refine F.ok sc_nodes_of (fun vs H Q E h => ?_) (fun cdv A outer s H vs Q E hr h => ?_)
  · obtain ⟨l, xs, fs, rfl, _⟩ := h
    rfl
  obtain ⟨l, xs, fs, rfl, el, hf, hl, q⟩ := h
  have sc := sc_nodes_of
  have hu : (A.deeper (envOfC "nodes_of" (defScope s_nodes_of) s.heap.objs.size f cdv)).units + 1 < cLine := by have := hr.units; omega
  refine ⟨_, (@pss_cons _ _ _ _ _ (ps_set (i := 1) sc.nd rfl (Or.inl rfl) pe_dnewZ)
      (@pss_cons _ _ _ _ _ (ps_for PassesOwn.never rfl (pi_list (pv 0)) (pg_name (i := 2) sc.nd rfl (Or.inl rfl)) (@pss_cons _ _ _ _ _ (ps_zput hu (pv 1) (pe_ix ix_tup (pv 2) pe_int (fun _ _ => rfl)) pe_bl rfl)
      (pss_one (ps_zput hu (pv 1) (pe_ix ix_tup (pv 2) pe_int (fun _ _ => rfl)) pe_bl rfl))))
      (pss_one (ps_ret (pe_callTy (call_listZ rfl) rfl m_list PyProof.Rows.boot_list (pa_cons (pv 1) pa_nil)))))), ?_⟩
  have lx : fs.length = xs.length := Paired.length hf
  refine fun d nd => ?_
  have u1 := same_new nd (.dZ [] [])
  have d1 : DW K (upd H d (.dZ [] [])) d [] := ⟨[], upd_same, fun _ h => absurd h List.not_mem_nil⟩
  generalize upd H d (.dZ [] []) = H1 at u1 d1
  refine ⟨_, rfl, l, rfl, ⟨_, SqL.of (u1 _ _ el)⟩, ?_⟩
  refine for_list (xs := xs) (fun i σ H' => ∃ kvs y2, Same H H' ∧ DW K H' d kvs ∧ (Keys kvs).Nodup ∧ (∀ n, n ∈ Keys kvs ↔ ∃ f ∈ fs.take i, n = f.a ∨ n = f.b) ∧ kvs.length ≤ 2 * i ∧ σ = [some (.ref l), some (.ref d), y2])
    ⟨[], _, u1, d1, List.nodup_nil, fun n => ⟨fun h => absurd h List.not_mem_nil, fun hp0 => by obtain ⟨f, h, _⟩ := hp0; simp at h⟩, Nat.le_refl _, rfl⟩ (fun i σ H' _ h => ?_) (fun i y σ H2 ey h => ?_) (fun σ H2 h => ?_)
  · obtain ⟨kvs, y2, s2, _⟩ := h
    exact SqL.of (s2 _ _ el)
  · obtain ⟨kvs, y2, s2, d2, n2, m2, l2, rfl⟩ := h
    obtain ⟨g, eg, hg⟩ := paired_at hf ey
    have hi : i < fs.length := (List.getElem?_eq_some_iff.mp eg).1
    have hg2 := hg.mono (Tp.of s2)
    obtain ⟨t, va, vb, rfl, et, ⟨ba, rfl, ka⟩, ⟨bb, rfl, kb⟩⟩ := hg2
    have ned : ∀ {H' : Hp} {kv : List (Node × V)} {o : HO} {c : Addr}, DW K H' d kv → H' c = some o → (∀ zs kv, o ≠ .dZ zs kv) → c ≠ d := fun dw e ne z => by
      obtain ⟨zs, e2, _⟩ := dw
      rw [z, e2] at e
      cases e
      exact ne _ _ rfl
    refine ⟨_, rfl, _, rfl, t, _, 0, _, rfl, rfl, SqT.of et, at0 _ _, d, kvs, ba, g.a, rfl, rfl, d2, ka, (by rw [sizeLine_eq]; omega), fun H3 k3 e3 d3 => ?_⟩
    have t23 : Tp H2 H3 := fun b zs e => k3 b _ (ned d2 e fun _ _ z => nomatch z) e
    have et3 := t23 _ _ et
    have l3 := length_putK kvs g.a (.bl true)
    refine ⟨_, rfl, _, rfl, t, _, 1, _, rfl, rfl, SqT.of et3, at1 _ _ _, d, _, bb, g.b, rfl, rfl, d3, ky_mono kb t23, (by rw [sizeLine_eq]; omega), fun H4 k4 e4 d4 => ?_⟩
    have l4 := length_putK (putK kvs g.a (.bl true)) g.b (.bl true)
    have ndd : ∀ c o, H c = some o → c ≠ d := fun c o e z => by rw [z, nd] at e; cases e
    refine ⟨_, _, fun c o e => k4 c o (ndd c o e) (k3 c o (ndd c o e) (s2 c o e)), d4, nd_put (nd_put n2), fun n => ?_, by omega, rfl⟩
    rw [key_put, key_put, m2 n, List.take_add_one, eg]
    constructor
    · rintro (rfl | rfl | ⟨f, h1, h2⟩)
      · exact ⟨g, by simp, .inr rfl⟩
      · exact ⟨g, by simp, .inl rfl⟩
      · exact ⟨f, List.mem_append_left _ h1, h2⟩
    · rintro ⟨f, h1, h2⟩
      rcases List.mem_append.mp h1 with h1 | h1
      · exact .inr (.inr ⟨f, h1, h2⟩)
      · have : f = g := by simpa using h1
        subst this
        rcases h2 with rfl | rfl
        · exact .inr (.inl rfl)
        · exact .inl rfl
  obtain ⟨kvs, y2, s2, d2, n2, m2, l2, rfl⟩ := h
  rw [← lx, List.take_of_length_le (Nat.le_refl _)] at m2
  refine ⟨_, rfl, d, kvs, rfl, d2.rd, fun p bs np kys => ?_⟩
  have u3 := same_new np (.lst (bs.map V.ref))
  have lk : (Keys kvs).length = kvs.length := List.length_map ..
  refine q _ p bs (Keys kvs) (s2.trans u3) upd_same (s2.free np) ?_ n2 m2 (by omega)
  have go : ∀ {kvs : List (Node × V)} {bs : List Addr}, Paired (fun (kv : Node × V) b => Ky K H2 b kv.1) kvs bs → Paired (fun n b => Ky K (upd H2 p (.lst (bs.map V.ref))) b n) (Keys kvs) bs := fun {kvs bs} h => by
    suffices h2 : Paired (fun n b => Ky K H2 b n) (Keys kvs) bs from Paired.mapP h2 fun _ _ q => ky_mono q (fun c ys e => by rw [upd_ne (ne_of_none e np)]; exact e)
    induction h with
    | nil => exact .nil
    | cons r t ih => exact .cons r ih
  exact go kys
end
noncomputable def RoadL : Node → List Fct → Node → Prop
  | a, [], b => a = b
  | a, g :: gs, b => g.a = a ∧ RoadL g.b gs b
noncomputable def sumF : List Fct → Int
  | [] => 0
  | g :: gs => g.c + sumF gs
theorem RoadL.app : ∀ {gs hs : List Fct} {a b c : Node}, RoadL a gs b → RoadL b hs c → RoadL a (gs ++ hs) c
  | [], hs, a, b, c, h, k => by
    have h : a = b := h
    rw [h]; exact k
  | g :: gs, hs, a, b, c, h, k => ⟨h.1, RoadL.app h.2 k⟩
theorem RoadL.split : ∀ {gs hs : List Fct} {a c : Node}, RoadL a (gs ++ hs) c → ∃ b, RoadL a gs b ∧ RoadL b hs c
  | [], hs, a, c, h => ⟨a, rfl, h⟩
  | g :: gs, hs, a, c, h => let ⟨b, h1, h2⟩ := RoadL.split (gs := gs) h.2; ⟨b, ⟨h.1, h1⟩, h2⟩
theorem sumF_app : ∀ (gs hs : List Fct), sumF (gs ++ hs) = sumF gs + sumF hs
  | [], hs => by show sumF hs = 0 + sumF hs; omega
  | g :: gs, hs => by show g.c + sumF (gs ++ hs) = g.c + sumF gs + sumF hs; rw [sumF_app gs hs]; omega
theorem sumF_rev : ∀ gs : List Fct, sumF gs.reverse = sumF gs
  | [] => rfl
  | g :: gs => by rw [List.reverse_cons, sumF_app, sumF_rev gs]; show sumF gs + (g.c + 0) = g.c + sumF gs; omega
theorem RoadL.keep {num : Node → Int} : ∀ {gs : List Fct} {a b : Node}, RoadL a gs b → (∀ g ∈ gs, num g.a - num g.b ≤ g.c) → num a - num b ≤ sumF gs
  | [], a, b, h, _ => by
    have h : a = b := h
    rw [h]; show num b - num b ≤ 0; omega
  | g :: gs, a, b, h, q => by
    have h1 := RoadL.keep h.2 fun x hx => q x (List.mem_cons_of_mem _ hx)
    have h2 := q g List.mem_cons_self
    rw [h.1] at h2
    show num a - num b ≤ g.c + sumF gs
    omega
noncomputable def Clash (gs : List Fct) : Prop := ∀ num : Node → Int, ¬ ∀ g ∈ gs, num g.a - num g.b ≤ g.c
theorem Clash.more {gs fs : List Fct} (h : Clash gs) (s : ∀ g ∈ gs, g ∈ fs) : Clash fs := fun num q => h num fun g hg => q g (s g hg)
structure IsRing (fs gs : List Fct) : Prop where
  ne : gs ≠ []
  rd : ∃ x, RoadL x gs x
  neg : sumF gs < 0
  nd : (gs.map Fct.b).Nodup
  sub : ∀ g ∈ gs, g ∈ fs
theorem IsRing.clash {fs gs : List Fct} (h : IsRing fs gs) : Clash gs := fun num q => by
  obtain ⟨x, hx⟩ := h.rd
  have h1 := hx.keep q
  have h2 := h.neg
  omega
theorem IsRing.head {fs gs : List Fct} (h : IsRing fs gs) : ∃ g r, gs = g :: r ∧ RoadL g.a gs g.a := by
  obtain ⟨x, hx⟩ := h.rd
  cases gs with
  | nil => exact absurd rfl h.ne
  | cons g r => exact ⟨g, r, rfl, by rw [hx.1]; exact hx⟩
end K34
set_option Elab.async false
set_option linter.all false
set_option maxRecDepth 100000
set_option maxHeartbeats 4000000
namespace K34
open PySem PySem.Spec PyProof.Rows L2
noncomputable abbrev s_by_first_node : Stmt := top 7
noncomputable abbrev s_stand_by : Stmt := top 13
theorem sc_by_first_node : FnScope ["facts", "leading", "fact"] ["facts"] (defScope s_by_first_node) := ⟨rfl, rfl, rfl, by decide +kernel, rfl, by decide +kernel, by decide +kernel⟩
theorem sc_stand_by : FnScope ["sums", "stand", "node"] ["sums"] (defScope s_stand_by) := ⟨rfl, rfl, rfl, by decide +kernel, rfl, by decide +kernel, by decide +kernel⟩
structure LeadOk (K : PySem.W.Frag) (H0 H : Hp) (kvs : List (Node × V)) (fs : List Fct) : Prop where
  no : ∀ k, valV kvs k = none → ∀ f ∈ fs, f.a ≠ k
  so : ∀ k v, valV kvs k = some v → ∃ p xs, v = .ref p ∧ H p = some (.lst xs) ∧ FactsAt K H (fs.filter fun f => decide (f.a = k)) xs ∧ H0 p = none
  inj : ∀ k k' p, valV kvs k = some (.ref p) → valV kvs k' = some (.ref p) → k = k'
theorem tp_lst {H : Hp} {p : Addr} {xs ys : List V} (e : H p = some (.lst xs)) : Tp H (upd H p (.lst ys)) := fun b zs q => by rw [upd_ne (ne_of q e (fun z => nomatch z))]; exact q
theorem facts_app {K : PySem.W.Frag} {H : Hp} {fs : List Fct} {xs : List V} {g : Fct} {v : V} (h : FactsAt K H fs xs) (hg : FactAt K H g v) : FactsAt K H (fs ++ [g]) (xs ++ [v]) := Paired.snoc h hg
theorem filter_one {g : Fct} {k : Node} {fs : List Fct} : (fs ++ [g]).filter (fun f => decide (f.a = k)) = fs.filter (fun f => decide (f.a = k)) ++ (if g.a = k then [g] else []) := by
  rw [List.filter_append]
  congr 1
  by_cases h : g.a = k
  · rw [if_pos h, List.filter_cons_of_pos (p := fun (f : Fct) => decide (f.a = k)) (decide_eq_true h)]; rfl
  · rw [if_neg h, List.filter_cons_of_neg (p := fun (f : Fct) => decide (f.a = k)) (fun z => h (of_decide_eq_true z))]; rfl
theorem lead_old {K : PySem.W.Frag} {H0 H : Hp} {kvs : List (Node × V)} {fs : List Fct} (L : LeadOk K H0 H kvs fs) {g : Fct} {p : Addr} {xs : List V} {v : V} (e : valV kvs g.a = some (.ref p)) (ep : H p = some (.lst xs)) (hx : FactsAt K H (fs.filter fun f => decide (f.a = g.a)) xs) (hg : FactAt K H g v) :
    LeadOk K H0 (upd H p (.lst (xs ++ [v]))) kvs (fs ++ [g]) := by
  have tp := tp_lst (ys := xs ++ [v]) ep
  refine ⟨fun k hk f hf => ?_, fun k u hk => ?_, L.inj⟩
  · rcases List.mem_append.mp hf with hf | hf
    · exact L.no k hk f hf
    · rw [List.mem_singleton.mp hf]
      intro z
      rw [← z, e] at hk
      cases hk
  · obtain ⟨p', xs', rfl, e', h', n'⟩ := L.so k u hk
    by_cases hk2 : g.a = k
    · subst hk2
      rw [e] at hk
      cases hk
      refine ⟨p, xs ++ [v], rfl, upd_same, ?_, n'⟩
      rw [filter_one, if_pos rfl]
      exact facts_app (hx.mono tp) (hg.mono tp)
    · have hp : p' ≠ p := fun z => by rw [z] at hk; exact hk2 (L.inj _ _ _ e hk)
      refine ⟨p', xs', rfl, by rw [upd_ne hp]; exact e', ?_, n'⟩
      rw [filter_one, if_neg hk2, List.append_nil]
      exact h'.mono tp
theorem lead_put {K : PySem.W.Frag} {H0 H H' : Hp} {kvs : List (Node × V)} {fs : List Fct} (L : LeadOk K H0 H kvs fs) (s : ∀ c xs, H c = some (.lst xs) → H' c = some (.lst xs)) (tp : Tp H H') {k : Node} {pe : Addr} (e : valV kvs k = none) (hp : H' pe = some (.lst [])) (n0 : H0 pe = none) (nl : ∀ k' , valV kvs k' ≠ some (.ref pe)) :
    LeadOk K H0 H' (putK kvs k (.ref pe)) fs := by
  refine ⟨fun k' h f hf => ?_, fun k' v h => ?_, fun k1 k2 p h1 h2 => ?_⟩
  · rw [valV_put] at h
    by_cases z : k' = k
    · rw [if_pos z] at h; cases h
    · rw [if_neg z] at h; exact L.no k' h f hf
  · rw [valV_put] at h
    by_cases z : k' = k
    · rw [if_pos z] at h
      cases h
      refine ⟨pe, [], rfl, hp, ?_, n0⟩
      rw [List.filter_eq_nil_iff.mpr fun f hf => by rw [z]; exact fun q => L.no k e f hf (of_decide_eq_true q)]
      exact .nil
    · rw [if_neg z] at h
      obtain ⟨p', xs', rfl, e', h', n'⟩ := L.so k' v h
      exact ⟨p', xs', rfl, s _ _ e', h'.mono tp, n'⟩
  · rw [valV_put] at h1 h2
    by_cases z1 : k1 = k
    · by_cases z2 : k2 = k
      · rw [z1, z2]
      · rw [if_pos z1] at h1
        rw [if_neg z2] at h2
        cases h1
        exact absurd h2 (nl _)
    · by_cases z2 : k2 = k
      · rw [if_neg z1] at h1
        rw [if_pos z2] at h2
        cases h2
        exact absurd h1 (nl _)
      · rw [if_neg z1] at h1
        rw [if_neg z2] at h2
        exact L.inj _ _ _ h1 h2
noncomputable def spByFirst (K : PySem.W.Frag) : Sp := fun vs H Q _ => ExQ Q (fun (l : Addr) Q => ExQ Q (fun (xs : List V) Q => ExQ Q (fun (fs : List Fct) Q => vs = [.ref l] ∧ H l = some (.lst xs) ∧ FactsAt K H fs xs ∧ fs.length ≤ 1000 ∧
  ∀ (H' : Hp) (d : Addr) (kvs : List (Node × V)), Same H H' → DW K H' d kvs → H d = none → LeadOk K H H' kvs fs → Q (.ref d) H')))
theorem dw_ne {K : PySem.W.Frag} {H : Hp} {d c : Addr} {kv : List (Node × V)} {o : HO} (dw : DW K H d kv) (e : H c = some o) (ne : ∀ zs kv, o ≠ .dZ zs kv) : c ≠ d := fun z => by
  obtain ⟨zs, e2, _⟩ := dw
  rw [z, e2] at e
  cases e
  exact ne _ _ rfl
theorem small1 {n : Nat} (h : n ≤ 5000) : n < sizeLine := by rw [sizeLine_eq]; omega
section
variable {P : Program} {w : World} {K : PySem.W.Frag} {mg : Str → Option Value} {base : Heap} {f : Addr} {fd : FuncData} {n : Nat}
theorem ok_by_first_node (F : Fun K "by_first_node" "by_first_node" s_by_first_node f fd) : FnOk P w K mg base CX0 (n + 1) f fd ["facts"] (spByFirst K) := by
  refine F.ok sc_by_first_node (fun vs H Q E h => ?_) (fun cdv A outer s H vs Q E hr h => ?_)
  · obtain ⟨l, xs, fs, rfl, _⟩ := h
    rfl
  obtain ⟨l, xs, fs, rfl, el, hf, hl, q⟩ := h
  have sc := sc_by_first_node
  have hu : (A.deeper (envOfC "by_first_node" (defScope s_by_first_node) s.heap.objs.size f cdv)).units + 1 < cLine := by have := hr.units; omega
  refine ⟨_, (@pss_cons _ _ _ _ _ (ps_set (i := 1) sc.nd rfl (Or.inl rfl) pe_dnewZ)
      (@pss_cons _ _ _ _ _ (ps_for PassesOwn.never rfl (pi_list (pv 0)) (pg_name (i := 2) sc.nd rfl (Or.inl rfl)) (pss_one (ps_expr (pe_bm PySem.F.plainAttrs_list PySem.F.slot_list_append PySem.F.type_list_append mt_append (pe_bm PySem.F.plainAttrs_dict PySem.F.slot_dict_setdefault PySem.F.type_dict_setdefault (mt_zsetdef hu) (pv 1) (pa_cons (pe_ix ix_tup (pv 2) pe_int (fun _ _ => rfl)) (pa_cons (pe_lst pa_nil) pa_nil))) (pa_cons (pv 2) pa_nil)))))
      (pss_one (ps_ret (pv 1))))), ?_⟩
  have lx : fs.length = xs.length := Paired.length hf
  refine fun d nd => ?_
  have u1 := same_new nd (.dZ [] [])
  have d1 : DW K (upd H d (.dZ [] [])) d [] := ⟨[], upd_same, fun _ h => absurd h List.not_mem_nil⟩
  generalize upd H d (.dZ [] []) = H1 at u1 d1
  refine ⟨_, rfl, l, rfl, ⟨_, SqL.of (u1 _ _ el)⟩, ?_⟩
  refine for_list (xs := xs) (fun i σ H' => ∃ kvs y2, Same H H' ∧ DW K H' d kvs ∧ LeadOk K H H' kvs (fs.take i) ∧ kvs.length ≤ i ∧ σ = [some (.ref l), some (.ref d), y2])
    ⟨[], _, u1, d1, ⟨fun _ _ f h => by simp at h, fun _ _ h => (nomatch h), fun _ _ _ h => (nomatch h)⟩, Nat.le_refl _, rfl⟩ (fun i σ H' _ h => ?_) (fun i y σ H2 ey h => ?_) (fun σ H2 h => ?_)
  · obtain ⟨kvs, y2, s2, _⟩ := h
    exact SqL.of (s2 _ _ el)
  · obtain ⟨kvs, y2, s2, d2, L2', l2, rfl⟩ := h
    obtain ⟨g, eg, hg0⟩ := paired_at hf ey
    have hi : i < fs.length := (List.getElem?_eq_some_iff.mp eg).1
    have hg2 := hg0.mono (Tp.of s2)
    obtain ⟨t, va, vb, rfl, et, ⟨ba, rfl, ka⟩, hb⟩ := id hg2
    obtain ⟨zs, ed, hz⟩ := id d2
    have efs : fs.take (i + 1) = fs.take i ++ [g] := by rw [List.take_add_one, eg]; rfl
    refine ⟨_, rfl, .inr (.inr (.inl ⟨rfl, .inr (.inr (.inl ⟨zs, kvs, ed⟩))⟩)), _, rfl, t, _, 0, _, rfl, rfl, SqT.of et, at0 _ _, Nat.le_of_ble_eq_true rfl, fun pe npe => ?_⟩
    have u3 := same_new npe (.lst [])
    have ep3 : upd H2 pe (.lst []) pe = some (.lst []) := upd_same
    have n0 := s2.free npe
    have d3 : DW K (upd H2 pe (.lst [])) d kvs := ⟨zs, u3 _ _ ed, hz⟩
    have L3 : LeadOk K H (upd H2 pe (.lst [])) kvs (fs.take i) := ⟨L2'.no, fun k v e => by
      obtain ⟨p', xs', e1, e2, e3, e4⟩ := L2'.so k v e
      exact ⟨p', xs', e1, u3 _ _ e2, e3.mono (Tp.of u3), e4⟩, L2'.inj⟩
    have nl : ∀ k', valV kvs k' ≠ some (.ref pe) := fun k' e => by
      obtain ⟨p', xs', e1, e2, _⟩ := L2'.so k' _ e
      cases e1
      rw [npe] at e2
      cases e2
    have hg3 := hg2.mono (Tp.of u3)
    have s3 := s2.trans u3
    generalize upd H2 pe (.lst []) = H3 at u3 ep3 d3 L3 hg3 s3
    refine ⟨d, kvs, ba, g.a, .ref pe, rfl, rfl, d3, ky_mono ka (Tp.of u3), small1 (by omega), fun v hv => ?_, fun hv H4 e4 d4 => ?_⟩
    · obtain ⟨p, zs', rfl, ep, hx, n0'⟩ := L3.so _ _ hv
      have lz : zs'.length ≤ 1000 := by
        have h1 := Paired.length hx
        have h2 := List.length_filter_le (fun (f : Fct) => decide (f.a = g.a)) (fs.take i)
        rw [List.length_take] at h2
        omega
      refine ⟨.inl ⟨rfl, _, SqL.of ep⟩, _, rfl, p, zs', _, rfl, rfl, ep, small1 (by omega), ?_⟩
      refine ⟨kvs, _, fun c o e => ?_, ?_, by rw [efs]; exact lead_old L3 hv ep hx hg3, by omega, rfl⟩
      · rw [upd_ne (fun z => by rw [z, n0'] at e; cases e)]; exact s3 c o e
      · obtain ⟨zs3, e3, hz3⟩ := d3
        exact ⟨zs3, by rw [upd_ne (Ne.symm (dw_ne ⟨zs3, e3, hz3⟩ ep fun _ _ z => nomatch z))]; exact e3, hz3⟩
    · have hpd : pe ≠ d := dw_ne d3 ep3 fun _ _ z => nomatch z
      have ep4 : H4 pe = some (.lst []) := by rw [e4 pe hpd]; exact ep3
      have k34 : ∀ c o, H3 c = some o → (∀ zs kv, o ≠ .dZ zs kv) → H4 c = some o := fun c o e ne => by rw [e4 c (dw_ne d3 e ne)]; exact e
      have t34 : Tp H3 H4 := fun b ys e => k34 b _ e fun _ _ z => nomatch z
      have L4 := lead_put L3 (fun c ys e => k34 c _ e fun _ _ z => nomatch z) t34 hv ep4 n0 nl
      refine ⟨.inl ⟨rfl, _, SqL.of ep4⟩, _, rfl, pe, [], _, rfl, rfl, ep4, small1 (by decide), ?_⟩
      have hv5 : valV (putK kvs g.a (.ref pe)) g.a = some (.ref pe) := by rw [valV_put, if_pos rfl]
      obtain ⟨p6, xs6, h6, e6, f6, n6⟩ := L4.so _ _ hv5
      cases h6
      rw [ep4] at e6
      cases e6
      have l4 := length_putK kvs g.a (.ref pe)
      refine ⟨_, _, fun c o e => ?_, ?_, by rw [efs]; exact lead_old L4 hv5 ep4 f6 (hg3.mono t34), by omega, rfl⟩
      · rw [upd_ne (fun z => by rw [z, n0] at e; cases e), e4 c (fun z => by rw [z, nd] at e; cases e)]
        exact s3 c o e
      · obtain ⟨zs4, e44, hz4⟩ := d4
        exact ⟨zs4, by rw [upd_ne (Ne.symm hpd)]; exact e44, hz4⟩
  obtain ⟨kvs, y2, s2, d2, L2', l2, rfl⟩ := h
  rw [← lx, List.take_of_length_le (Nat.le_refl _)] at L2'
  exact ⟨_, rfl, q H2 d kvs s2 d2 nd L2'⟩
end
end K34
set_option Elab.async false
set_option linter.all false
set_option maxRecDepth 100000
set_option maxHeartbeats 4000000
namespace K34
open PySem PySem.Spec PyProof.Rows L2
noncomputable abbrev s_ring_through : Stmt := top 9
theorem sc_ring_through : FnScope ["last", "node", "ring"] ["last", "node"] (defScope s_ring_through) := ⟨rfl, rfl, rfl, by decide +kernel, rfl, by decide +kernel, by decide +kernel⟩
noncomputable def kD : Key → D
  | .inl i => .int i
  | .inr x => .str x
theorem is_kD {K : PySem.W.Frag} {H : Hp} (k : Key) : Is K H (kD k) (kV k) := by
  cases k with
  | inl i => exact is_int
  | inr x => exact is_str
theorem isl_kD {K : PySem.W.Frag} {H : Hp} : ∀ k : Node, IsL K H (k.map kD) (k.map kV)
  | [] => isl_nil
  | x :: k => isl_cons (is_kD x) (isl_kD k)
theorem node_is {K : PySem.W.Frag} {H : Hp} {v : V} {k : Node} (h : NodeAt K H v k) : Is K H (.tup (k.map kD)) v := by
  obtain ⟨b, rfl, h⟩ := h
  exact is_tup h.sq (isl_kD k)
theorem dep_kD : ∀ k : Node, D.depL (k.map kD) = 0
  | [] => by rw [List.map_nil]; unfold D.depL; rfl
  | x :: k => by
    rw [List.map_cons, show D.depL (kD x :: k.map kD) = max (kD x).dep (D.depL (k.map kD)) by conv => lhs; unfold D.depL, dep_kD k]
    cases x with
    | inl i => show max (D.dep (.int i)) 0 = 0; unfold D.dep; rfl
    | inr x => show max (D.dep (.str x)) 0 = 0; unfold D.dep; rfl
theorem kD_inj {a b : Key} (h : kD a = kD b) : a = b := by
  cases a <;> cases b <;> cases h <;> rfl
theorem kDs_inj : ∀ {a b : Node}, a.map kD = b.map kD → a = b
  | [], [], _ => rfl
  | [], _ :: _, e => by simp at e
  | _ :: _, [], e => by simp at e
  | x :: xs, y :: ys, e => by
    rw [List.map_cons, List.map_cons] at e
    injection e with e1 e2
    rw [kD_inj e1, kDs_inj e2]
theorem beq_node (k k' : Node) : D.beqL (k.map kD) (k'.map kD) = decide (k = k') := by
  cases e : D.beqL (k.map kD) (k'.map kD) with
  | true =>
    have h := (D.beqL_iff _ _).mp e
    exact (decide_eq_true (kDs_inj h)).symm
  | false =>
    refine (decide_eq_false fun z => ?_).symm
    rw [z, D.beqL_self] at e
    cases e
structure LastIs (K : PySem.W.Frag) (H : Hp) (kvs : List (Node × V)) (l : Last) (fs : List Fct) : Prop where
  so : ∀ k v, valV kvs k = some v → ∃ f ∈ fs, FactAt K H f v ∧ f.b = k ∧ l k = some (f.a, f.c)
  no : ∀ k, valV kvs k = none → l k = none
theorem LastIs.mono {K : PySem.W.Frag} {H H' : Hp} {kvs : List (Node × V)} {l : Last} {fs : List Fct} (h : LastIs K H kvs l fs) (t : Tp H H') : LastIs K H' kvs l fs :=
  ⟨fun k v e => let ⟨f, h1, h2, h3⟩ := h.so k v e; ⟨f, h1, h2.mono t, h3⟩, h.no⟩
theorem dz_same {K : PySem.W.Frag} {H H' : Hp} {d : Addr} {kvs : List (Node × V)} (h : DZ K H d kvs) (s : Same H H') : DZ K H' d kvs := by
  obtain ⟨zs, e, hz⟩ := h
  exact ⟨zs, e.imp (s _ _) fun hp0 => by obtain ⟨o, e⟩ := hp0; exact ⟨o, s _ _ e⟩, hz⟩
theorem Bk.mid {l : Last} {a b : Nat} : ∀ {x z : Node} {w : Int}, Bk l x (a + b) w z → ∃ y w1 w2, Bk l x a w1 y ∧ Bk l y b w2 z ∧ w = w1 + w2 := by
  induction a with
  | zero => intro x z w h; rw [Nat.zero_add] at h; exact ⟨x, 0, w, .nil x, h, by omega⟩
  | succ a ih =>
    intro x z w h
    rw [show a + 1 + b = a + b + 1 by omega] at h
    cases h with
    | @cons _ u _ c w' _ e t =>
      obtain ⟨y, w1, w2, h1, h2, rfl⟩ := ih t
      exact ⟨y, c + w1, w2, .cons e h1, h2, by omega⟩
theorem Bk.snoc {l : Last} {x y u : Node} {n : Nat} {w c : Int} (h : Bk l x n w y) (e : l y = some (u, c)) : Bk l x (n + 1) (w + c) u := by
  have := h.trans (.cons e (.nil u))
  rw [show w + c = w + (c + 0) by omega]; exact this
theorem paired_snoc {α β : Type} {F : α → β → Prop} : ∀ {l : List α} {a : α} {m : List β}, Paired F (l ++ [a]) m → ∃ m0 b, m = m0 ++ [b] ∧ Paired F l m0 ∧ F a b
  | [], a, _, .cons r .nil => ⟨[], _, rfl, .nil, r⟩
  | x :: l, a, _, .cons r t => by
    obtain ⟨m0, b, rfl, h1, h2⟩ := paired_snoc t
    exact ⟨_ :: m0, b, rfl, .cons r h1, h2⟩
theorem paired_rev {α β : Type} {F : α → β → Prop} {l : List α} {m : List β} (h : Paired F l m) : Paired F l.reverse m.reverse := by
  induction h with
  | nil => exact .nil
  | cons r t ih => rw [List.reverse_cons, List.reverse_cons]; exact Paired.snoc ih r
theorem nd_rev {gs : List Fct} (h : (gs.map Fct.b).Nodup) : (gs.reverse.map Fct.b).Nodup := by
  rw [List.map_reverse]
  exact (List.reverse_perm _).nodup_iff.mpr h
theorem Bk.short {l : Last} {y k : Node} {p : Nat} {wp : Int} (r : Bk l y (p + 1) wp y) : ∀ (q : Nat) {w : Int}, Bk l y q w k → ∃ q' w', q' ≤ p ∧ Bk l y q' w' k := by
  intro q
  induction q using Nat.strongRecOn with
  | ind q ih =>
    intro w h
    rcases Nat.lt_or_ge p q with hq | hq
    · obtain ⟨s, rfl⟩ : ∃ s, q = p + 1 + s := ⟨q - p - 1, by omega⟩
      obtain ⟨z, w1, w2, b1, b2, _⟩ := h.mid
      obtain ⟨rfl, _⟩ := b1.det r
      exact ih s (by omega) b2
    · exact ⟨q, w, hq, h⟩
noncomputable def spRingThrough (K : PySem.W.Frag) : Sp := fun vs H Q _ => ExQ Q (fun (d : Addr) Q => ExQ Q (fun (kvs : List (Node × V)) Q => ExQ Q (fun (fs : List Fct) Q => ExQ Q (fun (l : Last) Q => ExQ Q (fun (v : V) Q => ExQ Q (fun (k : Node) Q => ExQ Q (fun (m : Nat) Q => ExQ Q (fun (wt : Int) Q => vs = [.ref d, v] ∧ DZ K H d kvs ∧ LastIs K H kvs l fs ∧ NodeAt K H v k ∧ Bk l k (m + 1) wt k ∧ (∀ n w, Bk l k (n + 1) w k → w < 0) ∧ m ≤ 4000 ∧
  ∀ (H' : Hp) (p : Addr) (xs : List V) (gs : List Fct), Same H H' → H' p = some (.lst xs) → H p = none → FactsAt K H' gs xs → gs.length ≤ 4001 → IsRing fs gs → Q (.ref p) H'))))))))
section
variable {P : Program} {w : World} {K : PySem.W.Frag} {mg : Str → Option Value} {base : Heap} {f : Addr} {fd : FuncData} {n : Nat}
theorem ok_ring_through (F : Fun K "ring_through" "ring_through" s_ring_through f fd) (m_list : mg "list" = none) (m_reversed : mg "reversed" = none) : FnOk P w K mg base CX0 (n + 1) f fd ["last", "node"] (spRingThrough K) := by
  refine F.ok sc_ring_through (fun vs H Q E h => ?_) (fun cdv A outer s H vs Q E hr h => ?_)
  · obtain ⟨d, kvs, fs, l, v, k, m, wt, rfl, _⟩ := h
    rfl
  obtain ⟨d, kvs, fs, l, v, k, m, wt, rfl, hd, hL, hk, hB, hw, hm, q⟩ := h
  have sc := sc_ring_through
  have hu : (A.deeper (envOfC "ring_through" (defScope s_ring_through) s.heap.objs.size f cdv)).units + 1 < cLine := by have := hr.units; omega
  have hu9 : (A.deeper (envOfC "ring_through" (defScope s_ring_through) s.heap.objs.size f cdv)).units + 1 + 9 < cLine := by have := hr.units; omega
  refine ⟨_, (@pss_cons _ _ _ _ _ (ps_set (i := 2) sc.nd rfl (Or.inl rfl) (pe_lst (pa_cons (pe_zget hu (pv 0) (pv 1) (fun _ _ => rfl)) pa_nil)))
      (@pss_cons _ _ _ _ _ (ps_while PassesOwn.never (pt_cmpR (op_neD (n := 9) hu9) (pe_ix ix_tup (pe_ix ix_list (pv 2) (pe_un un_neg pe_int) (fun _ _ => rfl)) pe_int (fun _ _ => rfl)) (pv 1) (nomark _)) (pss_one (ps_expr (pe_bm PySem.F.plainAttrs_list PySem.F.slot_list_append PySem.F.type_list_append mt_append (pv 2) (pa_cons (pe_zget hu (pv 0) (pe_ix ix_tup (pe_ix ix_list (pv 2) (pe_un un_neg pe_int) (fun _ _ => rfl)) pe_int (fun _ _ => rfl)) (fun _ _ => rfl)) pa_nil)))))
      (pss_one (ps_ret (pe_listrev rfl rfl m_list rfl m_reversed (pa_cons (pv 2) pa_nil)))))), ?_⟩
  have there : ∀ {y u : Node} {c : Int}, l y = some (u, c) → ∃ v, valV kvs y = some v := fun {y u c} e => by
    cases h : valV kvs y with
    | none => rw [hL.no y h] at e; cases e
    | some v => exact ⟨v, rfl⟩
  obtain ⟨b, rfl, kb⟩ := id hk
  obtain ⟨u0, c0, e0⟩ : ∃ u c, l k = some (u, c) := by
    cases hB with
    | cons e _ => exact ⟨_, _, e⟩
  obtain ⟨v0, hv0⟩ := there e0
  obtain ⟨f0, hf0, hF0, eb0, el0⟩ := hL.so k v0 hv0
  refine ⟨_, rfl, _, rfl, d, kvs, b, k, v0, rfl, rfl, hd, kb, hv0, Nat.le_of_ble_eq_true rfl, fun pr npr => ?_⟩
  have u1 := same_new npr (.lst [v0])
  refine ⟨fun j σ H' => ∃ (gs0 : List Fct) (gl : Fct) (xs : List V) (wj : Int), j = m + 1 - (gs0.length + 1) ∧ Same H H' ∧ H' pr = some (.lst xs) ∧ FactsAt K H' (gs0 ++ [gl]) xs ∧ (∀ g ∈ gs0 ++ [gl], g ∈ fs) ∧ Bk l k (gs0.length + 1) wj gl.a ∧ gs0.length ≤ m ∧
      (RoadL gl.a (gs0 ++ [gl]).reverse k ∧ sumF (gs0 ++ [gl]) = wj ∧ ((gs0 ++ [gl]).map Fct.b).Nodup ∧ (∀ i g, (gs0 ++ [gl])[i]? = some g → ∃ w, Bk l k i w g.b) ∧ ∀ i z w, 0 < i → i ≤ gs0.length → Bk l k i w z → z ≠ k) ∧ σ = [some (.ref d), some (.ref b), some (.ref pr)],
    ⟨_, [], f0, [v0], f0.c, rfl, u1, upd_same, .cons (hF0.mono (Tp.of u1)) .nil, fun g hg => by rw [List.mem_singleton.mp hg]; exact hf0, ?_, Nat.zero_le _, ⟨⟨rfl, eb0⟩, by show f0.c + 0 = f0.c; omega, (by simp), fun i g hi => ?_, fun i z w h1 h2 => absurd h2 (by show ¬ i ≤ 0; omega)⟩, rfl⟩, fun j σ H2 h => ?_⟩
  · have := Bk.cons el0 (.nil f0.a)
    rw [Int.add_zero] at this
    exact this
  · cases i with
    | zero => cases (show some f0 = some g from hi); rw [eb0]; exact ⟨0, .nil k⟩
    | succ i => cases (show none = some g from hi)
  obtain ⟨gs0, gl, xs, wj, rfl, s2, ep, hF, hmem, hbk, hlen, ⟨hroad, hsum, hnd, hidx, hnor⟩, rfl⟩ := h
  obtain ⟨xs0, vl, rfl, hF1, hFl⟩ := paired_snoc hF
  have lx : xs0.length = gs0.length := (Paired.length hF1).symm
  obtain ⟨t, va, vb, rfl, et, hna, hnb⟩ := id hFl
  have hk2 := hk.mono (Tp.of s2)
  refine ⟨_, rfl, _, rfl, pr, _, _, _, rfl, rfl, SqL.of ep, atI_last xs0 (.ref t), t, _, 0, _, rfl, rfl, SqT.of et, at0 _ _, _, rfl, gl.a.map kD, k.map kD, node_is hna, node_is hk2, by rw [dep_kD]; decide, _, rfl, ?_⟩
  rw [beq_node]
  by_cases hend : gl.a = k
  · rw [decide_eq_true hend]
    refine iteF ⟨_, rfl, pr, _, rfl, ep, fun p np => ?_⟩
    have u3 := same_new np (.lst (xs0 ++ [V.ref t]).reverse)
    rw [hend] at hroad hbk
    have h2 := hw _ _ hbk
    exact q _ p _ (gs0 ++ [gl]).reverse (s2.trans u3) upd_same (s2.free np) (paired_rev (hF.mono (Tp.of u3))) (by rw [List.length_reverse, List.length_append, List.length_singleton]; omega) ⟨by simp, ⟨k, hroad⟩, by rw [sumF_rev, hsum]; exact h2, nd_rev hnd, fun g hg => hmem g (List.mem_reverse.mp hg)⟩
  · rw [decide_eq_false hend]
    have hlt : gs0.length + 1 < m + 1 := by
      rcases Nat.lt_or_ge (gs0.length + 1) (m + 1) with h | h
      · exact h
      · have e : gs0.length + 1 = m + 1 := by omega
        rw [e] at hbk
        exact absurd (hbk.det hB).1 hend
    obtain ⟨r, hr2⟩ : ∃ r, m + 1 = gs0.length + 1 + (r + 1) := ⟨m - gs0.length - 1, by omega⟩
    have hB2 := hB
    rw [hr2] at hB2
    obtain ⟨y, w1, w2, b1, b2, _⟩ := hB2.mid
    obtain ⟨rfl, _⟩ := b1.det hbk
    obtain ⟨un, cn, en⟩ : ∃ u c, l gl.a = some (u, c) := by
      cases b2 with
      | cons e _ => exact ⟨_, _, e⟩
    obtain ⟨vn, hvn⟩ := there en
    obtain ⟨fn, hfn, hFn, ebn, eln⟩ := (hL.mono (Tp.of s2)).so _ vn hvn
    obtain ⟨ba, rfl, ka⟩ := id hna
    refine iteT ⟨fun σ' H' => ∃ m', m' < m + 1 - (gs0.length + 1) ∧ ∃ (gs0 : List Fct) (gl : Fct) (xs : List V) (wj : Int), m' = m + 1 - (gs0.length + 1) ∧ Same H H' ∧ H' pr = some (.lst xs) ∧ FactsAt K H' (gs0 ++ [gl]) xs ∧ (∀ g ∈ gs0 ++ [gl], g ∈ fs) ∧ Bk l k (gs0.length + 1) wj gl.a ∧ gs0.length ≤ m ∧
      (RoadL gl.a (gs0 ++ [gl]).reverse k ∧ sumF (gs0 ++ [gl]) = wj ∧ ((gs0 ++ [gl]).map Fct.b).Nodup ∧ (∀ i g, (gs0 ++ [gl])[i]? = some g → ∃ w, Bk l k i w g.b) ∧ ∀ i z w, 0 < i → i ≤ gs0.length → Bk l k i w z → z ≠ k) ∧ σ' = [some (.ref d), some (.ref b), some (.ref pr)], fun _ _ h => h, ?_⟩
    have tp := tp_lst (ys := (xs0 ++ [V.ref t]) ++ [vn]) ep
    refine ⟨_, rfl, .inl ⟨rfl, _, SqL.of ep⟩, _, rfl, _, rfl, _, rfl, pr, _, _, _, rfl, rfl, SqL.of ep, atI_last xs0 (.ref t), t, _, 0, _, rfl, rfl, SqT.of et, at0 _ _, d, kvs, ba, gl.a, vn, rfl, rfl, dz_same hd s2, ka, hvn, pr, _, _, rfl, rfl, ep, small1 (by rw [List.length_append, List.length_singleton]; omega), ?_⟩
    have el : (gs0 ++ [gl]).length = gs0.length + 1 := by rw [List.length_append, List.length_singleton]
    refine ⟨m + 1 - (gs0.length + 1 + 1), by omega, gs0 ++ [gl], fn, _, wj + fn.c, by rw [el], fun c o e => ?_, upd_same, facts_app (hF.mono tp) (hFn.mono tp), fun g hg => ?_, by rw [el]; exact hbk.snoc eln, by omega, ⟨?_, ?_, ?_, ?_, ?_⟩, rfl⟩
    · rw [upd_ne (fun z => by rw [z, npr] at e; cases e)]; exact s2 c o e
    · rcases List.mem_append.mp hg with hg | hg
      · exact hmem g hg
      · rw [List.mem_singleton.mp hg]; exact hfn
    · rw [List.reverse_append]
      exact ⟨rfl, by rw [ebn]; exact hroad⟩
    · rw [sumF_app, hsum]; show wj + (fn.c + 0) = wj + fn.c; omega
    · have hnr : ∀ i z w, 0 < i → i ≤ gs0.length + 1 → Bk l k i w z → z ≠ k := fun i z w h1 h2 h3 => by
        rcases Nat.lt_or_ge i (gs0.length + 1) with h4 | h4
        · exact hnor i z w h1 (by omega) h3
        · have e : i = gs0.length + 1 := by omega
          rw [e] at h3
          rw [(h3.det hbk).1]; exact hend
      rw [List.map_append, List.nodup_append]
      refine ⟨hnd, (by simp), fun x hx y hy z => ?_⟩
      rw [List.map_singleton, List.mem_singleton] at hy
      rw [← z, ebn] at hy
      obtain ⟨g, hg, rfl⟩ := List.mem_map.mp hx
      obtain ⟨i, hi⟩ := List.mem_iff_getElem?.mp hg
      have hil : i < gs0.length + 1 := by
        have := (List.getElem?_eq_some_iff.mp hi).1
        rw [el] at this; exact this
      obtain ⟨wi, bi⟩ := hidx i g hi
      rw [hy] at bi
      rcases Nat.eq_zero_or_pos i with hz | hz
      · rw [hz] at bi
        exact hend (by cases bi; rfl)
      · obtain ⟨p, hp⟩ : ∃ p, gs0.length + 1 = i + (p + 1) := ⟨gs0.length - i, by omega⟩
        have hbk2 := hbk
        rw [hp] at hbk2
        obtain ⟨z1, w3, w4, b3, b4, _⟩ := hbk2.mid
        obtain ⟨rfl, _⟩ := b3.det bi
        obtain ⟨q', w', hq', bq⟩ := b4.short _ b2
        exact hnr _ _ _ (by omega) (by omega) (bi.trans bq) rfl
    · intro i g hi
      rcases Nat.lt_or_ge i (gs0 ++ [gl]).length with h1 | h1
      · rw [List.getElem?_append_left h1] at hi
        exact hidx i g hi
      · rw [List.getElem?_append_right h1] at hi
        have hi2 : i = gs0.length + 1 := by
          have := (List.getElem?_eq_some_iff.mp hi).1
          rw [List.length_singleton] at this
          rw [el] at h1 this
          omega
        rw [hi2, el, Nat.sub_self] at hi
        cases (show some fn = some g from hi)
        rw [hi2, ebn]
        exact ⟨_, hbk⟩
    · intro i z w h1 h2 h3
      rw [el] at h2
      rcases Nat.lt_or_ge i (gs0.length + 1) with h4 | h4
      · exact hnor i z w h1 (by omega) h3
      · have e : i = gs0.length + 1 := by omega
        rw [e] at h3
        rw [(h3.det hbk).1]; exact hend
end
end K34
set_option Elab.async false
set_option linter.all false
set_option maxRecDepth 100000
set_option maxHeartbeats 4000000
namespace K34
open PySem PySem.Spec PyProof.Rows L2
noncomputable abbrev s_ring_among : Stmt := top 8
theorem sc_ring_among : FnScope ["last", "seen", "start", "node"] ["last"] (defScope s_ring_among) := ⟨rfl, rfl, rfl, by decide +kernel, rfl, by decide +kernel, by decide +kernel⟩
theorem nd_sub : ∀ {l m : List Node}, l.Nodup → (∀ x ∈ l, x ∈ m) → l.length ≤ m.length
  | [], m, _, _ => Nat.zero_le _
  | x :: l, m, h, q => by
    rw [List.nodup_cons] at h
    have hx := q x List.mem_cons_self
    have h1 := nd_sub (m := m.filter fun y => decide (y ≠ x)) h.2 fun y hy => List.mem_filter.mpr ⟨q y (List.mem_cons_of_mem _ hy), decide_eq_true fun z => h.1 (by rw [← z]; exact hy)⟩
    have h2 : (m.filter fun y => decide (y ≠ x)).length < m.length := List.length_filter_lt_length_iff_exists.mpr ⟨x, hx, fun z => of_decide_eq_true z rfl⟩
    rw [List.length_cons]; omega
noncomputable def Out (l : Last) (b : Nat) (k : Node) : Prop := ∃ n w x, n ≤ b ∧ Bk l k n w x ∧ l x = none
theorem Out.mono {l : Last} {b b' : Nat} {k : Node} (h : Out l b k) (hb : b ≤ b') : Out l b' k := let ⟨n, w, x, h1, h2⟩ := h; ⟨n, w, x, Nat.le_trans h1 hb, h2⟩
structure Wk (K : PySem.W.Frag) (H : Hp) (l : Last) (ks : List Node) (st : Node) (kv0 kv2 : List (Node × V)) (j : Nat) (x : Node) : Prop where
  nd : (Keys kv2).Nodup
  bk : ∃ w, Bk l st j w x
  len : kv2.length = kv0.length + j
  seen : ∀ k u, valV kv2 k = some u → k ∈ ks ∧ (valV kv0 k = some u ∨ (valV kv0 k = none ∧ NodeAt K H u st ∧ ∃ a wa, a < j ∧ Bk l st a wa k))
  old : ∀ k u, valV kv0 k = some u → valV kv2 k = some u
  st : (j = 0 ∧ x = st) ∨ (valV kv2 st).isSome = true
theorem Wk.step {K : PySem.W.Frag} {H H' : Hp} {l : Last} {ks : List Node} {st : Node} {kv0 kv2 : List (Node × V)} {j : Nat} {x u : Node} {c : Int} (h : Wk K H l ks st kv0 kv2 j x) (t : Tp H H') (hx : x ∈ ks) (hn : valV kv2 x = none) (e : l x = some (u, c)) {v : V} (hv : NodeAt K H' v st) :
    Wk K H' l ks st kv0 (putK kv2 x v) (j + 1) u := by
  obtain ⟨w, hb⟩ := h.bk
  have h0 : valV kv0 x = none := by
    cases z : valV kv0 x with
    | none => rfl
    | some y => rw [h.old x y z] at hn; cases hn
  refine ⟨nd_put h.nd, ⟨_, hb.snoc e⟩, ?_, fun k y hk => ?_, fun k y hk => ?_, .inr ?_⟩
  · rw [putK_new v hn, List.length_append, List.length_singleton, h.len]; omega
  · rw [valV_put] at hk
    by_cases z : k = x
    · rw [if_pos z] at hk
      cases hk
      rw [z]
      exact ⟨hx, .inr ⟨h0, hv, j, w, Nat.lt_succ_self j, hb⟩⟩
    · rw [if_neg z] at hk
      obtain ⟨h1, h2⟩ := h.seen k y hk
      refine ⟨h1, h2.imp id fun hp0 => by obtain ⟨g1, g2, a, wa, g3, g4⟩ := hp0; exact ⟨g1, g2.mono t, a, wa, by omega, g4⟩⟩
  · rw [valV_put, if_neg (fun z => by rw [z, h0] at hk; cases hk)]
    exact h.old k y hk
  · rw [valV_put]
    by_cases z : st = x
    · rw [if_pos z]; rfl
    · rw [if_neg z]
      rcases h.st with ⟨h1, h2⟩ | h2
      · exact absurd h2.symm z
      · exact h2
theorem Wk.out {K : PySem.W.Frag} {H : Hp} {l : Last} {ks : List Node} {st : Node} {kv0 kv2 : List (Node × V)} {j : Nat} {x : Node} (h : Wk K H l ks st kv0 kv2 j x) (ho : ∀ k u, valV kv0 k = some u → Out l kv0.length k) (hx : Out l kv0.length x) : ∀ k u, valV kv2 k = some u → Out l kv2.length k := fun k u hk => by
  rcases (h.seen k u hk).2 with h1 | ⟨_, _, a, wa, ha, hb⟩
  · exact (ho k u h1).mono (by rw [h.len]; omega)
  · obtain ⟨w, hB⟩ := h.bk
    obtain ⟨r, rfl⟩ : ∃ r, j = a + r := ⟨j - a, by omega⟩
    obtain ⟨y, w1, w2, b1, b2, _⟩ := hB.mid
    obtain ⟨rfl, _⟩ := b1.det hb
    obtain ⟨n, w3, z, h1, h2, h3⟩ := hx
    exact ⟨r + n, _, z, by rw [h.len]; omega, b2.trans h2, h3⟩
theorem Wk.ring {K : PySem.W.Frag} {H : Hp} {l : Last} {ks : List Node} {st : Node} {kv0 kv2 : List (Node × V)} {j : Nat} {x : Node} (h : Wk K H l ks st kv0 kv2 j x) {a : Nat} {wa : Int} (ha : a < j) (hb : Bk l st a wa x) : ∃ m w, m < j ∧ Bk l x (m + 1) w x := by
  obtain ⟨w, hB⟩ := h.bk
  obtain ⟨r, rfl⟩ : ∃ r, j = a + (r + 1) := ⟨j - a - 1, by omega⟩
  obtain ⟨y, w1, w2, b1, b2, _⟩ := hB.mid
  obtain ⟨rfl, _⟩ := b1.det hb
  exact ⟨r, w2, by omega, b2⟩
theorem key_at {kvs : List (Node × V)} {i : Nat} {k : Node} {v : V} (h : kvs[i]? = some (k, v)) : (Keys kvs)[i]? = some k := by
  unfold Keys
  rw [List.getElem?_map, h]; rfl
noncomputable def spRingAmong (K : PySem.W.Frag) : Sp := fun vs H Q _ => ExQ Q (fun (d : Addr) Q => ExQ Q (fun (kvs : List (Node × V)) Q => ExQ Q (fun (fs : List Fct) Q => ExQ Q (fun (l : Last) Q => vs = [.ref d] ∧ DW K H d kvs ∧ LastIs K H kvs l fs ∧ (Keys kvs).Nodup ∧ kvs.length ≤ 3000 ∧ (∀ v n w, Bk l v (n + 1) w v → w < 0) ∧
  (∀ H', Same H H' → (∀ k, Out l kvs.length k) → Q .non H') ∧
  ∀ (H' : Hp) (p : Addr) (xs : List V) (gs : List Fct), Same H H' → H' p = some (.lst xs) → H p = none → FactsAt K H' gs xs → gs.length ≤ 4001 → IsRing fs gs → Q (.ref p) H'))))
section
variable {P : Program} {w : World} {K : PySem.W.Frag} {mg : Str → Option Value} {base : Heap} {f : Addr} {fd : FuncData} {n : Nat}
theorem ok_ring_among (F : Fun K "ring_among" "ring_among" s_ring_among f fd) (c_ring_through : Cl P w K mg base "ring_through" n ["last", "node"] (spRingThrough K)) : FnOk P w K mg base CX0 (n + 1) f fd ["last"] (spRingAmong K) := by
  refine F.ok sc_ring_among (fun vs H Q E h => ?_) (fun cdv A outer s H vs Q E hr h => ?_)
  · obtain ⟨d, kvs, fs, l, rfl, _⟩ := h
    rfl
  obtain ⟨d, kvs, fs, l, rfl, hd, hL, hnk, hl3, hneg, qn, qr⟩ := h
  have sc := sc_ring_among
  have hu : (A.deeper (envOfC "ring_among" (defScope s_ring_among) s.heap.objs.size f cdv)).units + 1 < cLine := by have := hr.units; omega
  have hu9 : (A.deeper (envOfC "ring_among" (defScope s_ring_among) s.heap.objs.size f cdv)).units + 1 + 9 < cLine := by have := hr.units; omega
  refine ⟨_, (@pss_cons _ _ _ _ _ (ps_set (i := 1) sc.nd rfl (Or.inl rfl) pe_dnewZ)
      (@pss_cons _ _ _ _ _ (ps_thaw (ps_for PassesOwn.never rfl (pi_keys (pv 0)) (pg_name (i := 2) sc.nd rfl (Or.inl rfl)) (@pss_cons _ _ _ _ _ (ps_set (i := 3) sc.nd rfl (Or.inl rfl) (pv 2))
      (@pss_cons _ _ _ _ _ (ps_while PassesOwn.never (PW.pt (pw_and (pt_cmp (pc_zin hu (pv 3) (pv 0))) (pw_and1 (pt_cmp (pc_znotin hu (pv 3) (pv 1)))))) (@pss_cons _ _ _ _ _ (ps_zput hu (pv 1) (pv 3) (pv 2) rfl)
      (pss_one (ps_set (i := 3) sc.nd rfl (Or.inl rfl) (pe_ix ix_tup (pe_zget hu (pv 0) (pv 3) (fun _ _ => rfl)) pe_int (fun _ _ => rfl))))))
      (pss_one (ps_if (pt_cmpR (op_eqDN (n := 9) hu9) (pe_zget1 hu (pv 1) (pv 3) ⟨rfl, rfl, rfl, rfl⟩) (pv 2) (nomark _)) (pss_one (ps_ret (pe_cl c_ring_through hr rfl (pa_cons (pv 0) (pa_cons (pv 3) pa_nil))))) pss_nil))))))
      (pss_one (ps_ret pe_non)))), ?_⟩
  obtain ⟨zs, ed, hz⟩ := id hd
  refine fun ds nds => ?_
  have hne : d ≠ ds := fun z => by rw [← z, ed] at nds; cases nds
  refine ⟨_, rfl, d, zs, kvs, rfl, by rw [upd_ne hne]; exact ed, fun o => ?_⟩
  have hkey : ∀ {k : Node}, k ∈ Keys kvs → ∃ u c, l k = some (u, c) := fun {k} h => by
    obtain ⟨v, e⟩ := Option.isSome_iff_exists.mp (key_iff.mp h)
    obtain ⟨f, _, _, _, e2⟩ := hL.so k v e
    exact ⟨_, _, e2⟩
  have hout : ∀ {k : Node}, ¬ k ∈ Keys kvs → l k = none := fun {k} h => by
    refine hL.no k ?_
    cases e : valV kvs k with
    | none => rfl
    | some v => exact absurd (valV_in e) h
  -- the frame: all but d as it was, d frozen
  let Fr : Hp → Prop := fun H' => (∀ c ob, c ≠ d → H c = some ob → H' c = some ob) ∧ H' d = some (.frz o (.dZ zs kvs))
  have thw : ∀ {H' : Hp}, Fr H' → Same H (upd H' d (.dZ zs kvs)) := fun {H'} h c ob e => by
    by_cases z : c = d
    · rw [z, upd_same]
      rw [z, ed] at e
      exact e
    · rw [upd_ne z]; exact h.1 c ob z e
  have nfz : ∀ o' u', H d ≠ some (.frz o' u') := fun o' u' z => by rw [ed] at z; cases z
  have tpF : ∀ {H' : Hp}, Fr H' → Tp H H' := fun {H'} h b ys e => h.1 b _ (fun z => by rw [z, ed] at e; cases e) e
  refine for_keys (fun i σ H' => ∃ (kv2 : List (Node × V)) (y2 y3 : Option V), Fr H' ∧ DW K H' ds kv2 ∧ (Keys kv2).Nodup ∧ (∀ k v, valV kv2 k = some v → k ∈ Keys kvs ∧ Out l kv2.length k ∧ ∃ st ∈ (Keys kvs).take i, NodeAt K H' v st) ∧ (∀ k ∈ (Keys kvs).take i, (valV kv2 k).isSome = true) ∧ σ = [some (.ref d), some (.ref ds), y2, y3])
    ⟨[], _, _, ⟨fun c ob hc e => ?_, upd_same⟩, ⟨[], by rw [upd_ne (Ne.symm hne)]; exact upd_same, fun _ h => absurd h List.not_mem_nil⟩, List.nodup_nil, fun _ _ h => (nomatch h), fun k h => by simp at h, rfl⟩ (fun i σ H' _ h => ?_) (fun i b k v σ H2 hk hb h => ?_) (fun σ H2 h => ?_)
  · rw [upd_ne hc, upd_ne (fun z => by rw [z, nds] at e; cases e)]; exact e
  · obtain ⟨_, _, _, h, _⟩ := h
    exact h.2
  · obtain ⟨kv0, y2, y3, fr, d2, n2, m2, a2, rfl⟩ := h
    have hst : NodeAt K H2 (.ref b) k := ⟨b, rfl, hb.imp id fun z => hz _ z⟩
    have hki := key_at hk
    have hkk : k ∈ Keys kvs := List.mem_of_getElem? hki
    have hil : i < (Keys kvs).length := (List.getElem?_eq_some_iff.mp hki).1
    have etk : (Keys kvs).take (i + 1) = (Keys kvs).take i ++ [k] := by rw [List.take_add_one, hki]; rfl
    have hkn : k ∉ (Keys kvs).take i := fun z => by
      have h1 : ((Keys kvs).take (i + 1)).Nodup := hnk.sublist (List.take_sublist _ _)
      rw [etk, List.nodup_append] at h1
      exact h1.2.2 k z k List.mem_cons_self rfl
    refine ⟨_, rfl, ?_⟩
    refine ⟨fun m σ H' => ∃ (kv2 : List (Node × V)) (j : Nat) (x : Node) (v : V), m = kvs.length - kv2.length ∧ Fr H' ∧ Tp H2 H' ∧ DW K H' ds kv2 ∧ NodeAt K H' v x ∧ Wk K H' l (Keys kvs) k kv0 kv2 j x ∧ σ = [some (.ref d), some (.ref ds), some (.ref b), some v],
      ⟨_, kv0, 0, k, .ref b, rfl, fr, Tp.refl, d2, hst, ⟨n2, ⟨0, .nil k⟩, rfl, fun k u h => ⟨(m2 k u h).1, .inl h⟩, fun _ _ h => h, .inl ⟨rfl, rfl⟩⟩, rfl⟩, fun m σ H3 h => ?_⟩
    obtain ⟨kv2, j, x, v3, rfl, fr3, t3, d3, hx, W, rfl⟩ := h
    obtain ⟨bx, rfl, kx⟩ := id hx
    have hdz : DZ K H3 d kvs := ⟨zs, .inr ⟨o, fr3.2⟩, hz⟩
    have hle3 : kv2.length ≤ kvs.length := by
      have := nd_sub W.nd fun y hy => by
        obtain ⟨v, e⟩ := Option.isSome_iff_exists.mp (key_iff.mp hy)
        exact (W.seen y v e).1
      unfold Keys at this
      rw [List.length_map, List.length_map] at this
      exact this
    have hjl : j ≤ kvs.length := by have := W.len; omega
    refine ⟨_, rfl, _, rfl, d, kvs, bx, x, rfl, rfl, hdz, kx, _, rfl, ?_⟩
    have hcase : ((valV kvs x).isSome = true ∧ valV kv2 x = none) ∨ (l x = none ∨ (valV kv2 x).isSome = true) := by
      cases h1 : valV kvs x with
      | none => exact .inr (.inl (hL.no x h1))
      | some v1 =>
        cases h2 : valV kv2 x with
        | none => exact .inl ⟨rfl, rfl⟩
        | some v2 => exact .inr (.inr rfl)
    rcases hcase with ⟨h1, h2⟩ | ex
    · rw [h1]
      refine iteT ⟨_, rfl, _, rfl, ds, kv2, bx, x, rfl, rfl, d3.rd, kx, _, rfl, ?_⟩
      rw [h2]
      refine iteT ⟨fun σ' H' => ∃ m', m' < kvs.length - kv2.length ∧ ∃ (kv2 : List (Node × V)) (j : Nat) (x : Node) (v : V), m' = kvs.length - kv2.length ∧ Fr H' ∧ Tp H2 H' ∧ DW K H' ds kv2 ∧ NodeAt K H' v x ∧ Wk K H' l (Keys kvs) k kv0 kv2 j x ∧ σ' = [some (.ref d), some (.ref ds), some (.ref b), some v], fun _ _ h => h, ?_⟩
      have hxk : x ∈ Keys kvs := key_iff.mpr h1
      obtain ⟨vl, hvl⟩ := Option.isSome_iff_exists.mp h1
      obtain ⟨fx, hfx, hFx, ebx, elx⟩ := (hL.mono (tpF fr3)).so x vl hvl
      refine ⟨_, rfl, _, rfl, _, rfl, ds, kv2, bx, x, rfl, rfl, d3, kx, small1 (by omega), fun H4 k4 e4 d4 => ?_⟩
      have t34 : Tp H3 H4 := fun c ys e => k4 c _ (dw_ne d3 e fun _ _ z => nomatch z) e
      have fr4 : Fr H4 := ⟨fun c ob hc e => k4 c ob (fun z => by rw [z, nds] at e; cases e) (fr3.1 c ob hc e), k4 d _ hne fr3.2⟩
      have hdz4 : DZ K H4 d kvs := ⟨zs, .inr ⟨o, fr4.2⟩, hz⟩
      obtain ⟨tt, va, vb, rfl, et, hna, hnb⟩ := hFx.mono t34
      have W4 := W.step t34 hxk h2 elx (hst.mono (t3.trans t34))
      have l4 : (putK kv2 x (.ref b)).length ≤ kvs.length := by
        have := nd_sub W4.nd fun y hy => by
          obtain ⟨v, e⟩ := Option.isSome_iff_exists.mp (key_iff.mp hy)
          exact (W4.seen y v e).1
        unfold Keys at this
        rw [List.length_map, List.length_map] at this
        exact this
      have l5 : (putK kv2 x (.ref b)).length = kv2.length + 1 := by rw [putK_new _ h2, List.length_append, List.length_singleton]
      refine ⟨_, rfl, _, rfl, d, kvs, bx, x, .ref tt, rfl, rfl, hdz4, ky_mono kx t34, hvl, tt, _, 0, _, rfl, rfl, SqT.of et, at0 _ _, ?_⟩
      exact ⟨kvs.length - (putK kv2 x (.ref b)).length, by omega, _, j + 1, fx.a, va, rfl, fr4, t3.trans t34, d4, hna, W4, rfl⟩
    have hst3 := hst.mono t3
    have next : Out l kv0.length x → ∃ (kv2' : List (Node × V)) (y2 y3 : Option V), Fr H3 ∧ DW K H3 ds kv2' ∧ (Keys kv2').Nodup ∧ (∀ k v, valV kv2' k = some v → k ∈ Keys kvs ∧ Out l kv2'.length k ∧ ∃ st ∈ (Keys kvs).take (i + 1), NodeAt K H3 v st) ∧ (∀ k ∈ (Keys kvs).take (i + 1), (valV kv2' k).isSome = true) ∧ [some (V.ref d), some (.ref ds), some (.ref b), some (.ref bx)] = [some (.ref d), some (.ref ds), y2, y3] := fun ho => by
      refine ⟨kv2, _, _, fr3, d3, W.nd, fun k' u' h' => ⟨(W.seen k' u' h').1, W.out (fun k u h => (m2 k u h).2.1) ho k' u' h', ?_⟩, fun k' h' => ?_, rfl⟩
      · rcases (W.seen k' u' h').2 with g | ⟨_, g, _⟩
        · obtain ⟨st, g1, g2⟩ := (m2 k' u' g).2.2
          exact ⟨st, by rw [etk]; exact List.mem_append_left _ g1, g2.mono t3⟩
        · exact ⟨k, by rw [etk]; exact List.mem_append_right _ List.mem_cons_self, g⟩
      · rw [etk] at h'
        rcases List.mem_append.mp h' with h' | h'
        · obtain ⟨u, e⟩ := Option.isSome_iff_exists.mp (a2 k' h')
          rw [W.old k' u e]; rfl
        · rw [List.mem_singleton.mp h']
          rcases W.st with ⟨_, e⟩ | e
          · rcases ex with ex | ex
            · obtain ⟨u, c, e2⟩ := hkey hkk
              rw [e, e2] at ex
              cases ex
            · rw [← e]; exact ex
          · exact e
    have ex2 : (valV kvs x).isSome = true → (valV kv2 x).isSome = true := fun h1 => by
      rcases ex with ex | ex
      · obtain ⟨u, c, e2⟩ := hkey (key_iff.mpr h1)
        rw [ex] at e2
        cases e2
      · exact ex
    cases h1 : (valV kvs x).isSome
    all_goals
      first
        | refine iteF (iteF ?_)
        | (refine iteT ⟨_, rfl, _, rfl, ds, kv2, bx, x, rfl, rfl, d3.rd, kx, _, rfl, ?_⟩
           rw [ex2 h1]
           refine iteF ?_)
      refine ⟨_, rfl, ds, rfl, ⟨_, d3.rd⟩, _, rfl, kv2, bx, x, rfl, d3.rd, kx, _, rfl, ?_⟩
      cases hv : valV kv2 x with
      | none =>
        have hx0 : l x = none := ex.resolve_right (by rw [hv]; exact Bool.false_ne_true)
        exact .inl ⟨rfl, ⟨_, node_is hst3⟩, _, rfl, iteF (next ⟨0, 0, x, Nat.zero_le _, .nil x, hx0⟩)⟩
      | some u =>
        rcases (W.seen x u hv).2 with hold | ⟨_, hu3, a, wa, ha, hbk⟩
        · obtain ⟨_, ho, st', hs1, hs2⟩ := m2 x u hold
          refine .inr ⟨st'.map kD, k.map kD, node_is (hs2.mono t3), node_is hst3, by rw [dep_kD]; decide, _, rfl, ?_⟩
          rw [beq_node, decide_eq_false (fun z => hkn (by rw [← z]; exact hs1))]
          exact iteF (next ho)
        · refine .inr ⟨k.map kD, k.map kD, node_is hu3, node_is hst3, by rw [dep_kD]; decide, _, rfl, ?_⟩
          rw [beq_node, decide_eq_true rfl]
          obtain ⟨m', w', hm', hrg⟩ := W.ring ha hbk
          refine iteT ⟨_, rfl, _, rfl, d, kvs, fs, l, .ref bx, x, m', w', rfl, hdz, hL.mono (tpF fr3), hx, hrg, fun n w h => hneg x n w h, by omega, fun H4 p xs gs s4 ep np hF hlen hrg => ?_⟩
          have fr4 : Fr H4 := ⟨fun c ob hc e => s4 _ _ (fr3.1 c ob hc e), s4 _ _ fr3.2⟩
          have hpd : p ≠ d := fun z => by rw [z, fr3.2] at np; cases np
          have np0 : H p = none := by
            cases e : H p with
            | none => rfl
            | some ob => rw [fr3.1 p ob hpd e] at np; cases np
          refine ⟨d, o, .dZ zs kvs, fr4.2, nfz, ?_⟩
          exact qr _ p xs gs (thw fr4) (by rw [upd_ne hpd]; exact ep) np0 (hF.mono fun c ys e => by rw [upd_ne (fun z => by rw [z, fr4.2] at e; cases e)]; exact e) hlen hrg
  · obtain ⟨kv2, y2, y3, fr, d2, n2, m2, a2, rfl⟩ := h
    refine ⟨d, o, .dZ zs kvs, fr.2, nfz, ?_⟩
    refine qn _ (thw fr) fun k => ?_
    have hle : kv2.length ≤ kvs.length := by
      have := nd_sub n2 fun x hx => by
        obtain ⟨v, e⟩ := Option.isSome_iff_exists.mp (key_iff.mp hx)
        exact (m2 x v e).1
      unfold Keys at this
      rw [List.length_map, List.length_map] at this
      exact this
    by_cases hk : k ∈ Keys kvs
    · have := a2 k (by rw [List.take_of_length_le (by unfold Keys; rw [List.length_map]; exact Nat.le_refl _)]; exact hk)
      obtain ⟨v, e⟩ := Option.isSome_iff_exists.mp this
      exact (m2 k v e).2.1.mono hle
    · exact ⟨0, 0, k, Nat.zero_le _, .nil k, hout hk⟩
end
end K34
set_option Elab.async false
set_option linter.all false
set_option maxRecDepth 100000
set_option maxHeartbeats 4000000
namespace K34
open PySem PySem.Spec PyProof.Rows L2
noncomputable abbrev s_opened : Stmt := top 12
theorem sc_opened : FnScope ["ring", "fact", "at"] ["ring", "fact"] (defScope s_opened) := ⟨rfl, rfl, rfl, by decide +kernel, rfl, by decide +kernel, by decide +kernel⟩
structure TabZ (K : PySem.W.Frag) (mg : Str → Option Value) (a_ZERO : Addr) : Prop where
  mz : mg "ZERO" = some (.ref a_ZERO)
  z : Cn K a_ZERO [.inr "zero"]
theorem ints_put {kv : List (Node × V)} (h : ∀ p ∈ kv, ∃ x : Int, p.2 = .int x) {k : Node} {z : Int} : ∀ p ∈ putK kv k (.int z), ∃ x : Int, p.2 = .int x := fun p hp => by
  cases e : valV kv k with
  | none =>
    rw [putK_new _ e] at hp
    rcases List.mem_append.mp hp with hp | hp
    · exact h p hp
    · rw [List.mem_singleton.mp hp]; exact ⟨z, rfl⟩
  | some u =>
    unfold putK at hp
    rw [valV_any, e, Option.isSome_some, if_pos rfl] at hp
    obtain ⟨q, hq, rfl⟩ := List.mem_map.mp hp
    by_cases c : q.1 = k
    · rw [if_pos c]; exact ⟨z, rfl⟩
    · rw [if_neg c]; exact h q hq
noncomputable def spStandBy (K : PySem.W.Frag) : Sp := fun vs H Q _ => ExQ Q (fun (d : Addr) Q => ExQ Q (fun (kvs : List (Node × V)) Q => ExQ Q (fun (S : Node → Int) Q => vs = [.ref d] ∧ DW K H d kvs ∧ (Keys kvs).Nodup ∧ kvs.length ≤ 3000 ∧ (∀ k v, valV kvs k = some v → v = .int (S k)) ∧ [.inr "zero"] ∈ Keys kvs ∧
  ∀ (H' : Hp) (p : Addr) (kv : List (Node × V)), Same H H' → DW K H' p kv → H p = none → (∀ k, k ∈ Keys kvs → valV kv k = some (.int (S [.inr "zero"] - S k))) → (∀ p ∈ kv, ∃ x : Int, p.2 = .int x) → Q (.ref p) H')))
section
variable {P : Program} {w : World} {K : PySem.W.Frag} {mg : Str → Option Value} {base : Heap} {f : Addr} {fd : FuncData} {n : Nat} {a_ZERO : Addr}
theorem ok_stand_by (F : Fun K "stand_by" "stand_by" s_stand_by f fd) (Z : TabZ K mg a_ZERO) : FnOk P w K mg base CX0 (n + 1) f fd ["sums"] (spStandBy K) := by
  refine F.ok sc_stand_by (fun vs H Q E h => ?_) (fun cdv A outer s H vs Q E hr h => ?_)
  · obtain ⟨d, kvs, S, rfl, _⟩ := h
    rfl
  obtain ⟨d, kvs, S, rfl, hd, hnk, hl3, hS, hz0, q⟩ := h
  have sc := sc_stand_by
  have m_ZERO := Z.mz
  have hu : (A.deeper (envOfC "stand_by" (defScope s_stand_by) s.heap.objs.size f cdv)).units + 1 < cLine := by have := hr.units; omega
  refine ⟨_, (@pss_cons _ _ _ _ _ (ps_set (i := 1) sc.nd rfl (Or.inl rfl) pe_dnewZ)
      (@pss_cons _ _ _ _ _ (ps_thaw (ps_for PassesOwn.never rfl (pi_keys (pv 0)) (pg_name (i := 2) sc.nd rfl (Or.inl rfl)) (pss_one (ps_zput hu (pv 1) (pv 2) (pe_op op_sub (pe_zget hu (pv 0) (pe_glob rfl m_ZERO (v := .ref a_ZERO) rfl) (fun _ _ => rfl)) (pe_zget hu (pv 0) (pv 2) (fun _ _ => rfl))) rfl))))
      (pss_one (ps_ret (pv 1))))), ?_⟩
  obtain ⟨zs, ed, hz⟩ := id hd
  refine fun ds nds => ?_
  have hne : d ≠ ds := fun z => by rw [← z, ed] at nds; cases nds
  refine ⟨_, rfl, d, zs, kvs, rfl, by rw [upd_ne hne]; exact ed, fun o => ?_⟩
  have val : ∀ {k : Node}, k ∈ Keys kvs → valV kvs k = some (.int (S k)) := fun {k} h => by
    obtain ⟨v, e⟩ := Option.isSome_iff_exists.mp (key_iff.mp h)
    rw [e, hS k v e]
  let Fr : Hp → Prop := fun H' => (∀ c ob, c ≠ d → H c = some ob → H' c = some ob) ∧ H' d = some (.frz o (.dZ zs kvs))
  have nfz : ∀ o' u', H d ≠ some (.frz o' u') := fun o' u' z => by rw [ed] at z; cases z
  refine for_keys (fun i σ H' => ∃ (kv2 : List (Node × V)) (y2 : Option V), Fr H' ∧ DW K H' ds kv2 ∧ kv2.length ≤ i ∧ (∀ k ∈ (Keys kvs).take i, valV kv2 k = some (.int (S [.inr "zero"] - S k))) ∧ (∀ p ∈ kv2, ∃ x : Int, p.2 = .int x) ∧ σ = [some (.ref d), some (.ref ds), y2])
    ⟨[], _, ⟨fun c ob hc e => ?_, upd_same⟩, ⟨[], by rw [upd_ne (Ne.symm hne)]; exact upd_same, fun _ h => absurd h List.not_mem_nil⟩, Nat.le_refl _, (fun k h => by simp at h), fun p h => absurd h List.not_mem_nil, rfl⟩ (fun i σ H' _ h => ?_) (fun i b k v σ H2 hk hb h => ?_) (fun σ H2 h => ?_)
  · rw [upd_ne hc, upd_ne (fun z => by rw [z, nds] at e; cases e)]; exact e
  · obtain ⟨_, _, h, _⟩ := h
    exact h.2
  · obtain ⟨kv2, y2, fr, d2, l2, a2, i2, rfl⟩ := h
    have hki := key_at hk
    have hkk : k ∈ Keys kvs := List.mem_of_getElem? hki
    have hil : i < kvs.length := (List.getElem?_eq_some_iff.mp hk).1
    have etk : (Keys kvs).take (i + 1) = (Keys kvs).take i ++ [k] := by rw [List.take_add_one, hki]; rfl
    have kb : Ky K H2 b k := hb.imp id fun z => hz _ z
    have hdz : DZ K H2 d kvs := ⟨zs, .inr ⟨o, fr.2⟩, hz⟩
    refine ⟨_, rfl, d, kvs, a_ZERO, [.inr "zero"], _, rfl, rfl, hdz, .inr Z.z, val hz0, _, rfl, _, rfl, d, kvs, b, k, _, rfl, rfl, hdz, kb, val hkk, _, _, rfl, rfl, _, rfl, _, rfl, ds, kv2, b, k, rfl, rfl, d2, kb, small1 (by omega), fun H3 k3 e3 d3 => ?_⟩
    have l3 := length_putK kv2 k (.int (S [.inr "zero"] - S k))
    refine ⟨putK kv2 k (.int (S [.inr "zero"] - S k)), _, ⟨fun c ob hc e => k3 c ob (fun z => by rw [z, nds] at e; cases e) (fr.1 c ob hc e), k3 d _ hne fr.2⟩, d3, by omega, (fun k' h' => ?_), ints_put i2, rfl⟩
    rw [etk] at h'
    rw [valV_put]
    by_cases z : k' = k
    · rw [if_pos z, z]
    · rw [if_neg z]
      rcases List.mem_append.mp h' with h' | h'
      · exact a2 k' h'
      · exact absurd (List.mem_singleton.mp h') z
  · obtain ⟨kv2, y2, fr, d2, l2, a2, i2, rfl⟩ := h
    refine ⟨d, o, .dZ zs kvs, fr.2, nfz, ?_⟩
    obtain ⟨zs2, e2, hz2⟩ := d2
    refine ⟨_, rfl, q _ ds kv2 (fun c ob e => ?_) ⟨zs2, by rw [upd_ne (Ne.symm hne)]; exact e2, hz2⟩ nds (fun k hk => a2 k (by rw [List.take_of_length_le (by unfold Keys; rw [List.length_map]; exact Nat.le_refl _)]; exact hk)) i2⟩
    by_cases z : c = d
    · rw [z, upd_same]
      rw [z, ed] at e
      exact e
    · rw [upd_ne z]; exact fr.1 c ob z e
noncomputable def factD (g : Fct) : D := .tup [.tup (g.a.map kD), .tup (g.b.map kD), .int g.c]
theorem fact_is {H : Hp} {g : Fct} {v : V} (h : FactAt K H g v) : Is K H (factD g) v := by
  obtain ⟨t, va, vb, rfl, et, h1, h2⟩ := h
  exact is_tup (SqT.of et) (isl_cons (node_is h1) (isl_cons (node_is h2) (isl_cons is_int isl_nil)))
theorem facts_is {H : Hp} : ∀ {gs : List Fct} {xs : List V}, FactsAt K H gs xs → IsL K H (gs.map factD) xs
  | [], _, .nil => isl_nil
  | g :: gs, _, .cons r t => isl_cons (fact_is r) (facts_is t)
theorem dep_fact (g : Fct) : (factD g).dep ≤ 2 := by
  have d1 : ∀ l : List D, D.dep (.tup l) = 1 + D.depL l := fun l => by conv => lhs; unfold D.dep
  have d2 : ∀ (d : D) (l : List D), D.depL (d :: l) = max d.dep (D.depL l) := fun d l => by conv => lhs; unfold D.depL
  have d3 : D.depL [] = 0 := by unfold D.depL; rfl
  have d4 : D.dep (.int g.c) = 0 := by unfold D.dep; rfl
  unfold factD
  rw [d1, d2, d2, d2, d3, d4, d1, d1, dep_kD, dep_kD]
  decide
theorem deps_fact : ∀ gs : List Fct, D.depL (gs.map factD) < 9
  | [] => by rw [List.map_nil]; unfold D.depL; decide
  | g :: gs => by
    have h1 := dep_fact g
    have h2 := deps_fact gs
    rw [List.map_cons, show D.depL (factD g :: gs.map factD) = max (factD g).dep (D.depL (gs.map factD)) by conv => lhs; unfold D.depL]
    exact Nat.max_lt.mpr ⟨by omega, h2⟩
noncomputable def spOpened (K : PySem.W.Frag) : Sp := fun vs H Q _ => ExQ Q (fun (p : Addr) Q => ExQ Q (fun (xs : List V) Q => ExQ Q (fun (fs : List Fct) Q => ExQ Q (fun (gs : List Fct) Q => ExQ Q (fun (c : Fct) Q => ExQ Q (fun (v : V) Q => vs = [.ref p, v] ∧ H p = some (.lst xs) ∧ FactsAt K H gs xs ∧ gs.length ≤ 4001 ∧ FactAt K H c v ∧ c ∈ gs ∧ IsRing fs gs ∧
  ∀ (H' : Hp) (r : Addr) (ys : List V) (hs : List Fct), Same H H' → H' r = some (.lst ys) → H r = none → FactsAt K H' hs ys → RoadL c.b hs c.a → sumF hs = sumF gs - c.c → (∀ h ∈ hs, h ∈ fs ∧ h ≠ c) → hs.length ≤ 4001 → Q (.ref r) H'))))))
theorem factD_inj {g c : Fct} (h : factD g = factD c) : g = c := by
  unfold factD at h
  injection h with h
  injection h with h1 h2
  injection h1 with h1
  injection h2 with h3 h4
  injection h3 with h3
  injection h4 with h5 h6
  injection h5 with h5
  cases g; cases c
  cases kDs_inj h1; cases kDs_inj h3; cases h5
  rfl
theorem cut_lo {xs : List V} {k : Int} {j : Nat} (e : k = (j : Int)) : cutV xs none (some k) = xs.take j := by
  subst e
  unfold cutV
  rw [HT.sIx_nat, HT.sIx_none, List.drop_zero, Nat.sub_zero]
  rcases Nat.le_total j xs.length with h | h
  · rw [Nat.min_eq_left h]
  · rw [Nat.min_eq_right h, List.take_length, List.take_of_length_le h]
theorem cut_hi {xs : List V} {k : Int} {j : Nat} (e : k = (j : Int)) : cutV xs (some k) none = xs.drop j := by
  subst e
  unfold cutV
  rw [HT.sIx_nat, HT.sIx_none]
  rcases Nat.le_total j xs.length with h | h
  · rw [Nat.min_eq_left h, List.take_of_length_le (by rw [List.length_drop]; exact Nat.le_refl _)]
  · rw [Nat.min_eq_right h, Nat.sub_self, List.take_zero, List.drop_of_length_le h]
theorem paired_take {α β : Type} {F : α → β → Prop} {l : List α} {m : List β} (h : Paired F l m) : ∀ j : Nat, Paired F (l.take j) (m.take j) := by
  induction h with
  | nil => intro j; rw [List.take_nil, List.take_nil]; exact .nil
  | cons r t ih =>
    intro j
    cases j with
    | zero => exact .nil
    | succ j => exact .cons r (ih j)
theorem paired_drop {α β : Type} {F : α → β → Prop} {l : List α} {m : List β} (h : Paired F l m) : ∀ j : Nat, Paired F (l.drop j) (m.drop j) := by
  induction h with
  | nil => intro j; rw [List.drop_nil, List.drop_nil]; exact .nil
  | cons r t ih =>
    intro j
    cases j with
    | zero => exact .cons r t
    | succ j => exact ih j
theorem facts_cat {K : PySem.W.Frag} {H : Hp} {fs gs : List Fct} {xs ys : List V} (h : FactsAt K H fs xs) (k : FactsAt K H gs ys) : FactsAt K H (fs ++ gs) (xs ++ ys) := by
  induction h with
  | nil => exact k
  | cons r t ih => exact .cons r ih
theorem IsRing.open {fs gs : List Fct} (h : IsRing fs gs) {j : Nat} {c : Fct} (e : gs[j]? = some c) : RoadL c.b (gs.drop (j + 1) ++ gs.take j) c.a ∧ sumF (gs.drop (j + 1) ++ gs.take j) = sumF gs - c.c ∧ ∀ x ∈ gs.drop (j + 1) ++ gs.take j, x ∈ fs ∧ x ≠ c := by
  have hj := (List.getElem?_eq_some_iff.mp e).1
  have es : gs = gs.take j ++ c :: gs.drop (j + 1) := by
    have h1 : gs.drop j = c :: gs.drop (j + 1) := by
      rw [List.drop_eq_getElem_cons hj]
      congr 1
      rw [List.getElem?_eq_getElem hj] at e
      exact Option.some.inj e
    rw [← h1, List.take_append_drop]
  obtain ⟨x, hx⟩ := h.rd
  have hs := h.sub
  have hn := h.nd
  have hsum : sumF gs = sumF (gs.take j) + (c.c + sumF (gs.drop (j + 1))) := by
    have h1 := congrArg sumF es
    rw [sumF_app] at h1
    exact h1
  rw [es] at hx hn
  obtain ⟨y, h1, h2, h3⟩ := hx.split
  have h2 : c.a = y := h2
  rw [← h2] at h1
  refine ⟨RoadL.app h3 h1, by rw [sumF_app, hsum]; omega, fun z hz => ?_⟩
  rw [List.map_append, List.map_cons, List.nodup_append, List.nodup_cons] at hn
  rcases List.mem_append.mp hz with hz | hz
  · exact ⟨hs z (List.mem_of_mem_drop hz), fun q => hn.2.1.1 (by rw [← q]; exact List.mem_map.mpr ⟨z, hz, rfl⟩)⟩
  · exact ⟨hs z (List.mem_of_mem_take hz), fun q => hn.2.2 z.b (List.mem_map.mpr ⟨z, hz, rfl⟩) c.b List.mem_cons_self (by rw [q])⟩
theorem first_at {gs : List Fct} {c : Fct} (h : c ∈ gs) : ∃ j d, (gs.map factD)[j]? = some d ∧ D.beq d (factD c) = true ∧ j < gs.length ∧ ∀ m d', m < j → (gs.map factD)[m]? = some d' → D.beq d' (factD c) = false := by
  induction gs with
  | nil => cases h
  | cons g gs ih =>
    cases e : D.beq (factD g) (factD c) with
    | true => exact ⟨0, _, rfl, e, by simp, fun m d' hm => absurd hm (Nat.not_lt_zero _)⟩
    | false =>
      have h2 : c ∈ gs := by
        rcases List.mem_cons.mp h with rfl | h
        · rw [D.beq_self] at e; cases e
        · exact h
      obtain ⟨j, d, h1, h3, h4, h5⟩ := ih h2
      refine ⟨j + 1, d, h1, h3, by rw [List.length_cons]; omega, fun m d' hm hd => ?_⟩
      cases m with
      | zero => cases (show some (factD g) = some d' from hd); exact e
      | succ m => exact h5 m d' (by omega) hd
theorem ok_opened (F : Fun K "opened" "opened" s_opened f fd) : FnOk P w K mg base CX0 (n + 1) f fd ["ring", "fact"] (spOpened K) := by
  refine F.ok sc_opened (fun vs H Q E h => ?_) (fun cdv A outer s H vs Q E hr h => ?_)
  · obtain ⟨p, xs, fs, gs, c, v, rfl, _⟩ := h
    rfl
  obtain ⟨p, xs, fs, gs, c, v, rfl, ep, hF, hl, hc, hm, hR, q⟩ := h
  have sc := sc_opened
  have hu9 : (A.deeper (envOfC "opened" (defScope s_opened) s.heap.objs.size f cdv)).units + 1 + 9 < cLine := by have := hr.units; omega
  refine ⟨_, (@pss_cons _ _ _ _ _ (ps_set (i := 2) sc.nd rfl (Or.inl rfl) (pe_bm PySem.F.plainAttrs_list PySem.F.slot_list_index PySem.F.type_list_index (mt_index (n := 9) hu9) (pv 0) (pa_cons (pv 1) pa_nil)))
      (pss_one (ps_ret (pe_op op_cat (pe_slice sl_list (pv 0) (po_some (pe_op op_add (pv 2) pe_int)) po_none) (pe_slice sl_list (pv 0) po_none (po_some (pv 2))))))), ?_⟩
  obtain ⟨j, d, h1, h2, h3, h4⟩ := first_at hm
  have lx : gs.length = xs.length := Paired.length hF
  refine ⟨_, rfl, .inl ⟨rfl, _, SqL.of ep⟩, _, rfl, p, xs, _, _, _, j, d, rfl, rfl, ep, facts_is hF, fact_is hc, deps_fact gs, h1, h2, h4, ?_⟩
  refine ⟨_, rfl, _, rfl, _, _, rfl, rfl, _, rfl, p, _, rfl, SqL.of ep, fun p1 n1 => ?_⟩
  have u1 := same_new n1 (.lst (cutV xs (some ((j : Int) + 1)) none))
  refine ⟨_, rfl, _, rfl, _, rfl, p, _, rfl, SqL.of (u1 _ _ ep), fun p2 n2 => ?_⟩
  have u2 := same_new n2 (.lst (cutV xs none (some (j : Int))))
  have l1 : (cutV xs (some ((j : Int) + 1)) none).length ≤ xs.length := by unfold cutV; rw [List.length_take, List.length_drop]; omega
  have l2 : (cutV xs none (some (j : Int))).length ≤ xs.length := by unfold cutV; rw [List.length_take, List.length_drop]; omega
  refine ⟨p1, p2, _, _, rfl, rfl, u2 _ _ upd_same, upd_same, (by rw [sizeLine_eq]; omega), fun p3 n3 => ?_⟩
  have u3 := same_new n3 (.lst (cutV xs (some ((j : Int) + 1)) none ++ cutV xs none (some (j : Int))))
  have s3 := u1.trans (u2.trans u3)
  have e3 : upd (upd (upd H p1 (.lst (cutV xs (some ((j : Int) + 1)) none))) p2 (.lst (cutV xs none (some (j : Int))))) p3 (.lst (cutV xs (some ((j : Int) + 1)) none ++ cutV xs none (some (j : Int)))) p3 = some (.lst (cutV xs (some ((j : Int) + 1)) none ++ cutV xs none (some (j : Int)))) := upd_same
  have np3 := (u1.trans u2).free n3
  generalize upd (upd (upd H p1 (.lst (cutV xs (some ((j : Int) + 1)) none))) p2 (.lst (cutV xs none (some (j : Int))))) p3 (.lst (cutV xs (some ((j : Int) + 1)) none ++ cutV xs none (some (j : Int)))) = H3 at s3 e3 ⊢
  rw [cut_hi (k := (j : Int) + 1) (j := j + 1) (by omega), cut_lo (k := (j : Int)) rfl] at e3
  have hF3 := hF.mono (Tp.of s3)
  have egj : gs[j]? = some c := by
    rw [List.getElem?_map] at h1
    obtain ⟨g, eg, rfl⟩ := Option.map_eq_some_iff.mp h1
    rw [eg, factD_inj ((D.beq_iff _ _).mp h2)]
  obtain ⟨r1, r2, r3⟩ := hR.open egj
  exact q H3 p3 _ _ s3 e3 np3 (facts_cat (paired_drop hF3 (j + 1)) (paired_take hF3 j)) r1 r2 r3 (by rw [List.length_append, List.length_drop, List.length_take]; omega)
end
end K34
set_option Elab.async false
set_option linter.all false
set_option maxRecDepth 100000
set_option maxHeartbeats 4000000
namespace K34
open PySem PySem.Spec PyProof.Rows L2
noncomputable def tot (S : Node → Int) : List Node → Int
  | [] => 0
  | k :: N => S k + tot S N
theorem tot_le {S S' : Node → Int} : ∀ {N : List Node}, (∀ k ∈ N, S' k ≤ S k) → tot S' N ≤ tot S N
  | [], _ => Int.le_refl _
  | k :: N, h => by
    have h1 := h k List.mem_cons_self
    have h2 := tot_le (N := N) fun x hx => h x (List.mem_cons_of_mem _ hx)
    show S' k + tot S' N ≤ S k + tot S N
    omega
theorem tot_lt {S S' : Node → Int} : ∀ {N : List Node}, (∀ k ∈ N, S' k ≤ S k) → ∀ {k : Node}, k ∈ N → S' k < S k → tot S' N < tot S N
  | [], _, _, hk, _ => by cases hk
  | x :: N, h, k, hk, hlt => by
    have h1 := h x List.mem_cons_self
    have hr : ∀ y ∈ N, S' y ≤ S y := fun y hy => h y (List.mem_cons_of_mem _ hy)
    show S' x + tot S' N < S x + tot S N
    rcases List.mem_cons.mp hk with rfl | hk
    · have := tot_le hr
      omega
    · have := tot_lt hr hk hlt
      omega
theorem tot_low {S : Node → Int} {b : Int} : ∀ {N : List Node}, (∀ k ∈ N, -b ≤ S k) → -(b * (N.length : Int)) ≤ tot S N
  | [], _ => by simp [tot]
  | k :: N, h => by
    have h1 := h k List.mem_cons_self
    have h2 := tot_low (N := N) fun x hx => h x (List.mem_cons_of_mem _ hx)
    have h3 : b * ((k :: N).length : Int) = b * (N.length : Int) + b := by
      rw [List.length_cons, show ((N.length + 1 : Nat) : Int) = (N.length : Int) + 1 by omega, Int.mul_add, Int.mul_one]
    show -(b * ((k :: N).length : Int)) ≤ S k + tot S N
    omega
noncomputable def Stab (fs : List Fct) (T : Int) (S : Node → Int) (pend : Node → Prop) : Prop := ∀ f ∈ fs, S f.a < T → ¬ pend f.a → S f.b ≤ S f.a + f.c
theorem putS_at (S : Node → Int) (v : Node) (t : Int) : putS S v t v = t := if_pos rfl
theorem putS_ne {S : Node → Int} {v x : Node} {t : Int} (h : x ≠ v) : putS S v t x = S x := if_neg h
theorem putS_le {S : Node → Int} {v : Node} {t : Int} (h : t < S v) (x : Node) : putS S v t x ≤ S x := by
  by_cases e : x = v
  · rw [e, putS_at]; omega
  · rw [putS_ne e]; exact Int.le_refl _
theorem Stab.less {fs : List Fct} {T : Int} {S : Node → Int} {p q : Node → Prop} (h : Stab fs T S p) (hq : ∀ k, p k → q k) : Stab fs T S q := fun f hf ht hn => h f hf ht fun z => hn (hq _ z)
theorem Stab.keeps {fs : List Fct} {T : Int} {S : Node → Int} (h : Stab fs T S fun _ => False) (ht : ∀ f ∈ fs, S f.a < T) (z : Int) : ∀ f ∈ fs, (z - S f.a) - (z - S f.b) ≤ f.c := fun f hf => by
  have := h f hf (ht f hf) fun z => z
  omega
theorem Stab.no_clash {fs : List Fct} {T : Int} {S : Node → Int} (h : Stab fs T S fun _ => False) (ht : ∀ f ∈ fs, S f.a < T) {gs : List Fct} (hg : ∀ g ∈ gs, g ∈ fs) : ¬ Clash gs := fun c => c (fun k => 0 - S k) fun g hm => h.keeps ht 0 g (hg g hm)
end K34
set_option Elab.async false
set_option linter.all false
set_option maxRecDepth 100000
set_option maxHeartbeats 4000000
namespace K34
open PySem PySem.Spec PyProof.Rows L2
noncomputable abbrev s_Search_go_further : Stmt := (inClass (top 4) 1)
theorem sc_Search_go_further : FnScope ["self", "nodes", "changed", "node", "fact", "total"] ["self", "nodes"] (defScope s_Search_go_further) := ⟨rfl, rfl, rfl, by decide +kernel, rfl, by decide +kernel, by decide +kernel⟩
structure WC (K : PySem.W.Frag) (C : Addr) : Prop where
  cl : Cls K C
  na_leading : NoAttr K C "leading"
  na_sums : NoAttr K C "sums"
  na_last : NoAttr K C "last"
  na_ring : NoAttr K C "ring"
noncomputable def S0 (st : List Node) (T : Int) : Node → Int := fun k => @ite _ (k ∈ st) (Classical.propDecidable _) 0 T
theorem S0_in {st : List Node} {T : Int} {k : Node} (h : k ∈ st) : S0 st T k = 0 := by unfold S0; exact if_pos h
theorem S0_out {st : List Node} {T : Int} {k : Node} (h : k ∉ st) : S0 st T k = T := by unfold S0; exact if_neg h
structure Sr (K : PySem.W.Frag) (C : Addr) (H0 H : Hp) (x dl dm da : Addr) (fs : List Fct) (N st : List Node) (Bc T : Int) (l : Last) (S : Node → Int) (r : V) : Prop where
  ins : ∃ dx, H x = some (.ins C dx [("leading", .ref dl), ("sums", .ref dm), ("last", .ref da), ("ring", r)])
  lead : ∃ kl, DW K H dl kl ∧ LeadOk K H0 H kl fs
  sums : ∃ km, DW K H dm km ∧ (Keys km).Nodup ∧ (∀ k, k ∈ Keys km ↔ k ∈ N ∧ S k < T) ∧ (∀ k v, valV km k = some v → v = .int (S k)) ∧ ∀ k, S k < T → S k ≤ Bc * (km.length : Int)
  last : ∃ ka, DW K H da ka ∧ (Keys ka).Nodup ∧ LastIs K H ka l fs
  good : Good l (S0 st T) S
  nod : ∀ f ∈ fs, f.a ∈ N ∧ f.b ∈ N
  ne1 : dl ≠ dm
  ne2 : dl ≠ da
  ne3 : dm ≠ da
  nN : N.Nodup
  lN : N.length ≤ 2000
  hT : T = Bc * (N.length : Int) + 1
  hB : 0 ≤ Bc ∧ ∀ f ∈ fs, f.c ≤ Bc
  leT : ∀ k, S k ≤ T
  le0 : ∀ k, S k ≤ S0 st T k
  road : ∀ k, S k < T → ∃ s gs, s ∈ st ∧ RoadL s gs k ∧ sumF gs = S k ∧ ∀ g ∈ gs, g ∈ fs
theorem dw_keep {K : PySem.W.Frag} {H H' : Hp} {d : Addr} {kv : List (Node × V)} (h : DW K H d kv) (e : ∀ o, H d = some o → H' d = some o) : DW K H' d kv := let ⟨zs, h1, h2⟩ := h; ⟨zs, e _ h1, h2⟩
theorem LeadOk.keep {K : PySem.W.Frag} {H0 H H' : Hp} {kl : List (Node × V)} {fs : List Fct} (h : LeadOk K H0 H kl fs) (t : Tp H H') (s : ∀ c ys, H c = some (.lst ys) → H' c = some (.lst ys)) : LeadOk K H0 H' kl fs :=
  ⟨h.no, fun k v e => let ⟨p, xs, h1, h2, h3, h4⟩ := h.so k v e; ⟨p, xs, h1, s _ _ h2, h3.mono t, h4⟩, h.inj⟩
noncomputable def But (dm da : Addr) (H H' : Hp) : Prop := ∀ c o, c ≠ dm → c ≠ da → H c = some o → H' c = some o
theorem But.of {dm da : Addr} {H H' : Hp} (s : Same H H') : But dm da H H' := fun c o _ _ e => s c o e
theorem But.trans {dm da : Addr} {H H1 H2 : Hp} (a : But dm da H H1) (b : But dm da H1 H2) : But dm da H H2 := fun c o h1 h2 e => b c o h1 h2 (a c o h1 h2 e)
theorem Sr.same {K : PySem.W.Frag} {C : Addr} {H0 H H' : Hp} {x dl dm da : Addr} {fs : List Fct} {N st : List Node} {Bc T : Int} {l : Last} {S : Node → Int} {r : V} (h : Sr K C H0 H x dl dm da fs N st Bc T l S r) (s : Same H H') : Sr K C H0 H' x dl dm da fs N st Bc T l S r := by
  obtain ⟨⟨dx, h1⟩, ⟨kl, h2, h3⟩, ⟨km, h4, h5⟩, ⟨ka, h6, h7, h8⟩, h9, h10, h11, h12, h13, h14, h15, h16, h17, h18, h19, h20⟩ := h
  exact ⟨⟨dx, s _ _ h1⟩, ⟨kl, dw_keep h2 (s _), h3.keep (Tp.of s) fun c ys e => s _ _ e⟩, ⟨km, dw_keep h4 (s _), h5⟩, ⟨ka, dw_keep h6 (s _), h7, h8.mono (Tp.of s)⟩, h9, h10, h11, h12, h13, h14, h15, h16, h17, h18, h19, h20⟩
theorem putK_len {km : List (Node × V)} {k : Node} {v : V} : km.length ≤ (putK km k v).length ∧ (valV km k = none → (putK km k v).length = km.length + 1) := by
  cases e : valV km k with
  | none => rw [putK_new v e, List.length_append, List.length_singleton]; exact ⟨by omega, fun _ => rfl⟩
  | some u =>
    have h := keys_put_old (v := v) (show (valV km k).isSome = true by rw [e]; rfl)
    have h2 : (Keys (putK km k v)).length = (Keys km).length := by rw [h]
    unfold Keys at h2
    rw [List.length_map, List.length_map] at h2
    exact ⟨by omega, fun z => nomatch z⟩
theorem Sr.below {K : PySem.W.Frag} {C : Addr} {H0 H : Hp} {x dl dm da : Addr} {fs : List Fct} {N st : List Node} {Bc T : Int} {l : Last} {S : Node → Int} {r : V} (h : Sr K C H0 H x dl dm da fs N st Bc T l S r) {g : Fct} (hg : g ∈ fs) (ha : S g.a < T) (hb : ¬ S g.b < T) : S g.a + g.c < T := by
  obtain ⟨km, _, m1, m2, _, m4⟩ := h.sums
  have h1 := m4 _ ha
  have h2 := h.hB.2 g hg
  have hb0 := h.hB.1
  have h3 : km.length + 1 ≤ N.length := by
    have := nd_sub (l := g.b :: Keys km) (m := N) (List.nodup_cons.mpr ⟨fun z => hb ((m2 _).mp z).2, m1⟩) fun y hy => by
      rcases List.mem_cons.mp hy with rfl | hy
      · exact (h.nod g hg).2
      · exact ((m2 y).mp hy).1
    unfold Keys at this
    rw [List.length_cons, List.length_map] at this
    exact this
  have h4 : Bc * ((km.length : Int) + 1) ≤ Bc * (N.length : Int) := Int.mul_le_mul_of_nonneg_left (by omega) hb0
  rw [Int.mul_add, Int.mul_one] at h4
  rw [h.hT]
  omega
theorem Sr.put {K : PySem.W.Frag} {C : Addr} {H0 H H1 H2 : Hp} {x dl dm da : Addr} {fs : List Fct} {N st : List Node} {Bc T : Int} {l : Last} {S : Node → Int} {r : V} (h : Sr K C H0 H x dl dm da fs N st Bc T l S r) {g : Fct} {v : V} (hg : g ∈ fs) (hv : FactAt K H g v) (hat : S g.a < T) (hlt : S g.a + g.c < S g.b)
    {km ka : List (Node × V)} (hm : DW K H dm km) (ha : DW K H1 da ka) (m1 : (Keys km).Nodup) (m2 : ∀ k, k ∈ Keys km ↔ k ∈ N ∧ S k < T) (m3 : ∀ k v, valV km k = some v → v = .int (S k)) (m4 : ∀ k, S k < T → S k ≤ Bc * (km.length : Int)) (a1 : (Keys ka).Nodup) (a2 : LastIs K H ka l fs)
    (e1 : ∀ c, c ≠ dm → H1 c = H c) (d1 : DW K H1 dm (putK km g.b (.int (S g.a + g.c)))) (e2 : ∀ c, c ≠ da → H2 c = H1 c) (d2 : DW K H2 da (putK ka g.b v)) :
    Sr K C H0 H2 x dl dm da fs N st Bc T (putL l g.b g.a g.c) (putS S g.b (S g.a + g.c)) r := by
  have k2 : ∀ c o, H c = some o → (∀ zs kv, o ≠ .dZ zs kv) → H2 c = some o := fun c o e ne => by
    have h1 := dw_ne hm e ne
    have e' : H1 c = some o := by rw [e1 c h1]; exact e
    rw [e2 c (dw_ne ha e' ne)]; exact e'
  have tp : Tp H H2 := fun c ys e => k2 c _ e fun _ _ z => nomatch z
  have hbT := h.leT g.b
  obtain ⟨dx, hi⟩ := h.ins
  obtain ⟨kl, l1, l2⟩ := h.lead
  refine ⟨⟨dx, k2 _ _ hi fun _ _ z => nomatch z⟩, ⟨kl, dw_keep l1 fun o e => by rw [e2 dl h.ne2, e1 dl h.ne1]; exact e, l2.keep tp fun c ys e => k2 c _ e fun _ _ z => nomatch z⟩, ⟨_, dw_keep d1 fun o e => by rw [e2 dm h.ne3]; exact e, nd_put m1, fun k => ?_, fun k u e => ?_, fun k hk => ?_⟩, ⟨_, d2, nd_put a1, ⟨fun k u e => ?_, fun k e => ?_⟩⟩, h.good.put hlt, h.nod, h.ne1, h.ne2, h.ne3, h.nN, h.lN, h.hT, h.hB, fun k => ?_, fun k => Int.le_trans (putS_le hlt k) (h.le0 k), fun k hk => ?_⟩
  · rw [key_put, m2 k]
    by_cases z : k = g.b
    · rw [z, putS_at]
      exact ⟨fun _ => ⟨(h.nod g hg).2, by omega⟩, fun _ => .inl rfl⟩
    · rw [putS_ne z]
      exact ⟨fun q => q.resolve_left z, .inr⟩
  · rw [valV_put] at e
    by_cases z : k = g.b
    · rw [if_pos z] at e
      cases e
      rw [z, putS_at]
    · rw [if_neg z] at e
      rw [putS_ne z]; exact m3 k u e
  · obtain ⟨q1, q2⟩ := putK_len (km := km) (k := g.b) (v := .int (S g.a + g.c))
    have mono : Bc * (km.length : Int) ≤ Bc * ((putK km g.b (.int (S g.a + g.c))).length : Int) := Int.mul_le_mul_of_nonneg_left (by omega) h.hB.1
    by_cases z : k = g.b
    · rw [z, putS_at]
      by_cases hr : S g.b < T
      · have := m4 _ hr
        omega
      · have hn : valV km g.b = none := by
          cases e : valV km g.b with
          | none => rfl
          | some u => exact absurd ((m2 _).mp (key_iff.mpr (by rw [e]; rfl))).2 hr
        have h1 := m4 _ hat
        have h2 := h.hB.2 g hg
        have h3 : Bc * ((putK km g.b (.int (S g.a + g.c))).length : Int) = Bc * (km.length : Int) + Bc := by
          rw [q2 hn, show ((km.length + 1 : Nat) : Int) = (km.length : Int) + 1 by omega, Int.mul_add, Int.mul_one]
        omega
    · rw [putS_ne z] at hk ⊢
      have := m4 k hk
      omega
  · rw [valV_put] at e
    by_cases z : k = g.b
    · rw [if_pos z] at e
      cases e
      exact ⟨g, hg, hv.mono tp, z.symm, by rw [z]; exact if_pos rfl⟩
    · rw [if_neg z] at e
      obtain ⟨f, f1, f2, f3, f4⟩ := a2.so k u e
      exact ⟨f, f1, f2.mono tp, f3, by rw [putL_old z]; exact f4⟩
  · rw [valV_put] at e
    by_cases z : k = g.b
    · rw [if_pos z] at e; cases e
    · rw [if_neg z] at e
      rw [putL_old z]; exact a2.no k e
  · have := putS_le hlt k
    have := h.leT k
    omega
  · by_cases z : k = g.b
    · obtain ⟨s, gs, h1, h2, h3, h4⟩ := h.road g.a hat
      rw [z, putS_at]
      refine ⟨s, gs ++ [g], h1, h2.app ⟨rfl, rfl⟩, ?_, fun y hy => ?_⟩
      · rw [sumF_app, h3]; show S g.a + (g.c + 0) = S g.a + g.c; omega
      · rcases List.mem_append.mp hy with hy | hy
        · exact h4 y hy
        · rw [List.mem_singleton.mp hy]; exact hg
    · rw [putS_ne z] at hk ⊢
      exact h.road k hk
end K34
set_option Elab.async false
set_option linter.all false
set_option maxRecDepth 100000
set_option maxHeartbeats 4000000
namespace K34
open PySem PySem.Spec PyProof.Rows L2
theorem Sr.other {K : PySem.W.Frag} {C : Addr} {H0 H H' : Hp} {x dl dm da dc : Addr} {fs : List Fct} {N st : List Node} {Bc T : Int} {l : Last} {S : Node → Int} {r : V} (h : Sr K C H0 H x dl dm da fs N st Bc T l S r) (e : ∀ c, c ≠ dc → H' c = H c) {kc : List (Node × V)} (hc : DW K H dc kc) (n1 : dl ≠ dc) (n2 : dm ≠ dc) (n3 : da ≠ dc) : Sr K C H0 H' x dl dm da fs N st Bc T l S r := by
  have k2 : ∀ c o, H c = some o → (∀ zs kv, o ≠ .dZ zs kv) → H' c = some o := fun c o q ne => by rw [e c (dw_ne hc q ne)]; exact q
  have tp : Tp H H' := fun c ys q => k2 c _ q fun _ _ z => nomatch z
  obtain ⟨⟨dx, h1⟩, ⟨kl, h2, h3⟩, ⟨km, h4, h5⟩, ⟨ka, h6, h7, h8⟩, h9, h10, h11, h12, h13, h14, h15, h16, h17, h18, h19, h20⟩ := h
  exact ⟨⟨dx, k2 _ _ h1 fun _ _ z => nomatch z⟩, ⟨kl, dw_keep h2 fun o q => by rw [e dl n1]; exact q, h3.keep tp fun c ys q => k2 _ _ q fun _ _ z => nomatch z⟩, ⟨km, dw_keep h4 fun o q => by rw [e dm n2]; exact q, h5⟩, ⟨ka, dw_keep h6 fun o q => by rw [e da n3]; exact q, h7, h8.mono tp⟩, h9, h10, h11, h12, h13, h14, h15, h16, h17, h18, h19, h20⟩
theorem ifs_b {c : TT} {t u : TS} {D : Ends} {σ : L2.St} {H : Hp} (b : Bool) (hc : ∀ Q : Bool → Hp → Prop, Q b H → c σ H Q) (h : if b = true then t D σ H else u D σ H) : tIfS c t u D σ H := hc _ h
theorem keys_len {N : List Node} {kv : List (Node × V)} (hn : (Keys kv).Nodup) (hs : ∀ k ∈ Keys kv, k ∈ N) (hN : N.length ≤ 2000) : kv.length ≤ 2000 := by
  have := nd_sub hn hs
  unfold Keys at this
  rw [List.length_map] at this
  omega
noncomputable def spGo (K : PySem.W.Frag) (C : Addr) : Sp := fun vs H Q _ => ExQ Q (fun (x : Addr) Q => ExQ Q (fun (ln : Addr) Q => ExQ Q (fun (dl : Addr) Q => ExQ Q (fun (dm : Addr) Q => ExQ Q (fun (da : Addr) Q => ExQ Q (fun (H0 : Hp) Q => ExQ Q (fun (fs : List Fct) Q => ExQ Q (fun (N : List Node) Q => ExQ Q (fun (st : List Node) Q => ExQ Q (fun (Bc : Int) Q => ExQ Q (fun (T : Int) Q => ExQ Q (fun (l : Last) Q => ExQ Q (fun (S : Node → Int) Q => ExQ Q (fun (r : V) Q => ExQ Q (fun (ns : List Node) Q => ExQ Q (fun (bs : List Addr) Q => vs = [.ref x, .ref ln] ∧ Sr K C H0 H x dl dm da fs N st Bc T l S r ∧ H ln = some (.lst (bs.map V.ref)) ∧ Paired (fun n b => Ky K H b n) ns bs ∧ (∀ n ∈ ns, n ∈ N ∧ S n < T) ∧ Stab fs T S (· ∈ ns) ∧ fs.length ≤ 1000 ∧
  ∀ (H' : Hp) (p : Addr) (bs' : List Addr) (cs : List Node) (l' : Last) (S' : Node → Int), But dm da H H' → Sr K C H0 H' x dl dm da fs N st Bc T l' S' r → H' p = some (.lst (bs'.map V.ref)) → H p = none → Paired (fun n b => Ky K H' b n) cs bs' → (∀ n ∈ cs, n ∈ N ∧ S' n < T) → cs.length ≤ 2000 → Stab fs T S' (· ∈ cs) → (∀ k, S' k ≤ S k) → (∀ k ∈ cs, S' k < S k) → Q (.ref p) H'))))))))))))))))
section
variable {P : Program} {w : World} {K : PySem.W.Frag} {mg : Str → Option Value} {base : Heap} {f : Addr} {fd : FuncData} {n : Nat} {C : Addr}
theorem ok_Search_go_further (F : Fun K "go_further" "Search.go_further" s_Search_go_further f fd) (W : WC K C) (m_list : mg "list" = none) (m_reversed : mg "reversed" = none) : FnOk P w K mg base CX0 (n + 1) f fd ["self", "nodes"] (spGo K C) := by
  refine F.ok sc_Search_go_further (fun vs H Q E h => ?_) (fun cdv A outer s H vs Q E hr h => ?_)
  · obtain ⟨x, ln, dl, dm, da, H0, fs, N, st, Bc, T, l, S, r, ns, bs, rfl, _⟩ := h
    rfl
  obtain ⟨x, ln, dl, dm, da, H0, fs, N, st, Bc, T, l, S, r, ns, bs, rfl, hS, el, hns, hN, hst, hfs, q⟩ := h
  have sc := sc_Search_go_further
  have hu : (A.deeper (envOfC "Search.go_further" (defScope s_Search_go_further) s.heap.objs.size f cdv)).units + 1 < cLine := by have := hr.units; omega
  refine ⟨_, (@pss_cons _ _ _ _ _ (ps_set (i := 2) sc.nd rfl (Or.inl rfl) pe_dnewZ)
      (@pss_cons _ _ _ _ _ (ps_for PassesOwn.never rfl (pi_list (pv 1)) (pg_name (i := 3) sc.nd rfl (Or.inl rfl)) (pss_one (ps_for PassesOwn.never rfl (pi_list (pe_zget2 hu (pe_sf W.cl W.na_leading (pv 0)) (pv 3) (pe_lst pa_nil) ⟨rfl, rfl, rfl, rfl⟩)) (pg_name (i := 4) sc.nd rfl (Or.inl rfl)) (@pss_cons _ _ _ _ _ (ps_set (i := 5) sc.nd rfl (Or.inl rfl) (pe_op op_add (pe_zget hu (pe_sf W.cl W.na_sums (pv 0)) (pv 3) (fun _ _ => rfl)) (pe_ix ix_tup (pv 4) pe_int (fun _ _ => rfl))))
      (pss_one (ps_if (PW.pt (pw_or (pt_cmp (pc_znotin hu (pe_ix ix_tup (pv 4) pe_int (fun _ _ => rfl)) (pe_sf W.cl W.na_sums (pv 0)))) (pw_or1 (pt_cmpR op_lt (pv 5) (pe_zget hu (pe_sf W.cl W.na_sums (pv 0)) (pe_ix ix_tup (pv 4) pe_int (fun _ _ => rfl)) (fun _ _ => rfl)) (nomark _))))) (@pss_cons _ _ _ _ _ (ps_zput hu (pe_sf W.cl W.na_sums (pv 0)) (pe_ix ix_tup (pv 4) pe_int (fun _ _ => rfl)) (pv 5) rfl)
      (@pss_cons _ _ _ _ _ (ps_zput hu (pe_sf W.cl W.na_last (pv 0)) (pe_ix ix_tup (pv 4) pe_int (fun _ _ => rfl)) (pv 4) rfl)
      (pss_one (ps_zput hu (pv 2) (pe_ix ix_tup (pv 4) pe_int (fun _ _ => rfl)) pe_bl rfl)))) pss_nil))))))
      (pss_one (ps_ret (pe_listrev rfl rfl m_list rfl m_reversed (pa_cons (pe_callTy (call_listZ rfl) rfl m_list PyProof.Rows.boot_list (pa_cons (pv 2) pa_nil)) pa_nil)))))), ?_⟩
  refine fun dc ndc => ?_
  have u1 := same_new ndc (.dZ [] [])
  have c1 : DW K (upd H dc (.dZ [] [])) dc [] := ⟨[], upd_same, fun _ h => absurd h List.not_mem_nil⟩
  have S1 := hS.same u1
  generalize upd H dc (.dZ [] []) = H1 at u1 c1 S1
  have nin : ∀ {c : Addr} {o : HO}, H c = some o → c ≠ dc := fun e z => by rw [z, ndc] at e; cases e
  obtain ⟨_, ⟨zm, em, _⟩, _⟩ := hS.sums
  obtain ⟨_, ⟨za, ea, _⟩, _⟩ := hS.last
  obtain ⟨_, ⟨zl, e_l, _⟩, _⟩ := hS.lead
  have ncl : dl ≠ dc := nin e_l
  have ncm : dm ≠ dc := nin em
  have nca : da ≠ dc := nin ea
  have llm : ln ≠ dm := fun z => by rw [z, em] at el; cases el
  have lla : ln ≠ da := fun z => by rw [z, ea] at el; cases el
  have lb : ns.length = bs.length := Paired.length hns
  refine ⟨_, rfl, ln, rfl, ⟨_, SqL.of (u1 _ _ el)⟩, ?_⟩
  refine for_list (xs := bs.map V.ref) (fun i σ H' => ∃ (kc : List (Node × V)) (l' : Last) (S' : Node → Int) (y3 y4 y5 : Option V), But dm da H H' ∧ Sr K C H0 H' x dl dm da fs N st Bc T l' S' r ∧ DW K H' dc kc ∧ (Keys kc).Nodup ∧ (∀ k ∈ Keys kc, k ∈ N ∧ S' k < S k) ∧ (∀ k, S' k ≤ S k) ∧ Stab fs T S' (fun k => k ∈ ns.drop i ∨ k ∈ Keys kc) ∧ σ = [some (.ref x), some (.ref ln), some (.ref dc), y3, y4, y5])
    ⟨[], l, S, _, _, _, .of u1, S1, c1, List.nodup_nil, fun k h => absurd h List.not_mem_nil, fun k => Int.le_refl _, hst.less fun k h => .inl h, rfl⟩ (fun i σ H' _ h => ?_) (fun i y σ H2 ey h => ?_) (fun σ H2 h => ?_)
  · obtain ⟨_, _, _, _, _, _, b, _⟩ := h
    exact SqL.of (b _ _ llm lla el)
  · obtain ⟨kc, l2, S2, y3, y4, y5, b2, R2, c2, n2, m2, le2, st2, rfl⟩ := h
    obtain ⟨bk, eb, rfl⟩ : ∃ bk, bs[i]? = some bk ∧ y = .ref bk := by
      rw [List.getElem?_map] at ey
      obtain ⟨b, e, rfl⟩ := Option.map_eq_some_iff.mp ey
      exact ⟨b, e, rfl⟩
    obtain ⟨k, ek, kk0⟩ := paired_at hns eb
    have hil : i < ns.length := (List.getElem?_eq_some_iff.mp ek).1
    have edr : ns.drop i = k :: ns.drop (i + 1) := by
      rw [List.drop_eq_getElem_cons hil]
      congr 1
      rw [List.getElem?_eq_getElem hil] at ek
      exact Option.some.inj ek
    have t2 : Tp H H2 := fun c ys e => b2 c _ (fun z => by rw [z, em] at e; cases e) (fun z => by rw [z, ea] at e; cases e) e
    have kk2 := ky_mono kk0 t2
    obtain ⟨hkN, hkT⟩ := hN k (List.mem_of_getElem? ek)
    obtain ⟨dx, ei⟩ := R2.ins
    obtain ⟨kl, hl1, hl2⟩ := R2.lead
    refine ⟨_, rfl, x, dx, _, _, rfl, ei, rfl, dl, rfl, ⟨_, hl1.rd⟩, _, rfl, Nat.le_of_ble_eq_true rfl, fun pe npe => ?_⟩
    have u3 := same_new npe (.lst [])
    have ep3 : upd H2 pe (.lst []) pe = some (.lst []) := upd_same
    have R3 := R2.same u3
    have b3 := b2.trans (.of u3)
    have c3 := dw_keep c2 (u3 dc)
    have kk3 := ky_mono kk2 (Tp.of u3)
    have hl3 := dw_keep hl1 (u3 dl)
    have hl4 := hl2.keep (Tp.of u3) fun c ys e => u3 _ _ e
    generalize upd H2 pe (.lst []) = H3 at ep3 R3 b3 c3 kk3 hl3 hl4
    refine ⟨kl, bk, k, rfl, hl3.rd, kk3, ?_⟩
    obtain ⟨pl, gv, egl, epl, hgl⟩ : ∃ (pl : Addr) (gv : List V), (valV kl k).getD (.ref pe) = .ref pl ∧ H3 pl = some (.lst gv) ∧ FactsAt K H3 (fs.filter fun f => decide (f.a = k)) gv := by
      cases e : valV kl k with
      | none =>
        refine ⟨pe, [], rfl, ep3, ?_⟩
        rw [List.filter_eq_nil_iff.mpr fun f hf q => hl4.no k e f hf (of_decide_eq_true q)]
        exact .nil
      | some v =>
        obtain ⟨p, xs, rfl, h1, h2, _⟩ := hl4.so k v e
        exact ⟨p, xs, rfl, h1, h2⟩
    rw [egl]
    have plm : pl ≠ dm := fun z => by obtain ⟨_, ⟨_, e, _⟩, _⟩ := R3.sums; rw [z, e] at epl; cases epl
    have pla : pl ≠ da := fun z => by obtain ⟨_, ⟨_, e, _⟩, _⟩ := R3.last; rw [z, e] at epl; cases epl
    have plc : pl ≠ dc := dw_ne c3 epl fun _ _ z => nomatch z
    have hgm : ∀ g, g ∈ (fs.filter fun f => decide (f.a = k)) ↔ g ∈ fs ∧ g.a = k := fun g => by rw [List.mem_filter]; exact and_congr_right fun _ => ⟨of_decide_eq_true, decide_eq_true⟩
    generalize (fs.filter fun f => decide (f.a = k)) = gs at hgl hgm
    refine ⟨pl, rfl, ⟨_, SqL.of epl⟩, ?_⟩
    have lg : gs.length = gv.length := Paired.length hgl
    refine for_list (xs := gv) (fun t σ H' => ∃ (kc : List (Node × V)) (l' : Last) (S' : Node → Int) (y4 y5 : Option V), (∀ c o, c ≠ dm → c ≠ da → c ≠ dc → H3 c = some o → H' c = some o) ∧ Sr K C H0 H' x dl dm da fs N st Bc T l' S' r ∧ DW K H' dc kc ∧ (Keys kc).Nodup ∧ (∀ k ∈ Keys kc, k ∈ N ∧ S' k < S k) ∧ (∀ k, S' k ≤ S k) ∧ (∀ f ∈ fs, S' f.a < T → f.a ∉ ns.drop (i + 1) → f.a ∉ Keys kc → (f.a = k → f ∈ gs.take t) → S' f.b ≤ S' f.a + f.c) ∧ σ = [some (.ref x), some (.ref ln), some (.ref dc), some (.ref bk), y4, y5])
      ⟨kc, l2, S2, _, _, fun _ _ _ _ _ e => e, R3, c3, n2, m2, le2, fun f hf h0 h1 h2 h3 => st2 f hf h0 fun z => ?_, rfl⟩ (fun t σ H' _ h => ?_) (fun t y σ H4 ey h => ?_) (fun σ H4 h => ?_)
    · rcases z with z | z
      · rw [edr] at z
        rcases List.mem_cons.mp z with z | z
        · have := h3 z
          simp at this
        · exact h1 z
      · exact h2 z
    · obtain ⟨_, _, _, _, _, b, _⟩ := h
      exact SqL.of (b _ _ plm pla plc epl)
    · obtain ⟨kc4, l4, S4, y4, y5, b4, R4, c4, n4, m4, le4, st4, rfl⟩ := h
      obtain ⟨g, eg, hg3⟩ := paired_at hgl ey
      obtain ⟨hgf, hga⟩ := (hgm g).mp (List.mem_of_getElem? eg)
      have t34 : Tp H3 H4 := fun c ys e => b4 c _ (fun z => by obtain ⟨_, ⟨_, e', _⟩, _⟩ := R3.sums; rw [z, e'] at e; cases e) (fun z => by obtain ⟨_, ⟨_, e', _⟩, _⟩ := R3.last; rw [z, e'] at e; cases e) (dw_ne c3 e fun _ _ z => nomatch z) e
      have hg4 := hg3.mono t34
      have kk4 := ky_mono kk3 t34
      obtain ⟨tt, va, vb, rfl, et, ⟨ba, rfl, ka⟩, ⟨bb, rfl, kb⟩⟩ := id hg4
      obtain ⟨dx4, ei4⟩ := R4.ins
      obtain ⟨km, hm1, hm2, hm3, hm4, hm5⟩ := R4.sums
      have hkT4 : S4 k < T := by
        have := le4 k
        omega
      obtain ⟨ka4, ha1, ha2, ha3⟩ := R4.last
      have val : ∀ {j : Node}, j ∈ N → S4 j < T → valV km j = some (.int (S4 j)) := fun {j} h h' => by
        obtain ⟨v, e⟩ := Option.isSome_iff_exists.mp (key_iff.mp ((hm3 j).mpr ⟨h, h'⟩))
        rw [e, hm4 j v e]
      have hbN : g.b ∈ N := (R4.nod g hgf).2
      have lkm : km.length ≤ 2000 := keys_len hm2 (fun k h => ((hm3 k).mp h).1) R4.lN
      have lka : ka4.length ≤ 2000 := keys_len ha2 (fun k h => by
        obtain ⟨v, e⟩ := Option.isSome_iff_exists.mp (key_iff.mp h)
        obtain ⟨f, f1, _, f3, _⟩ := ha3.so k v e
        rw [← f3]; exact (R4.nod f f1).2) R4.lN
      have lkc : kc4.length ≤ 2000 := keys_len n4 (fun k h => (m4 k h).1) R4.lN
      have etk : gs.take (t + 1) = gs.take t ++ [g] := by rw [List.take_add_one, eg]; rfl
      refine ⟨_, rfl, x, dx4, _, _, rfl, ei4, rfl, _, rfl, dm, km, bk, k, _, rfl, rfl, hm1.rd, kk4, val hkN hkT4, _, rfl, tt, _, 2, _, rfl, rfl, SqT.of et, at2 _ _ _ _, _, _, rfl, rfl, ?_⟩
      dsimp only [gName, tSeq]
      refine ifs_b (decide (S4 k + g.c < S4 g.b)) (fun Q q => ?_) ?_
      · refine ⟨_, rfl, tt, _, 1, _, rfl, rfl, SqT.of et, at1 _ _ _, _, rfl, x, dx4, _, _, rfl, ei4, rfl, dm, km, bb, g.b, rfl, rfl, hm1.rd, kb, _, rfl, ?_⟩
        by_cases hbT : S4 g.b < T
        · rw [val hbN hbT]
          exact iteF ⟨_, rfl, _, rfl, x, dx4, _, _, rfl, ei4, rfl, _, rfl, tt, _, 1, _, rfl, rfl, SqT.of et, at1 _ _ _, dm, km, bb, g.b, _, rfl, rfl, hm1.rd, kb, val hbN hbT, _, _, rfl, rfl, _, rfl, q⟩
        · have hnb : valV km g.b = none := by
            cases e : valV km g.b with
            | none => rfl
            | some u => exact absurd ((hm3 _).mp (key_iff.mpr (by rw [e]; rfl))).2 hbT
          have h1 := R4.below hgf (by rw [hga]; exact hkT4) hbT
          rw [decide_eq_true (show S4 k + g.c < S4 g.b by rw [hga] at h1; omega)] at q
          rw [hnb]
          exact iteT q
      refine ite2 (fun c => ?_) (fun c => ?_)
      · have hlt : S4 g.a + g.c < S4 g.b := by rw [hga]; exact of_decide_eq_true c
        refine ⟨_, rfl, _, rfl, x, dx4, _, _, rfl, ei4, rfl, _, rfl, tt, _, 1, _, rfl, rfl, SqT.of et, at1 _ _ _, dm, km, bb, g.b, rfl, rfl, hm1, kb, small1 (by omega), fun H5 k5 e5 d5 => ?_⟩
        have d5' : DW K H5 dm (putK km g.b (.int (S4 g.a + g.c))) := by rw [hga]; exact d5
        have ei5 : H5 x = _ := (e5 x (dw_ne hm1 ei4 fun _ _ z => nomatch z)).trans ei4
        have et5 : H5 tt = _ := (e5 tt (dw_ne hm1 et fun _ _ z => nomatch z)).trans et
        have t45 : Tp H4 H5 := fun c ys e => by rw [e5 c (dw_ne hm1 e fun _ _ z => nomatch z)]; exact e
        have ha5 : DW K H5 da ka4 := dw_keep ha1 fun o e => by rw [e5 da (Ne.symm R4.ne3)]; exact e
        have c5 : DW K H5 dc kc4 := dw_keep c4 fun o e => by rw [e5 dc (Ne.symm ncm)]; exact e
        refine ⟨_, rfl, _, rfl, x, dx4, _, _, rfl, ei5, rfl, _, rfl, tt, _, 1, _, rfl, rfl, SqT.of et5, at1 _ _ _, da, ka4, bb, g.b, rfl, rfl, ha5, ky_mono kb t45, small1 (by omega), fun H6 k6 e6 d6 => ?_⟩
        have R6 := R4.put hgf hg4 (by rw [hga]; exact hkT4) hlt hm1 ha5 hm2 hm3 hm4 hm5 ha2 ha3 e5 d5' e6 d6
        have et6 : H6 tt = _ := (e6 tt (dw_ne ha5 et5 fun _ _ z => nomatch z)).trans et5
        have t56 : Tp H5 H6 := fun c ys e => by rw [e6 c (dw_ne ha5 e fun _ _ z => nomatch z)]; exact e
        have c6 : DW K H6 dc kc4 := dw_keep c5 fun o e => by rw [e6 dc (Ne.symm nca)]; exact e
        refine ⟨_, rfl, _, rfl, tt, _, 1, _, rfl, rfl, SqT.of et6, at1 _ _ _, dc, kc4, bb, g.b, rfl, rfl, c6, ky_mono kb (t45.trans t56), small1 (by omega), fun H7 k7 e7 d7 => ?_⟩
        have R7 := R6.other e7 c6 ncl ncm nca
        have pl' := fun y => putS_le (S := S4) (v := g.b) hlt y
        refine ⟨_, _, _, _, _, fun c o h1 h2 h3 e => ?_, R7, d7, nd_put n4, fun j hj => ?_, fun j => ?_, fun f hf h0 h1 h2 h3 => ?_, rfl⟩
        · rw [e7 c h3, e6 c h2, e5 c h1]; exact b4 c o h1 h2 h3 e
        · rcases key_put.mp hj with rfl | hj
          · refine ⟨hbN, ?_⟩
            have := le4 g.b
            rw [putS_at]; omega
          · have h1 := (m4 j hj).2
            have h2 := pl' j
            exact ⟨(m4 j hj).1, by omega⟩
        · have h1 := le4 j
          have h2 := pl' j
          omega
        · have hnb : f.a ≠ g.b := fun z => h2 (key_put.mpr (.inl z))
          have hnk : f.a ∉ Keys kc4 := fun z => h2 (key_put.mpr (.inr z))
          rw [putS_ne hnb] at h0 ⊢
          by_cases hfg : f.a = k
          · have hm := h3 hfg
            rw [etk] at hm
            rcases List.mem_append.mp hm with hm | hm
            · have h4 := st4 f hf h0 h1 hnk fun _ => hm
              have h5 := pl' f.b
              omega
            · rw [List.mem_singleton.mp hm, putS_at]
              exact Int.le_refl _
          · have h4 := st4 f hf h0 h1 hnk fun z => absurd z hfg
            have h5 := pl' f.b
            omega
      · have hge : ¬ S4 k + g.c < S4 g.b := fun z => c (decide_eq_true z)
        refine ⟨kc4, l4, S4, _, _, b4, R4, c4, n4, m4, le4, fun f hf h0 h1 h2 h3 => ?_, rfl⟩
        by_cases hfg : f.a = k
        · have hm := h3 hfg
          rw [etk] at hm
          rcases List.mem_append.mp hm with hm | hm
          · exact st4 f hf h0 h1 h2 fun _ => hm
          · rw [List.mem_singleton.mp hm, hga]; omega
        · exact st4 f hf h0 h1 h2 fun z => absurd z hfg
    · obtain ⟨kc4, l4, S4, y4, y5, b4, R4, c4, n4, m4, le4, st4, rfl⟩ := h
      refine ⟨kc4, l4, S4, _, _, _, fun c o h1 h2 e => b4 c o h1 h2 (nin e) (b3 c o h1 h2 e), R4, c4, n4, m4, le4, fun f hf h0 hn => st4 f hf h0 (fun z => hn (.inl z)) (fun z => hn (.inr z)) fun z => ?_, rfl⟩
      rw [← lg, List.take_of_length_le (Nat.le_refl _)]
      exact (hgm f).mpr ⟨hf, z⟩
  · obtain ⟨kc, l2, S2, y3, y4, y5, b2, R2, c2, n2, m2, le2, st2, rfl⟩ := h
    have hkc : ∀ k ∈ Keys kc, k ∈ N := fun k h => (m2 k h).1
    have lkc : kc.length ≤ 2000 := keys_len n2 hkc R2.lN
    refine ⟨_, rfl, dc, kc, rfl, c2.rd, fun p1 bs1 np1 kys => ⟨p1, _, rfl, upd_same, fun p np => ?_⟩⟩
    have u3 := same_new np1 (.lst (bs1.map V.ref))
    have u4 := same_new np (.lst (bs1.map V.ref).reverse)
    have s24 := u3.trans u4
    have go : ∀ {kvs : List (Node × V)} {bs : List Addr}, Paired (fun (kv : Node × V) b => Ky K H2 b kv.1) kvs bs → Paired (fun n b => Ky K H2 b n) (Keys kvs) bs := fun {kvs bs} h => by
      induction h with
      | nil => exact .nil
      | cons r t ih => exact .cons r ih
    have np2 := u3.free np
    have np0 : H p = none := by
      cases e : H p with
      | none => rfl
      | some o =>
        have h1 : p ≠ dm := fun z => by obtain ⟨_, ⟨_, e', _⟩, _⟩ := R2.sums; rw [z, e'] at np2; cases np2
        have h2 : p ≠ da := fun z => by obtain ⟨_, ⟨_, e', _⟩, _⟩ := R2.last; rw [z, e'] at np2; cases np2
        rw [b2 p o h1 h2 e] at np2
        cases np2
    refine q _ p bs1.reverse (Keys kc).reverse l2 S2 (b2.trans (.of s24)) (R2.same s24) (by rw [List.map_reverse]; exact upd_same) np0 (paired_rev (Paired.mapP (go kys) fun _ _ q => ky_mono q (Tp.of s24))) (fun k h => ⟨hkc k (List.mem_reverse.mp h), by
      have h1 := (m2 k (List.mem_reverse.mp h)).2
      have h2 := hS.leT k
      omega⟩) (by rw [List.length_reverse]; unfold Keys; rw [List.length_map]; exact lkc) (st2.less fun k h => ?_) le2 fun k h => (m2 k (List.mem_reverse.mp h)).2
    rcases h with h | h
    · rw [List.length_map, ← lb, List.drop_length] at h
      cases h
    · exact List.mem_reverse.mpr h
end
end K34
set_option Elab.async false
set_option linter.all false
set_option maxRecDepth 100000
set_option maxHeartbeats 4000000
namespace K34
open PySem PySem.Spec PyProof.Rows L2
theorem merge_zero (ns : List Node) : (Keys (mergeZ (ns.map fun k => (k, V.int 0)))).Nodup ∧ (∀ k, k ∈ Keys (mergeZ (ns.map fun k => (k, V.int 0))) ↔ k ∈ ns) ∧ ∀ k v, valV (mergeZ (ns.map fun k => (k, V.int 0))) k = some v → v = .int 0 := by
  have go : ∀ (ns : List Node) (acc : List (Node × V)), (Keys acc).Nodup → (∀ k v, valV acc k = some v → v = .int 0) →
      (Keys ((ns.map fun k => (k, V.int 0)).foldl (fun acc p => putK acc p.1 p.2) acc)).Nodup ∧ (∀ k, k ∈ Keys ((ns.map fun k => (k, V.int 0)).foldl (fun acc p => putK acc p.1 p.2) acc) ↔ k ∈ Keys acc ∨ k ∈ ns) ∧ ∀ k v, valV ((ns.map fun k => (k, V.int 0)).foldl (fun acc p => putK acc p.1 p.2) acc) k = some v → v = .int 0 := by
    intro ns
    induction ns with
    | nil => intro acc h1 h2; exact ⟨h1, fun k => ⟨.inl, fun h => h.elim id fun z => absurd z List.not_mem_nil⟩, h2⟩
    | cons x ns ih =>
      intro acc h1 h2
      obtain ⟨g1, g2, g3⟩ := ih (putK acc x (.int 0)) (nd_put h1) fun k v e => by
        rw [valV_put] at e
        by_cases z : k = x
        · rw [if_pos z] at e; cases e; rfl
        · rw [if_neg z] at e; exact h2 k v e
      refine ⟨g1, fun k => ?_, g3⟩
      rw [List.map_cons, List.foldl_cons, g2 k, key_put, List.mem_cons]
      constructor
      · rintro ((h | h) | h)
        · exact .inr (.inl h)
        · exact .inl h
        · exact .inr (.inr h)
      · rintro (h | h | h)
        · exact .inl (.inr h)
        · exact .inl (.inl h)
        · exact .inr h
  obtain ⟨h1, h2, h3⟩ := go ns [] List.nodup_nil fun k v e => (nomatch e)
  exact ⟨h1, fun k => (h2 k).trans ⟨fun h => h.elim (fun z => absurd z List.not_mem_nil) id, .inr⟩, h3⟩
theorem bound_ex : ∀ fs : List Fct, ∃ B : Int, 0 ≤ B ∧ ∀ f ∈ fs, -B ≤ f.c ∧ f.c ≤ B
  | [] => ⟨0, Int.le_refl _, fun f h => absurd h List.not_mem_nil⟩
  | g :: fs => by
    obtain ⟨B, h0, h⟩ := bound_ex fs
    refine ⟨B + (g.c.natAbs : Int), by omega, fun f hf => ?_⟩
    rcases List.mem_cons.mp hf with rfl | hf
    · omega
    · have := h f hf
      omega
theorem S0_nn {st : List Node} {T : Int} (hT : 0 ≤ T) (k : Node) : 0 ≤ S0 st T k := by
  by_cases h : k ∈ st
  · rw [S0_in h]; exact Int.le_refl _
  · rw [S0_out h]; exact hT
theorem look_low {l : Last} {st : List Node} {T : Int} {S : Node → Int} (g : Good l (S0 st T) S) (hT : 0 ≤ T) {N : List Node} {B : Int} (hB : 0 ≤ B) (hl : ∀ v u c, l v = some (u, c) → -B ≤ c) {m : Nat} (ho : ∀ k, Out l m k) : -(B * (m : Int) * (N.length : Int)) ≤ tot S N :=
  tot_low fun k _ => by
    obtain ⟨n, w, x, h1, h2, h3⟩ := ho k
    exact g.low hB hl h2 h3 (S0_nn hT x) h1
theorem tot_nn {S : Node → Int} : ∀ {N : List Node}, (∀ k, 0 ≤ S k) → 0 ≤ tot S N
  | [], _ => Int.le_refl _
  | k :: N, h => by
    have h1 := h k
    have h2 := tot_nn (N := N) h
    show 0 ≤ S k + tot S N
    omega
end K34
set_option Elab.async false
set_option linter.all false
set_option maxRecDepth 100000
set_option maxHeartbeats 4000000
namespace K34
open PySem PySem.Spec PyProof.Rows L2
noncomputable abbrev s_Search_init : Stmt := (inClass (top 4) 0)
theorem sc_Search_init : FnScope ["self", "facts", "starts", "changed", "unlooked"] ["self", "facts", "starts"] (defScope s_Search_init) := ⟨rfl, rfl, rfl, by decide +kernel, rfl, by decide +kernel, by decide +kernel⟩
theorem tTrue_ite {σ : L2.St} {H : Hp} {A B : Hp → Prop} (h : A H) : tTrue σ H (fun b H3 => if b = true then A H3 else B H3) := by
  show if true = true then A H else B H
  rw [if_pos rfl]; exact h
noncomputable def Told (K : PySem.W.Frag) (H H' : Hp) (fs : List Fct) (T : Int) (S : Node → Int) (r : V) : Prop := (r = .non ∧ Stab fs T S fun _ => False) ∨ ∃ p gv gs, r = .ref p ∧ H' p = some (.lst gv) ∧ FactsAt K H' gs gv ∧ gs.length ≤ 4001 ∧ IsRing fs gs ∧ H p = none
noncomputable def spSInit (K : PySem.W.Frag) (C : Addr) : Sp := fun vs H Q _ => ExQ Q (fun (x : Addr) Q => ExQ Q (fun (dx : Addr) Q => ExQ Q (fun (lf : Addr) Q => ExQ Q (fun (ls : Addr) Q => ExQ Q (fun (xs : List V) Q => ExQ Q (fun (fs : List Fct) Q => ExQ Q (fun (N : List Node) Q => ExQ Q (fun (ns : List Node) Q => ExQ Q (fun (bs : List Addr) Q => vs = [.ref x, .ref lf, .ref ls] ∧ H x = some (.ins C dx []) ∧ H lf = some (.lst xs) ∧ FactsAt K H fs xs ∧ fs.length ≤ 1000 ∧ H ls = some (.lst (bs.map V.ref)) ∧ Paired (fun n b => Ky K H b n) ns bs ∧ N.Nodup ∧ (∀ f ∈ fs, f.a ∈ N ∧ f.b ∈ N) ∧ (∀ k ∈ ns, k ∈ N) ∧ N.length ≤ 2000 ∧ ns.length ≤ 2000 ∧
  ∀ (H' : Hp) (dl dm da : Addr) (Bc T : Int) (l : Last) (S : Node → Int) (r : V), (∀ c o, c ≠ x → H c = some o → H' c = some o) → Sr K C H H' x dl dm da fs N ns Bc T l S r → H dm = none → Told K H H' fs T S r → Q .non H')))))))))
noncomputable def SW (K : PySem.W.Frag) (C : Addr) (H : Hp) (x dl dm da lf ls : Addr) (fs : List Fct) (N ns : List Node) (Bc T Bd : Int) (m : Nat) (σ : L2.St) (H' : Hp) : Prop := ∃ (l : Last) (S : Node → Int) (r : V) (cs : List Node) (bs : List Addr) (ch : Addr) (u : Int), (∀ c o, c ≠ x → H c = some o → H' c = some o) ∧ Sr K C H H' x dl dm da fs N ns Bc T l S r ∧ H' ch = some (.lst (bs.map V.ref)) ∧ Paired (fun n b => Ky K H' b n) cs bs ∧ (∀ n ∈ cs, n ∈ N ∧ S n < T) ∧ cs.length ≤ 2000 ∧ Stab fs T S (· ∈ cs) ∧ σ = [some (.ref x), some (.ref lf), some (.ref ls), some (.ref ch), some (.int u)] ∧
  ((Told K H H' fs T S r ∧ (cs = [] ∨ r ≠ .non)) ∨ (cs ≠ [] ∧ r = .non ∧ 0 ≤ u ∧ u ≤ N.length ∧ ∃ T0 : Int, -Bd ≤ T0 ∧ tot S N ≤ T0 ∧ m = 1 + ((T0 + Bd) * (N.length + 2) + (N.length + 1 - u)).toNat))
theorem Sr.ring {K : PySem.W.Frag} {C : Addr} {H0 H : Hp} {x dl dm da dx : Addr} {fs : List Fct} {N st : List Node} {Bc T : Int} {l : Last} {S : Node → Int} {r r' : V} (h : Sr K C H0 H x dl dm da fs N st Bc T l S r) (ei : H x = some (.ins C dx [("leading", .ref dl), ("sums", .ref dm), ("last", .ref da), ("ring", r)])) : Sr K C H0 (upd H x (.ins C dx [("leading", .ref dl), ("sums", .ref dm), ("last", .ref da), ("ring", r')])) x dl dm da fs N st Bc T l S r' := by
  have k2 : ∀ c o, H c = some o → (∀ a b c, o ≠ .ins a b c) → upd H x (.ins C dx [("leading", .ref dl), ("sums", .ref dm), ("last", .ref da), ("ring", r')]) c = some o := fun c o q ne => by
    rw [upd_ne (fun z => by rw [z, ei] at q; cases q; exact ne _ _ _ rfl)]; exact q
  have tp : Tp H (upd H x (.ins C dx [("leading", .ref dl), ("sums", .ref dm), ("last", .ref da), ("ring", r')])) := fun c ys q => k2 c _ q fun _ _ _ z => nomatch z
  obtain ⟨_, ⟨kl, ⟨z1, h2, h2'⟩, h3⟩, ⟨km, ⟨z2, h4, h4'⟩, h5⟩, ⟨ka, ⟨z3, h6, h6'⟩, h7, h8⟩, h9, h10, h11, h12, h13, h14, h15, h16, h17, h18, h19, h20⟩ := h
  exact ⟨⟨dx, upd_same⟩, ⟨kl, ⟨z1, k2 _ _ h2 (fun _ _ _ z => nomatch z), h2'⟩, h3.keep tp fun c ys q => k2 _ _ q fun _ _ _ z => nomatch z⟩, ⟨km, ⟨z2, k2 _ _ h4 (fun _ _ _ z => nomatch z), h4'⟩, h5⟩, ⟨ka, ⟨z3, k2 _ _ h6 (fun _ _ _ z => nomatch z), h6'⟩, h7, h8.mono tp⟩, h9, h10, h11, h12, h13, h14, h15, h16, h17, h18, h19, h20⟩
theorem fall_look {T0 T1 Bd u n : Int} (h1 : -Bd ≤ T1) (h2 : T1 < T0) (hu : u ≤ n) (hn : 0 ≤ n) : 1 + ((T1 + Bd) * (n + 2) + (n + 1 - 0)).toNat < 1 + ((T0 + Bd) * (n + 2) + (n + 1 - u)).toNat := by
  have h3 : (T1 + Bd) * (n + 2) + (n + 2) ≤ (T0 + Bd) * (n + 2) := by
    have h4 : (T1 + Bd + 1) * (n + 2) ≤ (T0 + Bd) * (n + 2) := Int.mul_le_mul_of_nonneg_right (by omega) (by omega)
    rw [Int.add_mul, Int.one_mul] at h4
    exact h4
  have h5 : 0 ≤ (T1 + Bd) * (n + 2) := Int.mul_nonneg (by omega) (by omega)
  omega
theorem fall_on {T0 Bd u u' n : Int} (h1 : -Bd ≤ T0) (hu : u < u') (hu' : u' ≤ n) (hn : 0 ≤ n) : 1 + ((T0 + Bd) * (n + 2) + (n + 1 - u')).toNat < 1 + ((T0 + Bd) * (n + 2) + (n + 1 - u)).toNat := by
  have h5 : 0 ≤ (T0 + Bd) * (n + 2) := Int.mul_nonneg (by omega) (by omega)
  omega
section
variable {P : Program} {w : World} {K : PySem.W.Frag} {mg : Str → Option Value} {base : Heap} {f : Addr} {fd : FuncData} {n : Nat} {C : Addr}
theorem ok_Search_init (F : Fun K "__init__" "Search.__init__" s_Search_init f fd) (W : WC K C) (m_len : mg "len" = none) (m_list : mg "list" = none) (m_dict : mg "dict" = none) (c_by_first_node : Cl P w K mg base "by_first_node" n ["facts"] (spByFirst K)) (c_ring_among : Cl P w K mg base "ring_among" n ["last"] (spRingAmong K)) (c_Search_go_further : ClM P w K mg base C "go_further" n ["self", "nodes"] (spGo K C)) :
    FnOk P w K mg base CX0 (n + 1) f fd ["self", "facts", "starts"] (spSInit K C) := by
  refine F.ok sc_Search_init (fun vs H Q E h => ?_) (fun cdv A outer s H vs Q E hr h => ?_)
  · obtain ⟨x, dx, lf, ls, xs, fs, N, ns, bs, rfl, _⟩ := h
    rfl
  obtain ⟨x, dx, lf, ls, xs, fs, N, ns, bs, rfl, hx, el, hF, hfl, els, hns, hnd, hfn, hnsN, hNl, hnl, q⟩ := h
  obtain ⟨B, hB, hBf⟩ := bound_ex fs
  have hBN : 0 ≤ B * (N.length : Int) := Int.mul_nonneg hB (by omega)
  have hS0 : ∀ k, S0 ns (B * (N.length : Int) + 1) k < B * (N.length : Int) + 1 → k ∈ ns := fun k h => by
    by_cases z : k ∈ ns
    · exact z
    · rw [S0_out z] at h; omega
  have sc := sc_Search_init
  have hu9 : (A.deeper (envOfC "Search.__init__" (defScope s_Search_init) s.heap.objs.size f cdv)).units + 9 < cLine := by have := hr.units; omega
  refine ⟨_, (@pss_cons _ _ _ _ _ (ps_sf W.cl W.na_leading (pv 0) (pe_cl c_by_first_node hr rfl (pa_cons (pv 1) pa_nil)))
      (@pss_cons _ _ _ _ _ (ps_sf W.cl W.na_sums (pv 0) (pe_callTy (call_dictZ rfl hu9) rfl m_dict PyProof.Rows.boot_dict (pa_cons (pe_comp ["node"] rfl (cmp_ok (N := ["self", "facts", "starts", "changed", "unlooked"]) (so := defScope s_Search_init) rfl rfl (by decide +kernel)) (pi_list (pv 2)) (fun _ _ _ _ _ _ => (pg_name (i := 0) (show List.Nodup (α := Str) ["node", "self", "facts", "starts", "changed", "unlooked"] by decide +kernel) rfl (Or.inl rfl) (Or.inr rfl))) (fun _ _ _ _ _ _ => pifs_nil) (fun _ _ _ _ _ _ => (pe_tup (pa_cons (pv 0) (pa_cons pe_int pa_nil))))) pa_nil)))
      (@pss_cons _ _ _ _ _ (ps_sf W.cl W.na_last (pv 0) pe_dnewZ)
      (@pss_cons _ _ _ _ _ (ps_sf W.cl W.na_ring (pv 0) pe_non)
      (@pss_cons _ _ _ _ _ (ps_set (i := 3) sc.nd rfl (Or.inl rfl) (pe_callTy call_list_of rfl m_list PyProof.Rows.boot_list (pa_cons (pv 2) pa_nil)))
      (@pss_cons _ _ _ _ _ (ps_set (i := 4) sc.nd rfl (Or.inl rfl) pe_int)
      (pss_one (ps_while PassesOwn.never (PW.pt (pw_and (pt_truth (pv 3) (fun _ => rfl)) (pw_and1 (pt_cmpR op_isN (pe_sf W.cl W.na_ring (pv 0)) pe_non (nomark _))))) (@pss_cons _ _ _ _ _ (ps_set (i := 3) sc.nd rfl (Or.inl rfl) (pe_mcl (pv 0) c_Search_go_further hr (pa_cons (pv 3) pa_nil)))
      (@pss_cons _ _ _ _ _ (ps_aug (i := 4) sc.nd rfl (Or.inl rfl) (pe_callB call_len_seq rfl m_len PySem.boot_len (pa_cons (pv 3) pa_nil)) iop_add)
      (pss_one (ps_if (pt_cmpR op_ge (pv 4) (pe_callB call_lenZ rfl m_len PySem.boot_len (pa_cons (pe_sf W.cl W.na_last (pv 0)) pa_nil)) (nomark _)) (@pss_cons _ _ _ _ _ (ps_sf W.cl W.na_ring (pv 0) (pe_cl c_ring_among hr rfl (pa_cons (pe_sf W.cl W.na_last (pv 0)) pa_nil)))
      (pss_one (ps_set (i := 4) sc.nd rfl (Or.inl rfl) pe_int))) pss_nil)))))))))))), ?_⟩
  have lb : ns.length = bs.length := Paired.length hns
  refine ⟨_, rfl, lf, xs, fs, rfl, el, hF, hfl, fun H1 dl kl s1 dw1 ndl L1 => ?_⟩
  refine ⟨_, rfl, x, dx, _, rfl, s1 _ _ hx, by decide, ?_⟩
  have k2 : ∀ c o, c ≠ x → H1 c = some o → upd H1 x (.ins C dx (putF "leading" (.ref dl) [])) c = some o := fun c o h e => by rw [upd_ne h]; exact e
  have x2 : upd H1 x (.ins C dx (putF "leading" (.ref dl) [])) x = some (.ins C dx [("leading", .ref dl)]) := upd_same
  generalize upd H1 x (.ins C dx (putF "leading" (.ref dl) [])) = H2 at k2 x2
  have nx : ∀ {c : Addr} {o : HO}, H1 c = some o → (∀ a b c, o ≠ .ins a b c) → c ≠ x := fun e ne z => by
    have := s1 _ _ hx
    rw [z, this] at e
    cases e
    exact ne _ _ _ rfl
  have t2 : Tp H1 H2 := fun c ys e => k2 c _ (nx e fun _ _ _ z => nomatch z) e
  have els2 : H2 ls = some (.lst (bs.map V.ref)) := k2 _ _ (nx (s1 _ _ els) fun _ _ _ z => nomatch z) (s1 _ _ els)
  have hns2 : Paired (fun n b => Ky K H2 b n) ns bs := Paired.mapP hns fun _ _ q => ky_mono q ((Tp.of s1).trans t2)
  refine ⟨_, rfl, ls, rfl, ⟨_, SqL.of els2⟩, fun pc npc => ?_⟩
  refine comp_list (xs := bs.map V.ref) (fun i H' => Same H2 H' ∧ ∃ ps : List PZ, ps.length = i ∧ H' pc = some (.lst (ps.map fun t => .ref t.1)) ∧ (∀ t ∈ ps, H' t.1 = some (.tup [.ref t.2.1, t.2.2.2]) ∧ Ky K H' t.2.1 t.2.2.1) ∧ ps.map (·.2.2) = (ns.take i).map fun k => (k, V.int 0)) ⟨same_new npc _, [], rfl, upd_same, fun _ h => absurd h List.not_mem_nil, rfl⟩ (fun i H' _ h => SqL.of (h.1 _ _ els2)) (fun i y H' ey h => ?_) (fun H3 h => ?_)
  · obtain ⟨sm, ps, lp, ep, hp, em⟩ := h
    obtain ⟨b, eb, rfl⟩ : ∃ b, bs[i]? = some b ∧ y = .ref b := by
      rw [List.getElem?_map] at ey
      obtain ⟨b, e, rfl⟩ := Option.map_eq_some_iff.mp ey
      exact ⟨b, e, rfl⟩
    obtain ⟨k, ek, kk⟩ := paired_at hns2 eb
    have hil : i < ns.length := (List.getElem?_eq_some_iff.mp ek).1
    refine ⟨⟨[some (.ref b)], rfl, rfl⟩, tTrue_ite ⟨_, rfl, Nat.le_of_ble_eq_true rfl, fun t nt => ?_⟩⟩
    have u4 := same_new nt (.tup [.ref b, .int 0])
    have ep4 := u4 _ _ ep
    have et4 : upd H' t (.tup [.ref b, .int 0]) t = some (.tup [.ref b, .int 0]) := upd_same
    have s4 := sm.trans u4
    refine ⟨_, ep4, small1 (by rw [List.length_map]; omega), (fun c o e => by rw [upd_ne (ne_of_none e npc)]; exact s4 c o e), ps ++ [(t, b, k, .int 0)], by rw [List.length_append, List.length_singleton, lp], by rw [List.map_append]; exact upd_same, fun z hz => ?_, ?_⟩
    · have keep : ∀ c ys, upd H' t (.tup [.ref b, .int 0]) c = some (.tup ys) → upd (upd H' t (.tup [.ref b, .int 0])) pc (.lst ((ps.map fun t => V.ref t.1) ++ [.ref t])) c = some (.tup ys) := fun c ys e => by rw [upd_ne (ne_of e ep4 (fun z => nomatch z))]; exact e
      rcases List.mem_append.mp hz with hz | hz
      · exact ⟨keep _ _ (u4 _ _ (hp z hz).1), ky_mono (hp z hz).2 ((Tp.of u4).trans keep)⟩
      · rw [List.mem_singleton.mp hz]
        exact ⟨keep _ _ et4, ky_mono kk ((Tp.of s4).trans keep)⟩
    · rw [List.map_append, em, List.take_add_one, ek, List.map_append]
      rfl
  obtain ⟨s3, ps, lp, ep, hp, em⟩ := h
  rw [List.length_map, ← lb, List.take_of_length_le (Nat.le_refl _)] at em
  refine ⟨pc, ps, rfl, ep, hp, fun dm zs ndm hz => ?_⟩
  rw [em]
  have a4 := same_new ndm (.dZ zs (mergeZ (ns.map fun k => (k, V.int 0))))
  have dm4 : DW K (upd H3 dm (.dZ zs (mergeZ (ns.map fun k => (k, V.int 0))))) dm (mergeZ (ns.map fun k => (k, V.int 0))) := ⟨zs, upd_same, hz⟩
  generalize upd H3 dm (.dZ zs (mergeZ (ns.map fun k => (k, V.int 0)))) = H4 at a4 dm4
  have x4 : H4 x = some (.ins C dx [("leading", .ref dl)]) := a4 _ _ (s3 _ _ x2)
  refine ⟨_, rfl, x, dx, _, rfl, x4, by show 1 < 1000; decide, ?_⟩
  have k5 : ∀ c o, c ≠ x → H4 c = some o → upd H4 x (.ins C dx (putF "sums" (.ref dm) [("leading", .ref dl)])) c = some o := fun c o h e => by rw [upd_ne h]; exact e
  have x5 : upd H4 x (.ins C dx (putF "sums" (.ref dm) [("leading", .ref dl)])) x = some (.ins C dx [("leading", .ref dl), ("sums", .ref dm)]) := upd_same
  generalize upd H4 x (.ins C dx (putF "sums" (.ref dm) [("leading", .ref dl)])) = H5 at k5 x5
  refine fun da nda => ?_
  have a6 := same_new nda (.dZ [] [])
  have da6 : DW K (upd H5 da (.dZ [] [])) da [] := ⟨[], upd_same, fun _ h => absurd h List.not_mem_nil⟩
  generalize upd H5 da (.dZ [] []) = H6 at a6 da6
  refine ⟨_, rfl, x, dx, _, rfl, a6 _ _ x5, by show 2 < 1000; decide, ?_⟩
  refine ⟨_, rfl, x, dx, _, rfl, upd_same, by show 3 < 1000; decide, ?_⟩
  have k8 : ∀ c o, c ≠ x → H6 c = some o → upd (upd H6 x (.ins C dx (putF "last" (.ref da) [("leading", .ref dl), ("sums", .ref dm)]))) x (.ins C dx (putF "ring" .non (putF "last" (.ref da) [("leading", .ref dl), ("sums", .ref dm)]))) c = some o := fun c o h e => by rw [upd_ne h, upd_ne h]; exact e
  have x8 : upd (upd H6 x (.ins C dx (putF "last" (.ref da) [("leading", .ref dl), ("sums", .ref dm)]))) x (.ins C dx (putF "ring" .non (putF "last" (.ref da) [("leading", .ref dl), ("sums", .ref dm)]))) x = some (.ins C dx [("leading", .ref dl), ("sums", .ref dm), ("last", .ref da), ("ring", .non)]) := upd_same
  generalize upd (upd H6 x (.ins C dx (putF "last" (.ref da) [("leading", .ref dl), ("sums", .ref dm)]))) x (.ins C dx (putF "ring" .non (putF "last" (.ref da) [("leading", .ref dl), ("sums", .ref dm)]))) = H8 at k8 x8
  have k18 : ∀ c o, c ≠ x → H1 c = some o → H8 c = some o := fun c o h e => k8 c o h (a6 _ _ (k5 c o h (a4 _ _ (s3 _ _ (k2 c o h e)))))
  have t18 : Tp H1 H8 := fun c ys e => k18 c _ (nx e fun _ _ _ z => nomatch z) e
  have dlx : dl ≠ x := by
    obtain ⟨z1, e1, _⟩ := dw1
    exact nx e1 fun _ _ _ z => nomatch z
  have dmx : dm ≠ x := fun z => by rw [z, s3 _ _ x2] at ndm; cases ndm
  have dax : da ≠ x := fun z => by rw [z, x5] at nda; cases nda
  have S8 : Sr K C H H8 x dl dm da fs N ns B (B * (N.length : Int) + 1) (fun _ => none) (S0 ns (B * (N.length : Int) + 1)) .non := by
    obtain ⟨mz1, mz2, mz3⟩ := merge_zero ns
    have e_dl : ∀ o, H1 dl = some o → H8 dl = some o := fun o e => k18 dl o dlx e
    have ndl3 : dl ≠ dm := fun z => by
      obtain ⟨z1, e1, _⟩ := dw1
      rw [← z, s3 _ _ (k2 _ _ dlx e1)] at ndm
      cases ndm
    have ndl4 : dl ≠ da := fun z => by
      obtain ⟨z1, e1, _⟩ := dw1
      rw [← z, k5 _ _ dlx (a4 _ _ (s3 _ _ (k2 _ _ dlx e1)))] at nda
      cases nda
    have nmd : dm ≠ da := fun z => by
      obtain ⟨z1, e1, _⟩ := dm4
      rw [← z, k5 _ _ dmx e1] at nda
      cases nda
    refine ⟨⟨dx, x8⟩, ⟨kl, dw_keep dw1 e_dl, L1.keep t18 fun c ys e => k18 c _ (nx e fun _ _ _ z => nomatch z) e⟩, ⟨_, dw_keep dm4 fun o e => k8 dm o dmx (a6 _ _ (k5 dm o dmx e)), mz1, (fun k => ⟨fun h => ?_, fun h => (mz2 k).mpr (hS0 k h.2)⟩), (fun k v h => ?_), fun k h => ?_⟩, ⟨[], dw_keep da6 fun o e => k8 da o dax e, List.nodup_nil, ⟨fun _ _ e => (nomatch e), fun _ _ => rfl⟩⟩, good_none _, hfn, ndl3, ndl4, nmd, hnd, hNl, rfl, ⟨hB, fun f hf => (hBf f hf).2⟩, fun k => ?_, fun k => Int.le_refl _, fun k h => ?_⟩
    · have h := (mz2 k).mp h
      exact ⟨hnsN k h, by rw [S0_in h]; omega⟩
    · rw [mz3 k v h, S0_in ((mz2 k).mp (key_iff.mpr (by rw [h]; rfl)))]
    · rw [S0_in (hS0 k h)]; exact Int.mul_nonneg hB (by omega)
    · by_cases z : k ∈ ns
      · rw [S0_in z]; omega
      · rw [S0_out z]; exact Int.le_refl _
    · exact ⟨k, [], hS0 k h, rfl, by rw [S0_in (hS0 k h)]; rfl, fun g hg => absurd hg List.not_mem_nil⟩
  have els8 : H8 ls = some (.lst (bs.map V.ref)) := k18 _ _ (nx (s1 _ _ els) fun _ _ _ z => nomatch z) (s1 _ _ els)
  refine ⟨_, rfl, ls, _, rfl, .inl (SqL.of els8), fun ch nch => ?_⟩
  have u9 := same_new nch (.lst (bs.map V.ref))
  have S9 := S8.same u9
  have ech : upd H8 ch (.lst (bs.map V.ref)) ch = some (.lst (bs.map V.ref)) := upd_same
  have k9 : ∀ c o, c ≠ x → H c = some o → upd H8 ch (.lst (bs.map V.ref)) c = some o := fun c o h e => u9 _ _ (k18 c o h (s1 c o e))
  have hns9 : Paired (fun n b => Ky K (upd H8 ch (.lst (bs.map V.ref))) b n) ns bs := Paired.mapP hns fun _ _ q => ky_mono q ((Tp.of s1).trans (t18.trans (Tp.of u9)))
  have ndm0 : H dm = none := by
    cases e : H dm with
    | none => rfl
    | some o => rw [s3 _ _ (k2 _ _ dmx (s1 _ _ e))] at ndm; cases ndm
  have nda0 : H da = none := by
    cases e : H da with
    | none => rfl
    | some o => rw [k5 _ _ dax (a4 _ _ (s3 _ _ (k2 _ _ dax (s1 _ _ e))))] at nda; cases nda
  generalize upd H8 ch (.lst (bs.map V.ref)) = H9 at S9 ech k9 hns9
  clear k18 t18 k8 x8 S8 els8 u9 a6 da6 a4 dm4 k5 x5 k2 t2 els2 hns2
  have hBd : 0 ≤ B * (3000 : Nat) * (N.length : Int) := Int.mul_nonneg (Int.mul_nonneg hB (by omega)) (by omega)
  have hS0n : 0 ≤ tot (S0 ns (B * (N.length : Int) + 1)) N := tot_nn (S0_nn (by omega))
  generalize eT : B * (N.length : Int) + 1 = T at S9 hS0 hS0n
  refine ⟨SW K C H x dl dm da lf ls fs N ns B T (B * (3000 : Nat) * (N.length : Int)), ⟨1 + ((tot (S0 ns T) N + B * (3000 : Nat) * (N.length : Int)) * (N.length + 2) + (N.length + 1 - 0)).toNat, (fun _ => none), S0 ns T, .non, ns, bs, ch, 0, ?_⟩, fun m σ H2 h => ?_⟩
  · refine ⟨k9, S9, ech, hns9, (fun k h => ⟨hnsN k h, by rw [S0_in h, ← eT]; omega⟩), hnl, fun f hf h0 hn => absurd (hS0 _ h0) hn, rfl, ?_⟩
    by_cases hne : ns = []
    · exact .inl ⟨.inl ⟨rfl, fun f hf h0 _ => absurd (hS0 _ h0) (by rw [hne]; exact List.not_mem_nil)⟩, .inl hne⟩
    · exact .inr ⟨hne, rfl, Int.le_refl _, by omega, tot (S0 ns T) N, by omega, Int.le_refl _, rfl⟩
  obtain ⟨l2, S2, r2, cs2, bs2, ch2, u2, k2, R2, ec2, hc2, hcn2, hcl2, st2, rfl, h⟩ := h
  have lb2 : cs2.length = bs2.length := Paired.length hc2
  obtain ⟨dx2, ei2⟩ := R2.ins
  refine ⟨_, rfl, !(bs2.map V.ref).isEmpty, .inl ⟨_, SqL.of ec2, rfl⟩, ?_⟩
  rcases h with ⟨hT, hend⟩ | ⟨hne, rfl, hu0, hu1, T0, hT0, hT1, rfl⟩
  · have fin : Q .non H2 := q H2 dl dm da B T l2 S2 r2 k2 R2 ndm0 hT
    by_cases hz : cs2 = []
    · have : bs2 = [] := by
        rw [hz] at lb2
        exact List.length_eq_zero_iff.mp lb2.symm
      rw [this]
      exact iteF (iteF fin)
    · have hr : r2 ≠ .non := hend.resolve_left hz
      have : (!(bs2.map V.ref).isEmpty) = true := by
        cases bs2 with
        | nil => exact absurd (List.length_eq_zero_iff.mp lb2) hz
        | cons _ _ => rfl
      rw [this]
      refine iteT ⟨_, rfl, x, dx2, _, _, rfl, ei2, rfl, rfl, _, rfl, ?_⟩
      rw [decide_eq_false hr]
      exact iteF fin
  have hb : (!(bs2.map V.ref).isEmpty) = true := by
    cases bs2 with
    | nil => exact absurd (List.length_eq_zero_iff.mp lb2) hne
    | cons _ _ => rfl
  rw [hb]
  refine iteT ⟨_, rfl, x, dx2, _, _, rfl, ei2, rfl, rfl, _, rfl, ?_⟩
  rw [decide_eq_true rfl]
  refine iteT ⟨fun σ' H' => ∃ m', m' < 1 + ((T0 + B * (3000 : Nat) * (N.length : Int)) * (N.length + 2) + (N.length + 1 - u2)).toNat ∧ SW K C H x dl dm da lf ls fs N ns B T (B * (3000 : Nat) * (N.length : Int)) m' σ' H', fun _ _ h => h, ?_⟩
  refine ⟨_, rfl, x, dx2, _, rfl, ei2, rfl, _, rfl, x, ch2, dl, dm, da, H, fs, N, ns, B, T, l2, S2, .non, cs2, bs2, rfl, R2, ec2, hc2, hcn2, st2, hfl, fun H3 p3 bs3 cs3 l3 S3 b3 R3 ep3 np3 hc3 hcn3 hcl3 st3 le3 lt3 => ?_⟩
  have k3 : ∀ c o, c ≠ x → H c = some o → H3 c = some o := fun c o h e => b3 c o (fun z => by rw [z, ndm0] at e; cases e) (fun z => by rw [z, nda0] at e; cases e) (k2 c o h e)
  have lb3 : cs3.length = bs3.length := Paired.length hc3
  obtain ⟨dx3, ei3⟩ := R3.ins
  have np0 : ∀ p, H3 p = none → H p = none := fun p np => by
    cases e : H p with
    | none => rfl
    | some o => rw [k3 p o (fun z => by rw [z, ei3] at np; cases np) e] at np; cases np
  obtain ⟨ka, hd3, nd3, hL3⟩ := R3.last
  have lka : ka.length ≤ N.length := by
    have := nd_sub nd3 (m := N) fun k h => by
      obtain ⟨v, e⟩ := Option.isSome_iff_exists.mp (key_iff.mp h)
      obtain ⟨f, f1, _, f3, _⟩ := hL3.so k v e
      rw [← f3]; exact (R3.nod f f1).2
    unfold Keys at this
    rw [List.length_map] at this
    exact this
  refine ⟨_, rfl, _, rfl, p3, _, rfl, .inl (SqL.of ep3), _, _, rfl, rfl, ?_⟩
  refine ⟨_, rfl, _, rfl, x, dx3, _, _, rfl, ei3, rfl, da, ka, rfl, hd3.rd, _, _, rfl, rfl, _, rfl, ite2 (fun c => ?_) (fun c => ?_)⟩
  · have fin : ∀ (H5 : Hp) (r : V), Same H3 H5 → (r = .non ∧ (∀ k, Out l3 ka.length k) ∨ ∃ p gv gs, r = .ref p ∧ H5 p = some (.lst gv) ∧ FactsAt K H5 gs gv ∧ gs.length ≤ 4001 ∧ IsRing fs gs ∧ H p = none) →
        ∃ m', m' < 1 + ((T0 + B * (3000 : Nat) * (N.length : Int)) * (N.length + 2) + (N.length + 1 - u2)).toNat ∧ SW K C H x dl dm da lf ls fs N ns B T (B * (3000 : Nat) * (N.length : Int)) m' [some (.ref x), some (.ref lf), some (.ref ls), some (.ref p3), some (.int 0)] (upd H5 x (.ins C dx3 [("leading", .ref dl), ("sums", .ref dm), ("last", .ref da), ("ring", r)])) := fun H5 r s5 hr => by
      have R5 := (R3.same s5).ring (r' := r) (s5 _ _ ei3)
      have t5 : Tp H5 (upd H5 x (.ins C dx3 [("leading", .ref dl), ("sums", .ref dm), ("last", .ref da), ("ring", r)])) := fun c ys e => by
        rw [upd_ne (fun z => by rw [z, s5 _ _ ei3] at e; cases e)]; exact e
      have k5 : ∀ c o, c ≠ x → H c = some o → upd H5 x (.ins C dx3 [("leading", .ref dl), ("sums", .ref dm), ("last", .ref da), ("ring", r)]) c = some o := fun c o h e => by
        rw [upd_ne h]; exact s5 _ _ (k3 c o h e)
      have ep5 : upd H5 x (.ins C dx3 [("leading", .ref dl), ("sums", .ref dm), ("last", .ref da), ("ring", r)]) p3 = some (.lst (bs3.map V.ref)) := by
        rw [upd_ne (fun z => by rw [z, ei3] at ep3; cases ep3)]; exact s5 _ _ ep3
      have hc5 : Paired (fun n b => Ky K (upd H5 x (.ins C dx3 [("leading", .ref dl), ("sums", .ref dm), ("last", .ref da), ("ring", r)])) b n) cs3 bs3 := Paired.mapP hc3 fun _ _ q => ky_mono q ((Tp.of s5).trans t5)
      rcases hr with ⟨rfl, ho⟩ | ⟨p, gv, gs, rfl, e5, hg, hgl, hrg, np⟩
      · by_cases hz : cs3 = []
        · refine ⟨0, by omega, l3, S3, _, cs3, bs3, p3, 0, k5, R5, ep5, hc5, hcn3, hcl3, st3, rfl, .inl ⟨.inl ⟨rfl, st3.less fun k h => by rw [hz] at h; exact absurd h List.not_mem_nil⟩, .inl hz⟩⟩
        · have hlow : -(B * (3000 : Nat) * (N.length : Int)) ≤ tot S3 N := look_low R3.good (by omega) hB (fun v u c e => by
            cases hv : valV ka v with
            | none => rw [hL3.no v hv] at e; cases e
            | some y =>
              obtain ⟨f, f1, _, _, f4⟩ := hL3.so v y hv
              rw [e] at f4
              cases f4
              exact (hBf f f1).1) fun k => (ho k).mono (by omega)
          obtain ⟨k, hk⟩ := List.exists_mem_of_ne_nil cs3 hz
          have hlt : tot S3 N < tot S2 N := tot_lt (fun k _ => le3 k) (hcn3 k hk).1 (lt3 k hk)
          exact ⟨_, fall_look hlow (by omega) hu1 (by omega), l3, S3, _, cs3, bs3, p3, 0, k5, R5, ep5, hc5, hcn3, hcl3, st3, rfl, .inr ⟨hz, rfl, Int.le_refl _, by omega, tot S3 N, hlow, Int.le_refl _, rfl⟩⟩
      · refine ⟨0, by omega, l3, S3, _, cs3, bs3, p3, 0, k5, R5, ep5, hc5, hcn3, hcl3, st3, rfl, .inl ⟨.inr ⟨p, gv, gs, rfl, ?_, hg.mono t5, hgl, hrg, np⟩, .inr (fun z => nomatch z)⟩⟩
        rw [upd_ne (fun z => by rw [z, s5 _ _ ei3] at e5; cases e5)]; exact e5
    refine ⟨_, rfl, x, dx3, _, _, rfl, ei3, rfl, da, ka, fs, l3, rfl, hd3, hL3, nd3, by omega, R3.good.i2, fun H5 s5 ho => ?_, fun H5 p gv gs s5 e5 np hg hgl hrg => ?_⟩
    · exact ⟨_, rfl, x, dx3, _, rfl, s5 _ _ ei3, by show 4 < 1000; decide, fin H5 .non s5 (.inl ⟨rfl, ho⟩)⟩
    · exact ⟨_, rfl, x, dx3, _, rfl, s5 _ _ ei3, by show 4 < 1000; decide, fin H5 (.ref p) s5 (.inr ⟨p, gv, gs, rfl, e5, hg, hgl, hrg, np0 p np⟩)⟩
  · have el : ((bs3.map V.ref).length : Int) = (cs3.length : Int) := by rw [List.length_map, lb3]
    have c' : u2 + (cs3.length : Int) < (ka.length : Int) := by
      rw [← el]
      have := Int.not_le.mp fun h => c (decide_eq_true h)
      omega
    by_cases hz : cs3 = []
    · exact ⟨0, by omega, l3, S3, _, cs3, bs3, p3, _, k3, R3, ep3, hc3, hcn3, hcl3, st3, rfl, .inl ⟨.inl ⟨rfl, st3.less fun k h => by rw [hz] at h; exact absurd h List.not_mem_nil⟩, .inl hz⟩⟩
    · have h1 : 0 < cs3.length := List.length_pos_iff.mpr hz
      have hle := tot_le (N := N) fun k _ => le3 k
      exact ⟨_, fall_on (u' := u2 + ((bs3.map V.ref).length : Int)) hT0 (by omega) (by omega) (by omega), l3, S3, _, cs3, bs3, p3, _, k3, R3, ep3, hc3, hcn3, hcl3, st3, rfl, .inr ⟨hz, rfl, by omega, by omega, T0, hT0, by omega, rfl⟩⟩
end
end K34
set_option Elab.async false
set_option linter.all false
set_option maxRecDepth 100000
set_option maxHeartbeats 4000000
namespace K34
open PySem PySem.Spec PyProof.Rows L2
noncomputable abbrev s_ring_of : Stmt := top 5
theorem sc_ring_of : FnScope ["facts"] ["facts"] (defScope s_ring_of) := ⟨rfl, rfl, rfl, by decide +kernel, rfl, by decide +kernel, by decide +kernel⟩
noncomputable abbrev s_verdict : Stmt := top 11
theorem sc_verdict : FnScope ["facts", "bound", "ring", "closing", "all_facts", "search"] ["facts", "bound"] (defScope s_verdict) := ⟨rfl, rfl, rfl, by decide +kernel, rfl, by decide +kernel, by decide +kernel⟩
noncomputable def LeastIs (fs : List Fct) (a b : Node) (r : V) : Prop := (r = .non ∧ ∀ gs, (∀ g ∈ gs, g ∈ fs) → ¬ RoadL a gs b) ∨ ∃ x : Int, r = .int x ∧ (∃ gs, (∀ g ∈ gs, g ∈ fs) ∧ RoadL a gs b ∧ sumF gs = x) ∧ ∀ gs, (∀ g ∈ gs, g ∈ fs) → RoadL a gs b → x ≤ sumF gs
noncomputable def RingAt (K : PySem.W.Frag) (H H' : Hp) (fs : List Fct) (r : V) : Prop := ∃ p gv gs, r = .ref p ∧ H' p = some (.lst gv) ∧ FactsAt K H' gs gv ∧ gs.length ≤ 4001 ∧ IsRing fs gs ∧ H p = none
noncomputable def spRingOf (K : PySem.W.Frag) : Sp := fun vs H Q _ => ExQ Q (fun (l : Addr) Q => ExQ Q (fun (xs : List V) Q => ExQ Q (fun (fs : List Fct) Q => vs = [.ref l] ∧ H l = some (.lst xs) ∧ FactsAt K H fs xs ∧ fs.length ≤ 1000 ∧ ∀ (H' : Hp) (r : V), Same H H' → (r = .non ∧ ¬ Clash fs) ∨ RingAt K H H' fs r → Q r H')))
noncomputable def VIs (K : PySem.W.Frag) (H0 H : Hp) (fs : List Fct) (b : Fct) (wd : Str) (u : V) : Prop := (wd = "ring" ∧ RingAt K H0 H fs u) ∨
  (wd = "road" ∧ ¬ Clash fs ∧ ∃ (p : Addr) (ys : List V) (hs : List Fct), u = .ref p ∧ H p = some (.lst ys) ∧ FactsAt K H hs ys ∧ hs.length ≤ 4001 ∧ RoadL b.a hs b.b ∧ sumF hs ≤ b.c ∧ (∀ h ∈ hs, h ∈ fs) ∧ H0 p = none) ∨
  (wd = "stand" ∧ ∃ (d : Addr) (kv : List (Node × V)) (num : Node → Int), u = .ref d ∧ DW K H d kv ∧ H0 d = none ∧ valV kv [.inr "zero"] = some (.int 0) ∧ num [.inr "zero"] = 0 ∧ (∀ f ∈ b.turn :: fs, valV kv f.a = some (.int (num f.a)) ∧ valV kv f.b = some (.int (num f.b))) ∧ (∀ f ∈ b.turn :: fs, num f.a - num f.b ≤ f.c) ∧ ∀ p ∈ kv, ∃ x : Int, p.2 = .int x)
noncomputable def spVerdict (K : PySem.W.Frag) : Sp := fun vs H Q _ => ExQ Q (fun (l : Addr) Q => ExQ Q (fun (xs : List V) Q => ExQ Q (fun (fs : List Fct) Q => ExQ Q (fun (b : Fct) Q => ExQ Q (fun (v : V) Q => vs = [.ref l, v] ∧ H l = some (.lst xs) ∧ FactsAt K H fs xs ∧ fs.length ≤ 500 ∧ FactAt K H b v ∧
  ∀ (H' : Hp) (t : Addr) (wd : Str) (u : V), Same H H' → H' t = some (.tup [.str wd, u]) → VIs K H H' fs b wd u → Q (.ref t) H')))))
theorem Sr.all {K : PySem.W.Frag} {C : Addr} {H0 H : Hp} {x dl dm da : Addr} {fs : List Fct} {N st : List Node} {Bc T : Int} {l : Last} {S : Node → Int} {r : V} (h : Sr K C H0 H x dl dm da fs N st Bc T l S r) {k : Node} (hk : k ∈ st) : S k < T := by
  have h1 := h.le0 k
  rw [S0_in hk] at h1
  have h2 := h.hT
  have h3 : 0 ≤ Bc * (N.length : Int) := Int.mul_nonneg h.hB.1 (by omega)
  omega
theorem Sr.roads {K : PySem.W.Frag} {C : Addr} {H0 H : Hp} {x dl dm da : Addr} {fs : List Fct} {N st : List Node} {Bc T : Int} {l : Last} {S : Node → Int} {r : V} (h : Sr K C H0 H x dl dm da fs N st Bc T l S r) (hs : Stab fs T S fun _ => False) : ∀ {gs : List Fct} {u k : Node}, (∀ g ∈ gs, g ∈ fs) → RoadL u gs k → S u < T → S k < T ∧ S k ≤ S u + sumF gs
  | [], u, k, _, hr, hu => by
    have hr : u = k := hr
    rw [← hr]; exact ⟨hu, by show S u ≤ S u + 0; omega⟩
  | g :: gs, u, k, hg, hr, hu => by
    have hgf := hg g List.mem_cons_self
    have hga := hr.1
    rw [← hga] at hu
    have h1 := hs g hgf hu fun z => z
    have h2 : S g.b < T := by
      by_cases z : S g.b < T
      · exact z
      · have := h.below hgf hu z
        omega
    obtain ⟨h3, h4⟩ := h.roads hs (fun y hy => hg y (List.mem_cons_of_mem _ hy)) hr.2 h2
    refine ⟨h3, ?_⟩
    rw [← hga]
    show S k ≤ S g.a + (g.c + sumF gs)
    omega
section
variable {P : Program} {w : World} {K : PySem.W.Frag} {mg : Str → Option Value} {base : Heap} {f : Addr} {fd : FuncData} {n : Nat} {C a_ZERO : Addr}
theorem ok_ring_of (F : Fun K "ring_of" "ring_of" s_ring_of f fd) (W : WC K C) (c_Search : ClK P w K mg base "Search" C n ["self", "facts", "starts"] (spSInit K C)) (c_nodes_of : Cl P w K mg base "nodes_of" (n + 1) ["facts"] (spNodesOf K)) : FnOk P w K mg base CX0 (n + 2) f fd ["facts"] (spRingOf K) := by
  refine F.ok sc_ring_of (fun vs H Q E h => ?_) (fun cdv A outer s H vs Q E hr h => ?_)
  · obtain ⟨l, xs, fs, rfl, _⟩ := h
    rfl
  have hr1 := hr
  obtain ⟨l, xs, fs, rfl, el, hF, hl, q⟩ := h
  have sc := sc_ring_of
  refine ⟨_, (pss_one (ps_ret (pe_sf W.cl W.na_ring (pe_mk c_Search hr1 rfl (pa_cons (pv 0) (pa_cons (pe_cl c_nodes_of hr rfl (pa_cons (pv 0) pa_nil)) pa_nil)))))), ?_⟩
  refine ⟨_, rfl, _, rfl, l, xs, fs, rfl, el, hF, hl, fun H1 p bs ns s1 e1 np hns hnd hmem hlen => ?_⟩
  refine fun x dx nx ndx hne => ?_
  have s5 := same_new ndx (.own x)
  have nx5 : upd H1 dx (.own x) x = none := by rw [upd_ne hne.symm]; exact nx
  have s6 := s5.trans (same_new nx5 (.ins C dx []))
  refine ⟨x, dx, l, p, xs, fs, ns, ns, bs, rfl, upd_same, s6 _ _ (s1 _ _ el), hF.mono (Tp.of (s1.trans s6)), hl, s6 _ _ e1, Paired.mapP hns (fun _ _ q => ky_mono q (Tp.of s6)), hnd, (fun f hf => ⟨(hmem _).mpr ⟨f, hf, .inl rfl⟩, (hmem _).mpr ⟨f, hf, .inr rfl⟩⟩), fun _ h => h, hlen, hlen, fun H7 dl dm da Bc T l7 S7 r hk R7 _ hT => ⟨rfl, ?_⟩⟩
  obtain ⟨dx7, ei7⟩ := R7.ins
  refine ⟨x, dx7, _, _, rfl, ei7, rfl, q H7 r (fun c o e => ?_) ?_⟩
  · have e1 := s1 _ _ e
    exact hk c o (fun z => by rw [z, nx] at e1; cases e1) (s6 _ _ e1)
  · rcases hT with ⟨rfl, hst⟩ | ⟨p, gv, gs, rfl, h1, h2, h3, h4, h5⟩
    · exact .inl ⟨rfl, hst.no_clash (fun f hf => R7.all ((hmem _).mpr ⟨f, hf, .inl rfl⟩)) fun _ h => h⟩
    · exact .inr ⟨p, gv, gs, rfl, h1, h2, h3, h4, (s1.trans s6).free h5⟩
theorem ok_verdict (F : Fun K "verdict" "verdict" s_verdict f fd) (W : WC K C) (Z : TabZ K mg a_ZERO) (c_Search : ClK P w K mg base "Search" C n ["self", "facts", "starts"] (spSInit K C)) (c_nodes_of : Cl P w K mg base "nodes_of" (n + 1) ["facts"] (spNodesOf K)) (c_ring_of : Cl P w K mg base "ring_of" (n + 1) ["facts"] (spRingOf K)) (c_against : Cl P w K mg base "against" (n + 1) ["bound"] (spAgainst K)) (c_opened : Cl P w K mg base "opened" (n + 1) ["ring", "fact"] (spOpened K)) (c_stand_by : Cl P w K mg base "stand_by" (n + 1) ["sums"] (spStandBy K)) : FnOk P w K mg base CX0 (n + 2) f fd ["facts", "bound"] (spVerdict K) := by
  refine F.ok sc_verdict (fun vs H Q E h => ?_) (fun cdv A outer s H vs Q E hr h => ?_)
  · obtain ⟨l, xs, fs, b, v, rfl, _⟩ := h
    rfl
  have hr1 := hr
  have m_ZERO := Z.mz
  obtain ⟨l, xs, fs, b, v, rfl, el, hF, hl, hb, q⟩ := h
  have sc := sc_verdict
  refine ⟨_, (@pss_cons _ _ _ _ _ (ps_set (i := 2) sc.nd rfl (Or.inl rfl) (pe_cl c_ring_of hr rfl (pa_cons (pv 0) pa_nil)))
      (@pss_cons _ _ _ _ _ (ps_if (pt_cmpR op_notN (pv 2) pe_non (nomark _)) (pss_one (ps_ret (pe_tup (pa_cons pe_str (pa_cons (pv 2) pa_nil))))) pss_nil)
      (@pss_cons _ _ _ _ _ (ps_set (i := 3) sc.nd rfl (Or.inl rfl) (pe_cl c_against hr rfl (pa_cons (pv 1) pa_nil)))
      (@pss_cons _ _ _ _ _ (ps_set (i := 4) sc.nd rfl (Or.inl rfl) (pe_op op_cat (pv 0) (pe_lst (pa_cons (pv 3) pa_nil))))
      (@pss_cons _ _ _ _ _ (ps_set (i := 5) sc.nd rfl (Or.inl rfl) (pe_mk c_Search hr1 rfl (pa_cons (pv 4) (pa_cons (pe_cl c_nodes_of hr rfl (pa_cons (pe_op op_cat (pv 4) (pe_lst (pa_cons (pe_tup (pa_cons (pe_glob rfl m_ZERO (v := .ref a_ZERO) rfl) (pa_cons (pe_glob rfl m_ZERO (v := .ref a_ZERO) rfl) (pa_cons pe_int pa_nil)))) pa_nil))) pa_nil)) pa_nil))))
      (@pss_cons _ _ _ _ _ (ps_if (pt_cmpR op_notN (pe_sf W.cl W.na_ring (pv 5)) pe_non (nomark _)) (pss_one (ps_ret (pe_tup (pa_cons pe_str (pa_cons (pe_cl c_opened hr rfl (pa_cons (pe_sf W.cl W.na_ring (pv 5)) (pa_cons (pv 3) pa_nil))) pa_nil))))) pss_nil)
      (pss_one (ps_ret (pe_tup (pa_cons pe_str (pa_cons (pe_cl c_stand_by hr rfl (pa_cons (pe_sf W.cl W.na_sums (pv 5)) pa_nil)) pa_nil))))))))))), ?_⟩
  refine ⟨_, rfl, l, xs, fs, rfl, el, hF, by omega, fun H1 r s1 hT => ?_⟩
  refine ⟨_, rfl, rfl, _, rfl, ?_⟩
  rcases hT with ⟨rfl, hnc⟩ | ⟨p, gv, gs, rfl, ep, hg, hgl, hrg, hnp⟩
  rotate_left
  · refine iteT ⟨_, rfl, Nat.le_of_ble_eq_true rfl, fun t nt => ?_⟩
    have ut := same_new nt (.tup [.str "ring", .ref p])
    exact q _ t "ring" _ (s1.trans ut) upd_same (.inl ⟨rfl, p, gv, gs, rfl, ut _ _ ep, hg.mono (Tp.of ut), hgl, hrg, hnp⟩)
  refine iteF ?_
  refine ⟨_, rfl, b, v, rfl, hb.mono (Tp.of s1), fun vc H2 s2 hc => ?_⟩
  refine ⟨_, rfl, _, rfl, Nat.le_of_ble_eq_true rfl, fun p3 n3 => ?_⟩
  have u3 := same_new n3 (.lst [vc])
  have s03 := s1.trans (s2.trans u3)
  have lx : fs.length = xs.length := Paired.length hF
  refine ⟨l, p3, xs, [vc], rfl, rfl, s03 _ _ el, upd_same, (by rw [sizeLine_eq, List.length_singleton]; omega), fun p4 n4 => ?_⟩
  have u4 := same_new n4 (.lst (xs ++ [vc]))
  have e4 : upd (upd H2 p3 (.lst [vc])) p4 (.lst (xs ++ [vc])) p4 = some (.lst (xs ++ [vc])) := upd_same
  have s04 := s03.trans u4
  have hc4 := hc.mono (Tp.of (u3.trans u4))
  generalize upd (upd H2 p3 (.lst [vc])) p4 (.lst (xs ++ [vc])) = H4 at e4 s04 hc4
  have hA4 : FactsAt K H4 (fs ++ [b.turn]) (xs ++ [vc]) := facts_app (hF.mono (Tp.of s04)) hc4
  refine ⟨_, rfl, _, rfl, Nat.le_of_ble_eq_true rfl, fun p5 n5 => ⟨Nat.le_of_ble_eq_true rfl, fun p6 n6 => ?_⟩⟩
  have u5 := same_new n5 (.tup [.ref a_ZERO, .ref a_ZERO, .int 0])
  have u6 := same_new n6 (.lst [.ref p5])
  have hz6 : FactAt K (upd (upd H4 p5 (.tup [.ref a_ZERO, .ref a_ZERO, .int 0])) p6 (.lst [.ref p5])) ⟨[.inr "zero"], [.inr "zero"], 0⟩ (.ref p5) := ⟨p5, _, _, rfl, u6 _ _ upd_same, ⟨_, rfl, .inr Z.z⟩, ⟨_, rfl, .inr Z.z⟩⟩
  have e6 : upd (upd H4 p5 (.tup [.ref a_ZERO, .ref a_ZERO, .int 0])) p6 (.lst [.ref p5]) p6 = some (.lst [.ref p5]) := upd_same
  have s46 := u5.trans u6
  generalize upd (upd H4 p5 (.tup [.ref a_ZERO, .ref a_ZERO, .int 0])) p6 (.lst [.ref p5]) = H6 at hz6 e6 s46
  refine ⟨p4, p6, xs ++ [vc], [.ref p5], rfl, rfl, s46 _ _ e4, e6, (by rw [sizeLine_eq, List.length_append, List.length_singleton, List.length_singleton]; omega), fun p7 n7 => ?_⟩
  have u7 := same_new n7 (.lst ((xs ++ [vc]) ++ [.ref p5]))
  have e7 : upd H6 p7 (.lst ((xs ++ [vc]) ++ [.ref p5])) p7 = some (.lst ((xs ++ [vc]) ++ [.ref p5])) := upd_same
  have s47 := s46.trans u7
  have hz7 := hz6.mono (Tp.of u7)
  generalize upd H6 p7 (.lst ((xs ++ [vc]) ++ [.ref p5])) = H7 at e7 s47 hz7
  have hA7 := hA4.mono (Tp.of s47)
  have len1 : (fs ++ [b.turn]).length ≤ 501 := by rw [List.length_append, List.length_singleton]; omega
  refine ⟨p7, _, (fs ++ [b.turn]) ++ [⟨[.inr "zero"], [.inr "zero"], 0⟩], rfl, e7, facts_app hA7 hz7, by rw [List.length_append, List.length_singleton]; omega, fun H8 p bs ns s8 e8 np hns hnd hmem hlen => ?_⟩
  refine fun x dx nx ndx hne => ?_
  have s9 := same_new ndx (.own x)
  have nx9 : upd H8 dx (.own x) x = none := by rw [upd_ne hne.symm]; exact nx
  have s10 := s9.trans (same_new nx9 (.ins C dx []))
  have s48 := s47.trans s8
  have s410 := s48.trans s10
  refine ⟨x, dx, p4, p, _, fs ++ [b.turn], ns, ns, bs, rfl, upd_same, s410 _ _ e4, hA4.mono (Tp.of s410), by omega, s10 _ _ e8, Paired.mapP hns (fun _ _ q => ky_mono q (Tp.of s10)), hnd, (fun f hf => ⟨(hmem _).mpr ⟨f, List.mem_append_left _ hf, .inl rfl⟩, (hmem _).mpr ⟨f, List.mem_append_left _ hf, .inr rfl⟩⟩), fun _ h => h, hlen, hlen, fun H11 dl dm da Bc T l11 S11 r hk R11 ndm hT => ⟨rfl, ?_⟩⟩
  have s011 : Same H H11 := fun c o e => by
    have e1 := s48 _ _ (s04 _ _ e)
    exact hk c o (fun z => by rw [z, nx] at e1; cases e1) (s10 _ _ e1)
  have hc11 : FactAt K H11 b.turn vc := hc4.mono fun c ys e => by
    have e1 := s48 _ _ e
    exact hk c _ (fun z => by rw [z, nx] at e1; cases e1) (s10 _ _ e1)
  obtain ⟨dx11, ei11⟩ := R11.ins
  refine ⟨_, rfl, x, dx11, _, _, rfl, ei11, rfl, rfl, _, rfl, ?_⟩
  have tot : ∀ f ∈ fs ++ [b.turn], f ∈ b.turn :: fs := fun f hf => by
    rcases List.mem_append.mp hf with h | h
    · exact List.mem_cons_of_mem _ h
    · rw [List.mem_singleton.mp h]; exact List.mem_cons_self
  have zin : ([.inr "zero"] : Node) ∈ ns := (hmem _).mpr ⟨_, List.mem_append_right _ (List.mem_singleton.mpr rfl), .inl rfl⟩
  have s010 : ∀ p, H8 p = none → H p = none := fun p e => (s04.trans s48).free e
  rcases hT with ⟨rfl, hst2⟩ | ⟨p9, gv, gs, rfl, ep9, hg, hgl, hrg, hnp9⟩
  · refine iteF ?_
    obtain ⟨km, hm1, hm2, hm3, hm4, _⟩ := R11.sums
    have inn : ∀ k, k ∈ ns → k ∈ Keys km := fun k h => (hm3 k).mpr ⟨h, R11.all h⟩
    have lkm : km.length ≤ 2000 := keys_len hm2 (fun k h => ((hm3 k).mp h).1) R11.lN
    refine ⟨_, rfl, x, dx11, _, _, rfl, ei11, rfl, dm, km, S11, rfl, hm1, hm2, by omega, hm4, inn _ zin, fun H12 pd kv s12 hdw npd hkv hki => ?_⟩
    refine ⟨Nat.le_of_ble_eq_true rfl, fun t nt => ?_⟩
    have u13 := same_new nt (.tup [.str "stand", .ref pd])
    have back : ∀ f ∈ b.turn :: fs, f ∈ fs ++ [b.turn] := fun f hf => by
      rcases List.mem_cons.mp hf with h | h
      · rw [h]; exact List.mem_append_right _ (List.mem_singleton.mpr rfl)
      · exact List.mem_append_left _ h
    refine q _ t "stand" _ (s011.trans (s12.trans u13)) upd_same (.inr (.inr ⟨rfl, pd, kv, fun k => S11 [.inr "zero"] - S11 k, rfl, dw_keep hdw (u13 pd), s011.free npd, (by have := hkv _ (inn _ zin); rw [Int.sub_self] at this; exact this), Int.sub_self _, (fun f hf => ⟨hkv _ (inn _ (R11.nod f (back f hf)).1), hkv _ (inn _ (R11.nod f (back f hf)).2)⟩), (fun f hf => hst2.keeps (fun f hf => R11.all (R11.nod f hf).1) _ f (back f hf)), hki⟩))
  · have hin : b.turn ∈ gs := by
      by_cases z : b.turn ∈ gs
      · exact z
      · refine absurd (hrg.clash.more fun g hg => ?_) hnc
        rcases List.mem_append.mp (hrg.sub g hg) with h | h
        · exact h
        · rw [List.mem_singleton.mp h] at hg; exact absurd hg z
    refine iteT ⟨_, rfl, x, dx11, _, _, rfl, ei11, rfl, _, rfl, p9, gv, fs ++ [b.turn], gs, b.turn, vc, rfl, ep9, hg, hgl, hc11, hin, hrg, fun H12 r ys hs s12 er npr hFs hrd hsm hsub hsl => ?_⟩
    refine ⟨Nat.le_of_ble_eq_true rfl, fun t nt => ?_⟩
    have ut := same_new nt (.tup [.str "road", .ref r])
    have hneg := hrg.neg
    refine q _ t "road" _ (s011.trans (s12.trans ut)) upd_same (.inr (.inl ⟨rfl, hnc, r, ys, hs, rfl, ut _ _ er, hFs.mono (Tp.of ut), hsl, hrd, ?_, fun h hh => ?_, s011.free npr⟩))
    · rw [hsm]
      show sumF gs - (-1 - b.c) ≤ b.c
      omega
    · obtain ⟨h1, h2⟩ := hsub h hh
      rcases List.mem_append.mp h1 with h3 | h3
      · exact h3
      · exact absurd (List.mem_singleton.mp h3) h2
end
end K34
set_option Elab.async false
set_option linter.all false
set_option maxRecDepth 100000
set_option maxHeartbeats 4000000
namespace K34
open PySem PySem.Spec PyProof.Rows L2
noncomputable abbrev s_pool : Stmt := top 17
theorem sc_pool : FnScope ["_law_script", "_law_at", "_law_many", "_law_pool_here", "_law_one", "_law_k", "_law_node_here"] ["_law_script", "_law_at", "_law_many"] (defScope s_pool) := ⟨rfl, rfl, rfl, by decide +kernel, rfl, by decide +kernel, by decide +kernel⟩
noncomputable abbrev s_worths : Stmt := top 19
theorem sc_worths : FnScope ["_law_script", "_law_at", "_law_pool_here", "_law_worths_here", "_law_k", "_law_cell"] ["_law_script", "_law_at", "_law_pool_here"] (defScope s_worths) := ⟨rfl, rfl, rfl, by decide +kernel, rfl, by decide +kernel, by decide +kernel⟩
noncomputable abbrev KysAt (K : PySem.W.Frag) (H : Hp) (ks : List Node) (bs : List Addr) : Prop := Paired (fun n b => Ky K H b n) ks bs
theorem KysAt.mono {K : PySem.W.Frag} {H H' : Hp} {ks : List Node} {bs : List Addr} (h : KysAt K H ks bs) (t : Tp H H') : KysAt K H' ks bs := Paired.mapP h fun _ _ q => ky_mono q t
noncomputable def nodeD (k : Node) : D := .tup (k.map kD)
theorem nodes_is {K : PySem.W.Frag} {H : Hp} : ∀ {ks : List Node} {bs : List Addr}, KysAt K H ks bs → IsL K H (ks.map nodeD) (bs.map V.ref)
  | [], _, .nil => isl_nil
  | k :: ks, _, .cons r t => isl_cons (node_is ⟨_, rfl, r⟩) (nodes_is t)
theorem deps_node : ∀ ks : List Node, D.depL (ks.map nodeD) < 9
  | [] => by rw [List.map_nil]; unfold D.depL; decide
  | k :: ks => by
    have h2 := deps_node ks
    have d1 : (nodeD k).dep = 1 + D.depL (k.map kD) := by unfold nodeD; conv => lhs; unfold D.dep
    rw [dep_kD] at d1
    rw [List.map_cons, show D.depL (nodeD k :: ks.map nodeD) = max (nodeD k).dep (D.depL (ks.map nodeD)) by conv => lhs; unfold D.depL]
    exact Nat.max_lt.mpr ⟨by omega, h2⟩
theorem kys_app {K : PySem.W.Frag} {H : Hp} {ks : List Node} {bs : List Addr} {k : Node} {b : Addr} (h : KysAt K H ks bs) (hb : Ky K H b k) : KysAt K H (ks ++ [k]) (bs ++ [b]) := Paired.snoc h hb
noncomputable def spPool (K : PySem.W.Frag) : Sp := fun vs H Q _ => ExQ Q (fun (a : Addr) Q => ExQ Q (fun (ns : List Int) Q => ExQ Q (fun (at0 : Int) Q => ExQ Q (fun (many : Nat) Q => vs = [.ref a, .int at0, .int (many : Int)] ∧ SqL K H a (ns.map V.int) ∧ ns.length ≤ 63 ∧ 0 ≤ at0 ∧ at0 ≤ 500 ∧ 0 < many ∧ many ≤ 100 ∧
  ∀ (H' : Hp) (p : Addr) (bs : List Addr) (ks : List Node), Same H H' → H' p = some (.lst (bs.map V.ref)) → KysAt K H' ks bs → 0 < ks.length → ks.length ≤ many → Q (.ref p) H'))))
noncomputable def spWorths (K : PySem.W.Frag) : Sp := fun vs H Q _ => ExQ Q (fun (a : Addr) Q => ExQ Q (fun (ns : List Int) Q => ExQ Q (fun (at0 : Int) Q => ExQ Q (fun (p : Addr) Q => ExQ Q (fun (bs : List Addr) Q => ExQ Q (fun (ks : List Node) Q => vs = [.ref a, .int at0, .ref p] ∧ SqL K H a (ns.map V.int) ∧ ns.length ≤ 63 ∧ 0 ≤ at0 ∧ at0 ≤ 500 ∧ H p = some (.lst (bs.map V.ref)) ∧ KysAt K H ks bs ∧ ks.length ≤ 100 ∧
  ∀ (H' : Hp) (d : Addr) (kv : List (Node × V)) (num : Node → Int), Same H H' → DW K H' d kv → (∀ k ∈ ks, valV kv k = some (.int (num k))) → (∀ k v, valV kv k = some v → ∃ x : Int, v = .int x) → kv.length ≤ 200 → Q (.ref d) H'))))))
section
variable {P : Program} {w : World} {K : PySem.W.Frag} {mg : Str → Option Value} {base : Heap} {f : Addr} {fd : FuncData} {n : Nat}
theorem ok_pool (F : Fun K "_law_pool" "_law_pool" s_pool f fd) (m_range : mg "range" = none) (c_law_draw : Cl P w K mg base "_law_draw" n ["_law_script", "_law_k"] (spDraw K)) (c_law_node : Cl P w K mg base "_law_node" n ["_law_cell"] (spNode K)) : FnOk P w K mg base CX0 (n + 1) f fd ["_law_script", "_law_at", "_law_many"] (spPool K) := by
  refine F.ok sc_pool (fun vs H Q E h => ?_) (fun cdv A outer s H vs Q E hr h => ?_)
  · obtain ⟨a, ns, z, many, rfl, _⟩ := h
    rfl
  obtain ⟨a, ns, z, many, rfl, hS, h63, z0, z1, m0, m1, q⟩ := h
  have sc := sc_pool
  have hu9 : (A.deeper (envOfC "_law_pool" (defScope s_pool) s.heap.objs.size f cdv)).units + 1 + 9 < cLine := by have := hr.units; omega
  refine ⟨_, (@pss_cons _ _ _ _ _ (ps_set (i := 3) sc.nd rfl (Or.inl rfl) (pe_lst pa_nil))
      (@pss_cons _ _ _ _ _ (ps_set (i := 4) sc.nd rfl (Or.inl rfl) (pe_cmpR op_eq (pe_op op_mod (pe_cl c_law_draw hr rfl (pa_cons (pv 0) (pa_cons (pe_op op_add (pv 1) (pv 2)) pa_nil))) pe_int) pe_int (nomark _)))
      (@pss_cons _ _ _ _ _ (ps_for PassesOwn.never rfl (pi_range1 rfl m_range (pa_cons (pv 2) pa_nil)) (pg_name (i := 5) sc.nd rfl (Or.inl rfl)) (@pss_cons _ _ _ _ _ (ps_set (i := 6) sc.nd rfl (Or.inl rfl) (pe_cl c_law_node hr rfl (pa_cons (pe_cl c_law_draw hr rfl (pa_cons (pv 0) (pa_cons (pe_op op_add (pv 1) (pv 5)) pa_nil))) pa_nil)))
      (@pss_cons _ _ _ _ _ (ps_if (PW.pt (pw_and (pt_val (pv 4)) (pw_and1 (pt_cmpR op_eq (pe_ix ix_tup (pv 6) pe_int (fun _ _ => rfl)) pe_str (nomark _))))) (pss_one (ps_set (i := 6) sc.nd rfl (Or.inl rfl) (pe_tup (pa_cons pe_str (pa_cons (pe_ix ix_tup (pv 6) pe_int (fun _ _ => rfl)) (pa_cons pe_int pa_nil)))))) pss_nil)
      (pss_one (ps_if (pt_cmp (pc_notinL (n := 9) hu9 (pv 6) (pv 3))) (pss_one (ps_expr (pe_bm PySem.F.plainAttrs_list PySem.F.slot_list_append PySem.F.type_list_append mt_append (pv 3) (pa_cons (pv 6) pa_nil)))) pss_nil)))))
      (pss_one (ps_ret (pv 3)))))), ?_⟩
  refine ⟨Nat.le_of_ble_eq_true rfl, fun p np => ?_⟩
  have u1 := same_new np (.lst [])
  have e1 : upd H p (.lst []) p = some (.lst []) := upd_same
  generalize upd H p (.lst []) = H1 at u1 e1
  refine ⟨_, rfl, _, rfl, _, rfl, _, _, rfl, rfl, a, ns, _, rfl, u1.seq hS, h63, by omega, by omega, fun c0 => ⟨_, _, rfl, rfl, (by decide : (0 : Int) < 4), rfl, ?_⟩⟩
  refine ⟨_, rfl, _, rfl, by omega, by omega, ?_⟩
  refine for_range (n := many) (fun i σ H' => ∃ (bs : List Addr) (ks : List Node) (y5 y6 : Option V) (b4 : Bool), Same H H' ∧ H' p = some (.lst (bs.map V.ref)) ∧ KysAt K H' ks bs ∧ ks.length ≤ i ∧ (0 < i → 0 < ks.length) ∧ σ = [some (.ref a), some (.int z), some (.int (many : Int)), some (.ref p), some (.bl b4), y5, y6])
    ⟨[], [], _, _, _, u1, e1, .nil, Nat.le_refl _, fun h => h, rfl⟩ (fun i σ H2 hi h => ?_) (fun σ H2 h => ?_)
  · obtain ⟨bs, ks, y5, y6, b4, s2, e2, hk, hl, hp, rfl⟩ := h
    refine ⟨_, rfl, _, rfl, _, rfl, _, _, rfl, rfl, a, ns, _, rfl, s2.seq hS, h63, by omega, by omega, fun c => ⟨c, rfl, fun v H3 k hok s3 hn => ?_⟩⟩
    dsimp only [gName, tSeq]
    refine ifs_nx (fun σ' H' => ∃ (v : V) (k : Node), Same H3 H' ∧ NodeAt K H' v k ∧ σ' = [some (.ref a), some (.int z), some (.int (many : Int)), some (.ref p), some (.bl b4), some (.int (0 + (i : Int))), some v]) (fun σ' H4 h => ?_) (fun D' kk => ?_)
    rotate_left
    · obtain ⟨b, rfl, hb⟩ := id hn
      refine ⟨_, rfl, b4, rfl, ?_⟩
      cases b4 with
      | false => exact iteF (iteF (kk _ _ ⟨_, k, .refl _, hn, rfl⟩))
      | true =>
        refine iteT ?_
        rcases hok with rfl | ⟨x, rfl⟩ | ⟨x, y, rfl⟩
        · refine ⟨_, rfl, b, _, 0, _, rfl, rfl, hb.sq, at0 _ _, rfl, _, rfl, ite2 (fun c => absurd c (by decide +kernel)) (fun _ => kk _ _ ⟨_, _, .refl _, hn, rfl⟩)⟩
        · refine ⟨_, rfl, b, _, 0, _, rfl, rfl, hb.sq, at0 _ _, rfl, _, rfl, ite2 (fun c => absurd c (by decide +kernel)) (fun _ => kk _ _ ⟨_, _, .refl _, hn, rfl⟩)⟩
        · refine ⟨_, rfl, b, _, 0, _, rfl, rfl, hb.sq, at0 _ _, rfl, _, rfl, ite2 (fun c => ?_) (fun _ => kk _ _ ⟨_, _, .refl _, hn, rfl⟩)⟩
          refine ⟨_, rfl, b, _, 1, _, rfl, rfl, hb.sq, at1 _ _ _, Nat.le_of_ble_eq_true rfl, fun t nt => kk _ _ ⟨.ref t, [.inr "name", .inl x, .inl 0], same_new nt _, ⟨t, rfl, .inl upd_same⟩, rfl⟩⟩
    obtain ⟨v, k, s4, ⟨b, rfl, hb⟩, rfl⟩ := h
    have s24 := s3.trans s4
    have e4 := s24 _ _ e2
    have hk4 := hk.mono (Tp.of s24)
    have lkb : ks.length = bs.length := Paired.length hk
    refine ⟨_, rfl, _, rfl, p, _, _, _, rfl, SqL.of e4, nodes_is hk4, node_is ⟨_, rfl, hb⟩, deps_node ks, _, rfl, ite2 (fun cc => ?_) (fun cc => ?_)⟩
    · refine ⟨_, rfl, .inl ⟨rfl, _, SqL.of e4⟩, _, rfl, p, _, _, rfl, rfl, e4, small1 (by rw [List.length_map]; omega), ?_⟩
      have tp := tp_lst (ys := bs.map V.ref ++ [V.ref b]) e4
      refine ⟨bs ++ [b], ks ++ [k], _, _, b4, fun c o e => ?_, by rw [List.map_append]; exact upd_same, kys_app (hk4.mono tp) (ky_mono hb tp), by rw [List.length_append, List.length_singleton]; omega, fun _ => by rw [List.length_append, List.length_singleton]; omega, rfl⟩
      rw [upd_ne (fun z => by rw [z, np] at e; cases e)]; exact s24 _ _ (s2 _ _ e)
    · refine ⟨bs, ks, _, _, b4, s2.trans s24, e4, hk4, by omega, fun _ => ?_, rfl⟩
      rcases Nat.eq_zero_or_pos ks.length with hz | hz
      · exfalso
        rw [List.length_eq_zero_iff.mp hz] at cc
        exact cc rfl
      · exact hz
  · obtain ⟨bs, ks, y5, y6, b4, s2, e2, hk, hl, hp, rfl⟩ := h
    exact ⟨_, rfl, q _ p bs ks s2 e2 hk (hp m0) (by omega)⟩
end
end K34
set_option Elab.async false
set_option linter.all false
set_option maxRecDepth 100000
set_option maxHeartbeats 4000000
namespace K34
open PySem PySem.Spec PyProof.Rows L2
theorem mod2 (c x y : Int) : ∃ z : Int, atI [V.int x, .int y] (c % 2) = some (.int z) := by
  have h : c % 2 = 0 ∨ c % 2 = 1 := by omega
  rcases h with h | h <;> rw [h]
  · exact ⟨x, rfl⟩
  · exact ⟨y, rfl⟩
theorem kys_atI {K : PySem.W.Frag} {H : Hp} {ks : List Node} {bs : List Addr} (h : KysAt K H ks bs) {i : Int} (h0 : 0 ≤ i) (h1 : i < (ks.length : Int)) : ∃ (k : Node) (b : Addr), ks[i.toNat]? = some k ∧ atI (bs.map V.ref) i = some (.ref b) ∧ Ky K H b k ∧ k ∈ ks := by
  obtain ⟨j, rfl⟩ : ∃ j : Nat, i = (j : Int) := ⟨i.toNat, by omega⟩
  have lb : ks.length = bs.length := Paired.length h
  have hj : j < bs.length := by omega
  obtain ⟨k, ek, kk⟩ := paired_at h (List.getElem?_eq_getElem hj)
  exact ⟨k, bs[j], ek, atI_nat (by rw [List.getElem?_map, List.getElem?_eq_getElem hj]; rfl), kk, List.mem_of_getElem? ek⟩
section
variable {P : Program} {w : World} {K : PySem.W.Frag} {mg : Str → Option Value} {base : Heap} {f : Addr} {fd : FuncData} {n : Nat}
theorem ok_worths (F : Fun K "_law_worths" "_law_worths" s_worths f fd) (m_range : mg "range" = none) (m_len : mg "len" = none) (c_law_draw : Cl P w K mg base "_law_draw" n ["_law_script", "_law_k"] (spDraw K)) : FnOk P w K mg base CX0 (n + 1) f fd ["_law_script", "_law_at", "_law_pool_here"] (spWorths K) := by
  refine F.ok sc_worths (fun vs H Q E h => ?_) (fun cdv A outer s H vs Q E hr h => ?_)
  · obtain ⟨a, ns, z, p, bs, ks, rfl, _⟩ := h
    rfl
  obtain ⟨a, ns, z, p, bs, ks, rfl, hS, h63, z0, z1, ep, hks, hkl, q⟩ := h
  have sc := sc_worths
  have hu9 : (A.deeper (envOfC "_law_worths" (defScope s_worths) s.heap.objs.size f cdv)).units + 1 + 9 < cLine := by have := hr.units; omega
  have hu : (A.deeper (envOfC "_law_worths" (defScope s_worths) s.heap.objs.size f cdv)).units + 1 < cLine := by have := hr.units; omega
  have huz : (A.deeper (envOfC "_law_worths" (defScope s_worths) s.heap.objs.size f cdv)).units < cLine := by have := hr.units; omega
  refine ⟨_, (@pss_cons _ _ _ _ _ (@ps_set _ _ 3 _ _ _ _ sc.nd rfl (Or.inl rfl) (pe_dispZ huz (pe_tup (pa_cons pe_str pa_nil)) pe_int) rfl (by first | exact .inl rfl | exact .inr rfl))
      (@pss_cons _ _ _ _ _ (ps_for PassesOwn.never rfl (pi_range1 rfl m_range (pa_cons (pe_callB call_len_seq rfl m_len PySem.boot_len (pa_cons (pv 2) pa_nil)) pa_nil)) (pg_name (i := 4) sc.nd rfl (Or.inl rfl)) (@pss_cons _ _ _ _ _ (ps_set (i := 5) sc.nd rfl (Or.inl rfl) (pe_cl c_law_draw hr rfl (pa_cons (pv 0) (pa_cons (pe_op op_add (pv 1) (pv 4)) pa_nil))))
      (pss_one (ps_if (pt_cmpR (op_neD (n := 9) hu9) (pe_ix ix_list (pv 2) (pv 4) (fun _ _ => rfl)) (pe_tup (pa_cons pe_str pa_nil)) (nomark _)) (pss_one (ps_zput hu (pv 3) (pe_ix ix_list (pv 2) (pv 4) (fun _ _ => rfl)) (pe_ix ix_list (pe_lst (pa_cons (pe_op op_sub (pe_op op_mod (pe_op op_fdiv (pv 5) pe_int) pe_int) pe_int) (pa_cons (pe_op op_sub (pe_op op_mod (pe_op op_fdiv (pv 5) pe_int) (pe_op op_add (pe_op op_mul pe_int (pe_op op_pow pe_int pe_int)) pe_int)) (pe_op op_pow pe_int pe_int)) pa_nil))) (pe_op op_mod (pv 5) pe_int) (fun _ _ => rfl)) rfl)) pss_nil))))
      (pss_one (ps_ret (pv 3))))), ?_⟩
  have lkb : ks.length = bs.length := Paired.length hks
  refine fun d nd => ⟨Nat.le_of_ble_eq_true rfl, fun t nt => ⟨t, [.inr "zero"], rfl, ?_, .inl upd_same, fun H3 k3 d3 => ?_⟩⟩
  · rw [upd_ne (fun z => by rw [← z, upd_same] at nt; cases nt)]; exact upd_same
  have s3 : Same H H3 := fun c o e => by
    have h1 : c ≠ d := fun z => by rw [z, nd] at e; cases e
    rw [k3 c h1, upd_ne (fun z => by rw [← z, upd_ne h1, e] at nt; cases nt), upd_ne h1]; exact e
  refine ⟨_, rfl, p, _, rfl, .inl (SqL.of (s3 _ _ ep)), _, rfl, by rw [List.length_map]; omega, by rw [List.length_map]; omega, ?_⟩
  rw [List.length_map]
  refine for_range (n := bs.length) (fun i σ H' => ∃ (kv : List (Node × V)) (y4 y5 : Option V), Same H H' ∧ DW K H' d kv ∧ kv.length ≤ 1 + i ∧ (∀ k v, valV kv k = some v → ∃ x : Int, v = .int x) ∧ ([.inr "zero"] ∈ Keys kv) ∧ (∀ k ∈ ks.take i, k ∈ Keys kv) ∧ σ = [some (.ref a), some (.int z), some (.ref p), some (.ref d), y4, y5])
    ⟨_, _, _, s3, d3, Nat.le_refl _, fun k v e => ?_, ?_, fun k h => by simp at h, rfl⟩ (fun i σ H4 hi h => ?_) (fun σ H4 h => ?_)
  · by_cases hk : k = [.inr "zero"]
    · rw [hk, valV_pos rfl] at e; cases e; exact ⟨0, rfl⟩
    · rw [valV_neg (fun z => hk z.symm)] at e; cases e
  · exact List.mem_cons_self
  · obtain ⟨kv, y4, y5, s4, d4, l4, v4, z4, m4, rfl⟩ := h
    have ep4 := s4 _ _ ep
    have hk4 := hks.mono (Tp.of s4)
    refine ⟨_, rfl, _, rfl, _, rfl, _, _, rfl, rfl, a, ns, _, rfl, s4.seq hS, h63, by omega, by omega, fun c => ?_⟩
    obtain ⟨k, b, ek, eb, kb, hkm⟩ := kys_atI hk4 (i := 0 + (i : Int)) (by omega) (by omega)
    have ei : (0 + (i : Int)).toNat = i := by omega
    rw [ei] at ek
    have etk : ks.take (i + 1) = ks.take i ++ [k] := by rw [List.take_add_one, ek]; rfl
    refine ⟨_, rfl, _, rfl, p, _, _, _, rfl, rfl, SqL.of ep4, eb, Nat.le_of_ble_eq_true rfl, fun t2 nt2 => ?_⟩
    have u5 := same_new nt2 (.tup [.str "zero"])
    have kz5 : Ky K (upd H4 t2 (.tup [.str "zero"])) t2 [.inr "zero"] := .inl upd_same
    have s5 := s4.trans u5
    have d5 := dw_keep d4 (u5 d)
    have kb5 := ky_mono kb (Tp.of u5)
    have ep5 := u5 _ _ ep4
    generalize upd H4 t2 (.tup [.str "zero"]) = H5 at u5 kz5 s5 d5 kb5 ep5
    refine ⟨k.map kD, ([.inr "zero"] : Node).map kD, node_is ⟨_, rfl, kb5⟩, node_is (k := [.inr "zero"]) ⟨_, rfl, kz5⟩, by rw [dep_kD]; decide, _, rfl, ?_⟩
    rw [beq_node]
    by_cases hz : k = [.inr "zero"]
    · rw [decide_eq_true hz]
      refine iteF ⟨kv, _, _, s5, d5, by omega, v4, z4, fun k' h => ?_, rfl⟩
      rw [etk] at h
      rcases List.mem_append.mp h with h | h
      · exact m4 k' h
      · rw [List.mem_singleton.mp h, hz]; exact z4
    · rw [decide_eq_false hz]
      refine iteT ?_
      refine ⟨_, rfl, _, _, rfl, rfl, ⟨by decide, by decide⟩, _, _, rfl, rfl, (by decide : (0 : Int) < 13), _, _, rfl, rfl, _, rfl, _, _, rfl, rfl, ⟨by decide, by decide⟩, _, _, rfl, rfl, ⟨by decide, by decide, by decide⟩, _, _, rfl, rfl, .inl ⟨by decide, by decide⟩, _, _, rfl, rfl, _, _, rfl, rfl, (by decide : (0 : Int) < 2 * 10 ^ (11 : Int).toNat + 1), _, _, rfl, rfl, ⟨by decide, by decide, by decide⟩, _, _, rfl, rfl, Nat.le_of_ble_eq_true rfl, fun pl npl => ?_⟩
      obtain ⟨x, ex⟩ := mod2 c (c / 2 % 13 - 6) (c / 2 % (2 * 10 ^ (11 : Int).toNat + 1) - 10 ^ (11 : Int).toNat)
      have u6 := same_new npl (.lst [.int (c / 2 % 13 - 6), .int (c / 2 % (2 * 10 ^ (11 : Int).toNat + 1) - 10 ^ (11 : Int).toNat)])
      refine ⟨_, rfl, _, _, rfl, rfl, (by decide : (0 : Int) < 2), pl, _, _, _, rfl, rfl, SqL.of upd_same, ex, ?_⟩
      refine ⟨_, rfl, _, rfl, _, rfl, p, _, _, _, rfl, rfl, SqL.of (u6 _ _ ep5), eb, d, kv, b, k, rfl, rfl, dw_keep d5 (u6 d), ky_mono kb5 (Tp.of u6), by rw [sizeLine_eq]; omega, fun H7 k7 e7 d7 => ?_⟩
      have l7 := length_putK kv k (.int x)
      refine ⟨_, _, _, fun c o e => ?_, d7, by omega, fun k' v' e' => ?_, key_put.mpr (.inr z4), fun k' h => ?_, rfl⟩
      · have h1 : c ≠ d := fun z => by rw [z, nd] at e; cases e
        exact k7 c o h1 (u6 _ _ (s5 _ _ e))
      · rw [valV_put] at e'
        by_cases hh : k' = k
        · rw [if_pos hh] at e'; cases e'; exact ⟨x, rfl⟩
        · rw [if_neg hh] at e'; exact v4 k' v' e'
      · rw [etk] at h
        rcases List.mem_append.mp h with h | h
        · exact key_put.mpr (.inr (m4 k' h))
        · exact key_put.mpr (.inl (List.mem_singleton.mp h))
  · obtain ⟨kv, y4, y5, s4, d4, l4, v4, z4, m4, rfl⟩ := h
    refine ⟨_, rfl, q _ d kv (fun k => match valV kv k with | some (.int x) => x | _ => 0) s4 d4 (fun k hk => ?_) v4 (by omega)⟩
    rw [← lkb, List.take_of_length_le (Nat.le_refl _)] at m4
    obtain ⟨v, e⟩ := Option.isSome_iff_exists.mp (key_iff.mp (m4 k hk))
    obtain ⟨x, rfl⟩ := v4 k v e
    rw [e]
end
end K34
set_option Elab.async false
set_option linter.all false
set_option maxRecDepth 100000
set_option maxHeartbeats 4000000
namespace K34
open PySem PySem.Spec PyProof.Rows L2
noncomputable abbrev Tb := Node → Node → Option Int
noncomputable def mid (gs : List Fct) : List Node := gs.dropLast.map Fct.b
noncomputable def Real (fs : List Fct) (T : Tb) : Prop := ∀ a b x, T a b = some x → ∃ gs, (∀ g ∈ gs, g ∈ fs) ∧ RoadL a gs b ∧ sumF gs = x
noncomputable def Low (T T' : Tb) : Prop := ∀ a b x, T a b = some x → ∃ x', T' a b = some x' ∧ x' ≤ x
theorem Low.refl (T : Tb) : Low T T := fun a b x h => ⟨x, h, Int.le_refl _⟩
theorem Low.trans {T T1 T2 : Tb} (h : Low T T1) (k : Low T1 T2) : Low T T2 := fun a b x e => by
  obtain ⟨y, h1, h2⟩ := h a b x e
  obtain ⟨z, h3, h4⟩ := k a b y h1
  exact ⟨z, h3, by omega⟩
noncomputable def Up (fs : List Fct) (ns S : List Node) (T : Tb) : Prop := ∀ a b gs, a ∈ ns → (∀ g ∈ gs, g ∈ fs) → RoadL a gs b → (mid gs).Nodup → (∀ k ∈ mid gs, k ∈ S) → ∃ x, T a b = some x ∧ x ≤ sumF gs
theorem RoadL.last : ∀ {l : List Fct} {g : Fct} {a m : Node}, RoadL a (l ++ [g]) m → m = g.b
  | [], g, a, m, h => by
    have h2 : g.b = m := h.2
    exact h2.symm
  | f :: l, g, a, m, h => RoadL.last (l := l) h.2
theorem snoc_ex {gs : List Fct} (h : gs ≠ []) : ∃ l g, gs = l ++ [g] ∧ gs.dropLast = l := by
  refine ⟨gs.dropLast, gs.getLast h, (List.dropLast_concat_getLast h).symm, rfl⟩
theorem map_split {k : Node} : ∀ {l : List Fct}, k ∈ l.map Fct.b → ∃ l1 g l2, l = l1 ++ g :: l2 ∧ g.b = k
  | [], h => by cases h
  | f :: l, h => by
    by_cases e : f.b = k
    · exact ⟨[], f, l, rfl, e⟩
    · have h : k ∈ l.map Fct.b := by
        rcases List.mem_cons.mp h with h | h
        · exact absurd h.symm e
        · exact h
      obtain ⟨l1, g, l2, rfl, e2⟩ := map_split h
      exact ⟨f :: l1, g, l2, rfl, e2⟩
theorem mid_snoc (l : List Fct) (g : Fct) : mid (l ++ [g]) = l.map Fct.b := by unfold mid; rw [List.dropLast_concat]
theorem Up.step {fs : List Fct} {ns S : List Node} {T0 T : Tb} {k : Node} (h : Up fs ns S T0) (hn : ∀ f ∈ fs, f.a ∈ ns ∧ f.b ∈ ns) (hk : k ∈ ns) (hl : Low T0 T) (hc : ∀ a ∈ ns, ∀ b ∈ ns, ∀ x y, T0 a k = some x → T0 k b = some y → ∃ z, T a b = some z ∧ z ≤ x + y) : Up fs ns (k :: S) T := by
  intro a b gs ha hg hr hnd hm
  by_cases hkm : k ∈ mid gs
  · have hne : gs ≠ [] := fun z => by rw [z] at hkm; cases hkm
    obtain ⟨l, g, rfl, _⟩ := snoc_ex hne
    rw [mid_snoc] at hkm hnd hm
    obtain ⟨l1, f, l2, rfl, ef⟩ := map_split hkm
    have eg : (l1 ++ f :: l2) ++ [g] = (l1 ++ [f]) ++ (l2 ++ [g]) := by simp
    rw [eg] at hr hg ⊢
    obtain ⟨m, r1, r2⟩ := hr.split
    have em : m = k := r1.last.trans ef
    rw [em] at r1 r2
    rw [List.map_append, List.map_cons, ef, List.nodup_append, List.nodup_cons] at hnd
    have hb : b ∈ ns := by rw [r2.last]; exact (hn g (hg g (by simp))).2
    have n1 : k ∉ l1.map Fct.b := fun z => hnd.2.2 k z k List.mem_cons_self rfl
    obtain ⟨x, hx, hx2⟩ := h a k (l1 ++ [f]) ha (fun y hy => hg y (List.mem_append_left _ hy)) r1 (by rw [mid_snoc]; exact hnd.1) (fun y hy => by
      rw [mid_snoc] at hy
      rcases List.mem_cons.mp (hm y (by rw [List.map_append]; exact List.mem_append_left _ hy)) with z | z
      · rw [z] at hy; exact absurd hy n1
      · exact z)
    obtain ⟨y, hy, hy2⟩ := h k b (l2 ++ [g]) hk (fun y hy => hg y (List.mem_append_right _ hy)) r2 (by rw [mid_snoc]; exact hnd.2.1.2) (fun y hy => by
      rw [mid_snoc] at hy
      rcases List.mem_cons.mp (hm y (by rw [List.map_append, List.map_cons]; exact List.mem_append_right _ (List.mem_cons_of_mem _ hy))) with z | z
      · rw [z] at hy; exact absurd hy hnd.2.1.1
      · exact z)
    obtain ⟨z, hz, hz2⟩ := hc a ha b hb x y hx hy
    exact ⟨z, hz, by rw [sumF_app]; omega⟩
  · obtain ⟨x, hx, hx2⟩ := h a b gs ha hg hr hnd fun y hy => by
      rcases List.mem_cons.mp (hm y hy) with z | z
      · rw [z] at hy; exact absurd hy hkm
      · exact z
    obtain ⟨x', h1, h2⟩ := hl a b x hx
    exact ⟨x', h1, by omega⟩
theorem up_base {fs : List Fct} {ns : List Node} {T : Tb} (h0 : ∀ a ∈ ns, ∃ x, T a a = some x ∧ x ≤ 0) (h1 : ∀ f ∈ fs, ∃ x, T f.a f.b = some x ∧ x ≤ f.c) : Up fs ns [] T := by
  intro a b gs ha hg hr _ hm
  rcases gs with _ | ⟨g, gs⟩
  · have e : a = b := hr
    rw [← e]; exact h0 a ha
  · cases gs with
    | nil =>
      have e2 : g.b = b := hr.2
      have e1 : g.a = a := hr.1
      obtain ⟨x, hx, hx2⟩ := h1 g (hg g List.mem_cons_self)
      rw [e1, e2] at hx
      exact ⟨x, hx, by show x ≤ g.c + 0; omega⟩
    | cons f gs => exact absurd (hm g.b (by unfold mid; rw [List.dropLast_cons_of_ne_nil (by simp)]; exact List.mem_cons_self)) List.not_mem_nil
structure TabOk (fs : List Fct) (ns : List Node) (T : Tb) : Prop where
  real : Real fs T
  up : ∀ a b gs, a ∈ ns → (∀ g ∈ gs, g ∈ fs) → RoadL a gs b → (mid gs).Nodup → ∃ x, T a b = some x ∧ x ≤ sumF gs
theorem dup_split : ∀ {l : List Fct}, ¬ (l.map Fct.b).Nodup → ∃ l1 g l2 g' l3, l = l1 ++ g :: (l2 ++ g' :: l3) ∧ g.b = g'.b
  | [], h => absurd List.nodup_nil h
  | f :: l, h => by
    rw [List.map_cons, List.nodup_cons] at h
    by_cases e : f.b ∈ l.map Fct.b
    · obtain ⟨l1, g, l2, rfl, e2⟩ := map_split e
      exact ⟨[], f, l1, g, l2, rfl, e2.symm⟩
    · obtain ⟨l1, g, l2, g', l3, rfl, e2⟩ := dup_split (l := l) fun z => h ⟨e, z⟩
      exact ⟨f :: l1, g, l2, g', l3, rfl, e2⟩
theorem simple_road {fs : List Fct} {num : Node → Int} (hk : ∀ f ∈ fs, num f.a - num f.b ≤ f.c) : ∀ (n : Nat) {gs : List Fct} {a b : Node}, gs.length ≤ n → (∀ g ∈ gs, g ∈ fs) → RoadL a gs b → ∃ hs, (∀ g ∈ hs, g ∈ fs) ∧ RoadL a hs b ∧ (mid hs).Nodup ∧ sumF hs ≤ sumF gs := by
  intro n
  induction n with
  | zero =>
    intro gs a b hl hg hr
    obtain rfl := List.length_eq_zero_iff.mp (by omega : gs.length = 0)
    exact ⟨[], hg, hr, List.nodup_nil, Int.le_refl _⟩
  | succ n ih =>
    intro gs a b hl hg hr
    by_cases hnd : (mid gs).Nodup
    · exact ⟨gs, hg, hr, hnd, Int.le_refl _⟩
    · have hne : gs ≠ [] := fun z => by rw [z] at hnd; exact hnd List.nodup_nil
      obtain ⟨l, q, rfl, _⟩ := snoc_ex hne
      rw [mid_snoc] at hnd
      obtain ⟨l1, g, l2, g', l3, rfl, e⟩ := dup_split hnd
      have eg : (l1 ++ g :: (l2 ++ g' :: l3)) ++ [q] = (l1 ++ [g]) ++ ((l2 ++ [g']) ++ (l3 ++ [q])) := by simp
      rw [eg] at hr hg hl ⊢
      obtain ⟨m, r1, r2⟩ := hr.split
      obtain ⟨m2, r3, r4⟩ := r2.split
      have em : m2 = m := r3.last.trans (e.symm.trans r1.last.symm)
      rw [em] at r3 r4
      have hc := r3.keep fun x hx => hk x (hg x (List.mem_append_right _ (List.mem_append_left _ hx)))
      obtain ⟨hs, h1, h2, h3, h4⟩ := ih (gs := (l1 ++ [g]) ++ (l3 ++ [q])) (by
        rw [List.length_append, List.length_append, List.length_append, List.length_append, List.length_append, List.length_singleton, List.length_singleton, List.length_singleton] at hl
        rw [List.length_append, List.length_append, List.length_append, List.length_singleton, List.length_singleton]
        omega) (fun x hx => hg x (by
          rcases List.mem_append.mp hx with hx | hx
          · exact List.mem_append_left _ hx
          · exact List.mem_append_right _ (List.mem_append_right _ hx))) (r1.app r4)
      refine ⟨hs, h1, h2, h3, ?_⟩
      have e5 := sumF_app (l1 ++ [g]) ((l2 ++ [g']) ++ (l3 ++ [q]))
      have e6 := sumF_app (l2 ++ [g']) (l3 ++ [q])
      have e7 := sumF_app (l1 ++ [g]) (l3 ++ [q])
      omega
theorem TabOk.least {fs : List Fct} {ns : List Node} {T : Tb} (h : TabOk fs ns T) {num : Node → Int} (hk : ∀ f ∈ fs, num f.a - num f.b ≤ f.c) {a b : Node} (ha : a ∈ ns) {r : V} (hr : LeastIs fs a b r) : r = match T a b with | some x => .int x | none => .non := by
  rcases hr with ⟨rfl, hno⟩ | ⟨x, rfl, ⟨gs, g1, g2, g3⟩, hmin⟩
  · cases e : T a b with
    | none => rfl
    | some x =>
      obtain ⟨gs, g1, g2, _⟩ := h.real a b x e
      exact absurd g2 (hno gs g1)
  · obtain ⟨hs, h1, h2, h3, h4⟩ := simple_road hk gs.length (Nat.le_refl _) g1 g2
    obtain ⟨y, e, hy⟩ := h.up a b hs ha h1 h2 h3
    obtain ⟨ks, k1, k2, k3⟩ := h.real a b y e
    have := hmin ks k1 k2
    rw [e]
    show V.int x = V.int y
    rw [show x = y by omega]
noncomputable def nD (k : Node) : D := .tup (k.map keyD)
theorem keysD_inj : ∀ {a b : Node}, a.map keyD = b.map keyD → a = b
  | [], [], _ => rfl
  | [], _ :: _, e => by simp at e
  | _ :: _, [], e => by simp at e
  | x :: xs, y :: ys, e => by
    rw [List.map_cons, List.map_cons] at e
    injection e with e1 e2
    rw [keyD_inj e1, keysD_inj e2]
noncomputable def pK (a b : Node) : List D := [nD a, nD b]
theorem pK_inj {a b c d : Node} : pK a b = pK c d ↔ a = c ∧ b = d := by
  constructor
  · intro h
    unfold pK nD at h
    injection h with h1 h2
    injection h1 with h1
    injection h2 with h2 _
    injection h2 with h2
    exact ⟨keysD_inj h1, keysD_inj h2⟩
  · rintro ⟨rfl, rfl⟩; rfl
theorem dep_keys : ∀ k : Node, D.depL (k.map keyD) = 0
  | [] => by rw [List.map_nil]; unfold D.depL; rfl
  | x :: k => by
    rw [List.map_cons, show D.depL (keyD x :: k.map keyD) = max (keyD x).dep (D.depL (k.map keyD)) by conv => lhs; unfold D.depL, dep_keys k]
    cases x with
    | inl i => show max (D.dep (.int i)) 0 = 0; unfold D.dep; rfl
    | inr x => show max (D.dep (.str x)) 0 = 0; unfold D.dep; rfl
theorem dep_pK (a b : Node) : D.depL (pK a b) ≤ 3 := by
  have d1 : ∀ k : Node, (nD k).dep = 1 := fun k => by
    have : D.dep (nD k) = 1 + D.depL (k.map keyD) := by unfold nD; conv => lhs; unfold D.dep
    rw [this, dep_keys]
  have d2 : ∀ (d : D) (l : List D), D.depL (d :: l) = max d.dep (D.depL l) := fun d l => by conv => lhs; unfold D.depL
  have d3 : D.depL [] = 0 := by unfold D.depL; rfl
  unfold pK
  rw [d2, d2, d3, d1, d1]
  decide
theorem kyN_pair {K : PySem.W.Frag} {H : Hp} {t b1 b2 : Addr} {a b : Node} (h : H t = some (.tup [.ref b1, .ref b2])) (h1 : Ky K H b1 a) (h2 : Ky K H b2 b) : KyN K H t (pK a b) :=
  ⟨trd_tup h (trl_cons (trd_ky h1) (trl_cons (trd_ky h2) trl_nil)), dep_pK a b⟩
noncomputable def TIs (kv : List (List D × V)) (T : Tb) : Prop := ∀ a b, valV kv (pK a b) = (T a b).map V.int
noncomputable def putT (T : Tb) (a b : Node) (c : Int) : Tb := fun x y => if x = a ∧ y = b then some c else T x y
theorem TIs.put {kv : List (List D × V)} {T : Tb} (h : TIs kv T) (a b : Node) (c : Int) : TIs (putK kv (pK a b) (.int c)) (putT T a b c) := fun x y => by
  rw [valV_put]
  unfold putT
  by_cases e : x = a ∧ y = b
  · rw [if_pos (pK_inj.mpr e), if_pos e]; rfl
  · rw [if_neg (fun z => e (pK_inj.mp z)), if_neg e]; exact h x y
theorem putT_at (T : Tb) (a b : Node) (c : Int) : putT T a b c a b = some c := if_pos ⟨rfl, rfl⟩
theorem putT_low {T : Tb} {a b : Node} {c : Int} (h : ∀ x, T a b = some x → c ≤ x) : Low T (putT T a b c) := fun x y z e => by
  unfold putT
  by_cases q : x = a ∧ y = b
  · rw [if_pos q]
    rw [q.1, q.2] at e
    exact ⟨c, rfl, h z e⟩
  · rw [if_neg q]; exact ⟨z, e, Int.le_refl _⟩
theorem Real.put {fs : List Fct} {T : Tb} (h : Real fs T) {a b : Node} {c : Int} (hc : ∃ gs, (∀ g ∈ gs, g ∈ fs) ∧ RoadL a gs b ∧ sumF gs = c) : Real fs (putT T a b c) := fun x y z e => by
  unfold putT at e
  by_cases q : x = a ∧ y = b
  · rw [if_pos q] at e
    cases e
    rw [q.1, q.2]; exact hc
  · rw [if_neg q] at e; exact h x y z e
end K34
set_option Elab.async false
set_option linter.all false
set_option maxRecDepth 100000
set_option maxHeartbeats 4000000
namespace K34
open PySem PySem.Spec PyProof.Rows L2
noncomputable abbrev s_table : Stmt := top 20
theorem sc_table : FnScope ["_law_nodes", "_law_facts_here", "_law_table_here", "_law_node_here", "_law_k", "_law_a", "_law_b", "_law_c_here"] ["_law_nodes", "_law_facts_here"] (defScope s_table) := ⟨rfl, rfl, rfl, by decide +kernel, rfl, by decide +kernel, by decide +kernel⟩
theorem ifs_bh {c : TT} {t u : TS} {D : Ends} {σ : L2.St} {H : Hp} (b : Bool) (hc : ∀ Q : Bool → Hp → Prop, (∀ H', Same H H' → Q b H') → c σ H Q) (h : ∀ H', Same H H' → if b = true then t D σ H' else u D σ H') : tIfS c t u D σ H := hc _ h
theorem nd_subG {α : Type} : ∀ {l m : List α}, l.Nodup → (∀ x ∈ l, x ∈ m) → l.length ≤ m.length
  | [], m, _, _ => Nat.zero_le _
  | x :: l, m, h, q => by
    rw [List.nodup_cons] at h
    obtain ⟨m1, m2, rfl⟩ := List.append_of_mem (q x List.mem_cons_self)
    have h1 := nd_subG (m := m1 ++ m2) h.2 fun y hy => by
      rcases List.mem_append.mp (q y (List.mem_cons_of_mem _ hy)) with z | z
      · exact List.mem_append_left _ z
      · rcases List.mem_cons.mp z with z | z
        · rw [z] at hy; exact absurd hy h.1
        · exact List.mem_append_right _ z
    rw [List.length_append] at h1
    rw [List.length_cons, List.length_append, List.length_cons]
    omega
theorem len_pairs {n : Nat} (ms : List Node) (hm : ms.length = n) : ∀ ns : List Node, (ns.flatMap fun a => ms.map fun b => pK a b).length = ns.length * n
  | [] => by simp
  | a :: ns => by rw [List.flatMap_cons, List.length_append, List.length_map, hm, len_pairs ms hm ns, List.length_cons, Nat.succ_mul]; omega
structure TW (K : PySem.W.Frag) (H : Hp) (d : Addr) (kv : List (List D × V)) (ns : List Node) (T : Tb) : Prop where
  dw : DNW K H d kv
  ti : TIs kv T
  nd : (kv.map (·.1)).Nodup
  ks : ∀ k ∈ kv.map (·.1), ∃ a ∈ ns, ∃ b ∈ ns, k = pK a b
theorem TW.len {K : PySem.W.Frag} {H : Hp} {d : Addr} {kv : List (List D × V)} {ns : List Node} {T : Tb} (h : TW K H d kv ns T) (hn : ns.length ≤ 40) : kv.length ≤ 1600 := by
  have h1 := nd_subG (m := ns.flatMap fun a => ns.map fun b => pK a b) h.nd fun k hk => by
    obtain ⟨a, ha, b, hb, rfl⟩ := h.ks k hk
    exact List.mem_flatMap.mpr ⟨a, ha, List.mem_map.mpr ⟨b, hb, rfl⟩⟩
  rw [len_pairs ns rfl ns, List.length_map] at h1
  have h2 : ns.length * ns.length ≤ 40 * 40 := Nat.mul_le_mul hn hn
  omega
theorem dnw_keep {K : PySem.W.Frag} {H H' : Hp} {d : Addr} {kv : List (List D × V)} (h : DNW K H d kv) (e : ∀ o, H d = some o → H' d = some o) : DNW K H' d kv := let ⟨zs, h1, h2⟩ := h; ⟨zs, e _ h1, h2⟩
theorem TW.same {K : PySem.W.Frag} {H H' : Hp} {d : Addr} {kv : List (List D × V)} {ns : List Node} {T : Tb} (h : TW K H d kv ns T) (s : Same H H') : TW K H' d kv ns T := ⟨dnw_keep h.dw (s d), h.ti, h.nd, h.ks⟩
theorem TW.put {K : PySem.W.Frag} {H H' : Hp} {d : Addr} {kv : List (List D × V)} {ns : List Node} {T : Tb} (h : TW K H d kv ns T) {a b : Node} {c : Int} (ha : a ∈ ns) (hb : b ∈ ns) (hd : DNW K H' d (putK kv (pK a b) (.int c))) : TW K H' d (putK kv (pK a b) (.int c)) ns (putT T a b c) := by
  refine ⟨hd, h.ti.put a b c, ?_, fun k hk => ?_⟩
  · cases e : valV kv (pK a b) with
    | none => exact nd_putK _ h.nd e
    | some u =>
      have : (putK kv (pK a b) (.int c)).map (·.1) = kv.map (·.1) := by
        unfold putK
        rw [valV_any, e, Option.isSome_some, if_pos rfl, List.map_map]
        refine List.map_congr_left fun p _ => ?_
        show (if p.1 = pK a b then (p.1, V.int c) else p).1 = p.1
        split <;> rfl
      rw [this]; exact h.nd
  · obtain ⟨p, hp, rfl⟩ := List.mem_map.mp hk
    cases e : valV kv (pK a b) with
    | none =>
      rw [putK_new _ e] at hp
      rcases List.mem_append.mp hp with hp | hp
      · exact h.ks _ (List.mem_map.mpr ⟨p, hp, rfl⟩)
      · rw [List.mem_singleton.mp hp]; exact ⟨a, ha, b, hb, rfl⟩
    | some u =>
      unfold putK at hp
      rw [valV_any, e, Option.isSome_some, if_pos rfl] at hp
      obtain ⟨p0, hp0, rfl⟩ := List.mem_map.mp hp
      have := h.ks _ (List.mem_map.mpr ⟨p0, hp0, rfl⟩)
      by_cases z : p0.1 = pK a b
      · rw [if_pos z]; exact this
      · rw [if_neg z]; exact this
noncomputable def lowT (T : Tb) (a b : Node) (c : Int) : Bool := match T a b with | none => true | some x => decide (c < x)
noncomputable def spTable (K : PySem.W.Frag) : Sp := fun vs H Q _ => ExQ Q (fun (ln : Addr) Q => ExQ Q (fun (lf : Addr) Q => ExQ Q (fun (bs : List Addr) Q => ExQ Q (fun (ns : List Node) Q => ExQ Q (fun (xs : List V) Q => ExQ Q (fun (fs : List Fct) Q => vs = [.ref ln, .ref lf] ∧ H ln = some (.lst (bs.map V.ref)) ∧ KysAt K H ns bs ∧ ns.length ≤ 40 ∧ H lf = some (.lst xs) ∧ FactsAt K H fs xs ∧ (∀ f ∈ fs, f.a ∈ ns ∧ f.b ∈ ns) ∧
  ∀ (H' : Hp) (d : Addr) (kv : List (List D × V)) (T : Tb), Same H H' → H d = none → TW K H' d kv ns T → TabOk fs ns T → Q (.ref d) H'))))))
theorem kys_get {K : PySem.W.Frag} {H : Hp} {ks : List Node} {bs : List Addr} (h : KysAt K H ks bs) {i : Nat} {y : V} (e : (bs.map V.ref)[i]? = some y) : ∃ (k : Node) (b : Addr), ks[i]? = some k ∧ y = .ref b ∧ Ky K H b k ∧ k ∈ ks := by
  rw [List.getElem?_map] at e
  obtain ⟨b, eb, rfl⟩ := Option.map_eq_some_iff.mp e
  obtain ⟨k, ek, kk⟩ := paired_at h eb
  exact ⟨k, b, ek, rfl, kk, List.mem_of_getElem? ek⟩
section
variable {P : Program} {w : World} {K : PySem.W.Frag} {mg : Str → Option Value} {base : Heap} {f : Addr} {fd : FuncData} {n : Nat}
theorem ok_table (F : Fun K "_law_table" "_law_table" s_table f fd) : FnOk P w K mg base CX0 (n + 1) f fd ["_law_nodes", "_law_facts_here"] (spTable K) := by
  refine F.ok sc_table (fun vs H Q E h => ?_) (fun cdv A outer s H vs Q E hr h => ?_)
  · obtain ⟨ln, lf, bs, ns, xs, fs, rfl, _⟩ := h
    rfl
  obtain ⟨ln, lf, bs, ns, xs, fs, rfl, el, hks, hn40, ef, hF, hfn, q⟩ := h
  have sc := sc_table
  have hun : (A.deeper (envOfC "_law_table" (defScope s_table) s.heap.objs.size f cdv)).units + 5 < cLine := by have := hr.units; omega
  refine ⟨_, (@pss_cons _ _ _ _ _ (ps_set (i := 2) sc.nd rfl (Or.inl rfl) pe_dnewN)
      (@pss_cons _ _ _ _ _ (ps_for PassesOwn.never rfl (pi_list (pv 0)) (pg_name (i := 3) sc.nd rfl (Or.inl rfl)) (pss_one (ps_nput hun (pv 2) (pe_tup (pa_cons (pv 3) (pa_cons (pv 3) pa_nil))) pe_int rfl)))
      (@pss_cons _ _ _ _ _ (ps_for PassesOwn.never rfl (pi_list (pv 1)) (pg_tup rfl (pgs_cons (pg_name (i := 5) sc.nd rfl (Or.inl rfl)) (pgs_cons (pg_name (i := 6) sc.nd rfl (Or.inl rfl)) (pgs_cons (pg_name (i := 7) sc.nd rfl (Or.inl rfl)) pgs_nil)))) (pss_one (ps_if (PW.pt (pw_or (pt_cmp (pc_nnotin hun (pe_tup (pa_cons (pv 5) (pa_cons (pv 6) pa_nil))) (pv 2))) (pw_or1 (pt_cmpR op_lt (pv 7) (pe_nget hun (pv 2) (pe_tup (pa_cons (pv 5) (pa_cons (pv 6) pa_nil))) (fun _ _ => rfl)) (nomark _))))) (pss_one (ps_nput hun (pv 2) (pe_tup (pa_cons (pv 5) (pa_cons (pv 6) pa_nil))) (pv 7) rfl)) pss_nil)))
      (@pss_cons _ _ _ _ _ (ps_for PassesOwn.never rfl (pi_list (pv 0)) (pg_name (i := 4) sc.nd rfl (Or.inl rfl)) (pss_one (ps_for PassesOwn.never rfl (pi_list (pv 0)) (pg_name (i := 5) sc.nd rfl (Or.inl rfl)) (pss_one (ps_for PassesOwn.never rfl (pi_list (pv 0)) (pg_name (i := 6) sc.nd rfl (Or.inl rfl)) (pss_one (ps_if (PW.pt (pw_and (pt_cmp (pc_nin hun (pe_tup (pa_cons (pv 5) (pa_cons (pv 4) pa_nil))) (pv 2))) (pw_and1 (pt_cmp (pc_nin hun (pe_tup (pa_cons (pv 4) (pa_cons (pv 6) pa_nil))) (pv 2)))))) (@pss_cons _ _ _ _ _ (ps_set (i := 7) sc.nd rfl (Or.inl rfl) (pe_op op_add (pe_nget hun (pv 2) (pe_tup (pa_cons (pv 5) (pa_cons (pv 4) pa_nil))) (fun _ _ => rfl)) (pe_nget hun (pv 2) (pe_tup (pa_cons (pv 4) (pa_cons (pv 6) pa_nil))) (fun _ _ => rfl))))
      (pss_one (ps_if (PW.pt (pw_or (pt_cmp (pc_nnotin hun (pe_tup (pa_cons (pv 5) (pa_cons (pv 6) pa_nil))) (pv 2))) (pw_or1 (pt_cmpR op_lt (pv 7) (pe_nget hun (pv 2) (pe_tup (pa_cons (pv 5) (pa_cons (pv 6) pa_nil))) (fun _ _ => rfl)) (nomark _))))) (pss_one (ps_nput hun (pv 2) (pe_tup (pa_cons (pv 5) (pa_cons (pv 6) pa_nil))) (pv 7) rfl)) pss_nil))) pss_nil)))))))
      (pss_one (ps_ret (pv 2))))))), ?_⟩
  have lkb : ns.length = bs.length := Paired.length hks
  refine fun d nd => ?_
  have u1 := same_new nd (.dN [] [])
  have w1 : TW K (upd H d (.dN [] [])) d [] ns (fun _ _ => none) := ⟨⟨[], upd_same, fun _ h => absurd h List.not_mem_nil, fun _ h => absurd h List.not_mem_nil⟩, fun _ _ => rfl, List.nodup_nil, fun _ h => absurd h List.not_mem_nil⟩
  generalize upd H d (.dN [] []) = H1 at u1 w1
  have ned : ∀ {c : Addr} {o : HO}, H c = some o → c ≠ d := fun e z => by rw [z, nd] at e; cases e
  -- a pair is put
  have put : ∀ {H2 : Hp} {kv : List (List D × V)} {T : Tb} {t b1 b2 : Addr} {a b : Node} {c : Int} {Z : Hp → Prop}, Same H H2 → TW K H2 d kv ns T → H2 t = some (.tup [.ref b1, .ref b2]) → Ky K H2 b1 a → Ky K H2 b2 b → a ∈ ns → b ∈ ns →
      (∀ H4, Same H H4 → TW K H4 d (putK kv (pK a b) (.int c)) ns (putT T a b c) → Z H4) →
      ∃ a' kvs b' k, V.ref d = .ref a' ∧ V.ref t = .ref b' ∧ DNW K H2 a' kvs ∧ KyN K H2 b' k ∧ kvs.length < sizeLine ∧ ∀ H4, (∀ c o, c ≠ a' → H2 c = some o → H4 c = some o) → (∀ c, c ≠ a' → H4 c = H2 c) → DNW K H4 a' (putK kvs k (.int c)) → Z H4 := by
    intro H2 kv T t b1 b2 a b c Z s2 w2 et k1 k2 ha hb z
    refine ⟨d, kv, t, pK a b, rfl, rfl, w2.dw, kyN_pair et k1 k2, by rw [sizeLine_eq]; have := w2.len hn40; omega, fun H4 h4 _ d4 => z H4 (fun x o e => h4 x o (ned e) (s2 _ _ e)) (w2.put ha hb d4)⟩
  refine ⟨_, rfl, ln, rfl, ⟨_, SqL.of (u1 _ _ el)⟩, ?_⟩
  refine for_list (xs := bs.map V.ref) (fun i σ H' => ∃ (kv : List (List D × V)) (T : Tb) (y3 : Option V), Same H H' ∧ TW K H' d kv ns T ∧ Real fs T ∧ (∀ a ∈ ns.take i, ∃ x, T a a = some x ∧ x ≤ 0) ∧ σ = [some (.ref ln), some (.ref lf), some (.ref d), y3, none, none, none, none])
    ⟨[], _, _, u1, w1, fun a b x e => (nomatch e), fun a h => by simp at h, rfl⟩ (fun i σ H' _ h => ?_) (fun i y σ H2 ey h => ?_) (fun σ H2 h => ?_)
  · obtain ⟨_, _, _, s2, _⟩ := h
    exact SqL.of (s2 _ _ el)
  · obtain ⟨kv, T, y3, s2, w2, r2, d2, rfl⟩ := h
    obtain ⟨k, b, ek, rfl, kk, hk⟩ := kys_get hks ey
    have etk : ns.take (i + 1) = ns.take i ++ [k] := by rw [List.take_add_one, ek]; rfl
    refine ⟨_, rfl, _, rfl, _, rfl, Nat.le_of_ble_eq_true rfl, fun t nt => ?_⟩
    have u3 := same_new nt (.tup [.ref b, .ref b])
    have kk3 := ky_mono kk (Tp.of (s2.trans u3))
    refine put (s2.trans u3) (w2.same u3) upd_same kk3 kk3 hk hk fun H4 s4 w4 => ⟨_, _, _, s4, w4, r2.put ⟨[], fun g h => absurd h List.not_mem_nil, rfl, rfl⟩, fun a ha => ?_, rfl⟩
    rw [etk] at ha
    unfold putT
    by_cases z : a = k
    · rw [if_pos ⟨z, z⟩]; exact ⟨0, rfl, Int.le_refl _⟩
    · rw [if_neg (fun q => z q.1)]
      rcases List.mem_append.mp ha with ha | ha
      · exact d2 a ha
      · exact absurd (List.mem_singleton.mp ha) z
  obtain ⟨kv, T, y3, s2, w2, r2, d2, rfl⟩ := h
  rw [List.length_map, ← lkb, List.take_of_length_le (Nat.le_refl _)] at d2
  refine ⟨_, rfl, lf, rfl, ⟨_, SqL.of (s2 _ _ ef)⟩, ?_⟩
  refine for_list (xs := xs) (fun i σ H' => ∃ (kv : List (List D × V)) (T : Tb) (y3 y5 y6 y7 : Option V), Same H H' ∧ TW K H' d kv ns T ∧ Real fs T ∧ (∀ a ∈ ns, ∃ x, T a a = some x ∧ x ≤ 0) ∧ (∀ g ∈ fs.take i, ∃ x, T g.a g.b = some x ∧ x ≤ g.c) ∧ σ = [some (.ref ln), some (.ref lf), some (.ref d), y3, none, y5, y6, y7])
    ⟨kv, T, _, _, _, _, s2, w2, r2, d2, fun a h => by simp at h, rfl⟩ (fun i σ H' _ h => ?_) (fun i y σ H3 ey h => ?_) (fun σ H3 h => ?_)
  · obtain ⟨_, _, _, _, _, _, s3, _⟩ := h
    exact SqL.of (s3 _ _ ef)
  · clear s2 w2 r2 d2
    obtain ⟨kv, T, y3, y5, y6, y7, s3, w3, r3, d3, f3, rfl⟩ := h
    obtain ⟨g, eg, hg⟩ := paired_at hF ey
    have hgf := List.mem_of_getElem? eg
    have etk : fs.take (i + 1) = fs.take i ++ [g] := by rw [List.take_add_one, eg]; rfl
    obtain ⟨t, v1, v2, rfl, et, ⟨b1, rfl, k1⟩, ⟨b2, rfl, k2⟩⟩ := hg.mono (Tp.of s3)
    refine ⟨t, _, rfl, SqT.of et, rfl, _, _, rfl, _, _, rfl, _, _, rfl, rfl, ?_⟩
    dsimp only [gName, tSeq]
    refine ifs_bh (lowT T g.a g.b g.c) (fun Q q => ?_) (fun H4 s4 => ?_)
    · refine ⟨_, rfl, _, rfl, Nat.le_of_ble_eq_true rfl, fun t1 n1 => ?_⟩
      have u4 := same_new n1 (.tup [.ref b1, .ref b2])
      refine ⟨_, rfl, d, kv, t1, pK g.a g.b, rfl, rfl, (w3.same u4).dw.rd, kyN_pair upd_same (ky_mono k1 (Tp.of u4)) (ky_mono k2 (Tp.of u4)), _, rfl, ?_⟩
      rw [w3.ti g.a g.b]
      cases e : T g.a g.b with
      | none =>
        have q2 := q _ u4
        unfold lowT at q2
        rw [e] at q2
        exact iteT q2
      | some x =>
        refine iteF ⟨_, rfl, _, rfl, _, rfl, _, rfl, Nat.le_of_ble_eq_true rfl, fun t2 n2 => ?_⟩
        have u5 := same_new n2 (.tup [.ref b1, .ref b2])
        have u45 := u4.trans u5
        have q2 := q _ u45
        unfold lowT at q2
        rw [e] at q2
        exact ⟨d, kv, t2, pK g.a g.b, .int x, rfl, rfl, (w3.same u45).dw.rd, kyN_pair upd_same (ky_mono k1 (Tp.of u45)) (ky_mono k2 (Tp.of u45)), by rw [w3.ti g.a g.b, e]; rfl, _, _, rfl, rfl, _, rfl, q2⟩
    · have hga := (hfn g hgf).1
      have hgb := (hfn g hgf).2
      have s04 := s3.trans s4
      cases hc : lowT T g.a g.b g.c with
      | true =>
        refine iteT ⟨_, rfl, _, rfl, _, rfl, _, rfl, Nat.le_of_ble_eq_true rfl, fun t5 n5 => ?_⟩
        have u5 := same_new n5 (.tup [.ref b1, .ref b2])
        have s45 := s4.trans u5
        have low : Low T (putT T g.a g.b g.c) := putT_low fun x e => by
          unfold lowT at hc
          rw [e] at hc
          have := of_decide_eq_true hc
          omega
        refine put (s04.trans u5) (w3.same s45) upd_same (ky_mono k1 (Tp.of s45)) (ky_mono k2 (Tp.of s45)) hga hgb fun H6 s6 w6 => ⟨_, _, _, _, _, _, s6, w6, r3.put ⟨[g], fun x hx => by rw [List.mem_singleton.mp hx]; exact hgf, ⟨rfl, rfl⟩, by show g.c + 0 = g.c; omega⟩, fun a ha => ?_, fun x hx => ?_, rfl⟩
        · obtain ⟨y, h1, h2⟩ := d3 a ha
          obtain ⟨z, h3, h4⟩ := low a a y h1
          exact ⟨z, h3, by omega⟩
        · rw [etk] at hx
          rcases List.mem_append.mp hx with hx | hx
          · obtain ⟨y, h1, h2⟩ := f3 x hx
            obtain ⟨z, h3, h4⟩ := low _ _ y h1
            exact ⟨z, h3, by omega⟩
          · rw [List.mem_singleton.mp hx]
            exact ⟨g.c, putT_at _ _ _ _, Int.le_refl _⟩
      | false =>
        refine iteF ⟨kv, T, _, _, _, _, s04, w3.same s4, r3, d3, fun x hx => ?_, rfl⟩
        rw [etk] at hx
        rcases List.mem_append.mp hx with hx | hx
        · exact f3 x hx
        · rw [List.mem_singleton.mp hx]
          unfold lowT at hc
          cases e : T g.a g.b with
          | none => rw [e] at hc; cases hc
          | some y =>
            rw [e] at hc
            have := of_decide_eq_false hc
            exact ⟨y, rfl, by omega⟩
  clear s2 w2 r2 d2
  obtain ⟨kv, T, y3, y5, y6, y7, s3, w3, r3, d3, f3, rfl⟩ := h
  have lfx : fs.length = xs.length := Paired.length hF
  rw [← lfx, List.take_of_length_le (Nat.le_refl _)] at f3
  have up0 := up_base (ns := ns) d3 f3
  refine ⟨_, rfl, ln, rfl, ⟨_, SqL.of (s3 _ _ el)⟩, ?_⟩
  refine for_list (xs := bs.map V.ref) (fun i σ H' => ∃ (kv : List (List D × V)) (T : Tb) (S : List Node) (y4 y5 y6 y7 : Option V), Same H H' ∧ TW K H' d kv ns T ∧ Real fs T ∧ Up fs ns S T ∧ (∀ k ∈ ns.take i, k ∈ S) ∧ σ = [some (.ref ln), some (.ref lf), some (.ref d), y3, y4, y5, y6, y7])
    ⟨kv, T, [], _, _, _, _, s3, w3, r3, up0, fun a h => by simp at h, rfl⟩ (fun i σ H' _ h => ?_) (fun i y σ H4 ey h => ?_) (fun σ H4 h => ?_)
  · obtain ⟨_, _, _, _, _, _, _, s4, _⟩ := h
    exact SqL.of (s4 _ _ el)
  · clear s3 w3 r3 d3 f3 up0
    obtain ⟨kv, T0, S, y4, y5, y6, y7, s4, w4, r4, up4, in4, rfl⟩ := h
    obtain ⟨k, bk, ek, rfl, kk, hk⟩ := kys_get hks ey
    have etk : ns.take (i + 1) = ns.take i ++ [k] := by rw [List.take_add_one, ek]; rfl
    refine ⟨_, rfl, ln, rfl, ⟨_, SqL.of (s4 _ _ el)⟩, ?_⟩
    refine for_list (xs := bs.map V.ref) (fun j σ H' => ∃ (kv : List (List D × V)) (T : Tb) (y5 y6 y7 : Option V), Same H H' ∧ TW K H' d kv ns T ∧ Real fs T ∧ Low T0 T ∧ (∀ a ∈ ns.take j, ∀ b ∈ ns, ∀ x y, T0 a k = some x → T0 k b = some y → ∃ z, T a b = some z ∧ z ≤ x + y) ∧ σ = [some (.ref ln), some (.ref lf), some (.ref d), y3, some (.ref bk), y5, y6, y7])
      ⟨kv, T0, _, _, _, s4, w4, r4, .refl _, fun a h => by simp at h, rfl⟩ (fun j σ H' _ h => ?_) (fun j y σ H5 ey2 h => ?_) (fun σ H5 h => ?_)
    · obtain ⟨_, _, _, _, _, s5, _⟩ := h
      exact SqL.of (s5 _ _ el)
    · clear s4 w4 r4
      obtain ⟨kv, T1, y5, y6, y7, s5, w5, r5, low5, c5, rfl⟩ := h
      obtain ⟨a, b1, ea, rfl, ka, ha⟩ := kys_get hks ey2
      have etj : ns.take (j + 1) = ns.take j ++ [a] := by rw [List.take_add_one, ea]; rfl
      refine ⟨_, rfl, ln, rfl, ⟨_, SqL.of (s5 _ _ el)⟩, ?_⟩
      refine for_list (xs := bs.map V.ref) (fun l σ H' => ∃ (kv : List (List D × V)) (T : Tb) (y6 y7 : Option V), Same H H' ∧ TW K H' d kv ns T ∧ Real fs T ∧ Low T1 T ∧ (∀ b ∈ ns.take l, ∀ x y, T0 a k = some x → T0 k b = some y → ∃ z, T a b = some z ∧ z ≤ x + y) ∧ σ = [some (.ref ln), some (.ref lf), some (.ref d), y3, some (.ref bk), some (.ref b1), y6, y7])
        ⟨kv, T1, _, _, s5, w5, r5, .refl _, fun b h => by simp at h, rfl⟩ (fun l σ H' _ h => ?_) (fun l y σ H6 ey3 h => ?_) (fun σ H6 h => ?_)
      · obtain ⟨_, _, _, _, s6, _⟩ := h
        exact SqL.of (s6 _ _ el)
      · clear s5 w5 r5
        obtain ⟨kv, T, y6, y7, s6, w6, r6, low6, c6, rfl⟩ := h
        obtain ⟨b, b2, eb, rfl, kb, hb⟩ := kys_get hks ey3
        have etl : ns.take (l + 1) = ns.take l ++ [b] := by rw [List.take_add_one, eb]; rfl
        have ka6 := ky_mono ka (Tp.of s6)
        have kb6 := ky_mono kb (Tp.of s6)
        have kk6 := ky_mono kk (Tp.of s6)
        have low06 := low5.trans low6
        dsimp only [gName, tSeq]
        refine ifs_bh ((T a k).isSome && (T k b).isSome) (fun Q q => ?_) (fun H7 s7 => ?_)
        · refine ⟨_, rfl, _, rfl, Nat.le_of_ble_eq_true rfl, fun t1 n1 => ?_⟩
          have u4 := same_new n1 (.tup [.ref b1, .ref bk])
          refine ⟨_, rfl, d, kv, t1, pK a k, rfl, rfl, (w6.same u4).dw.rd, kyN_pair upd_same (ky_mono ka6 (Tp.of u4)) (ky_mono kk6 (Tp.of u4)), _, rfl, ?_⟩
          rw [w6.ti a k]
          cases e : T a k with
          | none =>
            have q2 := q _ u4
            rw [e] at q2
            exact iteF q2
          | some x =>
            refine iteT ⟨_, rfl, _, rfl, Nat.le_of_ble_eq_true rfl, fun t2 n2 => ?_⟩
            have u5 := same_new n2 (.tup [.ref bk, .ref b2])
            have u45 := u4.trans u5
            have q2 := q _ u45
            rw [e] at q2
            refine ⟨_, rfl, d, kv, t2, pK k b, rfl, rfl, (w6.same u45).dw.rd, kyN_pair upd_same (ky_mono kk6 (Tp.of u45)) (ky_mono kb6 (Tp.of u45)), _, rfl, ?_⟩
            rw [w6.ti k b]
            cases e2 : T k b with
            | none => rw [e2] at q2; exact q2
            | some y => rw [e2] at q2; exact q2
        · have s07 := s6.trans s7
          have w7 := w6.same s7
          have keepC : ∀ {T' : Tb}, Low T T' → (∀ x y, T0 a k = some x → T0 k b = some y → ∃ z, T' a b = some z ∧ z ≤ x + y) → ∀ b' ∈ ns.take (l + 1), ∀ x y, T0 a k = some x → T0 k b' = some y → ∃ z, T' a b' = some z ∧ z ≤ x + y := fun {T'} lw hb' b' hin x y hx hy => by
            rw [etl] at hin
            rcases List.mem_append.mp hin with hin | hin
            · obtain ⟨z, h1, h2⟩ := c6 b' hin x y hx hy
              obtain ⟨z', h3, h4⟩ := lw _ _ z h1
              exact ⟨z', h3, by omega⟩
            · rw [List.mem_singleton.mp hin] at hy ⊢
              exact hb' x y hx hy
          cases e1 : T a k with
          | none =>
            refine iteF ⟨kv, T, _, _, s07, w7, r6, low6, keepC (.refl _) fun x y hx _ => ?_, rfl⟩
            obtain ⟨z, h1, _⟩ := low06 _ _ x hx
            rw [e1] at h1; cases h1
          | some x1 =>
            cases e2 : T k b with
            | none =>
              refine iteF ⟨kv, T, _, _, s07, w7, r6, low6, keepC (.refl _) fun x y _ hy => ?_, rfl⟩
              obtain ⟨z, h1, _⟩ := low06 _ _ y hy
              rw [e2] at h1; cases h1
            | some x2 =>
              refine iteT ⟨_, rfl, _, rfl, _, rfl, Nat.le_of_ble_eq_true rfl, fun t3 n3 => ?_⟩
              have v3 := same_new n3 (.tup [.ref b1, .ref bk])
              have s73 := s7.trans v3
              refine ⟨d, kv, t3, pK a k, .int x1, rfl, rfl, (w6.same s73).dw.rd, kyN_pair upd_same (ky_mono ka6 (Tp.of s73)) (ky_mono kk6 (Tp.of s73)), by rw [w6.ti a k, e1]; rfl, _, rfl, _, rfl, _, rfl, Nat.le_of_ble_eq_true rfl, fun t4 n4 => ?_⟩
              have v4 := same_new n4 (.tup [.ref bk, .ref b2])
              have s74 := s73.trans v4
              refine ⟨d, kv, t4, pK k b, .int x2, rfl, rfl, (w6.same s74).dw.rd, kyN_pair upd_same (ky_mono kk6 (Tp.of s74)) (ky_mono kb6 (Tp.of s74)), by rw [w6.ti k b, e2]; rfl, _, _, rfl, rfl, ?_⟩
              have w8 := w6.same s74
              have s08 := s6.trans s74
              have ka8 := ky_mono ka6 (Tp.of s74)
              have kb8 := ky_mono kb6 (Tp.of s74)
              generalize upd (upd H7 t3 (.tup [.ref b1, .ref bk])) t4 (.tup [.ref bk, .ref b2]) = H8 at w8 s08 ka8 kb8
              have hreal : ∃ gs, (∀ g ∈ gs, g ∈ fs) ∧ RoadL a gs b ∧ sumF gs = x1 + x2 := by
                obtain ⟨g1, p1, p2, p3⟩ := r6 _ _ _ e1
                obtain ⟨g2, p4, p5, p6⟩ := r6 _ _ _ e2
                exact ⟨g1 ++ g2, fun g hg => (List.mem_append.mp hg).elim (p1 g) (p4 g), p2.app p5, by rw [sumF_app, p3, p6]⟩
              have bound : ∀ x y, T0 a k = some x → T0 k b = some y → x1 + x2 ≤ x + y := fun x y hx hy => by
                obtain ⟨z1, h1, h2⟩ := low06 _ _ x hx
                obtain ⟨z2, h3, h4⟩ := low06 _ _ y hy
                rw [e1] at h1; rw [e2] at h3
                cases h1; cases h3
                omega
              dsimp only [gName, tSeq]
              refine ifs_bh (lowT T a b (x1 + x2)) (fun Q q => ?_) (fun H9 s9 => ?_)
              · refine ⟨_, rfl, _, rfl, Nat.le_of_ble_eq_true rfl, fun t1 n1 => ?_⟩
                have u4 := same_new n1 (.tup [.ref b1, .ref b2])
                refine ⟨_, rfl, d, kv, t1, pK a b, rfl, rfl, (w8.same u4).dw.rd, kyN_pair upd_same (ky_mono ka8 (Tp.of u4)) (ky_mono kb8 (Tp.of u4)), _, rfl, ?_⟩
                rw [w8.ti a b]
                cases e : T a b with
                | none =>
                  have q2 := q _ u4
                  unfold lowT at q2
                  rw [e] at q2
                  exact iteT q2
                | some x =>
                  refine iteF ⟨_, rfl, _, rfl, _, rfl, _, rfl, Nat.le_of_ble_eq_true rfl, fun t2 n2 => ?_⟩
                  have u5 := same_new n2 (.tup [.ref b1, .ref b2])
                  have u45 := u4.trans u5
                  have q2 := q _ u45
                  unfold lowT at q2
                  rw [e] at q2
                  exact ⟨d, kv, t2, pK a b, .int x, rfl, rfl, (w8.same u45).dw.rd, kyN_pair upd_same (ky_mono ka8 (Tp.of u45)) (ky_mono kb8 (Tp.of u45)), by rw [w8.ti a b, e]; rfl, _, _, rfl, rfl, _, rfl, q2⟩
              · have s09 := s08.trans s9
                cases hc : lowT T a b (x1 + x2) with
                | true =>
                  refine iteT ⟨_, rfl, _, rfl, _, rfl, _, rfl, Nat.le_of_ble_eq_true rfl, fun t5 n5 => ?_⟩
                  have u5 := same_new n5 (.tup [.ref b1, .ref b2])
                  have s95 := s9.trans u5
                  have low : Low T (putT T a b (x1 + x2)) := putT_low fun x e => by
                    unfold lowT at hc
                    rw [e] at hc
                    have := of_decide_eq_true hc
                    omega
                  exact put (s09.trans u5) (w8.same s95) upd_same (ky_mono ka8 (Tp.of s95)) (ky_mono kb8 (Tp.of s95)) ha hb fun H6 s6 w6 => ⟨_, _, _, _, s6, w6, r6.put hreal, low6.trans low, keepC low fun x y hx hy => ⟨x1 + x2, putT_at _ _ _ _, bound x y hx hy⟩, rfl⟩
                | false =>
                  refine iteF ⟨kv, T, _, _, s09, w8.same s9, r6, low6, keepC (.refl _) fun x y hx hy => ?_, rfl⟩
                  unfold lowT at hc
                  cases e : T a b with
                  | none => rw [e] at hc; cases hc
                  | some z =>
                    rw [e] at hc
                    have h1 := of_decide_eq_false hc
                    have h2 := bound x y hx hy
                    exact ⟨z, rfl, by omega⟩
      · obtain ⟨kv, T, y6, y7, s6, w6, r6, low6, c6, rfl⟩ := h
        rw [List.length_map, ← lkb, List.take_of_length_le (Nat.le_refl _)] at c6
        refine ⟨kv, T, _, _, _, s6, w6, r6, low5.trans low6, fun a' ha' b hb x y hx hy => ?_, rfl⟩
        rw [etj] at ha'
        rcases List.mem_append.mp ha' with ha' | ha'
        · obtain ⟨z, h1, h2⟩ := c5 a' ha' b hb x y hx hy
          obtain ⟨z', h3, h4⟩ := low6 _ _ z h1
          exact ⟨z', h3, by omega⟩
        · rw [List.mem_singleton.mp ha'] at hx ⊢
          exact c6 b hb x y hx hy
    · obtain ⟨kv, T, y5, y6, y7, s5, w5, r5, low5, c5, rfl⟩ := h
      rw [List.length_map, ← lkb, List.take_of_length_le (Nat.le_refl _)] at c5
      refine ⟨kv, T, k :: S, _, _, _, _, s5, w5, r5, up4.step hfn hk low5 c5, fun x hx => ?_, rfl⟩
      rw [etk] at hx
      rcases List.mem_append.mp hx with hx | hx
      · exact List.mem_cons_of_mem _ (in4 x hx)
      · rw [List.mem_singleton.mp hx]; exact List.mem_cons_self
  · obtain ⟨kv, T, S, y4, y5, y6, y7, s4, w4, r4, up4, in4, rfl⟩ := h
    rw [List.length_map, ← lkb, List.take_of_length_le (Nat.le_refl _)] at in4
    refine ⟨_, rfl, q _ d kv T s4 nd w4 ⟨r4, fun a b gs ha hg hr hnd => up4 a b gs ha hg hr hnd fun k hk => in4 k ?_⟩⟩
    unfold mid at hk
    obtain ⟨g, hg2, rfl⟩ := List.mem_map.mp hk
    exact (hfn g (hg g (List.dropLast_subset _ hg2))).2
end
end K34
set_option Elab.async false
set_option linter.all false
set_option maxRecDepth 100000
set_option maxHeartbeats 4000000
namespace K34
open PySem PySem.Spec PyProof.Rows L2
noncomputable abbrev s_planted : Stmt := top 23
theorem sc_planted : FnScope ["_law_script", "_law_pool_here", "_law_worths_here", "_law_facts_here", "_law_k", "_law_cell", "_law_a", "_law_b", "_law_more"] ["_law_script", "_law_pool_here", "_law_worths_here"] (defScope s_planted) := ⟨rfl, rfl, rfl, by decide +kernel, rfl, by decide +kernel, by decide +kernel⟩
theorem mod5l (c x0 x1 x2 x3 x4 : Int) : ∃ z : Int, atI [V.int x0, .int x1, .int x2, .int x3, .int x4] (c % 5) = some (.int z) ∧ (z = x0 ∨ z = x1 ∨ z = x2 ∨ z = x3 ∨ z = x4) := by
  have h : c % 5 = 0 ∨ c % 5 = 1 ∨ c % 5 = 2 ∨ c % 5 = 3 ∨ c % 5 = 4 := by omega
  rcases h with h | h | h | h | h <;> rw [h]
  · exact ⟨x0, rfl, by simp⟩
  · exact ⟨x1, rfl, by simp⟩
  · exact ⟨x2, rfl, by simp⟩
  · exact ⟨x3, rfl, by simp⟩
  · exact ⟨x4, rfl, by simp⟩
theorem kys_mod {K : PySem.W.Frag} {H : Hp} {ks : List Node} {bs : List Addr} (h : KysAt K H ks bs) (h0 : 0 < ks.length) (c : Int) : ∃ (k : Node) (b : Addr), atI (bs.map V.ref) (c % ((bs.map V.ref).length : Int)) = some (.ref b) ∧ Ky K H b k ∧ k ∈ ks := by
  have lb : ks.length = bs.length := Paired.length h
  have e : ((bs.map V.ref).length : Int) = (ks.length : Int) := by rw [List.length_map, lb]
  have h1 := Int.emod_nonneg c (show ((bs.map V.ref).length : Int) ≠ 0 by omega)
  have h2 := Int.emod_lt_of_pos c (show 0 < ((bs.map V.ref).length : Int) by omega)
  obtain ⟨k, b, _, eb, kb, hk⟩ := kys_atI h h1 (by omega)
  exact ⟨k, b, eb, kb, hk⟩
noncomputable def spPlanted (K : PySem.W.Frag) : Sp := fun vs H Q _ => ExQ Q (fun (a : Addr) Q => ExQ Q (fun (ns : List Int) Q => ExQ Q (fun (p : Addr) Q => ExQ Q (fun (d : Addr) Q => ExQ Q (fun (bs : List Addr) Q => ExQ Q (fun (ks : List Node) Q => ExQ Q (fun (kv : List (Node × V)) Q => ExQ Q (fun (num : Node → Int) Q => vs = [.ref a, .ref p, .ref d] ∧ SqL K H a (ns.map V.int) ∧ ns.length ≤ 63 ∧ H p = some (.lst (bs.map V.ref)) ∧ KysAt K H ks bs ∧ 0 < ks.length ∧ ks.length ≤ 100 ∧ DW K H d kv ∧ (∀ k ∈ ks, valV kv k = some (.int (num k))) ∧
  ∀ (H' : Hp) (r : Addr) (xs : List V) (fs : List Fct), Same H H' → H' r = some (.lst xs) → FactsAt K H' fs xs → fs.length ≤ 80 → (∀ f ∈ fs, f.a ∈ ks ∧ f.b ∈ ks ∧ num f.a - num f.b ≤ f.c) → Q (.ref r) H'))))))))
section
variable {P : Program} {w : World} {K : PySem.W.Frag} {mg : Str → Option Value} {base : Heap} {f : Addr} {fd : FuncData} {n : Nat}
theorem ok_planted (F : Fun K "_law_planted" "_law_planted" s_planted f fd) (m_range : mg "range" = none) (m_max : mg "max" = none) (m_len : mg "len" = none) (c_law_draw : Cl P w K mg base "_law_draw" n ["_law_script", "_law_k"] (spDraw K)) : FnOk P w K mg base CX0 (n + 1) f fd ["_law_script", "_law_pool_here", "_law_worths_here"] (spPlanted K) := by
  refine F.ok sc_planted (fun vs H Q E h => ?_) (fun cdv A outer s H vs Q E hr h => ?_)
  · obtain ⟨a, ns, p, d, bs, ks, kv, num, rfl, _⟩ := h
    rfl
  obtain ⟨a, ns, p, d, bs, ks, kv, num, rfl, hS, h63, ep, hks, hk0, hkl, hd, hval, q⟩ := h
  have sc := sc_planted
  have hu : (A.deeper (envOfC "_law_planted" (defScope s_planted) s.heap.objs.size f cdv)).units + 1 < cLine := by have := hr.units; omega
  refine ⟨_, (@pss_cons _ _ _ _ _ (ps_set (i := 3) sc.nd rfl (Or.inl rfl) (pe_lst pa_nil))
      (@pss_cons _ _ _ _ _ (ps_for PassesOwn.never rfl (pi_range2 rfl m_range (pa_cons pe_int (pa_cons (pe_callB (call_max2 rfl) rfl m_max PyProof.Rows.boot_max (pa_cons (pe_callB call_len_seq rfl m_len PySem.boot_len (pa_cons (pv 0) pa_nil)) (pa_cons (pe_op op_add pe_int (pe_op op_mod (pe_cl c_law_draw hr rfl (pa_cons (pv 0) (pa_cons pe_int pa_nil))) pe_int)) pa_nil))) pa_nil))) (pg_name (i := 4) sc.nd rfl (Or.inl rfl)) (@pss_cons _ _ _ _ _ (ps_set (i := 5) sc.nd rfl (Or.inl rfl) (pe_cl c_law_draw hr rfl (pa_cons (pv 0) (pa_cons (pv 4) pa_nil))))
      (@pss_cons _ _ _ _ _ (ps_set (i := 6) sc.nd rfl (Or.inl rfl) (pe_ix ix_list (pv 1) (pe_op op_mod (pv 5) (pe_callB call_len_seq rfl m_len PySem.boot_len (pa_cons (pv 1) pa_nil))) (fun _ _ => rfl)))
      (@pss_cons _ _ _ _ _ (ps_set (i := 7) sc.nd rfl (Or.inl rfl) (pe_ix ix_list (pv 1) (pe_op op_mod (pe_op op_fdiv (pv 5) pe_int) (pe_callB call_len_seq rfl m_len PySem.boot_len (pa_cons (pv 1) pa_nil))) (fun _ _ => rfl)))
      (@pss_cons _ _ _ _ _ (ps_set (i := 8) sc.nd rfl (Or.inl rfl) (pe_ix ix_list (pe_lst (pa_cons pe_int (pa_cons pe_int (pa_cons pe_int (pa_cons (pe_op op_mod (pe_op op_fdiv (pv 5) pe_int) pe_int) (pa_cons (pe_op op_mod (pe_op op_fdiv (pv 5) pe_int) (pe_op op_pow pe_int pe_int)) pa_nil)))))) (pe_op op_mod (pe_op op_fdiv (pv 5) pe_int) pe_int) (fun _ _ => rfl)))
      (pss_one (ps_expr (pe_bm PySem.F.plainAttrs_list PySem.F.slot_list_append PySem.F.type_list_append mt_append (pv 3) (pa_cons (pe_tup (pa_cons (pv 6) (pa_cons (pv 7) (pa_cons (pe_op op_add (pe_op op_sub (pe_zget hu (pv 2) (pv 6) (fun _ _ => rfl)) (pe_zget hu (pv 2) (pv 7) (fun _ _ => rfl))) (pv 8)) pa_nil)))) pa_nil)))))))))
      (pss_one (ps_ret (pv 3))))), ?_⟩
  have lkb : ks.length = bs.length := Paired.length hks
  have lbl : ((bs.map V.ref).length : Int) = (ks.length : Int) := by rw [List.length_map, lkb]
  refine ⟨Nat.le_of_ble_eq_true rfl, fun r nr => ?_⟩
  have u1 := same_new nr (.lst [])
  have e1 : upd H r (.lst []) r = some (.lst []) := upd_same
  generalize upd H r (.lst []) = H1 at u1 e1
  refine ⟨_, rfl, a, _, rfl, .inl (u1.seq hS), _, rfl, a, ns, _, rfl, u1.seq hS, h63, by decide, by decide, fun c0 => ⟨_, _, rfl, rfl, (by decide : (0 : Int) < 12), _, _, rfl, rfl, _, _, rfl, ?_⟩⟩
  obtain ⟨m, em, hm⟩ : ∃ m : Nat, (if 6 + c0 % 12 > ((ns.map V.int).length : Int) then 6 + c0 % 12 else ((ns.map V.int).length : Int)) = (m : Int) ∧ m ≤ 80 := by
    have h0 : 0 ≤ c0 % 12 ∧ c0 % 12 < 12 := ⟨Int.emod_nonneg _ (by decide), Int.emod_lt_of_pos _ (by decide)⟩
    refine ⟨(if 6 + c0 % 12 > ((ns.map V.int).length : Int) then 6 + c0 % 12 else ((ns.map V.int).length : Int)).toNat, ?_⟩
    rw [List.length_map]
    split <;> omega
  refine ⟨6, (m : Int), congrArg (fun z => [V.int 6, V.int z]) em, ⟨by decide, by decide, by omega, by omega⟩, ?_⟩
  refine for_range (lo := 6) (n := ((m : Int) - 6).toNat) (fun i σ H' => ∃ (xs : List V) (fs : List Fct) (y4 y5 y6 y7 y8 : Option V), Same H H' ∧ H' r = some (.lst xs) ∧ FactsAt K H' fs xs ∧ fs.length = i ∧ (∀ f ∈ fs, f.a ∈ ks ∧ f.b ∈ ks ∧ num f.a - num f.b ≤ f.c) ∧ σ = [some (.ref a), some (.ref p), some (.ref d), some (.ref r), y4, y5, y6, y7, y8])
    ⟨[], [], _, _, _, _, _, u1, e1, .nil, rfl, fun f h => absurd h List.not_mem_nil, rfl⟩ (fun i σ H2 hi h => ?_) (fun σ H2 h => ?_)
  · obtain ⟨xs, fs, y4, y5, y6, y7, y8, s2, e2, hF, hl, hm2, rfl⟩ := h
    have lfx : fs.length = xs.length := Paired.length hF
    have ep2 := s2 _ _ ep
    have hk2 := hks.mono (Tp.of s2)
    refine ⟨_, rfl, _, rfl, a, ns, _, rfl, s2.seq hS, h63, by omega, by omega, fun c => ?_⟩
    obtain ⟨ka, ba, eba, kya, hka⟩ := kys_mod hk2 hk0 c
    obtain ⟨kb, bb, ebb, kyb, hkb⟩ := kys_mod hk2 hk0 (c / 16)
    have lpos : (0 : Int) < ((bs.map V.ref).length : Int) := by omega
    refine ⟨_, rfl, _, rfl, _, rfl, p, _, rfl, .inl (SqL.of ep2), _, _, rfl, rfl, lpos, p, _, _, _, rfl, rfl, SqL.of ep2, eba, ?_⟩
    refine ⟨_, rfl, _, rfl, _, _, rfl, rfl, ⟨by decide, by decide⟩, _, rfl, p, _, rfl, .inl (SqL.of ep2), _, _, rfl, rfl, lpos, p, _, _, _, rfl, rfl, SqL.of ep2, ebb, ?_⟩
    refine ⟨_, rfl, _, _, rfl, rfl, ⟨by decide, by decide⟩, _, _, rfl, rfl, (by decide : (0 : Int) < 4), _, rfl, _, _, rfl, rfl, ⟨by decide, by decide⟩, _, _, rfl, rfl, ⟨by decide, by decide, by decide⟩, _, _, rfl, rfl, (by decide : (0 : Int) < 10 ^ (9 : Int).toNat), Nat.le_of_ble_eq_true rfl, fun pl npl => ?_⟩
    have hz0 : 0 ≤ c / 4096 % 10 ^ (9 : Int).toNat := Int.emod_nonneg _ (by decide)
    have hz1 : 0 ≤ c / 4096 % 4 := Int.emod_nonneg _ (by decide)
    obtain ⟨z, ez, hz⟩ := mod5l (c / 256) 0 0 1 (c / 4096 % 4) (c / 4096 % 10 ^ (9 : Int).toNat)
    have ul := same_new npl (.lst [.int 0, .int 0, .int 1, .int (c / 4096 % 4), .int (c / 4096 % 10 ^ (9 : Int).toNat)])
    refine ⟨_, rfl, _, _, rfl, rfl, ⟨by decide, by decide⟩, _, _, rfl, rfl, (by decide : (0 : Int) < 5), pl, _, _, _, rfl, rfl, SqL.of upd_same, ez, ?_⟩
    generalize upd H2 pl (.lst [.int 0, .int 0, .int 1, .int (c / 4096 % 4), .int (c / 4096 % 10 ^ (9 : Int).toNat)]) = H3 at ul
    have s3 := s2.trans ul
    have hd3 := dw_keep hd (s3 d)
    have e3 := ul _ _ e2
    refine ⟨_, rfl, .inl ⟨rfl, _, SqL.of e3⟩, _, rfl, _, rfl, _, rfl, _, rfl, d, kv, ba, ka, _, rfl, rfl, hd3.rd, ky_mono kya (Tp.of ul), hval ka hka, _, rfl, _, rfl, d, kv, bb, kb, _, rfl, rfl, hd3.rd, ky_mono kyb (Tp.of ul), hval kb hkb, _, _, rfl, rfl, _, rfl, _, _, rfl, rfl, Nat.le_of_ble_eq_true rfl, fun t nt => ?_⟩
    have u7 := same_new nt (.tup [.ref ba, .ref bb, .int (num ka - num kb + z)])
    have e7 := u7 _ _ e3
    refine ⟨r, _, _, rfl, rfl, e7, small1 (by omega), ?_⟩
    have tp := tp_lst (ys := xs ++ [V.ref t]) e7
    have u37 := ul.trans u7
    have hf7 : FactAt K (upd H3 t (.tup [.ref ba, .ref bb, .int (num ka - num kb + z)])) ⟨ka, kb, num ka - num kb + z⟩ (.ref t) := ⟨t, _, _, rfl, upd_same, ⟨ba, rfl, ky_mono kya (Tp.of u37)⟩, ⟨bb, rfl, ky_mono kyb (Tp.of u37)⟩⟩
    refine ⟨_, fs ++ [⟨ka, kb, num ka - num kb + z⟩], _, _, _, _, _, fun c o e => ?_, upd_same, facts_app ((hF.mono (Tp.of u37)).mono tp) (hf7.mono tp), by rw [List.length_append, List.length_singleton, hl], fun f hf => ?_, rfl⟩
    · rw [upd_ne (fun z => by rw [z, nr] at e; cases e)]; exact u7 _ _ (s3 _ _ e)
    · rcases List.mem_append.mp hf with h | h
      · exact hm2 f h
      · rw [List.mem_singleton.mp h]; exact ⟨hka, hkb, by show num ka - num kb ≤ num ka - num kb + z; omega⟩
  · obtain ⟨xs, fs, y4, y5, y6, y7, y8, s2, e2, hF, hl, hm2, rfl⟩ := h
    exact ⟨_, rfl, q _ r xs fs s2 e2 hF (by omega) hm2⟩
end
end K34
set_option Elab.async false
set_option linter.all false
set_option maxRecDepth 100000
set_option maxHeartbeats 4000000
namespace K34
open PySem PySem.Spec PyProof.Rows L2
noncomputable abbrev s_whole : Stmt := top 21
theorem sc_whole : FnScope ["_law_found"] ["_law_found"] (defScope s_whole) := ⟨rfl, rfl, rfl, by decide +kernel, rfl, by decide +kernel, by decide +kernel⟩
noncomputable abbrev s_road_sum : Stmt := top 22
theorem sc_road_sum : FnScope ["_law_facts_here", "_law_road", "_law_a", "_law_b", "_law_total", "_law_fact"] ["_law_facts_here", "_law_road", "_law_a", "_law_b"] (defScope s_road_sum) := ⟨rfl, rfl, rfl, by decide +kernel, rfl, by decide +kernel, by decide +kernel⟩
noncomputable def spWhole : Sp := fun vs H Q _ => ExQ Q (fun (x : Int) Q => vs = [.int x] ∧ Q (.bl true) H)
noncomputable def spRoadSum (K : PySem.W.Frag) : Sp := fun vs H Q _ => ExQ Q (fun (lf : Addr) Q => ExQ Q (fun (p : Addr) Q => ExQ Q (fun (xs : List V) Q => ExQ Q (fun (ys : List V) Q => ExQ Q (fun (fs : List Fct) Q => ExQ Q (fun (gs : List Fct) Q => ExQ Q (fun (a : Node) Q => ExQ Q (fun (b : Node) Q => ExQ Q (fun (va : V) Q => ExQ Q (fun (vb : V) Q => vs = [.ref lf, .ref p, va, vb] ∧ H lf = some (.lst xs) ∧ FactsAt K H fs xs ∧ H p = some (.lst ys) ∧ FactsAt K H gs ys ∧ NodeAt K H va a ∧ NodeAt K H vb b ∧ RoadL a gs b ∧ (∀ g ∈ gs, g ∈ fs) ∧ Q (.int (sumF gs)) H))))))))))
theorem fact_any {gs : List Fct} {g : Fct} (h : g ∈ gs) : ((gs.map factD).any fun d => D.beq d (factD g)) = true := List.any_eq_true.mpr ⟨_, List.mem_map.mpr ⟨g, h, rfl⟩, D.beq_self _⟩
section
variable {P : Program} {w : World} {K : PySem.W.Frag} {mg : Str → Option Value} {base : Heap} {f : Addr} {fd : FuncData} {n : Nat}
theorem ok_whole (F : Fun K "_law_whole" "_law_whole" s_whole f fd) (m_isinstance : mg "isinstance" = none) (m_int : mg "int" = none) (m_bool : mg "bool" = none) : FnOk P w K mg base CX0 (n + 1) f fd ["_law_found"] spWhole := by
  refine F.ok sc_whole (fun vs H Q E h => ?_) (fun cdv A outer s H vs Q E hr h => ?_)
  · obtain ⟨x, rfl, _⟩ := h
    rfl
  obtain ⟨x, rfl, q⟩ := h
  have sc := sc_whole
  refine ⟨_, (pss_one (ps_ret (pe_and (pe_callB call_isi rfl m_isinstance PyProof.Rows.boot_isinstance (pa_cons (pv 0) (pa_cons (pe_bltn rfl m_int PyProof.Rows.boot_int (v := .ty "int") rfl) pa_nil))) (pe_one (pe_not (pe_callB call_isi rfl m_isinstance PyProof.Rows.boot_isinstance (pa_cons (pv 0) (pa_cons (pe_bltn rfl m_bool PyProof.Rows.boot_bool (v := .ty "bool") rfl) pa_nil)))))))), ?_⟩
  refine ⟨_, rfl, _, "int", _, true, rfl, .int x, by with_unfolding_all rfl, _, rfl, iteT ⟨_, rfl, _, "bool", _, false, rfl, .int x, by with_unfolding_all rfl, _, rfl, q⟩⟩
theorem ok_road_sum (F : Fun K "_law_road_sum" "_law_road_sum" s_road_sum f fd) (m_isinstance : mg "isinstance" = none) (m_list : mg "list" = none) (m_tuple : mg "tuple" = none) (m_len : mg "len" = none) (c_law_whole : Cl P w K mg base "_law_whole" n ["_law_found"] spWhole) : FnOk P w K mg base CX0 (n + 1) f fd ["_law_facts_here", "_law_road", "_law_a", "_law_b"] (spRoadSum K) := by
  refine F.ok sc_road_sum (fun vs H Q E h => ?_) (fun cdv A outer s H vs Q E hr h => ?_)
  · obtain ⟨lf, p, xs, ys, fs, gs, a, b, va, vb, rfl, _⟩ := h
    rfl
  obtain ⟨lf, p, xs, ys, fs, gs, a, b, va, vb, rfl, ef, hF, ep, hG, ha, hb, hrd, hsub, q⟩ := h
  have sc := sc_road_sum
  have hu9 : (A.deeper (envOfC "_law_road_sum" (defScope s_road_sum) s.heap.objs.size f cdv)).units + 1 + 9 < cLine := by have := hr.units; omega
  refine ⟨_, (@pss_cons _ _ _ _ _ (ps_if (pt_not (pt_val (pe_callB call_isi rfl m_isinstance PyProof.Rows.boot_isinstance (pa_cons (pv 1) (pa_cons (pe_bltn rfl m_list PyProof.Rows.boot_list (v := .ty "list") rfl) pa_nil))))) (pss_one (ps_ret pe_non)) pss_nil)
      (@pss_cons _ _ _ _ _ (ps_set (i := 4) sc.nd rfl (Or.inl rfl) pe_int)
      (@pss_cons _ _ _ _ _ (ps_for PassesOwn.never rfl (pi_list (pv 1)) (pg_name (i := 5) sc.nd rfl (Or.inl rfl)) (@pss_cons _ _ _ _ _ (ps_if (PW.pt (pw_or (pt_not (pt_val (pe_callB call_isi rfl m_isinstance PyProof.Rows.boot_isinstance (pa_cons (pv 5) (pa_cons (pe_bltn rfl m_tuple PyProof.Rows.boot_tuple (v := .ty "tuple") rfl) pa_nil))))) (pw_or (pt_cmpR op_ne (pe_callB call_len_seq rfl m_len PySem.boot_len (pa_cons (pv 5) pa_nil)) pe_int (nomark _)) (pw_or (pt_cmp (pc_notinL (n := 9) hu9 (pv 5) (pv 0))) (pw_or1 (pt_cmpR (op_neD (n := 9) hu9) (pe_ix ix_tup (pv 5) pe_int (fun _ _ => rfl)) (pv 2) (nomark _))))))) (pss_one (ps_ret pe_non)) pss_nil)
      (@pss_cons _ _ _ _ _ (ps_if (pt_not (pt_val (pe_cl c_law_whole hr rfl (pa_cons (pe_ix ix_tup (pv 5) pe_int (fun _ _ => rfl)) pa_nil)))) (pss_one (ps_ret pe_non)) pss_nil)
      (@pss_cons _ _ _ _ _ (ps_set (i := 2) sc.nd rfl (Or.inl rfl) (pe_ix ix_tup (pv 5) pe_int (fun _ _ => rfl)))
      (pss_one (ps_set (i := 4) sc.nd rfl (Or.inl rfl) (pe_op op_add (pv 4) (pe_ix ix_tup (pv 5) pe_int (fun _ _ => rfl)))))))))
      (@pss_cons _ _ _ _ _ (ps_if (pt_cmpR (op_neD (n := 9) hu9) (pv 2) (pv 3) (nomark _)) (pss_one (ps_ret pe_non)) pss_nil)
      (pss_one (ps_ret (pv 4))))))), ?_⟩
  have lg : gs.length = ys.length := Paired.length hG
  refine ⟨_, rfl, _, "list", _, true, rfl, .lst ep, rfl, _, rfl, iteF ?_⟩
  refine ⟨_, rfl, p, rfl, ⟨_, SqL.of ep⟩, ?_⟩
  refine for_list (xs := ys) (fun i σ H' => ∃ (ai : Node) (vi : V) (y5 : Option V), H = H' ∧ NodeAt K H vi ai ∧ RoadL ai (gs.drop i) b ∧ σ = [some (.ref lf), some (.ref p), some vi, some vb, some (.int (sumF (gs.take i))), y5])
    ⟨a, va, _, rfl, ha, hrd, rfl⟩ (fun i σ H' _ h => ?_) (fun i y σ H2 ey h => ?_) (fun σ H2 h => ?_)
  · obtain ⟨_, _, _, rfl, _⟩ := h
    exact SqL.of ep
  · obtain ⟨ai, vi, y5, rfl, hai, hri, rfl⟩ := h
    obtain ⟨g, eg, hg⟩ := paired_at hG ey
    have hi : i < gs.length := (List.getElem?_eq_some_iff.mp eg).1
    have edr : gs.drop i = g :: gs.drop (i + 1) := by
      rw [List.drop_eq_getElem_cons hi]
      congr 1
      rw [List.getElem?_eq_getElem hi] at eg
      exact Option.some.inj eg
    have etk : gs.take (i + 1) = gs.take i ++ [g] := by rw [List.take_add_one, eg]; rfl
    rw [edr] at hri
    have hin := fact_any (hsub g (List.mem_of_getElem? eg))
    obtain ⟨t, v1, v2, rfl, et, h1, h2⟩ := id hg
    dsimp only [gName, tSeq]
    refine ifs_b false (fun Q q => ?_) ?_
    · refine ⟨_, rfl, _, "tuple", _, true, rfl, .tup et, rfl, _, rfl, iteF ?_⟩
      refine ⟨_, rfl, t, _, rfl, .inr (SqT.of et), rfl, _, rfl, ite2 (fun c => absurd c (show ¬ (!decide (V.int 3 = V.int 3)) = true by decide +kernel)) (fun _ => ?_)⟩
      refine ⟨_, rfl, _, rfl, lf, xs, _, _, rfl, SqL.of ef, facts_is hF, fact_is hg, deps_fact fs, _, rfl, ?_⟩
      rw [hin]
      refine iteF ⟨_, rfl, t, _, 0, _, rfl, rfl, SqT.of et, at0 _ _, _, rfl, g.a.map kD, ai.map kD, node_is h1, node_is hai, by rw [dep_kD]; decide, _, rfl, ?_⟩
      rw [beq_node, decide_eq_true hri.1]
      exact q
    refine iteF ?_
    refine ⟨_, rfl, t, _, 2, _, rfl, rfl, SqT.of et, at2 _ _ _ _, g.c, rfl, _, rfl, iteF ?_⟩
    refine ⟨_, rfl, t, _, 1, _, rfl, rfl, SqT.of et, at1 _ _ _, ?_⟩
    refine ⟨_, rfl, _, rfl, t, _, 2, _, rfl, rfl, SqT.of et, at2 _ _ _ _, _, _, rfl, rfl, ?_⟩
    refine ⟨g.b, v2, some (.ref t), rfl, h2, hri.2, ?_⟩
    rw [etk, sumF_app, show sumF [g] = g.c + 0 from rfl, Int.add_zero]
    rfl
  · obtain ⟨ai, vi, y5, rfl, hai, hri, rfl⟩ := h
    rw [← lg, List.drop_length] at hri
    have hri : ai = b := hri
    refine ⟨_, rfl, _, rfl, ai.map kD, b.map kD, node_is hai, node_is hb, by rw [dep_kD]; decide, _, rfl, ?_⟩
    rw [beq_node, decide_eq_true hri]
    refine iteF ⟨_, rfl, ?_⟩
    rw [← lg, List.take_of_length_le (Nat.le_refl _)]
    exact q
end
end K34
set_option Elab.async false
set_option linter.all false
set_option maxRecDepth 100000
set_option maxHeartbeats 4000000
namespace K34
open PySem PySem.Spec PyProof.Rows L2
noncomputable abbrev s_c : Stmt := top 18
theorem sc_c : FnScope ["_law_cell"] ["_law_cell"] (defScope s_c) := ⟨rfl, rfl, rfl, by decide +kernel, rfl, by decide +kernel, by decide +kernel⟩
noncomputable abbrev s_facts : Stmt := top 24
theorem sc_facts : FnScope ["_law_script", "_law_pool_here", "_law_worths_here", "_law_facts_here", "_law_way", "_law_cells", "_law_a", "_law_b", "_law_at", "_law_back"] ["_law_script", "_law_pool_here"] (defScope s_facts) := ⟨rfl, rfl, rfl, by decide +kernel, rfl, by decide +kernel, by decide +kernel⟩
noncomputable abbrev s_stands : Stmt := top 25
theorem sc_stands : FnScope ["_law_stand", "_law_facts_here", "_law_bound", "_law_number", "_law_a", "_law_b", "_law_c_here"] ["_law_stand", "_law_facts_here", "_law_bound"] (defScope s_stands) := ⟨rfl, rfl, rfl, by decide +kernel, rfl, by decide +kernel, by decide +kernel⟩
noncomputable def spC : Sp := fun vs H Q _ => ExQ Q (fun (c : Int) Q => vs = [.int c] ∧ ∀ x : Int, Q (.int x) H)
noncomputable def spFacts (K : PySem.W.Frag) : Sp := fun vs H Q _ => ExQ Q (fun (a : Addr) Q => ExQ Q (fun (is : List Int) Q => ExQ Q (fun (p : Addr) Q => ExQ Q (fun (bs : List Addr) Q => ExQ Q (fun (ks : List Node) Q => vs = [.ref a, .ref p] ∧ SqL K H a (is.map V.int) ∧ is.length ≤ 63 ∧ H p = some (.lst (bs.map V.ref)) ∧ KysAt K H ks bs ∧ 0 < ks.length ∧ ks.length ≤ 100 ∧
  ∀ (H' : Hp) (r' : Addr) (xs' : List V) (fs' : List Fct), Same H H' → H' r' = some (.lst xs') → FactsAt K H' fs' xs' → fs'.length ≤ 90 → (∀ f ∈ fs', f.a ∈ ks ∧ f.b ∈ ks) → Q (.ref r') H')))))
noncomputable def spStands (K : PySem.W.Frag) : Sp := fun vs H Q _ => ExQ Q (fun (d : Addr) Q => ExQ Q (fun (lf : Addr) Q => ExQ Q (fun (xs : List V) Q => ExQ Q (fun (kv : List (Node × V)) Q => ExQ Q (fun (num : Node → Int) Q => ExQ Q (fun (fs : List Fct) Q => ExQ Q (fun (b : Fct) Q => ExQ Q (fun (v : V) Q => vs = [.ref d, .ref lf, v] ∧ DW K H d kv ∧ H lf = some (.lst xs) ∧ FactsAt K H fs xs ∧ FactAt K H b v ∧ valV kv [.inr "zero"] = some (.int 0) ∧ (∀ f ∈ b.turn :: fs, valV kv f.a = some (.int (num f.a)) ∧ valV kv f.b = some (.int (num f.b))) ∧ (∀ f ∈ b.turn :: fs, num f.a - num f.b ≤ f.c) ∧ (∀ p ∈ kv, ∃ x : Int, p.2 = .int x) ∧
  ∀ H', Same H H' → Q (.bl true) H'))))))))
section
variable {P : Program} {w : World} {K : PySem.W.Frag} {mg : Str → Option Value} {base : Heap} {f : Addr} {fd : FuncData} {n : Nat}
theorem ok_c (F : Fun K "_law_c" "_law_c" s_c f fd) : FnOk P w K mg base CX0 (n + 1) f fd ["_law_cell"] spC := by
  refine F.ok sc_c (fun vs H Q E h => ?_) (fun cdv A outer s H vs Q E hr h => ?_)
  · obtain ⟨c, rfl, _⟩ := h
    rfl
  obtain ⟨c, rfl, q⟩ := h
  have sc := sc_c
  refine ⟨_, (@pss_cons _ _ _ _ _ (ps_if (pt_cmpR op_eq (pe_op op_mod (pv 0) pe_int) pe_int (nomark _)) (pss_one (ps_ret (pe_op op_sub (pe_op op_mod (pe_op op_fdiv (pv 0) pe_int) (pe_op op_add (pe_op op_mul pe_int (pe_op op_pow pe_int pe_int)) pe_int)) (pe_op op_pow pe_int pe_int)))) pss_nil)
      (pss_one (ps_ret (pe_op op_sub (pe_op op_mod (pe_op op_fdiv (pv 0) pe_int) pe_int) pe_int)))), ?_⟩
  refine ⟨_, rfl, _, _, rfl, rfl, (by decide : (0 : Int) < 4), rfl, _, rfl, ite2 (fun _ => ?_) (fun _ => ?_)⟩
  · exact ⟨_, rfl, _, _, rfl, rfl, ⟨by decide, by decide⟩, _, _, rfl, rfl, ⟨by decide, by decide, by decide⟩, _, _, rfl, rfl, .inl ⟨by decide, by decide⟩, _, _, rfl, rfl, _, _, rfl, rfl, (by decide : (0 : Int) < 2 * 10 ^ (12 : Int).toNat + 1), _, _, rfl, rfl, ⟨by decide, by decide, by decide⟩, _, _, rfl, rfl, q _⟩
  · exact ⟨_, rfl, _, _, rfl, rfl, ⟨by decide, by decide⟩, _, _, rfl, rfl, (by decide : (0 : Int) < 9), _, _, rfl, rfl, q _⟩
theorem ok_facts (F : Fun K "_law_facts" "_law_facts" s_facts f fd) (m_zip : mg "zip" = none) (m_range : mg "range" = none) (m_len : mg "len" = none) (c_law_draw : Cl P w K mg base "_law_draw" n ["_law_script", "_law_k"] (spDraw K)) (c_law_worths : Cl P w K mg base "_law_worths" n ["_law_script", "_law_at", "_law_pool_here"] (spWorths K)) (c_law_planted : Cl P w K mg base "_law_planted" n ["_law_script", "_law_pool_here", "_law_worths_here"] (spPlanted K)) (c_law_c : Cl P w K mg base "_law_c" n ["_law_cell"] spC) : FnOk P w K mg base CX0 (n + 1) f fd ["_law_script", "_law_pool_here"] (spFacts K) := by
  refine F.ok sc_facts (fun vs H Q E h => ?_) (fun cdv A outer s H vs Q E hr h => ?_)
  · obtain ⟨a, is, p, bs, ks, rfl, _⟩ := h
    rfl
  obtain ⟨a, is, p, bs, ks, rfl, hS, h63, ep, hks, hk0, hkl, q⟩ := h
  have sc := sc_facts
  have hu : (A.deeper (envOfC "_law_facts" (defScope s_facts) s.heap.objs.size f cdv)).units + 1 < cLine := by have := hr.units; omega
  refine ⟨_, (@pss_cons _ _ _ _ _ (ps_set (i := 2) sc.nd rfl (Or.inl rfl) (pe_cl c_law_worths hr rfl (pa_cons (pv 0) (pa_cons pe_int (pa_cons (pv 1) pa_nil)))))
      (@pss_cons _ _ _ _ _ (ps_set (i := 3) sc.nd rfl (Or.inl rfl) (pe_slice sl_list (pe_cl c_law_planted hr rfl (pa_cons (pv 0) (pa_cons (pv 1) (pa_cons (pv 2) pa_nil)))) po_none (po_some pe_int)))
      (@pss_cons _ _ _ _ _ (ps_set (i := 4) sc.nd rfl (Or.inl rfl) (pe_op op_mod (pe_cl c_law_draw hr rfl (pa_cons (pv 0) (pa_cons pe_int pa_nil))) pe_int))
      (@pss_cons _ _ _ _ _ (ps_if (pt_cmpR op_lt (pv 4) pe_int (nomark _)) (@pss_cons _ _ _ _ _ (ps_setcomp (i := 5) ["_law_k"] rfl (cmp_ok (N := ["_law_script", "_law_pool_here", "_law_worths_here", "_law_facts_here", "_law_way", "_law_cells", "_law_a", "_law_b", "_law_at", "_law_back"]) (so := defScope s_facts) rfl rfl (by decide +kernel)) sc.nd rfl (Or.inl rfl) (pi_range1 rfl m_range (pa_cons (pe_callB call_len_seq rfl m_len PySem.boot_len (pa_cons (pv 3) pa_nil)) pa_nil)) (fun _ _ _ _ _ _ => (pg_name (i := 0) (show List.Nodup (α := Str) ["_law_k", "_law_script", "_law_pool_here", "_law_worths_here", "_law_facts_here", "_law_way", "_law_cells", "_law_a", "_law_b", "_law_at", "_law_back"] by decide +kernel) rfl (Or.inl rfl) (Or.inr rfl))) (fun _ _ _ _ _ _ => pifs_nil) (fun _ _ _ _ _ _ => (pe_op op_fdiv (pe_cl c_law_draw hr rfl (pa_cons (pv 1) (pa_cons (pe_op op_add pe_int (pv 0)) pa_nil))) pe_int)) rfl)
      (pss_one (ps_ret (pe_comp ["_law_fact", "_law_cell"] rfl (cmp_ok (N := ["_law_script", "_law_pool_here", "_law_worths_here", "_law_facts_here", "_law_way", "_law_cells", "_law_a", "_law_b", "_law_at", "_law_back"]) (so := defScope s_facts) rfl rfl (by decide +kernel)) (pi_zip rfl m_zip (pa_cons (pv 3) (pa_cons (pv 5) pa_nil))) (fun _ _ _ _ _ _ => (pg_tupK (K := K) (n := 2) rfl rfl (pgs_cons (pg_name (i := 0) (show List.Nodup (α := Str) ["_law_fact", "_law_cell", "_law_script", "_law_pool_here", "_law_worths_here", "_law_facts_here", "_law_way", "_law_cells", "_law_a", "_law_b", "_law_at", "_law_back"] by decide +kernel) rfl (Or.inl rfl) (Or.inr rfl)) (pgs_cons (pg_name (i := 1) (show List.Nodup (α := Str) ["_law_fact", "_law_cell", "_law_script", "_law_pool_here", "_law_worths_here", "_law_facts_here", "_law_way", "_law_cells", "_law_a", "_law_b", "_law_at", "_law_back"] by decide +kernel) rfl (Or.inl rfl) (Or.inr rfl)) pgs_nil)))) (fun _ _ _ _ _ _ => pifs_nil) (fun _ _ _ _ _ _ => (pe_tup (pa_cons (pe_ix (ix_tupK (K := K) rfl) (pv 0) pe_int (fun _ _ => rfl)) (pa_cons (pe_ix (ix_tupK (K := K) rfl) (pv 0) pe_int (fun _ _ => rfl)) (pa_cons (pe_cl c_law_c hr rfl (pa_cons (pv 1) pa_nil)) pa_nil))))))))) pss_nil)
      (@pss_cons _ _ _ _ _ (ps_if (pt_cmpR op_lt (pv 4) pe_int (nomark _)) (@pss_cons _ _ _ _ _ (ps_set (i := 6) sc.nd rfl (Or.inl rfl) (pe_ix ix_list (pv 1) (pe_op op_mod (pe_cl c_law_draw hr rfl (pa_cons (pv 0) (pa_cons pe_int pa_nil))) (pe_callB call_len_seq rfl m_len PySem.boot_len (pa_cons (pv 1) pa_nil))) (fun _ _ => rfl)))
      (@pss_cons _ _ _ _ _ (ps_set (i := 7) sc.nd rfl (Or.inl rfl) (pe_ix ix_list (pv 1) (pe_op op_mod (pe_op op_fdiv (pe_cl c_law_draw hr rfl (pa_cons (pv 0) (pa_cons pe_int pa_nil))) pe_int) (pe_callB call_len_seq rfl m_len PySem.boot_len (pa_cons (pv 1) pa_nil))) (fun _ _ => rfl)))
      (@pss_cons _ _ _ _ _ (ps_set (i := 8) sc.nd rfl (Or.inl rfl) (pe_op op_mod (pe_cl c_law_draw hr rfl (pa_cons (pv 0) (pa_cons pe_int pa_nil))) (pe_op op_add (pe_callB call_len_seq rfl m_len PySem.boot_len (pa_cons (pv 3) pa_nil)) pe_int)))
      (@pss_cons _ _ _ _ _ (ps_set (i := 9) sc.nd rfl (Or.inl rfl) (pe_tup (pa_cons (pv 7) (pa_cons (pv 6) (pa_cons (pe_op op_sub (pe_op op_sub (pe_zget hu (pv 2) (pv 7) (fun _ _ => rfl)) (pe_zget hu (pv 2) (pv 6) (fun _ _ => rfl))) (pe_op op_mod (pe_op op_fdiv (pe_cl c_law_draw hr rfl (pa_cons (pv 0) (pa_cons pe_int pa_nil))) pe_int) pe_int)) pa_nil)))))
      (pss_one (ps_ret (pe_op op_cat (pe_op op_cat (pe_slice sl_list (pv 3) po_none (po_some (pv 8))) (pe_lst (pa_cons (pe_tup (pa_cons (pv 6) (pa_cons (pv 7) (pa_cons (pe_op op_sub (pe_zget hu (pv 2) (pv 6) (fun _ _ => rfl)) (pe_zget hu (pv 2) (pv 7) (fun _ _ => rfl))) pa_nil)))) (pa_cons (pv 9) pa_nil)))) (pe_slice sl_list (pv 3) (po_some (pv 8)) po_none)))))))) pss_nil)
      (pss_one (ps_ret (pv 3)))))))), ?_⟩
  refine ⟨_, rfl, _, rfl, a, is, 80, p, bs, ks, rfl, hS, h63, by decide, by decide, ep, hks, by omega, fun H2 d kv num s2 hd hval hvi hkv => ?_⟩
  refine ⟨_, rfl, _, rfl, _, rfl, a, is, p, d, bs, ks, kv, num, rfl, s2.seq hS, h63, s2 _ _ ep, hks.mono (Tp.of s2), hk0, by omega, hd, hval, fun H3 r xs0 fs0 s3 er hF0 hfl0 hfk0 => ?_⟩
  refine ⟨_, rfl, r, _, rfl, SqL.of er, fun pf npf => ?_⟩
  rw [cut_lo (xs := xs0) (k := 64) (j := 64) rfl]
  have u4 := same_new npf (.lst (xs0.take 64))
  have ef : upd H3 pf (.lst (xs0.take 64)) pf = some (.lst (xs0.take 64)) := upd_same
  generalize upd H3 pf (.lst (xs0.take 64)) = H4 at u4 ef
  have hF : FactsAt K H4 (fs0.take 64) (xs0.take 64) := paired_take (hF0.mono (Tp.of u4)) 64
  have hfk : ∀ f ∈ fs0.take 64, f.a ∈ ks ∧ f.b ∈ ks := fun f hf => ⟨(hfk0 f (List.mem_of_mem_take hf)).1, (hfk0 f (List.mem_of_mem_take hf)).2.1⟩
  have hfl : (fs0.take 64).length ≤ 80 := by rw [List.length_take]; omega
  generalize fs0.take 64 = fs at hF hfk hfl
  generalize xs0.take 64 = xs at hF ef
  have lfx : fs.length = xs.length := Paired.length hF
  have s24 := s3.trans u4
  have s04 := s2.trans s24
  refine ⟨_, rfl, a, is, _, rfl, s04.seq hS, h63, by decide, by decide, fun c1 => ⟨_, _, rfl, rfl, (by decide : (0 : Int) < 12), ?_⟩⟩
  refine ⟨_, rfl, _, _, rfl, rfl, _, rfl, ite2 (fun _ => ?_) (fun _ => ?_)⟩
  · refine ⟨_, rfl, pf, _, rfl, .inl (SqL.of ef), (xs.length : Int), rfl, by omega, by omega, fun pc npc => ?_⟩
    refine comp_range (n := xs.length) (fun i H' => Same H4 H' ∧ ∃ cs : List Int, H' pc = some (.lst (cs.map V.int)) ∧ cs.length = i) ⟨same_new npc _, [], upd_same, rfl⟩ (fun i H' hi h => ?_) (fun H5 h => ?_)
    · obtain ⟨sm, cs, ec, hl⟩ := h
      exact ⟨⟨[some (.int (0 + (i : Int)))], rfl, rfl⟩, tTrue_ite ⟨_, rfl, _, rfl, _, _, rfl, rfl, a, is, _, rfl, (s04.trans sm).seq hS, h63, by omega, by omega, fun c => ⟨_, _, rfl, rfl, ⟨by decide, by decide⟩, _, ec, small1 (by rw [List.length_map]; omega), (fun c o e => by rw [upd_ne (ne_of_none e npc)]; exact sm c o e), cs ++ [c / 7], by rw [List.map_append]; exact upd_same, by rw [List.length_append, List.length_singleton, hl]⟩⟩⟩
    obtain ⟨s5, cs, ec, hcl⟩ := h
    have s05 := s04.trans s5
    have ef5 := s5 _ _ ef
    have hF5 := hF.mono (Tp.of s5)
    refine ⟨_, rfl, _, rfl, pf, pc, rfl, ⟨_, SqL.of ef5⟩, ⟨_, SqL.of ec⟩, fun pr npr => ?_⟩
    refine comp_zip (xs := xs) (ys := cs.map V.int) (fun i H' => Same H5 H' ∧ ∃ (ac : List V) (gs : List Fct), H' pr = some (.lst ac) ∧ FactsAt K H' gs ac ∧ gs.length = i ∧ ∀ g ∈ gs, g.a ∈ ks ∧ g.b ∈ ks) (by rw [List.length_map, hcl]) ⟨same_new npr _, [], [], upd_same, .nil, rfl, fun g h => absurd h List.not_mem_nil⟩ (fun i H' _ h => ⟨SqL.of (h.1 _ _ ef5), SqL.of (h.1 _ _ ec)⟩) (fun i y z H' t ey ez h nt => ?_) (fun H6 h => ?_)
    · obtain ⟨sm, ac, gs, ea, hG, hgl, hgk⟩ := h
      obtain ⟨g, eg, hg⟩ := paired_at hF5 ey
      have hgf := List.mem_of_getElem? eg
      obtain ⟨cz, rfl⟩ : ∃ cz : Int, z = .int cz := by
        rw [List.getElem?_map] at ez
        obtain ⟨c, _, rfl⟩ := Option.map_eq_some_iff.mp ez
        exact ⟨c, rfl⟩
      have ut := same_new nt (.tup [y, .int cz])
      have hi : i < xs.length := (List.getElem?_eq_some_iff.mp ey).1
      have s5' := sm.trans ut
      obtain ⟨tg, v1, v2, rfl, etg, n1, n2⟩ := hg.mono (Tp.of s5')
      refine ⟨t, _, rfl, SqT.of upd_same, rfl, _, _, rfl, _, _, rfl, rfl, ⟨[some (.ref tg), some (.int cz)], rfl, rfl⟩, tTrue_ite ?_⟩
      refine ⟨_, rfl, tg, _, 0, _, rfl, rfl, SqT.of etg, at0 _ _, _, rfl, tg, _, 1, _, rfl, rfl, SqT.of etg, at1 _ _ _, _, rfl, cz, rfl, fun x => ⟨Nat.le_of_ble_eq_true rfl, fun t2 nt2 => ?_⟩⟩
      have u2 := same_new nt2 (.tup [v1, v2, .int x])
      have ea2 := (ut.trans u2) _ _ ea
      have tp := tp_lst (ys := ac ++ [.ref t2]) ea2
      have lac : gs.length = ac.length := Paired.length hG
      refine ⟨_, ea2, small1 (by omega), (fun c o e => by rw [upd_ne (ne_of_none e npr)]; exact (ut.trans u2) _ _ (sm c o e)), _, gs ++ [⟨g.a, g.b, x⟩], upd_same, facts_app ((hG.mono (Tp.of (ut.trans u2))).mono tp) ⟨t2, v1, v2, rfl, tp _ _ upd_same, (n1.mono (Tp.of u2)).mono tp, (n2.mono (Tp.of u2)).mono tp⟩, by rw [List.length_append, List.length_singleton, hgl], fun y hy => ?_⟩
      rcases List.mem_append.mp hy with h | h
      · exact hgk y h
      · rw [List.mem_singleton.mp h]; exact hfk g hgf
    · obtain ⟨s6, ac, gs, ea, hG, hgl, hgk⟩ := h
      exact q _ pr ac gs (s05.trans s6) ea hG (by omega) hgk
  · refine ⟨_, rfl, _, _, rfl, rfl, _, rfl, ite2 (fun _ => ?_) (fun _ => ⟨_, rfl, q _ pf xs fs s04 ef hF (by omega) hfk⟩)⟩
    have ep4 := s04 _ _ ep
    have hks4 := hks.mono (Tp.of s04)
    have hd4 := dw_keep hd (s24 d)
    have lkb : ks.length = bs.length := Paired.length hks
    have lpos : (0 : Int) < ((bs.map V.ref).length : Int) := by rw [List.length_map]; omega
    refine ⟨_, rfl, _, rfl, a, is, _, rfl, s04.seq hS, h63, by decide, by decide, fun c2 => ?_⟩
    obtain ⟨ka, ba, eba, kya, hka⟩ := kys_mod hks4 hk0 c2
    refine ⟨_, rfl, p, _, rfl, .inl (SqL.of ep4), _, _, rfl, rfl, lpos, p, _, _, _, rfl, rfl, SqL.of ep4, eba, ?_⟩
    refine ⟨_, rfl, _, rfl, a, is, _, rfl, s04.seq hS, h63, by decide, by decide, fun c3 => ?_⟩
    obtain ⟨kb, bb, ebb, kyb, hkb⟩ := kys_mod hks4 hk0 (c3 / 8)
    refine ⟨_, _, rfl, rfl, ⟨by decide, by decide⟩, _, rfl, p, _, rfl, .inl (SqL.of ep4), _, _, rfl, rfl, lpos, p, _, _, _, rfl, rfl, SqL.of ep4, ebb, ?_⟩
    refine ⟨_, rfl, a, is, _, rfl, s04.seq hS, h63, by decide, by decide, fun c4 => ⟨_, rfl, pf, _, rfl, .inl (SqL.of ef), _, _, rfl, rfl, _, _, rfl, rfl, (by show (0 : Int) < (xs.length : Int) + 1; omega), ?_⟩⟩
    obtain ⟨k, ek, hk⟩ : ∃ k : Nat, c4 % ((xs.length : Int) + 1) = (k : Int) ∧ k ≤ xs.length := by
      have h1 := Int.emod_nonneg c4 (show (xs.length : Int) + 1 ≠ 0 by omega)
      have h2 := Int.emod_lt_of_pos c4 (show 0 < (xs.length : Int) + 1 by omega)
      exact ⟨(c4 % ((xs.length : Int) + 1)).toNat, by omega, by omega⟩
    dsimp only
    rw [ek]
    refine ⟨_, rfl, _, rfl, _, rfl, _, rfl, d, kv, bb, kb, _, rfl, rfl, hd4.rd, kyb, hval kb hkb, _, rfl, _, rfl, d, kv, ba, ka, _, rfl, rfl, hd4.rd, kya, hval ka hka, _, _, rfl, rfl, _, rfl, a, is, _, rfl, s04.seq hS, h63, by decide, by decide, fun c5 => ⟨_, _, rfl, rfl, ⟨by decide, by decide⟩, _, _, rfl, rfl, (by decide : (0 : Int) < 2), _, _, rfl, rfl, Nat.le_of_ble_eq_true rfl, fun tb ntb => ?_⟩⟩
    dsimp only
    generalize num kb - num ka - c5 / 128 % 2 = cb
    have w1 := same_new ntb (.tup [.ref bb, .ref ba, .int cb])
    have etb : upd H4 tb (.tup [.ref bb, .ref ba, .int cb]) tb = some (.tup [.ref bb, .ref ba, .int cb]) := upd_same
    generalize upd H4 tb (.tup [.ref bb, .ref ba, .int cb]) = H5 at w1 etb
    have ef5 := w1 _ _ ef
    refine ⟨_, rfl, _, rfl, _, rfl, pf, _, rfl, SqL.of ef5, fun p1 n1 => ?_⟩
    rw [cut_lo (xs := xs) (k := (k : Int)) rfl]
    have v1 := same_new n1 (.lst (xs.take k))
    have hd6 := dw_keep hd4 ((w1.trans v1) d)
    refine ⟨_, rfl, _, rfl, _, rfl, _, rfl, d, kv, ba, ka, _, rfl, rfl, hd6.rd, ky_mono kya (Tp.of (w1.trans v1)), hval ka hka, _, rfl, _, rfl, d, kv, bb, kb, _, rfl, rfl, hd6.rd, ky_mono kyb (Tp.of (w1.trans v1)), hval kb hkb, _, _, rfl, rfl, Nat.le_of_ble_eq_true rfl, fun t nt => ⟨_, rfl, Nat.le_of_ble_eq_true rfl, fun p2 n2 => ?_⟩⟩
    dsimp only
    have v2 := same_new nt (.tup [.ref ba, .ref bb, .int (num ka - num kb)])
    have v3 := same_new n2 (.lst [.ref t, .ref tb])
    have e1 := (v2.trans v3) _ _ (upd_same (H := H5) (a := p1) (o := .lst (xs.take k)))
    have lt : (xs.take k).length = k := by rw [List.length_take]; omega
    refine ⟨p1, p2, _, _, rfl, rfl, e1, upd_same, (by rw [sizeLine_eq, lt]; show k + 2 ≤ _; omega), fun p3 n3 => ?_⟩
    have v4 := same_new n3 (.lst (xs.take k ++ [.ref t, .ref tb]))
    have v14 := v1.trans (v2.trans (v3.trans v4))
    refine ⟨_, rfl, _, rfl, _, rfl, pf, _, rfl, SqL.of (v14 _ _ ef5), fun p4 n4 => ?_⟩
    rw [cut_hi (xs := xs) (k := (k : Int)) rfl]
    have v5 := same_new n4 (.lst (xs.drop k))
    have ld : (xs.drop k).length ≤ xs.length := by rw [List.length_drop]; omega
    refine ⟨p3, p4, _, _, rfl, rfl, v5 _ _ upd_same, upd_same, (by rw [sizeLine_eq, List.length_append, lt]; show k + 2 + _ ≤ _; omega), fun p5 n5 => ?_⟩
    have v6 := same_new n5 (.lst ((xs.take k ++ [.ref t, .ref tb]) ++ xs.drop k))
    have v16 := v14.trans (v5.trans v6)
    have et : _ = some (HO.tup [.ref ba, .ref bb, .int (num ka - num kb)]) := (v3.trans (v4.trans (v5.trans v6))) _ _ (upd_same (H := upd H5 p1 (.lst (xs.take k))) (a := t) (o := .tup [.ref ba, .ref bb, .int (num ka - num kb)]))
    have w6 := w1.trans v16
    have hF6 := hF.mono (Tp.of w6)
    have na : NodeAt K _ (.ref ba) ka := ⟨ba, rfl, ky_mono kya (Tp.of w6)⟩
    have nb : NodeAt K _ (.ref bb) kb := ⟨bb, rfl, ky_mono kyb (Tp.of w6)⟩
    refine q _ p5 _ ((fs.take k ++ [⟨ka, kb, num ka - num kb⟩, ⟨kb, ka, cb⟩]) ++ fs.drop k) (s04.trans w6) upd_same (facts_cat (facts_cat (paired_take hF6 k) (.cons ⟨t, _, _, rfl, et, na, nb⟩ (.cons ⟨tb, _, _, rfl, v16 _ _ etb, nb, na⟩ .nil))) (paired_drop hF6 k)) (by rw [List.length_append, List.length_append, List.length_take, List.length_drop]; show _ + 2 + _ ≤ _; omega) fun f hf => ?_
    rcases List.mem_append.mp hf with h | h
    · rcases List.mem_append.mp h with h | h
      · exact hfk f (List.mem_of_mem_take h)
      · rcases List.mem_cons.mp h with h | h
        · rw [h]; exact ⟨hka, hkb⟩
        · rw [List.mem_singleton.mp h]; exact ⟨hkb, hka⟩
    · exact hfk f (List.mem_of_mem_drop h)
theorem ok_stands (F : Fun K "_law_stands" "_law_stands" s_stands f fd) (m_isinstance : mg "isinstance" = none) (m_dict : mg "dict" = none) (c_law_whole : Cl P w K mg base "_law_whole" n ["_law_found"] spWhole) : FnOk P w K mg base CX0 (n + 1) f fd ["_law_stand", "_law_facts_here", "_law_bound"] (spStands K) := by
  refine F.ok sc_stands (fun vs H Q E h => ?_) (fun cdv A outer s H vs Q E hr h => ?_)
  · obtain ⟨d, lf, xs, kv, num, fs, b, v, rfl, _⟩ := h
    rfl
  obtain ⟨d, lf, xs, kv, num, fs, b, v, rfl, hd, ef, hF, hb, hz, hv, hk, hki, q⟩ := h
  have sc := sc_stands
  have hu : (A.deeper (envOfC "_law_stands" (defScope s_stands) s.heap.objs.size f cdv)).units + 1 < cLine := by have := hr.units; omega
  refine ⟨_, (@pss_cons _ _ _ _ _ (ps_if (PW.pt (pw_or (pt_not (pt_val (pe_callB call_isi rfl m_isinstance PyProof.Rows.boot_isinstance (pa_cons (pv 0) (pa_cons (pe_bltn rfl m_dict PyProof.Rows.boot_dict (v := .ty "dict") rfl) pa_nil))))) (pw_or1 (pt_cmpR op_ne (pe_zget2 hu (pv 0) (pe_tup (pa_cons pe_str pa_nil)) pe_int ⟨rfl, rfl, rfl, rfl⟩) pe_int (nomark _))))) (pss_one (ps_ret pe_bl)) pss_nil)
      (@pss_cons _ _ _ _ _ (ps_thaw (ps_for PassesOwn.never rfl (pi_values (pv 0)) (pg_name (i := 3) sc.nd rfl (Or.inl rfl)) (pss_one (ps_if (pt_not (pt_val (pe_cl c_law_whole hr rfl (pa_cons (pv 3) pa_nil)))) (pss_one (ps_ret pe_bl)) pss_nil))))
      (@pss_cons _ _ _ _ _ (ps_for PassesOwn.never rfl (pi_list (pv 1)) (pg_tup rfl (pgs_cons (pg_name (i := 4) sc.nd rfl (Or.inl rfl)) (pgs_cons (pg_name (i := 5) sc.nd rfl (Or.inl rfl)) (pgs_cons (pg_name (i := 6) sc.nd rfl (Or.inl rfl)) pgs_nil)))) (pss_one (ps_if (PW.pt (pw_or (pt_cmp (pc_znotin hu (pv 4) (pv 0))) (pw_or (pt_cmp (pc_znotin hu (pv 5) (pv 0))) (pw_or1 (pt_cmpR op_gt (pe_op op_sub (pe_zget hu (pv 0) (pv 4) (fun _ _ => rfl)) (pe_zget hu (pv 0) (pv 5) (fun _ _ => rfl))) (pv 6) (nomark _)))))) (pss_one (ps_ret pe_bl)) pss_nil)))
      (@pss_cons _ _ _ _ _ (ps_asg (pv 2) (pg_tup rfl (pgs_cons (pg_name (i := 4) sc.nd rfl (Or.inl rfl)) (pgs_cons (pg_name (i := 5) sc.nd rfl (Or.inl rfl)) (pgs_cons (pg_name (i := 6) sc.nd rfl (Or.inl rfl)) pgs_nil)))))
      (pss_one (ps_ret (pe_and (pe_cmp (pc_zin hu (pv 4) (pv 0))) (pe_and (pe_cmp (pc_zin hu (pv 5) (pv 0))) (pe_one (pe_cmpR op_gt (pe_op op_sub (pe_zget hu (pv 0) (pv 4) (fun _ _ => rfl)) (pe_zget hu (pv 0) (pv 5) (fun _ _ => rfl))) (pv 6) (nomark _))))))))))), ?_⟩
  obtain ⟨zs, ed, hzs⟩ := id hd
  refine ⟨_, rfl, _, "dict", _, true, rfl, .dZ ed, rfl, _, rfl, iteF ?_⟩
  refine ⟨_, rfl, d, rfl, ⟨_, hd.rd⟩, Nat.le_of_ble_eq_true rfl, fun t1 n1 => ?_⟩
  have u1 := same_new n1 (.tup [.str "zero"])
  have kz : Ky K (upd H t1 (.tup [.str "zero"])) t1 [.inr "zero"] := .inl upd_same
  have hd1 := dw_keep hd (u1 d)
  have ef1 := u1 _ _ ef
  have hF1 := hF.mono (Tp.of u1)
  have hb1 := hb.mono (Tp.of u1)
  generalize upd H t1 (.tup [.str "zero"]) = H1 at u1 kz hd1 ef1 hF1 hb1
  refine ⟨kv, t1, [.inr "zero"], rfl, hd1.rd, kz, ?_⟩
  rw [hz]
  refine ⟨rfl, _, rfl, ite2 (fun c => absurd c (by decide +kernel)) (fun _ => ?_)⟩
  obtain ⟨zs1, ed1, hzs1⟩ := id hd1
  have upd_self : ∀ {G : Hp} {u : HO}, G d = some u → upd G d u = G := fun {G u} e => by
    funext c
    by_cases z : c = d
    · rw [z, upd_same, e]
    · rw [upd_ne z]
  have nfz : ∀ o' u', H d ≠ some (.frz o' u') := fun o' u' z => by rw [ed] at z; cases z
  refine ⟨_, rfl, d, .dZ zs1 kv, kv.map (·.2), rfl, ed1, rfl, fun o => ?_⟩
  refine for_vals (fun i σ H' => ∃ y3 : Option V, upd H1 d (.frz o (.dZ zs1 kv)) = H' ∧ σ = [some (.ref d), some (.ref lf), some v, y3, none, none, none]) ⟨_, rfl, rfl⟩ (fun i σ H' _ h => ?_) (fun i y σ H2 ey h => ?_) (fun σ H2 h => ?_)
  · obtain ⟨_, rfl, _⟩ := h
    exact upd_same
  · obtain ⟨_, rfl, rfl⟩ := h
    rw [List.getElem?_map] at ey
    obtain ⟨p0, ep0, rfl⟩ := Option.map_eq_some_iff.mp ey
    obtain ⟨x, ex⟩ := hki p0 (List.mem_of_getElem? ep0)
    rw [ex]
    exact ⟨_, rfl, x, rfl, _, rfl, iteF ⟨_, rfl, rfl⟩⟩
  obtain ⟨y3, rfl, rfl⟩ := h
  refine ⟨d, o, .dZ zs1 kv, upd_same, nfz, ?_⟩
  rw [upd_upd, upd_self ed1]
  refine ⟨_, rfl, lf, rfl, ⟨_, SqL.of ef1⟩, ?_⟩
  refine for_list (xs := xs) (fun i σ H' => ∃ (y4 y5 y6 : Option V), H1 = H' ∧ σ = [some (.ref d), some (.ref lf), some v, y3, y4, y5, y6]) ⟨_, _, _, rfl, rfl⟩ (fun i σ H' _ h => ?_) (fun i y σ H2 ey h => ?_) (fun σ H2 h => ?_)
  · obtain ⟨_, _, _, rfl, _⟩ := h
    exact SqL.of ef1
  · obtain ⟨_, _, _, rfl, rfl⟩ := h
    obtain ⟨g, eg, hg⟩ := paired_at hF1 ey
    have hgm : g ∈ b.turn :: fs := List.mem_cons_of_mem _ (List.mem_of_getElem? eg)
    obtain ⟨va, vb⟩ := hv g hgm
    obtain ⟨t, v1, v2, rfl, et, ⟨b1, rfl, k1⟩, ⟨b2, rfl, k2⟩⟩ := id hg
    refine ⟨t, _, rfl, SqT.of et, rfl, _, _, rfl, _, _, rfl, _, _, rfl, rfl, ?_⟩
    refine ⟨_, rfl, _, rfl, d, kv, b1, g.a, rfl, rfl, hd1.rd, k1, _, rfl, ?_⟩
    rw [va]
    refine iteF ⟨_, rfl, _, rfl, d, kv, b2, g.b, rfl, rfl, hd1.rd, k2, _, rfl, ?_⟩
    rw [vb]
    refine iteF ⟨_, rfl, _, rfl, d, kv, b1, g.a, _, rfl, rfl, hd1.rd, k1, va, _, rfl, _, rfl, d, kv, b2, g.b, _, rfl, rfl, hd1.rd, k2, vb, _, _, rfl, rfl, _, rfl, _, _, rfl, rfl, _, rfl, ite2 (fun c => ?_) (fun _ => ⟨_, _, _, rfl, rfl⟩)⟩
    have h1 := of_decide_eq_true c
    have h2 := hk g hgm
    omega
  · obtain ⟨_, _, _, rfl, rfl⟩ := h
    have hbm : b.turn ∈ b.turn :: fs := List.mem_cons_self
    obtain ⟨vb, va⟩ := hv _ hbm
    have hk2 : num b.b - num b.a ≤ -1 - b.c := hk _ hbm
    obtain ⟨t, v1, v2, rfl, et, ⟨b1, rfl, k1⟩, ⟨b2, rfl, k2⟩⟩ := id hb1
    refine ⟨_, rfl, t, _, rfl, SqT.of et, rfl, _, _, rfl, _, _, rfl, _, _, rfl, rfl, ?_⟩
    refine ⟨_, rfl, _, rfl, d, kv, b1, b.a, rfl, rfl, hd1.rd, k1, ?_⟩
    have va : valV kv b.a = some (.int (num b.a)) := va
    have vb : valV kv b.b = some (.int (num b.b)) := vb
    rw [va]
    refine ⟨_, rfl, iteT ⟨_, rfl, _, rfl, d, kv, b2, b.b, rfl, rfl, hd1.rd, k2, ?_⟩⟩
    rw [vb]
    refine ⟨_, rfl, iteT ⟨_, rfl, _, rfl, d, kv, b1, b.a, _, rfl, rfl, hd1.rd, k1, va, _, rfl, _, rfl, d, kv, b2, b.b, _, rfl, rfl, hd1.rd, k2, vb, _, _, rfl, rfl, _, rfl, _, _, rfl, rfl, ?_⟩⟩
    dsimp only
    have e : decide (b.c < num b.a - num b.b) = true := decide_eq_true (by omega)
    rw [e]
    exact q _ u1
end
end K34
set_option Elab.async false
set_option linter.all false
set_option maxRecDepth 100000
set_option maxHeartbeats 4000000
namespace K34
open PySem PySem.Spec PyProof.Rows L2
noncomputable abbrev s_told : Stmt := top 26
theorem sc_told : FnScope ["_law_facts_here", "_law_bound", "_law_table_here", "_law_below", "_law_found", "_law_a", "_law_b", "_law_c_here", "_law_start", "_law_total"] ["_law_facts_here", "_law_bound", "_law_table_here", "_law_below"] (defScope s_told) := ⟨rfl, rfl, rfl, by decide +kernel, rfl, by decide +kernel, by decide +kernel⟩
noncomputable def spTold (K : PySem.W.Frag) : Sp := fun vs H Q _ => ExQ Q (fun (lf : Addr) Q => ExQ Q (fun (d : Addr) Q => ExQ Q (fun (xs : List V) Q => ExQ Q (fun (fs : List Fct) Q => ExQ Q (fun (b : Fct) Q => ExQ Q (fun (v : V) Q => ExQ Q (fun (bel : Bool) Q => ExQ Q (fun (kv : List (List D × V)) Q => ExQ Q (fun (ns : List Node) Q => ExQ Q (fun (T : Tb) Q => vs = [.ref lf, v, .ref d, .bl bel] ∧ H lf = some (.lst xs) ∧ FactsAt K H fs xs ∧ fs.length ≤ 300 ∧ FactAt K H b v ∧ TW K H d kv ns T ∧ TabOk fs ns T ∧ b.a ∈ ns ∧ (bel = true → Clash fs) ∧ (bel = false → ∀ gs, ¬ IsRing fs gs) ∧ ∀ H', Same H H' → Q (.bl true) H'))))))))))
theorem not_clash {fs : List Fct} (h : ¬ Clash fs) : ∃ num : Node → Int, ∀ f ∈ fs, num f.a - num f.b ≤ f.c := by
  rcases Classical.em (∃ num : Node → Int, ∀ f ∈ fs, num f.a - num f.b ≤ f.c) with z | z
  · exact z
  · exact absurd (fun num hk => z ⟨num, hk⟩) h
noncomputable def tLe (o : Option Int) (c : Int) : Bool := match o with | none => false | some x => decide (x ≤ c)
section
variable {P : Program} {w : World} {K : PySem.W.Frag} {mg : Str → Option Value} {base : Heap} {f : Addr} {fd : FuncData} {n : Nat}
theorem ok_told (F : Fun K "_law_told" "_law_told" s_told f fd) (m_len : mg "len" = none) (m_isinstance : mg "isinstance" = none) (m_list : mg "list" = none) (m_tuple : mg "tuple" = none) (c_verdict : Cl P w K mg base "verdict" n ["facts", "bound"] (spVerdict K)) (c_law_road_sum : Cl P w K mg base "_law_road_sum" n ["_law_facts_here", "_law_road", "_law_a", "_law_b"] (spRoadSum K)) (c_law_stands : Cl P w K mg base "_law_stands" n ["_law_stand", "_law_facts_here", "_law_bound"] (spStands K)) : FnOk P w K mg base CX0 (n + 1) f fd ["_law_facts_here", "_law_bound", "_law_table_here", "_law_below"] (spTold K) := by
  refine F.ok sc_told (fun vs H Q E h => ?_) (fun cdv A outer s H vs Q E hr h => ?_)
  · obtain ⟨lf, d, xs, fs, b, v, bel, kv, ns, T, rfl, _⟩ := h
    rfl
  obtain ⟨lf, d, xs, fs, b, v, bel, kv, ns, T, rfl, ef, hF, hfl, hb, w0, ok, hbn, hb1, hb2, q⟩ := h
  have sc := sc_told
  have hun : (A.deeper (envOfC "_law_told" (defScope s_told) s.heap.objs.size f cdv)).units + 5 < cLine := by have := hr.units; omega
  refine ⟨_, (@pss_cons _ _ _ _ _ (ps_set (i := 4) sc.nd rfl (Or.inl rfl) (pe_cl c_verdict hr rfl (pa_cons (pv 0) (pa_cons (pv 1) pa_nil))))
      (@pss_cons _ _ _ _ _ (ps_if (PW.pt (pw_or (pt_not (pt_val (pe_callB call_isi rfl m_isinstance PyProof.Rows.boot_isinstance (pa_cons (pv 4) (pa_cons (pe_bltn rfl m_tuple PyProof.Rows.boot_tuple (v := .ty "tuple") rfl) pa_nil))))) (pw_or1 (pt_cmpR op_ne (pe_callB call_len_seq rfl m_len PySem.boot_len (pa_cons (pv 4) pa_nil)) pe_int (nomark _))))) (pss_one (ps_ret pe_bl)) pss_nil)
      (@pss_cons _ _ _ _ _ (ps_asg (pv 1) (pg_tup rfl (pgs_cons (pg_name (i := 5) sc.nd rfl (Or.inl rfl)) (pgs_cons (pg_name (i := 6) sc.nd rfl (Or.inl rfl)) (pgs_cons (pg_name (i := 7) sc.nd rfl (Or.inl rfl)) pgs_nil)))))
      (@pss_cons _ _ _ _ _ (ps_if (pt_val (pv 3)) (@pss_cons _ _ _ _ _ (ps_if (PW.pt (pw_or (pt_cmpR op_ne (pe_ix ix_tup (pv 4) pe_int (fun _ _ => rfl)) pe_str (nomark _)) (pw_or (pt_not (pt_val (pe_callB call_isi rfl m_isinstance PyProof.Rows.boot_isinstance (pa_cons (pe_ix ix_tup (pv 4) pe_int (fun _ _ => rfl)) (pa_cons (pe_bltn rfl m_list PyProof.Rows.boot_list (v := .ty "list") rfl) pa_nil))))) (pw_or1 (pt_cmpR op_eq (pe_callB call_len_seq rfl m_len PySem.boot_len (pa_cons (pe_ix ix_tup (pv 4) pe_int (fun _ _ => rfl)) pa_nil)) pe_int (nomark _)))))) (pss_one (ps_ret pe_bl)) pss_nil)
      (@pss_cons _ _ _ _ _ (ps_set (i := 8) sc.nd rfl (Or.inl rfl) (pe_ix ix_tup (pe_ix ix_list (pe_ix ix_tup (pv 4) pe_int (fun _ _ => rfl)) pe_int (fun _ _ => rfl)) pe_int (fun _ _ => rfl)))
      (@pss_cons _ _ _ _ _ (ps_set (i := 9) sc.nd rfl (Or.inl rfl) (pe_cl c_law_road_sum hr rfl (pa_cons (pv 0) (pa_cons (pe_ix ix_tup (pv 4) pe_int (fun _ _ => rfl)) (pa_cons (pv 8) (pa_cons (pv 8) pa_nil))))))
      (pss_one (ps_ret (pe_and (pe_cmpR op_notN (pv 9) pe_non (nomark _)) (pe_one (pe_cmpR op_lt (pv 9) pe_int (nomark _))))))))) pss_nil)
      (@pss_cons _ _ _ _ _ (ps_if (PW.pt (pw_and (pt_cmp (pc_nin hun (pe_tup (pa_cons (pv 5) (pa_cons (pv 6) pa_nil))) (pv 2))) (pw_and1 (pt_cmpR op_le (pe_nget hun (pv 2) (pe_tup (pa_cons (pv 5) (pa_cons (pv 6) pa_nil))) (fun _ _ => rfl)) (pv 7) (nomark _))))) (@pss_cons _ _ _ _ _ (ps_set (i := 9) sc.nd rfl (Or.inl rfl) (pe_cl c_law_road_sum hr rfl (pa_cons (pv 0) (pa_cons (pe_ix ix_tup (pv 4) pe_int (fun _ _ => rfl)) (pa_cons (pv 5) (pa_cons (pv 6) pa_nil))))))
      (pss_one (ps_ret (pe_and (pe_cmpR op_eq (pe_ix ix_tup (pv 4) pe_int (fun _ _ => rfl)) pe_str (nomark _)) (pe_and (pe_cmpR op_notN (pv 9) pe_non (nomark _)) (pe_one (pe_cmpR op_le (pv 9) (pv 7) (nomark _)))))))) pss_nil)
      (pss_one (ps_ret (pe_and (pe_cmpR op_eq (pe_ix ix_tup (pv 4) pe_int (fun _ _ => rfl)) pe_str (nomark _)) (pe_one (pe_cl c_law_stands hr rfl (pa_cons (pe_ix ix_tup (pv 4) pe_int (fun _ _ => rfl)) (pa_cons (pv 0) (pa_cons (pv 1) pa_nil))))))))))))), ?_⟩
  refine ⟨_, rfl, _, rfl, lf, xs, fs, b, v, rfl, ef, hF, by omega, hb, fun H1 t1 wd u s1 e1 hV => ?_⟩
  have hb1' := hb.mono (Tp.of s1)
  have hF1 := hF.mono (Tp.of s1)
  have ef1 := s1 _ _ ef
  have w1 := w0.same s1
  obtain ⟨t, va, vb, rfl, et, ⟨ba, rfl, ka⟩, ⟨bb, rfl, kb⟩⟩ := id hb1'
  refine ⟨_, rfl, _, "tuple", _, true, rfl, .tup e1, rfl, _, rfl, iteF ?_⟩
  refine ⟨_, rfl, t1, _, rfl, .inr (SqT.of e1), rfl, _, rfl, ite2 (fun c => absurd c (show ¬ (!decide (V.int 2 = V.int 2)) = true by decide +kernel)) (fun _ => ?_)⟩
  refine ⟨_, rfl, t, _, rfl, SqT.of et, rfl, _, _, rfl, _, _, rfl, _, _, rfl, rfl, ?_⟩
  refine ⟨_, rfl, bel, rfl, ?_⟩
  cases bel with
  | true =>
    have hc := hb1 rfl
    refine iteT ?_
    rcases hV with ⟨rfl, p, gv, gs, rfl, ep, hg, _, hR, _⟩ | ⟨rfl, hnc, _⟩ | ⟨rfl, _, _, num2, _, _, _, _, _, _, hk2, _⟩
    rotate_left
    · exact absurd hc hnc
    · exact absurd (fun f hf => hk2 f (List.mem_cons_of_mem _ hf)) (hc num2)
    obtain ⟨g, rr, rfl, hrd⟩ := hR.head
    obtain ⟨y, yr, rfl, hgy⟩ : ∃ y yr, gv = y :: yr ∧ FactAt K H1 g y := by
      cases hg with
      | cons r t => exact ⟨_, _, rfl, r⟩
    obtain ⟨tg, v1, v2, rfl, etg, n1, n2⟩ := id hgy
    refine ⟨_, rfl, t1, _, 0, _, rfl, rfl, SqT.of e1, at0 _ _, rfl, _, rfl, ite2 (fun c => absurd c (by decide +kernel)) (fun _ => ?_)⟩
    refine ⟨_, rfl, t1, _, 1, _, rfl, rfl, SqT.of e1, at1 _ _ _, _, "list", _, true, rfl, .lst ep, rfl, _, rfl, iteF ?_⟩
    refine ⟨_, rfl, t1, _, 1, _, rfl, rfl, SqT.of e1, at1 _ _ _, p, _, rfl, .inl (SqL.of ep), rfl, _, rfl, ite2 (fun c => ?_) (fun _ => ?_)⟩
    · have := of_decide_eq_true c
      injection this with this
      rw [List.length_cons] at this
      omega
    refine ⟨_, rfl, t1, _, 1, _, rfl, rfl, SqT.of e1, at1 _ _ _, p, _, 0, _, rfl, rfl, SqL.of ep, at0 _ _, tg, _, 0, _, rfl, rfl, SqT.of etg, at0 _ _, ?_⟩
    refine ⟨_, rfl, _, rfl, t1, _, 1, _, rfl, rfl, SqT.of e1, at1 _ _ _, _, rfl, _, rfl, lf, p, xs, _, fs, g :: rr, g.a, g.a, v1, v1, rfl, ef1, hF1, ep, hg, n1, n1, hrd, hR.sub, ?_⟩
    refine ⟨_, rfl, rfl, _, rfl, iteT ⟨_, rfl, _, _, rfl, rfl, ?_⟩⟩
    dsimp only
    rw [decide_eq_true hR.neg]
    exact q _ s1
  | false =>
    have hnr := hb2 rfl
    refine iteF ?_
    dsimp only [gName, tSeq, tNext]
    refine ifs_bh (tLe (T b.a b.b) b.c) (fun Q q => ?_) (fun H2 s2 => ?_)
    · refine ⟨_, rfl, _, rfl, Nat.le_of_ble_eq_true rfl, fun t3 n3 => ?_⟩
      have u3 := same_new n3 (.tup [.ref ba, .ref bb])
      refine ⟨_, rfl, d, kv, t3, pK b.a b.b, rfl, rfl, (w1.same u3).dw.rd, kyN_pair upd_same (ky_mono ka (Tp.of u3)) (ky_mono kb (Tp.of u3)), _, rfl, ?_⟩
      rw [w1.ti b.a b.b]
      cases e : T b.a b.b with
      | none =>
        have q2 := q _ u3
        rw [e] at q2
        exact iteF q2
      | some x =>
        refine iteT ⟨_, rfl, _, rfl, _, rfl, Nat.le_of_ble_eq_true rfl, fun t4 n4 => ?_⟩
        have u4 := same_new n4 (.tup [.ref ba, .ref bb])
        have u34 := u3.trans u4
        have q2 := q _ u34
        rw [e] at q2
        exact ⟨d, kv, t4, pK b.a b.b, .int x, rfl, rfl, (w1.same u34).dw.rd, kyN_pair upd_same (ky_mono ka (Tp.of u34)) (ky_mono kb (Tp.of u34)), by rw [w1.ti b.a b.b, e]; rfl, _, rfl, _, _, rfl, rfl, _, rfl, q2⟩
    · generalize hB : tLe (T b.a b.b) b.c = B
      have s02 := s1.trans s2
      have e2 := s2 _ _ e1
      have ka2 := ky_mono ka (Tp.of s2)
      have kb2 := ky_mono kb (Tp.of s2)
      rcases hV with ⟨rfl, _, _, gs, _, _, _, _, hR, _⟩ | ⟨rfl, hnc, p, ys, hs, rfl, ep, hhs, hsl, hrd, hsm, hsub, _⟩ | ⟨rfl, ds, kvs, num2, rfl, hds, hnd, hz, _, hv, hk2, hki⟩
      · exact absurd hR (hnr gs)
      · -- a road is told
        obtain ⟨num, hk⟩ := not_clash hnc
        obtain ⟨hs', g1, g2, g3, g4⟩ := simple_road hk hs.length (Nat.le_refl _) hsub hrd
        obtain ⟨x, ex, hx⟩ := ok.up b.a b.b hs' hbn g1 g2 g3
        have hyes : B = true := by rw [← hB, ex]; exact decide_eq_true (by omega)
        subst hyes
        refine iteT ⟨_, rfl, _, rfl, t1, _, 1, _, rfl, rfl, SqT.of e2, at1 _ _ _, _, rfl, _, rfl, lf, p, xs, ys, fs, hs, b.a, b.b, .ref ba, .ref bb, rfl, s2 _ _ ef1, hF1.mono (Tp.of s2), s2 _ _ ep, hhs.mono (Tp.of s2), ⟨ba, rfl, ka2⟩, ⟨bb, rfl, kb2⟩, hrd, hsub, ?_⟩
        refine ⟨_, rfl, t1, _, 0, _, rfl, rfl, SqT.of e2, at0 _ _, rfl, _, rfl, iteT ⟨_, rfl, rfl, _, rfl, iteT ⟨_, rfl, _, rfl, _, _, rfl, rfl, ?_⟩⟩⟩
        dsimp only
        rw [decide_eq_true hsm]
        exact q _ s02
      · -- numbers are told
        have hno : (tLe (T b.a b.b) b.c) = false := by
          cases e : T b.a b.b with
          | none => rfl
          | some x =>
            refine decide_eq_false fun hle => ?_
            obtain ⟨gs, g1, g2, g3⟩ := ok.real _ _ _ e
            have h1 := g2.keep fun g hg => hk2 g (List.mem_cons_of_mem _ (g1 g hg))
            have h2 : num2 b.b - num2 b.a ≤ -1 - b.c := hk2 _ List.mem_cons_self
            omega
        rw [hB] at hno
        subst hno
        refine iteF ⟨_, rfl, t1, _, 0, _, rfl, rfl, SqT.of e2, at0 _ _, rfl, _, rfl, iteT ?_⟩
        exact ⟨_, rfl, t1, _, 1, _, rfl, rfl, SqT.of e2, at1 _ _ _, _, rfl, _, rfl, ds, lf, xs, kvs, num2, fs, b, .ref t, rfl, dw_keep hds (s2 ds), s2 _ _ ef1, hF1.mono (Tp.of s2), hb1'.mono (Tp.of s2), hz, hv, hk2, hki, fun H3 s3 => q _ (s02.trans s3)⟩
end
end K34
set_option Elab.async false
set_option linter.all false
set_option maxRecDepth 100000
set_option maxHeartbeats 4000000
namespace K34
open PySem PySem.Spec PyProof.Rows L2
noncomputable abbrev s_law : Stmt := top 27
theorem sc_law : FnScope ["_law_script", "_law_pool_here", "_law_facts_here", "_law_strangers", "_law_nodes", "_law_table_here", "_law_below", "_law_a", "_law_handed", "_law_k", "_law_cell", "_law_b", "_law_c_here"] ["_law_script"] (defScope s_law) := ⟨rfl, rfl, rfl, by decide +kernel, rfl, by decide +kernel, by decide +kernel⟩
noncomputable def spLaw (K : PySem.W.Frag) : Sp := fun vs H Q _ => ExQ Q (fun (a : Addr) Q => ExQ Q (fun (ns : List Int) Q => vs = [.ref a] ∧ SqL K H a (ns.map V.int) ∧ ns.length ≤ 63 ∧ ∀ H', Q (.bl true) H'))
theorem paired_app {α β : Type} {F : α → β → Prop} {l l' : List α} {m m' : List β} (h : Paired F l m) (k : Paired F l' m') : Paired F (l ++ l') (m ++ m') := by
  induction h with
  | nil => exact k
  | cons r t ih => exact .cons r ih
theorem TabOk.diag {fs : List Fct} {ns : List Node} {T : Tb} (h : TabOk fs ns T) {k : Node} (hk : k ∈ ns) : ∃ x, T k k = some x := by
  obtain ⟨x, e, _⟩ := h.up k k [] hk (fun g h => absurd h List.not_mem_nil) rfl List.nodup_nil
  exact ⟨x, e⟩
theorem TabOk.clash {fs : List Fct} {ns : List Node} {T : Tb} (h : TabOk fs ns T) {k : Node} {x : Int} (e : T k k = some x) (hx : x < 0) : Clash fs := fun num hk => by
  obtain ⟨gs, h1, h2, h3⟩ := h.real k k x e
  have := h2.keep fun g hg => hk g (h1 g hg)
  omega
theorem TabOk.ring {fs gs : List Fct} {ns : List Node} {T : Tb} (h : TabOk fs ns T) (hR : IsRing fs gs) (hn : ∀ f ∈ fs, f.a ∈ ns ∧ f.b ∈ ns) : ∃ k ∈ ns, ∃ x, T k k = some x ∧ x < 0 := by
  obtain ⟨g, r, eg, hrd⟩ := hR.head
  have hg : g ∈ gs := by rw [eg]; exact List.mem_cons_self
  have hga := (hn g (hR.sub g hg)).1
  obtain ⟨x, e, hx⟩ := h.up g.a g.a gs hga hR.sub hrd (by
    unfold mid
    exact List.Sublist.nodup ((List.dropLast_sublist gs).map Fct.b) hR.nd)
  have := hR.neg
  exact ⟨g.a, hga, x, e, by omega⟩
section
variable {P : Program} {w : World} {K : PySem.W.Frag} {mg : Str → Option Value} {base : Heap} {f : Addr} {fd : FuncData} {n : Nat}
theorem ok_law (F : Fun K "law" "law" s_law f fd) (m_range : mg "range" = none) (m_abs : mg "abs" = none) (m_len : mg "len" = none) (m_list : mg "list" = none) (m_min : mg "min" = none) (c_law_draw : Cl P w K mg base "_law_draw" n ["_law_script", "_law_k"] (spDraw K)) (c_law_pool : Cl P w K mg base "_law_pool" n ["_law_script", "_law_at", "_law_many"] (spPool K)) (c_law_facts : Cl P w K mg base "_law_facts" n ["_law_script", "_law_pool_here"] (spFacts K)) (c_law_table : Cl P w K mg base "_law_table" n ["_law_nodes", "_law_facts_here"] (spTable K)) (c_law_c : Cl P w K mg base "_law_c" n ["_law_cell"] spC) (c_law_told : Cl P w K mg base "_law_told" n ["_law_facts_here", "_law_bound", "_law_table_here", "_law_below"] (spTold K)) : FnOk P w K mg base CX0 (n + 1) f fd ["_law_script"] (spLaw K) := by
  refine F.ok sc_law (fun vs H Q E h => ?_) (fun cdv A outer s H vs Q E hr h => ?_)
  · obtain ⟨a, ns, rfl, _⟩ := h
    rfl
  obtain ⟨a, is, rfl, hS, h63, q⟩ := h
  have sc := sc_law
  have hu9 : (A.deeper (envOfC "law" (defScope s_law) s.heap.objs.size f cdv)).units + 1 + 9 < cLine := by have := hr.units; omega
  have hun : (A.deeper (envOfC "law" (defScope s_law) s.heap.objs.size f cdv)).units + 5 < cLine := by have := hr.units; omega
  refine ⟨_, (@pss_cons _ _ _ _ _ (ps_set (i := 1) sc.nd rfl (Or.inr rfl) (pe_cl c_law_pool hr rfl (pa_cons (pv 0) (pa_cons pe_int (pa_cons (pe_op op_add pe_int (pe_op op_mod (pe_cl c_law_draw hr rfl (pa_cons (pv 0) (pa_cons pe_int pa_nil))) pe_int)) pa_nil)))))
      (@pss_cons _ _ _ _ _ (ps_set (i := 2) sc.nd rfl (Or.inl rfl) (pe_cl c_law_facts hr rfl (pa_cons (pv 0) (pa_cons (pv 1) pa_nil))))
      (@pss_cons _ _ _ _ _ (ps_set (i := 3) sc.nd rfl (Or.inl rfl) (pe_lst (pa_cons (pe_tup (pa_cons pe_str (pa_cons (pe_op op_mod (pe_cl c_law_draw hr rfl (pa_cons (pv 0) (pa_cons pe_int pa_nil))) pe_int) (pa_cons (pe_op op_mod (pe_op op_fdiv (pe_cl c_law_draw hr rfl (pa_cons (pv 0) (pa_cons pe_int pa_nil))) pe_int) pe_int) pa_nil)))) (pa_cons (pe_tup (pa_cons pe_str (pa_cons (pe_op op_mod (pe_cl c_law_draw hr rfl (pa_cons (pv 0) (pa_cons pe_int pa_nil))) pe_int) pa_nil))) pa_nil))))
      (@pss_cons _ _ _ _ _ (ps_set (i := 4) sc.nd rfl (Or.inl rfl) (pe_op op_cat (pv 1) (pe_comp ["_law_node_here"] rfl (cmp_ok (N := ["_law_script", "_law_pool_here", "_law_facts_here", "_law_strangers", "_law_nodes", "_law_table_here", "_law_below", "_law_a", "_law_handed", "_law_k", "_law_cell", "_law_b", "_law_c_here"]) (so := defScope s_law) rfl rfl (by decide +kernel)) (pi_list (pv 3)) (fun _ _ _ _ _ _ => (pg_name (i := 0) (show List.Nodup (α := Str) ["_law_node_here", "_law_script", "_law_pool_here", "_law_facts_here", "_law_strangers", "_law_nodes", "_law_table_here", "_law_below", "_law_a", "_law_handed", "_law_k", "_law_cell", "_law_b", "_law_c_here"] by decide +kernel) rfl (Or.inl rfl) (Or.inr rfl))) (fun _ _ _ _ _ _ => (pifs_one (pt_cmp (pc_notinLK (K := K) (n := 9) rfl (pv 0) (pv 2) hu9)))) (fun _ _ _ _ _ _ => (pv 0)))))
      (@pss_cons _ _ _ _ _ (ps_set (i := 5) sc.nd rfl (Or.inr rfl) (pe_cl c_law_table hr rfl (pa_cons (pv 4) (pa_cons (pv 2) pa_nil))))
      (@pss_cons _ _ _ _ _ (ps_set (i := 6) sc.nd rfl (Or.inl rfl) (pe_cmpR op_lt (pe_callB (call_minL rfl) rfl m_min PyProof.Rows.boot_min (pa_cons (pe_comp ["_law_node_here"] rfl (cmp_ok (N := ["_law_script", "_law_pool_here", "_law_facts_here", "_law_strangers", "_law_nodes", "_law_table_here", "_law_below", "_law_a", "_law_handed", "_law_k", "_law_cell", "_law_b", "_law_c_here"]) (so := defScope s_law) rfl rfl (by decide +kernel)) (pi_list (pv 4)) (fun _ _ _ _ _ _ => (pg_name (i := 0) (show List.Nodup (α := Str) ["_law_node_here", "_law_script", "_law_pool_here", "_law_facts_here", "_law_strangers", "_law_nodes", "_law_table_here", "_law_below", "_law_a", "_law_handed", "_law_k", "_law_cell", "_law_b", "_law_c_here"] by decide +kernel) rfl (Or.inl rfl) (Or.inr rfl))) (fun _ _ _ _ _ _ => pifs_nil) (fun _ _ _ _ _ _ => (pe_ngetK (K := K) rfl (pv 6) (pe_tup (pa_cons (pv 0) (pa_cons (pv 0) pa_nil))) (fun _ _ => rfl) hun))) pa_nil)) pe_int (nomark _)))
      (@pss_cons _ _ _ _ _ (ps_set (i := 7) sc.nd rfl (Or.inl rfl) (pe_ix ix_list (pv 4) (pe_op op_mod (pe_op op_fdiv (pe_cl c_law_draw hr rfl (pa_cons (pv 0) (pa_cons pe_int pa_nil))) pe_int) (pe_callB call_len_seq rfl m_len PySem.boot_len (pa_cons (pv 4) pa_nil))) (fun _ _ => rfl)))
      (@pss_cons _ _ _ _ _ (ps_set (i := 8) sc.nd rfl (Or.inl rfl) (pe_callTy call_list_of rfl m_list PyProof.Rows.boot_list (pa_cons (pv 2) pa_nil)))
      (@pss_cons _ _ _ _ _ (ps_for PassesOwn.never rfl (pi_range1 rfl m_range (pa_cons pe_int pa_nil)) (pg_name (i := 9) sc.nd rfl (Or.inl rfl)) (@pss_cons _ _ _ _ _ (ps_set (i := 10) sc.nd rfl (Or.inl rfl) (pe_cl c_law_draw hr rfl (pa_cons (pv 0) (pa_cons (pe_op op_add pe_int (pv 9)) pa_nil))))
      (@pss_cons _ _ _ _ _ (ps_set (i := 11) sc.nd rfl (Or.inl rfl) (pe_ix ix_list (pv 4) (pe_op op_mod (pe_op op_fdiv (pv 10) pe_int) (pe_callB call_len_seq rfl m_len PySem.boot_len (pa_cons (pv 4) pa_nil))) (fun _ _ => rfl)))
      (@pss_cons _ _ _ _ _ (ps_set (i := 12) sc.nd rfl (Or.inl rfl) (pe_cl c_law_c hr rfl (pa_cons (pe_op op_fdiv (pv 10) pe_int) pa_nil)))
      (@pss_cons _ _ _ _ _ (ps_if (PW.pt (pw_and (pt_not (pt_val (pv 6))) (pw_and (pt_cmp (pc_nin hun (pe_tup (pa_cons (pv 7) (pa_cons (pv 11) pa_nil))) (pv 5))) (pw_and1 (pt_cmpR op_lt (pe_op op_mod (pv 10) pe_int) pe_int (nomark _)))))) (pss_one (ps_set (i := 12) sc.nd rfl (Or.inl rfl) (pe_op op_sub (pe_op op_add (pe_nget hun (pv 5) (pe_tup (pa_cons (pv 7) (pa_cons (pv 11) pa_nil))) (fun _ _ => rfl)) (pe_op op_mod (pv 10) pe_int)) pe_int))) pss_nil)
      (pss_one (ps_if (pt_cmpR op_le (pe_callB call_abs rfl m_abs PyProof.Rows.boot_abs (pa_cons (pv 12) pa_nil)) (pe_op op_pow pe_int pe_int) (nomark _)) (pss_one (ps_if (PW.pt (pw_or (pt_not (pt_val (pe_cl c_law_told hr rfl (pa_cons (pv 8) (pa_cons (pe_tup (pa_cons (pv 7) (pa_cons (pv 11) (pa_cons (pv 12) pa_nil)))) (pa_cons (pv 5) (pa_cons (pv 6) pa_nil))))))) (pw_or1 (pt_cmpR (op_neDL (n := 9) hu9) (pv 8) (pv 2) (nomark _))))) (pss_one (ps_ret pe_bl)) pss_nil)) pss_nil)))))))
      (pss_one (ps_ret pe_bl))))))))))), ?_⟩
  refine ⟨_, rfl, _, rfl, a, is, _, rfl, hS, h63, by decide, by decide, fun c0 => ?_⟩
  obtain ⟨many, em, hm0, hm1⟩ : ∃ m : Nat, 1 + c0 % 7 = (m : Int) ∧ 0 < m ∧ m ≤ 7 := by
    have h1 : 0 ≤ c0 % 7 ∧ c0 % 7 < 7 := ⟨Int.emod_nonneg _ (by decide), Int.emod_lt_of_pos _ (by decide)⟩
    exact ⟨(1 + c0 % 7).toNat, by omega, by omega, by omega⟩
  refine ⟨_, _, rfl, rfl, (by decide : (0 : Int) < 7), _, _, rfl, rfl, a, is, 66, many, congrArg (fun z => [V.ref a, V.int 66, V.int z]) em, hS, h63, by decide, by decide, hm0, by omega, fun H1 p bs ks s1 ep hks hk0 hkl => ?_⟩
  refine ⟨_, rfl, _, rfl, a, is, p, bs, ks, rfl, s1.seq hS, h63, ep, hks, hk0, by omega, fun H2 r xs fs s2 er hF hfl hfk => ?_⟩
  have s02 := s1.trans s2
  refine ⟨_, rfl, a, is, _, rfl, s02.seq hS, h63, by decide, by decide, fun c1 => ⟨_, _, rfl, rfl, (by decide : (0 : Int) < 6), _, rfl, a, is, _, rfl, s02.seq hS, h63, by decide, by decide, fun c2 => ⟨_, _, rfl, rfl, ⟨by decide, by decide⟩, _, _, rfl, rfl, (by decide : (0 : Int) < 201), Nat.le_of_ble_eq_true rfl, fun tq ntq => ?_⟩⟩⟩
  have u3 := same_new ntq (.tup [.str "name", .int (c1 % 6), .int (c2 / 6 % 201)])
  have kq : Ky K (upd H2 tq (.tup [.str "name", .int (c1 % 6), .int (c2 / 6 % 201)])) tq [.inr "name", .inl (c1 % 6), .inl (c2 / 6 % 201)] := .inl upd_same
  dsimp only
  generalize upd H2 tq (.tup [.str "name", .int (c1 % 6), .int (c2 / 6 % 201)]) = H3 at u3 kq
  generalize ([.inr "name", .inl (c1 % 6), .inl (c2 / 6 % 201)] : Node) = sn at kq
  have s03 := s02.trans u3
  refine ⟨_, rfl, a, is, _, rfl, s03.seq hS, h63, by decide, by decide, fun c3 => ⟨_, _, rfl, rfl, (by decide : (0 : Int) < 3), Nat.le_of_ble_eq_true rfl, fun tr ntr => ?_⟩⟩
  have u4 := same_new ntr (.tup [.str "len", .int (c3 % 3)])
  have kr : Ky K (upd H3 tr (.tup [.str "len", .int (c3 % 3)])) tr [.inr "len", .inl (c3 % 3)] := .inl upd_same
  dsimp only
  generalize upd H3 tr (.tup [.str "len", .int (c3 % 3)]) = H4 at u4 kr
  generalize ([.inr "len", .inl (c3 % 3)] : Node) = sr at kr
  refine ⟨Nat.le_of_ble_eq_true rfl, fun p6 n6 => ?_⟩
  have v5 := same_new n6 (.lst [.ref tq, .ref tr])
  have e6 : upd H4 p6 (.lst [.ref tq, .ref tr]) p6 = some (.lst ([tq, tr].map V.ref)) := upd_same
  generalize upd H4 p6 (.lst [.ref tq, .ref tr]) = H6 at v5 e6
  have hst : KysAt K H6 [sn, sr] [tq, tr] := .cons (ky_mono kq (Tp.of (u4.trans v5))) (.cons (ky_mono kr (Tp.of v5)) .nil)
  have s26 := u3.trans (u4.trans v5)
  have ep6 := (s2.trans s26) _ _ ep
  have hks6 := hks.mono (Tp.of (s2.trans s26))
  have er6 := s26 _ _ er
  have hF6 := hF.mono (Tp.of s26)
  have s06 := s02.trans s26
  have lkb : ks.length = bs.length := Paired.length hks
  clear kq kr u3 u4 v5 s03 s26 ep hks er hF s1 s2 s02
  refine ⟨_, rfl, _, rfl, p6, rfl, ⟨_, SqL.of e6⟩, fun pc npc => ?_⟩
  refine comp_list (xs := [tq, tr].map V.ref) (fun i H' => Same H6 H' ∧ ∃ (cs : List Addr) (ms : List Node), H' pc = some (.lst (cs.map V.ref)) ∧ KysAt K H' ms cs ∧ ms.length ≤ i) ⟨same_new npc _, [], [], upd_same, .nil, Nat.le_refl _⟩ (fun i H' _ h => SqL.of (h.1 _ _ e6)) (fun i y H' ey h => ?_) (fun H7 h => ?_)
  · obtain ⟨sm, cs, ms, ec, hms, hml⟩ := h
    obtain ⟨k, b, _, rfl, kb, _⟩ := kys_get hst ey
    have hi : i < 2 := (List.getElem?_eq_some_iff.mp ey).1
    refine ⟨⟨[some (.ref b)], rfl, rfl⟩, _, rfl, _, rfl, p, _, _, _, rfl, SqL.of (sm _ _ ep6), nodes_is (hks6.mono (Tp.of sm)), node_is ⟨_, rfl, ky_mono kb (Tp.of sm)⟩, deps_node ks, _, rfl, ite2 (fun cc => ?_) (fun cc => ⟨sm, cs, ms, ec, hms, by omega⟩)⟩
    have tp := tp_lst (ys := cs.map V.ref ++ [.ref b]) ec
    have lc : ms.length = cs.length := Paired.length hms
    exact ⟨_, rfl, _, ec, small1 (by rw [List.length_map]; omega), (fun c o e => by rw [upd_ne (ne_of_none e npc)]; exact sm c o e), cs ++ [b], ms ++ [k], by rw [List.map_append]; exact upd_same, Paired.snoc (hms.mono tp) (ky_mono (ky_mono kb (Tp.of sm)) tp), by rw [List.length_append, List.length_singleton]; omega⟩
  obtain ⟨s7, cs, ms, ec, hms, hml⟩ := h
  have hml : ms.length ≤ 2 := hml
  have lc : ms.length = cs.length := Paired.length hms
  refine ⟨p, pc, _, _, rfl, rfl, s7 _ _ ep6, ec, (by rw [sizeLine_eq, List.length_map, List.length_map]; omega), fun pn npn => ?_⟩
  have v8 := same_new npn (.lst (bs.map V.ref ++ cs.map V.ref))
  have en : upd H7 pn (.lst (bs.map V.ref ++ cs.map V.ref)) pn = some (.lst ((bs ++ cs).map V.ref)) := by rw [upd_same, List.map_append]
  generalize upd H7 pn (.lst (bs.map V.ref ++ cs.map V.ref)) = H8 at v8 en
  have s68 := s7.trans v8
  have hN : KysAt K H8 (ks ++ ms) (bs ++ cs) := paired_app (hks6.mono (Tp.of s68)) (hms.mono (Tp.of v8))
  have hN0 : 0 < (ks ++ ms).length := by rw [List.length_append]; omega
  have hN40 : (ks ++ ms).length ≤ 40 := by rw [List.length_append]; omega
  have hfn : ∀ f ∈ fs, f.a ∈ ks ++ ms ∧ f.b ∈ ks ++ ms := fun f hf => ⟨List.mem_append_left _ (hfk f hf).1, List.mem_append_left _ (hfk f hf).2⟩
  have er8 := s68 _ _ er6
  have hF8 := hF6.mono (Tp.of s68)
  have s08 := s06.trans s68
  clear hms ec s7 v8 hks6 ep6 e6 hst s68 er6 hF6 s06 hfk
  generalize ks ++ ms = ns at hN hN0 hN40 hfn
  generalize bs ++ cs = zs at hN en
  refine ⟨_, rfl, _, rfl, pn, r, zs, ns, xs, fs, rfl, en, hN, hN40, er8, hF8, hfn, fun H3 d kv T s3 _ w3 ok => ?_⟩
  have en3 := s3 _ _ en
  have hN3 := hN.mono (Tp.of s3)
  have lnz : ns.length = zs.length := Paired.length hN3
  have s03 := s08.trans s3
  refine ⟨_, rfl, pn, rfl, ⟨_, SqL.of en3⟩, fun pc npc => ?_⟩
  refine comp_list (xs := zs.map V.ref) (fun i H' => Same H3 H' ∧ ∃ vs : List Int, H' pc = some (.lst (vs.map V.int)) ∧ vs.length = i ∧ (∀ k ∈ ns.take i, ∃ x ∈ vs, T k k = some x) ∧ ∀ x ∈ vs, ∃ k ∈ ns, T k k = some x) ⟨same_new npc _, [], upd_same, rfl, fun k h => by simp at h, fun x h => absurd h List.not_mem_nil⟩ (fun i H' _ h => SqL.of (h.1 _ _ en3)) (fun i y H' ey h => ?_) (fun H4 h => ?_)
  · obtain ⟨sm, vs, ev, hl, h1, h2⟩ := h
    obtain ⟨k, b, ek, rfl, kb, hk⟩ := kys_get hN3 ey
    have hi : i < ns.length := (List.getElem?_eq_some_iff.mp ek).1
    have etk : ns.take (i + 1) = ns.take i ++ [k] := by rw [List.take_add_one, ek]; rfl
    obtain ⟨x, ex⟩ := ok.diag hk
    refine ⟨⟨[some (.ref b)], rfl, rfl⟩, tTrue_ite ⟨_, rfl, _, rfl, _, rfl, Nat.le_of_ble_eq_true rfl, fun t nt => ?_⟩⟩
    have ut := same_new nt (.tup [.ref b, .ref b])
    have st := sm.trans ut
    have kb' := ky_mono kb (Tp.of st)
    refine ⟨d, kv, t, pK k k, .int x, rfl, rfl, (w3.same st).dw.rd, kyN_pair upd_same kb' kb', by rw [w3.ti k k, ex]; rfl, _, ut _ _ ev, small1 (by rw [List.length_map]; omega), (fun c o e => by rw [upd_ne (ne_of_none e npc)]; exact st c o e), vs ++ [x], by rw [List.map_append]; exact upd_same, by rw [List.length_append, List.length_singleton, hl], fun k' hk' => ?_, fun y hy => ?_⟩
    · rw [etk] at hk'
      rcases List.mem_append.mp hk' with h | h
      · obtain ⟨y, hy, e⟩ := h1 k' h
        exact ⟨y, List.mem_append_left _ hy, e⟩
      · rw [List.mem_singleton.mp h]
        exact ⟨x, List.mem_append_right _ (List.mem_singleton.mpr rfl), ex⟩
    · rcases List.mem_append.mp hy with h | h
      · exact h2 y h
      · rw [List.mem_singleton.mp h]; exact ⟨k, hk, ex⟩
  obtain ⟨s4, vs, ev, hvl, hv1, hv2⟩ := h
  rw [List.length_map, ← lnz, List.take_of_length_le (Nat.le_refl _)] at hv1
  refine ⟨pc, vs, rfl, SqL.of ev, by rw [hvl, List.length_map]; omega, fun m hm hmin => ⟨_, _, rfl, rfl, ?_⟩⟩
  dsimp only
  have bel1 : decide (m < 0) = true → Clash fs := fun h => by
    obtain ⟨k, _, e⟩ := hv2 m hm
    exact ok.clash e (of_decide_eq_true h)
  have bel2 : decide (m < 0) = false → ∀ gs, ¬ IsRing fs gs := fun h gs hR => by
    obtain ⟨k, hk, x, e, hx⟩ := ok.ring hR hfn
    obtain ⟨y, hy, e2⟩ := hv1 k hk
    rw [e] at e2
    cases e2
    have h1 := hmin x hy
    have h2 := of_decide_eq_false h
    omega
  generalize decide (m < 0) = bel at bel1 bel2
  have s84 := s3.trans s4
  have s04 := s08.trans s84
  have en4 := s84 _ _ en
  have hN4 := hN.mono (Tp.of s84)
  have er4 := s84 _ _ er8
  have hF4 := hF8.mono (Tp.of s84)
  have w4 := w3.same s4
  have lpos : (0 : Int) < ((zs.map V.ref).length : Int) := by rw [List.length_map]; omega
  refine ⟨_, rfl, _, rfl, a, is, _, rfl, s04.seq hS, h63, by decide, by decide, fun c4 => ?_⟩
  obtain ⟨ka, ba, eba, kya, hka⟩ := kys_mod hN4 hN0 (c4 / 12)
  refine ⟨_, _, rfl, rfl, ⟨by decide, by decide⟩, _, rfl, pn, _, rfl, .inl (SqL.of en4), _, _, rfl, rfl, lpos, pn, _, _, _, rfl, rfl, SqL.of en4, eba, ?_⟩
  refine ⟨_, rfl, r, _, rfl, .inl (SqL.of er4), fun ph nph => ?_⟩
  have v5 := same_new nph (.lst xs)
  have eh : upd H4 ph (.lst xs) ph = some (.lst xs) := upd_same
  generalize upd H4 ph (.lst xs) = H5 at v5 eh
  have er5 := v5 _ _ er4
  have hF5 := hF4.mono (Tp.of v5)
  have en5 := v5 _ _ en4
  have hN5 := hN4.mono (Tp.of v5)
  have w5 := w4.same v5
  have kya5 := ky_mono kya (Tp.of v5)
  have s05 := s04.trans v5
  clear er4 hF4 s4 ev hv1 hv2 hm hmin s3 w3 w4 en4 hN4 en3 hN3 en hN er8 hF8 s84 s04 s03 s08 kya v5
  refine ⟨_, rfl, by omega, by omega, ?_⟩
  refine for_range (n := 4) (fun i σ H' => ∃ (y9 y10 y11 y12 : Option V), Same H5 H' ∧ σ = [some (.ref a), some (.ref p), some (.ref r), some (.ref p6), some (.ref pn), some (.ref d), some (.bl bel), some (.ref ba), some (.ref ph), y9, y10, y11, y12]) ⟨_, _, _, _, .refl _, rfl⟩ (fun i σ H6 hi h => ?_) (fun σ H6 h => ?_)
  · obtain ⟨y9, y10, y11, y12, s6, rfl⟩ := h
    have en6 := s6 _ _ en5
    have hN6 := hN5.mono (Tp.of s6)
    refine ⟨_, rfl, _, rfl, _, _, rfl, rfl, a, is, _, rfl, (s05.trans s6).seq hS, h63, by omega, by omega, fun c => ?_⟩
    obtain ⟨kb, bb, ebb, kyb, hkb⟩ := kys_mod hN6 hN0 (c / 64)
    refine ⟨_, rfl, _, rfl, _, _, rfl, rfl, ⟨by decide, by decide⟩, _, rfl, pn, _, rfl, .inl (SqL.of en6), _, _, rfl, rfl, lpos, pn, _, _, _, rfl, rfl, SqL.of en6, ebb, ?_⟩
    refine ⟨_, rfl, _, _, rfl, rfl, ⟨by decide, by decide⟩, _, rfl, fun x0 => ?_⟩
    have w6 := w5.same s6
    have kya6 := ky_mono kya5 (Tp.of s6)
    dsimp only [gName, tSeq, tNext]
    refine ifs_nx (fun σ' H' => ∃ x : Int, Same H6 H' ∧ σ' = [some (.ref a), some (.ref p), some (.ref r), some (.ref p6), some (.ref pn), some (.ref d), some (.bl bel), some (.ref ba), some (.ref ph), some (.int (0 + (i : Int))), some (.int c), some (.ref bb), some (.int x)]) (fun σ' H7 h => ?_) (fun D' hD => ?_)
    rotate_left
    · refine ⟨_, rfl, _, rfl, ite2 (fun _ => ?_) (fun _ => iteF (hD _ _ ⟨_, .refl _, rfl⟩))⟩
      refine ⟨_, rfl, _, rfl, Nat.le_of_ble_eq_true rfl, fun t3 n3 => ?_⟩
      have u3 := same_new n3 (.tup [.ref ba, .ref bb])
      refine ⟨_, rfl, d, kv, t3, pK ka kb, rfl, rfl, (w6.same u3).dw.rd, kyN_pair upd_same (ky_mono kya6 (Tp.of u3)) (ky_mono kyb (Tp.of u3)), _, rfl, ?_⟩
      rw [w6.ti ka kb]
      cases e : T ka kb with
      | none => exact iteF (iteF (hD _ _ ⟨_, u3, rfl⟩))
      | some x =>
        refine iteT ⟨_, rfl, _, _, rfl, rfl, (by decide : (0 : Int) < 4), _, _, rfl, rfl, _, rfl, ite2 (fun _ => ?_) (fun _ => hD _ _ ⟨_, u3, rfl⟩)⟩
        refine ⟨_, rfl, _, rfl, _, rfl, Nat.le_of_ble_eq_true rfl, fun t4 n4 => ?_⟩
        have u4 := same_new n4 (.tup [.ref ba, .ref bb])
        have u34 := u3.trans u4
        exact ⟨d, kv, t4, pK ka kb, .int x, rfl, rfl, (w6.same u34).dw.rd, kyN_pair upd_same (ky_mono kya6 (Tp.of u34)) (ky_mono kyb (Tp.of u34)), by rw [w6.ti ka kb, e]; rfl, _, rfl, _, _, rfl, rfl, (by decide : (0 : Int) < 4), _, _, rfl, rfl, _, _, rfl, rfl, hD _ _ ⟨_, u34, rfl⟩⟩
    · obtain ⟨x, s7, rfl⟩ := h
      have s57 := s6.trans s7
      refine ⟨_, rfl, _, rfl, _, _, rfl, rfl, ⟨by decide, by decide, by decide⟩, _, _, rfl, rfl, _, rfl, ite2 (fun _ => ?_) (fun _ => ⟨_, _, _, _, s57, rfl⟩)⟩
      refine ⟨_, rfl, _, rfl, _, rfl, _, rfl, Nat.le_of_ble_eq_true rfl, fun t nt => ?_⟩
      have ut := same_new nt (.tup [.ref ba, .ref bb, .int x])
      have s5t := s57.trans ut
      have s7t := s7.trans ut
      refine ⟨_, rfl, _, rfl, ph, d, xs, fs, ⟨ka, kb, x⟩, .ref t, bel, kv, ns, T, rfl, s5t _ _ eh, hF5.mono (Tp.of s5t), by omega, ⟨t, .ref ba, .ref bb, rfl, upd_same, ⟨ba, rfl, ky_mono kya6 (Tp.of s7t)⟩, ⟨bb, rfl, ky_mono kyb (Tp.of s7t)⟩⟩, w6.same s7t, ok, hka, bel1, bel2, fun H9 s9 => ?_⟩
      have s59 := s5t.trans s9
      have hF9 := hF5.mono (Tp.of s59)
      exact ⟨_, rfl, iteF ⟨_, rfl, _, rfl, ph, r, _, _, _, _, rfl, rfl, SqL.of (s59 _ _ eh), SqL.of (s59 _ _ er5), facts_is hF9, facts_is hF9, deps_fact fs, false, by rw [D.beqL_self]; rfl, iteF ⟨_, _, _, _, s59, rfl⟩⟩⟩
  · obtain ⟨y9, y10, y11, y12, s6, rfl⟩ := h
    exact q _
end
end K34
set_option Elab.async false
set_option linter.all false
set_option maxRecDepth 100000
set_option maxHeartbeats 4000000
namespace K34
open PySem PySem.Spec PyProof.Rows L2
theorem lenS {n : Nat} {us : List Value} (hl : us.length = n + 1) : ∃ a t, us = a :: t ∧ t.length = n := by
  cases us with
  | nil => cases hl
  | cons a t => exact ⟨a, t, rfl, Nat.succ.inj hl⟩
theorem len1 {p : List Value → Prop} {us : List Value} (hl : us.length = 1) (h : ∀ a, p [a]) : p us := by
  obtain ⟨a, t, rfl, e⟩ := lenS hl
  obtain rfl := List.eq_nil_of_length_eq_zero e
  exact h a
theorem len2 {p : List Value → Prop} {us : List Value} (hl : us.length = 2) (h : ∀ a0 a1, p [a0, a1]) : p us := by
  obtain ⟨a, t, rfl, e⟩ := lenS hl
  exact len1 (p := fun t => p (a :: t)) e (h a)
theorem len3 {p : List Value → Prop} {us : List Value} (hl : us.length = 3) (h : ∀ a0 a1 a2, p [a0, a1, a2]) : p us := by
  obtain ⟨a, t, rfl, e⟩ := lenS hl
  exact len2 (p := fun t => p (a :: t)) e (h a)
theorem len4 {p : List Value → Prop} {us : List Value} (hl : us.length = 4) (h : ∀ a0 a1 a2 a3, p [a0, a1, a2, a3]) : p us := by
  obtain ⟨a, t, rfl, e⟩ := lenS hl
  exact len3 (p := fun t => p (a :: t)) e (h a)
theorem all_mk {l : PySem.W.OpenLaw} {w : World} {K : PySem.W.Frag} {h : Heap} {mg : Str → Option Value} {fa : Addr} (X : K.In h) (G : h.Ns mainGlobals mg) (hfa : mg "law" = some (.ref fa))
    {f1 : Addr} {od1 an1 : Option Addr} {sl1 : Array (Option Value)} {oc1 kV1 dc1 pm1 cd1 ct1 : Value}
    {f2 : Addr} {od2 an2 : Option Addr} {sl2 : Array (Option Value)} {oc2 kV2 dc2 pm2 cd2 ct2 : Value}
    {f3 : Addr} {od3 an3 : Option Addr} {sl3 : Array (Option Value)} {oc3 kV3 dc3 pm3 cd3 ct3 : Value}
    {f4 : Addr} {od4 an4 : Option Addr} {sl4 : Array (Option Value)} {oc4 kV4 dc4 pm4 cd4 ct4 : Value}
    {f5 : Addr} {od5 an5 : Option Addr} {sl5 : Array (Option Value)} {oc5 kV5 dc5 pm5 cd5 ct5 : Value}
    {f6 : Addr} {od6 an6 : Option Addr} {sl6 : Array (Option Value)} {oc6 kV6 dc6 pm6 cd6 ct6 : Value}
    {f7 : Addr} {od7 an7 : Option Addr} {sl7 : Array (Option Value)} {oc7 kV7 dc7 pm7 cd7 ct7 : Value}
    {f8 : Addr} {od8 an8 : Option Addr} {sl8 : Array (Option Value)} {oc8 kV8 dc8 pm8 cd8 ct8 : Value}
    {f9 : Addr} {od9 an9 : Option Addr} {sl9 : Array (Option Value)} {oc9 kV9 dc9 pm9 cd9 ct9 : Value}
    {f10 : Addr} {od10 an10 : Option Addr} {sl10 : Array (Option Value)} {oc10 kV10 dc10 pm10 cd10 ct10 : Value}
    {f11 : Addr} {od11 an11 : Option Addr} {sl11 : Array (Option Value)} {oc11 kV11 dc11 pm11 cd11 ct11 : Value}
    {f12 : Addr} {od12 an12 : Option Addr} {sl12 : Array (Option Value)} {oc12 kV12 dc12 pm12 cd12 ct12 : Value}
    {f13 : Addr} {od13 an13 : Option Addr} {sl13 : Array (Option Value)} {oc13 kV13 dc13 pm13 cd13 ct13 : Value}
    {f14 : Addr} {od14 an14 : Option Addr} {sl14 : Array (Option Value)} {oc14 kV14 dc14 pm14 cd14 ct14 : Value}
    {f15 : Addr} {od15 an15 : Option Addr} {sl15 : Array (Option Value)} {oc15 kV15 dc15 pm15 cd15 ct15 : Value}
    {f16 : Addr} {od16 an16 : Option Addr} {sl16 : Array (Option Value)} {oc16 kV16 dc16 pm16 cd16 ct16 : Value}
    {f17 : Addr} {od17 an17 : Option Addr} {sl17 : Array (Option Value)} {oc17 kV17 dc17 pm17 cd17 ct17 : Value}
    {f18 : Addr} {od18 an18 : Option Addr} {sl18 : Array (Option Value)} {oc18 kV18 dc18 pm18 cd18 ct18 : Value}
    {f19 : Addr} {od19 an19 : Option Addr} {sl19 : Array (Option Value)} {oc19 kV19 dc19 pm19 cd19 ct19 : Value}
    {f20 : Addr} {od20 an20 : Option Addr} {sl20 : Array (Option Value)} {oc20 kV20 dc20 pm20 cd20 ct20 : Value}
    {f21 : Addr} {od21 an21 : Option Addr} {sl21 : Array (Option Value)} {oc21 kV21 dc21 pm21 cd21 ct21 : Value}
    {f22 : Addr} {od22 an22 : Option Addr} {sl22 : Array (Option Value)} {oc22 kV22 dc22 pm22 cd22 ct22 : Value}
    {aZ C : Addr} {oZ : Obj} {nZ : Nat} {iZ : Array Value} {f_init : Addr} {od_init an_init : Option Addr} {sl_init : Array (Option Value)} {oc_init kV_init dc_init pm_init cd_init ct_init : Value} {f_go_further : Addr} {od_go_further an_go_further : Option Addr} {sl_go_further : Array (Option Value)} {oc_go_further kV_go_further dc_go_further pm_go_further cd_go_further ct_go_further : Value}
    (a1 : PySem.W.nsIn K mainGlobals "against" = some (some (.ref f1))) (l1 : K.lookup f1 = some ⟨oc1, od1, .func (PySem.W.fnOf "against" "against" (defArgs s_against) (defBody s_against) (defScope s_against) .none kV1 dc1 pm1 an1 cd1 ct1), sl1⟩) (d1 : PySem.W.codeIn K cd1 "against" = true) (k1 : PySem.W.keepIn K (.ref f1) = true)
    (a2 : PySem.W.nsIn K mainGlobals "ring_of" = some (some (.ref f2))) (l2 : K.lookup f2 = some ⟨oc2, od2, .func (PySem.W.fnOf "ring_of" "ring_of" (defArgs s_ring_of) (defBody s_ring_of) (defScope s_ring_of) .none kV2 dc2 pm2 an2 cd2 ct2), sl2⟩) (d2 : PySem.W.codeIn K cd2 "ring_of" = true) (k2 : PySem.W.keepIn K (.ref f2) = true)
    (a3 : PySem.W.nsIn K mainGlobals "nodes_of" = some (some (.ref f3))) (l3 : K.lookup f3 = some ⟨oc3, od3, .func (PySem.W.fnOf "nodes_of" "nodes_of" (defArgs s_nodes_of) (defBody s_nodes_of) (defScope s_nodes_of) .none kV3 dc3 pm3 an3 cd3 ct3), sl3⟩) (d3 : PySem.W.codeIn K cd3 "nodes_of" = true) (k3 : PySem.W.keepIn K (.ref f3) = true)
    (a4 : PySem.W.nsIn K mainGlobals "by_first_node" = some (some (.ref f4))) (l4 : K.lookup f4 = some ⟨oc4, od4, .func (PySem.W.fnOf "by_first_node" "by_first_node" (defArgs s_by_first_node) (defBody s_by_first_node) (defScope s_by_first_node) .none kV4 dc4 pm4 an4 cd4 ct4), sl4⟩) (d4 : PySem.W.codeIn K cd4 "by_first_node" = true) (k4 : PySem.W.keepIn K (.ref f4) = true)
    (a5 : PySem.W.nsIn K mainGlobals "ring_among" = some (some (.ref f5))) (l5 : K.lookup f5 = some ⟨oc5, od5, .func (PySem.W.fnOf "ring_among" "ring_among" (defArgs s_ring_among) (defBody s_ring_among) (defScope s_ring_among) .none kV5 dc5 pm5 an5 cd5 ct5), sl5⟩) (d5 : PySem.W.codeIn K cd5 "ring_among" = true) (k5 : PySem.W.keepIn K (.ref f5) = true)
    (a6 : PySem.W.nsIn K mainGlobals "ring_through" = some (some (.ref f6))) (l6 : K.lookup f6 = some ⟨oc6, od6, .func (PySem.W.fnOf "ring_through" "ring_through" (defArgs s_ring_through) (defBody s_ring_through) (defScope s_ring_through) .none kV6 dc6 pm6 an6 cd6 ct6), sl6⟩) (d6 : PySem.W.codeIn K cd6 "ring_through" = true) (k6 : PySem.W.keepIn K (.ref f6) = true)
    (a7 : PySem.W.nsIn K mainGlobals "verdict" = some (some (.ref f7))) (l7 : K.lookup f7 = some ⟨oc7, od7, .func (PySem.W.fnOf "verdict" "verdict" (defArgs s_verdict) (defBody s_verdict) (defScope s_verdict) .none kV7 dc7 pm7 an7 cd7 ct7), sl7⟩) (d7 : PySem.W.codeIn K cd7 "verdict" = true) (k7 : PySem.W.keepIn K (.ref f7) = true)
    (a8 : PySem.W.nsIn K mainGlobals "opened" = some (some (.ref f8))) (l8 : K.lookup f8 = some ⟨oc8, od8, .func (PySem.W.fnOf "opened" "opened" (defArgs s_opened) (defBody s_opened) (defScope s_opened) .none kV8 dc8 pm8 an8 cd8 ct8), sl8⟩) (d8 : PySem.W.codeIn K cd8 "opened" = true) (k8 : PySem.W.keepIn K (.ref f8) = true)
    (a9 : PySem.W.nsIn K mainGlobals "stand_by" = some (some (.ref f9))) (l9 : K.lookup f9 = some ⟨oc9, od9, .func (PySem.W.fnOf "stand_by" "stand_by" (defArgs s_stand_by) (defBody s_stand_by) (defScope s_stand_by) .none kV9 dc9 pm9 an9 cd9 ct9), sl9⟩) (d9 : PySem.W.codeIn K cd9 "stand_by" = true) (k9 : PySem.W.keepIn K (.ref f9) = true)
    (a10 : PySem.W.nsIn K mainGlobals "_law_draw" = some (some (.ref f10))) (l10 : K.lookup f10 = some ⟨oc10, od10, .func (PySem.W.fnOf "_law_draw" "_law_draw" (defArgs s_draw) (defBody s_draw) (defScope s_draw) .none kV10 dc10 pm10 an10 cd10 ct10), sl10⟩) (d10 : PySem.W.codeIn K cd10 "_law_draw" = true) (k10 : PySem.W.keepIn K (.ref f10) = true)
    (a11 : PySem.W.nsIn K mainGlobals "_law_node" = some (some (.ref f11))) (l11 : K.lookup f11 = some ⟨oc11, od11, .func (PySem.W.fnOf "_law_node" "_law_node" (defArgs s_node) (defBody s_node) (defScope s_node) .none kV11 dc11 pm11 an11 cd11 ct11), sl11⟩) (d11 : PySem.W.codeIn K cd11 "_law_node" = true) (k11 : PySem.W.keepIn K (.ref f11) = true)
    (a12 : PySem.W.nsIn K mainGlobals "_law_pool" = some (some (.ref f12))) (l12 : K.lookup f12 = some ⟨oc12, od12, .func (PySem.W.fnOf "_law_pool" "_law_pool" (defArgs s_pool) (defBody s_pool) (defScope s_pool) .none kV12 dc12 pm12 an12 cd12 ct12), sl12⟩) (d12 : PySem.W.codeIn K cd12 "_law_pool" = true) (k12 : PySem.W.keepIn K (.ref f12) = true)
    (a13 : PySem.W.nsIn K mainGlobals "_law_c" = some (some (.ref f13))) (l13 : K.lookup f13 = some ⟨oc13, od13, .func (PySem.W.fnOf "_law_c" "_law_c" (defArgs s_c) (defBody s_c) (defScope s_c) .none kV13 dc13 pm13 an13 cd13 ct13), sl13⟩) (d13 : PySem.W.codeIn K cd13 "_law_c" = true) (k13 : PySem.W.keepIn K (.ref f13) = true)
    (a14 : PySem.W.nsIn K mainGlobals "_law_worths" = some (some (.ref f14))) (l14 : K.lookup f14 = some ⟨oc14, od14, .func (PySem.W.fnOf "_law_worths" "_law_worths" (defArgs s_worths) (defBody s_worths) (defScope s_worths) .none kV14 dc14 pm14 an14 cd14 ct14), sl14⟩) (d14 : PySem.W.codeIn K cd14 "_law_worths" = true) (k14 : PySem.W.keepIn K (.ref f14) = true)
    (a15 : PySem.W.nsIn K mainGlobals "_law_table" = some (some (.ref f15))) (l15 : K.lookup f15 = some ⟨oc15, od15, .func (PySem.W.fnOf "_law_table" "_law_table" (defArgs s_table) (defBody s_table) (defScope s_table) .none kV15 dc15 pm15 an15 cd15 ct15), sl15⟩) (d15 : PySem.W.codeIn K cd15 "_law_table" = true) (k15 : PySem.W.keepIn K (.ref f15) = true)
    (a16 : PySem.W.nsIn K mainGlobals "_law_whole" = some (some (.ref f16))) (l16 : K.lookup f16 = some ⟨oc16, od16, .func (PySem.W.fnOf "_law_whole" "_law_whole" (defArgs s_whole) (defBody s_whole) (defScope s_whole) .none kV16 dc16 pm16 an16 cd16 ct16), sl16⟩) (d16 : PySem.W.codeIn K cd16 "_law_whole" = true) (k16 : PySem.W.keepIn K (.ref f16) = true)
    (a17 : PySem.W.nsIn K mainGlobals "_law_road_sum" = some (some (.ref f17))) (l17 : K.lookup f17 = some ⟨oc17, od17, .func (PySem.W.fnOf "_law_road_sum" "_law_road_sum" (defArgs s_road_sum) (defBody s_road_sum) (defScope s_road_sum) .none kV17 dc17 pm17 an17 cd17 ct17), sl17⟩) (d17 : PySem.W.codeIn K cd17 "_law_road_sum" = true) (k17 : PySem.W.keepIn K (.ref f17) = true)
    (a18 : PySem.W.nsIn K mainGlobals "_law_planted" = some (some (.ref f18))) (l18 : K.lookup f18 = some ⟨oc18, od18, .func (PySem.W.fnOf "_law_planted" "_law_planted" (defArgs s_planted) (defBody s_planted) (defScope s_planted) .none kV18 dc18 pm18 an18 cd18 ct18), sl18⟩) (d18 : PySem.W.codeIn K cd18 "_law_planted" = true) (k18 : PySem.W.keepIn K (.ref f18) = true)
    (a19 : PySem.W.nsIn K mainGlobals "_law_facts" = some (some (.ref f19))) (l19 : K.lookup f19 = some ⟨oc19, od19, .func (PySem.W.fnOf "_law_facts" "_law_facts" (defArgs s_facts) (defBody s_facts) (defScope s_facts) .none kV19 dc19 pm19 an19 cd19 ct19), sl19⟩) (d19 : PySem.W.codeIn K cd19 "_law_facts" = true) (k19 : PySem.W.keepIn K (.ref f19) = true)
    (a20 : PySem.W.nsIn K mainGlobals "_law_stands" = some (some (.ref f20))) (l20 : K.lookup f20 = some ⟨oc20, od20, .func (PySem.W.fnOf "_law_stands" "_law_stands" (defArgs s_stands) (defBody s_stands) (defScope s_stands) .none kV20 dc20 pm20 an20 cd20 ct20), sl20⟩) (d20 : PySem.W.codeIn K cd20 "_law_stands" = true) (k20 : PySem.W.keepIn K (.ref f20) = true)
    (a21 : PySem.W.nsIn K mainGlobals "_law_told" = some (some (.ref f21))) (l21 : K.lookup f21 = some ⟨oc21, od21, .func (PySem.W.fnOf "_law_told" "_law_told" (defArgs s_told) (defBody s_told) (defScope s_told) .none kV21 dc21 pm21 an21 cd21 ct21), sl21⟩) (d21 : PySem.W.codeIn K cd21 "_law_told" = true) (k21 : PySem.W.keepIn K (.ref f21) = true)
    (a22 : PySem.W.nsIn K mainGlobals "law" = some (some (.ref f22))) (l22 : K.lookup f22 = some ⟨oc22, od22, .func (PySem.W.fnOf "law" "law" (defArgs s_law) (defBody s_law) (defScope s_law) .none kV22 dc22 pm22 an22 cd22 ct22), sl22⟩) (d22 : PySem.W.codeIn K cd22 "law" = true) (k22 : PySem.W.keepIn K (.ref f22) = true)
    (z_abs : PySem.W.nsIn K mainGlobals "abs" = some none)
    (z_bool : PySem.W.nsIn K mainGlobals "bool" = some none)
    (z_dict : PySem.W.nsIn K mainGlobals "dict" = some none)
    (z_int : PySem.W.nsIn K mainGlobals "int" = some none)
    (z_isinstance : PySem.W.nsIn K mainGlobals "isinstance" = some none)
    (z_len : PySem.W.nsIn K mainGlobals "len" = some none)
    (z_list : PySem.W.nsIn K mainGlobals "list" = some none)
    (z_max : PySem.W.nsIn K mainGlobals "max" = some none)
    (z_min : PySem.W.nsIn K mainGlobals "min" = some none)
    (z_range : PySem.W.nsIn K mainGlobals "range" = some none)
    (z_reversed : PySem.W.nsIn K mainGlobals "reversed" = some none)
    (z_tuple : PySem.W.nsIn K mainGlobals "tuple" = some none)
    (z_zip : PySem.W.nsIn K mainGlobals "zip" = some none)
    (gZ : PySem.W.nsIn K mainGlobals "ZERO" = some (some (.ref aZ)))
    (lZ : K.lookup aZ = some oZ)
    (cZ : oZ.cls = .type "tuple")
    (dZ : oZ.data = .seq iZ nZ)
    (zZ : iZ.size ≤ sizeLine)
    (vZ : Vals [.str "zero"] iZ.toList)
    (gC : PySem.W.nsIn K mainGlobals "Search" = some (some (.ref C)))
    (pg : PySem.W.plainGet K C Str.empty = true)
    (hd : PySem.W.hasDictIn K C = true)
    (po : PySem.W.plainOver K C = true)
    (sa : PySem.W.findIn K (.ref C) "__setattr__" = some (some (.builtin "object.__setattr__")))
    (mk : PySem.W.makesIn K C = true)
    (kC : PySem.W.keepIn K (.ref C) = true)
    (na_leading : PySem.W.findIn K (.ref C) "leading" = some none)
    (na_sums : PySem.W.findIn K (.ref C) "sums" = some none)
    (na_last : PySem.W.findIn K (.ref C) "last" = some none)
    (na_ring : PySem.W.findIn K (.ref C) "ring" = some none)
    (q_init : PySem.W.findIn K (.ref C) "__init__" = some (some (.ref f_init)))
    (l_init : K.lookup f_init = some ⟨oc_init, od_init, .func (PySem.W.fnOf "__init__" "Search.__init__" (defArgs s_Search_init) (defBody s_Search_init) (defScope s_Search_init) .none kV_init dc_init pm_init an_init cd_init ct_init), sl_init⟩)
    (d_init : PySem.W.codeIn K cd_init "Search.__init__" = true)
    (k_init : PySem.W.keepIn K (.ref f_init) = true)
    (i_init : PySem.W.isFn K (.ref f_init) = true)
    (q_go_further : PySem.W.findIn K (.ref C) "go_further" = some (some (.ref f_go_further)))
    (l_go_further : K.lookup f_go_further = some ⟨oc_go_further, od_go_further, .func (PySem.W.fnOf "go_further" "Search.go_further" (defArgs s_Search_go_further) (defBody s_Search_go_further) (defScope s_Search_go_further) .none kV_go_further dc_go_further pm_go_further an_go_further cd_go_further ct_go_further), sl_go_further⟩)
    (d_go_further : PySem.W.codeIn K cd_go_further "Search.go_further" = true)
    (k_go_further : PySem.W.keepIn K (.ref f_go_further) = true)
    (i_go_further : PySem.W.isFn K (.ref f_go_further) = true) :
    ∃ fd : FuncData, (∀ (s : Shared) (v : Value), BindsTo s fd ⟨[v], []⟩ [("_law_script", v)]) ∧ ∀ base : Heap, K.In base → base.Ns mainGlobals mg → FnOk l.prog w K mg base CX0 20 fa fd ["_law_script"] (spLaw K) := by
  have e := hfa.symm.trans (PySem.W.mg_of X G a22)
  cases e
  have F1 := fun_mk (st := s_against) l1 d1 k1
  have F2 := fun_mk (st := s_ring_of) l2 d2 k2
  have F3 := fun_mk (st := s_nodes_of) l3 d3 k3
  have F4 := fun_mk (st := s_by_first_node) l4 d4 k4
  have F5 := fun_mk (st := s_ring_among) l5 d5 k5
  have F6 := fun_mk (st := s_ring_through) l6 d6 k6
  have F7 := fun_mk (st := s_verdict) l7 d7 k7
  have F8 := fun_mk (st := s_opened) l8 d8 k8
  have F9 := fun_mk (st := s_stand_by) l9 d9 k9
  have F10 := fun_mk (st := s_draw) l10 d10 k10
  have F11 := fun_mk (st := s_node) l11 d11 k11
  have F12 := fun_mk (st := s_pool) l12 d12 k12
  have F13 := fun_mk (st := s_c) l13 d13 k13
  have F14 := fun_mk (st := s_worths) l14 d14 k14
  have F15 := fun_mk (st := s_table) l15 d15 k15
  have F16 := fun_mk (st := s_whole) l16 d16 k16
  have F17 := fun_mk (st := s_road_sum) l17 d17 k17
  have F18 := fun_mk (st := s_planted) l18 d18 k18
  have F19 := fun_mk (st := s_facts) l19 d19 k19
  have F20 := fun_mk (st := s_stands) l20 d20 k20
  have F21 := fun_mk (st := s_told) l21 d21 k21
  have F22 := fun_mk (st := s_law) l22 d22 k22
  have M_init := fun_mk (st := s_Search_init) l_init d_init k_init
  have M_go_further := fun_mk (st := s_Search_go_further) l_go_further d_go_further k_go_further
  have m_abs := PySem.W.mg_none_of X G z_abs
  have m_bool := PySem.W.mg_none_of X G z_bool
  have m_dict := PySem.W.mg_none_of X G z_dict
  have m_int := PySem.W.mg_none_of X G z_int
  have m_isinstance := PySem.W.mg_none_of X G z_isinstance
  have m_len := PySem.W.mg_none_of X G z_len
  have m_list := PySem.W.mg_none_of X G z_list
  have m_max := PySem.W.mg_none_of X G z_max
  have m_min := PySem.W.mg_none_of X G z_min
  have m_range := PySem.W.mg_none_of X G z_range
  have m_reversed := PySem.W.mg_none_of X G z_reversed
  have m_tuple := PySem.W.mg_none_of X G z_tuple
  have m_zip := PySem.W.mg_none_of X G z_zip
  have TZ : TabZ K mg aZ := ⟨PySem.W.mg_of X G gZ, oZ, iZ, nZ, lZ, cZ, dZ, zZ, vZ⟩
  have CL : Cls K C := ⟨pg, hd, po, sa⟩
  have W : WC K C := ⟨CL, na_leading, na_sums, na_last, na_ring⟩
  refine ⟨PySem.W.fnOf "law" "law" (defArgs s_law) (defBody s_law) (defScope s_law) .none kV22 dc22 pm22 an22 cd22 ct22, fun s v => .of_eq rfl, fun base _ _ => ?_⟩
  have c10 : Cl l.prog w K mg base "_law_draw" 1 ["_law_script", "_law_k"] _ := F10.cl (ok_draw (n := 0) F10 m_len) (PySem.W.mg_of X G a10) fun _ _ _ _ _ _ us hl => len2 (hl := hl) (p := fun us => bindArgs _ ⟨us, []⟩ = pure (List.zip _ us)) (fun _ _ => rfl)
  have c11 : Cl l.prog w K mg base "_law_node" 1 ["_law_cell"] _ := F11.cl (ok_node (n := 0) F11 ) (PySem.W.mg_of X G a11) fun _ _ _ _ _ _ us hl => len1 (hl := hl) (p := fun us => bindArgs _ ⟨us, []⟩ = pure (List.zip _ us)) (fun _ => rfl)
  have c12 : Cl l.prog w K mg base "_law_pool" 2 ["_law_script", "_law_at", "_law_many"] _ := F12.cl (ok_pool (n := 1) F12 m_range c10 c11) (PySem.W.mg_of X G a12) fun _ _ _ _ _ _ us hl => len3 (hl := hl) (p := fun us => bindArgs _ ⟨us, []⟩ = pure (List.zip _ us)) (fun _ _ _ => rfl)
  have c14 : Cl l.prog w K mg base "_law_worths" 2 ["_law_script", "_law_at", "_law_pool_here"] _ := F14.cl (ok_worths (n := 1) F14 m_range m_len c10) (PySem.W.mg_of X G a14) fun _ _ _ _ _ _ us hl => len3 (hl := hl) (p := fun us => bindArgs _ ⟨us, []⟩ = pure (List.zip _ us)) (fun _ _ _ => rfl)
  have c18 : Cl l.prog w K mg base "_law_planted" 2 ["_law_script", "_law_pool_here", "_law_worths_here"] _ := F18.cl (ok_planted (n := 1) F18 m_range m_max m_len c10) (PySem.W.mg_of X G a18) fun _ _ _ _ _ _ us hl => len3 (hl := hl) (p := fun us => bindArgs _ ⟨us, []⟩ = pure (List.zip _ us)) (fun _ _ _ => rfl)
  have c13 : Cl l.prog w K mg base "_law_c" 1 ["_law_cell"] _ := F13.cl (ok_c (n := 0) F13 ) (PySem.W.mg_of X G a13) fun _ _ _ _ _ _ us hl => len1 (hl := hl) (p := fun us => bindArgs _ ⟨us, []⟩ = pure (List.zip _ us)) (fun _ => rfl)
  have c19 : Cl l.prog w K mg base "_law_facts" 3 ["_law_script", "_law_pool_here"] _ := F19.cl (ok_facts (n := 2) F19 m_zip m_range m_len (c10.mono (by decide : 1 ≤ 2)) c14 c18 (c13.mono (by decide : 1 ≤ 2))) (PySem.W.mg_of X G a19) fun _ _ _ _ _ _ us hl => len2 (hl := hl) (p := fun us => bindArgs _ ⟨us, []⟩ = pure (List.zip _ us)) (fun _ _ => rfl)
  have c15 : Cl l.prog w K mg base "_law_table" 1 ["_law_nodes", "_law_facts_here"] _ := F15.cl (ok_table (n := 0) F15 ) (PySem.W.mg_of X G a15) fun _ _ _ _ _ _ us hl => len2 (hl := hl) (p := fun us => bindArgs _ ⟨us, []⟩ = pure (List.zip _ us)) (fun _ _ => rfl)
  have c3 : Cl l.prog w K mg base "nodes_of" 1 ["facts"] _ := F3.cl (ok_nodes_of (n := 0) F3 m_list) (PySem.W.mg_of X G a3) fun _ _ _ _ _ _ us hl => len1 (hl := hl) (p := fun us => bindArgs _ ⟨us, []⟩ = pure (List.zip _ us)) (fun _ => rfl)
  have c4 : Cl l.prog w K mg base "by_first_node" 1 ["facts"] _ := F4.cl (ok_by_first_node (n := 0) F4 ) (PySem.W.mg_of X G a4) fun _ _ _ _ _ _ us hl => len1 (hl := hl) (p := fun us => bindArgs _ ⟨us, []⟩ = pure (List.zip _ us)) (fun _ => rfl)
  have c6 : Cl l.prog w K mg base "ring_through" 1 ["last", "node"] _ := F6.cl (ok_ring_through (n := 0) F6 m_list m_reversed) (PySem.W.mg_of X G a6) fun _ _ _ _ _ _ us hl => len2 (hl := hl) (p := fun us => bindArgs _ ⟨us, []⟩ = pure (List.zip _ us)) (fun _ _ => rfl)
  have c5 : Cl l.prog w K mg base "ring_among" 2 ["last"] _ := F5.cl (ok_ring_among (n := 1) F5 c6) (PySem.W.mg_of X G a5) fun _ _ _ _ _ _ us hl => len1 (hl := hl) (p := fun us => bindArgs _ ⟨us, []⟩ = pure (List.zip _ us)) (fun _ => rfl)
  have g_ring_of : ClM l.prog w K mg base C "go_further" 2 ["self", "nodes"] _ := ⟨_, _, CL, ⟨q_go_further, i_go_further, k_go_further⟩, ok_Search_go_further (n := 1) M_go_further W m_list m_reversed, M_go_further.binds fun _ _ _ _ _ _ us hl => len2 (hl := hl) (p := fun us => bindArgs _ ⟨us, []⟩ = pure (List.zip _ us)) (fun _ _ => rfl)⟩
  have w_ring_of : ClK l.prog w K mg base "Search" C 3 ["self", "facts", "starts"] _ := ⟨_, _, ⟨mk, q_init, i_init, kC⟩, ok_Search_init (n := 2) M_init W m_len m_list m_dict (c4.mono (by decide : 1 ≤ 2)) c5 g_ring_of, M_init.binds fun _ _ _ _ _ _ us hl => len3 (hl := hl) (p := fun us => bindArgs _ ⟨us, []⟩ = pure (List.zip _ us)) (fun _ _ _ => rfl), PySem.W.mg_of X G gC⟩
  have c2 : Cl l.prog w K mg base "ring_of" 5 ["facts"] _ := F2.cl (ok_ring_of (n := 3) F2 W w_ring_of (c3.mono (by decide : 1 ≤ 4))) (PySem.W.mg_of X G a2) fun _ _ _ _ _ _ us hl => len1 (hl := hl) (p := fun us => bindArgs _ ⟨us, []⟩ = pure (List.zip _ us)) (fun _ => rfl)
  have c1 : Cl l.prog w K mg base "against" 1 ["bound"] _ := F1.cl (ok_against (n := 0) F1 ) (PySem.W.mg_of X G a1) fun _ _ _ _ _ _ us hl => len1 (hl := hl) (p := fun us => bindArgs _ ⟨us, []⟩ = pure (List.zip _ us)) (fun _ => rfl)
  have c8 : Cl l.prog w K mg base "opened" 1 ["ring", "fact"] _ := F8.cl (ok_opened (n := 0) F8 ) (PySem.W.mg_of X G a8) fun _ _ _ _ _ _ us hl => len2 (hl := hl) (p := fun us => bindArgs _ ⟨us, []⟩ = pure (List.zip _ us)) (fun _ _ => rfl)
  have c9 : Cl l.prog w K mg base "stand_by" 1 ["sums"] _ := F9.cl (ok_stand_by (n := 0) F9 TZ) (PySem.W.mg_of X G a9) fun _ _ _ _ _ _ us hl => len1 (hl := hl) (p := fun us => bindArgs _ ⟨us, []⟩ = pure (List.zip _ us)) (fun _ => rfl)
  have g_verdict : ClM l.prog w K mg base C "go_further" 3 ["self", "nodes"] _ := ⟨_, _, CL, ⟨q_go_further, i_go_further, k_go_further⟩, ok_Search_go_further (n := 2) M_go_further W m_list m_reversed, M_go_further.binds fun _ _ _ _ _ _ us hl => len2 (hl := hl) (p := fun us => bindArgs _ ⟨us, []⟩ = pure (List.zip _ us)) (fun _ _ => rfl)⟩
  have w_verdict : ClK l.prog w K mg base "Search" C 4 ["self", "facts", "starts"] _ := ⟨_, _, ⟨mk, q_init, i_init, kC⟩, ok_Search_init (n := 3) M_init W m_len m_list m_dict (c4.mono (by decide : 1 ≤ 3)) (c5.mono (by decide : 2 ≤ 3)) g_verdict, M_init.binds fun _ _ _ _ _ _ us hl => len3 (hl := hl) (p := fun us => bindArgs _ ⟨us, []⟩ = pure (List.zip _ us)) (fun _ _ _ => rfl), PySem.W.mg_of X G gC⟩
  have c7 : Cl l.prog w K mg base "verdict" 6 ["facts", "bound"] _ := F7.cl (ok_verdict (n := 4) F7 W TZ w_verdict (c3.mono (by decide : 1 ≤ 5)) c2 (c1.mono (by decide : 1 ≤ 5)) (c8.mono (by decide : 1 ≤ 5)) (c9.mono (by decide : 1 ≤ 5))) (PySem.W.mg_of X G a7) fun _ _ _ _ _ _ us hl => len2 (hl := hl) (p := fun us => bindArgs _ ⟨us, []⟩ = pure (List.zip _ us)) (fun _ _ => rfl)
  have c16 : Cl l.prog w K mg base "_law_whole" 1 ["_law_found"] _ := F16.cl (ok_whole (n := 0) F16 m_isinstance m_int m_bool) (PySem.W.mg_of X G a16) fun _ _ _ _ _ _ us hl => len1 (hl := hl) (p := fun us => bindArgs _ ⟨us, []⟩ = pure (List.zip _ us)) (fun _ => rfl)
  have c17 : Cl l.prog w K mg base "_law_road_sum" 2 ["_law_facts_here", "_law_road", "_law_a", "_law_b"] _ := F17.cl (ok_road_sum (n := 1) F17 m_isinstance m_list m_tuple m_len c16) (PySem.W.mg_of X G a17) fun _ _ _ _ _ _ us hl => len4 (hl := hl) (p := fun us => bindArgs _ ⟨us, []⟩ = pure (List.zip _ us)) (fun _ _ _ _ => rfl)
  have c20 : Cl l.prog w K mg base "_law_stands" 2 ["_law_stand", "_law_facts_here", "_law_bound"] _ := F20.cl (ok_stands (n := 1) F20 m_isinstance m_dict c16) (PySem.W.mg_of X G a20) fun _ _ _ _ _ _ us hl => len3 (hl := hl) (p := fun us => bindArgs _ ⟨us, []⟩ = pure (List.zip _ us)) (fun _ _ _ => rfl)
  have c21 : Cl l.prog w K mg base "_law_told" 7 ["_law_facts_here", "_law_bound", "_law_table_here", "_law_below"] _ := F21.cl (ok_told (n := 6) F21 m_len m_isinstance m_list m_tuple c7 (c17.mono (by decide : 2 ≤ 6)) (c20.mono (by decide : 2 ≤ 6))) (PySem.W.mg_of X G a21) fun _ _ _ _ _ _ us hl => len4 (hl := hl) (p := fun us => bindArgs _ ⟨us, []⟩ = pure (List.zip _ us)) (fun _ _ _ _ => rfl)
  exact ok_law (n := 19) F22 m_range m_abs m_len m_list m_min (c10.mono (by decide : 1 ≤ 19)) (c12.mono (by decide : 2 ≤ 19)) (c19.mono (by decide : 3 ≤ 19)) (c15.mono (by decide : 1 ≤ 19)) (c13.mono (by decide : 1 ≤ 19)) (c21.mono (by decide : 7 ≤ 19))
theorem walk {l : PySem.W.OpenLaw} {q : Program} {loose : List Str} {XP : (Str → Option Value) → Heap → Prop} {YP : World → Heap → Prop} {d : DefRec} {K : Params → PySem.W.Frag} (hn : l.most = some 63) (hdf : d.params.defaults = [])
    (hY : ∀ (w : World) (h : Heap), YP w h → (K w.params).In h)
    (F : ∀ (w : World) (mg : Str → Option Value) (fa : Addr) (h : Heap), (K w.params).In h → h.Ns mainGlobals mg → mg d.name = some (.ref fa) →
      ∃ fd : FuncData, (∀ (s : Shared) (u : Value), BindsTo s fd ⟨[u], []⟩ [("_law_script", u)]) ∧ ∀ base : Heap, (K w.params).In base → base.Ns mainGlobals mg → FnOk l.prog w (K w.params) mg base CX0 20 fa fd ["_law_script"] (spLaw (K w.params))) :
    PySem.W.WalkO q loose XP YP l.row.toRowW d [] (fun f vs => PySem.call f vs) :=
  L2.walk_of (n := 63) (k := 20) (x := "_law_script") (CX := fun _ => CX0) (sp := fun w => spLaw (K w.params)) hn (by decide) hdf ⟨rfl, by decide, by decide, rfl⟩ hY F (fun _ _ a ns hl _ hS => ⟨a, ns, rfl, hS, hl, fun _ => rfl⟩) fun _ _ _ _ _ z => z
end K34
open PySem PySem.W PyProof.Rows
set_option maxRecDepth 100000 in
set_option maxHeartbeats 0 in
theorem PySem.Challenge.cw_lookspare_k34_road_ring_or_numbers_holds : PySem.Challenge.rw_lookspare_k34_road_ring_or_numbers.Holds := by
  w_on; o_law; k_head; (case hw => w_witness2)
  k_fill
  refine K34.walk (l := PySem.Challenge.rw_lookspare_k34_road_ring_or_numbers) rfl rfl (fun w h Y => PySem.W.kIn_of Y) ?F
  case F =>
    intro w mg fa h KX G hmg
    refine' K34.all_mk KX G hmg ?a1 ?l1 ?d1 ?k1 ?a2 ?l2 ?d2 ?k2 ?a3 ?l3 ?d3 ?k3 ?a4 ?l4 ?d4 ?k4 ?a5 ?l5 ?d5 ?k5 ?a6 ?l6 ?d6 ?k6 ?a7 ?l7 ?d7 ?k7 ?a8 ?l8 ?d8 ?k8 ?a9 ?l9 ?d9 ?k9 ?a10 ?l10 ?d10 ?k10 ?a11 ?l11 ?d11 ?k11 ?a12 ?l12 ?d12 ?k12 ?a13 ?l13 ?d13 ?k13 ?a14 ?l14 ?d14 ?k14 ?a15 ?l15 ?d15 ?k15 ?a16 ?l16 ?d16 ?k16 ?a17 ?l17 ?d17 ?k17 ?a18 ?l18 ?d18 ?k18 ?a19 ?l19 ?d19 ?k19 ?a20 ?l20 ?d20 ?k20 ?a21 ?l21 ?d21 ?k21 ?a22 ?l22 ?d22 ?k22 ?z_abs ?z_bool ?z_dict ?z_int ?z_isinstance ?z_len ?z_list ?z_max ?z_min ?z_range ?z_reversed ?z_tuple ?z_zip ?gZ ?lZ ?cZ ?dZ ?zZ ?vZ ?gC ?pg ?hd ?po ?sa ?mk ?kC ?na_leading ?na_sums ?na_last ?na_ring ?q_init ?l_init ?d_init ?k_init ?i_init ?q_go_further ?l_go_further ?d_go_further ?k_go_further ?i_go_further
    (case a1 => k_is); (case l1 => k_is); (case d1 => k_is); (case k1 => k_is)
    (case a2 => k_is); (case l2 => k_is); (case d2 => k_is); (case k2 => k_is)
    (case a3 => k_is); (case l3 => k_is); (case d3 => k_is); (case k3 => k_is)
    (case a4 => k_is); (case l4 => k_is); (case d4 => k_is); (case k4 => k_is)
    (case a5 => k_is); (case l5 => k_is); (case d5 => k_is); (case k5 => k_is)
    (case a6 => k_is); (case l6 => k_is); (case d6 => k_is); (case k6 => k_is)
    (case a7 => k_is); (case l7 => k_is); (case d7 => k_is); (case k7 => k_is)
    (case a8 => k_is); (case l8 => k_is); (case d8 => k_is); (case k8 => k_is)
    (case a9 => k_is); (case l9 => k_is); (case d9 => k_is); (case k9 => k_is)
    (case a10 => k_is); (case l10 => k_is); (case d10 => k_is); (case k10 => k_is)
    (case a11 => k_is); (case l11 => k_is); (case d11 => k_is); (case k11 => k_is)
    (case a12 => k_is); (case l12 => k_is); (case d12 => k_is); (case k12 => k_is)
    (case a13 => k_is); (case l13 => k_is); (case d13 => k_is); (case k13 => k_is)
    (case a14 => k_is); (case l14 => k_is); (case d14 => k_is); (case k14 => k_is)
    (case a15 => k_is); (case l15 => k_is); (case d15 => k_is); (case k15 => k_is)
    (case a16 => k_is); (case l16 => k_is); (case d16 => k_is); (case k16 => k_is)
    (case a17 => k_is); (case l17 => k_is); (case d17 => k_is); (case k17 => k_is)
    (case a18 => k_is); (case l18 => k_is); (case d18 => k_is); (case k18 => k_is)
    (case a19 => k_is); (case l19 => k_is); (case d19 => k_is); (case k19 => k_is)
    (case a20 => k_is); (case l20 => k_is); (case d20 => k_is); (case k20 => k_is)
    (case a21 => k_is); (case l21 => k_is); (case d21 => k_is); (case k21 => k_is)
    (case a22 => k_is); (case l22 => k_is); (case d22 => k_is); (case k22 => k_is)
    (case z_abs => k_is)
    (case z_bool => k_is)
    (case z_dict => k_is)
    (case z_int => k_is)
    (case z_isinstance => k_is)
    (case z_len => k_is)
    (case z_list => k_is)
    (case z_max => k_is)
    (case z_min => k_is)
    (case z_range => k_is)
    (case z_reversed => k_is)
    (case z_tuple => k_is)
    (case z_zip => k_is)
    (case gZ => k_is)
    (case lZ => k_is)
    (case cZ => exact rfl)
    (case dZ => exact rfl)
    (case zZ => exact Nat.le_of_ble_eq_true rfl)
    (case vZ => repeat (first | exact .nil | refine .cons ⟨_, rfl⟩ ?_))
    (case gC => k_is)
    (case pg => kernel_rfl)
    (case hd => k_is)
    (case po => kernel_rfl)
    (case sa => k_is)
    (case mk => kernel_rfl)
    (case kC => k_is)
    (case na_leading => k_is)
    (case na_sums => k_is)
    (case na_last => k_is)
    (case na_ring => k_is)
    (case q_init => k_is)
    (case l_init => k_is)
    (case d_init => k_is)
    (case k_init => k_is)
    (case i_init => k_is)
    (case q_go_further => k_is)
    (case l_go_further => k_is)
    (case d_go_further => k_is)
    (case k_go_further => k_is)
    (case i_go_further => k_is)
