import PyProof.Rows.All
import Wide.All
import OpenK.AllK
import Wide.FinOn
import Lean
import PyProof.EqAt
import PyProof.EqKinds
import PyProof.TupleCall
import PyProof.NeKinds
import PySem.Challenge.RW_lookspare_k44_whole_facts_are_so_in_runs
set_option Elab.async false
set_option linter.all false
set_option maxRecDepth 100000
set_option maxHeartbeats 4000000
noncomputable section
local macro_rules | `(tactic| walk_at "q") => `(tactic| first | rfl | decide | exact .inl rfl | exact .inr rfl)
noncomputable section
abbrev aW:=PySem.W.Frag
def cu:=@List.getElem?_eq_getElem
def bQ:=@Nat.le_of_ble_eq_true
def aQ:=@PySem.wpAny_bind
def dE:=@PySem.Heap.get?_push_of_some
def eQ:=@List.getElem?_eq_some_iff
def dU:=@List.mem_singleton
def cU:=@List.length_map
def bH:=@PySem.wpAny_pure
def dY:=@List.size_toArray
def cq:=@Nat.le_refl
def gh:=@List.mem_of_getElem?
def dO:=@List.mem_cons
def dy:=@PySem.Heap.lt_size
def fv:=@List.mem_append
def gW:=@Bool.false_ne_true
def ff:=@decide_eq_true
def fK:=@decide_eq_false
def iD:=@List.length_append
def bV:=@PyProof.Rows.wpS_bind
def jP:=@Array.length_toList
def jN:=@PySem.Heap.get?_push_size
def eR:=@Nat.ne_of_lt
def je:=@List.map_append
def cN:=@PyProof.Rows.wpS_pure
def lK:=@List.getElem?_map
def fE:=@Nat.zero_le
def mE:=@List.append_assoc
def oE:=@List.mem_cons_self
def m8:=@Int.toNat_natCast
def tu:=@List.mem_cons_of_mem
def tq:=@List.mem_append_left
def vm:=@List.length_singleton
def qz:=@Bool.false_eq_true
def v9:=@PySem.F.plainAttrs_list
def pH:=@of_decide_eq_true
def mW:=@Option.some.inj
def vA:=@List.mem_append_right
def mO:=@PySem.PassesOwn.never
def o7:=@List.not_mem_nil
def kP:=@PySem.wpAny_holding
def qy:=@List.length_take
def mD:=@List.map_cons
def yM:=@List.getElem?_set_self
def tD:=@List.length_cons
def xq:=@Nat.lt_of_lt_of_le
def qi:=@PySem.boot_len
def Ac:=@List.length_replicate
def Cp:=@PySem.F.slot_list_append
def Cv:=@PySem.F.type_list_append
def vB:=@List.getElem_mem
def yX:=@Array.toList_append
def CG:=@List.getElem?_append_right
def Af:=@List.getElem?_set_ne
def Ad:=@List.pairwise_append
def Bm:=@List.perm_append_comm
def zh:=@PySem.W.mg_none_of
def D5:=@PyProof.Rows.callWith_type1
def vx:=@List.nodup_cons
def Ag:=@PySem.mem_of_lookup
def yp:=@PySem.wpAny_call_entry
def Ci:=@PyProof.Rows.boot_int
def Ec:=@List.getElem?_append_left
def o6:=@PySem.wpAny_field
def Eu:=@Array.getElem?_eq_getElem
def Dy:=@PySem.Heap.get?_update_other
def C7:=@PyProof.Rows.boot_list
def xE:=@List.append_nil
def F7:=@PyProof.Rows.slot_tuple_getitem
def xI:=@List.length_set
def Eb:=@PySem.wpAny_callSpecial?_slot
def Ah:=@List.take_length
def A2:=@List.take_add_one
def uf:=@PyProof.Rows.wpS_forRange
def Ed:=@Option.map_eq_some_iff
def Ez:=@List.take_of_length_le
def D1:=@List.replicate_succ
def uF:=@PySem.sizeLine_eq
def vJ:=@Nat.le_trans
def Cu:=@List.lookup_cons
def ES:=@List.getElem?_eq_none
def Fn:=@PySem.Heap.get?_update_self
def E3:=@Array.getElem?_toList
def FJ:=@List.take_append_drop
def Fw:=@List.mem_iff_getElem?
def BY:=@PySem.wpAny_seqItems
def Cq:=@PySem.wpAny_specialOf
def EA:=@PySem.wpAny_Call_Name_kw
def Ex:=@PySem.wpAny_setField_rec
def tR:=@PySem.wpAny_rule
def vv:=@PySem.wpAny_mono
def zM:=@List.mem_map
def oM:=@if_false
def ET:=@beq_eq_false_iff_ne
def Es:=@PySem.wpAny_truthy_bool
def Ea:=@PySem.wpAny_newObj_type
def Ck:=@PySem.Heap.size_push
def DC:=@List.forIn_cons
def FZ:=@PySem.builtinLookup_eq_fast
def C8:=@List.find?_cons
def Aj:=@Int.le_of_lt
def Ei:=@Bool.and_eq_true
def zH:=@Nat.le_succ
def F5:=@PySem.Around.under_plainId
def Cr:=@Nat.lt_irrefl
def F9:=@PySem.F.plain_extend_loop
abbrev sE:=PySem.FuncData
def FW:=@Array.forIn_toList
def F4:=@PySem.wpAny_pyIter_tuple
def Ga:=@PySem.tupleKind_room_in1
def Co:=@Int.zero_add
end
theorem q_q1(h:True:=by rfl):True:=h
def q_1:Lean.Syntax:=q_q1._auto_1
theorem q_q2(h:True:=by decide):True:=h
def q_2:Lean.Syntax:=q_q2._auto_1
theorem q_q3(h:True:=by first | exact .inl rfl | exact .inr rfl | assumption):True:=h
def q_3:Lean.Syntax:=q_q3._auto_1
theorem q_q4(h:True:=by intro _; rfl):True:=h
def q_4:Lean.Syntax:=q_q4._auto_1
theorem q_q5(h:True:=by exact fun _ _=>rfl):True:=h
def q_5:Lean.Syntax:=q_q5._auto_1
theorem q_q6(h:True:=by exact wI _):True:=h
def q_6:Lean.Syntax:=q_q6._auto_1
namespace L2
def IY.{u,v}{α:Sort u}{κ:Sort v}(Q:κ)(P:α→κ→Prop)(x:α):Prop:=P x Q
def aw.{u,v}{α:Sort u}{κ:Sort v}(Q:κ)(P:α→κ→Prop):Prop:=Exists (IY Q P)
open PySem PySem.Spec PyProof.Rows
variable {H H':Hp}{s s':Shared}{a C f dx it:Addr}{X:Cx}{A:Around}{σ:St}{pos p apos pos':Pos}{pins:List (Addr × Obj)}{h h' base:Heap}{E Q:Value→Shared→Prop}{w:World}{x m qual:Str}{u v:Value}{e tg c l:Expr}{P prog:Program}{us vs:List Value}{o:HO}{t' i j n lev:Nat}{es:List Expr}{te ta tl:TE}{ps N:List Str}{xs:List V}{g:TG}{tb:TS}{CX:El}{ks y:List D}{d:D}{M:Model}{op:CmpOp}{kw:List (Str × Value)}{sp:Sp}{t:TA}{body:List Stmt}{fp ch:List Addr}{mA:Str→Option Value}{tc:TT}{lo:Int}{outer:List Env}{scope:Scope}
abbrev Key:=Sum Int Str
noncomputable def mj:Key→Value→Bool
 | .inl k,v=>Value.isInt k v
 | .inr x,v=>Value.isStrOf x v
noncomputable def DK(w:World):Key→Int
 | .inl k=>hashInt k
 | .inr x=>hashStr w x
theorem bS:∀ {k:Key} {v:Value},mj k v=true→(∃ i t,k=Sum.inl i∧v=Value.int i t)∨(∃ x t,k=Sum.inr x∧v=Value.str x t)
 | .inl i,v,h=>by
  obtain⟨t,e⟩:=Value.isInt_shape (k:=i) (v:=v) h;exact .inl ⟨i,t,rfl,e⟩
 | .inr x,v,h=>by
  obtain⟨t,e⟩:=Value.isStrOf_shape (x:=x) (v:=v) h;exact .inr ⟨x,t,rfl,e⟩
theorem zu(i:Int)(t:Tok):mj (.inl i) (.int i t)=true:=by simp[mj,Value.isInt]
theorem y2(x:Str)(t:Tok):mj (.inr x) (.str x t)=true:=by simp[mj,Value.isStrOf]
theorem FE(a b:Int):decide ((Sum.inl a:Key)=Sum.inl b)=(a == b):=by
 by_cases e:a=b
 ·subst e; simp
 ·have h:¬ (Sum.inl a:Key)=Sum.inl b:=fun q=>e (Sum.inl.inj q)
  rw[fK h];exact (ET.mpr e).symm
theorem EE(a b:Str):decide ((Sum.inr a:Key)=Sum.inr b)=decide (a=b):=by
 by_cases e:a=b
 ·subst e; simp
 ·have h:¬ (Sum.inr a:Key)=Sum.inr b:=fun q=>e (Sum.inr.inj q)
  rw[fK h,fK e]
theorem ED(a:Int)(b:Str):decide ((Sum.inl a:Key)=Sum.inr b)=false:=fK (fun q=>nomatch q)
theorem EX(a:Str)(b:Int):decide ((Sum.inr a:Key)=Sum.inl b)=false:=fK (fun q=>nomatch q)
noncomputable def bt(prog:Program)(w:World):PySem.KeyKind prog w Key where
 is:=mj
 hash:=DK w
 inj:=fun v a b ha hb=>by
  rcases bS ha with ⟨i,t,rfl,rfl⟩ | ⟨x,t,rfl,rfl⟩
  ·rcases bS hb with ⟨j,u,rfl,e⟩ | ⟨y,u,rfl,e⟩
   ·injection e with e1 _; rw[e1]
   ·exact nomatch e
  ·rcases bS hb with ⟨j,u,rfl,e⟩ | ⟨y,u,rfl,e⟩
   ·exact nomatch e
   ·injection e with e1 _; rw[e1]
 byValue:=fun k v h=>by
  rcases bS h with ⟨i,t,rfl,rfl⟩ | ⟨x,t,rfl,rfl⟩ <;> rfl
 pyHash:=fun hv h=>by
  rcases bS hv with ⟨i,t,rfl,rfl⟩ | ⟨x,t,rfl,rfl⟩
  ·exact wpAny_pyHash_int h
  ·exact wpAny_pyHash_str h
 eqBool:=fun hu hv h=>by
  rcases bS hu with ⟨i,t,rfl,rfl⟩ | ⟨x,t,rfl,rfl⟩
  ·rcases bS hv with ⟨j,u,rfl,rfl⟩ | ⟨y,u,rfl,rfl⟩
   ·rw[FE]at h; exact wpAny_eqBool_int h
   ·rw[ED]at h; exact SeqAt.EqAt.int_str i t y u _ _ _ _ h
  ·rcases bS hv with ⟨j,u,rfl,rfl⟩ | ⟨y,u,rfl,rfl⟩
   ·rw[EX]at h; exact SeqAt.EqAt.str_int x t j u _ _ _ _ h
   ·rw[EE]at h; exact wpAny_eqBool_str h
 «strs»:=fun k x t v h=>by
  rcases bS h with ⟨i,u,rfl,e⟩ | ⟨y,u,rfl,e⟩
  ·exact nomatch e
  ·injection e with e1 _;subst e1;cases v <;> rfl
theorem uB(prog:Program)(w:World)(i:Int)(t:Tok):(bt prog w).is (.inl i) (.int i t)=true:=zu i t
theorem fM(prog:Program)(w:World)(x:Str)(t:Tok):(bt prog w).is (.inr x) (.str x t)=true:=y2 x t
inductive D where
 | non | int (i:Int) | str (x:Str) | tup (ds:List D)
noncomputable instance JL:DecidableEq D:=fun a b=>Classical.propDecidable (a=b)
structure um (prog:Program) (w:World) (lev:Nat) where
 is:Heap→D→Value→Prop
 hash:D→Int
 draws:D→Nat
 inj:∀ {h:Heap} {v:Value} {x y:D},is h x v→is h y v→x=y
 keeps:∀ {h h':Heap} {k:D} {v:Value} {d:Addr} {o:Obj} {es ep},is h k v→h.get? d=some o→o.data=.dict es ep→Heap.SameBut d h h'→is h' k v
 pyHash:∀ {A:Around} {E:Value→Shared→Prop} {s:Shared} {k:D} {v:Value} {Q:Int→Shared→Prop},A.units + lev < cLine→is s.heap k v→Q (hash k) { s with toks:=s.toks + draws k }→wpAny (model prog w) A (PySem.pyHash v) Q E s
 eqAt:∀ {A:Around} {s:Shared} {x y:D} {u v:Value},A.units + lev < cLine→is s.heap x u→is s.heap y v→SeqAt.EqAt A s u v (decide (x=y))
 quiet:∀ {A:Around} {E:Value→Shared→Prop} {s:Shared} {k:D} {v:Value} {Q:Bool→Shared→Prop} (n:Nat),lev≤n→is s.heap k v→Q true s→wpAny (model prog w) A (eqIsQuiet n v) Q E s
section
variable (knd:um prog w lev)
inductive dm (h:Heap):List D→List Value→Prop
 | nil:dm h [] []
 | cons {k:D} {v:Value} {ks:List D} {vs:List Value}:knd.is h k v→dm h ks vs→dm h (k::ks) (v::vs)
def dz(h:Heap)(ks:List D)(a:Addr):Prop:=∃ o items n,h.get? a=some o∧o.cls=.type "tuple"∧o.data=.seq items n∧dm knd h ks items.toList
noncomputable def xR(ks:List D):Int:=reduceHash (Builtin.Tuple.tupleHashOf (ks.map knd.hash))
noncomputable def sY(ks:List D):Nat:=(ks.map knd.draws).sum + 1
variable {knd}
theorem dz.typeIs(x:dz knd s.heap ks a):s.TypeIs (.ref a) "tuple":=let ⟨o,_,_,ho,hc,_⟩:=x; ⟨o,ho,hc⟩
theorem dm.inj{x:List D}(hx:dm knd h x vs)(hy:dm knd h y vs):x=y:=by
 induction hx generalizing y with
 | nil=>cases hy; rfl
 | cons h1 _ ih=>
  cases hy with
  | cons h2 t2=>rw[knd.inj h1 h2,ih t2]
theorem dm.length{x:List D}(hx:dm knd h x vs):x.length=vs.length:=by
 induction hx with
 | nil=>rfl
 | cons _ _ ih=>simp[ih]
theorem dm.get{x:List D}(hx:dm knd h x vs)(e:vs[j]?=some v):∃ k,x[j]?=some k∧knd.is h k v:=by
 induction hx generalizing j with
 | nil=>simp at e
 | @cons k u ks us h1 t ih=>
  cases j with
  | zero=>cases (show some u=some v from e); exact⟨k,rfl,h1⟩
  | succ j=>exact ih e
theorem dm.keeps{d:Addr}{o:Obj}{es ep}(ho:h.get? d=some o)(hd:o.data=.dict es ep)(hs:Heap.SameBut d h h'){x:List D}(hx:dm knd h x vs):dm knd h' x vs:=by
 induction hx with
 | nil=>exact .nil
 | cons h1 _ ih=>exact .cons (knd.keeps h1 ho hd hs) ih
theorem dz.inj{x:List D}(hx:dz knd h x a)(hy:dz knd h y a):x=y:=by
 obtain⟨o,items,n,ho,_,hd,hi⟩:=hx;obtain⟨o',items',n',ho',_,hd',hi'⟩:=hy;obtain rfl:o=o':=mW (ho.symm.trans ho');rw[hd]at hd';injection hd' with h1 _;subst h1;exact hi.inj hi'
theorem dz.keeps{d:Addr}{o:Obj}{es ep}(x:dz knd h ks a)(ho:h.get? d=some o)(hd:o.data=.dict es ep)(hs:Heap.SameBut d h h'):dz knd h' ks a:=by
 obtain⟨o',items,n,ho',hc,hd',hi⟩:=x;have hne:a≠d:=by
  rintro rfl
  obtain rfl:o'=o:=mW (ho'.symm.trans ho);rw[hd]at hd'; exact nomatch hd'
 exact⟨o',items,n,(hs.2 a hne).trans ho',hc,hd',hi.keeps ho hd hs⟩
theorem lU{Q:Int→Shared→Prop}(hu:A.units + (lev + 1) < cLine)(hk:dz knd s.heap ks a)(h:Q (xR knd ks) {s with toks:=s.toks + sY knd ks}) :
  wpAny (model prog w) A (PySem.pyHash (.ref a)) Q E s:=by
 have hT:=hk.typeIs;obtain⟨o,items,n,ho,_,hd,hi⟩:=hk;unfold PySem.pyHash
 first | unfold pyHashByItsType | skip
 first | refine aQ (wpAny_cRoomFor_or (.inr (by lia)) ?_) | skip
 refine aQ (Cq hT F.slot_tuple_hash.lookup ?_);show wpAny _ _ (if (some (Value.builtin "tuple.__hash__") == some Value.none)=true then _ else _) Q E s;rw[if_neg (by rw[beq_builtin_none]; exact gW)];refine aQ (Cq hT F.slot_tuple_hash.lookup ?_);show wpAny _ _ (callSpecialIfBoundUnlessNone? (.ref a) "__hash__" _ >>= _) Q E s;refine aQ (wpAny_callSpecialIfBoundUnlessNone?_slot hT F.slot_tuple_hash (yp F.slot_tuple_hash hT F.entry_tuple_hash ?_ (F.args_tuple_hash_1 _)));show wpAny _ _ (Builtin.Tuple.tupleItemsOf (.ref a) >>= _) _ _ s;refine aQ (wpAny_tupleItemsOf ho hd ?_);refine aQ ?_;rw[← FW];refine wpAny_forIn_list _
  (fun rest (b:Array Int) s'=>∃ done left,ks=done++left∧dm knd s.heap left rest∧b.toList=done.map knd.hash∧s'={ s with toks:=s.toks + (done.map knd.draws).sum })
  _ ?_ ?_ _ _ ⟨[],ks,rfl,hi,rfl,rfl⟩
 ·rintro x rest b s' ⟨done,left,rfl,hl,hb,rfl⟩
  cases hl with
  | @cons k _ ks' _ h1 hl'=>
   refine aQ (knd.pyHash (by show A.units + 1 + lev < cLine; lia) h1 ?_);exact bH ⟨done++[k],ks',by simp,hl',by simp[hb],by simp[Nat.add_assoc]⟩
 ·rintro b s' ⟨done,left,rfl,hl,hb,rfl⟩
  cases hl;rw[xE]at h;show wpAny _ _ (retInt (Builtin.Tuple.tupleHashOf b.toList)) _ _ _;rw[hb];refine wpAny_ret_mkInt ?_;show wpAny _ _ (if (decide (-(2:Int) ^ 63≤Builtin.Tuple.tupleHashOf (done.map knd.hash)) && decide (Builtin.Tuple.tupleHashOf (done.map knd.hash) < 2 ^ 63))=true then _ else _) Q E _;unfold xR sY reduceHash at h;by_cases hr:(decide (-(2:Int) ^ 63≤Builtin.Tuple.tupleHashOf (done.map knd.hash)) && decide (Builtin.Tuple.tupleHashOf (done.map knd.hash) < 2 ^ 63))=true
  ·rw[if_pos hr];rw[if_pos hr]at h;exact bH (by simpa[Nat.add_assoc] using h)
  ·rw[if_neg hr];rw[if_neg hr]at h;exact aQ (tR (bH (by simpa[Nat.add_assoc] using h)))
theorem p9{x:List D}{b:Addr}(hu:A.units + (lev + 1) < cLine)(hx:dz knd s.heap x a)(hy:dz knd s.heap y b):SeqAt.EqAt A s (.ref a) (.ref b) (decide (x=y)):=by
 by_cases hab:a=b
 ·subst hab;obtain rfl:=hx.inj hy;rw[ff rfl];exact SeqAt.EqAt.same _
 refine SeqAt.EqAt.of_refs hab ?_;obtain⟨o,items,n,ho,hc,hd,hi⟩:=hx;obtain⟨o',items',n',ho',hc',hd',hi'⟩:=hy;have R:=SeqAt.RcAt.tuples (A:=A) (s:=s) (e:=fun j=>decide (x[j]?=y[j]?)) (⟨o,ho,hc,n,hd⟩:s.heap.IsTuple a items) (⟨o',ho',hc',n',hd'⟩:s.heap.IsTuple b items') (by lia) (fun j h1 h2=>?_)
 ·have l1:x.length=items.size:=by have:=hi.length; simpa using this
  have l2:y.length=items'.size:=by have:=hi'.length; simpa using this
  have e:((List.range (min items.size items'.size)).all (fun j=>decide (x[j]?=y[j]?)) && items.size == items'.size)=decide (x=y):=by
   by_cases hxy:x=y
   ·subst hxy;rw[ff rfl,Ei];exact⟨List.all_eq_true.mpr fun j _=>ff rfl,by simp; lia⟩
   ·rw[fK hxy,Bool.and_eq_false_iff];by_cases hs:items.size=items'.size
    ·refine .inl (Bool.eq_false_iff.mpr fun hall=>hxy (List.ext_getElem? fun j=>?_));rcases Nat.lt_or_ge j items.size with hj | hj
     ·exact pH (List.all_eq_true.mp hall j (List.mem_range.mpr (by lia)))
     ·rw[ES (by lia),ES (by lia)]
    ·exact .inr (by simpa using hs)
  rw[← e];exact R
 ·obtain⟨k1,e1,i1⟩:=hi.get (j:=j) (v:=items[j]) (by simp[h1]);obtain⟨k2,e2,i2⟩:=hi'.get (j:=j) (v:=items'[j]) (by simp[h2]);have h3:=knd.eqAt (A:=A.in1) (by show A.units + 1 + lev < cLine; lia) i1 i2;have e3:decide (x[j]?=y[j]?)=decide (k1=k2):=by
   rw[e1,e2];by_cases h:k1=k2
   ·rw[ff h,ff (by rw[h])]
   ·rw[fK h,fK (fun z=>h (mW z))]
  rw[e3];exact h3
theorem oA{Q:Bool→Shared→Prop}(n:Nat)(hn:lev≤n)(hk:dz knd s.heap ks a)(h:Q true s):wpAny (model prog w) A (eqIsQuiet (n + 1) (.ref a)) Q E s:=by
 have hT:=hk.typeIs;obtain⟨o,items,n',ho,_,hd,hi⟩:=hk;unfold eqIsQuiet;refine aQ (Cq hT F.slot_tuple_eq.lookup ?_);show wpAny _ _ (isInstance (.ref a) (.type "tuple") >>= _) _ _ s;refine aQ (wpAny_isInstance hT isSubtype_tuple_tuple ?_);simp only[Bool.not_true,qz,oM];refine aQ (BY ho hd ?_);refine aQ ?_;show wpAny _ _ (forIn items _ _) _ _ s;rw[← FW];refine wpAny_forIn_list _ (fun rest r s'=>r.1=none∧s'=s∧∃ left,dm knd s.heap left rest) _ ?_ ?_ _ _ ⟨rfl,rfl,_,hi⟩
 ·rintro v rest r s' ⟨hr,rfl,left,hl⟩
  cases hl with
  | @cons k _ ks' _ h1 hl'=>
   refine aQ (knd.quiet n hn h1 ?_);simp only[Bool.not_true,qz,oM];exact bH ⟨rfl,rfl,_,hl'⟩
 ·rintro⟨r1,r2⟩ s' ⟨hr,rfl,_⟩
  simp only at hr;subst hr;exact bH h
end
section
variable (prog:Program)(w:World)
noncomputable def He:Key→D
 | .inl i=>.int i
 | .inr x=>.str x
def flatIs(d:D)(v:Value):Prop:=∃ k:Key,d=He k∧mj k v=true
theorem flatIs.shape(h:flatIs d v):(∃ i t,d=.int i∧v=.int i t)∨∃ x t,d=.str x∧v=.str x t:=by
 obtain⟨k,rfl,h⟩:=h;rcases bS h with ⟨i,t,rfl,rfl⟩ | ⟨x,t,rfl,rfl⟩
 ·exact .inl ⟨i,t,rfl,rfl⟩
 ·exact .inr ⟨x,t,rfl,rfl⟩
noncomputable def uE(w:World):D→Int
 | .int i=>DK w (.inl i)
 | .str x=>DK w (.inr x)
 | _=>0
theorem qq{Q:Int→Shared→Prop}(h:flatIs d v)(q:Q (uE w d) {s with toks:=s.toks + 1}):wpAny (model prog w) A (PySem.pyHash v) Q E s:=by
 obtain⟨k,rfl,h⟩:=h;have e:uE w (He k)=DK w k:=by cases k <;> rfl
 rw[e]at q;exact (bt prog w).pyHash h q
theorem yk{x y:D}(hx:flatIs x u)(hy:flatIs y v):SeqAt.EqAt A s u v (decide (x=y)):=by
 rcases hx.shape with ⟨i,t,rfl,rfl⟩ | ⟨i,t,rfl,rfl⟩ <;> rcases hy.shape with ⟨j,t',rfl,rfl⟩ | ⟨j,t',rfl,rfl⟩
 ·have e:decide (D.int i=D.int j)=decide (i=j):=by
   by_cases h:i=j
   ·rw[ff h,ff (by rw[h])]
   ·rw[fK h,fK (fun z=>h (by injection z))]
  rw[e];exact SeqAt.EqAt.int_int _ _ _ _
 ·rw[fK (fun z=>nomatch z)];exact SeqAt.EqAt.int_str _ _ _ _
 ·rw[fK (fun z=>nomatch z)];exact SeqAt.EqAt.str_int _ _ _ _
 ·have e:decide (D.str i=D.str j)=decide (i=j):=by
   by_cases h:i=j
   ·rw[ff h,ff (by rw[h])]
   ·rw[fK h,fK (fun z=>h (by injection z))]
  rw[e];exact SeqAt.EqAt.str_str _ _ _ _
theorem tH{x y:D}(hx:flatIs x v)(hy:flatIs y v):x=y:=by
 rcases hx.shape with ⟨i,t,rfl,rfl⟩ | ⟨i,t,rfl,rfl⟩ <;> rcases hy.shape with ⟨j,t',rfl,e⟩ | ⟨j,t',rfl,e⟩
 ·injection e with e1 _; rw[e1]
 ·exact nomatch e
 ·exact nomatch e
 ·injection e with e1 _; rw[e1]
theorem kJ(h:flatIs d v):carriedByValue v=true:=by
 rcases h.shape with ⟨i,t,rfl,rfl⟩ | ⟨i,t,rfl,rfl⟩ <;> rfl
noncomputable def GQ:um prog w 0 where
 is:=fun _ d v=>flatIs d v
 hash:=uE w
 draws:=fun _=>1
 inj:=tH
 keeps:=fun h _ _ _=>h
 pyHash:=fun _ h q=>qq prog w h q
 eqAt:=fun _ hx hy=>yk hx hy
 quiet:=fun n _ h q=>by rw[eqIsQuiet_byValue n (kJ h)]; exact bH q
variable {prog}{w}(knd:um prog w lev)
def FO(h:Heap)(d:D)(v:Value):Prop:=flatIs d v∨∃ ds a,d=.tup ds∧v=.ref a∧dz knd h ds a
noncomputable def Ee:D→Int
 | .tup ds=>xR knd ds
 | d=>uE w d
noncomputable def dq:D→Nat
 | .tup ds=>sY knd ds
 | _=>1
theorem xc(h:flatIs d v):Ee knd d=uE w d∧dq knd d=1:=by
 rcases h.shape with ⟨i,t,rfl,rfl⟩ | ⟨i,t,rfl,rfl⟩ <;> exact⟨rfl,rfl⟩
theorem tup_is{ds:List D}(h:dz knd s.heap ds a):∃ items,s.heap.IsTuple a items:=let ⟨o,items,n,ho,hc,hd,_⟩:=h; ⟨items,o,ho,hc,n,hd⟩
noncomputable def Ar:um prog w (lev + 1) where
 is:=FO knd
 hash:=Ee knd
 draws:=dq knd
 inj:=fun {h v x y} hx hy=>by
  rcases hx with hx | ⟨ds,a,rfl,rfl,hx⟩ <;> rcases hy with hy | ⟨es,b,rfl,e,hy⟩
  ·exact tH hx hy
  ·rcases hx.shape with ⟨i,t,rfl,rfl⟩ | ⟨i,t,rfl,rfl⟩ <;> exact nomatch e
  ·rcases hy.shape with ⟨i,t,rfl,e⟩ | ⟨i,t,rfl,e⟩ <;> exact nomatch e
  ·injection e with e;subst e;rw[hx.inj hy]
 keeps:=fun h ho hd hs=>h.imp id fun ⟨ds,a,e1,e2,h⟩=>⟨ds,a,e1,e2,h.keeps ho hd hs⟩
 pyHash:=fun {A E s k v Q} hu h q=>by
  rcases h with h | ⟨ds,a,rfl,rfl,h⟩
  ·obtain⟨e1,e2⟩:=xc knd h;rw[e1,e2]at q;exact qq prog w h q
  ·exact lU hu h q
 eqAt:=fun {A s x y u v} hu hx hy=>by
  rcases hx with hx | ⟨ds,a,rfl,rfl,hx⟩ <;> rcases hy with hy | ⟨es,b,rfl,rfl,hy⟩
  ·exact yk hx hy
  ·obtain⟨items,p⟩:=tup_is knd hy;rcases hx.shape with ⟨i,t,rfl,rfl⟩ | ⟨i,t,rfl,rfl⟩
   ·rw[fK (fun z=>nomatch z)]; exact SeqAt.EqAt.int_tuple _ _ p (by lia)
   ·rw[fK (fun z=>nomatch z)]; exact SeqAt.EqAt.str_tuple _ _ p (by lia)
  ·obtain⟨items,p⟩:=tup_is knd hx;rcases hy.shape with ⟨i,t,rfl,rfl⟩ | ⟨i,t,rfl,rfl⟩
   ·rw[fK (fun z=>nomatch z)]; exact SeqAt.EqAt.tuple_int _ _ p (by lia)
   ·rw[fK (fun z=>nomatch z)]; exact SeqAt.EqAt.tuple_str _ _ p (by lia)
  ·have e:decide (D.tup ds=D.tup es)=decide (ds=es):=by
    by_cases h:ds=es
    ·rw[ff h,ff (by rw[h])]
    ·rw[fK h,fK (fun z=>h (by injection z))]
   rw[e];exact p9 hu hx hy
 quiet:=fun {A E s k v Q} n hn h q=>by
  rcases h with h | ⟨ds,a,rfl,rfl,h⟩
  ·rw[eqIsQuiet_byValue n (kJ h)]; exact bH q
  ·obtain⟨m,rfl⟩:∃ m,n=m + 1:=⟨n - 1,by lia⟩
   exact oA m (by lia) h q
end
noncomputable def vD(prog:Program)(w:World):um prog w 3:=Ar (Ar (Ar (GQ prog w)))
noncomputable def Hz(prog:Program)(w:World):HeapKind prog w (List D) where
 is:=dz (vD prog w)
 hash:=xR (vD prog w)
 draws:=sY (vD prog w)
 room:=fun A=>A.units + 4 < cLine
 inj:=fun hx hy=>hx.inj hy
 keeps:=fun x ho hd hs=>x.keeps ho hd hs
 pyHash:=fun hu hk h=>lU hu hk h
 eqBool:=fun {A E s x y a b Q} hu hx hy h=>by
  have:=p9 hu hx hy prog w E Q;have e:@decide (x=y) (instDecidableEqList x y)=@decide (x=y) _:=rfl;exact this (by first | exact h | (rw[e]at h; exact h))
 quiet:=fun hk h=>oA 7 (by decide) hk h
inductive V where
 | non | bl (b:Bool) | int (i:Int) | str (x:Str) | byt (b:Array UInt8) | flt (b:UInt64) | ref (a:Addr) | ty (n:String)
 deriving DecidableEq
def RelV:V→Value→Prop
 | .non,u=>u=Value.none
 | .bl b,u=>u=Value.bool b
 | .int i,u=>∃ t,u=Value.int i t
 | .str x,u=>∃ t,u=Value.str x t
 | .byt b,u=>∃ t,u=Value.bytes b t
 | .flt b,u=>∃ t,u=Value.float b t
 | .ref a,u=>u=Value.ref a
 | .ty n,u=>u=Value.type n
abbrev Vals:List V→List Value→Prop:=Paired RelV
theorem Vals.length(r:Vals xs us):xs.length=us.length:=Paired.length r
theorem Vals.get:∀ {xs:List V} {us:List Value} {i:Nat} {x:V},Vals xs us→xs[i]?=some x→∃ u,us[i]?=some u∧RelV x u
 | _,_,_,_,.nil,e=>by simp at e
 | _,_,0,_,.cons r _,e=>by simp at e; subst e; exact⟨_,rfl,r⟩
 | _,_,i + 1,x,.cons _ t,e=>by
  obtain⟨u,h1,h2⟩:=Vals.get (i:=i) (x:=x) t (by simpa using e);exact⟨u,by simpa using h1,h2⟩
theorem Vals.set{x:V}{u:Value}(r:RelV x u):∀ {xs:List V} {us:List Value} (i:Nat),Vals xs us→Vals (xs.set i x) (us.set i u)
 | _,_,_,.nil=>.nil
 | _,_,0,.cons _ t=>.cons r t
 | _,_,i + 1,.cons q t=>.cons q (Vals.set r i t)
theorem Vals.append:∀ {xs ys:List V} {us ws:List Value},Vals xs us→Vals ys ws→Vals (xs++ys) (us++ws)
 | _,_,_,_,.nil,s=>s
 | _,_,_,_,.cons r t,s=>.cons r (Vals.append t s)
theorem Vals.take:∀ {xs:List V} {us:List Value} (n:Nat),Vals xs us→Vals (xs.take n) (us.take n)
 | _,_,0,_=>.nil
 | _,_,_ + 1,.nil=>.nil
 | _,_,n + 1,.cons r t=>.cons r (Vals.take n t)
theorem Vals.drop:∀ {xs:List V} {us:List Value} (n:Nat),Vals xs us→Vals (xs.drop n) (us.drop n)
 | _,_,0,r=>r
 | _,_,_ + 1,.nil=>.nil
 | _,_,n + 1,.cons _ t=>Vals.drop n t
def gT:Option V→Option Value→Prop
 | some v,some u=>RelV v u
 | none,none=>True
 | _,_=>False
def KV{κ:Type}:List (κ × V)→List (κ × Value)→Prop:=Paired fun (p:κ × V) (q:κ × Value)=>p.1=q.1∧RelV p.2 q.2
noncomputable def kV:Key→V
 | .inl i=>.int i
 | .inr x=>.str x
inductive HO where
  | lst (xs:List V)
  | tup (xs:List V)
  | dK (kvs:List (Key × V)) | dT (kvs:List (List Key × V)) | dZ (zs:List (Addr × List Key)) (kvs:List (List Key × V)) | dN (zs:List (Addr × List D)) (kvs:List (List D × V))
  | set (S:Int→Bool) (n:Nat)
  | ins (C dx:Addr) (fs:List (Str × V))
  | own (x:Addr)
  | xd (fs:List (Str × V))
  | met (f x:Addr)
  | rng (lo hi:Int)
  | frz (o:Obj) (u:HO)
  | tbl (ps:Array Value)
  | ext (φ:Heap→Prop)
abbrev Hp:=Addr→Option HO
noncomputable def upd(H:Hp)(a:Addr)(o:HO):Hp:=fun b=>if b=a then some o else H b
theorem af:upd H a o a=some o:=by unfold upd; rw[if_pos rfl]
theorem aq{b:Addr}(h:b≠a):upd H a o b=H b:=by unfold upd; rw[if_neg h]
theorem yC{u:HO}:upd (upd H a o) a u=upd H a u:=by
 funext b; unfold upd; split <;> rfl
theorem bh{b:Addr}{u:HO}(h:H a=some o)(h':H b=some u)(d:o≠u):a≠b:=by
 intro e; subst e; rw[h]at h'; exact d (mW h')
theorem aH{b:Addr}(h:H a=some o)(h':H b=none):a≠b:=by
 intro e; subst e; rw[h]at h'; cases h'
mutual
noncomputable def Bj(C:Addr→List D→Prop)(H:Hp):D→V→Prop
 | .non,_=>False
 | .int i,v=>v=.int i
 | .str x,v=>v=.str x
 | .tup ds,v=>∃ b,v=.ref b∧(C b ds∨∃ vs,H b=some (.tup vs)∧rL C H ds vs)
noncomputable def rL(C:Addr→List D→Prop)(H:Hp):List D→List V→Prop
 | [],vs=>vs=[]
 | d::ds,vs=>∃ v r,vs=v::r∧Bj C H d v∧rL C H ds r
end
mutual
theorem Bj.mono{C C':Addr→List D→Prop}{H H':Hp}(hc:∀ b ds,C b ds→C' b ds)(ht:∀ b xs,H b=some (.tup xs)→H' b=some (.tup xs)):∀ {d:D} {v:V},Bj C H d v→Bj C' H' d v
 | .non,_,h=>by unfold Bj at h; exact h.elim
 | .int _,_,h=>by unfold Bj at h ⊢; exact h
 | .str _,_,h=>by unfold Bj at h ⊢; exact h
 | .tup ds,_,h=>by
  unfold Bj at h ⊢;obtain⟨b,e,h⟩:=h;refine⟨b,e,?_⟩;rcases h with h | ⟨vs,h1,h2⟩
  ·exact .inl (hc _ _ h)
  ·exact .inr ⟨vs,ht _ _ h1,rL.mono hc ht h2⟩
theorem rL.mono{C C':Addr→List D→Prop}{H H':Hp}(hc:∀ b ds,C b ds→C' b ds)(ht:∀ b xs,H b=some (.tup xs)→H' b=some (.tup xs)):∀ {ds:List D} {vs:List V},rL C H ds vs→rL C' H' ds vs
 | [],_,h=>by unfold rL at h ⊢; exact h
 | d::ds,_,h=>by
  unfold rL at h ⊢;obtain⟨v,r,e,p,q⟩:=h;exact⟨v,r,e,Bj.mono hc ht p,rL.mono hc ht q⟩
end
def J2(zs:List (Addr × List D))(H:Hp)(ds:List D)(b:Addr):Prop:=Bj (fun b ds=>(b,ds)∈zs) H (.tup ds) (.ref b)
section
variable (P:Program)(w:World)
def cO(H:Hp)(h:Heap)(a:Addr):HO→Prop
 | .lst xs=>xs.length≤sizeLine∧∃ (its:List Value) (n:Nat),Vals xs its∧h.get? a=some { cls:=.type "list",data:=.seq its.toArray n }
 | .tup xs=>xs.length≤sizeLine∧∃ its:List Value,Vals xs its∧IsTup h a its.toArray
 | .dK kvs=>kvs.length≤sizeLine∧(a == sysModules)=false∧∃ vs,KV kvs vs∧h.DictOf (bt P w) a vs
 | .dT kvs=>kvs.length≤sizeLine∧(a == sysModules)=false∧∃ xs:List (List Key × Addr × Value),
   Paired (fun (p:List Key × V) (q:List Key × Addr × Value)=>p.1=q.1∧H q.2.1=some (.tup (p.1.map kV))∧RelV p.2 q.2.2) kvs xs∧
   ∃ o es ep,h.get? a=some o∧o.ExactDict∧o.data=.dict es ep∧es.toList=xs.map (entryOfKey (tupleKind (bt P w)))∧(xs.map (·.1)).Nodup
 | .dZ zs kvs=>kvs.length≤sizeLine∧(a == sysModules)=false∧∃ xs:List (List Key × Addr × Value),
   Paired (fun (p:List Key × V) (q:List Key × Addr × Value)=>p.1=q.1∧(H q.2.1=some (.tup (p.1.map kV))∨(q.2.1,p.1)∈zs)∧RelV p.2 q.2.2) kvs xs∧
   ∃ o es ep,h.get? a=some o∧o.ExactDict∧o.data=.dict es ep∧es.toList=xs.map (entryOfKey (tupleKind (bt P w)))∧(xs.map (·.1)).Nodup
 | .dN zs kvs=>kvs.length≤sizeLine∧(a == sysModules)=false∧∃ xs:List (List D × Addr × Value),
   Paired (fun (p:List D × V) (q:List D × Addr × Value)=>p.1=q.1∧J2 zs H p.1 q.2.1∧RelV p.2 q.2.2) kvs xs∧
   ∃ o es ep,h.get? a=some o∧o.ExactDict∧o.data=.dict es ep∧es.toList=xs.map (entryOfKey (Hz P w))∧(xs.map (·.1)).Nodup
 | .set S n=>h.SetOf (intKind P w) a S n
 | .ins C dx fs=>H dx=some (.own a)∧fs.length≤1000∧dx≠a∧h.get? a=some (PySem.W.instObj C dx)∧
   ∃ mA,h.Ns1 dx mA∧(∀ f,gT (fs.lookup f) (mA f))∧PySem.Within mA (fs.map (·.1))
 | .own _=>∃ o,h.get? a=some o
 | .xd fs=>∃ mA,h.Ns1 a mA∧∀ f,gT (fs.lookup f) (mA f)
 | .rng lo hi=>∃ t u v,h.get? a=some { cls:=.type "range",data:=.fields #[.int lo t,.int hi u,.int 1 v] }
 | .frz o u=>h.get? a=some o∧cO H h a u
 | .tbl ps=>h.get? a=some { cls:=.none,data:=.fields ps }
 | .met f x=>h.get? a=some (PySem.W.methodObj (.ref f) (.ref x))
 | .ext φ=>φ h∧(∃ o,h.get? a=some o)∧∀ h1 h2:Heap,φ h1→(∀ o,h1.get? a=some o→h2.get? a=some o)→φ h2
def jh(H:Hp)(h:Heap):Prop:=∀ a o,H a=some o→cO P w H h a o
end
theorem cO.lt(x:cO P w H h a o):a < h.objs.size:=by
 cases o with
 | lst xs=>obtain⟨_,_,_,_,e⟩:=x; exact dy e
 | tup xs=>obtain⟨_,_,_,p⟩:=x; exact p.lt
 | dK kvs=>obtain⟨_,_,_,_,o,_,_,e,_⟩:=x; exact dy e
 | dT kvs=>obtain⟨_,_,_,_,o,_,_,e,_⟩:=x; exact dy e
 | dZ zs kvs=>obtain⟨_,_,_,_,o,_,_,e,_⟩:=x; exact dy e
 | dN zs kvs=>obtain⟨_,_,_,_,o,_,_,e,_⟩:=x; exact dy e
 | set S n=>obtain⟨o,_,_,_,e,_⟩:=x; exact dy e
 | ins C dx fs=>obtain⟨_,_,_,e,_⟩:=x; exact dy e
 | own y=>obtain⟨_,e⟩:=x; exact dy e
 | xd fs=>obtain⟨_,⟨_,_,_,e,_⟩,_⟩:=x; exact dy e
 | rng lo hi=>obtain⟨_,_,_,e⟩:=x; exact dy e
 | frz ob u=>obtain⟨e,_⟩:=x; exact dy e
 | tbl ps=>exact dy (show h.get? a=some _ from x)
 | met f y=>exact dy (show h.get? a=some _ from x)
 | ext φ=>obtain⟨_,⟨_,e⟩,_⟩:=x; exact dy e
theorem Paired.zm{α β:Type}{F G:α→β→Prop}:∀ {l₁:List α} {l₂:List β},Paired F l₁ l₂→(∀ a b,F a b→G a b)→Paired G l₁ l₂
 | _,_,.nil,_=>.nil
 | _,_,.cons r t,f=>.cons (f _ _ r) (Paired.zm t f)
theorem cO.sP(x:cO P w H h a o)(k:∀ b u,(b=a∨H b=some (.own a))→h.get? b=some u→h'.get? b=some u)
  (ho:∀ b,H b=some (.own a)→H' b=some (.own a)) (ht:∀ b xs,H b=some (.tup xs)→H' b=some (.tup xs)):cO P w H' h' a o:=by
 induction o with
 | lst xs=>obtain⟨z,its,n,r,e⟩:=x; exact⟨z,its,n,r,k _ _ (.inl rfl) e⟩
 | tup xs=>obtain⟨z,its,r,ob,e,c⟩:=x; exact⟨z,its,r,ob,k _ _ (.inl rfl) e,c⟩
 | dK kvs=>obtain⟨z,y,vs,r,ob,es,ep,e,c⟩:=x; exact⟨z,y,vs,r,ob,es,ep,k _ _ (.inl rfl) e,c⟩
 | dT kvs=>
  obtain⟨z,y,xs,r,ob,es,ep,e,c⟩:=x;exact⟨z,y,xs,Paired.zm r fun p q z=>⟨z.1,ht _ _ z.2.1,z.2.2⟩,ob,es,ep,k _ _ (.inl rfl) e,c⟩
 | dZ zs kvs=>
  obtain⟨z,y,xs,r,ob,es,ep,e,c⟩:=x;exact⟨z,y,xs,Paired.zm r fun p q z=>⟨z.1,z.2.1.imp (ht _ _) id,z.2.2⟩,ob,es,ep,k _ _ (.inl rfl) e,c⟩
 | dN zs kvs=>
  obtain⟨z,y,xs,r,ob,es,ep,e,c⟩:=x;exact⟨z,y,xs,Paired.zm r fun p q z=>⟨z.1,Bj.mono (fun _ _ h=>h) ht z.2.1,z.2.2⟩,ob,es,ep,k _ _ (.inl rfl) e,c⟩
 | set S n=>obtain⟨ob,es,ep,t,e,c⟩:=x; exact⟨ob,es,ep,t,k _ _ (.inl rfl) e,c⟩
 | ins C dx fs=>
  obtain⟨d,z,ne,e,mA,⟨od,es,ep,e2,c⟩,r⟩:=x;exact⟨ho _ d,z,ne,k _ _ (.inl rfl) e,mA,⟨od,es,ep,k _ _ (.inr d) e2,c⟩,r⟩
 | own y=>obtain⟨ob,e⟩:=x; exact⟨ob,k _ _ (.inl rfl) e⟩
 | xd fs=>obtain⟨mA,⟨od,es,ep,e,c⟩,r⟩:=x; exact⟨mA,⟨od,es,ep,k _ _ (.inl rfl) e,c⟩,r⟩
 | rng lo hi=>obtain⟨t,u,v,e⟩:=x; exact⟨t,u,v,k _ _ (.inl rfl) e⟩
 | frz ob u ih=>obtain⟨e,q⟩:=x; exact⟨k _ _ (.inl rfl) e,ih q⟩
 | tbl ps=>
  have e:h.get? a=some { cls:=.none,data:=.fields ps }:=x;show h'.get? a=some { cls:=.none,data:=.fields ps };exact k a _ (.inl rfl) e
 | met f y=>
  have e:h.get? a=some (PySem.W.methodObj (.ref f) (.ref y)):=x;show h'.get? a=some (PySem.W.methodObj (.ref f) (.ref y));exact k a _ (.inl rfl) e
 | ext φ=>obtain⟨p,⟨o,e⟩,st⟩:=x; exact⟨st _ _ p fun o q=>k _ _ (.inl rfl) q,⟨o,k _ _ (.inl rfl) e⟩,st⟩
theorem jh.lt(x:jh P w H h)(e:H a=some o):a < h.objs.size:=(x a o e).lt
theorem jh.fresh(x:jh P w H h)(e:h.objs.size≤a):H a=none:=by
 cases q:H a with
 | none=>rfl
 | some u=>exact absurd (xq (x.lt q) e) (Cr _)
theorem jh.kept(x:jh P w H h)(k:∀ b u,h.get? b=some u→h'.get? b=some u):jh P w H h':=fun a o e=>
 (x a o e).sP (fun b u _ q=>k b u q) (fun _ q=>q) fun _ _ q=>q
theorem jh.laid(x:jh P w H h)(k:∀ b u,h.get? b=some u→h'.get? b=some u)(hp:h.objs.size≤a)(new:cO P w (upd H a o) h' a o):jh P w (upd H a o) h':=fun b u e=>by
 have hn:=x.fresh hp;by_cases hb:b=a
 ·subst hb; rw[af]at e; cases e; exact new
 ·rw[aq hb]at e;exact (x b u e).sP (fun c v _ q=>k c v q) (fun c q=>by rw[aq (aH q hn)]; exact q) fun c xs q=>by rw[aq (aH q hn)]; exact q
def Rd(H:Hp)(a:Addr)(u:HO):Prop:=H a=some u∨∃ o,H a=some (.frz o u)
theorem Rd.ok{u:HO}(r:Rd H a u)(x:jh P w H h):cO P w H h a u:=by
 rcases r with r | ⟨o,r⟩
 ·exact x a u r
 ·obtain⟨_,q⟩:=x a _ r;exact q
def Hk:Option HO→Prop
 | some (.lst _)=>True
 | some (.dK _)=>True
 | some (.dT _)=>True
 | some (.dZ _ _)=>True
 | some (.dN _ _)=>True
 | some (.set _ _)=>True
 | some (.ins _ _ _)=>True
 | some (.ext _)=>True
 | _=>False
section
variable {x e:Addr}{o':HO}
theorem jh.write(ok:jh P w H h)(mu:Hk (H x))(he:e=x∨H e=some (.own x))(k:∀ b u,b≠e→h.get? b=some u→h'.get? b=some u)(heo:∃ u,h'.get? e=some u)
  (new:cO P w (upd H x o') h' x o'):jh P w (upd H x o') h':=fun b u q=>by
 have nown:∀ c y,H c=some (.own y)→c≠x:=fun c y r z=>by subst z; rw[r]at mu; exact mu
 have ntup:∀ c xs,H c=some (.tup xs)→c≠x:=fun c xs r z=>by subst z; rw[r]at mu; exact mu
 by_cases hb:b=x
 ·subst hb; rw[af]at q; cases q; exact new
 ·rw[aq hb]at q;by_cases hbe:b=e
  ·have q':H b=some (.own x):=by
    rcases he with z | z
    ·exact absurd (hbe.trans z) hb
    ·rw[hbe]; exact z
   rw[q]at q'; cases q';obtain⟨v,hv⟩:=heo;exact⟨v,by rw[hbe]; exact hv⟩
  ·refine (ok b u q).sP (fun c v hc r=>k c v ?_ r) (fun c r=>by rw[aq (nown c b r)]; exact r) fun c xs r=>by rw[aq (ntup c xs r)]; exact r
   rcases hc with rfl | hc
   ·exact hbe
   ·rintro rfl
    rcases he with z | z
    ·exact nown c b hc z
    ·rw[hc]at z; cases z; exact hb rfl
end
structure Un (fs ex:List Addr) (H H':Hp) (h h':Heap):Prop where
 keep:∀ b o,h.get? b=some o→H b=none→b∉fs→b∉ex→h'.get? b=some o
 slot:∀ b o,h.get? b=some o→H b=none→b∈fs→b∉ex→∃ sl,h'.get? b=some { o with slots:=sl }
 free:∀ b o,h.get? b=some o→H b=none→b∉ex→H' b=none
 there:∀ b o,h.get? b=some o→b∉ex→∃ o',h'.get? b=some o'
 aS:∀ b xs,H b=some (.tup xs)→H' b=some (.tup xs)
 frzs:∀ b o u,H b=some (.frz o u)→H' b=some (.frz o u)
 tbls:∀ b ps,H b=some (.tbl ps)→∃ more,H' b=some (.tbl (ps++more))
section
variable {fs fs' ex ex':List Addr}{H1 H2:Hp}{h1 h2:Heap}{x e:Addr}
theorem Un.any(u:Un fs ex H H1 h h1){b:Addr}{ob:Obj}(q:h.get? b=some ob)(n:H b=none)(hx:b∉ex):∃ sl,h1.get? b=some { ob with slots:=sl }:=by
 by_cases hb:b∈fs
 ·exact u.slot b ob q n hb hx
 ·exact⟨ob.slots,u.keep b ob q n hb hx⟩
theorem Un.kept(k:∀ b u,h.get? b=some u→h'.get? b=some u):Un fs ex H H h h':=
 ⟨fun b ob q _ _ _=>k b ob q,fun b ob q _ _ _=>⟨ob.slots,k b ob q⟩,fun _ _ _ n _=>n,fun b ob q _=>⟨ob,k b ob q⟩,fun _ _ q=>q,fun _ _ _ q=>q,fun _ ps q=>⟨#[],by rw[q]; simp⟩⟩
theorem Un.refl:Un fs ex H H h h:=Un.kept fun _ _ q=>q
theorem Un.laid(k:∀ b u,h.get? b=some u→h'.get? b=some u)(hp:h.objs.size≤a)(hn:H a=none):Un fs ex H (upd H a o) h h' where
 keep:=fun b u q _ _ _=>k b u q
 slot:=fun b u q _ _ _=>⟨u.slots,k b u q⟩
 free:=fun b u q n _=>by rw[aq (eR (xq (dy q) hp))]; exact n
 there:=fun b u q _=>⟨u,k b u q⟩
 aS:=fun b xs q=>by rw[aq (aH q hn)]; exact q
 frzs:=fun b u xs q=>by rw[aq (aH q hn)]; exact q
 tbls:=fun b ps q=>⟨#[],by rw[aq (aH q hn),q]; simp⟩
theorem Un.write(mu:Hk (H x))(he:e=x∨H e=some (.own x))(k:∀ b u,b≠e→h.get? b=some u→h'.get? b=some u)(heo:∃ u,h'.get? e=some u):Un fs ex H (upd H x o) h h':=by
 have hx:∀ b,H b=none→b≠x:=fun b n z=>by subst z; rw[n]at mu; exact mu
 have hb:∀ b,H b=none→b≠e:=fun b n z=>by
  subst z;rcases he with r | r
  ·exact hx b n r
  ·rw[n]at r; cases r
 have hm:∀ b u,H b=some u→¬ Hk (some u)→b≠x:=fun b u q nm z=>by subst z; rw[q]at mu; exact nm mu
 refine⟨fun b u q n _ _=>k b u (hb b n) q,fun b u q n _ _=>⟨u.slots,k b u (hb b n) q⟩,fun b u q n _=>by rw[aq (hx b n)]; exact n,fun b u q _=>?_,
  fun b xs q=>by rw[aq (hm b _ q fun z=>z)]; exact q,fun b u xs q=>by rw[aq (hm b _ q fun z=>z)]; exact q,fun b ps q=>⟨#[],by rw[aq (hm b _ q fun z=>z),q]; simp⟩⟩
 by_cases hbe:b=e
 ·subst hbe; exact heo
 ·exact⟨u,k b u hbe q⟩
end
noncomputable def HY(h:Heap)(H:Hp):List Addr:=(List.range h.objs.size).filter fun a=>(H a).isSome
def sg(h:Heap)(H:Hp):Heap:=PySem.W.hideAll h (HY h H)
theorem yS(h:Heap)(H:Hp):(sg h H).objs.size=h.objs.size:=PySem.W.hideAll_size _ _
theorem B8{b:Addr}{o:Obj}(e:h.get? b=some o)(n:H b=none):(sg h H).get? b=some o:=
 PySem.W.hideAll_get _ e fun hm=>by
  have q:(H b).isSome=true:=(List.mem_filter.mp hm).2;rw[n]at q; simp at q
theorem Dp{b:Addr}{o:Obj}(e:(sg h H).get? b=some o):h.get? b=some o∧H b=none:=by
 have e':h.get? b=some o:=PySem.W.of_hideAll (HY h H) e;refine⟨e',?_⟩;cases q:H b with
 | none=>rfl
 | some x=>
  have hm:b∈HY h H:=List.mem_filter.mpr ⟨List.mem_range.mpr (dy e'),by simp[q]⟩;have z:(sg h H).get? b=none:=PySem.W.hideAll_none (HY h H) hm;rw[z]at e; cases e
noncomputable def DN(g h:Heap)(L:Addr):List (Addr × Obj):=(List.range h.objs.size).filterMap fun a=>if a=L∨(g.get? a).isSome=true then none else (h.get? a).map fun o=>(a,o)
noncomputable def rest(g h:Heap)(L d:Addr):List (Addr × Obj):=(DN g h L).filter fun p=>decide (p.1≠d)
structure Mod (K:aW) (mg:Str→Option Value) (base:Heap):Prop where
 kin:K.In base
 glob:base.Ns mainGlobals mg
 blt:∃ mb,base.Ns builtinsNs mb∧∀ x:Str,x≠"__name__"→mb x=bootBuiltins x
 nolimit:base.NoLimit
structure Cx where
 prog:Program
 w:World
 K:aW
 mg:Str→Option Value
 base:Heap
 A:Around
 N:List Str
 s₀:Shared
 H₀:Hp
 env:Env
 outer:List Env
 stack:List Env
 ex:List Addr
 fn:Str→Bool
 calm:Bool
 pn:List (Addr × Obj)
 xe:Value→Shared→Prop
noncomputable def xB(l:List Env):List Addr:=l.filterMap (·.frame)
noncomputable abbrev Cx.fs(X:Cx):List Addr:=xB X.outer
def Ij(sc:Scope)(x:Str):Prop:=sc.names.lookup x=some .local∨sc.names.lookup x=some .cell∨sc.names.lookup x=some .free
def Loc(sc:Scope)(x:Str):Prop:=sc.names.lookup x=some .local∨sc.names.lookup x=some .cell
def Look(env:Env)(h:Heap)(m:Str→Option Value)(x:Str)(u:Value):Prop:=
 (env.kindOf x=some .local∧m x=some u)∨((env.kindOf x=some .cell∨env.kindOf x=some .free)∧∃ c,env.cells.lookup x=some c∧h.IsCell c (some u))
structure Cx.Ok (X:Cx):Prop where
 mod:Mod X.K X.mg X.base
 kind:X.env.scope.kind=.function
 glob:X.env.globals=mainGlobals
 blt:X.env.builtins=builtinsNs
 above:X.s₀.heap.objs.size≤X.env.locals
 inj:∀ x y c,X.env.cells.lookup x=some c→X.env.cells.lookup y=some c→x=y
 has:∀ x,(X.env.kindOf x=some .cell∨X.env.kindOf x=some .free)→∃ c,X.env.cells.lookup x=some c
 cab:∀ x c,X.fn x=true→X.env.cells.lookup x=some c→X.s₀.heap.objs.size≤c
 hd:X.calm=true→X.A.handled=none
 frames:X.A.frames=some X.stack
 stk:X.stack=X.outer∨(X.stack=X.env::X.outer∧X.env.frame=some X.env.locals)
 exf:∀ b∈X.ex,b≠X.env.locals∧∀ x c,X.env.cells.lookup x=some c→c≠b
 bs:∀ b o,X.base.get? b=some o→X.s₀.heap.get? b=some o∧X.H₀ b=none
 bsz:X.base.objs.size≤X.s₀.heap.objs.size
 noex:∀ b o,X.base.get? b=some o→b∉X.ex
 exfs:∀ b∈X.ex,b∉X.fs
 kR:X.s₀.heap.FunFrames X.base X.outer
 frf:∀ b∈X.fs,X.H₀ b=none
structure Inv (X:Cx) (pins:List (Addr × Obj)) (σ:List (Option V)) (H:Hp) (s:Shared):Prop where
 ok:X.Ok
 os:s.os=X.s₀.os
 bare:AllBare s.gens
 base:Un X.fs X.ex X.H₀ H X.s₀.heap s.heap
 loc:∃ m,s.heap.Ns X.env.locals m∧∀ (i:Nat) (x:Str) (v:V),X.N[i]?=some x→σ[i]?=some (some v)→Ij X.env.scope x→∃ u,RelV v u∧Look X.env s.heap m x u
 cell:∀ x c,X.env.cells.lookup x=some c→∃ v,s.heap.IsCell c v
 free:H X.env.locals=none
 freeC:∀ x c,X.env.cells.lookup x=some c→H c=none
 pin:∀ p∈X.pn++pins,s.heap.get? p.1=some p.2∧H p.1=none∧p.1≠X.env.locals∧p.1∉X.fs∧∀ v,p.2.data≠.cell v
 hok:jh X.prog X.w H s.heap
 len:σ.length=X.N.length
section
variable {σ:List (Option V)}
theorem Cx.Ok.Ii(ok:X.Ok){b:Addr}{o:Obj}(e:X.base.get? b=some o):b∉X.fs:=fun hb=>by
 have:=(ok.kR.mem hb).1;rw[e]at this; cases this
theorem Inv.bs(I:Inv X pins σ H s):∀ b o,X.base.get? b=some o→s.heap.get? b=some o∧H b=none:=fun b o e=>
 ⟨I.base.keep b o (I.ok.bs b o e).1 (I.ok.bs b o e).2 (I.ok.Ii e) (I.ok.noex b o e),I.base.free b o (I.ok.bs b o e).1 (I.ok.bs b o e).2 (I.ok.noex b o e)⟩
theorem Inv.bk(I:Inv X pins σ H s):∀ b o,X.base.get? b=some o→s.heap.get? b=some o:=fun b o e=>(I.bs b o e).1
theorem Inv.mod(I:Inv X pins σ H s):Mod X.K X.mg X.base:=I.ok.mod
theorem Inv.wV(I:Inv X pins σ H s):X.K.In s.heap:=I.ok.mod.kin.keeps I.bk
theorem Inv.fr(I:Inv X pins σ H s):∃ m,Fr X.base X.env.locals s.heap m:=
 let ⟨m,hn,_⟩:=I.loc
 ⟨m,hn,I.bk,vJ I.ok.bsz I.ok.above⟩
theorem Inv.lt(I:Inv X pins σ H s):X.env.locals < s.heap.objs.size:=let ⟨_,hn,_⟩:=I.loc; hn.lt
theorem Inv.sz(I:Inv X pins σ H s):X.s₀.heap.objs.size≤s.heap.objs.size:=vJ I.ok.above (Nat.le_of_lt I.lt)
theorem Inv.IE(I:Inv X pins σ H s)(h:s.heap.objs.size≤a):a∉X.fs:=fun hb=>by
 obtain⟨_,o,ho,_⟩:=I.ok.kR.mem hb;exact absurd (xq (dy ho) (vJ I.sz h)) (Cr _)
theorem Inv.Fp(I:Inv X pins σ H s):∀ x c,X.env.cells.lookup x=some c→c≠X.env.locals:=fun x c e z=>by
 obtain⟨v,o,ho,hd⟩:=I.cell x c e;obtain⟨m,⟨o',es,ep,ho',hd',_⟩,_⟩:=I.loc;rw[z,ho']at ho; cases ho; rw[hd']at hd; cases hd
theorem Inv.kR(I:Inv X pins σ H s):s.heap.FunFrames X.base X.outer:=by
 have all:∀ (l:List Env),(∀ b∈xB l,b∈X.fs)→X.s₀.heap.FunFrames X.base l→s.heap.FunFrames X.base l:=by
  intro l
  induction l with
  | nil=>intro _ _; trivial
  | cons env r ih=>
   intro hs hl;obtain⟨hk,⟨L,o,hf,hn,ho,hd⟩,hr⟩:=hl;have hL:L∈X.fs:=hs L (by unfold xB; rw[List.filterMap_cons,hf]; exact oE);obtain⟨sl,e⟩:=I.base.slot L o ho (I.ok.frf L hL) hL fun z=>I.ok.exfs L z hL
   exact⟨hk,⟨L,_,hf,hn,e,hd⟩,ih (fun b hb=>hs b (by unfold xB; rw[List.filterMap_cons,hf]; exact tu _ hb)) hr⟩
 exact all X.outer (fun _ hb=>hb) I.ok.kR
theorem Inv.stack(I:Inv X pins σ H s):s.heap.FunFrames X.base X.stack:=by
 rcases I.ok.stk with e | ⟨e,hf⟩
 ·rw[e]; exact I.kR
 ·rw[e];obtain⟨m,hn,_⟩:=I.loc;refine .cons (by rw[I.ok.kind]; decide) hf hn ?_ I.kR;exact Heap.get?_none_of_le (vJ I.ok.bsz I.ok.above)
theorem Inv.sI(I:Inv X pins σ H s):∀ b∈xB X.stack,b∈X.env.locals::X.fs:=fun b hb=>by
 rcases I.ok.stk with e | ⟨e,hf⟩
 ·rw[e]at hb; exact tu _ hb
 ·rw[e]at hb;unfold xB at hb;rw[List.filterMap_cons,hf]at hb;exact hb
theorem Inv.yF(I:Inv X pins σ H s):∀ b∈xB X.stack,H b=none:=fun b hb=>by
 rcases dO.mp (I.sI b hb) with e | hb
 ·rw[e]; exact I.free
 ·obtain⟨_,o,ho,_⟩:=I.ok.kR.mem hb;exact I.base.free b o ho (I.ok.frf b hb) fun z=>I.ok.exfs b z hb
theorem Inv.step{g':Array GenState}{t':Nat}{d':Drawn}{ch:List Addr}(I:Inv X pins σ H s)
  (hch:∀ b∈ch,(b∈X.ex∨X.s₀.heap.objs.size≤b)∧b≠X.env.locals∧(∀ x c,X.env.cells.lookup x=some c→c≠b)∧∀ p∈X.pn++pins,p.1≠b)
  (keep:∀ b o,b≠X.env.locals→b∉X.fs→b∉ch→s.heap.get? b=some o→H b=none→h'.get? b=some o)
  (slot:∀ b o,b≠X.env.locals→b∈X.fs→b∉ch→s.heap.get? b=some o→H b=none→∃ sl,h'.get? b=some { o with slots:=sl }) (free:∀ b o,b∉ch→s.heap.get? b=some o→H b=none→H' b=none)
  (there:∀ b o,b∉ch→s.heap.get? b=some o→∃ o',h'.get? b=some o')
  (aS:∀ b xs,H b=some (.tup xs)→H' b=some (.tup xs)) (frzs:∀ b o u,H b=some (.frz o u)→H' b=some (.frz o u)) (tbls:∀ b ps,H b=some (.tbl ps)→∃ more,H' b=some (.tbl (ps++more)))
  (ns:∀ m,s.heap.Ns X.env.locals m→h'.Ns X.env.locals m) (hok:jh X.prog X.w H' h') (hg:AllBare g') :
  Inv X pins σ H' { s with heap:=h',gens:=g',drawn:=d',toks:=t' }:=by
 have neL:∀ b o,X.s₀.heap.get? b=some o→b≠X.env.locals:=fun b o e=>eR (xq (dy e) I.ok.above)
 have neC:∀ b o,X.s₀.heap.get? b=some o→b∉X.ex→b∉ch:=fun b o e hx hb=>by
  rcases (hch b hb).1 with z | z
  ·exact hx z
  ·exact absurd (xq (dy e) z) (Cr _)
 have cellK:∀ x c,X.env.cells.lookup x=some c→∀ v,s.heap.IsCell c v→h'.IsCell c v:=fun x c e v ⟨o,ho,hd⟩=>by
  have nch:c∉ch:=fun z=>(hch c z).2.2.1 x c e rfl
  by_cases hc:c∈X.fs
  ·obtain⟨sl,q⟩:=slot c o (I.Fp x c e) hc nch ho (I.freeC x c e);exact⟨_,q,hd⟩
  ·exact⟨o,keep c o (I.Fp x c e) hc nch ho (I.freeC x c e),hd⟩
 refine⟨I.ok,I.os,hg,⟨fun b o e n hb hx=>?_,fun b o e n hb hx=>?_,fun b o e n hx=>?_,fun b o e hx=>?_,fun b xs e=>aS b xs (I.base.aS b xs e),fun b o xs e=>frzs b o xs (I.base.frzs b o xs e),fun b ps e=>?_⟩,?_,fun x c e=>?_,?_,fun x c e=>?_,fun p hp=>?_,hok,I.len⟩
 ·exact keep b o (neL b o e) hb (neC b o e hx) (I.base.keep b o e n hb hx) (I.base.free b o e n hx)
 ·obtain⟨sl,e1⟩:=I.base.slot b o e n hb hx;obtain⟨sl',e2⟩:=slot b _ (neL b o e) hb (neC b o e hx) e1 (I.base.free b o e n hx);exact⟨sl',e2⟩
 ·obtain⟨o',e1⟩:=I.base.there b o e hx;exact free b o' (neC b o e hx) e1 (I.base.free b o e n hx)
 ·obtain⟨o',e1⟩:=I.base.there b o e hx;exact there b o' (neC b o e hx) e1
 ·obtain⟨m1,e1⟩:=I.base.tbls b ps e;obtain⟨m2,e2⟩:=tbls b _ e1;exact⟨m1++m2,by rw[e2,Array.append_assoc]⟩
 ·obtain⟨m,hn,hl⟩:=I.loc;refine⟨m,ns m hn,fun i x v e1 e2 e3=>?_⟩;obtain⟨u,r,l⟩:=hl i x v e1 e2 e3;refine⟨u,r,?_⟩;rcases l with l | ⟨k,c,e,z⟩
  ·exact .inl l
  ·exact .inr ⟨k,c,e,cellK x c e _ z⟩
 ·obtain⟨v,z⟩:=I.cell x c e;exact⟨v,cellK x c e v z⟩
 ·obtain⟨m,⟨o,_,_,ho,_⟩,_⟩:=I.loc;exact free _ o (fun z=>(hch _ z).2.1 rfl) ho I.free
 ·obtain⟨v,o,ho,hd⟩:=I.cell x c e;exact free c o (fun z=>(hch c z).2.2.1 x c e rfl) ho (I.freeC x c e)
 ·obtain⟨e,n,ne,nf,d⟩:=I.pin p hp;have nch:p.1∉ch:=fun z=>(hch p.1 z).2.2.2 p hp rfl
  exact⟨keep p.1 p.2 ne nf nch e n,free p.1 p.2 nch e n,ne,nf,d⟩
theorem Inv.un(I:Inv X pins σ H s)(u:Un X.fs [] H H' s.heap h')(hok:jh X.prog X.w H' h'):Inv X pins σ H' { s with heap:=h',toks:=t' }:=by
 obtain⟨m,⟨o,es,ep,ho,r⟩,_⟩:=id I.loc;obtain⟨sl,hL⟩:=u.any ho I.free (by simp)
 exact I.step (g':=s.gens) (d':=s.drawn) (ch:=[]) (fun _ z=>nomatch z) (fun b o _ hb _ e n=>u.keep b o e n hb (by simp)) (fun b o _ hb _ e n=>u.slot b o e n hb (by simp)) (fun b o _ e n=>u.free b o e n (by simp)) (fun b o _ e=>u.there b o e (by simp)) u.aS u.frzs u.tbls (fun m' hm=>by
  obtain⟨o',es',ep',ho',r'⟩:=hm;rw[ho]at ho'; cases ho'
  exact⟨_,es',ep',hL,r'⟩) hok I.bare
theorem Inv.call{g':Array GenState}{d':Drawn}(I:Inv X pins σ H s)(u:Un (xB X.stack) ch H H' s.heap h')(hok:jh X.prog X.w H' h')(hg:AllBare g')
  (hch:∀ b∈ch,(b∈X.ex∨X.s₀.heap.objs.size≤b)∧b≠X.env.locals∧(∀ x c,X.env.cells.lookup x=some c→c≠b)∧∀ p∈X.pn++pins,p.1≠b) :
  Inv X pins σ H' { s with heap:=h',gens:=g',drawn:=d',toks:=t' }:=by
 obtain⟨m,⟨o,es,ep,ho,r⟩,_⟩:=id I.loc;obtain⟨sl,hL⟩:=u.any ho I.free fun z=>(hch _ z).2.1 rfl
 exact I.step (ch:=ch) hch (fun b o hL hb hc e n=>u.keep b o e n (fun z=>(dO.mp (I.sI b z)).elim hL hb) hc) (fun b o _ _ hc e n=>u.any e n hc) (fun b o hc e n=>u.free b o e n hc) (fun b o hc e=>u.there b o e hc) u.aS u.frzs u.tbls (fun m' hm=>by
  obtain⟨o',es',ep',ho',r'⟩:=hm;rw[ho]at ho'; cases ho'
  exact⟨_,es',ep',hL,r'⟩) hok hg
theorem Inv.turned(I:Inv X pins σ H s)(k:∀ b o,b≠it→s.heap.get? b=some o→h'.get? b=some o)(hn:H it=none)(hL:it≠X.env.locals)
  (h1:it∈X.ex∨X.s₀.heap.objs.size≤it) (h2:∀ x c,X.env.cells.lookup x=some c→c≠it) (h3:∀ p∈X.pn++pins,p.1≠it):Inv X pins σ H { s with heap:=h',toks:=t' }:=by
 have nit:∀ b u,H b=some u→b≠it:=fun b u e z=>by rw[z,hn]at e; cases e
 refine I.step (g':=s.gens) (d':=s.drawn) (ch:=[it]) (fun b hb=>?_) (fun b o _ _ hc e _=>k b o (fun z=>hc (by simp[z])) e) (fun b o _ _ hc e _=>⟨o.slots,k b o (fun z=>hc (by simp[z])) e⟩) (fun _ _ _ _ n=>n)
  (fun b o hc e=>⟨o,k b o (fun z=>hc (by simp[z])) e⟩) (fun _ _ e=>e) (fun _ _ _ e=>e) (fun b ps e=>⟨#[],by rw[e]; simp⟩) (fun m hm=>?_) (fun b u e=>?_) I.bare
 ·have e:b=it:=by simpa using hb
  subst e;exact⟨h1,hL,h2,h3⟩
 ·obtain⟨o,es,ep,ho,r⟩:=hm;exact⟨o,es,ep,k _ o (Ne.symm hL) ho,r⟩
 ·refine (I.hok b u e).sP (fun c v hc q=>k c v ?_ q) (fun _ q=>q) fun _ _ q=>q
  rcases hc with z | z
  ·rw[z]; exact nit b u e
  ·exact nit c _ z
theorem Inv.tok(I:Inv X pins σ H s)(t:Nat):Inv X pins σ H { s with toks:=t }:=I.un (h':=s.heap) (t':=t) Un.refl I.hok
theorem Inv.kept(I:Inv X pins σ H s)(k:∀ b u,s.heap.get? b=some u→h'.get? b=some u):Inv X pins σ H { s with heap:=h',toks:=t' }:=I.un (Un.kept k) (I.hok.kept k)
theorem Inv.laid(I:Inv X pins σ H s)(k:∀ b u,s.heap.get? b=some u→h'.get? b=some u)(hp:s.heap.objs.size≤a)(new:cO X.prog X.w (upd H a o) h' a o) :
  Inv X pins σ (upd H a o) { s with heap:=h',toks:=t' }:=I.un (Un.laid k hp (I.hok.fresh hp)) (I.hok.laid k hp new)
theorem Inv.write{x e:Addr}(I:Inv X pins σ H s)(mu:Hk (H x))(he:e=x∨H e=some (.own x))(k:∀ b u,b≠e→s.heap.get? b=some u→h'.get? b=some u)(heo:∃ u,h'.get? e=some u)
  (new:cO X.prog X.w (upd H x o) h' x o):Inv X pins σ (upd H x o) { s with heap:=h',toks:=t' }:=I.un (Un.write mu he k heo) (I.hok.write mu he k heo new)
theorem Inv.weak{σ':List (Option V)}(I:Inv X pins σ H s)(hl:σ'.length=σ.length)(w:∀ (i:Nat) v,σ'[i]?=some (some v)→σ[i]?=some (some v)):Inv X pins σ' H s:=
 ⟨I.ok,I.os,I.bare,I.base,let ⟨m,hn,hl'⟩:=I.loc; ⟨m,hn,fun i x v e1 e2 e3=>hl' i x v e1 (w i v e2) e3⟩,I.cell,I.free,I.freeC,I.pin,I.hok,hl.trans I.len⟩
theorem Inv.xH{pins':List (Addr × Obj)}(I:Inv X pins σ H s)(h:∀ p∈pins',s.heap.get? p.1=some p.2∧H p.1=none∧p.1≠X.env.locals∧p.1∉X.fs∧∀ v,p.2.data≠.cell v):Inv X pins' σ H s:=
 ⟨I.ok,I.os,I.bare,I.base,I.loc,I.cell,I.free,I.freeC,fun p hp=>(fv.mp hp).elim (fun z=>I.pin p (tq _ z)) (h p),I.hok,I.len⟩
theorem uH(hN:N.Nodup)(a:N[i]?=some x)(b:N[j]?=some x):i=j:=by
 obtain⟨h1,e1⟩:=eQ.mp a;obtain⟨h2,e2⟩:=eQ.mp b;exact (List.getElem_inj hN).mp (e1.trans e2.symm)
theorem qt{v:V}{Q:Unit→Shared→Prop}(I:Inv X pins σ H s)(hN:X.N.Nodup)(hi:X.N[i]?=some x)(hx:Loc X.env.scope x)(r:RelV v u)
  (h:∀ s',Inv X pins (σ.set i (some v)) H s'→(∃ a,Heap.SameBut a s.heap s'.heap∧(a=X.env.locals∨X.env.cells.lookup x=some a))→Q () s') (hf:autoParam (X.fn x=true∨X.env.scope.names.lookup x=some .local) q_3):wpAny M A (storeName X.env x u) Q E s:=by
 obtain⟨m,hn,hl⟩:=id I.loc;have hcls:(X.env.scope.kind == .class || (X.env.scope.kind == .module && X.env.locals != X.env.globals))=false:=by rw[I.ok.kind]; rfl
 have hiσ:i < σ.length:=by rw[I.len]; exact (eQ.mp hi).1
 have Fp:=I.Fp;have tracked:∀ {a:Addr} {h':Heap},(∃ o,s.heap.get? a=some o∧H a=none)→Heap.SameBut a s.heap h'→jh X.prog X.w H h':=fun {a h'} ha hs b ob e=>by
  obtain⟨_,_,hfree⟩:=ha;refine (I.hok b ob e).sP (fun c w' hc q=>(hs.2 c ?_).trans q) (fun _ q=>q) fun _ _ q=>q
  rintro rfl
  rcases hc with rfl | hc
  ·rw[hfree]at e; cases e
  ·rw[hfree]at hc; cases hc
 rcases hx with hk | hk
 ·refine wpAny_storeName_local hk hn (fun h' hn' hs=>?_) hcls;obtain⟨oL,_,_,hoL,_⟩:=id hn;refine h _ ⟨I.ok,I.os,I.bare,⟨fun b o e n hb hx=>?_,fun b o e n hb hx=>?_,I.base.free,fun b o e hx=>?_,I.base.aS,I.base.frzs,I.base.tbls⟩,⟨_,hn',fun j y v' e1 e2 e3=>?_⟩,fun y c e=>?_,I.free,I.freeC,fun p hp=>?_,tracked ⟨oL,hoL,I.free⟩ hs,by simpa using I.len⟩ ⟨_,hs,.inl rfl⟩
  ·exact (hs.2 b (eR (xq (dy e) I.ok.above))).trans (I.base.keep b o e n hb hx)
  ·obtain⟨sl,e1⟩:=I.base.slot b o e n hb hx;exact⟨sl,(hs.2 b (eR (xq (dy e) I.ok.above))).trans e1⟩
  ·obtain⟨o',e1⟩:=I.base.there b o e hx;exact⟨o',(hs.2 b (eR (xq (dy e) I.ok.above))).trans e1⟩
  ·by_cases hj:j=i
   ·subst hj;rw[hi]at e1; cases e1;rw[yM hiσ]at e2;cases e2;exact⟨u,r,.inl ⟨hk,by simp⟩⟩
   ·rw[Af (Ne.symm hj)]at e2;obtain⟨u',r',q⟩:=hl j y v' e1 e2 e3;refine⟨u',r',?_⟩;rcases q with ⟨k,e⟩ | ⟨k,c,e,z⟩
    ·refine .inl ⟨k,?_⟩;have:y≠x:=fun e=>hj (uH hN e1 (e ▸ hi))
     simp[this,e]
    ·exact .inr ⟨k,c,e,z.sameBut hs (Fp y c e)⟩
  ·obtain⟨w',z⟩:=I.cell y c e;exact⟨w',z.sameBut hs (Fp y c e)⟩
  ·obtain⟨e,n,ne,nf,d⟩:=I.pin p hp;exact⟨(hs.2 p.1 ne).trans e,n,ne,nf,d⟩
 ·have hfn:X.fn x=true:=by
   rcases hf with z | z
   ·exact z
   ·rw[z]at hk; cases hk
  obtain⟨c,hc⟩:=I.ok.has x (.inl hk);obtain⟨w',z⟩:=I.cell x c hc;refine wpAny_storeName_cell I.ok.kind hk hc z (fun h' hc' hs=>?_);obtain⟨oc,hoc,hocd⟩:=id z;refine h { s with heap:=h' } ⟨I.ok,I.os,I.bare,⟨fun b o e n hb hx=>?_,fun b o e n hb hx=>?_,I.base.free,fun b o e hx=>?_,I.base.aS,I.base.frzs,I.base.tbls⟩,⟨m,hn.sameBut hs (Ne.symm (Fp x c hc)),fun j y v' e1 e2 e3=>?_⟩,fun y c' e=>?_,I.free,I.freeC,fun p hp=>?_,tracked ⟨oc,hoc,I.freeC x c hc⟩ hs,by simpa using I.len⟩ ⟨c,hs,.inr hc⟩
  ·exact (hs.2 b (eR (xq (dy e) (I.ok.cab x c hfn hc)))).trans (I.base.keep b o e n hb hx)
  ·obtain⟨sl,e1⟩:=I.base.slot b o e n hb hx;exact⟨sl,(hs.2 b (eR (xq (dy e) (I.ok.cab x c hfn hc)))).trans e1⟩
  ·obtain⟨o',e1⟩:=I.base.there b o e hx;exact⟨o',(hs.2 b (eR (xq (dy e) (I.ok.cab x c hfn hc)))).trans e1⟩
  ·by_cases hj:j=i
   ·subst hj;rw[hi]at e1; cases e1;rw[yM hiσ]at e2;cases e2;exact⟨u,r,.inr ⟨.inl hk,c,hc,hc'⟩⟩
   ·rw[Af (Ne.symm hj)]at e2;obtain⟨u',r',q⟩:=hl j y v' e1 e2 e3;refine⟨u',r',?_⟩;rcases q with q | ⟨k,c',e,z'⟩
    ·exact .inl q
    ·refine .inr ⟨k,c',e,z'.sameBut hs ?_⟩
     rintro rfl
     exact hj (uH hN e1 (I.ok.inj _ _ _ e hc ▸ hi))
  ·by_cases hcc:c'=c
   ·subst hcc; exact⟨_,hc'⟩
   ·obtain⟨w2,z2⟩:=I.cell y c' e;exact⟨w2,z2.sameBut hs hcc⟩
  ·obtain⟨e,n,ne,nf,d⟩:=I.pin p hp;refine⟨(hs.2 p.1 ?_).trans e,n,ne,nf,d⟩;intro q;rw[q,hoc]at e;have q':oc=p.2:=mW e;exact d w' (by rw[← q']; exact hocd)
theorem uC{v:V}{Q:Unit→Shared→Prop}(I:Inv X pins σ H s)(hN:X.N.Nodup)(hi:X.N[i]?=some x)(hx:Loc X.env.scope x)(r:RelV v u)
  (h:∀ s',Inv X pins (σ.set i (some v)) H s'→Q () s') (hf:autoParam (X.fn x=true∨X.env.scope.names.lookup x=some .local) q_3):wpAny M A (storeName X.env x u) Q E s:=
 qt I hN hi hx r (fun s' I' _=>h s' I') hf
theorem Inv.GI(I:Inv X pins σ H s)(ho:s'.os=s.os)(u:Un (xB X.stack) ch H H' s.heap s'.heap)(hok:jh X.prog X.w H' s'.heap)(hg:AllBare s'.gens)
  (hch:∀ b∈ch,(b∈X.ex∨X.s₀.heap.objs.size≤b)∧b≠X.env.locals∧(∀ x c,X.env.cells.lookup x=some c→c≠b)∧∀ p∈X.pn++pins,p.1≠b):Inv X pins σ H' s':=by
 obtain⟨h',g',d',t',o'⟩:=s';have e:o'=s.os:=ho;subst e;exact I.call (g':=g') (t':=t') (d':=d') u hok hg hch
end
abbrev XK:=Value→Option Addr→Hp→Prop
abbrev St:=List (Option V)
abbrev VK:=V→Hp→Prop
abbrev TE:=St→Hp→VK→Prop
abbrev TT:=St→Hp→(Bool→Hp→Prop)→Prop
abbrev TA:=St→Hp→(List V→Hp→Prop)→Prop
structure Ends where
 nx:St→Hp→Prop
 rt:VK
 bk:St→Hp→Prop:=fun _ _=>False
 ct:St→Hp→Prop:=fun _ _=>False
abbrev TS:=Ends→St→Hp→Prop
def EP(X:Cx)(pins:List (Addr × Obj))(σ:St)(Q:VK)(u:Value)(s':Shared):Prop:=∃ v H',Inv X pins σ H' s'∧RelV v u∧Q v H'
def TP(X:Cx)(pins:List (Addr × Obj))(σ:St)(Q:Bool→Hp→Prop)(b:Bool)(s':Shared):Prop:=∃ H',Inv X pins σ H' s'∧Q b H'
def AP(X:Cx)(pins:List (Addr × Obj))(σ:St)(Q:List V→Hp→Prop)(us:List Value)(s':Shared):Prop:=∃ vs H',Inv X pins σ H' s'∧Vals vs us∧Q vs H'
def SP(X:Cx)(pins:List (Addr × Obj))(D:Ends)(f:Flow)(s':Shared):Prop:=
 match f with
 | .next=>∃ σ' H',Inv X pins σ' H' s'∧D.nx σ' H'
 | .brk=>∃ σ' H',Inv X pins σ' H' s'∧D.bk σ' H'
 | .cont=>∃ σ' H',Inv X pins σ' H' s'∧D.ct σ' H'
 | .ret u=>∃ v σ' H',Inv X pins σ' H' s'∧RelV v u∧D.rt v H'
def PE(X:Cx)(e:Expr)(t:TE):Prop:=
 ∀ (pins:List (Addr × Obj)) (s:Shared) (σ:St) (H:Hp) (Q:VK),Inv X pins σ H s→t σ H Q→wpAny (model X.prog X.w) X.A (eval e X.env) (EP X pins σ Q) X.xe s
def PT(X:Cx)(e:Expr)(t:TT):Prop:=
 ∀ (pins:List (Addr × Obj)) (s:Shared) (σ:St) (H:Hp) (Q:Bool→Hp→Prop),Inv X pins σ H s→t σ H Q→wpAny (model X.prog X.w) X.A (isTrue e X.env (eval e X.env)) (TP X pins σ Q) X.xe s
def PW(X:Cx)(e:Expr)(t:TT):Prop:=
 ∀ (whole:Sem Value) (pins:List (Addr × Obj)) (s:Shared) (σ:St) (H:Hp) (Q:Bool→Hp→Prop),Inv X pins σ H s→t σ H Q→wpAny (model X.prog X.w) X.A (isTrue e X.env whole) (TP X pins σ Q) X.xe s
theorem PW.pt{t:TT}(h:PW X e t):PT X e t:=h _
def PA(X:Cx)(es:List Expr)(t:TA):Prop:=
 ∀ (pos:Pos) (pins:List (Addr × Obj)) (s:Shared) (σ:St) (H:Hp) (Q:List V→Hp→Prop),Inv X pins σ H s→t σ H Q→wpAny (model X.prog X.w) X.A (spliced (backTo pos (starEach es X.env))) (AP X pins σ Q) X.xe s
def PS(X:Cx)(st:Stmt)(t:TS):Prop:=
 ∀ (pins:List (Addr × Obj)) (s:Shared) (σ:St) (H:Hp) (D:Ends),Inv X pins σ H s→t D σ H→wpAny (model X.prog X.w) X.A (exec st X.env) (SP X pins D) X.xe s
def zV(X:Cx)(st:List Stmt)(t:TS):Prop:=
 ∀ (pins:List (Addr × Obj)) (s:Shared) (σ:St) (H:Hp) (D:Ends),Inv X pins σ H s→t D σ H→wpAny (model X.prog X.w) X.A (execs st X.env) (SP X pins D) X.xe s
theorem bW{α:Type}{t:Sem α}{Q Q':α→Shared→Prop}(h:wpAny M A t Q E s)(hQ:∀ a s,Q a s→Q' a s):wpAny M A t Q' E s:=vv h hQ fun _ _ x=>x
section
def GW(i:Nat):TE:=fun σ H Q=>aw Q (fun v Q=>σ[i]?=some (some v)∧Q v H)
def tC(v:V):TE:=fun _ H Q=>Q v H
theorem EG(hN:X.N[i]?=some x)(hv:Ij X.env.scope x)(hd:autoParam ((x == ("__debug__":Str))=false) q_2)(hcd:autoParam ((x == ("__classdict__":Str))=false) q_2):PE X (.Name x pos) (GW i):=by
 intro pins s σ H Q I h;obtain⟨v,e,h⟩:=h;obtain⟨m,hn,hl⟩:=I.loc;obtain⟨u,r,l⟩:=hl i x v hN e hv;have fin:EP X pins σ Q u s:=⟨v,H,I,r,h⟩
 rcases l with ⟨hk,hm⟩ | ⟨hk,c,hc,hcell⟩
 ·exact wpAny_Name (wpAny_loadName_local I.ok.kind hk hn hm fin) hd
 ·rcases hk with hk | hk
  ·exact wpAny_Name (wpAny_loadName_cell I.ok.kind hk hc hcell fin) hd
  ·exact wpAny_Name (wpAny_loadName_free I.ok.kind hk hc hcell fin hcd) hd
theorem ai{i j pos}:PE X (.Constant (.int i) j pos) (tC (.int i)):=fun _ _ _ H _ I h=>wpAny_Constant_int ⟨.int i,H,I.tok _,⟨_,rfl⟩,h⟩
theorem dR{b j pos}:PE X (.Constant (.bool b) j pos) (tC (.bl b)):=fun _ _ _ H _ I h=>Constant_bool ⟨.bl b,H,I,rfl,h⟩
theorem cJ{j pos}:PE X (.Constant .none j pos) (tC .non):=fun _ _ _ H _ I h=>Constant_none ⟨.non,H,I,rfl,h⟩
theorem aJ{x j pos}:PE X (.Constant (.str x) j pos) (tC (.str x)):=fun _ _ _ H _ I h=>Calls.Constant_str ⟨.str x,H,I.tok _,⟨_,rfl⟩,h⟩
def Gl(X:Cx)(x:Str):Prop:=X.env.kindOf x=some .globalImplicit
theorem sN(I:Inv X pins σ H s)(hg:Gl X x)(hm:X.mg x=some u)(h:Q u s)
  (hd:autoParam ((x == ("__debug__":Str))=false) q_2):wpAny (model X.prog X.w) X.A (eval (.Name x pos) X.env) Q E s:=
 Calls.Name_function_global I.ok.kind hg (Calls.loadGlobal_global (by rw[I.ok.glob]; exact I.mod.glob.keeps I.bk) hm h) hd
theorem gr(I:Inv X pins σ H s)(hg:Gl X x)(hm:X.mg x=none)(hv:bootBuiltins x=some u)(h:Q u s)
  (hn:autoParam (x≠"__name__") q_2) (hd:autoParam ((x == ("__debug__":Str))=false) q_2):wpAny (model X.prog X.w) X.A (eval (.Name x pos) X.env) Q E s:=by
 obtain⟨mb,h1,h2⟩:=I.mod.blt;exact Calls.Name_function_global I.ok.kind hg (Calls.loadGlobal_builtin (by rw[I.ok.glob]; exact I.mod.glob.keeps I.bk) hm (by rw[I.ok.blt]; exact h1.keeps I.bk) ((h2 x hn).trans hv) h) hd
theorem iQ{v:V}(hg:Gl X x)(hm:X.mg x=some u)(r:RelV v u)(hd:autoParam ((x == ("__debug__":Str))=false) q_2):PE X (.Name x pos) (tC v):=
 fun _ _ _ H _ I h=>sN I hg hm ⟨v,H,I,r,h⟩ hd
variable {a b:Expr}{tb:TE}
def PC(X:Cx)(op:CmpOp)(a b:Expr)(t:TE):Prop:=
 ∀ (pins:List (Addr × Obj)) (s:Shared) (σ:St) (H:Hp) (Q:VK),Inv X pins σ H s→t σ H Q→
  wpAny (model X.prog X.w) X.A (eval a X.env) (fun v s₁=>wpAny (model X.prog X.w) X.A (eval b X.env) (fun u s₂=>wpAny (model X.prog X.w) X.A (compareOp op v u) (EP X pins σ Q) X.xe s₂) X.xe s₁) X.xe s
theorem Cd(b:Expr)(h:op≠.In)(h2:op≠.NotIn):behindInMarks op b=false:=by
 have e1:(op == CmpOp.In)=false:=by cases op <;> first | rfl | exact absurd rfl h
 have e2:(op == CmpOp.NotIn)=false:=by cases op <;> first | rfl | exact absurd rfl h2
 cases b <;> simp[behindInMarks,e1,e2]
def tB(t:TE):TT:=fun σ H Q=>t σ H fun x H1=>aw Q (fun c Q=>x=.bl c∧Q c H1)
theorem sF{t:TE}(h:PC X op a b t)(h1:behindInMarks op b=false:=by first | exact Cd _ (by decide) (by decide) | rfl):PT X (.Compare a [op] [b] pos) (tB t):=by
 intro pins s σ H Q I hw;refine wpAny_isTrue_Compare1 (bW (h pins s σ H _ I hw) fun v s1 h1=>bW h1 fun u s2 h2=>bW h2 fun c s3 hpat=>?_) h1;obtain⟨x,H1,I1,r1,q1⟩:=hpat;obtain⟨d,rfl,q⟩:=q1;cases r1;exact Es ⟨H1,I1,q⟩
theorem dH{t:TE}(h:PE X e t)(he:autoParam (∀ whole,isTrue e X.env whole=(do let v ← whole; standAt e.pos; holding [v] (truthy v))) q_4):PT X e (tB t):=by
 intro pins s σ H Q I hw;refine isTrue_plain (bW (h pins s σ H _ I hw) fun v s1 hpat=>?_) (he _);obtain⟨x,H1,I1,r1,q1⟩:=hpat;obtain⟨d,rfl,q⟩:=q1;cases r1;exact Es ⟨H1,I1,q⟩
variable {tA tB':TT}{rest:List Expr}
def EK(t u:TT):TT:=fun σ H Q=>t σ H fun c H1=>if c=true then u σ H1 Q else Q false H1
def J1(t u:TT):TT:=fun σ H Q=>t σ H fun c H1=>if c=true then Q true H1 else u σ H1 Q
def IA(t:TT):TT:=fun σ H Q=>t σ H fun c H1=>Q (!c) H1
theorem mP(ha:PT X a tA):PW X (.BoolOp .And [a] pos) tA:=by
 intro wh pins s σ H Q I h;refine isTrue_and (bW (ha pins s σ H Q I h) fun c s1 e=>?_);cases c with
 | true=>exact isTrue_and_nil e
 | false=>exact e
theorem sf(ha:PT X a tA):PW X (.BoolOp .Or [a] pos) tA:=by
 intro wh pins s σ H Q I h;refine isTrue_or (bW (ha pins s σ H Q I h) fun c s1 e=>?_);cases c with
 | false=>exact isTrue_or_nil e
 | true=>exact e
theorem kU(ha:PT X a tA)(hb:PW X (.BoolOp .And (b::rest) pos) tB'):PW X (.BoolOp .And (a::b::rest) pos) (EK tA tB'):=by
 intro wh pins s σ H Q I h;refine isTrue_and (bW (ha pins s σ H _ I h) fun c s1 hpat=>?_);obtain⟨H1,I1,q1⟩:=hpat;cases c with
 | true=>exact hb wh pins s1 σ H1 Q I1 q1
 | false=>exact⟨H1,I1,q1⟩
theorem yt(ha:PT X a tA)(hb:PW X (.BoolOp .Or (b::rest) pos) tB'):PW X (.BoolOp .Or (a::b::rest) pos) (J1 tA tB'):=by
 intro wh pins s σ H Q I h;refine isTrue_or (bW (ha pins s σ H _ I h) fun c s1 hpat=>?_);obtain⟨H1,I1,q1⟩:=hpat;cases c with
 | true=>exact⟨H1,I1,q1⟩
 | false=>exact hb wh pins s1 σ H1 Q I1 q1
theorem nC(ha:PT X a tA):PT X (.UnaryOp .Not a pos) (IA tA):=by
 intro pins s σ H Q I h;exact isTrue_not (ha pins s σ H (fun c H1=>Q (!c) H1) I h)
def HK(ta tb:TE):TE:=fun σ H Q=>ta σ H fun x H1=>aw Q (fun c Q=>x=.bl c∧if c=true then tb σ H1 Q else Q (.bl false) H1)
def Jb(ta tb:TE):TE:=fun σ H Q=>ta σ H fun x H1=>aw Q (fun c Q=>x=.bl c∧if c=true then Q (.bl true) H1 else tb σ H1 Q)
def GX(ta:TE):TE:=fun σ H Q=>ta σ H fun x H1=>aw Q (fun c Q=>x=.bl c∧Q (.bl (!c)) H1)
theorem Cc{op}{t:TE}(h:PE X a t):PE X (.BoolOp op [a] pos) t:=fun pins s σ H Q I hw=>BoolOp_one (h pins s σ H Q I hw)
theorem Fu(ha:PE X a ta)(hb:PE X (.BoolOp .And (b::rest) pos) tb):PE X (.BoolOp .And (a::b::rest) pos) (HK ta tb):=by
 intro pins s σ H Q I h;refine BoolOp_and (bW (ha pins s σ H _ I h) fun v s1 hpat=>?_);obtain⟨x,H1,I1,r1,q1⟩:=hpat;obtain⟨c,rfl,q1⟩:=q1;cases r1;refine Es ?_;cases c with
 | true=>exact hb pins s1 σ H1 Q I1 q1
 | false=>exact⟨.bl false,H1,I1,rfl,q1⟩
theorem HH(ha:PE X a ta)(hb:PE X (.BoolOp .Or (b::rest) pos) tb):PE X (.BoolOp .Or (a::b::rest) pos) (Jb ta tb):=by
 intro pins s σ H Q I h;refine BoolOp_or (bW (ha pins s σ H _ I h) fun v s1 hpat=>?_);obtain⟨x,H1,I1,r1,q1⟩:=hpat;obtain⟨c,rfl,q1⟩:=q1;cases r1;refine Es ?_;cases c with
 | false=>exact hb pins s1 σ H1 Q I1 q1
 | true=>exact⟨.bl true,H1,I1,rfl,q1⟩
theorem FK(ha:PE X a ta):PE X (.UnaryOp .Not a pos) (GX ta):=by
 intro pins s σ H Q I h;refine UnaryOp_ (bW (ha pins s σ H _ I h) fun v s1 hpat=>?_);obtain⟨x,H1,I1,r1,q1⟩:=hpat;obtain⟨c,rfl,q1⟩:=q1;cases r1;exact not_of (Es ⟨.bl (!c),H1,I1,rfl,q1⟩)
def JQ(t:TT)(ta tb:TE):TE:=fun σ H Q=>t σ H fun c H1=>if c=true then ta σ H1 Q else tb σ H1 Q
theorem cC(hc:PT X c tA)(ha:PE X a ta)(hb:PE X b tb):PE X (.IfExp c a b pos) (JQ tA ta tb):=by
 intro pins s σ H Q I h;refine wpAny_IfExp (bW (hc pins s σ H _ I h) fun d s1 hpat=>?_);obtain⟨H1,I1,q1⟩:=hpat;cases d with
 | true=>exact ha pins s1 σ H1 Q I1 q1
 | false=>exact hb pins s1 σ H1 Q I1 q1
end
def a7(K:aW)(H:Hp)(a:Addr)(xs:List V):Prop:=
 Rd H a (.lst xs)∨
  ∃ (o:Obj) (its:Array Value) (n:Nat),K.lookup a=some o∧o.cls=.type "list"∧o.dict=none∧o.data=.seq its n∧its.size≤sizeLine∧Vals xs its.toList
def bY(K:aW)(H:Hp)(a:Addr)(xs:List V):Prop:=
 Rd H a (.tup xs)∨
  ∃ (o:Obj) (its:Array Value) (n:Nat),K.lookup a=some o∧o.cls=.type "tuple"∧o.data=.seq its n∧its.size≤sizeLine∧Vals xs its.toList
noncomputable def CY:Value→Option V
 | .none=>some .non
 | .bool b=>some (.bl b)
 | .int i _=>some (.int i)
 | .str x _=>some (.str x)
 | .bytes b _=>some (.byt b)
 | .float b _=>some (.flt b)
 | .ref a=>some (.ref a)
 | .type n=>some (.ty n)
 | _=>none
theorem RelV.abs{x:V}(r:RelV x u):CY u=some x:=by
 cases x with
 | non=>cases r; rfl
 | bl _=>cases r; rfl
 | int _=>obtain⟨t,rfl⟩:=r; rfl
 | str _=>obtain⟨t,rfl⟩:=r; rfl
 | byt _=>obtain⟨t,rfl⟩:=r; rfl
 | flt _=>obtain⟨t,rfl⟩:=r; rfl
 | ref _=>cases r; rfl
 | ty _=>cases r; rfl
theorem RelV.inj{x y:V}(r:RelV x u)(q:RelV y u):x=y:=mW (r.abs.symm.trans q.abs)
theorem Vals.inj:∀ {xs ys:List V} {us:List Value},Vals xs us→Vals ys us→xs=ys
 | _,_,_,.nil,.nil=>rfl
 | _,_,_,.cons r t,.cons r' t'=>by rw[r.inj r',Vals.inj t t']
section
variable {ys:List V}
theorem a7.of{K:aW}(h:H a=some (.lst xs)):a7 K H a xs:=.inl (.inl h)
theorem bY.of{K:aW}(h:H a=some (.tup xs)):bY K H a xs:=.inl (.inl h)
theorem Inv.list(I:Inv X pins σ H s)(h:a7 X.K H a xs):∃ its:List Value,Vals xs its∧PlainL s.heap a its.toArray∧xs.length≤sizeLine:=by
 rcases h with h | ⟨o,its,n,hk,hc,hd,hs,hz,r⟩
 ·obtain⟨z,its,n,r,e⟩:=h.ok I.hok;exact⟨its,r,⟨_,n,e,rfl,rfl,rfl⟩,z⟩
 ·refine⟨its.toList,r,⟨o,n,I.wV a o hk,hc,hd,by simpa using hs⟩,?_⟩;have e:=r.length;simp only[jP]at e
  lia
theorem Inv.tuple(I:Inv X pins σ H s)(h:bY X.K H a xs):∃ its:List Value,Vals xs its∧IsTup s.heap a its.toArray∧xs.length≤sizeLine:=by
 rcases h with h | ⟨o,its,n,hk,hc,hs,hz,r⟩
 ·obtain⟨z,its,r,p⟩:=h.ok I.hok;exact⟨its,r,p,z⟩
 ·refine⟨its.toList,r,⟨o,I.wV a o hk,hc,n,by simpa using hs⟩,?_⟩;have e:=r.length;simp only[jP]at e
  lia
theorem Inv.tZ(I:Inv X pins σ H s)(h:a7 X.K H a xs)(h':a7 X.K H a ys):xs=ys:=by
 obtain⟨its,r,⟨o,n,e,_,_,d⟩,_⟩:=I.list h;obtain⟨its',r',⟨o',n',e',_,_,d'⟩,_⟩:=I.list h';rw[e]at e'; cases e';rw[d]at d';injection d' with d1 _;have:its=its':=by simpa using congrArg Array.toList d1
 subst this;exact r.inj r'
theorem Inv.jb(I:Inv X pins σ H s)(h:bY X.K H a xs)(h':bY X.K H a ys):xs=ys:=by
 obtain⟨its,r,⟨o,e,_,n,d⟩,_⟩:=I.tuple h;obtain⟨its',r',⟨o',e',_,n',d'⟩,_⟩:=I.tuple h';rw[e]at e'; cases e';rw[d]at d';injection d' with d1 _;have:its=its':=by simpa using congrArg Array.toList d1
 subst this;exact r.inj r'
end
noncomputable abbrev Cx.pF(X:Cx)(E:Value→Shared→Prop):Cx:={ X with xe:=E }
noncomputable abbrev Cx.Ia(X:Cx):Cx:=X.pF fun _ _=>False
theorem Cx.Ok.pF(ok:X.Ok)(E:Value→Shared→Prop):(X.pF E).Ok:=
 ⟨ok.mod,ok.kind,ok.glob,ok.blt,ok.above,ok.inj,ok.has,ok.cab,ok.hd,ok.frames,ok.stk,ok.exf,ok.bs,ok.bsz,ok.noex,ok.exfs,ok.kR,ok.frf⟩
theorem Cx.Ok.iO(ok:(X.pF E).Ok):X.Ok:=
 ⟨ok.mod,ok.kind,ok.glob,ok.blt,ok.above,ok.inj,ok.has,ok.cab,ok.hd,ok.frames,ok.stk,ok.exf,ok.bs,ok.bsz,ok.noex,ok.exfs,ok.kR,ok.frf⟩
theorem Inv.pF(I:Inv X pins σ H s)(E:Value→Shared→Prop):Inv (X.pF E) pins σ H s:=⟨I.ok.pF E,I.os,I.bare,I.base,I.loc,I.cell,I.free,I.freeC,I.pin,I.hok,I.len⟩
theorem Inv.iO(I:Inv (X.pF E) pins σ H s):Inv X pins σ H s:=⟨I.ok.iO,I.os,I.bare,I.base,I.loc,I.cell,I.free,I.freeC,I.pin,I.hok,I.len⟩
theorem SP.iO{D:Ends}{f:Flow}(h:SP (X.pF E) pins D f s'):SP X pins D f s':=by
 cases f with
 | next=>obtain⟨σ',H',I,q⟩:=h; exact⟨σ',H',I.iO,q⟩
 | brk=>obtain⟨σ',H',I,q⟩:=h; exact⟨σ',H',I.iO,q⟩
 | cont=>obtain⟨σ',H',I,q⟩:=h; exact⟨σ',H',I.iO,q⟩
 | ret u=>obtain⟨v,σ',H',I,r,q⟩:=h; exact⟨v,σ',H',I.iO,r,q⟩
theorem zV.Ia{st:List Stmt}{t:TS}(h:zV X.Ia st t):zV X st t:=fun pins s σ H D I hw=>
 vv (h pins s σ H D (I.pF _) hw) (fun _ _ q=>q.iO) fun _ _ z=>False.elim z
section
variable {st:Stmt}{rest:List Stmt}{t u:TS}
def qd:TS:=fun D σ H=>D.nx σ H
def rR(t u:TS):TS:=fun D σ H=>t { D with nx:=u D } σ H
theorem aN:zV X [] qd:=fun _ _ σ H _ I h=>wpAny_execs_nil ⟨σ,H,I,h⟩
theorem ag(h1:PS X st t)(h2:zV X rest u):zV X (st::rest) (rR t u):=by
 intro pins s σ H D I h;refine wpAny_execs_cons (bW (h1 pins s σ H { D with nx:=u D } I h) fun f s1 q=>?_);cases f with
 | next=>
  obtain⟨σ',H',I',q⟩:=q;exact h2 pins s1 σ' H' D I' q
 | ret v=>exact q
 | brk=>exact q
 | cont=>exact q
theorem ak(h1:PS X st t):zV X [st] t:=by
 intro pins s σ H D I h;refine wpAny_execs_cons (bW (h1 pins s σ H D I h) fun f s1 q=>?_);cases f with
 | next=>exact wpAny_execs_nil q
 | ret v=>exact q
 | brk=>exact q
 | cont=>exact q
theorem Inv.quiet(I:Inv X pins σ H s):interactive X.env=false:=by simp[interactive,I.ok.kind]
def HL(te:TE):TS:=fun D σ H=>te σ H fun _ H1=>D.nx σ H1
theorem bZ(he:PE X e te)(hs:autoParam (swapsWith e none pos.line X.env=pure false) q_1):PS X (.Expr e pos) (HL te):=by
 intro pins s σ H D I h;exact wpAny_Expr_any (bW (he pins s σ H _ I h) fun v s1 hp2=>by obtain⟨x,H1,I1,r1,q1⟩:=hp2; exact⟨σ,H1,I1,q1⟩) I.quiet hs
def Iu(te:TE):TS:=fun D σ H=>te σ H D.rt
theorem az(he:PE X e te):PS X (.Return (some e) pos) (Iu te):=by
 intro pins s σ H D I h;exact wpAny_Return_some (bW (he pins s σ H _ I h) fun v s1 hp2=>by obtain⟨x,H1,I1,r1,q1⟩:=hp2; exact⟨x,σ,H1,I1,r1,q1⟩)
def Hf:TS:=fun D _ H=>D.rt .non H
theorem xN:PS X (.Return none pos) Hf:=fun _ _ σ H _ I h=>wpAny_Return_none ⟨.non,σ,H,I,rfl,h⟩
def vR(c:TT)(t u:TS):TS:=fun D σ H=>c σ H fun b H1=>if b=true then t D σ H1 else u D σ H1
theorem ba{a b:List Stmt}(hc:PT X c tc)(ha:zV X a t)(hb:zV X b u):PS X (.If c a b pos) (vR tc t u):=by
 intro pins s σ H D I h;refine wpAny_If (bW (hc pins s σ H _ I h) fun d s1 hpat=>?_);obtain⟨H1,I1,q1⟩:=hpat;cases d with
 | true=>exact ha pins s1 σ H1 D I1 q1
 | false=>exact hb pins s1 σ H1 D I1 q1
end
abbrev TG:=V→St→Hp→(St→Hp→Prop)→Prop
abbrev Cs:=List V→St→Hp→(St→Hp→Prop)→Prop
def PG(X:Cx)(target:Expr)(t:TG):Prop:=
 ∀ (pins:List (Addr × Obj)) (s:Shared) (σ:St) (H:Hp) (v:V) (u:Value) (Q:St→Hp→Prop),Inv X pins σ H s→RelV v u→t v σ H Q→
  wpAny (model X.prog X.w) X.A (assign target X.env u) (fun _ s'=>∃ σ' H',Inv X pins σ' H' s'∧Q σ' H') X.xe s
def F6(X:Cx)(ts:List Expr)(t:Cs):Prop:=
 ∀ (pins:List (Addr × Obj)) (s:Shared) (σ:St) (H:Hp) (vs:List V) (us:List Value) (Q:St→Hp→Prop),Inv X pins σ H s→Vals vs us→t vs σ H Q→
  wpAny (model X.prog X.w) X.A (assignInOrder ((assignEach ts X.env).map (·.2)) us) (fun _ s'=>∃ σ' H',Inv X pins σ' H' s'∧Q σ' H') X.xe s
abbrev E6:=V→V→V→Hp→(Hp→Prop)→Prop
def GV(X:Cx)(t:E6):Prop:=
 ∀ (pins:List (Addr × Obj)) (s:Shared) (σ:St) (H:Hp) (o i v:V) (ov iv u:Value) (Q:Hp→Prop),Inv X pins σ H s→RelV o ov→RelV i iv→RelV v u→t o i v H Q→
  wpAny (model X.prog X.w) X.A (setItem ov iv u) (fun _ s'=>∃ H',Inv X pins σ H' s'∧Q H') X.xe s
def kO(i:Nat):TG:=fun v σ H Q=>Q (σ.set i (some v)) H
theorem aU(hN:X.N.Nodup)(hi:X.N[i]?=some x)(hx:Loc X.env.scope x)(hf:autoParam (X.fn x=true∨X.env.scope.names.lookup x=some .local) q_3):PG X (.Name x pos) (kO i):=by
 intro pins s σ H v u Q I r h;exact wpAny_assign_Name (uC I hN hi hx r (fun s' I'=>⟨_,H,I',h⟩) hf)
def Iz:Cs:=fun vs σ H Q=>vs=[]∧Q σ H
def Gf(t:TG)(u:Cs):Cs:=fun vs σ H Q=>aw Q (fun v Q=>aw Q (fun r Q=>vs=v::r∧t v σ H fun σ' H'=>u r σ' H' Q))
theorem eK:F6 X [] Iz:=by
 intro pins s σ H vs us Q I r h;obtain⟨e,h⟩:=h;subst e;cases r;exact assignInOrder_nil ⟨σ,H,I,h⟩
theorem bG{t:TG}{u:Cs}(h1:PG X e t)(h2:F6 X es u)
  (hs:autoParam ((assignEach (e::es) X.env).map (·.2)=assign e X.env::(assignEach es X.env).map (·.2)) q_1):F6 X (e::es) (Gf t u):=by
 intro pins s σ H vs us Q I r h;obtain⟨v,vr,e1,h⟩:=h;subst e1;cases r with
 | cons r rr=>
  rw[hs];refine assignInOrder_cons (bW (h1 pins s σ H _ _ _ I r h) fun _ s1 hpat=>?_);obtain⟨σ1,H1,I1,q1⟩:=hpat;exact h2 pins s1 σ1 H1 _ _ Q I1 rr q1
def HJ(K:aW)(n:Nat)(t:Cs):TG:=fun v σ H Q=>aw Q (fun a Q=>aw Q (fun xs Q=>v=.ref a∧bY K H a xs∧xs.length=n∧t xs σ H Q))
theorem hJ{k:Nat}{t:Cs}(hc:X.calm=true)(h:F6 X es t)
  (hn:autoParam ((assignEach es X.env).length=n) q_1) (hst:autoParam ((assignEach es X.env).findIdx? (·.1)=none) q_1):PG X (.Tuple es k pos) (HJ X.K n t):=by
 intro pins s σ H v u Q I r hw;obtain⟨a,xs,e1,hq,hl,hw⟩:=hw;subst e1;cases r;obtain⟨its,rv,ht,hz⟩:=I.tuple hq;refine assign_Tuple_tuple (I.ok.hd hc) ht (by simp[hn,← hl,rv.length]) hst fun h' hx=>?_
 have I1:Inv X pins σ H { s with heap:=h' }:=I.kept (t':=s.toks) fun b o e=>hx b o (eR (dy e)) e
 exact h pins _ σ H xs _ Q I1 (by simpa using rv) hw
def Jj(to ti:TE)(t:E6):TG:=fun v σ H Q=>to σ H fun o H1=>ti σ H1 fun i H2=>t o i v H2 fun H3=>Q σ H3
theorem sD{o i:Expr}{to ti:TE}{t:E6}(ho:PE X o to)(hi:PE X i ti)(hs:GV X t)
  (ha:∀ v,assign (.Subscript o i pos) X.env v=(do
   let ov ← holding [v] (eval o X.env)
   let iv ← holding [v,ov] (eval i X.env)
   standAt pos
   holding [v,ov,iv] (setItem ov iv v)
   release [v,ov,iv] []):=by intro _; rfl):PG X (.Subscript o i pos) (Jj to ti t):=by
 intro pins s σ H v u Q I r h;rw[ha];refine aQ (kP (bW (ho pins s σ H _ I h) fun ov s1 hpat=>?_));obtain⟨x,H1,I1,r1,q1⟩:=hpat;refine aQ (kP (bW (hi pins s1 σ H1 _ I1 q1) fun iv s2 hpat=>?_));obtain⟨y,H2,I2,r2,q2⟩:=hpat;refine aQ (wpAny_standAt (aQ (kP (bW (hs pins s2 σ H2 x y v ov iv u _ I2 r1 r2 r q2) fun _ s3 hpat=>?_))));obtain⟨H3,I3,q3⟩:=hpat;exact wpAny_release ⟨σ,H3,I3,q3⟩
def FT(te:TE)(g:TG):TS:=fun D σ H=>te σ H fun x H1=>g x σ H1 D.nx
theorem jM(he:PE X e te)(hg:PG X tg g)(hs:autoParam (swapsWithSole [tg] e pos.line X.env=pure false) q_1)(hw:autoParam (swappedStores [tg] e X.env=pure none) q_1)
  (h1:autoParam ((assignEach [tg] X.env).map (·.2)=[assign tg X.env]) q_1):PS X (.Assign [tg] e pos) (FT te g):=by
 intro pins s σ H D I h;refine wpAny_Assign_stores (bW (he pins s σ H _ I h) fun v s1 hpat=>?_) hs hw;obtain⟨x,H1,I1,r1,q1⟩:=hpat;rw[h1];exact bW (hg pins s1 σ H1 x v _ I1 r1 q1) fun _ s2 q=>q
theorem iq{i:Nat}{x:Str}{e:Expr}{te:TE}{pos':Pos}(hN:X.N.Nodup)(hi:X.N[i]?=some x)(hx:Loc X.env.scope x)(he:PE X e te)(hs:autoParam (swapsWith e (some (.Name x pos')) pos.line X.env=pure false) q_1)(hf:autoParam (X.fn x=true∨X.env.scope.names.lookup x=some .local) q_3) :
  PS X (.Assign [.Name x pos'] e pos) (FT te (kO i)):=by
 intro pins s σ H D I h;refine wpAny_Assign_Name (bW (he pins s σ H _ I h) fun v s1 hpat=>?_) hs;obtain⟨y,H1,I1,r1,q1⟩:=hpat;exact uC I1 hN hi hx r1 (fun s2 I2=>⟨_,H1,I2,q1⟩) hf
theorem aV(hN:X.N.Nodup)(he:PE X e te)(hi:autoParam (X.N[i]?=some x) q_1)(hx:Loc X.env.scope x:=by first | exact .inl rfl | exact .inr rfl)(hs:autoParam (swapsWith e (some (.Name x pos')) pos.line X.env=pure false) q_1)(hf:autoParam (X.fn x=true∨X.env.scope.names.lookup x=some .local) q_3) :
  PS X (.Assign [.Name x pos'] e pos) (FT te (kO i)):=iq hN hi hx he hs hf
def EN(c:TT)(tb:TS):TS:=fun D σ H=>∃ W:Nat→St→Hp→Prop,(∃ m,W m σ H)∧∀ m σ H,W m σ H→
 c σ H fun b H1=>if b=true then ∃ N:St→Hp→Prop,(∀ σ' H',N σ' H'→∃ m',m' < m∧W m' σ' H')∧tb { D with nx:=N,ct:=N,bk:=D.nx } σ H1 else D.nx σ H1
theorem gi(hp:PassesOwn (model X.prog X.w) X.A X.env X.xe)(hc:PT X c tc)(hb:zV X body tb):PS X (.While c body [] pos) (EN tc tb):=by
 intro pins s σ H D I h;obtain⟨W,⟨m0,w0⟩,turn⟩:=h;refine wpAny_While (codeAny_whileLoop (fun n s'=>∃ σ' H',Inv X pins σ' H' s'∧W n σ' H') ?_ m0 ⟨σ,H,I,w0⟩)
 rintro n s1 ⟨σ1,H1,I1,w1⟩
 refine wpAny_passesOwn hp (bW (hc pins s1 σ1 H1 _ I1 (turn n σ1 H1 w1)) fun b s2 hpat=>?_);obtain⟨H2,I2,q2⟩:=hpat;cases b with
 | true=>
  obtain⟨N,hN,q2⟩:=q2;rw[if_pos rfl];refine wpAny_passesOwn hp (bW (hb pins s2 σ1 H2 _ I2 q2) fun f s3 q3=>?_);cases f with
  | next=>
   obtain⟨σ3,H3,I3,n3⟩:=q3;obtain⟨m',hm,w3⟩:=hN σ3 H3 n3;exact⟨m',hm,σ3,H3,I3,w3⟩
  | cont=>
   obtain⟨σ3,H3,I3,n3⟩:=q3;obtain⟨m',hm,w3⟩:=hN σ3 H3 n3;exact⟨m',hm,σ3,H3,I3,w3⟩
  | brk=>exact q3
  | ret v=>exact q3
 | false=>
  rw[if_neg gW];exact wpAny_execs_nil ⟨σ1,H2,I2,q2⟩
structure It where
 go:Nat→Hp→Prop
 yld:Nat→Hp→V→Hp→Prop
 stop:Nat→Hp→Prop
def oR(X:Cx)(pins:List (Addr × Obj))(H:Hp)(b:Addr):Prop:=
 H b=none∧b≠X.env.locals∧b∉X.fs∧(b∈X.ex∨X.s₀.heap.objs.size≤b)∧(∀ x c,X.env.cells.lookup x=some c→c≠b)∧∀ p∈X.pn++pins,p.1≠b
theorem Inv.xm{b:Addr}(I:Inv X pins σ H s)(hb:s.heap.objs.size≤b)(hn:H' b=none):oR X pins H' b:=by
 refine⟨hn,Nat.ne_of_gt (xq I.lt hb),I.IE hb,.inr (vJ I.sz hb),fun x c e z=>?_,fun p hp z=>?_⟩
 ·obtain⟨v,q⟩:=I.cell x c e;exact absurd (xq q.lt (by rw[z]; exact hb)) (Cr _)
 ·exact absurd (xq (dy (I.pin p hp).1) (by rw[z]; exact hb)) (Cr _)
structure Turn (P:Program) (w:World) (K:aW) (tg:Expr) (J:It) (fp:List Addr) (it:Addr) (tn:Nat→Heap→Prop):Prop where
 mem:it∈fp
 obj:∀ i h,tn i h→∀ b∈fp,∃ o,h.get? b=some o∧∀ v,o.data≠.cell v
 keep:∀ i h h',tn i h→(∀ b∈fp,∀ o,h.get? b=some o→h'.get? b=some o)→tn i h'
 item:∀ (X:Cx),X.prog=P→X.w=w→X.K=K→X.calm=true→∀ (i:Nat) (pins:List (Addr × Obj)) (s:Shared) (σ:St) (H:Hp) (E:Value→Shared→Prop),Inv X pins σ H s→(∀ b∈fp,oR X pins H b)→tn i s.heap→J.go i H→
  wpAny (model P w) X.A (pyNext (.ref it)) (fun r s1=>∃ u,r=some u∧
   wpAny (model P w) X.A (letOwnedTupleGo tg (.ref it) u) (fun _ s2=>∃ x H',Inv X pins σ H' s2∧RelV x u∧J.yld i H x H'∧tn (i + 1) s2.heap∧∀ b∈fp,H' b=none) E s1) E s
 done:∀ (X:Cx),X.prog=P→X.w=w→X.K=K→X.calm=true→∀ (i:Nat) (pins:List (Addr × Obj)) (s:Shared) (σ:St) (H:Hp) (E:Value→Shared→Prop),Inv X pins σ H s→(∀ b∈fp,oR X pins H b)→tn i s.heap→J.stop i H→
  wpAny (model P w) X.A (pyNext (.ref it)) (fun r s1=>r=none∧Inv X pins σ H s1) E s
 self:∀ (A:Around) (i:Nat) (s:Shared) (Q:Value→Shared→Prop) (E:Value→Shared→Prop),tn i s.heap→Q (.ref it) s→wpAny (model P w) A (pyIter (.ref it)) Q E s
abbrev TI:=St→Hp→(It→Hp→Prop)→Prop
def Jp(X:Cx)(pins:List (Addr × Obj))(σ:St)(tg:Expr)(R:It→Hp→Prop)(itv:Value)(s2:Shared):Prop:=
 ∃ (it:Addr) (fp:List Addr) (tn:Nat→Heap→Prop) (J:It) (H':Hp),itv=.ref it∧Inv X pins σ H' s2∧Turn X.prog X.w X.K tg J fp it tn∧tn 0 s2.heap∧(∀ b∈fp,oR X pins H' b)∧R J H'
def PI(X:Cx)(tg iter:Expr)(wi:TI):Prop:=
 ∀ (pins:List (Addr × Obj)) (s:Shared) (σ:St) (H:Hp) (R:It→Hp→Prop),Inv X pins σ H s→wi σ H R→
  wpAny (model X.prog X.w) X.A (eval iter X.env) (fun v s1=>wpAny (model X.prog X.w) X.A (pyIter v) (Jp X pins σ tg R) X.xe s1) X.xe s
theorem AJ{o:Obj}{n:String}{vs:Array Value}{Q:Unit→Shared→Prop}(ho:s.heap.get? it=some o)(hc:o.cls=.type n)(hd:o.data=.fields vs)
  (hn:["enumerate","zip","dict_itemiterator","dict_reverseitemiterator","odict_iterator","itertools.zip_longest","itertools.pairwise"].contains n=false) (hQ:Q () s):wpAny M A (letOwnedTupleGo tg (.ref it) u) Q E s:=by
 unfold letOwnedTupleGo;cases tg <;> first
  | exact bH hQ
  | (cases u <;> first
    | exact bH hQ
    | (refine aQ (wpAny_load ho ?_)
       rw[hc,hd];show wpAny M A (if (["enumerate","zip","dict_itemiterator","dict_reverseitemiterator","odict_iterator","itertools.zip_longest","itertools.pairwise"].contains n && vs[0]? == some (rawInt _))=true then _ else _) Q E s;rw[if_neg (by intro h; rw[hn,Bool.false_and]at h; cases h)]
       exact bH hQ))
def FY(K:aW)(a:Addr):It:=
 ⟨fun i H=>∃ xs x,a7 K H a xs∧xs[i]?=some x,fun i H x H'=>H'=H∧∀ xs,a7 K H a xs→xs[i]?=some x,fun i H=>∃ xs,a7 K H a xs∧xs.length≤i⟩
def FX(K:aW)(a:Addr):It:=
 ⟨fun i H=>∃ xs x,bY K H a xs∧xs[i]?=some x,fun i H x H'=>H'=H∧∀ xs,bY K H a xs→xs[i]?=some x,fun i H=>∃ xs,bY K H a xs∧xs.length≤i⟩
def FP(lo:Int)(n:Nat):It:=⟨fun i _=>i < n,fun i H x H'=>H'=H∧x=.int (lo + i),fun i _=>n≤i⟩
theorem zN{K:aW}(a it:Addr):Turn P w K tg (FY K a) [it] it (fun i h=>h.IsListIter it a i) where
 mem:=by simp
 obj:=fun i h st b hb=>by
  have e:b=it:=by simpa using hb
  subst e;obtain⟨o,e,c,d⟩:=st;exact⟨o,e,fun v z=>by rw[d]at z; cases z⟩
 keep:=fun i h h' st k=>st.at fun o e=>k it (by simp) o e
 item:=by
  intro X hP hw hK hc i pins s σ H E I hf st hg;subst hP hw hK;obtain⟨xs,x,hq,hx⟩:=hg;obtain⟨its,rv,p,hz⟩:=I.list hq;obtain⟨u,hu,ru⟩:=rv.get hx;obtain⟨f0,f1,f2,f3,f4,f5⟩:=hf it (by simp);refine wpAny_pyNext_list_item st p.isList (x:=u) (by simpa using hu) fun h' st' sb=>?_
  have I1:Inv X pins σ H { s with heap:=h' }:=I.turned (t':=s.toks) (fun b o hb e=>(sb.2 b hb).trans e) f0 f1 f3 f4 f5;obtain⟨o,e,c,d⟩:=id st';exact⟨u,rfl,AJ (s:={ s with heap:=h' }) e c d (by decide) ⟨x,H,I1,ru,⟨rfl,fun ys hy=>by rw[I.tZ hy hq]; exact hx⟩,st',fun b hb=>(hf b hb).1⟩⟩
 done:=by
  intro X hP hw hK hc i pins s σ H E I hf st hg;subst hP hw hK;obtain⟨xs,hq,hx⟩:=hg;obtain⟨its,rv,p,hz⟩:=I.list hq;obtain⟨f0,f1,f2,f3,f4,f5⟩:=hf it (by simp);have hl:=rv.length;exact wpAny_pyNext_list_end (I.ok.hd hc) st p.isList (by simp; lia) fun h' eb=>⟨rfl,I.turned (t':=s.toks) (fun b o hb e=>eb b o hb e) f0 f1 f3 f4 f5⟩
 self:=fun _ _ _ _ _ st h=>wpAny_pyIter_listiter st h
theorem wb{K:aW}(a it:Addr):Turn P w K tg (FX K a) [it] it (fun i h=>h.IsTupleIter it a i) where
 mem:=by simp
 obj:=fun i h st b hb=>by
  have e:b=it:=by simpa using hb
  subst e;obtain⟨o,e,c,d⟩:=st;exact⟨o,e,fun v z=>by rw[d]at z; cases z⟩
 keep:=fun i h h' st k=>st.at fun o e=>k it (by simp) o e
 item:=by
  intro X hP hw hK hc i pins s σ H E I hf st hg;subst hP hw hK;obtain⟨xs,x,hq,hx⟩:=hg;obtain⟨its,rv,p,hz⟩:=I.tuple hq;obtain⟨u,hu,ru⟩:=rv.get hx;obtain⟨f0,f1,f2,f3,f4,f5⟩:=hf it (by simp);refine wpAny_pyNext_tuple_item st (show s.heap.IsTuple a its.toArray from p) (x:=u) (by simpa using hu) fun h' st' sb=>?_
  have I1:Inv X pins σ H { s with heap:=h' }:=I.turned (t':=s.toks) (fun b o hb e=>(sb.2 b hb).trans e) f0 f1 f3 f4 f5;obtain⟨o,e,c,d⟩:=id st';exact⟨u,rfl,AJ (s:={ s with heap:=h' }) e c d (by decide) ⟨x,H,I1,ru,⟨rfl,fun ys hy=>by rw[I.jb hy hq]; exact hx⟩,st',fun b hb=>(hf b hb).1⟩⟩
 done:=by
  intro X hP hw hK hc i pins s σ H E I hf st hg;subst hP hw hK;obtain⟨xs,hq,hx⟩:=hg;obtain⟨its,rv,p,hz⟩:=I.tuple hq;obtain⟨f0,f1,f2,f3,f4,f5⟩:=hf it (by simp);have hl:=rv.length;exact wpAny_pyNext_tuple_end (I.ok.hd hc) st (show s.heap.IsTuple a its.toArray from p) (by simp; lia) fun h' eb=>⟨rfl,I.turned (t':=s.toks) (fun b o hb e=>eb b o hb e) f0 f1 f3 f4 f5⟩
 self:=fun _ _ _ _ _ st h=>wpAny_pyIter_tupleiter st h
theorem vH{K:aW}(it:Addr)(lo:Int)(n:Nat):Turn P w K tg (FP lo n) [it] it (fun i h=>IsRangeIter h it (lo + (i:Nat) * 1) ((n:Int) - (i:Nat)) 1) where
 mem:=by simp
 obj:=fun i h st b hb=>by
  have e:b=it:=by simpa using hb
  subst e
  exact⟨_,st,fun v z=>by
   have z':Data.fields _=Data.cell v:=z
   cases z'⟩
 keep:=fun i h h' st k=>k it (by simp) _ st
 item:=by
  intro X hP hw hK hc i pins s σ H E I hf st hg;subst hP hw hK;obtain⟨f0,f1,f2,f3,f4,f5⟩:=hf it (by simp);have W:=Walks.range (prog:=X.prog) (w:=X.w) (I.ok.hd hc) it lo 1 n;refine W.item i s _ _ hg st fun v h' tk hv st' kk=>?_
  obtain⟨t,rfl⟩:=hv;have I1:Inv X pins σ H { s with heap:=h',toks:=tk }:=I.turned (fun b o hb e=>kk b o (by simpa using hb) e) f0 f1 f3 f4 f5;refine⟨_,rfl,AJ (s:={ s with heap:=h',toks:=tk }) (n:="range_iterator") st' rfl rfl (by decide) ⟨.int (lo + i),H,I1,⟨t,?_⟩,⟨rfl,rfl⟩,st',fun b hb=>(hf b hb).1⟩⟩;rw[Int.mul_one]
 done:=by
  intro X hP hw hK hc i pins s σ H E I hf st hg;subst hP hw hK;obtain⟨f0,f1,f2,f3,f4,f5⟩:=hf it (by simp);exact wpAny_pyNext_range_end (I.ok.hd hc) st (by have:n≤i:=hg; lia) fun h' eb=>⟨rfl,I.turned (t':=s.toks) (fun b o hb e=>eb b o hb e) f0 f1 f3 f4 f5⟩
 self:=fun _ _ _ _ _ st h=>wpAny_pyIter_rangeiter st h
def GO(K:aW)(tl:TE):TI:=fun σ H R=>tl σ H fun x H1=>aw R (fun a R=>x=.ref a∧(∃ xs,a7 K H1 a xs)∧R (FY K a) H1)
def Jc(K:aW)(tl:TE):TI:=fun σ H R=>tl σ H fun x H1=>aw R (fun a R=>x=.ref a∧(∃ xs,bY K H1 a xs)∧R (FX K a) H1)
theorem du(hl:PE X l tl):PI X tg l (GO X.K tl):=by
 intro pins s σ H R I h;refine bW (hl pins s σ H _ I h) fun v s1 hpat=>?_
 obtain⟨x,H1,I1,r1,q1⟩:=hpat;obtain⟨a,e,⟨xs,hq⟩,q⟩:=q1;subst e;cases r1;obtain⟨its,rv,p,hz⟩:=I1.list hq;refine wpAny_pyIter_list p.isList ?_;refine⟨s1.heap.objs.size,[s1.heap.objs.size],_,_,H1,rfl,I1.kept (t':=s1.toks) fun b o e=>dE _ e,zN a _,⟨_,jN _ rfl,rfl,rfl⟩,fun b hb=>?_,q⟩;have e:b=s1.heap.objs.size:=by simpa using hb
 subst e;exact I1.xm (cq _) (I1.hok.fresh (cq _))
theorem oo(hl:PE X l tl):PI X tg l (Jc X.K tl):=by
 intro pins s σ H R I h;refine bW (hl pins s σ H _ I h) fun v s1 hpat=>?_
 obtain⟨x,H1,I1,r1,q1⟩:=hpat;obtain⟨a,e,⟨xs,hq⟩,q⟩:=q1;subst e;cases r1;obtain⟨its,rv,p,hz⟩:=I1.tuple hq;refine F4 (show s1.heap.IsTuple a its.toArray from p) ?_;refine⟨s1.heap.objs.size,[s1.heap.objs.size],_,_,H1,rfl,I1.kept (t':=s1.toks) fun b o e=>dE _ e,wb a _,⟨_,jN _ rfl,rfl,rfl⟩,fun b hb=>?_,q⟩;have e:b=s1.heap.objs.size:=by simpa using hb
 subst e;exact I1.xm (cq _) (I1.hok.fresh (cq _))
theorem AO{R:It→Hp→Prop}{hi:Int}{t u v:Tok}{tk:Nat}(I:Inv X pins σ H s)(h1:-(2 ^ 62)≤lo)(h2:lo < 2 ^ 62)(h3:-(2 ^ 62)≤hi)(h4:hi < 2 ^ 62)
  (q:R (FP lo (hi - lo).toNat) H):wpAny (model X.prog X.w) X.A (pyIter (.ref s.heap.objs.size)) (Jp X pins σ tg R) E { s with heap:=s.heap.push { cls:=.type "range",data:=.fields #[.int lo t,.int hi u,.int 1 v] },toks:=tk }:=by
 refine wpAny_pyIter_range (IsRange.new ..) (small_one h1 h2 h3 h4) ?_;have I1:Inv X pins σ H { s with heap:=s.heap.push { cls:=.type "range",data:=.fields #[.int lo t,.int hi u,.int 1 v] },toks:=tk }:=I.kept fun b o e=>dE _ e
 refine⟨(s.heap.push { cls:=.type "range",data:=.fields #[.int lo t,.int hi u,.int 1 v] }).objs.size,[(s.heap.push { cls:=.type "range",data:=.fields #[.int lo t,.int hi u,.int 1 v] }).objs.size],_,_,H,rfl,
  I1.kept (t':=tk) fun b o e=>dE _ e,vH _ lo (hi - lo).toNat,?_,fun b hb=>?_,q⟩
 ·have e1:lo + ((0:Nat):Int) * 1=lo:=by simp
  have e2:(((hi - lo).toNat:Nat):Int) - ((0:Nat):Int)=Builtin.Range.rangeSize lo hi 1:=by rw[rangeSize_one]; split <;> lia
  show IsRangeIter _ _ (lo + ((0:Nat):Int) * 1) ((((hi - lo).toNat:Nat):Int) - ((0:Nat):Int)) 1;rw[e1,e2];exact jN _ rfl
 ·have e:b=(s.heap.push { cls:=.type "range",data:=.fields #[.int lo t,.int hi u,.int 1 v] }).objs.size:=by simpa using hb
  subst e;exact I1.xm (cq _) (I1.hok.fresh (cq _))
def Hv(ta:TA):TI:=fun σ H R=>ta σ H fun vs H1=>aw R (fun (j:Int) R=>vs=[.int j]∧-(2 ^ 62)≤j∧j < 2 ^ 62∧R (FP 0 j.toNat) H1)
theorem bO{a:Expr}{ta:TA}(hg:Gl X "range")(hm:X.mg "range" = none)(ha:PA X [a] ta)(hs:autoParam (starEach [a] X.env=[(false,eval a X.env)]) q_1):PI X tg (.Call (.Name "range" p) [a] [] pos) (Hv ta):=by
 intro pins s σ H R I h;refine Call_ (gr I hg hm boot_range (D5 (bW (ha pos pins s σ H _ I h) fun us s1 hpat=>?_) hs rfl));obtain⟨vs,H1,I1,r1,q1⟩:=hpat;obtain⟨j,e,q1,q2,q⟩:=q1;subst e;cases r1 with
 | cons r rr=>
  cases rr;obtain⟨t,rfl⟩:=r;exact call_range_1 (AO I1 (by lia) (by lia) q1 q2 (by simpa using q))
def IF(wi:TI)(g:TG)(tb:TS):TS:=fun D σ H=>wi σ H fun J H1=>∃ W:Nat→Nat→St→Hp→Prop,(∃ m,W 0 m σ H1)∧∀ i m σ H,W i m σ H→
 (J.stop i H∧D.nx σ H)∨(J.go i H∧∃ N:St→Hp→Prop,(∀ σ' H',N σ' H'→∃ m',m' < m∧W (i + 1) m' σ' H')∧∀ x H',J.yld i H x H'→g x σ H' fun σ2 H2=>tb { D with nx:=N,ct:=N,bk:=D.nx } σ2 H2)
noncomputable def oY(fp:List Addr)(h:Heap):List (Addr × Obj):=fp.filterMap fun b=>(h.get? b).map fun o=>(b,o)
theorem gA{b:Addr}{o:Obj}(hb:b∈fp)(e:h.get? b=some o):(b,o)∈oY fp h:=List.mem_filterMap.mpr ⟨b,hb,by rw[e]; rfl⟩
theorem zv{p:Addr × Obj}(hp:p∈oY fp h):p.1∈fp∧h.get? p.1=some p.2:=by
 obtain⟨b,hb,e⟩:=List.mem_filterMap.mp hp;cases q:h.get? b with
 | none=>rw[q]at e; cases e
 | some o=>
  rw[q]at e;have e':(b,o)=p:=mW e;subst e';exact⟨hb,q⟩
theorem Inv.pinned(I:Inv X pins σ H s)(hf:∀ b∈fp,oR X pins H b)(ho:∀ b∈fp,∃ o,s.heap.get? b=some o∧∀ v,o.data≠.cell v):Inv X (pins++oY fp s.heap) σ H s:=
 I.xH fun p hp=>(fv.mp hp).elim (fun z=>I.pin p (vA _ z)) fun z=>by
  obtain⟨hb,e⟩:=zv z;obtain⟨f0,f1,f2,_⟩:=hf p.1 hb;obtain⟨o,e',d⟩:=ho p.1 hb;rw[e]at e'; cases e';exact⟨e,f0,f1,f2,d⟩
theorem Inv.jW{pl:List (Addr × Obj)}(I:Inv X (pins++pl) σ H s):Inv X pins σ H s:=I.xH fun p hp=>I.pin p (vA _ (tq _ hp))
theorem cQ{iter:Expr}{wi:TI}(hp:PassesOwn (model X.prog X.w) X.A X.env X.xe)(hc:X.calm=true)(hi:PI X tg iter wi)(hg:PG X tg g)(hb:zV X body tb)
  (hs:autoParam (∀ x,foldedSetIterable iter X.env x=pure x) q_4):PS X (.For tg iter body [] pos) (IF wi g tb):=by
 intro pins s σ H D I h;refine wpAny_For (bW (hi pins s σ H _ I h) fun v s1 h1=>bW h1 fun itv s2 h2=>?_) hs;obtain⟨it,fp,tn,J,H2,e,I2,T,st2,f2,W,⟨m0,w0⟩,turn⟩:=h2;subst e
 -- what stays true of the iterator's objects through the loop
 have stat:∀ {H':Hp},(∀ b∈fp,H' b=none)→∀ b∈fp,oR X pins H' b:=fun hn b hb=>⟨hn b hb,(f2 b hb).2⟩
 refine codeAny_forLoop_any (fun n s'=>∃ i σ' H',Inv X pins σ' H' s'∧tn i s'.heap∧(∀ b∈fp,H' b=none)∧W i n σ' H') ?_ m0 ⟨0,σ,H2,I2,st2,fun b hb=>(f2 b hb).1,w0⟩
 rintro n s3 ⟨i,σ3,H3,I3,st3,fr3,w3⟩
 rcases turn i n σ3 H3 w3 with ⟨stop,qn⟩ | ⟨go,N,hN,step⟩
 ·refine wpAny_passesOwn hp (bW (T.done X rfl rfl rfl hc i pins s3 σ3 H3 X.xe I3 (stat fr3) st3 stop) fun r s4 hpat=>?_);obtain⟨hr,I4⟩:=hpat;subst hr;exact wpAny_execs_nil ⟨σ3,H3,I4,qn⟩
 ·refine wpAny_passesOwn hp (bW (T.item X rfl rfl rfl hc i pins s3 σ3 H3 X.xe I3 (stat fr3) st3 go) fun r s4 hpat=>?_);obtain⟨u,hr,h4⟩:=hpat;subst hr;refine wpAny_passesOwn hp (bW h4 fun _ s5 hpat=>?_);obtain⟨x,H5,I5,r5,y5,st5,fr5⟩:=hpat;have I5':=I5.pinned (stat fr5) (T.obj _ _ st5);refine wpAny_passesOwn hp (bW (hg _ s5 σ3 H5 x u _ I5' r5 (step x H5 y5)) fun _ s6 hpat=>?_);obtain⟨σ6,H6,I6,q6⟩:=hpat;refine wpAny_passesOwn hp (bW (hb _ s6 σ6 H6 _ I6 q6) fun f s7 q7=>?_);have again:∀ {σ7:St} {H7:Hp},Inv X (pins++oY fp s5.heap) σ7 H7 s7→N σ7 H7→∃ m,m < n∧∃ i σ' H',Inv X pins σ' H' s7∧tn i s7.heap∧(∀ b∈fp,H' b=none)∧W i m σ' H':=fun {σ7 H7} I7 n7=>by
   obtain⟨m',hm,w7⟩:=hN σ7 H7 n7;refine⟨m',hm,i + 1,σ7,H7,I7.jW,T.keep _ _ _ st5 fun b hb o e=>(I7.pin (b,o) (vA _ (vA _ (gA hb e)))).1,fun b hb=>?_,w7⟩;obtain⟨o,e,d⟩:=T.obj _ _ st5 b hb;exact (I7.pin (b,o) (vA _ (vA _ (gA hb e)))).2.1
  cases f with
  | next=>obtain⟨σ7,H7,I7,n7⟩:=q7; exact again I7 n7
  | cont=>obtain⟨σ7,H7,I7,n7⟩:=q7; exact again I7 n7
  | brk=>obtain⟨σ7,H7,I7,q7⟩:=q7; exact⟨σ7,H7,I7.jW,q7⟩
  | ret v=>obtain⟨x7,σ7,H7,I7,r7,q7⟩:=q7; exact⟨x7,σ7,H7,I7.jW,r7,q7⟩
theorem gj{K:aW}{D:Ends}(Pv:Nat→St→Hp→Prop)(h0:Pv 0 σ H)(hl:∀ i σ H,i≤xs.length→Pv i σ H→a7 K H a xs)
  (hs:∀ i x σ H,xs[i]?=some x→Pv i σ H→g x σ H fun σ2 H2=>tb {D with nx:=Pv (i + 1),ct:=Pv (i + 1),bk:=D.nx} σ2 H2) (hd:∀ σ H,Pv xs.length σ H→D.nx σ H) :
  ∃ W:Nat→Nat→St→Hp→Prop,(∃ m,W 0 m σ H)∧∀ i m σ H,W i m σ H→
   ((FY K a).stop i H∧D.nx σ H)∨((FY K a).go i H∧∃ N:St→Hp→Prop,(∀ σ' H',N σ' H'→∃ m',m' < m∧W (i + 1) m' σ' H')∧∀ x H',(FY K a).yld i H x H'→g x σ H' fun σ2 H2=>tb { D with nx:=N,ct:=N,bk:=D.nx } σ2 H2):=by
 refine⟨fun i m σ H=>m=xs.length - i∧i≤xs.length∧Pv i σ H,⟨xs.length,by simp,fE _,h0⟩,?_⟩
 rintro i m σ H ⟨rfl,hi,p⟩
 have q:=hl i σ H hi p;by_cases hlt:i < xs.length
 ·refine .inr ⟨⟨xs,xs[i],q,by simp[hlt]⟩,Pv (i + 1),fun σ' H' p'=>⟨xs.length - (i + 1),by lia,rfl,hlt,p'⟩,fun x H' y=>?_⟩;obtain⟨e,y⟩:=y;subst e;exact hs i x σ _ (y xs q) p
 ·have e:i=xs.length:=by lia
  subst e;exact .inl ⟨⟨xs,q,cq _⟩,hd σ H p⟩
theorem C4{K:aW}{D:Ends}(Pv:Nat→St→Hp→Prop)(h0:Pv 0 σ H)(hl:∀ i σ H,i≤xs.length→Pv i σ H→bY K H a xs)
  (hs:∀ i x σ H,xs[i]?=some x→Pv i σ H→g x σ H fun σ2 H2=>tb {D with nx:=Pv (i + 1),ct:=Pv (i + 1),bk:=D.nx} σ2 H2) (hd:∀ σ H,Pv xs.length σ H→D.nx σ H) :
  ∃ W:Nat→Nat→St→Hp→Prop,(∃ m,W 0 m σ H)∧∀ i m σ H,W i m σ H→
   ((FX K a).stop i H∧D.nx σ H)∨((FX K a).go i H∧∃ N:St→Hp→Prop,(∀ σ' H',N σ' H'→∃ m',m' < m∧W (i + 1) m' σ' H')∧∀ x H',(FX K a).yld i H x H'→g x σ H' fun σ2 H2=>tb { D with nx:=N,ct:=N,bk:=D.nx } σ2 H2):=by
 refine⟨fun i m σ H=>m=xs.length - i∧i≤xs.length∧Pv i σ H,⟨xs.length,by simp,fE _,h0⟩,?_⟩
 rintro i m σ H ⟨rfl,hi,p⟩
 have q:=hl i σ H hi p;by_cases hlt:i < xs.length
 ·refine .inr ⟨⟨xs,xs[i],q,by simp[hlt]⟩,Pv (i + 1),fun σ' H' p'=>⟨xs.length - (i + 1),by lia,rfl,hlt,p'⟩,fun x H' y=>?_⟩;obtain⟨e,y⟩:=y;subst e;exact hs i x σ _ (y xs q) p
 ·have e:i=xs.length:=by lia
  subst e;exact .inl ⟨⟨xs,q,cq _⟩,hd σ H p⟩
theorem dh{D:Ends}(Pv:Nat→St→Hp→Prop)(h0:Pv 0 σ H)
  (hs:∀ i σ H,i < n→Pv i σ H→g (.int (lo + i)) σ H fun σ2 H2=>tb {D with nx:=Pv (i + 1),ct:=Pv (i + 1),bk:=D.nx} σ2 H2) (hd:∀ σ H,Pv n σ H→D.nx σ H) :
  ∃ W:Nat→Nat→St→Hp→Prop,(∃ m,W 0 m σ H)∧∀ i m σ H,W i m σ H→
   ((FP lo n).stop i H∧D.nx σ H)∨((FP lo n).go i H∧∃ N:St→Hp→Prop,(∀ σ' H',N σ' H'→∃ m',m' < m∧W (i + 1) m' σ' H')∧∀ x H',(FP lo n).yld i H x H'→g x σ H' fun σ2 H2=>tb { D with nx:=N,ct:=N,bk:=D.nx } σ2 H2):=by
 refine⟨fun i m σ H=>m=n - i∧i≤n∧Pv i σ H,⟨n,by simp,fE _,h0⟩,?_⟩
 rintro i m σ H ⟨rfl,hi,p⟩
 by_cases hlt:i < n
 ·refine .inr ⟨hlt,Pv (i + 1),fun σ' H' p'=>⟨n - (i + 1),by lia,rfl,hlt,p'⟩,fun x H' y=>?_⟩;obtain⟨e,y⟩:=y;subst e y;exact hs i σ _ hlt p
 ·have e:i=n:=by lia
  subst e;exact .inl ⟨cq _,hd σ H p⟩
abbrev R2:=V→V→Hp→VK→Prop
def jQ(X:Cx)(f:Value→Value→Sem Value)(r:R2):Prop:=
 ∀ (pins:List (Addr × Obj)) (s:Shared) (σ:St) (H:Hp) (x y:V) (v u:Value) (Q:VK),Inv X pins σ H s→RelV x v→RelV y u→r x y H Q→
  wpAny (model X.prog X.w) X.A (f v u) (EP X pins σ Q) X.xe s
def IH(X:Cx)(f:Value→Sem Value)(r:V→Hp→VK→Prop):Prop:=
 ∀ (pins:List (Addr × Obj)) (s:Shared) (σ:St) (H:Hp) (x:V) (v:Value) (Q:VK),Inv X pins σ H s→RelV x v→r x H Q→
  wpAny (model X.prog X.w) X.A (f v) (EP X pins σ Q) X.xe s
def fX(X:Cx)(f:Value)(r:List V→Hp→VK→Prop):Prop:=
 ∀ (pins:List (Addr × Obj)) (s:Shared) (σ:St) (H:Hp) (xs:List V) (us:List Value) (Q:VK),Inv X pins σ H s→Vals xs us→r xs H Q→
  wpAny (model X.prog X.w) X.A (call f us) (EP X pins σ Q) X.xe s
def IS(X:Cx)(r:V→Hp→(Bool→Hp→Prop)→Prop):Prop:=
 ∀ (pins:List (Addr × Obj)) (s:Shared) (σ:St) (H:Hp) (x:V) (v:Value) (Q:Bool→Hp→Prop),Inv X pins σ H s→RelV x v→r x H Q→
  wpAny (model X.prog X.w) X.A (truthy v) (TP X pins σ Q) X.xe s
def HR(r:R2)(ta tb:TE):TE:=fun σ H Q=>ta σ H fun x H1=>tb σ H1 fun y H2=>r x y H2 Q
def JP(r:V→Hp→VK→Prop)(ta:TE):TE:=fun σ H Q=>ta σ H fun x H1=>r x H1 Q
def rI(C:Int→Int→Prop)(g:Int→Int→V):R2:=fun x y H Q=>aw Q (fun i Q=>aw Q (fun j Q=>x=.int i∧y=.int j∧C i j∧Q (g i j) H))
def Cy(g:Int→Int→V):R2:=fun x y H Q=>aw Q (fun i Q=>aw Q (fun j Q=>x=.int i∧y=.int j∧Q (g i j) H))
def rU(g:Int→V):V→Hp→VK→Prop:=fun x H Q=>aw Q (fun i Q=>x=.int i∧Q (g i) H)
section
variable {a b:Expr}{tb tc:TE}
theorem Fc(ha:PE X a ta)(hb:PE X b tb){R:V→V→Hp→Prop}(I:Inv X pins σ H s)
  (h:ta σ H fun x H1=>tb σ H1 fun y H2=>R x y H2) {f:Value→Value→Sem Value}
  (hf:∀ v u s2 x y H2,Inv X pins σ H2 s2→RelV x v→RelV y u→R x y H2→wpAny (model X.prog X.w) X.A (f v u) Q X.xe s2) :
  wpAny (model X.prog X.w) X.A (eval a X.env) (fun v s₁=>wpAny (model X.prog X.w) X.A (eval b X.env) (fun u s₂=>wpAny (model X.prog X.w) X.A (f v u) Q X.xe s₂) X.xe s₁) X.xe s:=by
 refine bW (ha pins s σ H _ I h) fun v s1 hpat=>?_
 obtain⟨x,H1,I1,r1,q1⟩:=hpat;refine bW (hb pins s1 σ H1 _ I1 q1) fun u s2 hpat=>?_
 obtain⟨y,H2,I2,r2,q2⟩:=hpat;exact hf v u s2 x y H2 I2 r1 r2 q2
theorem aR{op:Operator}{r:R2}(ho:jQ X (binaryOp op) r)(ha:PE X a ta)(hb:PE X b tb):PE X (.BinOp a op b pos) (HR r ta tb):=by
 intro pins s σ H Q I h;exact wpAny_BinOp (Fc ha hb I h fun v u s2 x y H2 I2 rx ry q=>ho pins s2 σ H2 x y v u Q I2 rx ry q)
theorem nJ{op:UnaryOp}{r:V→Hp→VK→Prop}(ho:IH X (unaryOp op) r)(ha:PE X a ta):PE X (.UnaryOp op a pos) (JP r ta):=by
 intro pins s σ H Q I h;exact UnaryOp_ (bW (ha pins s σ H _ I h) fun v s1 hp2=>by obtain⟨x,H1,I1,r1,q1⟩:=hp2; exact ho pins s1 σ H1 x v Q I1 r1 q1)
theorem HF{f:Value→Value→Sem Value}{C:Int→Int→Prop}{g:Int→Int→Int}
  (rule:∀ (i j:Int) (t u:Tok) (s:Shared) (Q:Value→Shared→Prop) (E:Value→Shared→Prop),C i j→Q (.int (g i j) s.toks) {s with toks:=s.toks + 1}→wpAny (model X.prog X.w) X.A (f (.int i t) (.int j u)) Q E s) :
  jQ X f (rI C fun i j=>.int (g i j)):=by
 intro pins s σ H x y v u Q I rx ry h;obtain⟨i,j,rfl,rfl,hc,q⟩:=h;obtain⟨t,rfl⟩:=rx;obtain⟨t',rfl⟩:=ry;exact rule i j t t' s _ _ hc ⟨.int (g i j),H,I.tok _,⟨_,rfl⟩,q⟩
theorem D0{f:Value→Value→Sem Value}{g:Int→Int→Int}
  (rule:∀ (i j:Int) (t u:Tok) (s:Shared) (Q:Value→Shared→Prop) (E:Value→Shared→Prop),Q (.int (g i j) s.toks) {s with toks:=s.toks + 1}→wpAny (model X.prog X.w) X.A (f (.int i t) (.int j u)) Q E s) :
  jQ X f (Cy fun i j=>.int (g i j)):=by
 intro pins s σ H x y v u Q I rx ry h;obtain⟨i,j,rfl,rfl,q⟩:=h;obtain⟨t,rfl⟩:=rx;obtain⟨t',rfl⟩:=ry;exact rule i j t t' s _ _ ⟨.int (g i j),H,I.tok _,⟨_,rfl⟩,q⟩
theorem D2{f:Value→Value→Sem Value}{g:Int→Int→Bool}
  (rule:∀ (i j:Int) (t u:Tok) (s:Shared) (Q:Value→Shared→Prop) (E:Value→Shared→Prop),Q (.bool (g i j)) s→wpAny (model X.prog X.w) X.A (f (.int i t) (.int j u)) Q E s) :
  jQ X f (Cy fun i j=>.bl (g i j)):=by
 intro pins s σ H x y v u Q I rx ry h;obtain⟨i,j,rfl,rfl,q⟩:=h;obtain⟨t,rfl⟩:=rx;obtain⟨t',rfl⟩:=ry;exact rule i j t t' s _ _ ⟨.bl (g i j),H,I,rfl,q⟩
def GN(i j:Int):Prop:=0 < j∧j < 1073741824
def IM(i j:Int):Prop:=0≤j∧j≤1000000∧i.natAbs < 2 ^ 64
def Fz(i j:Int):Prop:=(-(2 ^ 64) < i∧i < 2 ^ 64)∨(-(2 ^ 64) < j∧j < 2 ^ 64)
theorem Fz.ok{i j:Int}(h:Fz i j):IntMulOk i j:=by
 rcases h with ⟨h1,h2⟩ | ⟨h1,h2⟩
 ·exact .of_left (intBits_le_64 h1 h2)
 ·exact .of_right (intBits_le_64 h1 h2)
theorem vN(k:Nat):(0:Int)≤2 ^ k:=by
 rw[two_pow_cast];exact Int.natCast_nonneg _
theorem bK:jQ X (binaryOp .Add) (Cy fun i j=>.int (i + j)):=D0 fun _ _ _ _ _ _ _ q=>add_int q
theorem dD:jQ X (binaryOp .Sub) (Cy fun i j=>.int (i - j)):=D0 fun _ _ _ _ _ _ _ q=>sub_int q
theorem eC:jQ X (binaryOp .Mult) (rI Fz fun i j=>.int (i * j)):=HF fun _ _ _ _ _ _ _ hc q=>mul_int q hc.ok
theorem ke:jQ X (binaryOp .FloorDiv) (rI GN fun i j=>.int (i / j)):=HF fun i j _ _ _ _ _ hc q=>by
 have h1:(0:Int) < j:=hc.1;have h2:j < 1073741824:=hc.2;exact floordiv_int (by lia) (by rw[Int.fdiv_eq_ediv_of_nonneg i (by lia)]; exact q) (.inl (PyProof.noPylong_small (by lia)))
theorem fu:jQ X (binaryOp .Mod) (rI (fun _ j=>0 < j) fun i j=>.int (i % j)):=HF fun i j _ _ _ _ _ hc q=>by
 have h1:(0:Int) < j:=hc;exact mod_int' (by lia) (by rw[Int.fmod_eq_emod_of_nonneg i (by lia)]; exact q)
theorem Aq:jQ X (binaryOp .Pow) (rI IM fun i j=>.int (i ^ j.toNat)):=HF fun _ _ _ _ _ _ _ hc q=>pow_int_small hc.1 hc.2.1 hc.2.2 q
theorem Fv:jQ X (binaryOp .RShift) (rI (fun _ j=>0≤j) fun i j=>.int (i / 2 ^ j.toNat)):=HF fun i j _ _ _ _ _ hc q=>
 rshift_int hc (by rw[Int.fdiv_eq_ediv_of_nonneg i (vN _)]; exact q)
theorem E8:jQ X (binaryOp .BitAnd) (Cy fun i j=>.int (Builtin.bitAnd i j)):=D0 fun _ _ _ _ _ _ _ q=>and_int q
theorem DI:jQ X (inplaceOp .Add) (Cy fun i j=>.int (i + j)):=D0 fun _ _ _ _ _ _ _ q=>iadd_int q
theorem JW{f:Value→Sem Value}{g:Int→Int}
  (rule:∀ (i:Int) (t:Tok) (s:Shared) (Q:Value→Shared→Prop) (E:Value→Shared→Prop),Q (.int (g i) s.toks) {s with toks:=s.toks + 1}→wpAny (model X.prog X.w) X.A (f (.int i t)) Q E s) :
  IH X f (rU fun i=>.int (g i)):=by
 intro pins s σ H x v Q I rx h;obtain⟨i,rfl,q⟩:=h;obtain⟨t,rfl⟩:=rx;exact rule i t s _ _ ⟨.int (g i),H,I.tok _,⟨_,rfl⟩,q⟩
theorem jG:IH X (unaryOp .USub) (rU fun i=>.int (-i)):=JW fun _ _ _ _ _ q=>neg_int q
end
noncomputable def HD:V→V→Bool
 | .non,.non=>true | .non,.int _=>true | .int _,.non=>true | .non,.bl _=>true | .bl _,.non=>true | .non,.str _=>true | .str _,.non=>true
 | .int _,.int _=>true | .bl _,.bl _=>true | .str _,.str _=>true | .byt _,.byt _=>true
 | .int _,.str _=>true | .str _,.int _=>true | .bl _,.str _=>true | .str _,.bl _=>true
 | _,_=>false
def JU:R2:=fun x y H Q=>HD x y=true∧Q (.bl (decide (x=y))) H
def JN:R2:=fun x y H Q=>HD x y=true∧Q (.bl (!decide (x=y))) H
theorem xW{i j:Int}:decide (V.int i=V.int j)=(i == j):=by
 rw[Bool.eq_iff_iff];simp
theorem BO{i j:Bool}:decide (V.bl i=V.bl j)=(i == j):=by
 rw[Bool.eq_iff_iff];simp
theorem ym{i j:Str}:decide (V.str i=V.str j)=(i == j):=by
 rw[Bool.eq_iff_iff];simp
theorem yh{i j:Array UInt8}:decide (V.byt i=V.byt j)=(i.toList == j.toList):=by
 rw[Bool.eq_iff_iff];cases i;cases j;simp
section
variable {a b:Expr}{tb tc:TE}
theorem bE{Q:VK}{k k':Bool}(I:Inv X pins σ H s)(q:Q (.bl k) H)(e:k=k'):EP X pins σ Q (.bool k') s:=by
 subst e;exact⟨.bl k,H,I,rfl,q⟩
theorem bA:jQ X (compareOp .Eq) JU:=by
 intro pins s σ H x y v u Q I rx ry h;obtain⟨hs,q⟩:=h;cases x with
 | non=>
  cases rx;cases y with
  | non=>cases ry; exact PySem.EqNone.eq_none_none (bE I q (by simp))
  | bl j=>cases ry; exact PySem.EqNone.eq_none_bool (bE I q (by simp))
  | int j=>obtain⟨t',rfl⟩:=ry; exact PySem.EqNone.eq_none_int (bE I q (by simp))
  | str j=>obtain⟨t',rfl⟩:=ry; exact PySem.EqNone.eq_none_str (bE I q (by simp))
  | _=>exact absurd (show false=true from hs) gW
 | bl i=>
  cases rx;cases y with
  | non=>cases ry; exact PySem.EqNone.eq_bool_none (bE I q (by simp))
  | bl j=>cases ry; exact eq_bool (bE I q BO)
  | str j=>obtain⟨t',rfl⟩:=ry; exact PySem.EqMixed.eq_bool_str (bE I q (by simp))
  | _=>exact absurd (show false=true from hs) gW
 | int i=>
  obtain⟨t,rfl⟩:=rx;cases y with
  | non=>cases ry; exact PySem.EqNone.eq_int_none (bE I q (by simp))
  | int j=>obtain⟨t',rfl⟩:=ry; exact eq_int (bE I q xW)
  | str j=>obtain⟨t',rfl⟩:=ry; exact PySem.EqMixed.eq_int_str (bE I q (by simp))
  | _=>exact absurd (show false=true from hs) gW
 | str i=>
  obtain⟨t,rfl⟩:=rx;cases y with
  | non=>cases ry; exact PySem.EqNone.eq_str_none (bE I q (by simp))
  | bl j=>cases ry; exact PySem.EqMixed.eq_str_bool (bE I q (by simp))
  | int j=>obtain⟨t',rfl⟩:=ry; exact PySem.EqMixed.eq_str_int (bE I q (by simp))
  | str j=>obtain⟨t',rfl⟩:=ry; exact eq_str (bE I q ym)
  | _=>exact absurd (show false=true from hs) gW
 | byt i=>
  obtain⟨t,rfl⟩:=rx;cases y with
  | byt j=>obtain⟨t',rfl⟩:=ry; exact PySem.W.eq_bytes (bE I q yh)
  | _=>exact absurd (show false=true from hs) gW
 | _=>cases y <;> exact absurd (show false=true from hs) gW
theorem B9:jQ X (compareOp .NotEq) JN:=by
 intro pins s σ H x y v u Q I rx ry h;obtain⟨hs,q⟩:=h;cases x with
 | non=>
  cases rx;cases y with
  | non=>cases ry; exact PySem.EqNone.ne_none_none (bE I q (by simp))
  | bl j=>cases ry; exact PySem.EqNone.ne_none_bool (bE I q (by simp))
  | int j=>obtain⟨t',rfl⟩:=ry; exact PySem.EqNone.ne_none_int (bE I q (by simp))
  | str j=>obtain⟨t',rfl⟩:=ry; exact PySem.EqNone.ne_none_str (bE I q (by simp))
  | _=>exact absurd (show false=true from hs) gW
 | bl i=>
  cases rx;cases y with
  | non=>cases ry; exact PySem.EqNone.ne_bool_none (bE I q (by simp))
  | bl j=>cases ry; exact ne_bool (bE I q (congrArg not BO))
  | str j=>obtain⟨t',rfl⟩:=ry; exact PySem.EqMixed.ne_bool_str (bE I q (by simp))
  | _=>exact absurd (show false=true from hs) gW
 | int i=>
  obtain⟨t,rfl⟩:=rx;cases y with
  | non=>cases ry; exact PySem.EqNone.ne_int_none (bE I q (by simp))
  | int j=>obtain⟨t',rfl⟩:=ry; exact ne_int (bE I q (congrArg not xW))
  | str j=>obtain⟨t',rfl⟩:=ry; exact PySem.EqMixed.ne_int_str (bE I q (by simp))
  | _=>exact absurd (show false=true from hs) gW
 | str i=>
  obtain⟨t,rfl⟩:=rx;cases y with
  | non=>cases ry; exact PySem.EqNone.ne_str_none (bE I q (by simp))
  | bl j=>cases ry; exact PySem.EqMixed.ne_str_bool (bE I q (by simp))
  | int j=>obtain⟨t',rfl⟩:=ry; exact PySem.EqMixed.ne_str_int (bE I q (by simp))
  | str j=>obtain⟨t',rfl⟩:=ry; exact ne_str (bE I q (congrArg not ym))
  | _=>exact absurd (show false=true from hs) gW
 | byt i=>
  obtain⟨t,rfl⟩:=rx;cases y with
  | byt j=>obtain⟨t',rfl⟩:=ry; exact PySem.W.ne_bytes (bE I q (congrArg not yh))
  | _=>exact absurd (show false=true from hs) gW
 | _=>cases y <;> exact absurd (show false=true from hs) gW
theorem kf:jQ X (compareOp .Lt) (Cy fun i j=>.bl (decide (i < j))):=D2 fun _ _ _ _ _ _ _ q=>lt_int q
theorem BJ:jQ X (compareOp .LtE) (Cy fun i j=>.bl (decide (i≤j))):=D2 fun _ _ _ _ _ _ _ q=>le_int q
theorem lY:jQ X (compareOp .Gt) (Cy fun i j=>.bl (decide (j < i))):=D2 fun _ _ _ _ _ _ _ q=>gt_int q
theorem BB:jQ X (compareOp .GtE) (Cy fun i j=>.bl (decide (j≤i))):=D2 fun _ _ _ _ _ _ _ q=>ge_int q
theorem vP:jQ X (compareOp .Is) (fun x y H Q=>y=.non∧Q (.bl (decide (x=.non))) H):=by
 intro pins s σ H x y v u Q I rx ry h;obtain⟨rfl,q⟩:=h;cases ry;refine is_none_gen (bE I q ?_);cases x <;> first
  | (cases rx; rfl)
  | (obtain⟨t,rfl⟩:=rx; rfl)
theorem gp:jQ X (compareOp .IsNot) (fun x y H Q=>y=.non∧Q (.bl (!decide (x=.non))) H):=by
 intro pins s σ H x y v u Q I rx ry h;obtain⟨rfl,q⟩:=h;cases ry;refine isnot_none_gen (bE I q ?_);cases x <;> first
  | (cases rx; rfl)
  | (obtain⟨t,rfl⟩:=rx; rfl)
theorem wI(b:Expr)(h:autoParam (op≠.In) q_2)(h2:autoParam (op≠.NotIn) q_2):behindInMarks op b=false:=by
 have e1:(op == CmpOp.In)=false:=by cases op <;> first | rfl | exact absurd rfl h
 have e2:(op == CmpOp.NotIn)=false:=by cases op <;> first | rfl | exact absurd rfl h2
 cases b <;> simp[behindInMarks,e1,e2]
theorem bU{op:CmpOp}{r:R2}(ho:jQ X (compareOp op) r)(ha:PE X a ta)(hb:PE X b tb)(hm:autoParam (behindInMarks op b=false) q_6):PE X (.Compare a [op] [b] pos) (HR r ta tb):=by
 intro pins s σ H Q I h;exact wpAny_Compare1 (Fc ha hb I h fun v u s2 x y H2 I2 rx ry q=>ho pins s2 σ H2 x y v u Q I2 rx ry q) hm
def GC(t:TE):TT:=fun σ H Q=>t σ H fun x H'=>aw Q (fun k Q=>x=.bl k∧Q k H')
theorem aE{r:R2}(ho:jQ X (compareOp op) r)(ha:PE X a ta)(hb:PE X b tb)(hm:autoParam (behindInMarks op b=false) q_6):PT X (.Compare a [op] [b] pos) (GC (HR r ta tb)):=by
 intro pins s σ H Q I h;refine wpAny_isTrue_Compare1 (bW (ha pins s σ H _ I h) fun v s1 hpat=>?_) hm;obtain⟨x,H1,I1,r1,q1⟩:=hpat;refine bW (hb pins s1 σ H1 _ I1 q1) fun u s2 hpat=>?_
 obtain⟨y,H2,I2,r2,q2⟩:=hpat;refine bW (ho pins s2 σ H2 x y v u _ I2 r1 r2 q2) fun c s3 hpat=>?_
 obtain⟨z,H3,I3,r3,k,e,q3⟩:=hpat;subst e;cases r3;exact Es ⟨H3,I3,q3⟩
def Hx(K:aW)(x:V)(H:Hp)(k:Bool):Prop:=
 match x with
 | .non=>k=false
 | .bl b=>k=b
 | .int i=>k=(i != 0)
 | .str y=>y.length≤sizeLine∧k=((y.length:Int) != 0)
 | .byt y=>y.size≤sizeLine∧k=((y.size:Int) != 0)
 | .ref p=>(∃ xs,a7 K H p xs∧k=!xs.isEmpty)∨(∃ xs,bY K H p xs∧k=!xs.isEmpty)∨∃ kvs,H p=some (.dK kvs)∧k=!kvs.isEmpty
 | _=>False
theorem wm{κ:Type}{kvs:List (κ × V)}{vs:List (κ × Value)}(r:KV kvs vs):(!vs.isEmpty)=!kvs.isEmpty:=by
 cases r <;> rfl
theorem oh{its:List Value}(r:Vals xs its):(!its.toArray.isEmpty)=!xs.isEmpty:=by
 cases r <;> simp
theorem m5:(sizeLine:Nat) < 2 ^ 63:=by rw[uF]; decide
theorem EO:IS X (fun x H Q=>∃ k,Hx X.K x H k∧Q k H):=by
 intro pins s σ H x v Q I rx h;obtain⟨k,e,q⟩:=h;have hl:=m5;have hs:sizeLine=16777216:=uF;cases x with
 | non=>
  cases rx;have e':k=false:=e;subst e';exact truthy_none ⟨H,I,q⟩
 | bl b=>
  cases rx;have e':k=b:=e;subst e';exact Es ⟨H,I,q⟩
 | int i=>
  obtain⟨t,rfl⟩:=rx;have e':k=(i != 0):=e;subst e';exact PySem.P.truthy_int ⟨H,I,q⟩
 | str y=>
  obtain⟨t,rfl⟩:=rx;obtain⟨hy,e'⟩:y.length≤sizeLine∧k=((y.length:Int) != 0):=e;subst e';exact PySem.P.truthy_str (by lia) ⟨H,I.tok _,q⟩
 | byt y=>
  obtain⟨t,rfl⟩:=rx;obtain⟨hy,e'⟩:y.size≤sizeLine∧k=((y.size:Int) != 0):=e;subst e';exact PySem.W.truthy_bytes (by lia) ⟨H,I.tok _,q⟩
 | ref p=>
  cases rx;have e':(∃ xs,a7 X.K H p xs∧k=!xs.isEmpty)∨(∃ xs,bY X.K H p xs∧k=!xs.isEmpty)∨∃ kvs,H p=some (.dK kvs)∧k=!kvs.isEmpty:=e;rcases e' with ⟨xs,hx,e'⟩ | ⟨xs,hx,e'⟩ | ⟨kvs,hx,e'⟩
  ·subst e';obtain⟨its,r,pl,hz⟩:=I.list hx;have hlen:=r.length;exact wpAny_truthy_list pl.isList (by simp only[dY]; lia) ⟨H,I.tok _,by rw[oh r]; exact q⟩
  ·subst e';obtain⟨its,r,pl,hz⟩:=I.tuple hx;have hlen:=r.length;exact truthy_tuple pl (by simp only[dY]; lia) ⟨H,I.tok _,by rw[oh r]; exact q⟩
  ·subst e';obtain⟨hz,hS,vs,r,m⟩:kvs.length≤sizeLine∧(p == sysModules)=false∧∃ vs,KV kvs vs∧s.heap.DictOf (bt X.prog X.w) p vs:=I.hok p _ hx;have hlen:kvs.length=vs.length:=Paired.length r;exact wpAny_truthy_dict hS m (by lia) ⟨H,I.tok _,by rw[wm r]; exact q⟩
 | _=>exact (show False from e).elim
theorem tF(ha:PE X a ta)(he:∀ whole,isTrue a X.env whole=(do let v ← whole; standAt a.pos; holding [v] (truthy v))) :
  PT X a (fun σ H Q=>ta σ H fun x H'=>∃ k,Hx X.K x H' k∧Q k H'):=by
 intro pins s σ H Q I h;exact isTrue_plain (bW (ha pins s σ H _ I h) fun v s1 hp2=>by obtain⟨x,H1,I1,r1,q1⟩:=hp2; exact EO pins s1 σ H1 x v Q I1 r1 q1) (he _)
theorem vals1{x:V}(r:Vals [x] us):∃ u,us=[u]∧RelV x u:=by
 cases r with
 | cons r1 r2=>cases r2; exact⟨_,rfl,r1⟩
theorem vals2{x y:V}(r:Vals [x,y] us):∃ u w',us=[u,w']∧RelV x u∧RelV y w':=by
 cases r with
 | cons r1 r2=>
  cases r2 with
  | cons r3 r4=>cases r4; exact⟨_,_,rfl,r1,r3⟩
theorem yP(hc:X.calm=true):fX X (.builtin "min") (fun xs H Q=>∃ i j,xs=[.int i,.int j]∧Q (.int (if j < i then j else i)) H):=by
 intro pins s σ H xs us Q I r h;obtain⟨i,j,rfl,q⟩:=h;obtain⟨u,w',rfl,⟨t,rfl⟩,⟨t',rfl⟩⟩:=vals2 r;refine min_two_ints (I.ok.hd hc) fun h' tk k=>⟨_,H,I.kept k,?_,q⟩
 by_cases hj:j < i
 ·rw[if_pos hj,if_pos hj]; exact⟨_,rfl⟩
 ·rw[if_neg hj,if_neg hj]; exact⟨_,rfl⟩
theorem cP:fX X (.type "int") (fun xs H Q=>(∃ i,xs=[.int i]∧Q (.int i) H)∨∃ k,xs=[.bl k]∧Q (.int (if k then 1 else 0)) H):=by
 intro pins s σ H xs us Q I r h;rcases h with ⟨i,rfl,q⟩ | ⟨k,rfl,q⟩
 ·obtain⟨u,rfl,t,rfl⟩:=vals1 r;exact call_int_int ⟨.int i,H,I,⟨_,rfl⟩,q⟩
 ·obtain⟨u,rfl,r1⟩:=vals1 r;cases r1;exact call_int_bool ⟨.int (if k then 1 else 0),H,I.tok _,⟨_,rfl⟩,q⟩
theorem tS:fX X (.builtin "divmod") (fun xs H Q=>∃ i j,xs=[.int i,.int j]∧GN i j∧∀ p,H p=none→Q (.ref p) (upd H p (.tup [.int (i / j),.int (i % j)]))):=by
 intro pins s σ H xs us Q I r h;obtain⟨i,j,rfl,⟨h1,h2⟩,q⟩:=h;obtain⟨u,w',rfl,⟨t,rfl⟩,⟨t',rfl⟩⟩:=vals2 r;refine divmod_int (by lia) ?_ (.inl (PyProof.noPylong_small (by lia)));rw[Int.fdiv_eq_ediv_of_nonneg i (by lia),Int.fmod_eq_emod_of_nonneg i (by lia)];have hn:H s.heap.objs.size=none:=I.hok.fresh (cq _);refine⟨.ref s.heap.objs.size,_,?_,rfl,q _ hn⟩;refine I.laid (fun b o e=>dE _ e) (cq _) ⟨by simp only[tD,List.length_nil]; rw[uF]; decide,[.int (i / j) s.toks,.int (i % j) (s.toks + 1)],.cons ⟨_,rfl⟩ (.cons ⟨_,rfl⟩ .nil),?_⟩;exact⟨_,jN s.heap rfl,rfl,0,rfl⟩
end
structure xy (h:Heap) (x dx C:Addr) (mA:Str→Option Value):Prop where
 obj:h.get? x=some (PySem.W.instObj C dx)
 ns:h.Ns1 dx mA
 ne:dx≠x
theorem y1(n:h.Ns1 dx mA):∃ od,h.get? dx=some od∧∀ name,PySem.W.lookIn name od=some (mA name):=by
 obtain⟨o,es,ep,ho,hd,hk,_,hm⟩:=n;refine⟨o,ho,fun name=>?_⟩;have e:=hm name;unfold nsFind findBy at e;rw[← Array.find?_toList]at e;unfold PySem.W.lookIn;rw[hd];dsimp only;split
 ·rename_i y q;rw[q]at e;exact congrArg some e
 ·rename_i q;rw[q]at e;have a:es.toList.any (·.refKey)=false:=by
   rw[List.any_eq_false];intro y hy;obtain⟨z,t,hkey⟩:=hk y (Array.mem_toList_iff.mp hy);simp[DictEntry.refKey,hkey]
  have a':¬ es.toList.any (·.refKey)=true:=by rw[a]; exact gW
  rw[if_neg a'];exact congrArg some e
theorem xy.look{x:Addr}(I:xy h x dx C mA):∃ od,PySem.W.InstAt h x (PySem.W.instObj C dx) C (some od)∧∀ name,PySem.W.lookIn name od=some (mA name):=
 let ⟨od,ho,hl⟩:=y1 I.ns
 ⟨od,⟨I.obj,rfl,rfl,ho⟩,hl⟩
section
variable {K:aW}{x:Addr}{name:Str}
theorem get_map{expr:Bool}(X:K.In s.heap)(I:xy s.heap x dx C mA)(hg:PySem.W.plainGet K C name=true)(hh:PySem.W.hasDictIn K C=true)
  (ha:PySem.W.findIn K (.ref C) name=some none) (hv:mA name=some v) (hv':PySem.W.handedIn v=true) (h:Q v {s with toks:=s.toks + 1}) :
  wpAny (model prog w) A (getAttr (.ref x) name expr) Q E s:=by
 obtain⟨od,J,hl⟩:=I.look;exact PySem.W.get_value X J (PySem.W.plainGet_of hg).1 (PySem.W.findObj_own hh ha rfl (by rw[hl,hv])) hv' h
theorem AX{pl:Sem Bool}{Q:Value × List Value→Shared→Prop}(X:K.In s.heap)(I:xy s.heap x dx C mA)(hg:PySem.W.plainGet K C name=true)
  (hf:PySem.W.findIn K (.ref C) name=some (some (.ref f))) (ht:PySem.W.isFn K (.ref f)=true) (hv:mA name=none) (h:Q (.ref f,[.ref x]) s) :
  wpAny (model prog w) A (getMethod (.ref x) name pl) Q E s:=by
 obtain⟨od,J,hl⟩:=I.look;exact PySem.W.method_fn X J (PySem.W.plainGet_of hg).1 (PySem.W.plainGet_of hg).2 hf (beq_iff_eq.mp ht) (by show (PySem.W.lookIn name od).map (·.isSome)=some false; rw[hl,hv]; rfl) h
theorem Dm{ns:List Str}{Q:Unit→Shared→Prop}(X:K.In s.heap)(I:xy s.heap x dx C mA)
  (hs:PySem.W.findIn K (.ref C) "__setattr__" = some (some (.builtin "object.__setattr__"))) (hp:PySem.W.plainOver K C=true) (ht:PySem.W.takerIn K C name=some none) (hh:PySem.W.hasDictIn K C=true)
  (hw:PySem.Within mA ns) (hsz:ns.length≤sizeLine)
  (h:∀ h',xy h' x dx C (fun y=>if y=name then some v else mA y)→Heap.SameBut dx s.heap h'→Q () {s with heap:=h',toks:=s.toks + 2}) :
  wpAny (model prog w) A (setAttr (.ref x) name v) Q E s:=by
 obtain⟨od,J,hl⟩:=I.look;refine PySem.W.set_plain X J hs (PySem.W.osa_open (s:={ s with toks:=s.toks + 1 }) (r:=none) X J hp ht fun b=>?_);obtain⟨cd,hc,hd'⟩:=PySem.W.any_some hh;have hx:s.heap.get? x=some ⟨.ref C,some dx,.plain,#[]⟩:=I.obj;refine aQ (bH (aQ (aQ (wpAny_loadPart hx (aQ (PySem.W.Looks.here (s:={ s with toks:=s.toks + 1 }) (PySem.W.looks_clsIn X hc) ?_))))));rw[hd'];refine bH (a:=some dx) (aQ (bH (aQ ?_)));refine wpAny_nsSet1 (s:={ s with toks:=s.toks + 1 }) I.ns fun h' hn2 hs2=>?_
 obtain⟨oD,esD,epD,hoD,hdD,hcD⟩:=hn2.count (PySem.Within.cons name v hw);refine aQ (wpAny_lookBehind hoD (by rw[hdD]; exact pastItsLine_dict (vJ hcD (by rw[tD]; lia))) ?_);exact bH (h _ ⟨(hs2.2 _ (Ne.symm I.ne)).trans I.obj,hn2,I.ne⟩ hs2)
theorem Ao{R:Result→Shared→Prop}(X:K.In s.heap)(hm:PySem.W.makesIn K C=true)
  (hi:PySem.W.findIn K (.ref C) "__init__" = some (some (.ref f))) (hf:PySem.W.typeIn K (.ref f)=some (.type "function"))
  (h:codeAny (model prog w) (A.under (.builtin "type.__call__" ⟨.ref C::vs,kw⟩)) (.call (.ref f) ⟨.ref (s.heap.objs.size + 1)::vs,kw⟩) (PySem.W.InitBack (s.heap.objs.size + 1) R)
   {s with heap:=(s.heap.push PySem.W.emptyDict).push (PySem.W.instObj C s.heap.objs.size)}) :
  codeAny (model prog w) A (.call (.ref C) ⟨vs,kw⟩) R s:=by
 obtain⟨hh,g,d,t,os⟩:=s;exact PySem.W.make_core (PySem.W.makes_of X hm) (PySem.W.looks_findIn X hi) (fun self=>PySem.W.bind_fn X self hf) (.inl rfl) h
end
noncomputable def bL(f:Str)(v:V):List (Str × V)→List (Str × V)
 | []=>[(f,v)]
 | (g,x)::r=>if g=f then (g,v)::r else (g,x)::bL f v r
theorem lS(f g:Str)(v:V):∀ fs:List (Str × V),(bL f v fs).lookup g=if g=f then some v else fs.lookup g
 | []=>by
  show List.lookup g [(f,v)]=_;by_cases h:g=f
  ·have hb:(g == f)=true:=beq_iff_eq.mpr h;simp only[List.lookup,hb,if_pos h]
  ·have hb:(g == f)=false:=ET.mpr h;simp only[List.lookup,hb,if_neg h]
 | (k,x)::r=>by
  have ih:=lS f g v r;rw[show bL f v ((k,x)::r)=(if k=f then (k,v)::r else (k,x)::bL f v r) from rfl];by_cases hk:k=f
  ·rw[if_pos hk];by_cases h:g=k
   ·have hb:(g == k)=true:=beq_iff_eq.mpr h;simp only[List.lookup,hb,if_pos (h.trans hk)]
   ·have hb:(g == k)=false:=ET.mpr h;simp only[List.lookup,hb,if_neg (fun e:g=f=>h (e.trans hk.symm))]
  ·rw[if_neg hk];by_cases h:g=k
   ·have hb:(g == k)=true:=beq_iff_eq.mpr h;simp only[List.lookup,hb,if_neg (fun e:g=f=>hk (h.symm.trans e))]
   ·have hb:(g == k)=false:=ET.mpr h;simp only[List.lookup,hb];exact ih
theorem kZ(f:Str)(v:V):∀ fs:List (Str × V),f∈(bL f v fs).map (·.1)∧∀ g,g∈fs.map (·.1)→g∈(bL f v fs).map (·.1)
 | []=>⟨by simp[bL],fun g h=>by simp at h⟩
 | (k,x)::r=>by
  obtain⟨i1,i2⟩:=kZ f v r;rw[show bL f v ((k,x)::r)=(if k=f then (k,v)::r else (k,x)::bL f v r) from rfl];by_cases hk:k=f
  ·rw[if_pos hk];subst hk;exact⟨by simp,fun g h=>by simpa using h⟩
  ·rw[if_neg hk];refine⟨?_,fun g h=>?_⟩
   ·rw[mD];exact tu _ i1
   ·rw[mD]at h ⊢;rcases dO.mp h with e | e
    ·exact dO.mpr (.inl e)
    ·exact tu _ (i2 g e)
theorem mm(f:Str)(v:V):∀ fs:List (Str × V),(bL f v fs).length≤fs.length + 1
 | []=>by simp[bL]
 | (k,x)::r=>by
  have ih:=mm f v r;rw[show bL f v ((k,x)::r)=(if k=f then (k,v)::r else (k,x)::bL f v r) from rfl];by_cases hk:k=f
  ·rw[if_pos hk,tD,tD]; lia
  ·rw[if_neg hk,tD,tD]; lia
theorem gT.some_of{v:V}{o:Option Value}(r:gT (some v) o):∃ u,o=some u∧RelV v u:=by
 cases o with
 | none=>exact (show False from r).elim
 | some u=>exact⟨u,rfl,r⟩
theorem gT.none_of{o:Option Value}(r:gT none o):o=none:=by
 cases o with
 | none=>rfl
 | some u=>exact (show False from r).elim
theorem zj{v:V}(r:RelV v u):PySem.W.handedIn u=true:=by
 cases v with
 | non=>cases (show u=Value.none from r); rfl
 | bl b=>cases (show u=Value.bool b from r); rfl
 | int i=>obtain⟨t,e⟩:=(show ∃ t,u=Value.int i t from r); cases e; rfl
 | str x=>obtain⟨t,e⟩:=(show ∃ t,u=Value.str x t from r); cases e; rfl
 | byt b=>obtain⟨t,e⟩:=(show ∃ t,u=Value.bytes b t from r); cases e; rfl
 | flt b=>obtain⟨t,e⟩:=(show ∃ t,u=Value.float b t from r); cases e; rfl
 | ref a=>cases (show u=Value.ref a from r); rfl
 | ty n=>cases (show u=Value.type n from r); rfl
section
variable {fs fs':List (Str × V)}
theorem rT(hok:jh P w H h)(e:H a=some (.ins C dx fs)):∃ mA,xy h a dx C mA∧(∀ f,gT (fs.lookup f) (mA f))∧PySem.Within mA (fs.map (·.1))∧fs.length≤1000∧H dx=some (.own a):=by
 obtain⟨d,z,ne,ob,mA,n,r,q⟩:=(show cO P w H h a (.ins C dx fs) from hok a _ e)
 exact⟨mA,⟨ob,n,ne⟩,r,q,z,d⟩
end
structure vy (K:aW) (C:Addr):Prop where
 pg:PySem.W.plainGet K C Str.empty=true
 hd:PySem.W.hasDictIn K C=true
 po:PySem.W.plainOver K C=true
 sa:PySem.W.findIn K (.ref C) "__setattr__" = some (some (.builtin "object.__setattr__"))
theorem vy.get{K:aW}(c:vy K C)(f:Str):PySem.W.plainGet K C f=true:=c.pg
def dj(K:aW)(C:Addr)(f:Str):Prop:=PySem.W.findIn K (.ref C) f=some none
theorem dj.Ho{K:aW}{f:Str}(n:dj K C f):PySem.W.takerIn K C f=some none:=by
 unfold PySem.W.takerIn;rw[show PySem.W.findIn K (.ref C) f=some none from n];rfl
structure J3 (K:aW) (C:Addr) (f:Str) (v:V) (u:Value):Prop where
 at_:PySem.W.findIn K (.ref C) f=some (some u)
 rel:RelV v u
 get:PySem.W.specialIn K u "__get__" = some none
 cp:PySem.W.copiedNames.contains f=false
structure Meth (K:aW) (C:Addr) (m:Str) (f:Addr):Prop where
 at_:PySem.W.findIn K (.ref C) m=some (some (.ref f))
 fn:PySem.W.isFn K (.ref f)=true
 kp:PySem.W.keepIn K (.ref f)=true
section
variable {fs:List (Str × V)}{f:Str}{v:V}
theorem nE{b:Bool}(I:Inv X pins σ H s)(e:H a=some (.ins C dx fs))(c:vy X.K C)(n:dj X.K C f)(l:fs.lookup f=some v)
  (h:∀ u s',Inv X pins σ H s'→RelV v u→Q u s'):wpAny (model X.prog X.w) A (getAttr (.ref a) f b) Q E s:=by
 obtain⟨mA,O,r,_,_,_⟩:=rT I.hok e;obtain⟨u,hu,ru⟩:=gT.some_of (v:=v) (o:=mA f) (by rw[← l]; exact r f);exact get_map I.wV O (c.get f) c.hd n hu (zj ru) (h u _ (I.tok _) ru)
theorem jF{g:Addr}{pl:Sem Bool}{Q:Value × List Value→Shared→Prop}(I:Inv X pins σ H s)(e:H a=some (.ins C dx fs))(c:vy X.K C)(k:Meth X.K C m g)(l:fs.lookup m=none)
  (h:Q (.ref g,[.ref a]) s):wpAny (model X.prog X.w) A (getMethod (.ref a) m pl) Q E s:=by
 obtain⟨mA,O,r,_,_,_⟩:=rT I.hok e;have hn:mA m=none:=gT.none_of (by rw[← l]; exact r m);exact AX I.wV O (c.get m) k.at_ k.fn hn h
theorem oS{y:V}{Q:Unit→Shared→Prop}(I:Inv X pins σ H s)(e:H a=some (.ins C dx fs))(c:vy X.K C)(n:dj X.K C f)(hl:fs.length < 1000)(ry:RelV y u)
  (h:∀ s',Inv X pins σ (upd H a (.ins C dx (bL f y fs))) s'→Q () s'):wpAny (model X.prog X.w) A (setAttr (.ref a) f u) Q E s:=by
 obtain⟨mA,O,r,wi,_,ho⟩:=rT I.hok e;have hz:(fs.map (·.1)).length≤sizeLine:=by rw[cU,uF]; lia
 refine Dm I.wV O c.sa c.po n.Ho c.hd wi hz fun h' O' sb=>h _ ?_
 have hd:∃ o,h'.get? dx=some o:=let ⟨o,_,_,e',_⟩:=O'.ns; ⟨o,e'⟩
 refine I.write (x:=a) (e:=dx) (by rw[e]; exact True.intro) (.inr ho) (fun b q hb z=>(sb.2 b hb).trans z) hd ?_;refine⟨by rw[aq O.ne]; exact ho,?_,O.ne,O'.obj,_,O'.ns,fun g=>?_,fun g hg=>?_⟩
 ·have:=mm f y fs; lia
 ·show gT ((bL f y fs).lookup g) (if g=f then some u else mA g);rw[lS];by_cases q:g=f
  ·rw[if_pos q,if_pos q]; exact ry
  ·rw[if_neg q,if_neg q]; exact r g
 ·by_cases q:g=f
  ·rw[q]; exact (kZ f y fs).1
  ·refine (kZ f y fs).2 g (wi g fun z=>hg ?_);show (if g=f then some u else mA g)=none;rw[if_neg q]; exact z
theorem Inv.made(I:Inv X pins σ H s):Inv X pins σ (upd (upd H s.heap.objs.size (.own (s.heap.objs.size + 1))) (s.heap.objs.size + 1) (.ins C s.heap.objs.size []))
  { s with heap:=(s.heap.push PySem.W.emptyDict).push (PySem.W.instObj C s.heap.objs.size) }:=by
 have e1:(s.heap.push PySem.W.emptyDict).get? s.heap.objs.size=some PySem.W.emptyDict:=jN s.heap rfl;have e2:((s.heap.push PySem.W.emptyDict).push (PySem.W.instObj C s.heap.objs.size)).get? (s.heap.objs.size + 1)=some (PySem.W.instObj C s.heap.objs.size):=by
  have:=jN (s.heap.push PySem.W.emptyDict) (o:=PySem.W.instObj C s.heap.objs.size) rfl
  rwa [Ck]at this
 have e3:(s.heap.push PySem.W.emptyDict).Ns s.heap.objs.size (fun _=>none):=⟨PySem.W.emptyDict,#[],_,e1,rfl,(fun e he=>absurd he (by simp)),fun _=>rfl⟩
 have I1:=I.laid (a:=s.heap.objs.size) (o:=.own (s.heap.objs.size + 1)) (h':=s.heap.push PySem.W.emptyDict) (t':=s.toks) (fun b u q=>dE _ q) (cq _) ⟨_,e1⟩;refine I1.laid (a:=s.heap.objs.size + 1) (o:=.ins C s.heap.objs.size []) (t':=s.toks) (fun b u q=>dE _ q) (Nat.le_of_eq (Ck _ _)) ?_;have ne:s.heap.objs.size≠s.heap.objs.size + 1:=eR (Nat.lt_succ_self _);refine⟨by rw[aq ne,af],fE _,ne,e2,fun _=>none,(Heap.Ns1.of_empty e3).at fun o q=>dE _ q,fun _=>True.intro,fun y hy=>absurd rfl hy⟩
theorem C5{env:Env}{f:Str}(hb:attributeBase e f env (eval e env)=eval e env)
  (h:wpAny (model prog w) A (eval e env) (fun o s₁=>wpAny (model prog w) A (getAttr o f true) Q E s₁) E s):wpAny (model prog w) A (eval (.Attribute e f pos) env) Q E s:=
 Attribute_any_ h (by rw[arm_eval_Attribute,hb])
end
def Jf(X:Cx)(op:Operator)(rd:V→V→Hp→VK→Prop):Prop:=
 ∀ (pins:List (Addr × Obj)) (s:Shared) (σ:St) (H:Hp) (x y:V) (u v:Value) (Q:VK),Inv X pins σ H s→RelV x u→RelV y v→rd x y H Q→wpAny (model X.prog X.w) X.A (inplaceOp op u v) (EP X pins σ Q) X.xe s
section
variable {o value:Expr}{f:Str}{tpos:Pos}{tv:TE}
theorem Ep{pl:Sem Bool}{args:List Expr}(he:PE X e te)(I:Inv X pins σ H s)
  (h:te σ H fun x H1=>∃ a C dx fs g,x=.ref a∧H1 a=some (.ins C dx fs)∧vy X.K C∧Meth X.K C m g∧fs.lookup m=none∧
   ∀ s1,Inv X pins σ H1 s1→wpAny (model X.prog X.w) X.A (callWith pos (.ref g) [.ref a] (backTo pos (starEach args X.env)) (backToKw pos (keywordEach [] X.env))) Q X.xe s1)
  (ht:eval (.Call (.Attribute e m apos) args [] pos) X.env=(do
   let ov ← eval e X.env
   standAt apos.atName
   let (f,first) ← holding [ov] (getMethod ov m pl)
   callWith pos f first (backTo pos (starEach args X.env)) (backToKw pos (keywordEach [] X.env)))) :
  wpAny (model X.prog X.w) X.A (eval (.Call (.Attribute e m apos) args [] pos) X.env) Q X.xe s:=by
 refine PySem.W.methodCall_KW (pl:=pl) (bW (he pins s σ H _ I h) fun u s1 hpat=>?_) ht;obtain⟨x,H1,I1,rx,a,C,dx,fs,g,ex,ea,c,k,l,q⟩:=hpat;subst ex;obtain rfl:u=Value.ref a:=rx;exact jF I1 ea c k l (q s1 I1)
end
section
variable {c:Value}{b:Bool}
inductive lI (K:aW) (H:Hp):V→Value→Prop where
 | non:lI K H .non (.type "NoneType")
 | bl (x:Bool):lI K H (.bl x) (.type "bool")
 | int (i:Int):lI K H (.int i) (.type "int")
 | str (x:Str):lI K H (.str x) (.type "str")
 | flt (x:UInt64):lI K H (.flt x) (.type "float")
 | lst {a:Addr} {xs:List V} (e:H a=some (.lst xs)):lI K H (.ref a) (.type "list")
 | frz {a:Addr} {o:Obj} {xs:List V} (e:H a=some (.frz o (.lst xs))):lI K H (.ref a) (.type "list")
 | tup {a:Addr} {xs:List V} (e:H a=some (.tup xs)):lI K H (.ref a) (.type "tuple")
 | dK {a:Addr} {kvs:List (Key × V)} (e:H a=some (.dK kvs)):lI K H (.ref a) (.type "dict")
 | dT {a:Addr} {kvs:List (List Key × V)} (e:H a=some (.dT kvs)):lI K H (.ref a) (.type "dict")
 | dZ {a:Addr} {zs:List (Addr × List Key)} {kvs:List (List Key × V)} (e:H a=some (.dZ zs kvs)):lI K H (.ref a) (.type "dict")
 | dN {a:Addr} {zs:List (Addr × List D)} {kvs:List (List D × V)} (e:H a=some (.dN zs kvs)):lI K H (.ref a) (.type "dict")
 | ins {a C dx:Addr} {fs:List (Str × V)} (e:H a=some (.ins C dx fs)) (cl:vy K C) (ha:PySem.W.findIn K (.ref C) "__class__" = some (some (.builtin "object.__class__")))
   (hn:PySem.W.specialIn K (.builtin "object.__class__") "__get__" = some (some (.builtin "getset_descriptor.__get__"))) (htk:PySem.W.takesIn K (.builtin "object.__class__")=some true)
   (hm:PySem.W.mroIn K C (.type "object")=some true):lI K H (.ref a) (.ref C)
end
structure dX (k:Nat) (A:Around):Prop where
 hd:A.handled=none
 dp:A.depth + 3 * k + 5 < recursionLimit
 un:A.units + 16 * k + 200 < cLine
 gd:A.guards=some []
theorem dX.mono{k:Nat}(r:dX k A)(h:j≤k):dX j A:=⟨r.hd,by have:=r.dp; lia,by have:=r.un; lia,r.gd⟩
theorem dX.deeper{k:Nat}(r:dX (k + 1) A)(env:Env):dX k (A.deeper env):=
 ⟨r.hd,by have:=r.dp; show A.depth + 1 + 3 * k + 5 < _; lia,by have:=r.un; show A.units + 3 + 16 * k + 200 < _; lia,r.gd⟩
theorem wu:(A.under (.builtin "type.__call__" ⟨.ref C::us,kw⟩)).depth=A.depth + 1:=by
 first | rfl | simp[Around.under,Code.weight,Code.isCreation,Code.isGuard,Code.isCaller,Code.frames,Code.isFrame,guardIds]
theorem xf:(A.under (.builtin "type.__call__" ⟨.ref C::us,kw⟩)).units=A.units + 1:=by
 first | rfl | simp[Around.under,Code.cUnits,Code.frames,Code.isFrame]
theorem uW:(A.under (.builtin "type.__call__" ⟨.ref C::us,kw⟩)).guards=A.guards:=by
 unfold Around.under;dsimp only;rw[pushGuards_eq];have:(Code.builtin "type.__call__" ⟨.ref C::us,kw⟩).guards=[]:=by
  unfold Code.guards;have e:(Code.builtin "type.__call__" ⟨.ref C::us,kw⟩).isGuard=false:=by
   show guardIds.contains "type.__call__" = false;decide +kernel
  rw[e]; rfl
 rw[this];cases A.guards <;> simp
theorem dX.make{k:Nat}(r:dX (k + 1) A)(C:Addr)(us:List Value)(kw:List (Str × Value)):dX k (A.under (.builtin "type.__call__" ⟨.ref C::us,kw⟩)):=
 ⟨r.hd,by have:=r.dp; rw[wu]; lia,by have:=r.un; rw[xf]; lia,by rw[uW]; exact r.gd⟩
theorem dX.depth{k:Nat}(r:dX k A):A.depth < recursionLimit:=by have:=r.dp; lia
theorem dX.units{k:Nat}(r:dX k A):A.units + 64 < cLine:=by have:=r.un; lia
def BR:TA:=fun _ H Q=>Q [] H
def Ht(ta:TE)(tr:TA):TA:=fun σ H Q=>ta σ H fun x H1=>tr σ H1 fun xs H2=>Q (x::xs) H2
theorem ae:PA X [] BR:=fun _ _ _ _ H Q I h=>Calls.spliced_nil ⟨[],H,I,.nil,h⟩
theorem aa(ha:PE X e te)(hr:PA X es t)(hs:autoParam (starEach (e::es) X.env=(false,eval e X.env)::starEach es X.env) q_1):PA X (e::es) (Ht te t):=by
 intro pos pins s σ H Q I h;rw[hs];show wpAny _ _ (spliced ((false,eval e X.env)::backTo pos (starEach es X.env))) _ _ s;refine Calls.spliced_cons (bW (ha pins s σ H _ I h) fun u s1 hpat=>?_);obtain⟨x,H1,I1,r1,q1⟩:=hpat;exact bW (hr pos pins s1 σ H1 _ I1 q1) fun us s2 hp2=>by obtain⟨xs,H2,I2,r2,q2⟩:=hp2; exact⟨x::xs,H2,I2,.cons r1 r2,q2⟩
def IC(t:TA):TE:=fun σ H Q=>t σ H fun xs H1=>xs.length≤sizeLine∧∀ p,H1 p=none→Q (.ref p) (upd H1 p (.tup xs))
def Iq(t:TA):TE:=fun σ H Q=>t σ H fun xs H1=>xs.length≤sizeLine∧∀ p,H1 p=none→Q (.ref p) (upd H1 p (.lst xs))
theorem aY{x1}(h:PA X es t):PE X (.Tuple es x1 pos) (IC t):=by
 intro pins s σ H Q I hq;refine wpAny_Tuple_spliced (bW (h pos pins s σ H _ I hq) fun us s1 ⟨xs,H1,I1,r,z,q⟩=>⟨by rw[← r.length]; exact z,?_⟩);have hf:H1 s1.heap.objs.size=none:=I1.hok.fresh (cq _);refine⟨.ref s1.heap.objs.size,upd H1 s1.heap.objs.size (.tup xs),I1.laid (t':=s1.toks) (fun b u e=>dE _ e) (cq _) ?_,rfl,q _ hf⟩;exact⟨z,us,r,⟨_,jN _ rfl,rfl,_,rfl⟩⟩
theorem bo(h:PA X es t):PE X (.List es pos) (Iq t):=by
 intro pins s σ H Q I hq;refine wpAny_List_spliced (bW (h pos pins s σ H _ I hq) fun us s1 ⟨xs,H1,I1,r,z,q⟩=>⟨by rw[← r.length]; exact z,?_⟩);have hf:H1 s1.heap.objs.size=none:=I1.hok.fresh (cq _);refine⟨.ref s1.heap.objs.size,upd H1 s1.heap.objs.size (.lst xs),I1.laid (t':=s1.toks) (fun b u e=>dE _ e) (cq _) ?_,rfl,q _ hf⟩;exact⟨z,us,0,r,jN _ rfl⟩
abbrev Sp:=List V→Hp→VK→XK→Prop
abbrev El:=List Env→Hp→Shared→XK→Value→Shared→Prop
structure wt (P:Program) (w:World) (K:aW) (mg:Str→Option Value) (base:Heap) (A:Around) (outer:List Env) (s:Shared) (H:Hp):Prop where
 frames:A.frames=some outer
 mod:Mod K mg base
 bs:∀ b o,base.get? b=some o→s.heap.get? b=some o∧H b=none
 bsz:base.objs.size≤s.heap.objs.size
 kR:s.heap.FunFrames base outer
 frf:∀ b∈xB outer,H b=none
 hok:jh P w H s.heap
 bare:AllBare s.gens
def CE(outer:List Env)(P:Program)(w:World)(H:Hp)(s:Shared)(Q:VK)(u:Value)(s':Shared):Prop:=
 ∃ v H',s'.os=s.os∧AllBare s'.gens∧Un (xB outer) [] H H' s.heap s'.heap∧jh P w H' s'.heap∧RelV v u∧Q v H'
def CR(CX:El)(outer:List Env)(P:Program)(w:World)(H:Hp)(s:Shared)(Q:VK)(E:XK)(r:Result)(s':Shared):Prop:=
 match r with
 | .ok (.ret u)=>CE outer P w H s Q u s'
 | .ok _=>False
 | .error e=>CX outer H s E e s'
structure bg (P:Program) (w:World) (K:aW) (mg:Str→Option Value) (base:Heap) (CX:El) (k:Nat) (f:Addr) (fd:sE) (ps:List Str) (sp:Sp):Prop where
 len:∀ vs H Q E,sp vs H Q E→vs.length=ps.length
 run:∀ (A:Around) (outer:List Env) (s:Shared) (H:Hp) (args:Args) (us:List Value) (vs:List V) (Q:VK) (E:XK),dX k A→wt P w K mg base A outer s H→BindsTo s fd args (ps.zip us)→Vals vs us→sp vs H Q E→
  codeAny (model P w) A (.call (.ref f) args) (CR CX outer P w H s Q E) s
theorem bg.mono{K:aW}{mg:Str→Option Value}{k:Nat}{fd:sE}(F:bg P w K mg base CX j f fd ps sp)(h:j≤k) :
  bg P w K mg base CX k f fd ps sp:=⟨F.len,fun A outer s H args us vs Q E hr=>F.run A outer s H args us vs Q E (hr.mono h)⟩
theorem wt.make{K:aW}{mg:Str→Option Value}(e:wt P w K mg base A outer s H)(C:Addr)(us:List Value)(kw:List (Str × Value)) :
  wt P w K mg base (A.under (.builtin "type.__call__" ⟨.ref C::us,kw⟩)) outer s H:=⟨by first | exact e.frames | (simpa[Around.under,Code.envs,Code.isFrame,pushEnvs] using e.frames),e.mod,e.bs,e.bsz,e.kR,e.frf,e.hok,e.bare⟩
theorem Inv.Gd(I:Inv X pins σ H s):wt X.prog X.w X.K X.mg X.base X.A X.stack s H:=
 ⟨I.ok.frames,I.ok.mod,I.bs,vJ I.ok.bsz I.sz,I.stack,I.yF,I.hok,I.bare⟩
theorem Inv.after{Q:VK}(I:Inv X pins σ H s)(h:CE X.stack X.prog X.w H s Q u s'):EP X pins σ Q u s':=by
 obtain⟨v,H',os,bare,un,hok,r,q⟩:=h;obtain⟨hh,g,d,t,os'⟩:=s';obtain rfl:os'=s.os:=os;exact⟨v,H',I.call (h':=hh) (g':=g) (d':=d) (t':=t) (ch:=[]) un hok bare (fun b z=>absurd z (by simp)),r,q⟩
def BW(sp:Sp)(dvs:List V)(E:XK)(t:TA):TE:=fun σ H Q=>t σ H fun vs H1=>sp (vs++dvs) H1 Q E
def qw(C:Addr)(m:Str)(sp:Sp)(dvs:List V)(E:XK)(ta:TE)(t:TA):TE:=fun σ H Q=>ta σ H fun x H1=>aw Q (fun a Q=>aw Q (fun dx Q=>aw Q (fun fs Q=>x=.ref a∧H1 a=some (.ins C dx fs)∧fs.lookup m=none∧
 t σ H1 fun vs H2=>sp (x::(vs++dvs)) H2 Q E)))
def BH(C:Addr)(sp:Sp)(dvs:List V)(E:XK)(t:TA):TE:=fun σ H Q=>t σ H fun vs H1=>∀ x dx,H1 x=none→H1 dx=none→dx≠x→
 sp (.ref x::(vs++dvs)) (upd (upd H1 dx (.own x)) x (.ins C dx [])) (fun v H2=>v=.non∧Q (.ref x) H2) E
def Binds(K:aW)(fd:sE)(ps:List Str)(ds:List Value):Prop:=
 ∀ (s:Shared) (us:List Value),K.In s.heap→(us++ds).length=ps.length→BindsTo s fd ⟨us,[]⟩ (ps.zip (us++ds))
theorem Binds.all{K:aW}{fd:sE}(h:∀ us:List Value,us.length=ps.length→bindArgs fd ⟨us,[]⟩=pure (ps.zip us)):Binds K fd ps []:=fun s us _ hl=>by
 rw[xE]at hl ⊢;exact .of_eq (h us hl)
def Passes(CX:El)(X:Cx)(E:XK):Prop:=∀ (pins:List (Addr × Obj)) (σ:St) (H:Hp) (s:Shared) (e:Value) (s':Shared),Inv X pins σ H s→CX X.stack H s E e s'→X.xe e s'
section
variable {k:Nat}{fd:sE}{dvs:List V}{ds:List Value}{E:XK}{o:Expr}
theorem wz{Q:VK}{vs:List V}(F:bg X.prog X.w X.K X.mg X.base CX k f fd ps sp)(hr:dX k X.A)(hb:Binds X.K fd ps ds)(hd:Vals dvs ds)(hx:Passes CX X E)
  (I:Inv X pins σ H s) (r:Vals vs us) (h:sp (vs++dvs) H Q E):wpAny (model X.prog X.w) X.A (call (.ref f) us) (EP X pins σ Q) X.xe s:=by
 have r2:Vals (vs++dvs) (us++ds):=r.append hd;have hl:(us++ds).length=ps.length:=by rw[← r2.length]; exact F.len _ _ _ _ h
 refine wpAny_call (codeAny_mono (F.run X.A X.stack s H ⟨us,[]⟩ (us++ds) (vs++dvs) Q E hr I.Gd (hb s us I.wV hl) r2 h) fun r s' hq=>?_);cases r with
 | error e=>exact hx pins σ H s e s' I hq
 | ok fl=>
  cases fl with
  | ret u=>exact I.after hq
  | next=>exact False.elim hq
  | brk=>exact False.elim hq
  | cont=>exact False.elim hq
theorem DU(F:bg X.prog X.w X.K X.mg X.base CX k f fd ps sp)(hr:dX k X.A)(hg:Gl X x)(hm:X.mg x=some (.ref f))(hk:PySem.W.keepIn X.K (.ref f)=true)(hb:Binds X.K fd ps ds)(hd:Vals dvs ds)(hx:Passes CX X E)
  (ha:PA X (e::es) t) (hdb:autoParam ((x == ("__debug__":Str))=false) q_2) (he:autoParam (starEach (e::es) X.env=(false,eval e X.env)::starEach es X.env) q_1) (hpl:autoParam ((backTo pos (starEach es X.env)).any (·.1)=false) q_1) :
  PE X (.Call (.Name x p) (e::es) [] pos) (BW sp dvs E t):=by
 intro pins s σ H Q I h;refine EA (sN I hg hm ?_ hdb);refine PySem.W.callWith_K (h₀:=X.base) I.ok.mod.kin hk (bW (ha pos pins s σ H _ I h) fun us s1 hpat=>?_) he hpl;obtain⟨vs,H1,I1,r,q⟩:=hpat;refine⟨I1.wV,?_⟩;exact wz F hr hb hd hx I1 r q
theorem De{pl:Sem Bool}(he:PE X o ta)(c:vy X.K C)(hm:Meth X.K C m f)(F:bg X.prog X.w X.K X.mg X.base CX k f fd ps sp)(hr:dX k X.A)(hb:Binds X.K fd ps ds)(hd:Vals dvs ds)(hx:Passes CX X E)(ha:PA X (e::es) t)
  (hst:autoParam (starEach (e::es) X.env=(false,eval e X.env)::starEach es X.env) q_1) (hpl:autoParam ((backTo pos (starEach es X.env)).any (·.1)=false) q_1)
  (ht:eval (.Call (.Attribute o m apos) (e::es) [] pos) X.env=(do
   let ov ← eval o X.env
   standAt apos.atName
   let (f,first) ← holding [ov] (getMethod ov m pl)
   callWith pos f first (backTo pos (starEach (e::es) X.env)) (backToKw pos (keywordEach [] X.env))):=by rfl) :
  PE X (.Call (.Attribute o m apos) (e::es) [] pos) (qw C m sp dvs E ta t):=by
 intro pins s σ H Q I h;refine PySem.W.methodCall_KW (pl:=pl) (bW (he pins s σ H _ I h) fun u s1 hpat=>?_) ht;obtain⟨x,H1,I1,rx,a,dx,fs,ex,ea,l,q⟩:=hpat;subst ex;obtain rfl:u=Value.ref a:=rx;refine jF I1 ea c hm l ?_;refine PySem.W.callWith_K (first:=[.ref a]) (h₀:=X.base) I.ok.mod.kin hm.kp (bW (ha pos pins s1 σ H1 _ I1 q) fun us s2 hpat=>?_) hst hpl;obtain⟨vs,H2,I2,r,q2⟩:=hpat;refine⟨I2.wV,?_⟩;exact wz (us:=.ref a::us) (vs:=.ref a::vs) F hr hb hd hx I2 (.cons rfl r) q2
theorem BG{pl:Sem Bool}(he:PE X o ta)(c:vy X.K C)(hm:Meth X.K C m f)(F:bg X.prog X.w X.K X.mg X.base CX k f fd ps sp)(hr:dX k X.A)(hb:Binds X.K fd ps ds)(hd:Vals dvs ds)(hx:Passes CX X E)
  (ht:eval (.Call (.Attribute o m apos) [] [] pos) X.env=(do
   let ov ← eval o X.env
   standAt apos.atName
   let (f,first) ← holding [ov] (getMethod ov m pl)
   callWith pos f first (backTo pos (starEach [] X.env)) (backToKw pos (keywordEach [] X.env))):=by rfl) :
  PE X (.Call (.Attribute o m apos) [] [] pos) (qw C m sp dvs E ta BR):=by
 intro pins s σ H Q I h;refine PySem.W.methodCall_KW (pl:=pl) (bW (he pins s σ H _ I h) fun u s1 hpat=>?_) ht;obtain⟨x,H1,I1,rx,a,dx,fs,ex,ea,l,q⟩:=hpat;subst ex;obtain rfl:u=Value.ref a:=rx;refine jF I1 ea c hm l ?_;exact PySem.W.callWith_K0 (first:=[.ref a]) I1.wV hm.kp (wz (us:=[.ref a]) (vs:=[.ref a]) F hr hb hd hx I1 (.cons rfl .nil) q)
structure Mk (K:aW) (C f:Addr):Prop where
 makes:PySem.W.makesIn K C=true
 init:PySem.W.findIn K (.ref C) "__init__" = some (some (.ref f))
 fn:PySem.W.isFn K (.ref f)=true
 kp:PySem.W.keepIn K (.ref C)=true
theorem B6{Q:VK}{vs:List V}(M:Mk X.K C f)(F:bg X.prog X.w X.K X.mg X.base CX k f fd ps sp)(hr:dX (k + 1) X.A)(hb:Binds X.K fd ps ds)(hd:Vals dvs ds)
  (hx:Passes CX X E) (I:Inv X pins σ H s) (r:Vals vs us)
  (h:∀ x dx,H x=none→H dx=none→dx≠x→sp (.ref x::(vs++dvs)) (upd (upd H dx (.own x)) x (.ins C dx [])) (fun v H2=>v=.non∧Q (.ref x) H2) E) :
  wpAny (model X.prog X.w) X.A (call (.ref C) us) (EP X pins σ Q) X.xe s:=by
 have hq:=h (s.heap.objs.size + 1) s.heap.objs.size (I.hok.fresh (zH _)) (I.hok.fresh (cq _)) (eR (Nat.lt_succ_self _));have I2:=Inv.made (C:=C) I;have r2:Vals (V.ref (s.heap.objs.size + 1)::(vs++dvs)) (Value.ref (s.heap.objs.size + 1)::(us++ds)):=.cons rfl (r.append hd);have hl:(Value.ref (s.heap.objs.size + 1)::us++ds).length=ps.length:=by
  have e:=r2.length;rw[F.len _ _ _ _ hq]at e;exact e.symm
 refine wpAny_call (Ao (f:=f) I.wV M.makes M.init (beq_iff_eq.mp M.fn) (codeAny_mono (F.run _ X.stack _ _ ⟨Value.ref (s.heap.objs.size + 1)::us,[]⟩ (Value.ref (s.heap.objs.size + 1)::(us++ds)) _ _ E (hr.make C us [])
  (I2.Gd.make C us []) (hb _ (Value.ref (s.heap.objs.size + 1)::us) I2.wV hl) r2 hq) fun r s' hq'=>?_))
 cases r with
 | error e=>exact hx pins σ _ _ e s' I2 hq'
 | ok fl=>
  cases fl with
  | ret u=>
   obtain⟨v,H',I3,rv,ev,q3⟩:=I2.after hq';subst ev;exact⟨rv,⟨V.ref (s.heap.objs.size + 1),H',I3,rfl,q3⟩⟩
  | next=>exact False.elim hq'
  | brk=>exact False.elim hq'
  | cont=>exact False.elim hq'
theorem DX(M:Mk X.K C f)(F:bg X.prog X.w X.K X.mg X.base CX k f fd ps sp)(hr:dX (k + 1) X.A)(hg:Gl X x)(hm:X.mg x=some (.ref C))(hb:Binds X.K fd ps ds)(hd:Vals dvs ds)(hx:Passes CX X E)
  (ha:PA X (e::es) t) (hdb:autoParam ((x == ("__debug__":Str))=false) q_2) (he:autoParam (starEach (e::es) X.env=(false,eval e X.env)::starEach es X.env) q_1) (hpl:autoParam ((backTo pos (starEach es X.env)).any (·.1)=false) q_1) :
  PE X (.Call (.Name x p) (e::es) [] pos) (BH C sp dvs E t):=by
 intro pins s σ H Q I h;refine EA (sN I hg hm ?_ hdb);refine PySem.W.callWith_K (h₀:=X.base) I.ok.mod.kin M.kp (bW (ha pos pins s σ H _ I h) fun us s1 hpat=>?_) he hpl;obtain⟨vs,H1,I1,r,q⟩:=hpat;refine⟨I1.wV,?_⟩;exact B6 M F hr hb hd hx I1 r q
end
section
variable {k:Nat}{fd:sE}{ks:List Str}{E:XK}{kpos:Pos}{o:Expr}{kws:List Keyword}{tk:TA}{nm:Option Str}
structure Jh (K:aW) (fd:sE) (ps ks:List Str) (g:List Value→List Value→List Value) (gV:List V→List V→List V):Prop where
 to:∀ (s:Shared) (us ws:List Value),K.In s.heap→(g us ws).length=ps.length→BindsTo s fd ⟨us,ks.zip ws⟩ (ps.zip (g us ws))
 rel:∀ {vs:List V} {us:List Value} {zs:List V} {ws:List Value},Vals vs us→Vals zs ws→Vals (gV vs zs) (g us ws)
variable {g:List Value→List Value→List Value}{gV:List V→List V→List V}
end
structure aF (N P:List Str) (sc:Scope):Prop where
 kind:sc.kind=.function
 co:sc.isCoroutine=false
 gen:sc.isGenerator=false
 nd:N.Nodup
 pre:N.take P.length=P
 par:∀ x∈P,sc.names.lookup x=some .local∨sc.names.lookup x=some .cell
 nofree:∀ y∈sc.names,y.2≠.free
theorem pZ{kindOf:Str→Option NameKind}{x:Str}:∀ {binds:List (Str × Value)} {m:Str→Option Value},(∀ v,(x,v)∉binds)→bindL kindOf binds m x=m x
 | [],_,_=>rfl
 | (n,v)::r,m,h=>by
  unfold bindL;rw[pZ fun w hw=>h w (tu _ hw)];split
  ·have:x≠n:=by rintro rfl; exact h v oE
   simp[this]
  ·rfl
theorem rj{kindOf:Str→Option NameKind}{x:Str}:∀ {binds:List (Str × Value)} {m:Str→Option Value},(∀ v,(x,v)∉binds)→bindC kindOf binds m x=m x
 | [],_,_=>rfl
 | (n,v)::r,m,h=>by
  unfold bindC;rw[rj fun w hw=>h w (tu _ hw)];split
  ·rfl
  ·have:x≠n:=by rintro rfl; exact h v oE
   simp[this]
theorem rb{kindOf:Str→Option NameKind}{x:Str}{v:Value}:∀ {P:List Str} {vs:List Value} {i:Nat} {m:Str→Option Value},P.Nodup→P[i]?=some x→vs[i]?=some v→kindOf x=some .local→
  bindL kindOf (P.zip vs) m x=some v
 | [],_,_,_,_,h,_,_=>by simp at h
 | _::_,[],_,_,_,_,h,_=>by simp at h
 | p::P,w::vs,0,m,nd,h1,h2,hk=>by
  simp at h1 h2; subst h1; subst h2;show bindL kindOf ((p,w)::P.zip vs) m p=_;unfold bindL;rw[pZ fun v hv=>(vx.mp nd).1 (List.of_mem_zip hv).1,if_pos hk];simp
 | p::P,w::vs,i + 1,m,nd,h1,h2,hk=>by
  show bindL kindOf ((p,w)::P.zip vs) m x=_;unfold bindL;exact rb (i:=i) (vx.mp nd).2 (by simpa using h1) (by simpa using h2) hk
theorem p7{kindOf:Str→Option NameKind}{x:Str}{v:Value}:∀ {P:List Str} {vs:List Value} {i:Nat} {m:Str→Option Value},P.Nodup→P[i]?=some x→vs[i]?=some v→kindOf x≠some .local→
  bindC kindOf (P.zip vs) m x=some v
 | [],_,_,_,_,h,_,_=>by simp at h
 | _::_,[],_,_,_,_,h,_=>by simp at h
 | p::P,w::vs,0,m,nd,h1,h2,hk=>by
  simp at h1 h2; subst h1; subst h2;show bindC kindOf ((p,w)::P.zip vs) m p=_;unfold bindC;rw[rj fun v hv=>(vx.mp nd).1 (List.of_mem_zip hv).1,if_neg hk];simp
 | p::P,w::vs,i + 1,m,nd,h1,h2,hk=>by
  show bindC kindOf ((p,w)::P.zip vs) m x=_;unfold bindC;exact p7 (i:=i) (vx.mp nd).2 (by simpa using h1) (by simpa using h2) hk
noncomputable def start(N:List Str)(vs:List V):St:=vs.map some++List.replicate (N.length - vs.length) none
noncomputable def zC(CX:El)(P:Program)(w:World)(K:aW)(mg:Str→Option Value)(base:Heap)(N:List Str)(qual:Str)(scope:Scope)(f:Addr)(cd:Value)(A:Around)(outer:List Env)(s:Shared)(H:Hp)(E:XK):Cx where
 prog:=P
 w:=w
 K:=K
 mg:=mg
 base:=base
 A:=A.deeper (envOfC qual scope s.heap.objs.size f cd)
 N:=N
 s₀:=s
 H₀:=H
 env:=envOfC qual scope s.heap.objs.size f cd
 outer:=outer
 stack:=envOfC qual scope s.heap.objs.size f cd::outer
 ex:=[]
 calm:=true
 fn:=fun _=>true
 pn:=[]
 xe:=fun e s'=>wpAny (model P w) (A.deeper (envOfC qual scope s.heap.objs.size f cd)) (leaving (envOfC qual scope s.heap.objs.size f cd) e) (fun _ s''=>CX outer H s E e s'') (fun e' s''=>CX outer H s E e' s'') s'
theorem uk{sc:Scope}(h:sc.names.lookup x=some .cell):∃ c,(cellsFrom n sc.names []).lookup x=some c:=by
 have q:=PySem.W.cellsFrom_some sc.names n [] (.inl h);exact Option.isSome_iff_exists.mp q
theorem zf{K:aW}{mg:Str→Option Value}{cd:Value}{s1:Shared}{E:XK}{vs:List V}
  (S:aF N ps scope) (hd:A.handled=none) (e0:wt P w K mg base A outer s H) (hl:vs.length=ps.length) (r:Vals vs us)
  (x:InCallC s s.heap.objs.size (bindL (envOfC qual scope s.heap.objs.size f cd).kindOf (ps.zip us) fun _=>none) (cellsFrom (s.heap.objs.size + 1) scope.names []) (bindC (envOfC qual scope s.heap.objs.size f cd).kindOf (ps.zip us) fun _=>none) s1) :
  Inv (zC CX P w K mg base N qual scope f cd A outer s H E) [] (start N vs) H s1:=by
 have hpl:ps.length≤N.length:=by have:=congrArg List.length S.pre; rw[qy]at this; lia
 obtain⟨h1,tk,rfl,hk⟩:=x.done;have noA:∀ b:Addr,b∉(zC CX P w K mg base N qual scope f cd A outer s H E).ex:=fun b z=>absurd (show b∈([]:List Addr) from z) (by simp)
 refine⟨⟨e0.mod,S.kind,rfl,rfl,cq _,fun y z c h1 h2=>?_,fun y hy=>?_,fun y c _ h=>?_,fun _=>hd,Around.frames_deeper e0.frames,.inr ⟨rfl,rfl⟩,fun b z=>absurd z (noA b),e0.bs,e0.bsz,fun b _ _=>noA b,fun b z=>absurd z (noA b),e0.kR,e0.frf⟩,
  rfl,e0.bare,Un.kept hk,⟨_,x.toInCall.ns,fun i y v h1 h2 h3=>?_⟩,fun y c h=>⟨_,x.cell y c h⟩,e0.hok.fresh (cq _),fun y c h=>?_,fun p hp=>absurd (show p∈([]:List (Addr × Obj)) from hp) (by simp),e0.hok.kept hk,?_⟩
 ·exact name_of_addr x.apart (Ag h1) (Ag h2)
 ·have hy:scope.names.lookup y=some .cell∨scope.names.lookup y=some .free:=hy;rcases hy with hy | hy
  ·exact uk hy
  ·exact absurd rfl (S.nofree _ (Ag hy))
 ·exact Nat.le_of_lt (x.above y c (Ag h))
 ·have hi:i < vs.length:=by
   unfold start at h2;by_cases hi:i < vs.length
   ·exact hi
   ·rw[CG (by simpa using hi)]at h2;rw[List.getElem?_replicate]at h2;split at h2 <;> cases h2
  have ha:vs[i]?=some v:=by
   unfold start at h2;rw[Ec (by simpa using hi),lK]at h2;cases e:vs[i]? with
   | none=>rw[e]at h2; cases h2
   | some a=>rw[e]at h2; cases h2; rfl
  obtain⟨u,hu,rv⟩:=r.get ha;have hp:ps[i]?=some y:=by
   rw[← S.pre,List.getElem?_take_of_lt (by lia)]; exact h1
  have ndP:ps.Nodup:=by rw[← S.pre]; exact S.nd.sublist (List.take_sublist _ _)
  refine⟨u,rv,?_⟩;rcases S.par y (gh hp) with k | k
  ·exact .inl ⟨k,rb ndP hp hu k⟩
  ·obtain⟨c,e⟩:=uk (n:=s.heap.objs.size + 1) k;refine .inr ⟨.inl k,c,e,?_⟩;have q:=x.cell y c e;rw[p7 ndP hp hu (by show scope.names.lookup y≠_; rw[k]; decide)]at q;exact q
 ·exact e0.hok.fresh (Nat.le_of_lt (x.above y c (Ag h)))
 ·unfold start;show _=N.length;rw[iD,cU,Ac]
  lia
theorem Gu{K:aW}{mg:Str→Option Value}{k:Nat}{name:Str}{params:Arguments}{dV kV doc pm cdv ct oc:Value}{an od:Option Addr}
  {osl:Array (Option Value)} (lk:K.lookup f=some ⟨oc,od,.func (PySem.W.fnOf name qual params body scope dV kV doc pm an cdv ct),osl⟩) (hcd:PySem.W.codeIn K cdv qual=true) (S:aF N ps scope)
  (len:∀ vs H Q E,sp vs H Q E→vs.length=ps.length)
  (hbody:∀ (A:Around) (outer:List Env) (s:Shared) (H:Hp) (vs:List V) (Q:VK) (E:XK),dX k (A.deeper (envOfC qual scope s.heap.objs.size f cdv))→sp vs H Q E→
   ∃ t,zV (zC CX P w K mg base N qual scope f cdv A outer s H E) body t∧t {nx:=fun _ H'=>Q .non H',rt:=Q} (start N vs) H) :
  bg P w K mg base CX (k + 1) f (PySem.W.fnOf name qual params body scope dV kV doc pm an cdv ct) ps sp:=by
 refine⟨len,fun A outer s H args us vs Q E hr e0 hb r hsp=>?_⟩;have hl:=len _ _ _ _ hsp;have KX:K.In s.heap:=e0.mod.kin.keeps fun b o e=>(e0.bs b o e).1
 have lim:s.heap.NoLimit:=e0.mod.nolimit.keeps fun b o e=>(e0.bs b o e).1
 have hkind:∀ y∈ps.zip us,scope.names.lookup y.1=some .local∨(scope.names.lookup y.1=some .cell∧((cellsFrom (s.heap.objs.size + 1) scope.names []).lookup y.1).isSome=true):=fun ⟨n,v⟩ hy=>by
  rcases S.par n (List.of_mem_zip hy).1 with q | q
  ·exact .inl q
  ·exact .inr ⟨q,PySem.W.cellsFrom_some _ _ _ (.inl q)⟩
 refine codeAny_call_function hr.depth (KX _ _ lk) rfl S.co S.gen rfl (PySem.W.codeRec_of KX hcd) (hb _ _ _ _ ?_);refine wpAny_newFunctionEnv_cells S.kind hkind fun env he s1 x=>?_
 subst he;refine⟨lim.keeps x.toInCall.keep,codeAny_func ?_⟩;obtain⟨t,ht,hq⟩:=hbody A outer s H vs Q E (hr.deeper _) hsp;have I:Inv (zC CX P w K mg base N qual scope f cdv A outer s H E) [] (start N vs) H s1:=zf S hr.hd e0 hl r x;refine vv (ht [] s1 (start N vs) H _ I hq) (fun fl s' hs=>?_) fun e s' hs=>hs
 have fin:∀ {σ':St} {H':Hp} {v:V} {u:Value},Inv (zC CX P w K mg base N qual scope f cdv A outer s H E) [] σ' H' s'→RelV v u→Q v H'→CE outer P w H s Q u s':=
  fun {σ' H' v u} J rv q=>⟨v,H',J.os,J.bare,J.base,J.hok,rv,q⟩
 cases fl with
 | ret u=>
  obtain⟨v,σ',H',J,rv,q⟩:=hs;exact fin J rv q
 | next=>
  obtain⟨σ',H',J,q⟩:=hs;exact fin (v:=V.non) (u:=Value.none) J rfl q
 | brk=>
  obtain⟨_,_,_,q⟩:=hs;exact False.elim q
 | cont=>
  obtain⟨_,_,_,q⟩:=hs;exact False.elim q
section
variable {id T:String}{r:List V→Hp→VK→Prop}
def Jl(r:List V→Hp→VK→Prop)(t:TA):TE:=fun σ H Q=>t σ H fun vs H1=>r vs H1 Q
theorem bj(hc:fX X (.builtin id) r)(hg:Gl X x)(hm:X.mg x=none)(hv:bootBuiltins x=some (.builtin id))(ha:PA X (e::es) t)(hn:autoParam (x≠"__name__") q_2)(hdb:autoParam ((x == ("__debug__":Str))=false) q_2)
  (he:autoParam (starEach (e::es) X.env=(false,eval e X.env)::starEach es X.env) q_1) (hpl:autoParam ((backTo pos (starEach es X.env)).any (·.1)=false) q_1):PE X (.Call (.Name x p) (e::es) [] pos) (Jl r t):=by
 intro pins s σ H Q I h;refine EA (gr I hg hm hv ?_ hn hdb);exact PyProof.Rows.callWith_builtin1 (bW (ha pos pins s σ H _ I h) fun us s1 hp2=>by obtain⟨vs,H1,I1,r1,q1⟩:=hp2; exact hc pins s1 σ H1 vs us Q I1 r1 q1) he hpl
theorem bw(hc:fX X (.type T) r)(hg:Gl X x)(hm:X.mg x=none)(hv:bootBuiltins x=some (.type T))(ha:PA X (e::es) t)(hn:autoParam (x≠"__name__") q_2)(hdb:autoParam ((x == ("__debug__":Str))=false) q_2)
  (he:autoParam (starEach (e::es) X.env=(false,eval e X.env)::starEach es X.env) q_1) (hpl:autoParam ((backTo pos (starEach es X.env)).any (·.1)=false) q_1):PE X (.Call (.Name x p) (e::es) [] pos) (Jl r t):=by
 intro pins s σ H Q I h;refine EA (gr I hg hm hv ?_ hn hdb);exact D5 (bW (ha pos pins s σ H _ I h) fun us s1 hp2=>by obtain⟨vs,H1,I1,r1,q1⟩:=hp2; exact hc pins s1 σ H1 vs us Q I1 r1 q1) he hpl
end
end L2
namespace HT
open PySem PyProof.Rows
variable {sl:Addr}{vl vu:Value}{lo hi:Option Int}
section
open PySem.SeqAt
open PySem.AutoSeq1 (wpAny_loadPart')
open PySem.MeetsSeq PySem.MeetsSeq2 PySem.MeetsSeq3
end
section
variable {prog:Program}{w:World}{A:Around}{E:Value→Shared→Prop}{s:Shared}
noncomputable def dC(n d:Nat):Option Int→Nat
 | none=>d
 | some v=>if v < 0 then (v + (n:Int)).toNat else min v.toNat n
theorem A0(n d:Nat):dC n d none=d:=rfl
theorem yi(n d k:Nat):dC n d (some (k:Int))=min k n:=by
 show (if (k:Int) < 0 then ((k:Int) + (n:Int)).toNat else min (k:Int).toNat n)=min k n;rw[if_neg (by lia),m8]
theorem EU(n d:Nat)(hd:d≤n)(o:Option Int):dC n d o≤n:=by
 cases o with
 | none=>exact hd
 | some v=>
  show (if v < 0 then (v + (n:Int)).toNat else min v.toNat n)≤n;by_cases hv:v < 0
  ·rw[if_pos hv]; lia
  ·rw[if_neg hv]; exact Nat.min_le_right _ _
theorem ye(v:Int)(n d:Nat):(if v < 0 then max (v + (n:Int)) 0 else min v (n:Int))=((dC n d (some v):Nat):Int):=by
 show (if v < 0 then max (v + (n:Int)) 0 else min v (n:Int))=(((if v < 0 then (v + (n:Int)).toNat else min v.toNat n):Nat):Int)
 by_cases hv:v < 0
 ·simp only[if_pos hv]; lia
 ·simp only[if_neg hv]; lia
theorem xo(lo hi:Option Int)(n:Nat):Builtin.Slice.sliceAdjust lo hi 1 (n:Int)=(((dC n 0 lo:Nat):Int),((dC n n hi:Nat):Int)):=by
 have h1:¬ ((1:Int) < 0):=by lia
 unfold Builtin.Slice.sliceAdjust;simp only[h1,oM];refine Prod.ext ?_ ?_
 ·cases lo with
  | none=>rfl
  | some v=>exact ye v n 0
 ·cases hi with
  | none=>rfl
  | some v=>exact ye v n n
theorem xv(i j:Nat):Builtin.Slice.slicePlaces (i:Int) (j:Int) 1=j - i:=by
 unfold Builtin.Slice.slicePlaces;have h1:(1:Int) > 0:=by lia
 simp only[h1,if_true,Int.ediv_one];split <;> lia
theorem nH{v:Value}{o:Option Int}{Q:Option Int→Shared→Prop}(p:IsPart v o)(h:Q o s):wpAny (model prog w) A (Builtin.Slice.slicePartIndex v) Q E s:=by
 cases p with
 | none=>exact slicePart_none h
 | int i t=>exact slicePart_int h
theorem fY{n:Nat}{Q:Int × Int × Nat→Shared→Prop}(hs:s.heap.IsSliceOf sl vl vu .none)(pl:IsPart vl lo)(pu:IsPart vu hi)
  (h:Q (((dC n 0 lo:Nat):Int),1,dC n n hi - dC n 0 lo) s):wpAny (model prog w) A (Builtin.Slice.sliceApplied (.ref sl) (pure (n:Int))) Q E s:=by
 obtain⟨os,hos,hcs,hds⟩:=id hs;unfold Builtin.Slice.sliceApplied Builtin.Slice.sliceFields;refine aQ (aQ (o6 hos hds (x:=vl) rfl (aQ (o6 hos hds (x:=vu) rfl (aQ (o6 hos hds (x:=.none) rfl (bH ?_)))))));refine aQ (slicePart_none ?_);show wpAny _ _ (if ((1:Int) == 0)=true then _ else _) _ _ s;rw[if_neg (by decide)];refine aQ (nH pl (aQ (nH pu (aQ (bH ?_)))));show wpAny _ _ (match Builtin.Slice.sliceAdjust lo hi 1 (n:Int) with | (lo,hi)=>pure (lo,(1:Int),Builtin.Slice.slicePlaces lo hi 1)) _ _ s;rw[xo lo hi n];show wpAny _ _ (pure (((dC n 0 lo:Nat):Int),(1:Int),Builtin.Slice.slicePlaces ((dC n 0 lo:Nat):Int) ((dC n n hi:Nat):Int) 1)) _ _ s;rw[xv];exact bH h
theorem AN(xs:Array Value)(i k:Nat):((List.range k).filterMap fun (m:Nat)=>xs[((i:Int) + (m:Int) * 1).toNat]?).toArray=((xs.toList.drop i).take k).toArray:=by
 have e:(fun (m:Nat)=>xs[((i:Int) + (m:Int) * 1).toNat]?)=fun m=>xs[i + m]?:=by
  funext m
  have:((i:Int) + (m:Int) * 1).toNat=i + m:=by lia
  rw[this]
 rw[e];have:=pick_run xs i k;rw[List.filterMap_map]at this;have e2:((fun x=>xs[x]?) ∘ fun x=>i + x)=fun m=>xs[i + m]?:=rfl
 rw[e2]at this;rw[this]
theorem kN{t:Addr}{items:Array Value}{Q:Value→Shared→Prop}(ht:IsTup s.heap t items)(hs:s.heap.IsSliceOf sl vl vu .none)(pl:IsPart vl lo)(pu:IsPart vu hi)
  (hw:¬ (dC items.size 0 lo=0∧dC items.size items.size hi=items.size))
  (h:Q (.ref s.heap.objs.size) { s with heap:=s.heap.push {cls:=.type "tuple",data:=.seq ((items.toList.drop (dC items.size 0 lo)).take (dC items.size items.size hi - dC items.size 0 lo)).toArray} })
  (hsz:items.size≤sizeLine):wpAny (model prog w) A (getItem (.ref t) (.ref sl)) Q E s:=by
 have htake:sizeOk (.seq ((items.toList.drop (dC items.size 0 lo)).take (dC items.size items.size hi - dC items.size 0 lo)).toArray):=by
  show ((items.toList.drop (dC items.size 0 lo)).take (dC items.size items.size hi - dC items.size 0 lo)).toArray.size≤sizeLine;rw[dY,qy,List.length_drop,jP];omega
 have hj:dC items.size items.size hi≤items.size:=EU _ _ (cq _) hi;obtain⟨os,hos,hcs,hds⟩:=id hs;have hTs:s.TypeIs (.ref sl) "slice":=⟨os,hos,hcs⟩
 unfold getItem
 try with_reducible refine kP ?_
 first | refine aQ (bH ?_) | skip
 refine aQ (wpAny_sequenceKey ht.typeIs (by decide) ?_)
 refine aQ (Eb (name:=Str.ofString "__getitem__") ht.typeIs F7
  (yp F7 ht.typeIs entry_tuple_getitem ?_ (args_tuple_getitem _ _)))
 show wpAny _ _ (Builtin.Tuple.tupleItemsOf (.ref t) >>= _) _ _ s;refine aQ (tupleItemsOf_ ht ?_);refine aQ (wpAny_typeOf hTs ?_);rw[if_pos (by decide)];refine aQ (fY hs pl pu ?_);have hno:¬ ((((dC items.size 0 lo:Nat):Int) == 0 && (1:Int) == 1 && (dC items.size items.size hi - dC items.size 0 lo) == items.size)=true):=by
  intro q;rw[Ei,Ei]at q;have q1:((dC items.size 0 lo:Nat):Int)=0:=eq_of_beq q.1.1;have q2:dC items.size items.size hi - dC items.size 0 lo=items.size:=eq_of_beq q.2;exact hw ⟨by omega,by omega⟩
 show wpAny _ _ (if (((dC items.size 0 lo:Nat):Int) == 0 && (1:Int) == 1 && (dC items.size items.size hi - dC items.size 0 lo) == items.size)=true then _ else _) _ _ s;rw[if_neg hno,AN]
 first
  | exact aQ (m:=Builtin.Tuple.tupleExact _) (Ea (bH ⟨_,rfl,bH h⟩) htake)
  | exact aQ (m:=Builtin.Tuple.tupleExact _) (Ea (aQ (bH (bH ⟨_,rfl,bH h⟩))) htake)
  | exact aQ (aQ (m:=Builtin.Tuple.tupleExact _) (Ea (bH (bH ⟨_,rfl,bH h⟩)) htake))
  | exact aQ (aQ (m:=Builtin.Tuple.tupleExact _) (Ea (bH ⟨_,rfl,bH h⟩) htake))
end
end HT
namespace L2
open PySem PySem.Spec PyProof.Rows
variable {s:Shared}{x y:V}{xs ys:List V}{us its its':List Value}{X:Cx}{n j t':Nat}{pins:List (Addr × Obj)}{σ:St}{H:Hp}{i:Int}{p:Addr}{A:Around}{u v:Value}{e:Expr}{pos:Pos}
abbrev TO:=St→Hp→(Option Int→Hp→Prop)→Prop
def PO(X:Cx)(e:Option Expr)(t:TO):Prop:=
 ∀ (pins:List (Addr × Obj)) (s:Shared) (σ:St) (H:Hp) (Q:Option Int→Hp→Prop),Inv X pins σ H s→t σ H Q→
  wpAny (model X.prog X.w) X.A (evalPart e X.env) (fun u s'=>∃ o H',Inv X pins σ H' s'∧IsPart u o∧Q o H') X.xe s
def Dw:TO:=fun _ H Q=>Q none H
def Hj(t:TE):TO:=fun σ H Q=>t σ H fun x H1=>aw Q (fun i Q=>x=.int i∧Q (some i) H1)
section
variable {te:TE}{lo hi:Option Expr}{tl th:TO}{p2:Pos}
theorem yy:PO X none Dw:=by
 intro pins s σ H Q I h;rw[evalPart_none];exact bH ⟨none,H,I,.none,h⟩
theorem fH(h:PE X e te):PO X (some e) (Hj te):=by
 intro pins s σ H Q I hw;rw[evalPart_some];refine bW (h pins s σ H _ I hw) fun u s1 hpat=>?_
 obtain⟨x,H1,I1,r1,q1⟩:=hpat;obtain⟨i,rfl,q⟩:=q1;obtain⟨t,rfl⟩:=r1;exact⟨some i,H1,I1,.int i t,q⟩
def Ib(X:Cx)(r:V→Option Int→Option Int→Hp→VK→Prop):Prop:=
 ∀ (pins:List (Addr × Obj)) (s:Shared) (σ:St) (H:Hp) (x:V) (v vl vu:Value) (lo hi:Option Int) (sl:Addr) (Q:VK),Inv X pins σ H s→RelV x v→s.heap.IsSliceOf sl vl vu .none→IsPart vl lo→IsPart vu hi→r x lo hi H Q→
  ∃ T id,typeLookup (.type T) "__getitem__" = pure (some (.builtin id))∧s.TypeIs v T∧wpAny (model X.prog X.w) X.A (getItem v (.ref sl)) (EP X pins σ Q) X.xe s
def JZ(r:V→Option Int→Option Int→Hp→VK→Prop)(te:TE)(tl th:TO):TE:=fun σ H Q=>te σ H fun x H1=>tl σ H1 fun l H2=>th σ H2 fun u H3=>r x l u H3 Q
theorem hU{r:V→Option Int→Option Int→Hp→VK→Prop}(hr:Ib X r)(he:PE X e te)(hl:PO X lo tl)(hu:PO X hi th):PE X (.Subscript e (.Slice lo hi none p2) pos) (JZ r te tl th):=by
 intro pins s σ H Q I h;refine Subscript_ (bW (he pins s σ H _ I h) fun v s1 hpat=>?_);obtain⟨x,H1,I1,r1,q1⟩:=hpat;refine wpAny_Slice (bW (hl pins s1 σ H1 _ I1 q1) fun vl s2 hpat=>?_);obtain⟨l,H2,I2,pl,q2⟩:=hpat;refine bW (hu pins s2 σ H2 _ I2 q2) fun vu s3 hpat=>?_
 obtain⟨u,H3,I3,pu,q3⟩:=hpat;rw[evalPart_none];refine bH ?_;have I4:Inv X pins σ H3 { s3 with heap:=s3.heap.push { cls:=.type "slice",data:=.fields #[vl,vu,.none] } }:=I3.kept (t':=s3.toks) fun b ob q=>dE _ q
 obtain⟨T,id,hT,ht,hg⟩:=hr pins { s3 with heap:=s3.heap.push { cls:=.type "slice",data:=.fields #[vl,vu,.none] } } σ H3 x v vl vu l u s3.heap.objs.size Q I4 r1 (Heap.IsSliceOf.new ..) pl pu q3;show wpAny (model X.prog X.w) X.A (subscriptTail e (.Slice lo hi none p2) v (.ref s3.heap.objs.size)) (EP X pins σ Q) X.xe { s3 with heap:=s3.heap.push { cls:=.type "slice",data:=.fields #[vl,vu,.none] } };exact tail_any (ops:=[.ref s3.heap.objs.size,v]) ht hT hg (by with_unfolding_all rfl)
noncomputable def my(xs:List V)(lo hi:Option Int):List V:=(xs.drop (HT.dC xs.length 0 lo)).take (HT.dC xs.length xs.length hi - HT.dC xs.length 0 lo)
theorem l7(xs:List V)(lo hi:Option Int):(my xs lo hi).length≤xs.length:=by
 unfold my;rw[qy,List.length_drop]
 lia
def Je(K:aW):V→Option Int→Option Int→Hp→VK→Prop:=fun x lo hi H Q=>aw Q (fun a Q=>aw Q (fun xs Q=>x=.ref a∧bY K H a xs∧
 ¬ (HT.dC xs.length 0 lo=0∧HT.dC xs.length xs.length hi=xs.length)∧∀ p,H p=none→Q (.ref p) (upd H p (.tup (my xs lo hi)))))
theorem vE:Ib X (Je X.K):=by
 intro pins s σ H x v vl vu lo hi sl Q I rx hs pl pu h;obtain⟨a,xs,rfl,hx,hw,q⟩:=h;cases rx;obtain⟨its,r,ht,hz⟩:=I.tuple hx;have hlen:its.toArray.size=xs.length:=by rw[dY]; exact r.length.symm
 refine⟨"tuple",_,F7.lookup,ht.typeIs,?_⟩;refine HT.kN ht hs pl pu (by rw[hlen]; exact hw) ?_ (by rw[hlen]; exact hz);rw[hlen];refine⟨.ref s.heap.objs.size,_,I.laid (t':=s.toks) (o:=.tup (my xs lo hi)) (fun b ob q=>dE _ q) (cq _) ?_,rfl,q _ (I.hok.fresh (cq _))⟩;exact⟨vJ (l7 xs lo hi) hz,_,(r.drop (HT.dC xs.length 0 lo)).take (HT.dC xs.length xs.length hi - HT.dC xs.length 0 lo),IsTup.new _ _⟩
end
noncomputable def Ai(n:Nat)(i:Int):Option Nat:=if 0≤i then (if i < n then some i.toNat else none) else if -(n:Int)≤i then some (i + n).toNat else none
noncomputable def me{α:Type}(xs:List α)(i:Int):Option α:=(Ai xs.length i).bind fun j=>xs[j]?
theorem xK(h:Ai n i=some j):seqIndex? i n=some j∧j < n∧-(n:Int)≤i∧i < n:=by
 unfold Ai at h;by_cases h0:0≤i
 ·rw[if_pos h0]at h;by_cases h1:i < n
  ·rw[if_pos h1]at h;have e:i.toNat=j:=mW h;exact⟨by rw[seqIndex_of h0 h1,e],by lia,by lia,h1⟩
  ·rw[if_neg h1]at h; cases h
 ·rw[if_neg h0]at h;by_cases h1:-(n:Int)≤i
  ·rw[if_pos h1]at h;have e:(i + n).toNat=j:=mW h;exact⟨by rw[seqIndex_neg (by lia) h1,e],by lia,h1,by lia⟩
  ·rw[if_neg h1]at h; cases h
theorem yD{α:Type}{xs:List α}{v:α}(h:me xs i=some v):∃ j,seqIndex? i xs.length=some j∧xs[j]?=some v∧j < xs.length∧-(xs.length:Int)≤i∧i < xs.length:=by
 unfold me at h;cases e:Ai xs.length i with
 | none=>rw[e]at h; cases h
 | some j=>
  rw[e]at h;obtain⟨h1,h2,h3,h4⟩:=xK e;exact⟨j,h1,h,h2,h3,h4⟩
theorem bf{α:Type}{xs:List α}{v:α}(h:xs[j]?=some v):me xs (j:Int)=some v:=by
 have hj:j < xs.length:=(eQ.mp h).1;have e:Ai xs.length (j:Int)=some j:=by
  unfold Ai;rw[if_pos (by lia),if_pos (by lia)]; simp
 unfold me; rw[e]; exact h
def CA(b:Expr):Prop:=∀ o i,subscripted b false o i=operate [o,i] (getItem o i)
def HB(X:Cx)(r:R2):Prop:=
 ∀ (value slice:Expr) (pins:List (Addr × Obj)) (s:Shared) (σ:St) (H:Hp) (x y:V) (v u:Value) (Q:VK),Inv X pins σ H s→RelV x v→RelV y u→r x y H Q→
  subscripted slice false v u=operate [v,u] (getItem v u)→wpAny (model X.prog X.w) X.A (subscriptTail value slice v u) (EP X pins σ Q) X.xe s
def IT(X:Cx)(id:String)(r:V→List V→Hp→VK→Prop):Prop:=
 ∀ (pins:List (Addr × Obj)) (s:Shared) (σ:St) (H:Hp) (x:V) (xs:List V) (v:Value) (us:List Value) (Q:VK),Inv X pins σ H s→RelV x v→Vals xs us→r x xs H Q→
  wpAny (model X.prog X.w) X.A (call (.builtin id) (v::us)) (EP X pins σ Q) X.xe s
section
variable {a b:Expr}{ta tb:TE}
theorem av{r:R2}(hr:HB X r)(ha:PE X a ta)(hb:PE X b tb)(hs:autoParam (CA b) q_5):PE X (.Subscript a b pos) (HR r ta tb):=by
 intro pins s σ H Q I h;exact Subscript_ (Fc ha hb I h fun v u s2 x y H2 I2 rx ry q=>hr a b pins s2 σ H2 x y v u Q I2 rx ry q (hs _ _))
def GG(K:aW):R2:=fun x y H Q=>aw Q (fun p Q=>aw Q (fun xs Q=>aw Q (fun i Q=>aw Q (fun v Q=>x=.ref p∧y=.int i∧a7 K H p xs∧me xs i=some v∧Q v H))))
def Ip(K:aW):R2:=fun x y H Q=>aw Q (fun p Q=>aw Q (fun xs Q=>aw Q (fun i Q=>aw Q (fun v Q=>x=.ref p∧y=.int i∧bY K H p xs∧me xs i=some v∧Q v H))))
theorem aK:HB X (GG X.K):=by
 intro value slice pins s σ H x y v u Q I rx ry h hs;obtain⟨p,xs,i,z,rfl,rfl,hq,he,q⟩:=h;cases rx;obtain⟨t,rfl⟩:=ry;obtain⟨its,r,pl,hz⟩:=I.list hq;obtain⟨j,h1,h2,h3,h4,h5⟩:=yD he;obtain⟨w,ew,rw'⟩:=r.get h2;have hl:=r.length;have hn:=m5;have fin:EP X pins σ Q w s:=⟨z,H,I,rw',q⟩
 by_cases h0:0≤i
 ·have hj:i.toNat=j:=by
   rw[seqIndex_of h0 h5]at h1;exact mW h1
  exact item_listR pl.isList h0 (by lia) (by rw[hj]; simpa using ew) fin hs
 ·have hj:(i + (its.toArray.size:Int)).toNat=j:=by
   rw[seqIndex_neg (by lia) h4]at h1;rw[dY,← hl];exact mW h1
  exact subscriptTail_builtinR (x:=w) pl.isList.typeIs slot_list_getitem.lookup
   (wpAny_getItem_list_neg (Q:=fun r s'=>r=w∧EP X pins σ Q r s') pl.isList (by lia) (by rw[dY] <;> lia) (by lia) (by rw[hj]; simpa using ew) ⟨rfl,fin⟩) hs
theorem aA:HB X (Ip X.K):=by
 intro value slice pins s σ H x y v u Q I rx ry h hs;obtain⟨p,xs,i,z,rfl,rfl,hq,he,q⟩:=h;cases rx;obtain⟨t,rfl⟩:=ry;obtain⟨its,r,pl,hz⟩:=I.tuple hq;obtain⟨j,h1,h2,h3,h4,h5⟩:=yD he;obtain⟨w,ew,rw'⟩:=r.get h2;have hl:=r.length;have hn:=m5;have fin:EP X pins σ Q w s:=⟨z,H,I,rw',q⟩
 exact subscriptTail_builtinR (x:=w) pl.typeIs slot_tuple_getitem.lookup
  (getItem_tuple (j:=j) (Q:=fun r s'=>r=w∧EP X pins σ Q r s') pl (by lia) (by lia) (by rw[dY,← hl]; exact h1) (by simpa using ew) ⟨rfl,fin⟩) hs
theorem xw(its:List Value)(n j:Nat)(u:Value):Obj.mapSeq (·.setIfInBounds j u) { cls:=.type "list",data:=.seq its.toArray n }={ cls:=.type "list",data:=.seq (its.set j u).toArray n }:=by
 simp[Obj.mapSeq]
theorem Inv.lst(I:Inv X pins σ H s)(h:H p=some (.lst xs)) :
  ∃ (its:List Value) (n:Nat),Vals xs its∧s.heap.get? p=some { cls:=.type "list",data:=.seq its.toArray n }∧xs.length≤sizeLine:=by
 obtain⟨z,its,n,r,e⟩:=I.hok p _ h;exact⟨its,n,r,e,z⟩
theorem Inv.FL{n':Nat}{f:Obj→Obj}(I:Inv X pins σ H s)(h:H p=some (.lst xs))
  (ho:s.heap.get? p=some {cls:=.type "list",data:=.seq its.toArray n}) (hf:f {cls:=.type "list",data:=.seq its.toArray n}={cls:=.type "list",data:=.seq its'.toArray n'}) (r:Vals ys its') (hz:ys.length≤sizeLine) (t:Nat) :
  Inv X pins σ (upd H p (.lst ys)) { s with heap:=s.heap.update p f,toks:=t }:=by
 have e:(s.heap.update p f).get? p=some { cls:=.type "list",data:=.seq its'.toArray n' }:=by
  rw[Fn f ho (by rw[hf] <;> rfl),hf]
 refine I.write (x:=p) (e:=p) (by rw[h]; trivial) (.inl rfl) (fun b u hb q=>(Dy _ _ (Ne.symm hb)).trans q) ⟨_,e⟩ ?_;exact⟨hz,its',n',r,e⟩
def Ha:V→V→V→Hp→(Hp→Prop)→Prop:=fun o i v H Q=>aw Q (fun p Q=>aw Q (fun xs Q=>aw Q (fun k Q=>aw Q (fun j Q=>o=.ref p∧i=.int k∧H p=some (.lst xs)∧Ai xs.length k=some j∧Q (upd H p (.lst (xs.set j v)))))))
theorem set_list:GV X Ha:=by
 intro pins s σ H o i v ov iv u Q I ro ri rv h;obtain⟨p,xs,k,j,rfl,rfl,hp,hj,q⟩:=h;cases ro;obtain⟨t,rfl⟩:=ri;obtain⟨its,n,r,ho,hz⟩:=I.lst hp;obtain⟨h1,h2,h3,h4⟩:=xK hj;have hl:=r.length;have hn:=m5;have I':Inv X pins σ (upd H p (.lst (xs.set j v))) { s with heap:=s.heap.update p (Obj.mapSeq (·.setIfInBounds j u)) }:=
  I.FL hp ho (xw its n j u) (r.set rv j) (by rw[xI]; exact hz) s.toks
 by_cases h0:0≤k
 ·have hk:k.toNat=j:=by
   rw[seqIndex_of h0 h4]at h1;exact mW h1
  exact PySem.W.ki_setAt ho h0 (by lia) (by rw[dY,← hl]; exact h4) (by rw[hk]; exact⟨_,I',q⟩)
 ·have hk:(k + (its.toArray.size:Int)).toNat=j:=by
   rw[seqIndex_neg (by lia) h3]at h1;rw[dY,← hl];exact mW h1
  exact PySem.W.ki_setBack ho (by lia) (by rw[dY,← hl]; exact h3) (by lia) (by rw[hk]; exact⟨_,I',q⟩)
theorem rF(lo hi:Option Int)(n:Nat):(sliceBounds lo hi none n).1=((HT.dC n 0 lo:Nat):Int)∧(sliceBounds lo hi none n).2.1=((HT.dC n n hi:Nat):Int)∧(sliceBounds lo hi none n).2.2=1:=by
 refine⟨?_,?_,rfl⟩
 ·cases lo with
  | none=>simp[sliceBounds,HT.dC]
  | some i=>
   simp only[sliceBounds,HT.dC,Option.getD_none,show (1:Int) > 0 by decide,if_true];by_cases h:i < 0
   ·simp only[h,if_true] <;> lia
   ·simp only[h,oM] <;> lia
 ·cases hi with
  | none=>simp[sliceBounds,HT.dC]
  | some i=>
   simp only[sliceBounds,HT.dC,Option.getD_none,show (1:Int) > 0 by decide,if_true];by_cases h:i < 0
   ·simp only[h,if_true] <;> lia
   ·simp only[h,oM] <;> lia
theorem pz(its:List Value)(lo hi:Option Int):slicePick its.toArray lo hi none=((its.drop (HT.dC its.length 0 lo)).take (HT.dC its.length its.length hi - HT.dC its.length 0 lo)).toArray:=by
 obtain⟨h1,h2,h3⟩:=rF lo hi its.toArray.size;unfold slicePick;rw[h1,h2,h3];simp only[sliceRange_one,pick_run,dY] <;> rfl
def II(K:aW):V→Option Int→Option Int→Hp→VK→Prop:=fun x lo hi H Q=>aw Q (fun a Q=>aw Q (fun xs Q=>x=.ref a∧a7 K H a xs∧∀ p,H p=none→Q (.ref p) (upd H p (.lst (my xs lo hi)))))
theorem HV:Ib X (II X.K):=by
 intro pins s σ H x v vl vu lo hi sl Q I rx hs pl pu h;obtain⟨a,xs,rfl,hx,q⟩:=h;cases rx;obtain⟨its,r,ht,hz⟩:=I.list hx;have hlen:=r.length;refine⟨"list",_,slot_list_getitem.lookup,ht.isList.typeIs,?_⟩;refine wpAny_getItem_list_slice ht.isList hs pl pu .none (by simp) ?_ (by rw[dY] <;> lia);rw[pz,← hlen];refine⟨.ref s.heap.objs.size,_,I.laid (t':=s.toks) (o:=.lst (my xs lo hi)) (fun b ob q=>dE _ q) (cq _) ?_,rfl,q _ (I.hok.fresh (cq _))⟩;exact⟨vJ (l7 xs lo hi) hz,_,0,(r.drop (HT.dC xs.length 0 lo)).take (HT.dC xs.length xs.length hi - HT.dC xs.length 0 lo),jN _ rfl⟩
noncomputable def jo:V→Bool
 | .non=>true
 | .bl _=>true
 | .int _=>true
 | .str _=>true
 | _=>false
noncomputable def yE:V→V→Bool
 | .non,.non=>true
 | .bl a,.bl b=>a == b
 | .bl a,.int b=>(if a then 1 else 0) == b
 | .int a,.bl b=>a == (if b then 1 else 0)
 | .int a,.int b=>a == b
 | .str a,.str b=>a == b
 | _,_=>false
theorem EZ(ry:RelV y u)(rx:RelV x v)(fy:jo y=true)(fx:jo x=true):SeqAt.EqAt A s u v (yE y x):=by
 cases y with
 | non=>
  cases ry;cases x with
  | non=>cases rx; exact SeqAt.EqAt.same _
  | bl b=>cases rx; exact SeqAt.EqAt.none_bool b
  | int b=>obtain⟨t,rfl⟩:=rx; exact SeqAt.EqAt.none_int b t
  | str b=>obtain⟨t,rfl⟩:=rx; exact SeqAt.EqAt.none_str b t
  | _=>exact absurd (show false=true from fx) gW
 | bl a=>
  cases ry;cases x with
  | non=>cases rx; exact SeqAt.EqAt.bool_none a
  | bl b=>cases rx; exact SeqAt.EqAt.bool_bool a b
  | int b=>obtain⟨t,rfl⟩:=rx; exact SeqAt.EqAt.bool_int a b t
  | str b=>obtain⟨t,rfl⟩:=rx; exact SeqAt.EqAt.bool_str a b t
  | _=>exact absurd (show false=true from fx) gW
 | int a=>
  obtain⟨t',rfl⟩:=ry;cases x with
  | non=>cases rx; exact SeqAt.EqAt.int_none a t'
  | bl b=>cases rx; exact SeqAt.EqAt.int_bool a t' b
  | int b=>obtain⟨t,rfl⟩:=rx; exact SeqAt.EqAt.int_int a t' b t
  | str b=>obtain⟨t,rfl⟩:=rx; exact SeqAt.EqAt.int_str a t' b t
  | _=>exact absurd (show false=true from fx) gW
 | str a=>
  obtain⟨t',rfl⟩:=ry;cases x with
  | non=>cases rx; exact SeqAt.EqAt.str_none a t'
  | bl b=>cases rx; exact SeqAt.EqAt.str_bool a t' b
  | int b=>obtain⟨t,rfl⟩:=rx; exact SeqAt.EqAt.str_int a t' b t
  | str b=>obtain⟨t,rfl⟩:=rx; exact SeqAt.EqAt.str_str a t' b t
  | _=>exact absurd (show false=true from fx) gW
 | _=>exact absurd (show false=true from fy) gW
noncomputable def vQ(x:V)(u:Value):Bool:=match u with
 | .none=>yE .non x
 | .bool b=>yE (.bl b) x
 | .int i _=>yE (.int i) x
 | .str z _=>yE (.str z) x
 | _=>false
theorem Ap(r:RelV y u)(f:jo y=true):vQ x u=yE y x:=by
 cases y with
 | non=>cases r; rfl
 | bl b=>cases r; rfl
 | int i=>obtain⟨t,rfl⟩:=r; rfl
 | str z=>obtain⟨t,rfl⟩:=r; rfl
 | _=>exact absurd (show false=true from f) gW
theorem jS{x:V}:∀ {xs:List V} {us:List Value},Vals xs us→xs.all jo=true→us.any (vQ x)=xs.any fun y=>yE y x
 | _,_,.nil,_=>rfl
 | y::xs,u::us,.cons r t,f=>by
  rw[List.all_cons,Ei]at f;rw[List.any_cons,List.any_cons,Ap r f.1,jS t f.2]
theorem iM{A:Around}{s:Shared}{x:V}{v:Value}(rx:RelV x v)(fx:jo x=true):∀ {xs:List V} {us:List Value},Vals xs us→xs.all jo=true→∀ u∈us,SeqAt.EqAt A s u v (vQ x u)
 | _,_,.nil,_=>fun u hu=>by cases hu
 | y::xs,u::us,.cons r t,f=>fun u' hu=>by
  rw[List.all_cons,Ei]at f;rcases dO.mp hu with rfl | hu
  ·rw[Ap r f.1]; exact EZ r rx f.1 fx
  ·exact iM rx fx t f.2 u' hu
noncomputable def vz(x:V)(xs:List V):Bool:=xs.any fun y=>yE y x
def JC(K:aW)(neg:Bool):R2:=fun x y H Q=>aw Q (fun p Q=>aw Q (fun xs Q=>y=.ref p∧(a7 K H p xs∨bY K H p xs)∧jo x=true∧xs.all jo=true∧Q (.bl (if neg then !vz x xs else vz x xs)) H))
theorem fk:jQ X (compareOp .In) (JC X.K false):=by
 intro pins s σ H x y v u Q I rx ry h;obtain⟨p,xs,rfl,hq,fx,fs,q⟩:=h;cases ry;rcases hq with hq | hq
 ·obtain⟨its,r,pl,hz⟩:=I.list hq;refine SeqAt.in_listAt (vQ x) pl.isList (fun w hw=>iM rx fx r fs w (by simpa using hw)) ⟨.bl _,H,I,rfl,?_⟩;rw[show its.toArray.any (vQ x)=its.any (vQ x) by simp,jS r fs];exact q
 ·obtain⟨its,r,pl,hz⟩:=I.tuple hq;refine SeqAt.in_tupleAt (vQ x) pl (fun w hw=>iM rx fx r fs w (by simpa using hw)) ⟨.bl _,H,I,rfl,?_⟩;rw[show its.toArray.any (vQ x)=its.any (vQ x) by simp,jS r fs];exact q
theorem rM:jQ X (compareOp .NotIn) (JC X.K true):=by
 intro pins s σ H x y v u Q I rx ry h;obtain⟨p,xs,rfl,hq,fx,fs,q⟩:=h;cases ry;rcases hq with hq | hq
 ·obtain⟨its,r,pl,hz⟩:=I.list hq;refine SeqAt.notIn_listAt (vQ x) pl.isList (fun w hw=>iM rx fx r fs w (by simpa using hw)) ⟨.bl _,H,I,rfl,?_⟩;rw[show its.toArray.any (vQ x)=its.any (vQ x) by simp,jS r fs];exact q
 ·obtain⟨its,r,pl,hz⟩:=I.tuple hq;refine SeqAt.notIn_tupleAt (vQ x) pl (fun w hw=>iM rx fx r fs w (by simpa using hw)) ⟨.bl _,H,I,rfl,?_⟩;rw[show its.toArray.any (vQ x)=its.any (vQ x) by simp,jS r fs];exact q
theorem a8:fX X (.builtin "len") (fun xs H Q=>∃ p ys,xs=[.ref p]∧(a7 X.K H p ys∨bY X.K H p ys)∧Q (.int ys.length) H):=by
 intro pins s σ H xs us Q I r h;obtain⟨p,ys,rfl,hq,q⟩:=h;obtain⟨u,rfl,rx⟩:=vals1 r;cases rx;have hn:=m5;rcases hq with hq | hq
 ·obtain⟨its,r',pl,hz⟩:=I.list hq;have hlen:=r'.length;exact Calls.call_len_list pl.isList (by simp only[dY] <;> lia) ⟨.int ys.length,H,I.tok _,⟨s.toks + 1,by rw[dY,hlen]⟩,q⟩
 ·obtain⟨its,r',pl,hz⟩:=I.tuple hq;have hlen:=r'.length;exact len_tuple pl (by simp only[dY] <;> lia) ⟨.int ys.length,H,I.tok _,⟨s.toks + 1,by rw[dY,hlen]⟩,q⟩
theorem dg:fX X (.type "list") (fun xs H Q=>∃ p ys,xs=[.ref p]∧(a7 X.K H p ys∨bY X.K H p ys)∧∀ l,H l=none→Q (.ref l) (upd H l (.lst ys))):=by
 intro pins s σ H xs us Q I r h;obtain⟨p,ys,rfl,hq,q⟩:=h;obtain⟨u,rfl,rx⟩:=vals1 r;cases rx;have fin:∀ (its:List Value),Vals ys its→ys.length≤sizeLine→∀ (h':Heap) (c':Nat),(∀ b o',s.heap.get? b=some o'→h'.get? b=some o')→
   h'.get? s.heap.objs.size=some { cls:=.type "list",dict:=none,data:=.seq its.toArray c',slots:=#[] }→EP X pins σ Q (.ref s.heap.objs.size) { s with heap:=h' }:=fun its r' hz h' c' kp e=>
  ⟨.ref s.heap.objs.size,_,I.laid (t':=s.toks) kp (cq _) (show cO X.prog X.w _ h' _ (.lst ys) from ⟨hz,its,c',r',e⟩),rfl,q _ (I.hok.fresh (cq _))⟩
 rcases hq with hq | hq
 ·obtain⟨its,r',pl,hz⟩:=I.list hq;have hlen:=r'.length;obtain⟨o,ho,hc,n,hd⟩:=pl.isList;exact call_list_seq p (.inl rfl) ho hc hd (fun h' c' kp e=>fin its r' hz h' c' kp e) (by simp only[dY] <;> lia)
 ·obtain⟨its,r',pl,hz⟩:=I.tuple hq;have hlen:=r'.length;obtain⟨o,ho,hc,n,hd⟩:=pl;exact call_list_seq p (.inr rfl) ho hc hd (fun h' c' kp e=>fin its r' hz h' c' kp e) (by simp only[dY] <;> lia)
theorem jk:fX X (.type "tuple") (fun xs H Q=>∃ p ys,xs=[.ref p]∧((a7 X.K H p ys∧∀ l,H l=none→Q (.ref l) (upd H l (.tup ys)))∨(bY X.K H p ys∧Q (.ref p) H))):=by
 intro pins s σ H xs us Q I r h;obtain⟨p,ys,rfl,h⟩:=h;obtain⟨u,rfl,rx⟩:=vals1 r;cases rx;rcases h with ⟨hq,q⟩ | ⟨hq,q⟩
 ·obtain⟨its,r',pl,hz⟩:=I.list hq;have hlen:=r'.length;refine call_tuple_list pl.isList (fun h' kp=>?_) (by simp only[dY] <;> lia);have I1:Inv X pins σ H { s with heap:=h' }:=I.kept (t':=s.toks) kp;have I2:Inv X pins σ (upd H h'.objs.size (.tup ys)) { s with heap:=h'.push { cls:=.type "tuple",data:=.seq its.toArray } }:=
   I1.laid (t':=s.toks) (fun b o e=>dE _ e) (cq _) (show cO X.prog X.w _ _ _ (.tup ys) from ⟨hz,its,r',IsTup.new _ _⟩)
  exact⟨.ref h'.objs.size,_,I2,rfl,q _ (I1.hok.fresh (cq _))⟩
 ·obtain⟨its,r',pl,hz⟩:=I.tuple hq;exact call_tuple_same pl ⟨.ref p,H,I,rfl,q⟩
def Ji(K:aW)(T:String)(x:V)(H:Hp):Prop:=match x with
 | .str _=>T = "str"
 | .int _=>T = "int"
 | .ref p=>(T = "list"∧∃ xs,a7 K H p xs)∨(T = "tuple"∧∃ o,K.lookup p=some o∧o.cls=.type "tuple"∧o.dict=none)∨
   (T = "dict"∧((∃ kvs,H p=some (.dK kvs))∨(∃ kvs,H p=some (.dT kvs))∨(∃ zs kvs,H p=some (.dZ zs kvs))∨∃ zs kvs,H p=some (.dN zs kvs)))∨(T = "set"∧∃ S n,H p=some (.set S n))
 | _=>False
theorem Bf{T:String}(I:Inv X pins σ H s)(r:RelV x v)(ty:Ji X.K T x H) :
  s.TypeIs v T∧∀ a,v=.ref a→∃ ob,s.heap.get? a=some ob∧ob.dict=none:=by
 cases x with
 | str z=>
  obtain⟨t,rfl⟩:=r;cases (show T = "str" from ty);exact⟨typeIs_str s z t,fun _ e=>nomatch e⟩
 | int i=>
  obtain⟨t,rfl⟩:=r;cases (show T = "int" from ty);exact⟨typeIs_int s i t,fun _ e=>nomatch e⟩
 | ref p=>
  cases r;rcases ty with ⟨rfl,xs,hq⟩ | ⟨rfl,o,hk,hc,hd⟩ | ⟨rfl,hk⟩ | ⟨rfl,S,n,hk⟩
  ·obtain⟨its,_,pl,_⟩:=I.list hq;refine⟨pl.isList.typeIs,fun a e=>?_⟩;cases e;obtain⟨o,n,e,c,hd,_⟩:=pl;exact⟨o,e,hd⟩
  ·refine⟨⟨o,I.wV p o hk,hc⟩,fun a e=>?_⟩;cases e;exact⟨o,I.wV _ o hk,hd⟩
  ·have z:∃ o,s.heap.get? p=some o∧o.ExactDict:=by
    rcases hk with ⟨kvs,hk⟩ | ⟨kvs,hk⟩ | ⟨zs,kvs,hk⟩ | ⟨zs,kvs,hk⟩
    ·obtain⟨_,_,_,_,o,_,_,e,ex,_⟩:=I.hok p _ hk;exact⟨o,e,ex⟩
    ·obtain⟨_,_,_,_,o,_,_,e,ex,_⟩:=I.hok p _ hk;exact⟨o,e,ex⟩
    ·obtain⟨_,_,_,_,o,_,_,e,ex,_⟩:=I.hok p _ hk;exact⟨o,e,ex⟩
    ·obtain⟨_,_,_,_,o,_,_,e,ex,_⟩:=I.hok p _ hk;exact⟨o,e,ex⟩
   obtain⟨o,e,ex⟩:=z;refine⟨⟨o,e,ex.1⟩,fun a e2=>?_⟩;cases e2;exact⟨o,e,ex.2.1⟩
  ·obtain⟨o,_,_,_,e,ex,_⟩:=I.hok p _ hk;refine⟨⟨o,e,ex.1⟩,fun a e2=>?_⟩;cases e2;exact⟨o,e,ex.2.1⟩
 | _=>exact False.elim ty
def IW(K:aW)(T:String)(r:V→List V→Hp→VK→Prop)(to:TE):TE:=fun σ H Q=>to σ H fun x H1=>Ji K T x H1∧r x [] H1 Q
def JK(K:aW)(T:String)(r:V→List V→Hp→VK→Prop)(to:TE)(t:TA):TE:=fun σ H Q=>to σ H fun x H1=>Ji K T x H1∧t σ H1 fun xs H2=>r x xs H2 Q
variable {o:Expr}{es:List Expr}{to:TE}{t:TA}{name:Str}{apos cpos:Pos}{T id:String}{r:V→List V→Hp→VK→Prop}
theorem AS(pa:PlainAttrs T)(slot:Slot T name id)(hty:typeOf (.builtin id)=pure (.type "method_descriptor"))(hm:IT X id r)(ho:PE X o to)
  (hbase:autoParam (attributeBase o name X.env (eval o X.env)=eval o X.env) q_1) (hline:autoParam ((apos.endLine == cpos.line)=true) q_1):PE X (.Call (.Attribute o name apos) [] [] cpos) (IW X.K T r to):=by
 intro pins s σ H Q I h;refine wpAny_Call_method0_late hbase hline (bW (ho pins s σ H _ I h) fun v s1 hpat=>?_);obtain⟨x,H1,I1,r1,ty,q1⟩:=hpat;obtain⟨h1,h2⟩:=Bf I1 r1 ty;exact⟨T,id,pa,slot,hty,h1,h2,Calls.callWith_builtin rfl (PySem.evalArgs_none (hm pins s1 σ H1 x [] v [] Q I1 r1 .nil q1))⟩
theorem fJ(pa:PlainAttrs T)(slot:Slot T name id)(hty:typeOf (.builtin id)=pure (.type "method_descriptor"))(hm:IT X id r)(ho:PE X o to)(ha:PA X (e::es) t)
  (hbase:autoParam (attributeBase o name X.env (eval o X.env)=eval o X.env) q_1)
  (hfew:((backTo cpos (starEach (e::es) X.env)).all (fun x=>!x.1) && (backToKw cpos (keywordEach [] X.env)).all (fun x=>x.1.isSome)
   && decide ((e::es).length + ([]:List Keyword).length + (if ([]:List Keyword).isEmpty then 0 else 1) < 30))=true:=by rfl)
  (hline:autoParam ((apos.endLine == cpos.line)=true) q_1) (hs:autoParam (starEach (e::es) X.env=(false,eval e X.env)::starEach es X.env) q_1) (hplain:autoParam ((backTo cpos (starEach es X.env)).any (·.1)=false) q_1) :
  PE X (.Call (.Attribute o name apos) (e::es) [] cpos) (JK X.K T r to t):=by
 intro pins s σ H Q I h;refine wpAny_Call_method_late hbase hfew hline rfl (bW (ho pins s σ H _ I h) fun v s1 hpat=>?_);obtain⟨x,H1,I1,r1,ty,q1⟩:=hpat;obtain⟨h1,h2⟩:=Bf I1 r1 ty;refine⟨T,id,pa,slot,hty,h1,h2,?_⟩;have hA:=ha cpos pins s1 σ H1 _ I1 q1;rw[hs]at hA ⊢;refine Calls.callWith_builtin (by show (false || (backTo cpos (starEach es X.env)).any (·.1))=false; rw[hplain] <;> rfl) (Calls.evalArgs_plain ?_);exact bW hA fun us s2 hp2=>by obtain⟨vs,H2,I2,r2,q2⟩:=hp2; exact hm pins s2 σ H2 x vs v us Q I2 r1 r2 q2
/- xs.append(e),list.index on a module's tuple .. are IT facts of 06m -/
end
def Hr(X:Cx)(id:String)(r:V→List V→Hp→VK→Prop):Prop:=
 ∀ (pins:List (Addr × Obj)) (s:Shared) (σ:St) (H:Hp) (x:V) (xs:List V) (v:Value) (us:List Value) (Q:VK),Inv X pins σ H s→RelV x v→Vals xs us→r x xs H Q→
  wpAny (model X.prog X.w) X.A (call (.builtin id) (v::us)) (EP X pins σ Q) X.xe s
theorem Vals.zero(h:Vals [] us):us=[]:=by
 cases h;rfl
theorem Vals.Ef(h:Vals (x::xs) us):∃ u r,us=u::r∧RelV x u∧Vals xs r:=by
 cases h with
 | cons r t=>exact⟨_,_,rfl,r,t⟩
theorem Vals.one(h:Vals [x] us):∃ u,us=[u]∧RelV x u:=by
 obtain⟨u,r,rfl,a,t⟩:=h.Ef;obtain rfl:=t.zero;exact⟨u,rfl,a⟩
theorem Vals.two(h:Vals [x,y] us):∃ u v,us=[u,v]∧RelV x u∧RelV y v:=by
 obtain⟨u,r,rfl,a,t⟩:=h.Ef;obtain⟨v,rfl,b⟩:=t.one;exact⟨u,v,rfl,a,b⟩
theorem Vals.dropLast(h:Vals xs us):Vals xs.dropLast us.dropLast:=by
 induction h with
 | nil=>exact .nil
 | cons r t ih=>
  cases t with
  | nil=>exact .nil
  | cons q t'=>exact .cons r ih
theorem Vals.eraseIdx:∀ {xs:List V} {us:List Value} (i:Nat),Vals xs us→Vals (xs.eraseIdx i) (us.eraseIdx i)
 | _,_,_,.nil=>.nil
 | _,_,0,.cons _ t=>t
 | _,_,i + 1,.cons r t=>.cons r (Vals.eraseIdx i t)
theorem Vals.rep{xs:List V}{us:List Value}(h:Vals xs us):∀ k:Nat,Vals (List.replicate k xs).flatten (List.replicate k us).flatten
 | 0=>.nil
 | k + 1=>by
  rw[D1,D1,List.flatten_cons,List.flatten_cons];exact Vals.append h (Vals.rep h k)
theorem wF{α:Type}(l:List α):l.eraseIdx (l.length - 1)=l.dropLast:=by
 induction l with
 | nil=>rfl
 | cons a r ih=>
  cases r with
  | nil=>rfl
  | cons b r=>
   have e:(a::b::r).length - 1=((b::r).length - 1) + 1:=by
    have h1:(a::b::r).length=r.length + 2:=rfl;have h2:(b::r).length=r.length + 1:=rfl
    lia
   rw[e,List.eraseIdx_cons_succ,ih]
   all_goals rfl
theorem rq{α:Type}:∀ (l:List α) (i:Nat),(l.eraseIdx i).length≤l.length
 | [],_=>cq _
 | _::_,0=>zH _
 | _::r,i + 1=>Nat.succ_le_succ (rq r i)
theorem foldl_rep(its:List Value):∀ (k:Nat) (acc:List Value),
  List.foldl (fun x1 x2=>x1++x2) acc.toArray (List.replicate k its.toArray)=(acc++(List.replicate k its).flatten).toArray
 | 0,acc=>by simp
 | k + 1,acc=>by
  have e:acc.toArray++its.toArray=(acc++its).toArray:=by simp
  have e2:(acc++its)++(List.replicate k its).flatten=acc++(List.replicate (k + 1) its).flatten:=by
   rw[D1,List.flatten_cons,mE]
  rw[← e2,← foldl_rep its k (acc++its),← e,D1,List.foldl_cons]
section
variable {l b:Addr}{zs:List V}
theorem Inv.CW{f:Array Value→Array Value}(I:Inv X pins σ H s)(hH:H l=some (.lst xs))
  (e:s.heap.get? l=some {cls:=.type "list",data:=.seq its.toArray n}) (hf:f its.toArray=its'.toArray) (hv:Vals ys its') (hz:ys.length≤sizeLine) :
  Inv X pins σ (upd H l (.lst ys)) { s with heap:=s.heap.update l (Obj.mapSeq f),toks:=t' }:=by
 have q:=PySem.IsL.update e f;rw[hf]at q;refine I.write (x:=l) (e:=l) (by rw[hH]; exact trivial) (.inl rfl) (fun b' u hb hu=>(Dy s.heap (Obj.mapSeq f) (Ne.symm hb)).trans hu) ⟨_,q⟩ ?_;exact⟨hz,its',_,hv,q⟩
theorem Inv.EL(I:Inv X pins σ H s)(hv:Vals ys its)(hz:ys.length≤sizeLine) :
  Inv X pins σ (upd H s.heap.objs.size (.lst ys)) { s with heap:=s.heap.push { cls:=.type "list",data:=.seq its.toArray },toks:=t' }:=
 I.laid (fun _ _ q=>dE _ q) (cq _) ⟨hz,its,0,hv,jN _ rfl⟩
theorem Inv.fresh(I:Inv X pins σ H s):H s.heap.objs.size=none:=I.hok.fresh (cq _)
theorem Inv.tm(I:Inv X pins σ H s)(hH:H l=some (.lst xs)):xs.length≤sizeLine∧∃ (its:List Value) (n:Nat),Vals xs its∧xs.length=its.length∧s.heap.get? l=some { cls:=.type "list",data:=.seq its.toArray n }:=by
 obtain⟨z,its,n,r,e⟩:=I.hok l _ hH;exact⟨z,its,n,r,r.length,e⟩
theorem uj(h:n≤sizeLine):Builtin.List.listTooLong n=false:=by
 unfold Builtin.List.listTooLong;exact fK (by lia)
end
def CZ:V→List V→Hp→VK→Prop:=fun x vs H Q=>aw Q (fun l Q=>aw Q (fun xs Q=>aw Q (fun y Q=>x=.ref l∧vs=[y]∧H l=some (.lst xs)∧xs.length < sizeLine∧Q .non (upd H l (.lst (xs++[y]))))))
theorem cE:Hr X "list.append" CZ:=by
 intro pins s σ H x vs v us Q I rx rv h;obtain⟨l,xs,y,rfl,rfl,hH,hz,q⟩:=h;cases rx;obtain⟨u,rfl,ru⟩:=rv.one;obtain⟨z,its,n,r,hl,e⟩:=I.tm hH;refine call_meets F.slot_list_append ⟨_,e,rfl⟩ F.entry_list_append (F.args_list_append_2 _ _) (PySem.list_append l its.toArray n u (by rw[dY]; lia)) ⟨e,?_⟩;refine⟨.non,_,I.CW (its':=its++[u]) hH e (by simp) (r.append (.cons ru .nil)) ?_,rfl,q⟩;rw[iD,vm]
 lia
def CF:V→List V→Hp→VK→Prop:=fun x vs H Q=>aw Q (fun l Q=>aw Q (fun b Q=>aw Q (fun xs Q=>aw Q (fun zs Q=>x=.ref l∧vs=[.ref b]∧H l=some (.lst xs)∧H b=some (.lst zs)∧xs.length + zs.length≤sizeLine∧Q .non (upd H l (.lst (xs++zs)))))))
theorem pW:Hr X "list.extend" CF:=by
 intro pins s σ H x vs v us Q I rx rv h;obtain⟨l,b,xs,zs,rfl,rfl,hH,hB,hz,q⟩:=h;cases rx;obtain⟨u,rfl,ru⟩:=rv.one;cases ru;obtain⟨z,its,n,r,hl,e⟩:=I.tm hH;obtain⟨z2,its2,n2,r2,hl2,e2⟩:=I.tm hB;have hsz:its.toArray.size + its2.toArray.size≤sizeLine:=by rw[dY,dY]; lia
 have hlong:¬ (!its.toArray.isEmpty && Builtin.List.listTooLong (its.toArray.size + its2.toArray.size))=true:=by
  rw[uj hsz,Bool.and_false];exact gW
 refine call_meets F.slot_list_extend ⟨_,e,rfl⟩ F.entry_list_extend (F.args_list_extend_2 _ _)
  (AutoSeq1.list_extend_list_list_0 l its.toArray n b its2.toArray n2 hlong (by rw[dY]; lia) (by lia)) ⟨e,e2,?_⟩
 refine⟨.non,_,I.CW (its':=its++its2) hH e (by simp) (r.append r2) ?_,rfl,q⟩;rw[iD]
 lia
def Ja:V→List V→Hp→VK→Prop:=fun x vs H Q=>aw Q (fun l Q=>aw Q (fun xs Q=>aw Q (fun y Q=>x=.ref l∧vs=[]∧H l=some (.lst xs)∧xs[xs.length - 1]?=some y∧Q y (upd H l (.lst xs.dropLast)))))
theorem Bp:Hr X "list.pop" Ja:=by
 intro pins s σ H x vs v us Q I rx rv h;obtain⟨l,xs,y,rfl,rfl,hH,hy,q⟩:=h;cases rx;have hus:=rv.zero;subst hus;obtain⟨z,its,n,r,hl,e⟩:=I.tm hH;obtain⟨u,hu,ru⟩:=r.get hy;have hy':its.toArray[its.toArray.size - 1]?=some u:=by
  show its.toArray[its.length - 1]?=some u;rw[← E3,← hl];exact hu
 refine call_meets F.slot_list_pop ⟨_,e,rfl⟩ F.entry_list_pop (F.args_list_pop_1 _) (MeetsSeq.list_pop_last l its.toArray n u hy' (by rw[dY]; lia)) ⟨e,?_⟩;refine⟨y,_,I.CW (its':=its.dropLast) hH e ?_ r.dropLast ?_,ru,q⟩
 ·show its.toArray.eraseIdxIfInBounds (its.toArray.size - 1)=its.dropLast.toArray;rw[dY,List.eraseIdxIfInBounds_toArray,wF]
 ·rw[List.length_dropLast]
  lia
def Fy:V→List V→Hp→VK→Prop:=fun x vs H Q=>aw Q (fun l Q=>aw Q (fun xs Q=>aw Q (fun i Q=>aw Q (fun k Q=>aw Q (fun y Q=>x=.ref l∧vs=[.int i]∧H l=some (.lst xs)∧-(2 ^ 63)≤i∧i < 2 ^ 63∧seqIndex? i xs.length=some k∧xs[k]?=some y∧Q y (upd H l (.lst (xs.eraseIdx k))))))))
theorem Az:Hr X "list.pop" Fy:=by
 intro pins s σ H x vs v us Q I rx rv h;obtain⟨l,xs,i,k,y,rfl,rfl,hH,h1,h2,hk,hy,q⟩:=h;cases rx;obtain⟨u,rfl,ru⟩:=rv.one;obtain⟨t,rfl⟩:=ru;obtain⟨z,its,n,r,hl,e⟩:=I.tm hH;obtain⟨w,hw,rw'⟩:=r.get hy;refine call_meets F.slot_list_pop ⟨_,e,rfl⟩ F.entry_list_pop (F.args_list_pop_2 _ _)
  (MeetsSeq.list_pop_at l its.toArray n i t k w (fitsIndex_both h1 h2) (by rw[dY,← hl]; exact hk) (by rw[← E3]; exact hw) (by rw[dY]; lia)) ⟨e,?_⟩
 refine⟨y,_,I.CW (its':=its.eraseIdx k) hH e ?_ (r.eraseIdx k) ?_,rw',q⟩
 ·show its.toArray.eraseIdxIfInBounds k=(its.eraseIdx k).toArray;rw[List.eraseIdxIfInBounds_toArray]
 ·have:=rq xs k
  lia
def Iv:R2:=fun x y H Q=>aw Q (fun l Q=>aw Q (fun b Q=>aw Q (fun xs Q=>aw Q (fun zs Q=>x=.ref l∧y=.ref b∧H l=some (.lst xs)∧H b=some (.lst zs)∧xs.length + zs.length≤sizeLine∧∀ p,H p=none→Q (.ref p) (upd H p (.lst (xs++zs)))))))
theorem oa:jQ X (binaryOp .Add) Iv:=by
 intro pins s σ H x y v u Q I rx ry h;obtain⟨l,b,xs,zs,rfl,rfl,hH,hB,hz,q⟩:=h;cases rx;cases ry;obtain⟨z,its,n,r,hl,e⟩:=I.tm hH;obtain⟨z2,its2,n2,r2,hl2,e2⟩:=I.tm hB;refine PySem.P.add_list e e2 ?_ (by rw[dY,dY]; lia);have ea:its.toArray++its2.toArray=(its++its2).toArray:=by simp
 rw[ea];exact⟨.ref _,_,I.EL (t':=s.toks) (r.append r2) (by rw[iD]; lia),rfl,q _ I.fresh⟩
def IJ:R2:=fun x y H Q=>aw Q (fun l Q=>aw Q (fun k Q=>aw Q (fun xs Q=>x=.ref l∧y=.int k∧H l=some (.lst xs)∧-(2 ^ 63)≤k∧k < 2 ^ 63∧xs.length * k.toNat≤sizeLine∧
 ∀ p,H p=none→Q (.ref p) (upd H p (.lst (List.replicate k.toNat xs).flatten)))))
theorem len_rep{α:Type}(xs:List α)(k:Nat):(List.replicate k xs).flatten.length=k * xs.length:=by
 induction k with
 | zero=>simp
 | succ k ih=>rw[D1,List.flatten_cons,iD,ih,Nat.succ_mul,Nat.add_comm]
theorem rE:jQ X (binaryOp .Mult) IJ:=by
 intro pins s σ H x y v u Q I rx ry h;obtain⟨l,k,xs,rfl,rfl,hH,h1,h2,hz,q⟩:=h;cases rx;obtain⟨t,rfl⟩:=ry;obtain⟨z,its,n,r,hl,e⟩:=I.tm hH;have hlen:its.toArray.size * k.toNat≤sizeLine:=by rw[dY,← hl]; exact hz
 have hcap:¬ its.toArray.size * k.toNat > (2 ^ 63 - 1) / 8:=by
  have:(sizeLine:Nat)≤(2 ^ 63 - 1) / 8:=by decide
  lia
 have hfit:¬ (!Builtin.List.listFitsIndex k)=true:=by
  rw[fitsIndex_both h1 h2];exact gW
 have hlong:¬ Builtin.List.listTooLong (its.toArray.size * k.toNat)=true:=by
  rw[uj hlen];exact gW
 have hnew:List.foldl (fun x1 x2=>x1++x2) #[] (List.replicate (if its.toArray.isEmpty=true then 0 else k.toNat) its.toArray)=(List.replicate k.toNat its).flatten.toArray:=by
  have f0:∀ m:Nat,List.foldl (fun x1 x2=>x1++x2) #[] (List.replicate m its.toArray)=(List.replicate m its).flatten.toArray:=fun m=>by
   have:=foldl_rep its m [];rw[List.nil_append]at this;exact this
  rw[f0];cases its with
  | nil=>simp
  | cons a r'=>rw[if_neg (by simp)]
 refine wpAny_binaryOp_repeat_ref (T:="list") (U:="int") (by decide) ⟨_,e,rfl⟩ (fun s'=>typeIs_int s' k t) noFill_list_mul F.fills_int_mul F.slot_int_rmul repeat_list F.slot_int_index.lookup
  (call_meets F.slot_int_rmul (typeIs_int s k t) F.entry_int_rmul (F.args_int_rmul_2 _ _) (int___rmul___int_list k t l its.toArray n)
   ⟨e,rfl,⟨_,e,rfl⟩,call_meets F.slot_list_mul ⟨_,e,rfl⟩ F.entry_list_mul (F.args_list_mul_2 _ _) (AutoListH.list___mul___list_int_3 l its.toArray n k t hfit hcap hlong) ⟨e,?_⟩⟩)
 rw[hnew];exact⟨.ref _,_,I.EL (t':=s.toks) (r.rep k.toNat) (by rw[len_rep,Nat.mul_comm]; exact hz),rfl,q _ I.fresh⟩
section
variable {prog:Program}{w:World}{E:Value→Shared→Prop} 
set_option maxRecDepth 100000 in
end
end L2
namespace Att
open PySem PySem.W PySem.Calls PyProof.Rows
variable {P:Params}{h:Heap}{l:OpenLaw}{n:Nat}
theorem mC:∀ (ns:List Int) (vs:List Value),WellAll P h vs (ns.map WData.int)→IntsAre vs ns:=by
 intro ns
 induction ns with
 | nil=>
  intro vs w;rw[List.map_nil]at w;cases w;exact .nil
 | cons n ns ih=>
  intro vs w;rw[mD]at w;cases w with
  | cons a b=>
   cases a;exact .cons _ _ (ih _ b)
theorem yQ(hn:l.most=some n){args:List WData}{vals:List Value}
  (hpre:l.row.toRowW.claim.pre args=true) (hwl:WellAll P h vals args) :
  ∃ a vs ns,vals=[Value.ref a]∧args=[WData.list (ns.map WData.int)]∧h.get? a=some { cls:=.type "list",data:=.seq vs.toArray }∧IntsAre vs ns∧ns.length≤n:=by
 have hsh:WShape.hasAll [] args [.list .int]=true:=(pre_splitW hpre).1;have hc:l.pre.holds [] { args:=args }=true:=(pre_splitW hpre).2;obtain⟨d,r,rfl,h1,h2⟩:=hasAllW_cons hsh;obtain rfl:=hasAllW_nil h2;obtain⟨xs,rfl,h3⟩:=hasW_list h1;obtain⟨ns,rfl⟩:=items_int h3;have hlen:ns.length≤n:=by
  unfold OpenLaw.pre at hc;have h4:(WTm.not (.lt (.lit (.int (n:Int))) (.len (.arg 0)))).holds [] { args:=[.list (ns.map .int)] }=true:=by
   have h4:=(holds_andW hc).1;rw[hn]at h4;exact h4
  have h5:=condW_of h4 (w_not (w_lt w_lit (w_len_list (w_arg rfl))));rw[cU]at h5;refine Nat.le_of_not_lt fun q=>?_
  have q':(n:Int) < ((ns.length:Nat):Int):=by omega
  first
   | (rw[ff q']at h5; exact absurd h5 (by decide))
   | (simp at h5; omega)
 cases hwl with
 | cons w1 w2=>
  cases w2;cases w1 with
  | list ho hall=>exact⟨_,_,ns,rfl,rfl,ho,mC ns _ hall,hlen⟩
theorem yN(l:OpenLaw)(args:List WData):l.row.toRowW.claim.post args (.bool true) args=true:=
 postW_of (r:=l.row.toRowW) (X:=(true == true))
  (show WShape.has [] (.bool true) .bool=true by first | rfl | decide | simp[WShape.has,WShape.arms,WShape.armsAll])
  (show (WTm.eq .res (.lit (.bool true))).value [] { args:=args,res:=some (.bool true),after:=args }=some (.bool (true == true)) from w_eq_bool (w_res rfl) w_lit) rfl
theorem uQ{q:Program}{loose:List Str}{XP:(Str→Option Value)→Heap→Prop}{YP:World→Heap→Prop}{d:DefRec}
  (hn:l.most=some n) (hdf:d.params.defaults=[])
  (call:∀ (w:World) (s₀ s₁:Shared) (mg mb:Str→Option Value) (fa:Addr) (o:Obj) (pm cd doc:Value) (a:Addr) (vs:List Value) (ns:List Int),
   Ground q loose [] XP w s₀ mg mb s₁.heap→YP w s₁.heap→
   s₁.heap.get? fa=some o→o.data=.func (docDef d.name d.params d.body d.scope pm cd doc)→s₁.heap.CodeRec cd d.name→mg d.name=some (.ref fa)→
   s₁.heap.get? a=some {cls:=.type "list",data:=.seq vs.toArray}→IntsAre vs ns→ns.length≤n→s₁.gens=#[]→
   codeAny (model l.prog w) callerA (.call (.ref fa) ⟨[.ref a],[]⟩) (fun r s'=>r=.ok (.ret (.bool true))∧OldK s₁.heap s'.heap∧s'.os=s₁.os∧AllBare s'.gens) s₁) :
  WalkO q loose XP YP l.row.toRowW d [] (fun f vs=>PySem.call f vs):=by
 intro w s₀ s₁ mg mb G Y fa o pm cd doc dV kV ho hd hcd hD hmg hg args vals as hpre hlay hrd hwl hlo;obtain rfl:dV=.none:=Dflts.none hD hdf;obtain rfl:kV=.none:=Dflts.noKw hD;obtain⟨a,vs,ns,rfl,rfl,hobj,hints,hlen⟩:=yQ hn hpre hwl;refine enter_call (codeAny_mono (call w s₀ s₁ mg mb fa o pm cd doc a vs ns G Y ho (fd_plain hd) hcd hmg hobj hints hlen hg) fun r s' hq=>?_);obtain⟨rfl,h2,h3,h4⟩:=hq;exact⟨.inl ⟨.bool true,.bool true,[],rfl,fun _=>rfl,.bool true,yN l _,fun _=>⟨List.Pairwise.nil,fun _ hm=>(nomatch hm)⟩⟩,h2,h3,h4⟩
section
variable {prog:Program}{w:World}{A:Around}{E:Value→Shared→Prop}{s:Shared}{K:Frag}
noncomputable def ledger(h:Heap)(L d:Addr):List (Addr × Obj):=(List.range h.objs.size).filterMap fun a=>if a=L∨a=d then none else (h.get? a).map fun o=>(a,o)
end
end Att
namespace L2
open PySem PySem.Spec PyProof.Rows
variable {x:Str}
theorem qg:∀ {vs:List Value} {ns:List Int},IntsAre vs ns→Vals (ns.map V.int) vs
 | _,_,.nil=>.nil
 | _,_,.cons n t h=>.cons ⟨t,rfl⟩ (qg h)
def E2(H:Hp):Prop:=∀ b,H b=none∨∃ o xs,H b=some (.frz o (.lst xs))
theorem BZ{P:Program}{w:World}{K:aW}{mg mb:Str→Option Value}{CX:El}{k:Nat}{fa a:Addr}{fd:sE}{sp:Sp}{s₁:Shared}{vs:List Value}{ns:List Int}
  (KX:K.In s₁.heap) (hns:s₁.heap.Ns mainGlobals mg) (hb:s₁.heap.Ns builtinsNs mb) (hbb:∀ x:Str,x≠"__name__"→mb x=bootBuiltins x) (hlim:s₁.heap.NoLimit) (hg:s₁.gens=#[])
  (ha:s₁.heap.get? a=some {cls:=.type "list",data:=.seq vs.toArray}) (hi:IntsAre vs ns) (hl:ns.length≤sizeLine) (hr:dX k callerA)
  (F:∀ base:Heap,K.In base→base.Ns mainGlobals mg→bg P w K mg base CX k fa fd [x] sp) (hbind:∀ (s:Shared) (u:Value),BindsTo s fd ⟨[u],[]⟩ [(x,u)])
  (hsp:∀ H:Hp,E2 H→a7 K H a (ns.map V.int)→sp [.ref a] H (fun v _=>v=.bl true) fun _ _ _=>False)
  (hCX:∀ H e s',CX [] H s₁ (fun _ _ _=>False) e s'→False) :
  codeAny (model P w) callerA (.call (.ref fa) ⟨[.ref a],[]⟩) (fun r s'=>r=.ok (.ret (.bool true))∧OldK s₁.heap s'.heap∧s'.os=s₁.os∧AllBare s'.gens) s₁:=by
 have rv:=qg hi;have lenV:=hi.length
 -- from an abstract heap in which nothing but the script may be tracked
 have core:∀ H:Hp,E2 H→a7 K H a (ns.map V.int)→jh P w H s₁.heap→(∀ b,H b≠none→b=a)→(H a≠none→K.lookup a=none)→
   codeAny (model P w) callerA (.call (.ref fa) ⟨[.ref a],[]⟩) (fun r s'=>r=.ok (.ret (.bool true))∧OldK s₁.heap s'.heap∧s'.os=s₁.os∧AllBare s'.gens) s₁:=by
  intro H hO hS hok hA hK;have base_of:∀ {b:Addr} {o:Obj},s₁.heap.get? b=some o→H b=none→(sg s₁.heap H).get? b=some o:=fun e n=>B8 e n
  have noA:∀ {b:Addr} {o:Obj} {es:Array DictEntry} {ep:Nat},s₁.heap.get? b=some o→o.data=.dict es ep→H b=none:=fun {b o es ep} e d=>by
   cases q:H b with
   | none=>rfl
   | some u=>
    have e':b=a:=hA b (by rw[q]; simp);subst e';rw[ha]at e; cases e;have d':Data.seq vs.toArray _=Data.dict es ep:=d;cases d'
  have nsK:∀ {b:Addr} {m:Str→Option Value},s₁.heap.Ns b m→(sg s₁.heap H).Ns b m:=fun {b m} hp1=>by obtain⟨o,es,ep,e,d,r⟩:=hp1; exact⟨o,es,ep,base_of e (noA e d),d,r⟩
  have hKb:K.In (sg s₁.heap H):=fun b o e=>base_of (KX b o e) (by
   cases q:H b with
   | none=>rfl
   | some u=>
    have e':b=a:=hA b (by rw[q]; simp);subst e'
    rw[hK (by rw[q]; simp)]at e; cases e)
  have hM:Mod K mg (sg s₁.heap H):=⟨hKb,nsK hns,⟨mb,nsK hb,hbb⟩,let ⟨mc,h1,h2⟩:=hlim; ⟨mc,nsK h1,h2⟩⟩
  have e0:wt P w K mg (sg s₁.heap H) callerA [] s₁ H:=⟨rfl,hM,fun b o e=>Dp e,Nat.le_of_eq (yS _ _),trivial,fun b hb=>absurd (show b∈([]:List Addr) from hb) (by simp),hok,.of_eq hg⟩
  refine codeAny_mono ((F _ hKb (nsK hns)).run callerA [] s₁ H ⟨[.ref a],[]⟩ [.ref a] [.ref a] _ _ hr e0 (hbind s₁ (.ref a)) (.cons rfl .nil) (hsp H hO hS)) fun r s' h=>?_
  cases r with
  | error e=>exact (hCX H e s' h).elim
  | ok fl=>
   cases fl with
   | next=>exact False.elim h
   | brk=>exact False.elim h
   | cont=>exact False.elim h
   | ret u=>
    obtain⟨v,H',os,bare,un,hok',r',q⟩:=h;have q':v=.bl true:=q;subst q';obtain rfl:u=Value.bool true:=r';refine⟨rfl,OldK.of_keep fun b o e=>?_,os,bare⟩;cases q:H b with
    | none=>exact un.keep b o e q (by intro z; exact absurd (show b∈([]:List Addr) from z) (by simp)) (by simp)
    | some u=>
     rcases hO b with z | ⟨ob,xs,z⟩
     ·rw[q]at z; cases z
     ·have z2:=un.frzs b ob _ z;obtain⟨e1,_⟩:=hok b _ z;obtain⟨e2,_⟩:=hok' b _ z2;rw[e]at e1; cases e1;exact e2
 cases hk:K.lookup a with
 | some o=>
  -- the script is one of the module's own objects
  have e:=KX a o hk;rw[ha]at e;cases e;refine core (fun _=>none) (fun _=>.inl rfl) (.inr ⟨_,vs.toArray,_,hk,rfl,rfl,rfl,by rw[dY,lenV]; exact hl,by simpa using rv⟩) (fun b u z=>by have z':(none:Option HO)=some u:=z; cases z') (fun b z=>absurd rfl z) fun z=>absurd rfl z
 | none=>
  refine core (fun b=>if b=a then some (.frz { cls:=.type "list",data:=.seq vs.toArray } (.lst (ns.map V.int))) else none) (fun b=>?_) (.inl (.inr ⟨{ cls:=.type "list",data:=.seq vs.toArray },if_pos rfl⟩)) (fun b u z=>?_) (fun b z=>?_) fun _=>hk
  ·by_cases hb:b=a
   ·exact .inr ⟨_,_,if_pos hb⟩
   ·exact .inl (if_neg hb)
  ·by_cases hb:b=a
   ·have z':=(if_pos hb).symm.trans z;cases z';subst hb;exact⟨ha,by rw[cU]; exact hl,vs,_,rv,ha⟩
   ·have z':=(if_neg hb).symm.trans z;cases z'
  ·by_cases hb:b=a
   ·exact hb
   ·exact absurd (if_neg hb) z
abbrev Jr{K:aW}{h:Heap}(_:K.In h):aW:=K
theorem yx{l:PySem.W.OpenLaw}{n k:Nat}{q:Program}{loose:List Str}{XP:(Str→Option Value)→Heap→Prop}{YP:World→Heap→Prop}{d:DefRec}{K:Params→aW}{CX:World→El}{sp:World→Sp}
  (hn:l.most=some n) (hn2:n≤sizeLine) (hdf:d.params.defaults=[]) (hr:dX k callerA)
  (hY:∀ (w:World) (h:Heap),YP w h→(K w.params).In h)
  (F:∀ (w:World) (mg:Str→Option Value) (fa:Addr) (h:Heap),(K w.params).In h→h.Ns mainGlobals mg→mg d.name=some (.ref fa)→
   ∃ fd:sE,(∀ (s:Shared) (u:Value),BindsTo s fd ⟨[u],[]⟩ [(x,u)])∧
    ∀ base:Heap,(K w.params).In base→base.Ns mainGlobals mg→bg l.prog w (K w.params) mg base (CX w) k fa fd [x] (sp w))
  (hsp:∀ (w:World) (H:Hp) (a:Addr) (ns:List Int),ns.length≤n→E2 H→a7 (K w.params) H a (ns.map V.int)→sp w [.ref a] H (fun v _=>v=.bl true) fun _ _ _=>False)
  (hCX:∀ (w:World) (H:Hp) (s:Shared) (e:Value) (s':Shared),CX w [] H s (fun _ _ _=>False) e s'→False) :
  PySem.W.WalkO q loose XP YP l.row.toRowW d [] (fun f vs=>PySem.call f vs):=by
 refine Att.uQ hn hdf fun w s₀ s₁ mg mb fa o pm cd doc a vs ns G Y ho hd hcd hmg hobj hints hlen hg=>?_
 have KX:=hY w _ Y;obtain⟨fd,hb,hF⟩:=F w mg fa _ KX G.T.g hmg;exact BZ KX G.T.g G.T.b G.T.builtins G.T.nolimit hg hobj hints (vJ hlen hn2) hr hF hb (fun H hO hS=>hsp w H a ns hlen hO hS) fun H e s'=>hCX w H s₁ e s'
end L2
/- THE LAST THEOREM (shape; LID,My.* are yours):
   My.Adr: a structure of the addresses that your layer names (classes,functions); My.Txt K t: a structure (Prop) of the equations over K;
   My.txt_mk:{K} {implicit addresses ..} (e1:nsIn K mainGlobals "law" = some (some (.ref f))) (e2:K.lookup f=some ⟨oc,od,.func (fnOf "law" "law" params body scope dV kV doc pm an cdv ct),sl⟩) (e3:codeIn K cdv "law" = true) ..:∃ t,My.Txt K t
set_option maxRecDepth 100000 in
set_option maxHeartbeats 0 in
theorem PySem.Challenge.cw_LID_holds:PySem.Challenge.rw_LID.Holds:=by
 w_on; o_law; k_head; (case hw=>w_witness2)
 k_fill
 refine L2.yx (l:=PySem.Challenge.rw_LID) (n:=63) (k:=40) (x:="script") (CX:=fun w=>..) (sp:=fun _=>My.sp_law) rfl (by decide) rfl ⟨rfl,by decide,by decide⟩ (fun w h Y=>PySem.W.kIn_of Y) ?F ?S ?C
 case F=>
  intro w mg fa h KX G hmg;have T:∃ t,My.Txt (L2.Jr KX) t:=by
   dsimp only[L2.Jr]                          -- K must stand as «<heap const> w.params» for k_is
   refine' My.txt_mk ?e1 ?e2 ?e3 ..
   (case e1=>PySem.W.k_is)                    -- in the order: a name -> its address -> its object -> its parts
   (case e2=>PySem.W.k_is)
   ..
  obtain⟨t,T⟩:=T;have e0:=hmg.symm.trans (PySem.W.mg_of KX G T.law);cases e0                                       -- fa is the law's own address
  exact⟨_,fun s u=>.of_eq rfl,fun base kb nb=>My.law_fn T kb nb⟩     -- if «.of_eq rfl» comes too early: refine'⟨_,?b,fun base kb nb=>My.law_fn T kb nb⟩; exact fun s u=>.of_eq rfl
 case S=>exact fun w H a ns hl hO hS=>..
 case C=>exact ..
(the tactic k_is has no namespace: write k_is) -/
namespace L2
open PySem PySem.Spec PyProof.Rows
variable {scope:Scope}{X:Cx}{g:TG}{tc:TT}{te:TE}{H H1 H':Hp}{σ:St}{elt iter tg:Expr}{ifs:List Expr}{pos:Pos}{x qual:Str}{st:Stmt}{f a p:Addr}{A B:Prop}{xs:List V}{vars N ps:List Str}{fp:List Addr}{s:Shared}{vn n:Nat}{Q:Hp→Prop}{env:Env}{pins:List (Addr × Obj)}{wi:TI}{w:World}
noncomputable def inClass(s:Stmt)(j:Nat):Stmt:=match s with
 | .ClassDef _ _ _ body _ _ _ _ _ _ _=>body.getD j (.Pass ⟨0,0,0,0⟩)
 | _=>.Pass ⟨0,0,0,0⟩
noncomputable def fQ(s:Stmt):Arguments:=match s with
 | .FunctionDef _ a _ _ _ _ _ _ _ _=>a
 | _=>{ posonlyargs:=[],args:=[],vararg:=none,kwonlyargs:=[],kw_defaults:=[],kwarg:=none,defaults:=[] }
noncomputable def fb(s:Stmt):List Stmt:=match s with
 | .FunctionDef _ _ b _ _ _ _ _ _ _=>b
 | _=>[]
noncomputable def ao(s:Stmt):Scope:=match s with
 | .FunctionDef _ _ _ _ _ _ sc _ _ _=>sc
 | _=>{ kind:=.function,names:=[],isGenerator:=false,isCoroutine:=false }
abbrev cH:El:=fun _ _ _ _ _ _=>False
abbrev E0:XK:=fun _ _ _=>False
theorem xG:Passes cH X E0:=fun _ _ _ _ _ _ _ h=>h.elim
structure cM (K:aW) (x qual:Str) (st:Stmt) (f:Addr) (fd:sE):Prop where
 ex:∃ (oc:Value) (od:Option Addr) (kV doc pm:Value) (an:Option Addr) (cdv ct:Value) (osl:Array (Option Value)),
  fd=PySem.W.fnOf x qual (fQ st) (fb st) (ao st) .none kV doc pm an cdv ct∧K.lookup f=some ⟨oc,od,.func fd,osl⟩∧PySem.W.codeIn K cdv qual=true
 kp:PySem.W.keepIn K (.ref f)=true
section
variable {P:Program}{K:aW}{mg:Str→Option Value}{base:Heap}
theorem cM.ok{fd:sE}{k:Nat}{sp:Sp}(F:cM K x qual st f fd)(S:aF N ps (ao st))(len:∀ vs H Q E,sp vs H Q E→vs.length=ps.length)
  (hbody:∀ (cdv:Value) (A:Around) (outer:List Env) (s:Shared) (H:Hp) (vs:List V) (Q:VK) (E:XK),dX k (A.deeper (envOfC qual (ao st) s.heap.objs.size f cdv))→sp vs H Q E→
   ∃ t,zV (zC cH P w K mg base N qual (ao st) f cdv A outer s H E).Ia (fb st) t∧t {nx:=fun _ H'=>Q .non H',rt:=Q} (start N vs) H):bg P w K mg base cH (k + 1) f fd ps sp:=by
 obtain⟨oc,od,kV,doc,pm,an,cdv,ct,osl,rfl,lk,hcd⟩:=F.ex;refine Gu lk hcd S len fun A outer s H vs Q E hr hsp=>?_
 obtain⟨t,h,q⟩:=hbody cdv A outer s H vs Q E hr hsp;exact⟨t,h.Ia,q⟩
theorem cM.binds{fd:sE}(F:cM K x qual st f fd)
  (h:∀ (kV doc pm:Value) (an:Option Addr) (cdv ct:Value) (us:List Value),us.length=ps.length→bindArgs (PySem.W.fnOf x qual (fQ st) (fb st) (ao st) .none kV doc pm an cdv ct) ⟨us,[]⟩=pure (ps.zip us)):Binds K fd ps []:=by
 obtain⟨oc,od,kV,doc,pm,an,cdv,ct,osl,rfl,lk,hcd⟩:=F.ex;exact .all (h kV doc pm an cdv ct)
theorem Bs{oc:Value}{od an:Option Addr}{osl:Array (Option Value)}{kV doc pm cdv ct:Value}(l:K.lookup f=some ⟨oc,od,.func (PySem.W.fnOf x qual (fQ st) (fb st) (ao st) .none kV doc pm an cdv ct),osl⟩)
  (c:PySem.W.codeIn K cdv qual=true) (k:PySem.W.keepIn K (.ref f)=true):cM K x qual st f (PySem.W.fnOf x qual (fQ st) (fb st) (ao st) .none kV doc pm an cdv ct):=⟨⟨oc,od,kV,doc,pm,an,cdv,ct,osl,rfl,l,c⟩,k⟩
end
theorem aO(h:n≤1000):n < sizeLine:=Nat.lt_of_le_of_lt h (by decide)
theorem pv(i:Nat){x:Str}{pos:Pos}(hN:autoParam (X.N[i]?=some x) q_1)(hv:Ij X.env.scope x:=by first | exact Or.inl rfl | exact Or.inr (Or.inl rfl) | exact Or.inr (Or.inr rfl))(hd:autoParam ((x == ("__debug__":Str))=false) q_2)
  (hcd:autoParam ((x == ("__classdict__":Str))=false) q_2):PE X (.Name x pos) (GW i):=EG hN hv hd hcd
theorem bp(h:B):if false=true then A else B:=by
 rw[if_neg gW];exact h
theorem bI(h:A):if true=true then A else B:=by
 rw[if_pos rfl];exact h
theorem cT{c:Prop}[Decidable c](h1:c→A)(h2:¬ c→B):if c then A else B:=by
 by_cases h:c
 ·rw[if_pos h];exact h1 h
 ·rw[if_neg h];exact h2 h
def aD(H H':Hp):Prop:=∀ b o,H b=some o→H' b=some o
theorem aD.refl(H:Hp):aD H H:=fun _ _ h=>h
theorem aD.trans{H2:Hp}(a:aD H H1)(b:aD H1 H2):aD H H2:=fun c o h=>b c o (a c o h)
theorem aD.free(e:aD H H'){l:Addr}(h:H' l=Option.none):H l=Option.none:=by
 cases q:H l with
 | none=>rfl
 | some o=>
  rw[e l o q]at h;cases h
theorem aD.seq{K:aW}(e:aD H H')(h:a7 K H a xs):a7 K H' a xs:=by
 rcases h with (h | ⟨o,h⟩) | h
 ·exact .inl (.inl (e _ _ h))
 ·exact .inl (.inr ⟨o,e _ _ h⟩)
 ·exact .inr h
noncomputable abbrev Cx.cmp(X:Cx)(scope:Scope)(cl:List (Str × Addr))(vars:List Str)(C:Addr)(s:Shared)(H:Hp)(fp:List Addr)(pins:List (Addr × Obj)):Cx:=
 { X with N:=vars++X.N,s₀:=s,H₀:=H,env:=compEnvC scope cl C X.env,outer:=X.stack,stack:=X.stack,ex:=fp,fn:=fun _=>false,pn:=X.pn++pins,xe:=fun _ _=>False }
structure ik (X:Cx) (scope:Scope):Prop where
 kind:scope.kind=.function
 nocell:∀ y∈scope.names,y.2≠.cell
 names:∀ y∈scope.names,y.2=.local→scope.names.lookup y.1=some .local
 free:∀ y∈scope.names,y.2=.free→X.env.scope.names.lookup y.1=some .cell∨X.env.scope.names.lookup y.1=some .free
 locs:∀ x∈X.N,scope.names.lookup x≠some .local
noncomputable def HI(N:List Str)(so sc:Scope):Bool:=decide (sc.kind=.function) && sc.names.all (fun y=>decide (y.2≠.cell)) && sc.names.all (fun y=>decide (y.2=.local→sc.names.lookup y.1=some .local)) &&
 sc.names.all (fun y=>decide (y.2=.free→so.names.lookup y.1=some .cell∨so.names.lookup y.1=some .free)) && N.all (fun x=>decide (sc.names.lookup x≠some .local))
theorem cW{so:Scope}(hN:X.N=N)(hs:X.env.scope=so)(h:HI N so scope=true):ik X scope:=by
 unfold HI at h;simp only[Ei,List.all_eq_true,decide_eq_true_eq]at h;obtain⟨⟨⟨⟨h1,h2⟩,h3⟩,h4⟩,h5⟩:=h;subst hN hs;exact⟨h1,h2,h3,h4,h5⟩
theorem xj{env:Env}:∀ (names:List (Str × NameKind)) (acc:List (Str × Addr)),(∀ y∈names,y.2=.free→∃ c,env.cells.lookup y.1=some c)→(∀ p∈acc,env.cells.lookup p.1=some p.2)→
  ∃ cl,(forIn names acc (fun x cs=>(match x with | (name,kind)=>if (kind == NameKind.free)=true then do let c ← cellOf env name; pure (ForInStep.yield ((name,c)::cs)) else pure (ForInStep.yield cs):Sem (ForInStep (List (Str × Addr))))))=pure cl∧
   (∀ p∈cl,env.cells.lookup p.1=some p.2)∧(∀ p∈acc,p∈cl)∧∀ y∈names,y.2=.free→∃ c,(y.1,c)∈cl:=by
 intro names
 induction names with
 | nil=>intro acc _ h; exact⟨acc,rfl,h,fun _ z=>z,fun y hy=>by cases hy⟩
 | cons y r ih=>
  intro acc hn ha;obtain⟨n,k⟩:=y;by_cases hk:k=.free
  ·subst hk;obtain⟨c,hc⟩:=hn (n,.free) oE rfl
   obtain⟨cl,e,h1,h2,h3⟩:=ih ((n,c)::acc) (fun y hy=>hn y (tu _ hy)) (fun p hp=>by
    rcases dO.mp hp with rfl | hp
    ·exact hc
    ·exact ha p hp)
   refine⟨cl,?_,h1,fun p hp=>h2 p (tu _ hp),fun y hy hf=>?_⟩
   ·rw[DC];have e1:cellOf env n=pure c:=by unfold cellOf; rw[hc]
    simp only[beq_self_eq_true,if_true];rw[e1];exact e
   ·rcases dO.mp hy with rfl | hy
    ·exact⟨c,h2 _ oE⟩
    ·exact h3 y hy hf
  ·obtain⟨cl,e,h1,h2,h3⟩:=ih acc (fun y hy=>hn y (tu _ hy)) ha;refine⟨cl,?_,h1,h2,fun y hy hf=>?_⟩
   ·rw[DC];have hb:(k == NameKind.free)=false:=by simpa using hk
    simp only[hb,qz,oM];exact e
   ·rcases dO.mp hy with rfl | hy
    ·exact absurd hf hk
    ·exact h3 y hy hf
theorem ow(h:∀ y∈scope.names,y.2=.free→∃ c,env.cells.lookup y.1=some c) :
  ∃ cl,closureFor scope env=pure cl∧(∀ p∈cl,env.cells.lookup p.1=some p.2)∧∀ y∈scope.names,y.2=.free→∃ c,(y.1,c)∈cl:=by
 obtain⟨cl,e,h1,_,h3⟩:=xj (env:=env) scope.names [] h (fun p hp=>by cases hp);refine⟨cl,?_,h1,h3⟩;unfold closureFor;dsimp only;rw[e];rfl
theorem cm{env:Env}:∀ {names:List (Str × NameKind)} {x:Str} {k:NameKind},
  (names.map fun (n,k)=>if (k == NameKind.free && env.scope.kind == .function && env.kindOf n == some .cell) then (n,NameKind.cell) else (n,k)).lookup x=some k→
  names.lookup x=some k∨(k=.cell∧names.lookup x=some .free)
 | [],_,_,h=>by simp at h
 | (n,k0)::r,x,k,h=>by
  have ih:=@cm env r x k;change List.lookup x ((if (k0 == NameKind.free && env.scope.kind == .function && env.kindOf n == some .cell)=true then (n,NameKind.cell) else (n,k0))::_)=_ at h;by_cases hc:(k0 == NameKind.free && env.scope.kind == .function && env.kindOf n == some .cell)=true
  ·rw[if_pos hc]at h;cases hx:x == n with
   | true=>
    simp only[Cu,hx]at h ⊢;have hk0:k0=.free:=by
     simp only[Ei]at hc
     simpa using hc.1.1
    subst hk0;cases h;exact .inr ⟨rfl,rfl⟩
   | false=>
    simp only[Cu,hx]at h ⊢;exact ih h
  ·rw[if_neg hc]at h;cases hx:x == n with
   | true=>
    simp only[Cu,hx]at h ⊢;exact .inl h
   | false=>
    simp only[Cu,hx]at h ⊢;exact ih h
theorem lookup_mem{α β:Type}[BEq α][LawfulBEq α]:∀ {l:List (α × β)} {x:α} {b:β},(x,b)∈l→∃ c,l.lookup x=some c
 | (y,c)::r,x,b,h=>by
  cases hx:x == y with
  | true=>exact⟨c,by simp only[Cu,hx]⟩
  | false=>
   have hr:(x,b)∈r:=by
    rcases dO.mp h with e | e
    ·cases e; simp at hx
    ·exact e
   obtain⟨c',e⟩:=lookup_mem hr;exact⟨c',by simp only[Cu,hx]; exact e⟩
theorem DF{cl:List (Str × Addr)}{h1:Heap}{t1:Nat}(hc:X.calm=true)(S:ik X scope)(I:Inv X pins σ H s)
  (c1:∀ p∈cl,X.env.cells.lookup p.1=some p.2) (c2:∀ y∈scope.names,y.2=.free→∃ c,(y.1,c)∈cl) (hns:h1.Ns s.heap.objs.size (fun _=>none)) (hk:∀ b o,s.heap.get? b=some o→h1.get? b=some o)
  (f:∀ b∈fp,oR X pins H b) (fo:∀ b∈fp,b < s.heap.objs.size) :
  Inv (X.cmp scope cl vars s.heap.objs.size s H fp pins) [] (List.replicate vars.length none++σ) H { s with heap:=h1,toks:=t1 }:=by
 have cl1:∀ x c,cl.lookup x=some c→X.env.cells.lookup x=some c:=fun x c e=>c1 (x,c) (Ag e)
 have fsub:∀ b∈xB X.stack,b∈X.env.locals::X.fs:=I.sI
 refine⟨⟨I.ok.mod,S.kind,I.ok.glob,I.ok.blt,cq _,fun x y c h1 h2=>I.ok.inj x y c (cl1 x c h1) (cl1 y c h2),fun x hx=>?_,fun x c hf=>absurd hf (by simp),I.ok.hd,I.ok.frames,.inl rfl,
   fun b hb=>⟨eR (fo b hb),fun x c e=>(f b hb).2.2.2.2.1 x c (cl1 x c e)⟩,I.bs,vJ I.ok.bsz I.sz,fun b o e hb=>?_,fun b hb hm=>?_,I.stack,I.yF⟩,
  rfl,I.bare,Un.kept hk,⟨_,hns,fun i x v e1 e2 e3=>?_⟩,fun x c e=>?_,I.hok.fresh (cq _),fun x c e=>I.freeC x c (cl1 x c e),fun p hp=>?_,I.hok.kept hk,?_⟩
 ·-- has
  have hx':(relabel scope X.env).names.lookup x=some .cell∨(relabel scope X.env).names.lookup x=some .free:=hx;have hfree:scope.names.lookup x=some .free:=by
   rcases hx' with q | q
   ·rcases cm q with z | ⟨_,z⟩
    ·exact absurd rfl (S.nocell _ (Ag z))
    ·exact z
   ·rcases cm q with z | ⟨z,_⟩
    ·exact z
    ·cases z
  obtain⟨c,hm⟩:=c2 _ (Ag hfree) rfl;exact lookup_mem hm
 ·-- noex
  rcases (f b hb).2.2.2.1 with z | z
  ·exact I.ok.noex b o e z
  ·exact absurd (xq (dy (I.ok.bs b o e).1) z) (Cr _)
 ·-- exfs
  rcases dO.mp (fsub b hm) with z | z
  ·exact (f b hb).2.1 z
  ·exact (f b hb).2.2.1 z
 ·-- loc
  have hi:vars.length≤i:=by
   by_cases hi:i < vars.length
   ·rw[Ec (by simpa using hi),List.getElem?_replicate,if_pos hi]at e2;cases e2
   ·lia
  rw[CG (by simpa using hi),Ac]at e2;have e1':X.N[i - vars.length]?=some x:=by
   rw[← CG hi]; exact e1
  have hfree:scope.names.lookup x=some .free:=by
   rcases e3 with q | q | q
   ·rcases cm q with z | ⟨z,_⟩
    ·exact absurd z (S.locs x (gh e1'))
    ·cases z
   ·rcases cm q with z | ⟨_,z⟩
    ·exact absurd rfl (S.nocell _ (Ag z))
    ·exact z
   ·rcases cm q with z | ⟨z,_⟩
    ·exact z
    ·cases z
  have hout:=S.free _ (Ag hfree) rfl;obtain⟨m,hn,hl⟩:=I.loc;obtain⟨u,r,lk⟩:=hl _ x v e1' e2 (by rcases hout with z | z; exact .inr (.inl z); exact .inr (.inr z));refine⟨u,r,.inr ⟨?_,?_⟩⟩
  ·rcases e3 with q | q | q
   ·rcases cm q with z | ⟨z,_⟩
    ·exact absurd z (S.locs x (gh e1'))
    ·cases z
   ·exact .inl q
   ·exact .inr q
  ·obtain⟨c0,hm⟩:=c2 _ (Ag hfree) rfl;obtain⟨c,hc'⟩:=lookup_mem hm;refine⟨c,hc',?_⟩;rcases lk with ⟨z,_⟩ | ⟨_,c',e',z⟩
   ·have z':X.env.scope.names.lookup x=some .local:=z;rcases hout with y | y
    ·rw[y]at z'; cases z'
    ·rw[y]at z'; cases z'
   ·rw[cl1 x c hc']at e'; cases e';exact z.keeps hk
 ·-- cell
  obtain⟨v,z⟩:=I.cell x c (cl1 x c e);exact⟨v,z.keeps hk⟩
 ·-- pins
  have hp':p∈X.pn++pins:=by simpa using hp
  obtain⟨e,n,ne,nf,d⟩:=I.pin p hp';refine⟨hk _ _ e,n,eR (dy e),fun hm=>?_,d⟩;rcases dO.mp (fsub p.1 hm) with z | z
  ·exact ne z
  ·exact nf z
 ·show (List.replicate vars.length none++σ).length=(vars++X.N).length;rw[iD,iD,Ac,I.len]
theorem ud{cl:List (Str × Addr)}{σ':St}{s':Shared}{h':Heap}(I:Inv X pins σ H s)
  (f:∀ b∈fp,oR X pins H b) (J:Inv (X.cmp scope cl vars s.heap.objs.size s H fp pins) [] σ' H' s') (hs:Heap.SameBut s.heap.objs.size s'.heap h'):Inv X pins σ H' { s' with heap:=h' }:=by
 have u:Un (xB X.stack) fp H H' s.heap s'.heap:=J.base;have ne:∀ b o,s.heap.get? b=some o→b≠s.heap.objs.size:=fun b o e=>eR (dy e)
 have u':Un (xB X.stack) fp H H' s.heap h':=⟨fun b o e n hb hx=>(hs.2 b (ne b o e)).trans (u.keep b o e n hb hx),fun b o e n hb hx=>by
   obtain⟨sl,z⟩:=u.slot b o e n hb hx;exact⟨sl,(hs.2 b (ne b o e)).trans z⟩,u.free,fun b o e hx=>by
   obtain⟨o',z⟩:=u.there b o e hx
   exact⟨o',(hs.2 b (ne b o e)).trans z⟩,u.aS,u.frzs,u.tbls⟩
 have hn:H' s.heap.objs.size=none:=J.free;have ok:jh X.prog X.w H' h':=fun b o e=>by
  refine (J.hok b o e).sP (fun c v hc q=>(hs.2 c ?_).trans q) (fun _ q=>q) fun _ _ q=>q
  rintro rfl
  rcases hc with z | z
  ·rw[← z,hn]at e; cases e
  ·rw[hn]at z; cases z
 exact I.GI (s':={ s' with heap:=h' }) (ch:=fp) J.os u' ok J.bare fun b hb=>⟨(f b hb).2.2.2.1,(f b hb).2.1,(f b hb).2.2.2.2.1,(f b hb).2.2.2.2.2⟩
section
variable {prog:Program}{A:Around}{R:Result→Shared→Prop}
theorem jg{target:Expr}{it acc:Value}(I:Nat→Shared→Prop)
  (turn:∀ n s,I n s→wpAny (model prog w) A (pyNext it) (fun r s₁=>match r with
   | none=>R (.ok .next) s₁
   | some v=>wpAny (model prog w) A (letOwnedTupleGo target it v) (fun _ s₂=>wpAny (model prog w) A (assign target env v) (fun _ s₂=>
     wpAny (model prog w) A (forIn ifs true fun c r=>if r=true then do let ok ← isTrue c env (eval c env); pure (ForInStep.yield ok) else pure (ForInStep.yield r)) (fun ok s₃=>
      if ok=true then wpAny (model prog w) A (eval elt env) (fun x s₄=>
       wpAny (model prog w) A (call (.builtin "list.append") [acc,x]) (fun _ s₅=>∃ m,m < n∧I m s₅) (fun _ _=>False) s₄) (fun _ _=>False) s₃
      else ∃ m,m < n∧I m s₃) (fun _ _=>False) s₂) (fun _ _=>False) s₂) (fun _ _=>False) s₁) (fun _ _=>False) s)
  (n:Nat) (h:I n s):codeAny (model prog w) A (.compLoop (.ListComp elt [⟨target,iter,ifs,0⟩] scope pos) 0 it acc env) R s:=by
 refine codeAny_loop rfl I (fun n s hI=>?_) n h;show wpAny _ A ((compTurn (.ListComp elt [⟨target,iter,ifs,0⟩] scope pos) 0 it acc env).onRaise (fun x=>do noteFrame x env; theTreesLotGoes x)) _ _ s;refine wpAny_noted ?_;rw[compTurn_list];have no:∀ {E:Value→Shared→Prop} (e:Value) (s:Shared),False→E e s:=fun _ _ h=>h.elim
 refine aQ (wpAny_standAt (aQ (vv (turn n s hI) (fun r s₁ h₁=>?_) no)));cases r with
 | none=>exact bH h₁
 | some v=>
  refine aQ (vv h₁ (fun _ s₂ h₂=>?_) no);refine aQ (vv h₂ (fun _ s₂ h₂=>aQ (vv h₂ (fun ok s₃ h₃=>?_) no)) no);cases ok with
  | false=>exact bH ⟨rfl,h₃⟩
  | true=>
   exact aQ (aQ (vv h₃ (fun x s₄ h₄=>aQ (vv h₄ (fun _ s₅ h₅=>bH (bH ⟨rfl,h₅⟩)) no)) no))
end
def A6(X:Cx)(ifs:List Expr)(t:TT):Prop:=
 ∀ (pins:List (Addr × Obj)) (s:Shared) (σ:St) (H:Hp) (Q:Bool→Hp→Prop),Inv X pins σ H s→t σ H Q→
  wpAny (model X.prog X.w) X.A (forIn ifs true fun c r=>if r=true then do let ok ← isTrue c X.env (eval c X.env); pure (ForInStep.yield ok) else pure (ForInStep.yield r)) (TP X pins σ Q) X.xe s
def Eh:TT:=fun _ H Q=>Q true H
theorem cf:A6 X [] Eh:=fun pins s σ H Q I h=>wpAny_tests_nil ⟨H,I,h⟩
theorem uA{c:Expr}{t:TT}(h:PT X c t):A6 X [c] t:=fun pins s σ H Q I q=>wpAny_tests_one (h pins s σ H Q I q)
def lj(J:It)(vn:Nat)(g:TG)(tc:TT)(te:TE)(σ:St)(p:Addr)(H1:Hp)(Q:Hp→Prop):Prop:=
 ∃ W:Nat→Nat→Hp→Prop,(∃ m,W 0 m (upd H1 p (.lst [])))∧∀ i m H,W i m H→
  (J.stop i H∧Q H)∨(J.go i H∧∃ N:Hp→Prop,(∀ H',N H'→∃ m',m' < m∧W (i + 1) m' H')∧∀ x H',J.yld i H x H'→g x (List.replicate vn none++σ) H' fun σ2 H2=>(∃ τ:St,σ2=τ++σ∧τ.length=vn)∧tc σ2 H2 fun b H3=>
   if b=true then te σ2 H3 fun v H4=>∃ acc,H4 p=some (.lst acc)∧acc.length < sizeLine∧N (upd H4 p (.lst (acc++[v]))) else N H3)
def Ew(wi:TI)(vn:Nat)(g:TG)(tc:TT)(te:TE):TE:=fun σ H Q=>wi σ H fun J H1=>∀ p,H1 p=none→lj J vn g tc te σ p H1 (Q (.ref p))
theorem om{cl:List (Str × Addr)}(hc:X.calm=true)(S:ik X scope)
  (hg:∀ cl C s H fp pins,PG (X.cmp scope cl vars C s H fp pins) tg g) (ht:∀ cl C s H fp pins,A6 (X.cmp scope cl vars C s H fp pins) ifs tc) (he:∀ cl C s H fp pins,PE (X.cmp scope cl vars C s H fp pins) elt te)
  (c1:∀ p∈cl,X.env.cells.lookup p.1=some p.2) (c2:∀ y∈scope.names,y.2=.free→∃ c,(y.1,c)∈cl)
  {it:Addr} {tn:Nat→Heap→Prop} {J:It} {E:Value→Shared→Prop} (I:Inv X pins σ H s) (T:Turn X.prog X.w X.K tg J fp it tn) (st:tn 0 s.heap) (f:∀ b∈fp,oR X pins H b)
  {Q:Addr→Hp→Prop} (q:∀ p,H p=none→lj J vars.length g tc te σ p H (Q p)) {RR:Value→Addr→Result→Shared→Prop}
  (hRR:∀ (p C:Addr) (s':Shared) (H':Hp) (m:Str→Option Value),s'.heap.Ns C m→H' C=none→C≠X.env.locals→(∀ x c,X.env.cells.lookup x=some c→c≠C)→(∀ p∈X.pn++pins,p.1≠C)→X.s₀.heap.objs.size≤C→
   (∀ h',Heap.SameBut C s'.heap h'→Inv X pins σ H' {s' with heap:=h'})→Q p H'→RR (.ref p) C (.ok .next) s') :
  wpAny (model X.prog X.w) X.A (newList []) (fun acc s₃=>wpAny (model X.prog X.w) X.A (newFunctionEnv scope X.env.globals cl [] X.env.qual none .none (some X.env)) (fun cenv s₄=>
   codeAny (model X.prog X.w) X.A (.compStart (.ListComp elt [⟨tg,iter,ifs,0⟩] scope pos) 0 (.ref it) acc { cenv with scope:=relabel scope X.env }) (RR acc cenv.locals) s₄) E s₃) E s:=by
 refine Ea (wpAny_newFunctionEnv S.nocell (by intro y hy; simp at hy) (fun h₁ hns hsb=>?_) S.kind);dsimp only at hns hsb ⊢;have I3:Inv X pins σ (upd H s.heap.objs.size (.lst [])) { s with heap:=s.heap.push { cls:=.type "list",data:=.seq ([]:List Value).toArray },toks:=s.toks }:=I.EL (its:=[]) .nil (fE _);generalize hs3:({ s with heap:=s.heap.push { cls:=.type "list",data:=.seq ([]:List Value).toArray },toks:=s.toks }:Shared)=s3 at I3;have hp:H s.heap.objs.size=none:=I.fresh;have eh:s3.heap=s.heap.push { cls:=.type "list",data:=.seq ([]:List Value).toArray }:=by rw[← hs3]
 have sz3:s3.heap.objs.size=s.heap.objs.size + 1:=by rw[eh,Ck]
 rw[← eh]at hns hsb;have fo:∀ b∈fp,b < s.heap.objs.size:=fun b hb=>by
  obtain⟨o,e,_⟩:=T.obj _ _ st b hb;exact dy e
 have f3:∀ b∈fp,oR X pins (upd H s.heap.objs.size (.lst [])) b:=fun b hb=>by
  refine⟨?_,(f b hb).2⟩;rw[aq (eR (fo b hb))]; exact (f b hb).1
 have fo3:∀ b∈fp,b < s3.heap.objs.size:=fun b hb=>by rw[sz3]; exact Nat.lt_succ_of_lt (fo b hb)
 have up:∀ b o,s3.heap.get? b=some o→h₁.get? b=some o:=fun b o e=>hsb.extBut b o (eR (dy e)) (dE _ e)
 have st1:tn 0 h₁:=T.keep 0 _ _ st fun b hb o e=>up b o (by rw[eh]; exact dE _ e)
 have I4:Inv (X.cmp scope cl vars s3.heap.objs.size s3 (upd H s.heap.objs.size (.lst [])) fp pins) [] (List.replicate vars.length none++σ) (upd H s.heap.objs.size (.lst [])) { s3 with heap:=h₁,toks:=s3.toks + ([]:List (Str × Value)).length }:=
  DF hc S I3 c1 c2 hns up f3 fo3
 obtain⟨W,⟨m0,w0⟩,turn⟩:=q _ hp;have es:({ s3 with heap:=h₁,toks:=s3.toks + ([]:List (Str × Value)).length }:Shared)={ s with heap:=h₁,toks:=s.toks + ([]:List (Str × Value)).length }:=by rw[← hs3]
 -- what stays true of the iterator's objects
 have stat:∀ {H':Hp},(∀ b∈fp,H' b=none)→∀ b∈fp,oR (X.cmp scope cl vars s3.heap.objs.size s3 (upd H s.heap.objs.size (.lst [])) fp pins) [] H' b:=fun hn b hb=>by
  refine⟨hn b hb,eR (fo3 b hb),fun hm=>?_,.inl hb,fun x c e=>(f b hb).2.2.2.2.1 x c (c1 (x,c) (Ag e)),fun p hp=>(f b hb).2.2.2.2.2 p (by simpa using hp)⟩;rcases dO.mp (I3.sI b hm) with z | z
  ·exact (f b hb).2.1 z
  ·exact (f b hb).2.2.1 z
 have loop:∀ s₄:Shared,s₄={ s3 with heap:=h₁,toks:=s3.toks + ([]:List (Str × Value)).length }→
   codeAny (model X.prog X.w) X.A (.compLoop (.ListComp elt [⟨tg,iter,ifs,0⟩] scope pos) 0 (.ref it) (.ref s.heap.objs.size) (compEnvC scope cl s3.heap.objs.size X.env)) (RR (.ref s.heap.objs.size) s3.heap.objs.size) s₄:=by
  rintro s₄ rfl
  refine jg (fun n s'=>∃ i H',Inv (X.cmp scope cl vars s3.heap.objs.size s3 (upd H s.heap.objs.size (.lst [])) fp pins) [] (List.replicate vars.length none++σ) H' s'∧tn i s'.heap∧(∀ b∈fp,H' b=none)∧W i n H') ?_ m0
   ⟨0,_,I4,st1,fun b hb=>(f3 b hb).1,w0⟩
  rintro n s5 ⟨i,H5,I5,st5,fr5,w5⟩
  rcases turn i n H5 w5 with ⟨stop,qn⟩ | ⟨go,N,hN,step⟩
  ·refine bW (T.done (X.cmp scope cl vars s3.heap.objs.size s3 (upd H s.heap.objs.size (.lst [])) fp pins) rfl rfl rfl hc i [] s5 _ H5 _ I5 (stat fr5) st5 stop) fun r s6 hpat=>?_
   obtain⟨hr,I6⟩:=hpat;subst hr;obtain⟨m,hn,_⟩:=id I6.loc;refine hRR _ _ s6 H5 m hn I6.free ?_ ?_ ?_ ?_ (fun h' hs'=>ud I3 f3 I6 hs') qn
   ·exact Nat.ne_of_gt I3.lt
   ·intro x c e z;obtain⟨v,hv⟩:=I3.cell x c e;exact absurd hv.lt (by rw[z]; exact Cr _)
   ·intro p hp z;obtain⟨e,_⟩:=I3.pin p hp;exact absurd (dy e) (by rw[z]; exact Cr _)
   ·exact I3.sz
  ·refine bW (T.item (X.cmp scope cl vars s3.heap.objs.size s3 (upd H s.heap.objs.size (.lst [])) fp pins) rfl rfl rfl hc i [] s5 _ H5 _ I5 (stat fr5) st5 go) fun r s6 hpat=>?_
   obtain⟨u,hr,h6⟩:=hpat;subst hr;refine bW h6 fun _ s7 hpat=>?_
   obtain⟨x,H7,I7,r7,y7,st7,fr7⟩:=hpat;have I7':=I7.pinned (stat fr7) (T.obj _ _ st7);refine bW (hg _ _ _ _ _ _ _ s7 _ H7 x u _ I7' r7 (step x H7 y7)) fun _ s8 hpat=>?_
   obtain⟨σ8,H8,I8,⟨τ,e8,l8⟩,q8⟩:=hpat;have back:∀ {H9:Hp} {s9:Shared} {m':Nat},Inv (X.cmp scope cl vars s3.heap.objs.size s3 (upd H s.heap.objs.size (.lst [])) fp pins) ([]++oY fp s7.heap) σ8 H9 s9→m' < n→W (i + 1) m' H9→
     ∃ m,m < n∧∃ i H',Inv (X.cmp scope cl vars s3.heap.objs.size s3 (upd H s.heap.objs.size (.lst [])) fp pins) [] (List.replicate vars.length none++σ) H' s9∧tn i s9.heap∧(∀ b∈fp,H' b=none)∧W i m H':=by
    intro H9 s9 m' I9 hm w9;refine⟨m',hm,i + 1,H9,(I9.jW (pins:=[])).weak ?_ ?_,T.keep _ _ _ st7 fun b hb o e=>(I9.pin (b,o) (vA _ (vA _ (gA hb e)))).1,fun b hb=>?_,w9⟩
    ·rw[e8,iD,iD,Ac,l8]
    ·intro j v ej;by_cases hj:j < vars.length
     ·rw[Ec (by simpa using hj),List.getElem?_replicate,if_pos hj]at ej;cases ej
     ·rw[CG (by simpa using hj),Ac]at ej;rw[e8,CG (by lia),l8];exact ej
    ·obtain⟨o,e,d⟩:=T.obj _ _ st7 b hb;exact (I9.pin (b,o) (vA _ (vA _ (gA hb e)))).2.1
   refine bW (ht _ _ _ _ _ _ _ s8 σ8 H8 _ I8 q8) fun b s9 hpat=>?_
   obtain⟨H9,I9,q9⟩:=hpat;cases b with
   | false=>
    rw[if_neg gW]at q9 ⊢;obtain⟨m',hm,w9⟩:=hN _ q9;exact back I9 hm w9
   | true=>
    rw[if_pos rfl]at q9 ⊢;refine bW (he _ _ _ _ _ _ _ s9 σ8 H9 _ I9 q9) fun y s10 hpat=>?_
    obtain⟨v,H10,I10,r10,acc,a10,z10,w10⟩:=hpat;refine bW (cE _ s10 σ8 H10 (.ref s.heap.objs.size) [v] (.ref s.heap.objs.size) [y] (fun _ H11=>N H11) I10 rfl (.cons r10 .nil) ⟨_,acc,v,rfl,rfl,a10,z10,w10⟩) fun _ s11 hpat=>?_
    obtain⟨_,H11,I11,_,w11⟩:=hpat;obtain⟨m',hm,w12⟩:=hN _ w11;exact back I11 hm w12
 have fin:=codeAny_compStart_list (loop _ rfl) (T.self X.A 0 { s3 with heap:=h₁,toks:=s3.toks + ([]:List (Str × Value)).length } _ _ st1 (loop _ rfl));subst hs3;exact fin
theorem cS(vars:List Str)(hc:X.calm=true)(S:ik X scope)(hi:PI X tg iter wi)
  (hg:∀ cl C s H fp pins,PG (X.cmp scope cl vars C s H fp pins) tg g) (ht:∀ cl C s H fp pins,A6 (X.cmp scope cl vars C s H fp pins) ifs tc) (he:∀ cl C s H fp pins,PE (X.cmp scope cl vars C s H fp pins) elt te)
  (hs:autoParam (∀ x,foldedSetIterable iter X.env x=pure x) q_4):PE X (.ListComp elt [⟨tg,iter,ifs,0⟩] scope pos) (Ew wi vars.length g tc te):=by
 intro pins s σ H Q I h;obtain⟨cl,hcl,c1,c2⟩:=ow (scope:=scope) (env:=X.env) fun y hy hf=>I.ok.has y.1 (by rcases S.free y hy hf with z | z; exact .inl z; exact .inr z)
 rw[eval_ListComp];refine wpAny_comprehension_free (use:=none) rfl hs hcl S.kind S.names (bW (hi pins s σ H _ I h) fun v s1 h1=>bW h1 fun itv s2 h2=>?_);obtain⟨it,fp,tn,J,H2,e,I2,T,st2,f2,q⟩:=h2;subst e;refine om (vars:=vars) (Q:=fun p=>Q (.ref p)) hc S hg ht he c1 c2 I2 T st2 f2 q (RR:=fun acc C=>compPost (model X.prog X.w) X.A X.xe none (EP X pins σ Q) acc C) ?_;intro p C s' H' m hn _ _ _ _ _ back hq;exact⟨m,hn,fun h' hs'=>⟨.ref p,H',back h' hs',rfl,hq⟩⟩
def Bu(i:Nat)(wi:TI)(vn:Nat)(g:TG)(tc:TT)(te:TE):TS:=fun D σ H=>Ew wi vn g tc te σ H fun v H1=>D.nx (σ.set i (some v)) H1
theorem jA{spos py:Pos}{i:Nat}{y:Str}(vars:List Str)(hc:X.calm=true)(S:ik X scope)
  (hN:X.N.Nodup) (hy:X.N[i]?=some y) (hl:Loc X.env.scope y) (hi:PI X tg iter wi)
  (hg:∀ cl C s H fp pins,PG (X.cmp scope cl vars C s H fp pins) tg g) (ht:∀ cl C s H fp pins,A6 (X.cmp scope cl vars C s H fp pins) ifs tc) (he:∀ cl C s H fp pins,PE (X.cmp scope cl vars C s H fp pins) elt te)
  (hsw:swapsWith (.ListComp elt [⟨tg,iter,ifs,0⟩] scope pos) (some (.Name y py)) spos.line X.env=pure true)
  (hf:autoParam (X.fn y=true∨X.env.scope.names.lookup y=some .local) q_3)
  (hs:autoParam (∀ x,foldedSetIterable iter X.env x=pure x) q_4) :
  PS X (.Assign [.Name y py] (.ListComp elt [⟨tg,iter,ifs,0⟩] scope pos) spos) (Bu i wi vars.length g tc te):=by
 intro pins s σ H D I h;obtain⟨cl,hcl,c1,c2⟩:=ow (scope:=scope) (env:=X.env) fun y hy hf=>I.ok.has y.1 (by rcases S.free y hy hf with z | z; exact .inl z; exact .inr z)
 rw[exec_Assign_Name_used _ _ _ _ hsw];refine aQ (wpAny_standAt (aQ ?_));show wpAny _ X.A (do let _ ← comprehension (.ListComp elt [⟨tg,iter,ifs,0⟩] scope pos) scope X.env _ (newList []) false (eval iter X.env) (some (assign (.Name y py) X.env))) _ _ s
 refine aQ (vv (wpAny_comprehension_free (use:=some (assign (.Name y py) X.env)) (Q:=fun _ s'=>SP X pins D .next s') rfl hs hcl S.kind S.names
  (bW (hi pins s σ H _ I h) fun v s1 h1=>bW h1 fun itv s2 h2=>?_)) (fun _ s' hq=>bH (bH hq)) fun _ _ e=>e)
 obtain⟨it,fp,tn,J,H2,e,I2,T,st2,f2,q⟩:=h2;subst e;refine om (vars:=vars) (Q:=fun p H1=>D.nx (σ.set i (some (.ref p))) H1) hc S hg ht he c1 c2 I2 T st2 f2 q (RR:=fun acc C=>compPost (model X.prog X.w) X.A X.xe (some (assign (.Name y py) X.env)) (fun _ s'=>SP X pins D .next s') acc C) ?_;intro p C s' H' m hn hC hL hcells hpins hsz back hq;have I':Inv X pins σ H' s':=by have:=back s'.heap (.refl ..); exact this
 show wpAny _ X.A (assign (.Name y py) X.env (.ref p)) _ _ _;refine wpAny_assign_Name (qt I' hN hy hl (v:=.ref p) (u:=.ref p) rfl (fun s'' I'' hpat=>?_) hf);obtain⟨a,sb,ha⟩:=hpat;have hCa:C≠a:=by
  rcases ha with z | z
  ·rw[z]; exact hL
  ·exact fun w=>hcells _ _ z w.symm
 refine⟨m,hn.sameBut sb hCa,fun h' hs'=>⟨_,H',I''.turned (t':=s''.toks) (it:=C) (fun b o hb e=>(hs'.2 b hb).trans e) hC hL (.inr hsz) hcells hpins,hq⟩⟩
theorem eA{lo:Int}(Pv:Nat→Hp→Prop)(h0:Pv 0 (upd H1 p (.lst [])))
  (hs:∀ i H,i < n→Pv i H→g (.int (lo + i)) (List.replicate vn none++σ) H fun σ2 H2=>(∃ τ:St,σ2=τ++σ∧τ.length=vn)∧tc σ2 H2 fun b H3=>
   if b=true then te σ2 H3 fun v H4=>∃ acc,H4 p=some (.lst acc)∧acc.length < sizeLine∧Pv (i + 1) (upd H4 p (.lst (acc++[v]))) else Pv (i + 1) H3) (hd:∀ H,Pv n H→Q H):lj (FP lo n) vn g tc te σ p H1 Q:=by
 refine⟨fun i m H=>i≤n∧m=n - i∧Pv i H,⟨n,fE _,rfl,h0⟩,fun i m H hw=>?_⟩;obtain⟨hi,rfl,hp⟩:=hw;by_cases hl:i < n
 ·refine .inr ⟨hl,Pv (i + 1),fun H' h'=>⟨n - (i + 1),by lia,by lia,rfl,h'⟩,fun x H' hy=>?_⟩;obtain⟨e1,e2⟩:=hy;subst e1 e2;exact hs i _ hl hp
 ·have e:i=n:=by lia
  subst e;exact .inl ⟨cq _,hd H hp⟩
theorem fh{K:aW}(Pv:Nat→Hp→Prop)(h0:Pv 0 (upd H1 p (.lst [])))(hl:∀ i H,i≤xs.length→Pv i H→a7 K H a xs)
  (hs:∀ i x H,xs[i]?=some x→Pv i H→g x (List.replicate vn none++σ) H fun σ2 H2=>(∃ τ:St,σ2=τ++σ∧τ.length=vn)∧tc σ2 H2 fun b H3=>
   if b=true then te σ2 H3 fun v H4=>∃ acc,H4 p=some (.lst acc)∧acc.length < sizeLine∧Pv (i + 1) (upd H4 p (.lst (acc++[v]))) else Pv (i + 1) H3) (hd:∀ H,Pv xs.length H→Q H):lj (FY K a) vn g tc te σ p H1 Q:=by
 refine⟨fun i m H=>i≤xs.length∧m=xs.length - i∧Pv i H,⟨xs.length,fE _,rfl,h0⟩,fun i m H hw=>?_⟩;obtain⟨hi,rfl,hp⟩:=hw;have hq:=hl i H hi hp;by_cases hlt:i < xs.length
 ·refine .inr ⟨⟨xs,xs[i],hq,cu hlt⟩,Pv (i + 1),fun H' h'=>⟨xs.length - (i + 1),by lia,by lia,rfl,h'⟩,fun x H' hy=>?_⟩;obtain⟨e1,e2⟩:=hy;subst e1;exact hs i x _ (e2 xs hq) hp
 ·have e:i=xs.length:=by lia
  subst e;exact .inl ⟨⟨xs,hq,cq _⟩,hd H hp⟩
theorem kc{K:aW}(Pv:Nat→Hp→Prop)(h0:Pv 0 (upd H1 p (.lst [])))(hl:∀ i H,i≤xs.length→Pv i H→bY K H a xs)
  (hs:∀ i x H,xs[i]?=some x→Pv i H→g x (List.replicate vn none++σ) H fun σ2 H2=>(∃ τ:St,σ2=τ++σ∧τ.length=vn)∧tc σ2 H2 fun b H3=>
   if b=true then te σ2 H3 fun v H4=>∃ acc,H4 p=some (.lst acc)∧acc.length < sizeLine∧Pv (i + 1) (upd H4 p (.lst (acc++[v]))) else Pv (i + 1) H3) (hd:∀ H,Pv xs.length H→Q H):lj (FX K a) vn g tc te σ p H1 Q:=by
 refine⟨fun i m H=>i≤xs.length∧m=xs.length - i∧Pv i H,⟨xs.length,fE _,rfl,h0⟩,fun i m H hw=>?_⟩;obtain⟨hi,rfl,hp⟩:=hw;have hq:=hl i H hi hp;by_cases hlt:i < xs.length
 ·refine .inr ⟨⟨xs,xs[i],hq,cu hlt⟩,Pv (i + 1),fun H' h'=>⟨xs.length - (i + 1),by lia,by lia,rfl,h'⟩,fun x H' hy=>?_⟩;obtain⟨e1,e2⟩:=hy;subst e1;exact hs i x _ (e2 xs hq) hp
 ·have e:i=xs.length:=by lia
  subst e;exact .inl ⟨⟨xs,hq,cq _⟩,hd H hp⟩
end L2
namespace ZT
open PySem PySem.Spec PyProof.Rows
variable {l1 l2 z i1 i2 it t S:Addr}{xs ys items:Array Value}{Q E:Value→Shared→Prop}{x y res:Value}{i:Nat}{f:Bool}{R:Result→Shared→Prop}{prog:Program}{w:World}{A:Around}{s:Shared}
theorem next_item(hit:s.heap.IsTupleIter it t i)(ht:s.heap.IsTuple t items)(hx:items[i]?=some x)
  (hQ:∀ h',h'.IsTupleIter it t (i + 1)→Heap.SameBut it s.heap h'→Q x {s with heap:=h'}):wpAny (model prog w) A (Builtin.SmallTypes.nextOf (.ref it)) Q E s:=by
 obtain⟨o,ho,hc,hd⟩:=id hit;obtain⟨ol,hol,_,nl,hdl⟩:=ht;unfold Builtin.SmallTypes.nextOf;refine aQ (Eb (name:=Str.ofString "__next__") hit.typeIs F.slot_tuple_iterator_next (yp F.slot_tuple_iterator_next hit.typeIs F.entry_tuple_iterator_next ?_ (F.args_tuple_iterator_next_1 _)));change wpAny _ _ (field (.ref it) 0 >>= _) _ _ s;refine aQ (o6 ho hd (x:=.ref t) rfl ?_);change wpAny _ _ (if (Value.ref t == Value.none)=true then _ else _) _ _ s;rw[if_neg (show ¬ ((Value.ref t == Value.none)=true) from gW)];change wpAny _ _ (field (.ref it) 1 >>= _) _ _ s;refine aQ (o6 ho hd (x:=.int i 0) rfl ?_);change wpAny _ _ (seqItems? (.ref t) >>= _) _ _ s;refine aQ (BY hol hdl ?_);simp only[m8,hx];refine aQ (wpAny_setField ho hd (by simp) (bH ⟨x,rfl,bH (hQ _ ?_ (Heap.SameBut.update ..))⟩));exact⟨_,Fn _ ho (Obj.isFreed_of_fields (Obj.data_mapFields hd _)),(Obj.cls_mapFields ..).trans hc,by rw[Obj.data_mapFields hd]; simp[rawInt]⟩
theorem next_end(hh:A.handled=none)(hit:s.heap.IsTupleIter it t i)(ht:s.heap.IsTuple t items)(hx:items[i]?=none)
  (hE:∀ h' e,Heap.ExtBut it s.heap h'→(∃ o,h'.get? e=some o∧o.cls=.type "StopIteration")→E (.ref e) {s with heap:=h'}):wpAny (model prog w) A (Builtin.SmallTypes.nextOf (.ref it)) Q E s:=by
 obtain⟨o,ho,hc,hd⟩:=id hit;obtain⟨ol,hol,_,nl,hdl⟩:=ht;unfold Builtin.SmallTypes.nextOf;refine aQ (Eb (name:=Str.ofString "__next__") hit.typeIs F.slot_tuple_iterator_next (yp F.slot_tuple_iterator_next hit.typeIs F.entry_tuple_iterator_next ?_ (F.args_tuple_iterator_next_1 _)));change wpAny _ _ (field (.ref it) 0 >>= _) _ _ s;refine aQ (o6 ho hd (x:=.ref t) rfl ?_);change wpAny _ _ (if (Value.ref t == Value.none)=true then _ else _) _ _ s;rw[if_neg (show ¬ ((Value.ref t == Value.none)=true) from gW)];change wpAny _ _ (field (.ref it) 1 >>= _) _ _ s;refine aQ (o6 ho hd (x:=.int i 0) rfl ?_);change wpAny _ _ (seqItems? (.ref t) >>= _) _ _ s;refine aQ (BY hol hdl ?_);simp only[m8,hx];refine aQ (tR (aQ (wpAny_setField ho hd (by simp) ?_)));change wpAny _ _ (newExc (.type "StopIteration") [] >>= _) _ _ _;refine aQ ?_;simp only[newExc,newTuple];refine aQ (Ea ?_ (by size_fits));refine aQ (m:=firstArgMember _ _) (wpAny_of_eq (a:=Value.none) (by first | rfl | (simp only[firstArgMember]; rfl)) ?_);refine Ea ?_ (by size_fits);simp only[raiseNew];refine aQ (wpAny_handled ?_)
 first | rw[show A.in1.handled=none from hh] | rw[hh]
 refine aQ (bH (wpAny_throw ?_));exact hE _ _ (((Heap.SameBut.update ..).extBut.push _).push _) ⟨_,jN _ rfl,rfl⟩
abbrev pD(h:Heap)(z TI TO:Addr)(f0 f1:Value):Prop:=h.get? z=some { cls:=.type "zip",dict:=none,data:=.fields #[f0,f1,.bool false,.ref TI,.ref TO],slots:=#[] }
structure Zt (h:Heap) (z TI TO i1 i2 l1 l2:Addr) (xs ys:Array Value) (k:Nat):Prop where
 ti:IsPair h TI (.ref i1) (.ref i2)
 to:∃ a b,IsPair h TO a b
 n1:h.IsTupleIter i1 l1 k
 n2:h.IsTupleIter i2 l2 k
 t1:h.IsTuple l1 xs
 t2:h.IsTuple l2 ys
theorem dr{h h':Heap}{a:Addr}(x:h.IsTuple a items)(k:∀ o,h.get? a=some o→h'.get? a=some o):h'.IsTuple a items:=let ⟨o,e,r⟩:=x; ⟨o,k o e,r⟩
theorem wJ{TI TO:Addr}{k:Nat}(D:ZipApart z TI TO i1 i2 l1 l2)(hz:pD s.heap z TI TO .none (.bool false))(Z:Zt s.heap z TI TO i1 i2 l1 l2 xs ys k)
  (hx:xs[k]?=some x) (hy:ys[k]?=some y)
  (hQ:∀ h',pD h' z TI TO (rawInt s.heap.objs.size) (.bool false)→Zt h' z TI TO i1 i2 l1 l2 xs ys (k + 1)→IsPair h' s.heap.objs.size x y→
   (∀ c o,c≠z→c≠TO→c≠i1→c≠i2→s.heap.get? c=some o→h'.get? c=some o)→Q (.ref s.heap.objs.size) {s with heap:=h'}) :
  wpAny (model prog w) A (Builtin.«zip.__next__» ⟨[.ref z],[]⟩) (fun fin s'=>∃ v,fin=.done (.ret v)∧Q v s') E s:=by
 obtain⟨hTI,⟨a,b,hTO⟩,h1,h2,hl1,hl2⟩:=Z;change wpAny _ _ (field (.ref z) 2 >>= _) _ _ _;refine aQ (o6 hz rfl (x:=.bool false) rfl ?_);change wpAny _ _ (field (.ref z) 3 >>= _) _ _ _;refine aQ (o6 hz rfl (x:=.ref TI) rfl ?_);refine aQ (BY hTI rfl ?_);change wpAny _ _ (Builtin.SmallTypes.ownedTupleIsFree (.ref z) >>= _) _ _ _;refine aQ ?_;unfold Builtin.SmallTypes.ownedTupleIsFree;refine aQ (o6 hz rfl (x:=.none) rfl (bH ?_));simp only[if_true];refine aQ (tR ?_);refine aQ (o6 hz rfl (x:=.ref TO) rfl ?_);refine aQ (Ex hz (by simp) fun g1 z1 b1=>?_);replace z1:pD g1 z TI TO .ellipsis (.bool false):=z1;refine aQ ?_;simp only[List.zipIdx_cons,List.zipIdx_nil,DC,List.forIn_nil];refine aQ (aQ (wpAny_onRaise ?_));change wpAny _ _ (Builtin.SmallTypes.nextOf (.ref i1) >>= _) _ _ _;refine aQ (next_item (h1.extBut b1.extBut D.i1z) (hl1.extBut b1.extBut D.l1z) hx fun g2 n2 b2=>bH ?_);have o2:IsPair g2 TO a b:=b2.extBut _ _ D.TOi1 (b1.extBut _ _ D.TOz hTO);refine aQ (BY o2 rfl ?_);refine aQ (wpAny_updateSeq_pair o2 fun g3 o3 b3=>?_);replace o3:IsPair g3 TO x b:=o3;refine aQ (wpAny_letGo (bH ?_));refine aQ (aQ (wpAny_onRaise ?_));change wpAny _ _ (Builtin.SmallTypes.nextOf (.ref i2) >>= _) _ _ _;refine aQ (next_item (((h2.extBut b1.extBut D.i2z).extBut b2.extBut D.i12.symm).extBut b3.extBut D.TOi2.symm) (((hl2.extBut b1.extBut D.l2z).extBut b2.extBut D.l2i1).extBut b3.extBut D.l2TO) hy fun g4 n4 b4=>bH ?_);have o4:IsPair g4 TO x b:=b4.extBut _ _ D.TOi2 o3;refine aQ (BY o4 rfl ?_);refine aQ (wpAny_updateSeq_pair o4 fun g5 o5 b5=>?_);replace o5:IsPair g5 TO x y:=o5;refine aQ (wpAny_letGo (bH (bH ?_)));refine aQ (BY o5 rfl ?_);refine aQ (wpAny_newTuple ?_);have hsz:g5.objs.size=s.heap.objs.size:=by rw[b5.1,b4.1,b3.1,b2.1,b1.1]
 have z5:pD g5 z TI TO .ellipsis (.bool false):=b5.extBut _ _ D.TOz.symm (b4.extBut _ _ D.i2z.symm (b3.extBut _ _ D.TOz.symm (b2.extBut _ _ D.i1z.symm z1)));have k5:∀ c o,c≠z→c≠TO→c≠i1→c≠i2→s.heap.get? c=some o→g5.get? c=some o:=fun c o c1 c2 c3 c4 e=>
  b5.extBut _ _ c2 (b4.extBut _ _ c4 (b3.extBut _ _ c2 (b2.extBut _ _ c3 (b1.extBut _ _ c1 e))))
 have m1:g5.IsTupleIter i1 l1 (k + 1):=((n2.extBut b3.extBut D.TOi1.symm).extBut b4.extBut D.i12).extBut b5.extBut D.TOi1.symm;have m2:g5.IsTupleIter i2 l2 (k + 1):=n4.extBut b5.extBut D.TOi2.symm;have zlt:z < g5.objs.size:=dy z5;change wpAny _ _ (Builtin.SmallTypes.ownedTupleHandOut (.ref z) (.ref g5.objs.size) >>= _) _ _ _;refine aQ ?_;unfold Builtin.SmallTypes.ownedTupleHandOut;have z6:pD (g5.push { cls:=.type "tuple",data:=.seq #[x,y] }) z TI TO .ellipsis (.bool false):=dE _ z5;refine aQ (Ex z6 (by simp) fun g7 z7 b7=>?_);replace z7:pD g7 z TI TO (rawInt g5.objs.size) (.bool false):=z7;refine Ex z7 (by simp) fun g8 z8 b8=>?_
 replace z8:pD g8 z TI TO (rawInt g5.objs.size) (.bool false):=z8;have up:∀ c o,c≠z→g5.get? c=some o→g8.get? c=some o:=fun c o c1 e=>b8.extBut _ _ c1 (b7.extBut _ _ c1 (dE _ e))
 have p8:IsPair g8 g5.objs.size x y:=b8.extBut _ _ (Nat.ne_of_gt zlt) (b7.extBut _ _ (Nat.ne_of_gt zlt) (jN _ rfl));rw[hsz]at z8 p8;refine bH ⟨_,rfl,?_⟩;change Q (.ref g5.objs.size) _;rw[hsz];have all:∀ c o,c≠z→c≠TO→c≠i1→c≠i2→s.heap.get? c=some o→g8.get? c=some o:=fun c o c1 c2 c3 c4 e=>up c o c1 (k5 c o c1 c2 c3 c4 e)
 exact hQ g8 z8 ⟨all _ _ D.TIz D.TITO D.TIi1 D.TIi2 hTI,⟨x,y,up _ _ D.TOz o5⟩,m1.at fun o e=>up _ o D.i1z e,m2.at fun o e=>up _ o D.i2z e,dr hl1 fun o e=>all _ o D.l1z D.l1TO D.l1i1 D.l1i2 e,
  dr hl2 fun o e=>all _ o D.l2z D.l2TO D.l2i1 D.l2i2 e⟩ p8 all
theorem zJ{TI TO T:Addr}{k:Nat}{oT:Obj}(D:ZipApart z TI TO i1 i2 l1 l2)(hz:pD s.heap z TI TO (rawInt T) (.bool f))(hT:s.heap.get? T=some oT)
  (Z:Zt s.heap z TI TO i1 i2 l1 l2 xs ys k) (hx:xs[k]?=some x) (hy:ys[k]?=some y)
  (hQ:∀ h',pD h' z TI TO (rawInt T) (.bool true)→Zt h' z TI TO i1 i2 l1 l2 xs ys (k + 1)→IsPair h' s.heap.objs.size x y→
   (∀ c o,c≠z→c≠TO→c≠i1→c≠i2→s.heap.get? c=some o→h'.get? c=some o)→Q (.ref s.heap.objs.size) {s with heap:=h'}) :
  wpAny (model prog w) A (Builtin.«zip.__next__» ⟨[.ref z],[]⟩) (fun fin s'=>∃ v,fin=.done (.ret v)∧Q v s') E s:=by
 obtain⟨hTI,⟨a,b,hTO⟩,h1,h2,hl1,hl2⟩:=Z;change wpAny _ _ (field (.ref z) 2 >>= _) _ _ _;refine aQ (o6 hz rfl (x:=.bool false) rfl ?_);change wpAny _ _ (field (.ref z) 3 >>= _) _ _ _;refine aQ (o6 hz rfl (x:=.ref TI) rfl ?_);refine aQ (BY hTI rfl ?_);change wpAny _ _ (Builtin.SmallTypes.ownedTupleIsFree (.ref z) >>= _) _ _ _;refine aQ ?_;unfold Builtin.SmallTypes.ownedTupleIsFree;refine aQ (o6 hz rfl (x:=rawInt T) rfl ?_);change wpAny _ _ (loadIfAlive ((T:Int).toNat) >>= _) _ _ _;rw[m8];refine aQ (PySem.W.kdx_alive hT ?_);simp only[Option.isNone_some,qz,oM];refine aQ (o6 hz rfl (x:=.bool f) rfl ?_);have tailOk:∀ g1:Heap,pD g1 z TI TO (rawInt T) (.bool true)→Heap.SameBut z s.heap g1→∀ {g2:Heap},g2.IsTupleIter i1 l1 (k + 1)→Heap.SameBut i1 g1 g2→∀ {g3:Heap},g3.IsTupleIter i2 l2 (k + 1)→Heap.SameBut i2 g2 g3→
   Q (.ref g3.objs.size) { s with heap:=g3.push { cls:=.type "tuple",data:=.seq #[x,y] } }:=by
  intro g1 z1 b1 g2 n2 b2 g3 n3 b3;have hsz:g3.objs.size=s.heap.objs.size:=by rw[b3.1,b2.1,b1.1]
  have k3:∀ c o,c≠z→c≠i1→c≠i2→s.heap.get? c=some o→(g3.push { cls:=.type "tuple",data:=.seq #[x,y] }).get? c=some o:=fun c o c1 c2 c3 e=>
   dE _ (b3.extBut _ _ c3 (b2.extBut _ _ c2 (b1.extBut _ _ c1 e)))
  have z3:pD (g3.push { cls:=.type "tuple",data:=.seq #[x,y] }) z TI TO (rawInt T) (.bool true):=dE _ (b3.extBut _ _ D.i2z.symm (b2.extBut _ _ D.i1z.symm z1));have p3:IsPair (g3.push { cls:=.type "tuple",data:=.seq #[x,y] }) g3.objs.size x y:=jN _ rfl;rw[hsz]at p3 ⊢
  refine hQ _ z3 ⟨k3 _ _ D.TIz D.TIi1 D.TIi2 hTI,⟨a,b,k3 _ _ D.TOz D.TOi1 D.TOi2 hTO⟩,(n2.extBut b3.extBut D.i12).at fun o e=>dE _ e,n3.at fun o e=>dE _ e,
   dr hl1 fun o e=>k3 _ o D.l1z D.l1i1 D.l1i2 e,dr hl2 fun o e=>k3 _ o D.l2z D.l2i1 D.l2i2 e⟩ p3 fun c o c1 _ c3 c4 e=>k3 c o c1 c3 c4 e
 cases f with
 | true=>
  rw[if_neg (show ¬ ((Value.bool true != Value.bool true)=true) from gW)];refine bH ?_;simp only[qz,oM,← FW,DC,List.forIn_nil];refine aQ (aQ (aQ (kP ?_)));change wpAny _ _ (Builtin.SmallTypes.nextOf (.ref i1) >>= _) _ _ _;refine aQ (next_item h1 hl1 hx fun g2 n2 b2=>bH (bH ?_));refine aQ (aQ (kP ?_));change wpAny _ _ (Builtin.SmallTypes.nextOf (.ref i2) >>= _) _ _ _;refine aQ (next_item (h2.extBut b2.extBut D.i12.symm) (hl2.extBut b2.extBut D.l2i1) hy fun g3 n3 b3=>bH (bH (bH ?_)));refine aQ (wpAny_newTuple (hsz:=by show 2≤sizeLine; decide) (bH ⟨_,rfl,?_⟩));exact tailOk s.heap hz (.refl ..) n2 b2 n3 b3
 | false=>
  rw[if_pos (show (Value.bool false != Value.bool true)=true from rfl)];refine aQ (Ex hz (by simp) fun g1 z1 b1=>?_);replace z1:pD g1 z TI TO (rawInt T) (.bool true):=z1;refine bH ?_;simp only[qz,oM,← FW,DC,List.forIn_nil];refine aQ (aQ (aQ (kP ?_)));change wpAny _ _ (Builtin.SmallTypes.nextOf (.ref i1) >>= _) _ _ _;refine aQ (next_item (h1.extBut b1.extBut D.i1z) (hl1.extBut b1.extBut D.l1z) hx fun g2 n2 b2=>bH (bH ?_));refine aQ (aQ (kP ?_));change wpAny _ _ (Builtin.SmallTypes.nextOf (.ref i2) >>= _) _ _ _;refine aQ (next_item ((h2.extBut b1.extBut D.i2z).extBut b2.extBut D.i12.symm) ((hl2.extBut b1.extBut D.l2z).extBut b2.extBut D.l2i1) hy fun g3 n3 b3=>bH (bH (bH ?_)));refine aQ (wpAny_newTuple (hsz:=by show 2≤sizeLine; decide) (bH ⟨_,rfl,?_⟩));exact tailOk g1 z1 b1 n2 b2 n3 b3
theorem Dc{TI TO:Addr}{k:Nat}{f0:Value}{Q:Fin→Shared→Prop}(hh:A.handled=none)(D:ZipApart z TI TO i1 i2 l1 l2)(hz:pD s.heap z TI TO f0 (.bool f))
  (hf:f0=.none∨∃ T oT,f0=rawInt ((T:Nat):Int)∧s.heap.get? T=some oT) (Z:Zt s.heap z TI TO i1 i2 l1 l2 xs ys k) (hend:xs[k]?=none∨ys[k]?=none)
  (hE:∀ h' e,(∀ c o,c≠z→c≠TO→c≠i1→c≠i2→s.heap.get? c=some o→h'.get? c=some o)→(∃ o,h'.get? e=some o∧o.cls=.type "StopIteration")→E (.ref e) {s with heap:=h'}) :
  wpAny (model prog w) A (Builtin.«zip.__next__» ⟨[.ref z],[]⟩) Q E s:=by
 obtain⟨hTI,⟨a,b,hTO⟩,h1,h2,hl1,hl2⟩:=Z;change wpAny _ _ (field (.ref z) 2 >>= _) _ _ _;refine aQ (o6 hz rfl (x:=.bool false) rfl ?_);change wpAny _ _ (field (.ref z) 3 >>= _) _ _ _;refine aQ (o6 hz rfl (x:=.ref TI) rfl ?_);refine aQ (BY hTI rfl ?_);change wpAny _ _ (Builtin.SmallTypes.ownedTupleIsFree (.ref z) >>= _) _ _ _;refine aQ ?_;unfold Builtin.SmallTypes.ownedTupleIsFree;rcases hf with rfl | ⟨T,oT,rfl,hT⟩
 ·refine aQ (o6 hz rfl (x:=.none) rfl (bH ?_));simp only[if_true];refine aQ (tR ?_);refine aQ (o6 hz rfl (x:=.ref TO) rfl ?_);refine aQ (Ex hz (by simp) fun g1 z1 b1=>?_);replace z1:pD g1 z TI TO .ellipsis (.bool f):=z1;refine aQ ?_;simp only[List.zipIdx_cons,List.zipIdx_nil,DC,List.forIn_nil];refine aQ (aQ (wpAny_onRaise ?_));change wpAny _ _ (Builtin.SmallTypes.nextOf (.ref i1) >>= _) _ _ _;cases hx:xs[k]? with
  | none=>
   refine aQ (next_end hh (h1.extBut b1.extBut D.i1z) (hl1.extBut b1.extBut D.l1z) hx fun g2 e b2 he=>?_);obtain⟨oe,hoe,hce⟩:=he;have z2:pD g2 z TI TO .ellipsis (.bool f):=b2 _ _ D.i1z.symm z1;have hez:e≠z:=fun x=>by subst x; rw[z2]at hoe; cases hoe; simp at hce
   exact Ex z2 (by simp) fun g3 _ b3=>hE g3 e (fun c o c1 _ c3 _ x=>b3.extBut _ _ c1 (b2 _ _ c3 (b1.extBut _ _ c1 x))) ⟨oe,b3.extBut _ _ hez hoe,hce⟩
  | some x=>
   have hy:ys[k]?=none:=by rcases hend with h | h; rw[hx]at h; cases h; exact h
   refine aQ (next_item (h1.extBut b1.extBut D.i1z) (hl1.extBut b1.extBut D.l1z) hx fun g2 n2 b2=>bH ?_);have o2:IsPair g2 TO a b:=b2.extBut _ _ D.TOi1 (b1.extBut _ _ D.TOz hTO);refine aQ (BY o2 rfl ?_);refine aQ (wpAny_updateSeq_pair o2 fun g3 o3 b3=>?_);refine aQ (wpAny_letGo (bH ?_));refine aQ (aQ (wpAny_onRaise ?_));change wpAny _ _ (Builtin.SmallTypes.nextOf (.ref i2) >>= _) _ _ _;refine aQ (next_end hh (((h2.extBut b1.extBut D.i2z).extBut b2.extBut D.i12.symm).extBut b3.extBut D.TOi2.symm) (((hl2.extBut b1.extBut D.l2z).extBut b2.extBut D.l2i1).extBut b3.extBut D.l2TO) hy fun g4 e b4 he=>?_);obtain⟨oe,hoe,hce⟩:=he;have z4:pD g4 z TI TO .ellipsis (.bool f):=b4 _ _ D.i2z.symm (b3.extBut _ _ D.TOz.symm (b2.extBut _ _ D.i1z.symm z1));have hez:e≠z:=fun x=>by subst x; rw[z4]at hoe; cases hoe; simp at hce
   exact Ex z4 (by simp) fun g5 _ b5=>hE g5 e (fun c o c1 c2 c3 c4 x=>b5.extBut _ _ c1 (b4 _ _ c4 (b3.extBut _ _ c2 (b2.extBut _ _ c3 (b1.extBut _ _ c1 x))))) ⟨oe,b5.extBut _ _ hez hoe,hce⟩
 ·refine aQ (o6 hz rfl (x:=rawInt T) rfl ?_);change wpAny _ _ (loadIfAlive ((T:Int).toNat) >>= _) _ _ _;rw[m8];refine aQ (PySem.W.kdx_alive hT ?_);simp only[Option.isNone_some,qz,oM];refine aQ (o6 hz rfl (x:=.bool f) rfl ?_);have fin:∀ g1:Heap,Heap.SameBut z s.heap g1→(xs[k]?=none→∀ {g2:Heap} {e:Addr},Heap.ExtBut i1 g1 g2→(∃ o,g2.get? e=some o∧o.cls=.type "StopIteration")→E (.ref e) { s with heap:=g2 })∧
    (∀ {g2 g3:Heap} {e:Addr},Heap.SameBut i1 g1 g2→Heap.ExtBut i2 g2 g3→(∃ o,g3.get? e=some o∧o.cls=.type "StopIteration")→E (.ref e) { s with heap:=g3 }):=fun g1 b1=>
   ⟨fun _ {g2 e} b2 he=>hE g2 e (fun c o c1 _ c3 _ x=>b2 _ _ c3 (b1.extBut _ _ c1 x)) he,fun {g2 g3 e} b2 b3 he=>hE g3 e (fun c o c1 _ c3 c4 x=>b3 _ _ c4 (b2.extBut _ _ c3 (b1.extBut _ _ c1 x))) he⟩
  cases f with
  | true=>
   rw[if_neg (show ¬ ((Value.bool true != Value.bool true)=true) from gW)];refine bH ?_;simp only[qz,oM,← FW,DC,List.forIn_nil];refine aQ (aQ (aQ (kP ?_)));change wpAny _ _ (Builtin.SmallTypes.nextOf (.ref i1) >>= _) _ _ _;cases hx:xs[k]? with
   | none=>exact aQ (next_end hh h1 hl1 hx fun g2 e b2 he=>(fin s.heap (.refl ..)).1 hx b2 he)
   | some x=>
    have hy:ys[k]?=none:=by rcases hend with h | h; rw[hx]at h; cases h; exact h
    refine aQ (next_item h1 hl1 hx fun g2 n2 b2=>bH (bH ?_));refine aQ (aQ (kP ?_));change wpAny _ _ (Builtin.SmallTypes.nextOf (.ref i2) >>= _) _ _ _;exact aQ (next_end hh (h2.extBut b2.extBut D.i12.symm) (hl2.extBut b2.extBut D.l2i1) hy fun g3 e b3 he=>(fin s.heap (.refl ..)).2 b2 b3 he)
  | false=>
   rw[if_pos (show (Value.bool false != Value.bool true)=true from rfl)];refine aQ (Ex hz (by simp) fun g1 z1 b1=>?_);refine bH ?_;simp only[qz,oM,← FW,DC,List.forIn_nil];refine aQ (aQ (aQ (kP ?_)));change wpAny _ _ (Builtin.SmallTypes.nextOf (.ref i1) >>= _) _ _ _;cases hx:xs[k]? with
   | none=>exact aQ (next_end hh (h1.extBut b1.extBut D.i1z) (hl1.extBut b1.extBut D.l1z) hx fun g2 e b2 he=>(fin g1 b1).1 hx b2 he)
   | some x=>
    have hy:ys[k]?=none:=by rcases hend with h | h; rw[hx]at h; cases h; exact h
    refine aQ (next_item (h1.extBut b1.extBut D.i1z) (hl1.extBut b1.extBut D.l1z) hx fun g2 n2 b2=>bH (bH ?_));refine aQ (aQ (kP ?_));change wpAny _ _ (Builtin.SmallTypes.nextOf (.ref i2) >>= _) _ _ _;exact aQ (next_end hh ((h2.extBut b1.extBut D.i2z).extBut b2.extBut D.i12.symm) ((hl2.extBut b1.extBut D.l2z).extBut b2.extBut D.l2i1) hy fun g3 e b3 he=>(fin g1 b1).2 b2 b3 he)
theorem wQ:typeLookup (.type "zip") "__len__" = pure none:=by rw[typeLookup_type,FZ]; kernel_rfl
theorem tW:typeLookup (.type "zip") "__length_hint__" = pure none:=by rw[typeLookup_type,FZ]; kernel_rfl
def Pairs(h:Heap)(S:Addr)(xs ys:Array Value)(acc:Array Value):Prop:=∀ (j:Nat) (v:Value),acc[j]?=some v→∃ T x y,v=.ref T∧xs[j]?=some x∧ys[j]?=some y∧S < T∧IsPair h T x y
theorem loop{TI TO:Addr}(hh:A.handled=none)(D:ZipApart z TI TO i1 i2 l1 l2)(hS1:∀ b∈[z,TI,TO,i1,i2,l1,l2],S≠b)(hn:min xs.size ys.size≤sizeLine) :
  ∀ (r k:Nat) (s:Shared) (acc:Array Value) (c:Nat) (f0:Value) (f:Bool),min xs.size ys.size - k=r→k≤min xs.size ys.size→Zt s.heap z TI TO i1 i2 l1 l2 xs ys k→pD s.heap z TI TO f0 (.bool f)→
   ((f0=.none∧f=false)∨∃ T oT,f0=rawInt ((T:Nat):Int)∧s.heap.get? T=some oT∧∀ b∈[z,TO,i1,i2,S],T≠b)→
   s.heap.get? S=some { cls:=.type "list",dict:=none,data:=.seq acc c,slots:=#[] }→acc.size=k→Pairs s.heap S xs ys acc→(∀ (j:Nat) (T:Addr),acc[j]?=some (.ref T)→∀ b∈[z,TO,i1,i2,S],T≠b)→
   (∀ h' acc' c',(∀ b o,b≠S→b≠z→b≠TO→b≠i1→b≠i2→s.heap.get? b=some o→h'.get? b=some o)→h'.get? S=some { cls:=.type "list",dict:=none,data:=.seq acc' c',slots:=#[] }→
    acc'.size=min xs.size ys.size→Pairs h' S xs ys acc'→R (.ok (.ret res)) { s with heap:=h' })→
   codeAny (model prog w) A (.builtin "list.extend.loop" ⟨[.ref S,.ref z,res],[]⟩) R s:=by
 intro r;have Sz:S≠z:=hS1 z (by simp);have STO:S≠TO:=hS1 TO (by simp);have Si1:S≠i1:=hS1 i1 (by simp);have Si2:S≠i2:=hS1 i2 (by simp)
 induction r with
 | zero=>
  intro k s acc c f0 f hr hk Z hz hf hS ha hp hap hR;have hkn:k=min xs.size ys.size:=by omega
  refine codeAny_builtin F.entry_extend_loop ?_;rw[F5 F9 _];change wpAny _ A.in1 (pyNext (.ref z) >>= _) _ _ s;have hT:s.TypeIs (.ref z) "zip":=⟨_,hz,rfl⟩
  have hend:xs[k]?=none∨ys[k]?=none:=by
   rcases Nat.le_total xs.size ys.size with h | h
   ·exact .inl (Array.getElem?_eq_none (by rw[hkn,Nat.min_eq_left h]; exact cq _))
   ·exact .inr (Array.getElem?_eq_none (by rw[hkn,Nat.min_eq_right h]; exact cq _))
  refine aQ ?_;unfold pyNext
  refine aQ (wpAny_attempt (Eb (name:=Str.ofString "__next__") hT F.slot_zip_next (yp F.slot_zip_next hT F.entry_zip_next
   (Dc hh D hz (by rcases hf with ⟨e,_⟩ | ⟨T,oT,e,eT,_⟩; exact .inl e; exact .inr ⟨T,oT,e,eT⟩) Z hend fun h' e kp he=>?_) (F.args_zip_next_1 _))))
  obtain⟨o,ho,hc⟩:=he;refine aQ (wpAny_isInstance (T:="StopIteration") (b:=true) ⟨o,ho,hc⟩ isSubtype_stop ?_);refine bH (bH ?_);refine hR h' acc c (fun b o _ b1 b2 b3 b4 e=>kp b o b1 b2 b3 b4 e) (kp _ _ Sz STO Si1 Si2 hS) (by omega) (fun j v e=>?_);obtain⟨T,x,y,rfl,ex,ey,lt,pr⟩:=hp j v e;have q:=hap j T e;exact⟨T,x,y,rfl,ex,ey,lt,kp _ _ (q z (by simp)) (q TO (by simp)) (q i1 (by simp)) (q i2 (by simp)) pr⟩
 | succ r ih=>
  intro k s acc c f0 f hr hk Z hz hf hS ha hp hap hR;have hkx:k < xs.size:=by omega
  have hky:k < ys.size:=by omega
  refine codeAny_builtin F.entry_extend_loop ?_;rw[F5 F9 _];change wpAny _ A.in1 (pyNext (.ref z) >>= _) _ _ s;have hT:s.TypeIs (.ref z) "zip":=⟨_,hz,rfl⟩
  have slt:∀ {b:Addr} {o:Obj},s.heap.get? b=some o→s.heap.objs.size≠b:=fun e=>Nat.ne_of_gt (dy e)
  obtain⟨o1,e1,_⟩:=id Z.n1;obtain⟨o2,e2,_⟩:=id Z.n2;obtain⟨a0,b0,e3⟩:=id Z.to;have newAp:∀ b∈[z,TO,i1,i2,S],s.heap.objs.size≠b:=by
   intro b hb;simp only[dO,o7,or_false]at hb;rcases hb with rfl | rfl | rfl | rfl | rfl
   ·exact slt hz
   ·exact slt e3
   ·exact slt e1
   ·exact slt e2
   ·exact slt hS
  -- what follows when the pair has come
  have next:∀ (h':Heap) (f0':Value) (f':Bool),pD h' z TI TO f0' (.bool f')→((f0'=.none∧f'=false)∨∃ T oT,f0'=rawInt ((T:Nat):Int)∧h'.get? T=some oT∧∀ b∈[z,TO,i1,i2,S],T≠b)→
    Zt h' z TI TO i1 i2 l1 l2 xs ys (k + 1)→IsPair h' s.heap.objs.size xs[k] ys[k]→(∀ c o,c≠z→c≠TO→c≠i1→c≠i2→s.heap.get? c=some o→h'.get? c=some o)→
    wpAny (model prog w) A.in1 (updateSeq S (·.push (.ref s.heap.objs.size)) >>= fun _=>again (.builtin "list.extend.loop" ⟨[.ref S,.ref z,res],[]⟩))
     (fun fin s'=>match fin with | .done f=>R (.ok f) s' | .again c'=>c'.quiet=true∧codeAny (model prog w) A c' R s') (fun e s'=>R (.error e) s') { s with heap:=h' }:=by
   intro h' f0' f' z' hf' Z' pr kp;have S':h'.get? S=some { cls:=.type "list",dict:=none,data:=.seq acc c,slots:=#[] }:=kp _ _ Sz STO Si1 Si2 hS;refine aQ (wpAny_updateSeq S' rfl (bH ⟨plainId_quiet F9 _,?_⟩) (by rw[ha]; omega) (by show (acc.push _).size≤sizeLine + 1; rw[Array.size_push,ha]; omega));have oth:∀ b o,b≠S→h'.get? b=some o→(h'.update S (Obj.mapSeq (·.push (Value.ref s.heap.objs.size)))).get? b=some o:=fun b o hb e=>(Dy _ _ (Ne.symm hb)).trans e
   have S7:∀ b∈[z,TI,TO,i1,i2,l1,l2],b≠S:=fun b hb=>(hS1 b hb).symm
   refine ih (k + 1) _ (acc.push (.ref s.heap.objs.size)) _ f0' f' (by omega) (by omega) ?_ (oth _ _ Sz.symm z') ?_ (Fn _ S' rfl) (by rw[Array.size_push,ha]) ?_ ?_ ?_
   ·obtain⟨q1,⟨qa,qb,q2⟩,q3,q4,q5,q6⟩:=Z';exact⟨oth _ _ (S7 TI (by simp)) q1,⟨qa,qb,oth _ _ (S7 TO (by simp)) q2⟩,q3.at fun o e=>oth _ o (S7 i1 (by simp)) e,q4.at fun o e=>oth _ o (S7 i2 (by simp)) e,dr q5 fun o e=>oth _ o (S7 l1 (by simp)) e,dr q6 fun o e=>oth _ o (S7 l2 (by simp)) e⟩
   ·rcases hf' with q | ⟨T,oT,q1,q2,q3⟩
    ·exact .inl q
    ·exact .inr ⟨T,oT,q1,oth _ _ (q3 S (by simp)) q2,q3⟩
   ·intro j v e;rw[Array.getElem?_push]at e;split at e
    ·rename_i ej;cases e;rw[ha]at ej;subst ej;exact⟨_,xs[j],ys[j],rfl,Eu hkx,Eu hky,dy hS,oth _ _ (newAp S (by simp)) pr⟩
    ·obtain⟨T,x,y,rfl,ex,ey,lt0,pr0⟩:=hp j v e;have q:=hap j T e;exact⟨T,x,y,rfl,ex,ey,lt0,oth _ _ (q S (by simp)) (kp _ _ (q z (by simp)) (q TO (by simp)) (q i1 (by simp)) (q i2 (by simp)) pr0)⟩
   ·intro j T e;rw[Array.getElem?_push]at e;split at e
    ·cases e; exact newAp
    ·exact hap j T e
   ·intro h'' acc' c' kp2 g1 g2 g3;exact hR h'' acc' c' (fun b o b0 b1 b2 b3 b4 e=>kp2 b o b0 b1 b2 b3 b4 (oth _ _ b0 (kp _ _ b1 b2 b3 b4 e))) g1 g2 g3
  refine aQ ?_;unfold pyNext;rcases hf with ⟨rfl,rfl⟩ | ⟨T,oT,rfl,eT,aT⟩
  ·refine aQ (wpAny_attempt (Eb (name:=Str.ofString "__next__") hT F.slot_zip_next (yp F.slot_zip_next hT F.entry_zip_next
    (wJ D hz Z (Eu hkx) (Eu hky) fun h' z' Z' pr kp=>bH ?_) (F.args_zip_next_1 _))))
   exact next h' _ false z' (.inr ⟨_,_,rfl,pr,newAp⟩) Z' pr kp
  ·refine aQ (wpAny_attempt (Eb (name:=Str.ofString "__next__") hT F.slot_zip_next (yp F.slot_zip_next hT F.entry_zip_next
    (zJ D hz eT Z (Eu hkx) (Eu hky) fun h' z' Z' pr kp=>bH ?_) (F.args_zip_next_1 _))))
   exact next h' _ true z' (.inr ⟨T,oT,rfl,kp _ _ (aT z (by simp)) (aT TO (by simp)) (aT i1 (by simp)) (aT i2 (by simp)) eT,aT⟩) Z' pr kp
theorem extend{TI TO:Addr}{c₀:Nat}(hh:A.handled=none)(D:ZipApart z TI TO i1 i2 l1 l2)(hS1:∀ b∈[z,TI,TO,i1,i2,l1,l2],S≠b)(hn:min xs.size ys.size≤sizeLine)
  (Z:Zt s.heap z TI TO i1 i2 l1 l2 xs ys 0) (hz:pD s.heap z TI TO .none (.bool false)) (hS:s.heap.get? S=some {cls:=.type "list",data:=.seq #[] c₀})
  (hR:∀ h' acc' c',(∀ b o,b≠S→b≠z→b≠TO→b≠i1→b≠i2→s.heap.get? b=some o→h'.get? b=some o)→h'.get? S=some {cls:=.type "list",dict:=none,data:=.seq acc' c',slots:=#[]}→
   acc'.size=min xs.size ys.size→Pairs h' S xs ys acc'→R (.ok (.ret res)) {s with heap:=h'}) :
  wpAny (model prog w) A.in1 (Builtin.List.listExtendWith (.ref S) (.ref z) res)
   (fun fin s'=>match fin with | .done f=>R (.ok f) s' | .again c'=>c'.quiet=true∧codeAny (model prog w) A c' R s') (fun e s'=>R (.error e) s') s:=by
 have hT:s.TypeIs (.ref z) "zip":=⟨_,hz,rfl⟩
 have Sz:S≠z:=hS1 z (by simp);unfold Builtin.List.listExtendWith;refine aQ (wpAny_typeOf hT ?_);have q1:Builtin.List.listSameRef (.ref S) (.ref z)=false:=by simp[Builtin.List.listSameRef,Sz]
 have q2:(Value.type "zip" == Value.type "list")=false:=by decide
 have q3:(Value.type "zip" == Value.type "tuple")=false:=by decide
 simp only[q1,q2,q3,Bool.or_false,qz,oM];refine aQ (wpAny_pyIter_slot hT F.slot_zip_iter (yp F.slot_zip_iter hT F.entry_zip_iter (bH ⟨_,rfl, "zip",_,hT,F.slot_zip_next.lookup,?_⟩) (F.args_zip_iter_1 _)));refine aQ (kP ?_);unfold Builtin.List.listLengthHint;refine aQ (Cq hT wQ ?_);change wpAny _ A.in1 (specialOf (Value.ref z) (Str.ofString "__length_hint__") >>= _) _ _ _;refine aQ (Cq hT tW ?_);refine bH ?_;change wpAny _ A.in1 (rule "list.extend.makes-room" >>= fun _=>Builtin.List.listTouch (.ref S) >>= fun _=>again (.builtin "list.extend.loop" ⟨[.ref S,.ref z,res],[]⟩)) _ _ _;refine aQ (tR (aQ ?_));change wpAny _ A.in1 (updateSeq S (·.push .none) >>= fun _=>updateSeq S (·.pop)) _ _ _;refine aQ (wpAny_updateSeq hS rfl ?_);have S2:=Fn (Obj.mapSeq (·.push Value.none)) hS rfl;refine wpAny_updateSeq (hz:=by seq_fits) S2 rfl ?_;have S3:=Fn (Obj.mapSeq (·.pop)) S2 rfl;have oth:∀ b o,b≠S→s.heap.get? b=some o→((s.heap.update S (Obj.mapSeq (·.push Value.none))).update S (Obj.mapSeq (·.pop))).get? b=some o:=
  fun b o hb e=>(Dy _ _ (Ne.symm hb)).trans ((Dy _ _ (Ne.symm hb)).trans e)
 have S7:∀ b∈[z,TI,TO,i1,i2,l1,l2],b≠S:=fun b hb=>(hS1 b hb).symm
 obtain⟨p1,⟨pa,pb,p2⟩,p3,p4,p5,p6⟩:=Z
 refine bH ⟨plainId_quiet F9 _,loop hh D hS1 hn _ 0 _ _ _ .none false rfl (fE _)
  ⟨oth _ _ (S7 TI (by simp)) p1,⟨pa,pb,oth _ _ (S7 TO (by simp)) p2⟩,p3.at fun o e=>oth _ o (S7 i1 (by simp)) e,p4.at fun o e=>oth _ o (S7 i2 (by simp)) e,dr p5 fun o e=>oth _ o (S7 l1 (by simp)) e,dr p6 fun o e=>oth _ o (S7 l2 (by simp)) e⟩
  (oth _ _ Sz.symm hz) (.inl ⟨rfl,rfl⟩) S3 rfl (fun j v e=>by simp at e) (fun j T e=>by simp at e) fun h' acc' c' kp g1 g2 g3=>?_⟩
 exact hR h' acc' c' (fun b o b0 b1 b2 b3 b4 e=>kp b o b0 b1 b2 b3 b4 (oth _ _ b0 e)) g1 g2 g3
theorem yT{TI TO:Addr}(hh:A.handled=none)(D:ZipApart z TI TO i1 i2 l1 l2)(hn:min xs.size ys.size≤sizeLine)
  (Z:Zt s.heap z TI TO i1 i2 l1 l2 xs ys 0) (hz:pD s.heap z TI TO .none (.bool false)) (lt:∀ b∈[z,TI,TO,i1,i2,l1,l2],b < s.heap.objs.size)
  (hQ:∀ h' acc' c',(∀ b o,b≠z→b≠TO→b≠i1→b≠i2→s.heap.get? b=some o→h'.get? b=some o)→h'.get? s.heap.objs.size=some {cls:=.type "list",dict:=none,data:=.seq acc' c',slots:=#[]}→
   acc'.size=min xs.size ys.size→Pairs h' s.heap.objs.size xs ys acc'→Q (.ref s.heap.objs.size) {s with heap:=h'}):wpAny (model prog w) A (call (.type "list") [.ref z]) Q E s:=by
 refine callType_codes (Q₁:=fun obj s₁=>obj=.ref s.heap.objs.size∧s₁={ s with heap:=s.heap.push { cls:=.type "list",data:=.seq #[] } }) F.called_list (F.typeCall_list_1 _) F.entry_list_init (code_list_new _ ⟨rfl,rfl⟩) fun obj s₁ h₁=>?_
 obtain⟨rfl,rfl⟩:=h₁;have hS:(s.heap.push { cls:=.type "list",data:=.seq #[] }).get? s.heap.objs.size=some { cls:=.type "list",data:=.seq #[] }:=jN _ rfl;refine⟨⟨_,hS,rfl⟩,F.args_list_init_2 _ _,?_⟩;change wpAny _ A.in1.in1 (do let old ← Builtin.List.listItems (.ref s.heap.objs.size); Builtin.List.listUpdate (.ref s.heap.objs.size) (fun _=>#[]); letGo old.toList.reverse; Builtin.List.listExtendWith (.ref s.heap.objs.size) (.ref z) .none) _ _ _;refine aQ ?_;unfold Builtin.List.listItems;refine aQ (BY hS rfl (bH ?_));change wpAny _ A.in1.in1 (updateSeq s.heap.objs.size (fun _=>#[]) >>= fun _=>letGo (#[]:Array Value).toList.reverse >>= fun _=>Builtin.List.listExtendWith (.ref s.heap.objs.size) (.ref z) .none) _ _ _;refine aQ (wpAny_updateSeq hS rfl ?_);have S2:=Fn (Obj.mapSeq (fun _=>(#[]:Array Value))) hS rfl;have oth:∀ b o,b≠s.heap.objs.size→s.heap.get? b=some o→((s.heap.push { cls:=.type "list",data:=.seq #[] }).update s.heap.objs.size (Obj.mapSeq (fun _=>(#[]:Array Value)))).get? b=some o:=
  fun b o hb e=>(Dy _ _ (Ne.symm hb)).trans (dE _ e)
 refine aQ (wpAny_letGo ?_);have nS:∀ b∈[z,TI,TO,i1,i2,l1,l2],b≠s.heap.objs.size:=fun b hb=>eR (lt b hb)
 obtain⟨p1,⟨pa,pb,p2⟩,p3,p4,p5,p6⟩:=Z
 refine extend hh D (fun b hb=>(nS b hb).symm) hn ⟨oth _ _ (nS TI (by simp)) p1,⟨pa,pb,oth _ _ (nS TO (by simp)) p2⟩,p3.at fun o e=>oth _ o (nS i1 (by simp)) e,p4.at fun o e=>oth _ o (nS i2 (by simp)) e,
  dr p5 fun o e=>oth _ o (nS l1 (by simp)) e,dr p6 fun o e=>oth _ o (nS l2 (by simp)) e⟩ (oth _ _ (nS z (by simp)) hz) S2 fun h' acc' c' kp g1 g2 g3=>?_
 refine⟨rfl,hQ h' acc' c' (fun b o b1 b2 b3 b4 e=>kp b o (eR (dy e)) b1 b2 b3 b4 (oth _ _ (eR (dy e)) e)) g1 g2 g3⟩
noncomputable abbrev k1(h:Heap)(l1:Addr):Heap:=h.push { cls:=.type "tuple_iterator",data:=.fields #[.ref l1,.int 0 0] }
noncomputable abbrev k2(h:Heap)(l1 l2:Addr):Heap:=(k1 h l1).push { cls:=.type "tuple_iterator",data:=.fields #[.ref l2,.int 0 0] }
noncomputable abbrev k3(h:Heap)(l1 l2:Addr):Heap:=(k2 h l1 l2).push { cls:=.type "tuple",data:=.seq #[.ref h.objs.size,.ref (k1 h l1).objs.size] }
noncomputable abbrev k4(h:Heap)(l1 l2:Addr):Heap:=(k3 h l1 l2).push { cls:=.type "tuple",data:=.seq #[.none,.none] }
noncomputable abbrev k5(h:Heap)(l1 l2:Addr):Heap:=(k4 h l1 l2).push { cls:=.type "zip",data:=.fields #[.none,.bool false,.bool false,.ref (k2 h l1 l2).objs.size,.ref (k3 h l1 l2).objs.size] }
theorem zk(l1 l2:Addr)(xs ys:Array Value) :
  Meets (Builtin.«zip.__new__» ⟨[.type "zip",.ref l1,.ref l2],[]⟩) (fun _ R s=>s.heap.IsTuple l1 xs∧s.heap.IsTuple l2 ys∧R (.ok (.ret (.ref (k4 s.heap l1 l2).objs.size))) { s with heap:=k5 s.heap l1 l2 }):=
 .of_wp fun prog w A R s h=>by
  obtain⟨hp,g,d,tk,os⟩:=s; obtain⟨hl1,hl2,h⟩:=h;have hsub:=sub_zip;have t1:Heap.IsTuple (Shared.heap ⟨hp,g,d,tk,os⟩) l1 xs:=hl1;have t2:Heap.IsTuple (Shared.heap ⟨hp.push { cls:=.type "tuple_iterator",data:=.fields #[.ref l1,.int 0 0] },g,d,tk,os⟩) l2 ys:=Heap.IsTuple.push hl2 _
  wp_walk using F4 t1,F4 t2
  exact⟨_,rfl,h⟩
theorem A1(hl1:s.heap.IsTuple l1 xs)(hl2:s.heap.IsTuple l2 ys)
  (h:∀ h',pD h' (s.heap.objs.size + 4) (s.heap.objs.size + 2) (s.heap.objs.size + 3) .none (.bool false)→Zt h' (s.heap.objs.size + 4) (s.heap.objs.size + 2) (s.heap.objs.size + 3) s.heap.objs.size (s.heap.objs.size + 1) l1 l2 xs ys 0→
   h'.objs.size=s.heap.objs.size + 5→(∀ c o,s.heap.get? c=some o→h'.get? c=some o)→Q (.ref (s.heap.objs.size + 4)) {s with heap:=h'}) :
  wpAny (model prog w) A (call (.type "zip") [.ref l1,.ref l2]) Q E s:=by
 refine callType_new F.called_zip (by decide) (F.typeCall_zip_2 _ _) (F.newCall_zip_2 _ _) (fun obj=>F.args_object_init_3 obj _ _) F.entry_zip_new (zk l1 l2 xs ys) ⟨hl1,hl2,?_⟩;have z1:(k1 s.heap l1).objs.size=s.heap.objs.size + 1:=Ck ..;have z2:(k2 s.heap l1 l2).objs.size=s.heap.objs.size + 2:=by rw[Ck,z1]
 have z3:(k3 s.heap l1 l2).objs.size=s.heap.objs.size + 3:=by rw[Ck,z2]
 have z4:(k4 s.heap l1 l2).objs.size=s.heap.objs.size + 4:=by rw[Ck,z3]
 have z5:(k5 s.heap l1 l2).objs.size=s.heap.objs.size + 5:=by rw[Ck,z4]
 have g5:(k5 s.heap l1 l2).get? (k4 s.heap l1 l2).objs.size=some _:=jN _ rfl;have g4:(k5 s.heap l1 l2).get? (k3 s.heap l1 l2).objs.size=some _:=dE _ (jN _ rfl);have g3:(k5 s.heap l1 l2).get? (k2 s.heap l1 l2).objs.size=some _:=dE _ (dE _ (jN _ rfl));have g2:(k5 s.heap l1 l2).get? (k1 s.heap l1).objs.size=some _:=dE _ (dE _ (dE _ (jN _ rfl)));have g1:(k5 s.heap l1 l2).get? s.heap.objs.size=some _:=dE _ (dE _ (dE _ (dE _ (jN _ rfl))));have kp:∀ c o,s.heap.get? c=some o→(k5 s.heap l1 l2).get? c=some o:=fun c o x=>dE _ (dE _ (dE _ (dE _ (dE _ x))))
 show _∧_;rw[z2,z3,z4]at g5;rw[z1,z2]at g3;rw[z3]at g4;rw[z1]at g2;rw[z4];exact⟨⟨_,g5,rfl⟩,h _ g5 ⟨g3,⟨_,_,g4⟩,⟨_,g1,rfl,rfl⟩,⟨_,g2,rfl,rfl⟩,dr hl1 fun o e=>kp _ o e,dr hl2 fun o e=>kp _ o e⟩ z5 kp⟩
end ZT
namespace L2
open PySem PySem.Spec PyProof.Rows
variable {H H':Hp}{X:Cx}{v:V}{ds:List D}{pos p:Pos}{a:Addr}{es:List Expr}{xs vs:List V}{x:Str}{P:Program}{w:World}{σ:St}{ps:List Str}{sp:Sp}{e:Expr}{n j:Nat}{pins:List (Addr × Obj)}{s:Shared}{ta:TA}{i:Int}{d:D}{base:Heap}{kvs:List (Str × V)}
theorem uz:∀ {u:Value} {x:V},CY u=some x→RelV x u
 | .none,_,h=>by cases h; rfl
 | .bool _,_,h=>by cases h; rfl
 | .int _ t,_,h=>by cases h; exact⟨t,rfl⟩
 | .str _ t,_,h=>by cases h; exact⟨t,rfl⟩
 | .bytes _ t,_,h=>by cases h; exact⟨t,rfl⟩
 | .float _ t,_,h=>by cases h; exact⟨t,rfl⟩
 | .ref _,_,h=>by cases h; rfl
 | .type _,_,h=>by cases h; rfl
 | .notImplemented,_,h=>by cases h
 | .ellipsis,_,h=>by cases h
 | .builtin _,_,h=>by cases h
noncomputable def i8(h:Heap)(b:Addr):Option HO:=match h.get? b with
 | some o=>match o.cls,o.data with
  | .type "tuple",.seq its _=>match its.toList with
   | [u,v]=>match CY u,CY v with
    | some x,some y=>some (.tup [x,y])
    | _,_=>none
   | _=>none
  | _,_=>none
 | none=>none
theorem Inv.grow{h':Heap}{t':Nat}(I:Inv X pins σ H s)(k:∀ b o,s.heap.get? b=some o→h'.get? b=some o)(same:∀ b,b < s.heap.objs.size→H' b=H b)(hok:jh X.prog X.w H' h'):Inv X pins σ H' { s with heap:=h',toks:=t' }:=by
 have old:∀ b u,H b=some u→H' b=some u:=fun b u e=>by rw[same b (I.hok.lt e)]; exact e
 exact I.un ⟨fun b o e _ _ _=>k b o e,fun b o e _ _ _=>⟨o.slots,k b o e⟩,fun b o e n _=>by rw[same b (dy e)]; exact n,fun b o e _=>⟨o,k b o e⟩,fun b xs e=>old b _ e,fun b o u e=>old b _ e,
  fun b ps e=>⟨#[],by rw[old b _ e]; simp⟩⟩ hok
def A3(K:aW)(ta:TA):TE:=fun σ H Q=>ta σ H fun vs H1=>aw Q (fun l1 Q=>aw Q (fun l2 Q=>aw Q (fun xs Q=>aw Q (fun ys Q=>vs=[.ref l1,.ref l2]∧bY K H1 l1 xs∧bY K H1 l2 ys∧
 ∀ (H2:Hp) (l:Addr) (ps:List V),aD H1 H2→H2 l=some (.lst ps)→H1 l=none→ps.length=min xs.length ys.length→
  (∀ (j:Nat) (x y:V),xs[j]?=some x→ys[j]?=some y→∃ t,ps[j]?=some (.ref t)∧H2 t=some (.tup [x,y]))→Q (.ref l) H2))))
theorem JE(n l1 l2:Nat)(h1:l1 < n)(h2:l2 < n):∀ b∈[n + 4,n + 2,n + 3,n,n + 1,l1,l2],b < n + 5:=by
 intro b hb;simp only[dO,o7,or_false]at hb
 lia
theorem JT(n b:Nat)(h:b < n):b≠n + 4∧b≠n + 3∧b≠n∧b≠n + 1:=by lia
theorem vS{a b:Expr}{p2 pos2:Pos}(hc:X.calm=true)(gl:Gl X "list")(ml:X.mg "list" = none)(gz:Gl X "zip")(mz:X.mg "zip" = none)(ha:PA X [a,b] ta)
  (h1:autoParam (starEach [.Call (.Name "zip" p2) [a,b] [] pos2] X.env=(false,eval (.Call (.Name "zip" p2) [a,b] [] pos2) X.env)::starEach [] X.env) q_1) (h2:autoParam ((backTo pos (starEach [] X.env)).any (·.1)=false) q_1)
  (h3:autoParam (starEach [a,b] X.env=(false,eval a X.env)::starEach [b] X.env) q_1) (h4:autoParam ((backTo pos2 (starEach [b] X.env)).any (·.1)=false) q_1) :
  PE X (.Call (.Name "list" p) [.Call (.Name "zip" p2) [a,b] [] pos2] [] pos) (A3 X.K ta):=by
 intro pins s σ H Q I h;refine EA (gr I gl ml C7 ?_);refine D5 ?_ h1 h2;rw[h1];change wpAny _ _ (spliced ((false,eval (.Call (.Name "zip" p2) [a,b] [] pos2) X.env)::backTo pos (starEach [] X.env))) _ _ s;refine Calls.spliced_cons ?_;refine EA (gr I gz mz PyProof.Rows.boot_zip ?_);refine D5 (bW (ha pos2 pins s σ H _ I h) fun us s1 hpat=>?_) h3 h4;obtain⟨vs,H1,I1,r1,q1⟩:=hpat;obtain⟨l1,l2,xs,ys,rfl,t1,t2,q⟩:=q1;obtain⟨u1,u2,rfl,e1,e2⟩:=r1.two;cases e1; cases e2;obtain⟨its1,rv1,p1,z1⟩:=I1.tuple t1;obtain⟨its2,rv2,p2,z2⟩:=I1.tuple t2;have lt1:l1 < s1.heap.objs.size:=p1.lt;have lt2:l2 < s1.heap.objs.size:=p2.lt;refine ZT.A1 (xs:=its1.toArray) (ys:=its2.toArray) p1 p2 fun h' hz Z hsz kp=>?_
 refine Calls.spliced_nil ?_;have ln1:=rv1.length;have ln2:=rv2.length;have hn:min its1.toArray.size its2.toArray.size≤sizeLine:=by
  simp only[dY]; lia
 refine ZT.yT (s:={ s1 with heap:=h' }) (I1.ok.hd hc) (zipApart_new lt1 lt2) hn Z hz (fun b hb=>?_) fun h2 acc c kp2 hl ha2 hp=>?_
 ·show b < h'.objs.size;rw[hsz];exact JE _ _ _ lt1 lt2 b hb
 ·have old:∀ b o,s1.heap.get? b=some o→h2.get? b=some o:=fun b o e=>by
   obtain⟨n1,n2,n3,n4⟩:=JT _ _ (dy e);exact kp2 b o n1 n2 n3 n4 (kp b o e)
  have hS:s1.heap.objs.size≤h'.objs.size:=by lia
  -- the addresses of the pairs
  obtain⟨ts,hts⟩:∃ ts:List Addr,acc.toList=ts.map Value.ref:=by
   have go:∀ l:List Value,(∀ v∈l,∃ T,v=.ref T)→∃ ts:List Addr,l=ts.map Value.ref:=by
    intro l
    induction l with
    | nil=>intro _; exact⟨[],rfl⟩
    | cons v r ih=>
     intro hv;obtain⟨T,rfl⟩:=hv v oE;obtain⟨ts,rfl⟩:=ih fun w hw=>hv w (tu _ hw)
     exact⟨T::ts,rfl⟩
   refine go _ fun v hv=>?_
   obtain⟨j,hj⟩:=List.getElem?_of_mem hv;obtain⟨T,_,_,e,_,_,_⟩:=hp j v (by simpa using hj);exact⟨T,e⟩
  have lts:ts.length=min xs.length ys.length:=by
   have e:=congrArg List.length hts;rw[cU,jP,ha2]at e;simp only[dY]at e
   lia
  let H2:Hp:=fun b=>if b < s1.heap.objs.size then H1 b else if b=h'.objs.size then some (.lst (ts.map V.ref)) else i8 h2 b
  have ht:∀ (j:Nat) (x y:V),xs[j]?=some x→ys[j]?=some y→∃ t,(ts.map V.ref)[j]?=some (.ref t)∧H2 t=some (.tup [x,y]):=by
   intro j x y ex ey;have hj:j < ts.length:=by
    rw[lts];have:=(eQ.mp ex).1;have:=(eQ.mp ey).1
    lia
   have ej:acc[j]?=some (.ref ts[j]):=by
    have:acc.toList[j]?=some (.ref ts[j]):=by rw[hts,lK,cu hj]; rfl
    simpa using this
   obtain⟨T,u,v,e,eu,ev,lT,pr⟩:=hp j _ ej;cases e;refine⟨ts[j],by rw[lK,cu hj]; rfl,?_⟩;obtain⟨u',eu',ru⟩:=rv1.get ex;obtain⟨v',ev',rv⟩:=rv2.get ey;have qu:u=u':=by
    have z:its1[j]?=some u:=by simpa using eu
    rw[eu']at z; cases z; rfl
   have qv:v=v':=by
    have z:its2[j]?=some v:=by simpa using ev
    rw[ev']at z; cases z; rfl
   subst qu qv;have lT':h'.objs.size < ts[j]:=lT;have hge:¬ ts[j] < s1.heap.objs.size:=Nat.not_lt.mpr (Nat.le_of_lt (Nat.lt_of_le_of_lt hS lT'));have hne:ts[j]≠h'.objs.size:=Nat.ne_of_gt lT';show (if ts[j] < s1.heap.objs.size then H1 ts[j] else if ts[j]=h'.objs.size then some (.lst (ts.map V.ref)) else i8 h2 ts[j])=_;rw[if_neg hge,if_neg hne];unfold i8;have pr':h2.get? ts[j]=some { cls:=.type "tuple",data:=.seq #[u,v] }:=pr;rw[pr'];simp only[ru.abs,rv.abs]
  have lz:(ts.map V.ref).length≤sizeLine:=by rw[cU,lts]; simp only[dY]at hn; lia
  have I2:Inv X pins σ H2 { s1 with heap:=h2,toks:=s1.toks }:=by
   refine I1.grow old (fun b hb=>if_pos hb) fun b o e=>?_
   have e':(if b < s1.heap.objs.size then H1 b else if b=h'.objs.size then some (.lst (ts.map V.ref)) else i8 h2 b)=some o:=e;by_cases hb:b < s1.heap.objs.size
   ·rw[if_pos hb]at e';refine (I1.hok b o e').sP (fun c v _ q=>old c v q) (fun c q=>?_) fun c zs q=>?_
    ·show (if c < s1.heap.objs.size then H1 c else _)=_;rw[if_pos (I1.hok.lt q)]; exact q
    ·show (if c < s1.heap.objs.size then H1 c else _)=_;rw[if_pos (I1.hok.lt q)]; exact q
   ·rw[if_neg hb]at e';by_cases hb2:b=h'.objs.size
    ·rw[if_pos hb2]at e';cases e';subst hb2;refine⟨lz,acc.toList,c,?_,?_⟩
     ·rw[hts];have:∀ l:List Addr,Vals (l.map V.ref) (l.map Value.ref):=fun l=>by
       induction l with
       | nil=>exact .nil
       | cons a r ih=>exact .cons rfl ih
      exact this ts
     ·have hl':h2.get? h'.objs.size=some { cls:=.type "list",dict:=none,data:=.seq acc c,slots:=#[] }:=hl;rw[hl',Array.toArray_toList]
    ·rw[if_neg hb2]at e';unfold i8 at e';cases eo:h2.get? b with
     | none=>rw[eo]at e'; cases e'
     | some ob=>
      rw[eo]at e';obtain⟨cls,dct,dta,sl⟩:=ob;dsimp only at e';split at e'
      ·rename_i its nn;split at e'
       ·rename_i u v hl2;split at e'
        ·rename_i x y hx hy;cases e';refine⟨by show 2≤sizeLine; decide,[u,v],.cons (uz hx) (.cons (uz hy) .nil),_,eo,rfl,nn,?_⟩;show Data.seq its nn=Data.seq [u,v].toArray nn;rw[← hl2,Array.toArray_toList]
        ·cases e'
       ·cases e'
      ·cases e'
  have fl:H1 h'.objs.size=none:=by
   cases e:H1 h'.objs.size with
   | none=>rfl
   | some o=>exact absurd (I1.hok.lt e) (Nat.not_lt.mpr hS)
  refine⟨.ref h'.objs.size,H2,I2,rfl,q H2 h'.objs.size (ts.map V.ref) (fun b o e=>?_) ?_ fl (by rw[cU,lts]) ht⟩
  ·show (if b < s1.heap.objs.size then H1 b else _)=_;rw[if_pos (I1.hok.lt e)]; exact e
  ·show (if h'.objs.size < s1.heap.objs.size then H1 h'.objs.size else if h'.objs.size=h'.objs.size then some (.lst (ts.map V.ref)) else i8 h2 h'.objs.size)=_;rw[if_neg (Nat.not_lt.mpr hS),if_pos rfl]
mutual
def Is(K:aW)(H:Hp):D→V→Prop
 | .non,v=>v=.non
 | .int i,v=>v=.int i
 | .str x,v=>v=.str x
 | .tup ds,v=>∃ a xs,v=.ref a∧bY K H a xs∧IsL K H ds xs
def IsL(K:aW)(H:Hp):List D→List V→Prop
 | [],vs=>vs=[]
 | d::ds,vs=>∃ v r,vs=v::r∧Is K H d v∧IsL K H ds r
end
def bu(H H':Hp):Prop:=(∀ b xs,H b=some (.tup xs)→H' b=some (.tup xs))∧∀ b o u,H b=some (.frz o u)→H' b=some (.frz o u)
theorem aD.aS(h:aD H H'):bu H H':=⟨fun b xs e=>h b _ e,fun b o u e=>h b _ e⟩
theorem bu.refl(H:Hp):bu H H:=⟨fun _ _ e=>e,fun _ _ _ e=>e⟩
theorem bu.trans{H1 H2:Hp}(a:bu H H1)(b:bu H1 H2):bu H H2:=⟨fun c xs e=>b.1 c xs (a.1 c xs e),fun c o u e=>b.2 c o u (a.2 c o u e)⟩
theorem bu.sq{K:aW}(t:bu H H')(h:bY K H a xs):bY K H' a xs:=by
 rcases h with (h | ⟨o,h⟩) | h
 ·exact .inl (.inl (t.1 _ _ h))
 ·exact .inl (.inr ⟨o,t.2 _ _ _ h⟩)
 ·exact .inr h
mutual
theorem Is.mono{K:aW}{H H':Hp}(t:bu H H'):∀ {d:D} {v:V},Is K H d v→Is K H' d v
 | .non,_,h=>by unfold Is at h ⊢; exact h
 | .int _,_,h=>by unfold Is at h ⊢; exact h
 | .str _,_,h=>by unfold Is at h ⊢; exact h
 | .tup ds,_,h=>by
  unfold Is at h ⊢;obtain⟨a,xs,e,q,l⟩:=h;exact⟨a,xs,e,t.sq q,IsL.mono t l⟩
theorem IsL.mono{K:aW}{H H':Hp}(t:bu H H'):∀ {ds:List D} {vs:List V},IsL K H ds vs→IsL K H' ds vs
 | [],_,h=>by unfold IsL at h ⊢; exact h
 | d::ds,_,h=>by
  unfold IsL at h ⊢;obtain⟨v,r,e,p,q⟩:=h;exact⟨v,r,e,Is.mono t p,IsL.mono t q⟩
end
theorem xg{K:aW}:Is K H .non .non:=by unfold Is; rfl
theorem a9{K:aW}:Is K H (.int i) (.int i):=by unfold Is; rfl
theorem ee{K:aW}:Is K H (.str x) (.str x):=by unfold Is; rfl
theorem cI{K:aW}(h:bY K H a xs)(l:IsL K H ds xs):Is K H (.tup ds) (.ref a):=by unfold Is; exact⟨a,xs,rfl,h,l⟩
theorem aM{K:aW}:IsL K H [] []:=by unfold IsL; rfl
theorem au{K:aW}(h:Is K H d v)(l:IsL K H ds vs):IsL K H (d::ds) (v::vs):=by unfold IsL; exact⟨v,vs,rfl,h,l⟩
theorem Is.int_inv{K:aW}(h:Is K H (.int i) v):v=.int i:=by unfold Is at h; exact h
theorem Is.str_inv{K:aW}{i:Str}(h:Is K H (.str i) v):v=.str i:=by unfold Is at h; exact h
theorem Is.eJ{K:aW}(h:Is K H .non v):v=.non:=by unfold Is at h; exact h
theorem Is.bB{K:aW}(h:Is K H (.tup ds) v):∃ a xs,v=.ref a∧bY K H a xs∧IsL K H ds xs:=by unfold Is at h; exact h
theorem IsL.nil_inv{K:aW}(h:IsL K H [] vs):vs=[]:=by unfold IsL at h; exact h
theorem IsL.cons_inv{K:aW}(h:IsL K H (d::ds) vs):∃ v r,vs=v::r∧Is K H d v∧IsL K H ds r:=by unfold IsL at h; exact h
theorem IsL.length{K:aW}{H:Hp}:∀ {ds:List D} {vs:List V},IsL K H ds vs→ds.length=vs.length
 | [],_,h=>by rw[h.nil_inv]; rfl
 | d::ds,_,h=>by
  obtain⟨v,r,rfl,_,q⟩:=h.cons_inv;simp[IsL.length q]
theorem IsL.get{K:aW}{H:Hp}:∀ {ds:List D} {vs:List V} {j:Nat} {d:D},IsL K H ds vs→ds[j]?=some d→∃ v,vs[j]?=some v∧Is K H d v
 | [],_,_,_,_,e=>by simp at e
 | d::ds,_,0,_,h,e=>by
  obtain⟨v,r,rfl,p,_⟩:=h.cons_inv;simp at e; subst e;exact⟨v,rfl,p⟩
 | d::ds,_,j + 1,_,h,e=>by
  obtain⟨v,r,rfl,_,q⟩:=h.cons_inv;obtain⟨v',e',p'⟩:=IsL.get (j:=j) q (by simpa using e);exact⟨v',by simpa using e',p'⟩
theorem IsL.get'{K:aW}(h:IsL K H ds vs)(e:vs[j]?=some v):∃ d,ds[j]?=some d∧Is K H d v:=by
 have hj:j < ds.length:=by rw[h.length]; exact (eQ.mp e).1
 obtain⟨v',e',p⟩:=h.get (cu hj);rw[e]at e'; cases e';exact⟨_,cu hj,p⟩
theorem IsL.append{K:aW}{H:Hp}:∀ {ds es:List D} {vs ws:List V},IsL K H ds vs→IsL K H es ws→IsL K H (ds++es) (vs++ws)
 | [],_,_,_,h,q=>by rw[h.nil_inv]; exact q
 | d::ds,_,_,_,h,q=>by
  obtain⟨v,r,rfl,p,t⟩:=h.cons_inv;exact au p (IsL.append t q)
mutual
noncomputable def D.dep:D→Nat
 | .tup ds=>1 + D.cj ds
 | _=>0
noncomputable def D.cj:List D→Nat
 | []=>0
 | d::ds=>max d.dep (D.cj ds)
end
mutual
noncomputable def D.beq:D→D→Bool
 | .non,.non=>true
 | .int i,.int j=>i == j
 | .str x,.str y=>x == y
 | .tup ds,.tup es=>D.gU ds es
 | _,_=>false
noncomputable def D.gU:List D→List D→Bool
 | [],[]=>true
 | d::ds,e::es=>D.beq d e && D.gU ds es
 | _,_=>false
end
mutual
theorem D.beq_iff:∀ (d e:D),D.beq d e=true↔d=e
 | .non,e=>by cases e <;> simp[D.beq]
 | .int i,e=>by cases e <;> simp[D.beq]
 | .str i,e=>by cases e <;> simp[D.beq]
 | .tup ds,e=>by
  cases e with
  | tup es=>simp[D.beq,D.iJ ds es]
  | _=>simp[D.beq]
theorem D.iJ:∀ (ds es:List D),D.gU ds es=true↔ds=es
 | [],es=>by cases es <;> simp[D.gU]
 | d::ds,es=>by
  cases es with
  | nil=>simp[D.gU]
  | cons e es=>simp[D.gU,D.beq_iff d e,D.iJ ds es]
end
theorem D.nO(d:D):D.beq d d=true:=(D.beq_iff d d).mpr rfl
theorem D.zD(d:List D):D.gU d d=true:=(D.iJ d d).mpr rfl
theorem D.ub:∀ (ds es:List D),D.gU ds es=true→ds.length=es.length:=fun ds es h=>by rw[(D.iJ ds es).mp h]
theorem D.we:∀ {ds:List D} {d:D},d∈ds→d.dep≤D.cj ds
 | e::ds,d,h=>by
  rcases dO.mp h with rfl | h
  ·unfold D.cj; exact Nat.le_max_left ..
  ·unfold D.cj; exact vJ (D.we h) (Nat.le_max_right ..)
theorem D.tM:∀ (ds es:List D),((List.range (min ds.length es.length)).all (fun j=>match ds[j]?,es[j]? with | some d,some e=>D.beq d e | _,_=>true) && ds.length == es.length)=D.gU ds es:=by
 intro ds es;by_cases hl:ds.length=es.length
 ·rw[Bool.eq_iff_iff,Ei,List.all_eq_true,D.iJ];constructor
  ·rintro⟨h,_⟩
   refine List.ext_getElem? fun j=>?_
   by_cases hj:j < ds.length
   ·have hj':j < es.length:=by omega
    have q:=h j (List.mem_range.mpr (by omega));rw[cu hj,cu hj']at q;rw[cu hj,cu hj',(D.beq_iff _ _).mp q]
   ·rw[ES (by omega),ES (by omega)]
  ·rintro rfl
   refine⟨fun j hj=>?_,by simp⟩;have hj':j < ds.length:=by have:=List.mem_range.mp hj; omega
   rw[cu hj'];exact D.nO _
 ·have e1:(ds.length == es.length)=false:=by simpa using hl
  have e2:D.gU ds es=false:=by
   cases h:D.gU ds es with
   | false=>rfl
   | true=>exact absurd (D.ub ds es h) hl
  rw[e1,e2,Bool.and_false]
mutual
theorem Is.inj(I:Inv X pins σ H s):∀ {d e:D} {v:V},Is X.K H d v→Is X.K H e v→d=e
 | .non,e,_,h,k=>by
  have:=h.eJ; subst this;cases e with
  | non=>rfl
  | int i=>cases k.int_inv
  | str i=>cases k.str_inv
  | tup es=>obtain⟨_,_,q,_⟩:=k.bB; cases q
 | .int i,e,_,h,k=>by
  have:=h.int_inv; subst this;cases e with
  | non=>cases k.eJ
  | int j=>cases k.int_inv; rfl
  | str i=>cases k.str_inv
  | tup es=>obtain⟨_,_,q,_⟩:=k.bB; cases q
 | .str i,e,_,h,k=>by
  have:=h.str_inv; subst this;cases e with
  | non=>cases k.eJ
  | int j=>cases k.int_inv
  | str i=>cases k.str_inv; rfl
  | tup es=>obtain⟨_,_,q,_⟩:=k.bB; cases q
 | .tup ds,e,_,h,k=>by
  obtain⟨a,xs,rfl,q,l⟩:=h.bB;cases e with
  | non=>cases k.eJ
  | int j=>cases k.int_inv
  | str i=>cases k.str_inv
  | tup es=>
   obtain⟨b,ys,e',q',l'⟩:=k.bB;cases e';have:=I.jb q q';subst this;rw[IsL.inj I l l']
theorem IsL.inj(I:Inv X pins σ H s):∀ {ds es:List D} {vs:List V},IsL X.K H ds vs→IsL X.K H es vs→ds=es
 | [],es,_,h,k=>by
  have:=h.nil_inv; subst this;have:=k.length;simp at this; rw[this]
 | d::ds,es,_,h,k=>by
  obtain⟨v,r,rfl,p,q⟩:=h.cons_inv;cases es with
  | nil=>cases k.nil_inv
  | cons e es=>
   obtain⟨v',r',e',p',q'⟩:=k.cons_inv;cases e';rw[Is.inj I p p',IsL.inj I q q']
end
theorem in1_units(A:Around):A.in1.units=A.units + 1:=rfl
mutual
theorem wY(I:Inv X pins σ H s):∀ (d:D) (e:D) {A:Around} {v v':V} {u u':Value},Is X.K H d v→Is X.K H e v'→RelV v u→RelV v' u'→A.units + d.dep < cLine→SeqAt.EqAt A s u u' (D.beq d e)
 | .non,e,A,v,v',u,u',h,k,r,r',hu=>by
  have:=h.eJ; subst this;have eu:u=.none:=r;subst eu;cases e with
  | non=>have:=k.eJ; subst this; have eu:u'=.none:=r'; subst eu; exact SeqAt.EqAt.same _
  | int i=>have:=k.int_inv; subst this; obtain⟨t,rfl⟩:=r'; exact SeqAt.EqAt.none_int _ _
  | str i=>have:=k.str_inv; subst this; obtain⟨t,rfl⟩:=r'; exact SeqAt.EqAt.none_str _ _
  | tup es=>
   obtain⟨a,xs,rfl,q,l⟩:=k.bB;have eu:u'=.ref a:=r';subst eu;obtain⟨its,rv,p,z⟩:=I.tuple q
   exact SeqAt.EqAt.none_tuple p (by have:D.dep .non=0:=by unfold D.dep; rfl
                                     lia)
 | .int i,e,A,v,v',u,u',h,k,r,r',hu=>by
  have:=h.int_inv; subst this;obtain⟨t,rfl⟩:=r;cases e with
  | non=>have:=k.eJ; subst this; have eu:u'=.none:=r'; subst eu; exact SeqAt.EqAt.int_none _ _
  | int j=>have:=k.int_inv; subst this; obtain⟨t',rfl⟩:=r'; exact SeqAt.EqAt.int_int _ _ _ _
  | str j=>have:=k.str_inv; subst this; obtain⟨t',rfl⟩:=r'; exact SeqAt.EqAt.int_str _ _ _ _
  | tup es=>
   obtain⟨a,xs,rfl,q,l⟩:=k.bB;have eu:u'=.ref a:=r';subst eu;obtain⟨its,rv,p,z⟩:=I.tuple q;exact SeqAt.EqAt.int_tuple _ _ p (by lia)
 | .str i,e,A,v,v',u,u',h,k,r,r',hu=>by
  have:=h.str_inv; subst this;obtain⟨t,rfl⟩:=r;cases e with
  | non=>have:=k.eJ; subst this; have eu:u'=.none:=r'; subst eu; exact SeqAt.EqAt.str_none _ _
  | int j=>have:=k.int_inv; subst this; obtain⟨t',rfl⟩:=r'; exact SeqAt.EqAt.str_int _ _ _ _
  | str j=>have:=k.str_inv; subst this; obtain⟨t',rfl⟩:=r'; exact SeqAt.EqAt.str_str _ _ _ _
  | tup es=>
   obtain⟨a,xs,rfl,q,l⟩:=k.bB;have eu:u'=.ref a:=r';subst eu;obtain⟨its,rv,p,z⟩:=I.tuple q;exact SeqAt.EqAt.str_tuple _ _ p (by lia)
 | .tup ds,e,A,v,v',u,u',h,k,r,r',hu=>by
  obtain⟨a,xs,rfl,q,l⟩:=h.bB;have eu:u=.ref a:=r;subst eu;obtain⟨its,rv,p,z⟩:=I.tuple q;have hd:D.dep (.tup ds)=1 + D.cj ds:=by conv=>lhs; unfold D.dep
  cases e with
  | non=>have:=k.eJ; subst this; have eu:u'=.none:=r'; subst eu; exact SeqAt.EqAt.tuple_none p (by lia)
  | int j=>have:=k.int_inv; subst this; obtain⟨t',rfl⟩:=r'; exact SeqAt.EqAt.tuple_int _ _ p (by lia)
  | str j=>have:=k.str_inv; subst this; obtain⟨t',rfl⟩:=r'; exact SeqAt.EqAt.tuple_str _ _ p (by lia)
  | tup es=>
   obtain⟨b,ys,rfl,q',l'⟩:=k.bB;have eu:u'=.ref b:=r';subst eu;by_cases hab:a=b
   ·subst hab;have e:=I.jb q q';subst e;have e:=IsL.inj I l l';subst e;rw[D.nO];exact SeqAt.EqAt.same _
   ·refine SeqAt.EqAt.of_refs hab ?_;obtain⟨its',rv',p',z'⟩:=I.tuple q';have ln:=l.length;have ln':=l'.length;have lr:=rv.length;have lr':=rv'.length;have R:=SeqAt.RcAt.tuples (A:=A) (s:=s) (e:=fun j=>match ds[j]?,es[j]? with | some d,some e=>D.beq d e | _,_=>true) p p' (by lia) (fun j h1 h2=>?_)
    ·have e1:its.toArray.size=ds.length:=by rw[dY]; lia
     have e2:its'.toArray.size=es.length:=by rw[dY]; lia
     rw[e1,e2,D.tM]at R;have e3:D.beq (.tup ds) (.tup es)=D.gU ds es:=by conv=>lhs; unfold D.beq
     rw[e3];exact R
    ·have j1:j < ds.length:=by rw[dY]at h1; lia
     have j2:j < es.length:=by rw[dY]at h2; lia
     obtain⟨x,ex,ix⟩:=l.get (cu j1);obtain⟨y,ey,iy⟩:=l'.get (cu j2);obtain⟨w1,ew1,rw1⟩:=rv.get ex;obtain⟨w2,ew2,rw2⟩:=rv'.get ey;have f1:its.toArray[j]=w1:=by
      have:its.toArray[j]?=some w1:=by simpa using ew1
      exact (Array.getElem?_eq_some_iff.mp this).2
     have f2:its'.toArray[j]=w2:=by
      have:its'.toArray[j]?=some w2:=by simpa using ew2
      exact (Array.getElem?_eq_some_iff.mp this).2
     rw[f1,f2]
     try dsimp only
     rw[cu j1,cu j2];have dl:(ds[j]).dep≤D.cj ds:=D.we (vB j1);exact BM I ds j ds[j] (cu j1) es[j] ix iy rw1 rw2 (by rw[in1_units]; lia)
theorem BM(I:Inv X pins σ H s):∀ (ds:List D) (j:Nat) (d:D),ds[j]?=some d→∀ (e:D) {A:Around} {v v':V} {u u':Value},Is X.K H d v→Is X.K H e v'→RelV v u→RelV v' u'→A.units + d.dep < cLine→SeqAt.EqAt A s u u' (D.beq d e)
 | [],_,_,h=>by simp at h
 | d::ds,0,_,h=>by
  simp at h; subst h;exact fun e {A v v' u u'}=>wY I d e
 | d::ds,j + 1,_,h=>by
  exact BM I ds j _ (by simpa using h)
end
def Cl(P:Program)(w:World)(K:aW)(mg:Str→Option Value)(base:Heap)(x:Str)(k:Nat)(ps:List Str)(sp:Sp):Prop:=
 ∃ f fd,bg P w K mg base cH k f fd ps sp∧Binds K fd ps []∧PySem.W.keepIn K (.ref f)=true∧mg x=some (.ref f)
theorem Cl.mono{K:aW}{mg:Str→Option Value}{k:Nat}(c:Cl P w K mg base x j ps sp)(h:j≤k):Cl P w K mg base x k ps sp:=
 let ⟨f,fd,F,b,kp,m⟩:=c; ⟨f,fd,F.mono h,b,kp,m⟩
theorem cM.cl{K:aW}{mg:Str→Option Value}{st:Stmt}{f:Addr}{fd:sE}{k:Nat}(F:cM K x x st f fd)(ok:bg P w K mg base cH k f fd ps sp)(m:mg x=some (.ref f))
  (h:∀ (kV doc pm:Value) (an:Option Addr) (cdv ct:Value) (us:List Value),us.length=ps.length→bindArgs (PySem.W.fnOf x x (fQ st) (fb st) (ao st) .none kV doc pm an cdv ct) ⟨us,[]⟩=pure (ps.zip us)):Cl P w K mg base x k ps sp:=
 ⟨f,fd,ok,F.binds h,F.kp,m⟩
def Il(sp:Sp)(t:TA):TE:=fun σ H Q=>t σ H fun vs H1=>sp vs H1 Q E0
section
variable {k:Nat}{t:TA}
theorem aC(c:Cl X.prog X.w X.K X.mg X.base x k ps sp)(hr:dX k X.A)(hg:Gl X x)(ha:PA X (e::es) t)(hdb:autoParam ((x == ("__debug__":Str))=false) q_2)
  (he:autoParam (starEach (e::es) X.env=(false,eval e X.env)::starEach es X.env) q_1) (hpl:autoParam ((backTo pos (starEach es X.env)).any (·.1)=false) q_1):PE X (.Call (.Name x p) (e::es) [] pos) (Il sp t):=by
 obtain⟨f,fd,F,b,kp,m⟩:=c;have h:=DU (E:=E0) (pos:=pos) (p:=p) F hr hg m kp b .nil xG ha hdb he hpl;have e1:BW sp [] E0 t=Il sp t:=by
  funext σ H Q
  unfold BW Il;simp only[xE]
 rw[e1]at h;exact h
end
def KD(P:Program)(w:World)(K:aW)(a:Addr)(kvs:List (Str × V)):Prop:=
 ∀ h:Heap,K.In h→∃ vs,KV (kvs.map fun p=>((Sum.inr p.1:Key),p.2)) vs∧h.DictOf (bt P w) a vs
def GR(P:Program)(w:World)(K:aW):R2:=fun x y H Q=>aw Q (fun p Q=>aw Q (fun kvs Q=>aw Q (fun z Q=>aw Q (fun v Q=>x=.ref p∧y=.str z∧KD P w K p kvs∧kvs.lookup z=some v∧Q v H))))
theorem Hd:∀ {vs:List (Key × Value)} {z:Str} {v:V},KV (kvs.map fun p=>((Sum.inr p.1:Key),p.2)) vs→kvs.lookup z=some v→∃ u,PySem.valueAt vs (Sum.inr z:Key)=some u∧RelV v u:=by
 induction kvs with
 | nil=>intro vs z v _ h; simp at h
 | cons p r ih=>
  intro vs z v hk h;obtain⟨x,y⟩:=p;cases hk with
  | cons hd tl=>
   rename_i q l2;obtain⟨qk,qv⟩:=q;obtain⟨e1,e2⟩:=hd;dsimp only at e1 e2;subst e1;by_cases hz:z=x
   ·subst hz;simp only[Cu,beq_self_eq_true]at h;cases h;refine⟨qv,?_,e2⟩;unfold PySem.valueAt;simp
   ·have hb:(z == x)=false:=by simpa using hz
    simp only[Cu,hb]at h;obtain⟨u,e,ru⟩:=ih tl h;refine⟨u,?_,ru⟩;unfold PySem.valueAt at e ⊢;have hne:¬ ((Sum.inr x:Key)=Sum.inr z):=fun q=>hz (Sum.inr.inj q).symm
    simp only[C8,fK hne];exact e
theorem Gx:HB X (GR X.prog X.w X.K):=by
 intro value slice pins s σ H x y v u Q I rx ry h hs;obtain⟨p,kvs,z,w',rfl,rfl,hk,hl,q⟩:=h;cases rx;obtain⟨t,rfl⟩:=ry;obtain⟨vs,rel,dd⟩:=hk s.heap I.wV;obtain⟨r,er,rr⟩:=Hd rel hl;have fin:∀ s',Inv X pins σ H s'→EP X pins σ Q r s':=fun s' I'=>⟨w',H,I',rr,q⟩
 have hm:=dd.mapOf;exact subscriptTail_builtinR (x:=r) hm.typeIs slot_dict_getitem.lookup (wpAny_getItem_of (k:=(Sum.inr z:Key)) (fM _ _ z t) hm er ⟨rfl,fin _ (I.tok _)⟩) hs
theorem KD.of{K:aW}{o:Obj}{es:Array DictEntry}{ep:Nat}(l:K.lookup a=some o)(hx:o.ExactDict)(hd:o.data=.dict es ep)
  (hp:Paired (fun (p:Str × V) (e:DictEntry)=>e.hash=hashStr w p.1∧(∃ t,e.key=.str p.1 t)∧RelV p.2 e.val) kvs es.toList) (hn:(kvs.map (·.1)).Nodup):KD P w K a kvs:=by
 intro h hk;have go:∀ (kvs:List (Str × V)) (l:List DictEntry),Paired (fun (p:Str × V) (e:DictEntry)=>e.hash=hashStr w p.1∧(∃ t,e.key=.str p.1 t)∧RelV p.2 e.val) kvs l→
   ∃ vs:List (Key × Value),KV (kvs.map fun p=>((Sum.inr p.1:Key),p.2)) vs∧(∀ e∈l,∃ k,(bt P w).is k e.key=true∧e.hash=(bt P w).hash k)∧PySem.Pairs (bt P w) l vs∧vs.map (·.1)=kvs.map fun p=>(Sum.inr p.1:Key):=by
  intro kvs l hp
  induction hp with
  | nil=>exact⟨[],.nil,fun e he=>(nomatch he),.nil,rfl⟩
  | @cons p e l1 l2 hd tl ih=>
   obtain⟨vs,h1,h2,h3,h4⟩:=ih;obtain⟨q1,⟨t,q2⟩,q3⟩:=hd;refine⟨(Sum.inr p.1,e.val)::vs,.cons ⟨rfl,q3⟩ h1,fun e' he'=>?_,?_,?_⟩
   ·rcases dO.mp he' with rfl | he'
    ·exact⟨Sum.inr p.1,by rw[q2]; exact fM _ _ _ _,q1⟩
    ·exact h2 e' he'
   ·exact .cons (by rw[q2]; exact fM _ _ _ _) rfl h3
   ·simp[h4]
 obtain⟨vs,h1,h2,h3,h4⟩:=go kvs es.toList hp;refine⟨vs,h1,o,es,ep,hk a o l,hx,hd,fun e he=>h2 e (by simpa using he),h3,?_⟩;rw[h4];have:(kvs.map fun p=>(Sum.inr p.1:Key))=(kvs.map (·.1)).map Sum.inr:=by simp
 rw[this];exact List.Pairwise.map _ (fun a b hab q=>hab (Sum.inr.inj q)) hn
noncomputable def oX:Expr→Option V
 | .Constant (.int i) _ _=>some (.int i)
 | .Constant (.str x) _ _=>some (.str x)
 | .Constant .none _ _=>some .non
 | .Constant (.bool b) _ _=>some (.bl b)
 | _=>none
noncomputable def sv:List Expr→Option (List V)
 | []=>some []
 | e::es=>match oX e,sv es with
  | some v,some vs=>some (v::vs)
  | _,_=>none
def JO(vs:List V):TA:=fun _ H Q=>Q vs H
theorem vF(h:oX e=some v):starEach (e::es) X.env=(false,eval e X.env)::starEach es X.env:=by
 unfold oX at h;split at h
 ·rfl
 ·rfl
 ·rfl
 ·rfl
 ·cases h
theorem B4(h:oX e=some v):PE X e (tC v):=by
 unfold oX at h;split at h
 ·cases h; exact ai
 ·cases h; exact aJ
 ·cases h; exact cJ
 ·cases h; exact dR
 ·cases h
theorem di{X:Cx}:∀ {es:List Expr} {vs:List V},sv es=some vs→PA X es (JO vs)
 | [],vs,h=>by
  cases h;exact ae
 | e::es,vs,h=>by
  unfold sv at h;split at h
  ·rename_i v ws h1 h2;cases h;exact aa (B4 h1) (di h2) (vF h1)
  ·cases h
section
variable {K:aW}
theorem AF(h:X.K=K):HB X (GG K):=h ▸ aK
theorem xV{k:Nat}{t:Cs}(hK:X.K=K)(hc:X.calm=true)(h:F6 X es t)
  (hn:autoParam ((assignEach es X.env).length=n) q_1) (hst:autoParam ((assignEach es X.env).findIdx? (·.1)=none) q_1):PG X (.Tuple es k pos) (HJ K n t):=hK ▸ hJ hc h hn hst
end
def F8(K:aW)(a:Addr):It:=
 ⟨fun i H=>∃ xs x,a7 K H a xs∧xs[i]?=some x,fun i H x H'=>∃ t,H t=none∧x=.ref t∧∀ xs,a7 K H a xs→∃ v,xs[i]?=some v∧H'=upd H t (.tup [.int i,v]),fun i H=>∃ xs,a7 K H a xs∧xs.length≤i⟩
theorem zQ{K:aW}{k:Nat}(a e it:Addr)(hne:e≠it) :
  Turn P w K (.Tuple es k pos) (F8 K a) [e,it] e (fun i h=>(∃ old,IsEnum h e it (i:Int) old)∧h.IsListIter it a i) where
 mem:=by simp
 obj:=fun i h st b hb=>by
  obtain⟨⟨old,st1⟩,o,e2,c,d⟩:=st;simp only[dO,o7,or_false]at hb;rcases hb with rfl | rfl
  ·exact⟨_,st1,fun v z=>by cases z⟩
  ·exact⟨o,e2,fun v z=>by rw[d]at z; cases z⟩
 keep:=fun i h h' st kp=>⟨let ⟨old,z⟩:=st.1; ⟨old,kp e (by simp) _ z⟩,st.2.at fun o q=>kp it (by simp) o q⟩
 item:=by
  intro X hP hw hK hc i pins s σ H E I hf st hg;subst hP hw hK;obtain⟨xs,x,hq,hx⟩:=hg;obtain⟨its,rv,p,hz⟩:=I.list hq;obtain⟨u,hu,ru⟩:=rv.get hx;obtain⟨⟨old,st1⟩,st2⟩:=st;refine wpAny_pyNext_enum_item st1 st2 p.isList (x:=u) (by simpa using hu) hne fun h1 o1 l1 t1 z1 k1=>?_
  refine⟨_,rfl,wpAny_letOwnedTupleGo_enum o1 fun h2 o2 b2=>?_⟩;have hnew:H s.heap.objs.size=none:=I.fresh;have lte:e < s.heap.objs.size:=dy st1;have k2:∀ b o,b≠e→b≠it→s.heap.get? b=some o→h2.get? b=some o:=fun b o b1 b2' q=>b2.extBut b o b1 (k1 b o b1 b2' q)
  have t2:h2.get? s.heap.objs.size=some { cls:=.type "tuple",data:=.seq #[.int i s.toks,u] }:=b2.extBut _ _ (Nat.ne_of_gt lte) t1;have fe:=hf e (by simp);have fi:=hf it (by simp);have nch:∀ b o,H b=some o→b≠e∧b≠it:=fun b o q=>⟨fun z=>by (rw[z,fe.1]at q; cases q),fun z=>by (rw[z,fi.1]at q; cases q)⟩
  have I2:Inv X pins σ (upd H s.heap.objs.size (.tup [.int i,x])) { s with heap:=h2,gens:=s.gens,drawn:=s.drawn,toks:=s.toks + 1 }:=by
   refine I.step (ch:=[e,it]) (fun b hb=>?_) (fun b o _ _ hc q _=>k2 b o (fun z=>hc (by simp[z])) (fun z=>hc (by simp[z])) q) (fun b o _ _ hc q _=>⟨o.slots,k2 b o (fun z=>hc (by simp[z])) (fun z=>hc (by simp[z])) q⟩)
    (fun b o _ q n=>by rw[aq (eR (dy q))]; exact n) (fun b o hc q=>⟨o,k2 b o (fun z=>hc (by simp[z])) (fun z=>hc (by simp[z])) q⟩)
    (fun b zs q=>by rw[aq (aH q hnew)]; exact q) (fun b o v q=>by rw[aq (aH q hnew)]; exact q) (fun b ps q=>⟨#[],by rw[aq (aH q hnew),q]; simp⟩) (fun m hm=>?_) (fun b o q=>?_) I.bare
   ·simp only[dO,o7,or_false]at hb;rcases hb with rfl | rfl
    ·exact⟨fe.2.2.2.1,fe.2.1,fe.2.2.2.2.1,fe.2.2.2.2.2⟩
    ·exact⟨fi.2.2.2.1,fi.2.1,fi.2.2.2.2.1,fi.2.2.2.2.2⟩
   ·obtain⟨o,es',ep,ho,r⟩:=hm;exact⟨o,es',ep,k2 _ o (Ne.symm fe.2.1) (Ne.symm fi.2.1) ho,r⟩
   ·by_cases hb:b=s.heap.objs.size
    ·subst hb;rw[af]at q;cases q;exact⟨by show 2≤sizeLine; decide,[.int i s.toks,u],.cons ⟨_,rfl⟩ (.cons ru .nil),_,t2,rfl,_,rfl⟩
    ·rw[aq hb]at q;refine (I.hok b o q).sP (fun c v hc z=>k2 c v ?_ ?_ z) (fun c z=>by rw[aq (aH z hnew)]; exact z) fun c zs z=>by rw[aq (aH z hnew)]; exact z
     ·rcases hc with z' | z'
      ·rw[z']; exact (nch b o q).1
      ·exact (nch c _ z').1
     ·rcases hc with z' | z'
      ·rw[z']; exact (nch b o q).2
      ·exact (nch c _ z').2
  refine⟨.ref s.heap.objs.size,_,I2,rfl,⟨_,hnew,rfl,fun ys hy=>⟨x,by rw[I.tZ hy hq]; exact hx,rfl⟩⟩,⟨⟨u,?_⟩,l1.extBut b2.extBut (Ne.symm hne)⟩,fun b hb=>?_⟩
  ·have:((i:Int) + 1)=((i + 1:Nat):Int):=by lia
   rw[← this]; exact o2
  ·simp only[dO,o7,or_false]at hb;rcases hb with rfl | rfl
   ·rw[aq (eR lte)]; exact fe.1
   ·obtain⟨oi,ei,_⟩:=st2;rw[aq (eR (dy ei))]; exact fi.1
 done:=by
  intro X hP hw hK hc i pins s σ H E I hf st hg;subst hP hw hK;obtain⟨xs,hq,hx⟩:=hg;obtain⟨its,rv,p,hz⟩:=I.list hq;obtain⟨⟨old,st1⟩,st2⟩:=st;obtain⟨f0,f1,f2,f3,f4,f5⟩:=hf it (by simp);have hl:=rv.length;exact wpAny_pyNext_enum_end (I.ok.hd hc) st1 st2 p.isList (by simp; lia) fun h' eb=>⟨rfl,I.turned (t':=s.toks) (fun b o hb e=>eb b o hb e) f0 f1 f3 f4 f5⟩
 self:=fun A i s Q E st h=>by
  obtain⟨old,st1⟩:=st.1;have hT:s.TypeIs (.ref e) "enumerate":=⟨_,st1,rfl⟩
  exact wpAny_pyIter_slot hT F.slot_enumerate_iter (yp F.slot_enumerate_iter hT F.entry_enumerate_iter (bH ⟨_,rfl, "enumerate",_,hT,F.slot_enumerate_next.lookup,h⟩) (F.args_enumerate_iter_1 _))
def Gs(K:aW)(ta:TA):TI:=fun σ H R=>ta σ H fun vs H1=>aw R (fun a R=>vs=[.ref a]∧(∃ xs,a7 K H1 a xs)∧R (F8 K a) H1)
theorem xC{k:Nat}{post:Pos}{a:Expr}(hg:Gl X "enumerate")(hm:X.mg "enumerate" = none)(ha:PA X [a] ta)(hs:autoParam (starEach [a] X.env=[(false,eval a X.env)]) q_1) :
  PI X (.Tuple es k post) (.Call (.Name "enumerate" p) [a] [] pos) (Gs X.K ta):=by
 intro pins s σ H R I h;refine Call_ (gr I hg hm PyProof.Rows.boot_enumerate (D5 (bW (ha pos pins s σ H _ I h) fun us s1 hpat=>?_) hs rfl));obtain⟨vs,H1,I1,r1,q1⟩:=hpat;obtain⟨l,rfl,⟨xs,hq⟩,q⟩:=q1;obtain⟨u,rfl,ru⟩:=r1.one;cases ru;obtain⟨its,rv,pl,hz⟩:=I1.list hq;refine call_enumerate_list pl.isList fun h' en it sz kp=>?_
 have T:=zQ (P:=X.prog) (w:=X.w) (K:=X.K) (es:=es) (k:=k) (pos:=post) l (s1.heap.objs.size + 1) s1.heap.objs.size (Nat.succ_ne_self _);have st:(∃ old,IsEnum h' (s1.heap.objs.size + 1) s1.heap.objs.size (((0:Nat)):Int) old)∧h'.IsListIter s1.heap.objs.size l 0:=⟨⟨_,en⟩,it⟩
 have I2:Inv X pins σ H1 { s1 with heap:=h' }:=I1.kept (t':=s1.toks) kp;refine T.self X.A 0 { s1 with heap:=h' } _ _ st ?_;refine⟨_,_,_,_,H1,rfl,I2,T,st,fun b hb=>?_,q⟩;simp only[dO,o7,or_false]at hb;rcases hb with rfl | rfl
 ·exact I1.xm (zH _) (I1.hok.fresh (zH _))
 ·exact I1.xm (cq _) (I1.hok.fresh (cq _))
theorem Au{K:aW}{g:TG}{tb:TS}{D:Ends}(Pv:Nat→St→Hp→Prop)(h0:Pv 0 σ H)(hl:∀ i σ H,i≤xs.length→Pv i σ H→a7 K H a xs)
  (hs:∀ i x σ H t,xs[i]?=some x→Pv i σ H→H t=none→g (.ref t) σ (upd H t (.tup [.int (i:Int),x])) fun σ2 H2=>tb {D with nx:=Pv (i + 1),ct:=Pv (i + 1),bk:=D.nx} σ2 H2) (hd:∀ σ H,Pv xs.length σ H→D.nx σ H) :
  ∃ W:Nat→Nat→St→Hp→Prop,(∃ m,W 0 m σ H)∧∀ i m σ H,W i m σ H→
   ((F8 K a).stop i H∧D.nx σ H)∨((F8 K a).go i H∧∃ N:St→Hp→Prop,(∀ σ' H',N σ' H'→∃ m',m' < m∧W (i + 1) m' σ' H')∧∀ x H',(F8 K a).yld i H x H'→g x σ H' fun σ2 H2=>tb { D with nx:=N,ct:=N,bk:=D.nx } σ2 H2):=by
 refine⟨fun i m σ H=>i≤xs.length∧m=xs.length - i∧Pv i σ H,⟨xs.length,fE _,rfl,h0⟩,fun i m σ H hw=>?_⟩;obtain⟨hi,rfl,hp⟩:=hw;have hq:=hl i σ H hi hp;by_cases hlt:i < xs.length
 ·refine .inr ⟨⟨xs,xs[i],hq,cu hlt⟩,Pv (i + 1),fun σ' H' h'=>⟨xs.length - (i + 1),by lia,by lia,rfl,h'⟩,fun x H' hy=>?_⟩;obtain⟨t,nt,rfl,hv⟩:=hy;obtain⟨v,ev,rfl⟩:=hv xs hq;exact hs i v σ H t ev hp nt
 ·have e:i=xs.length:=by lia
  subst e;exact .inl ⟨⟨xs,hq,cq _⟩,hd σ H hp⟩
def D6(K:aW)(n:Nat)(neg:Bool):R2:=fun x y H Q=>aw Q (fun a Q=>aw Q (fun b Q=>aw Q (fun xs Q=>aw Q (fun ys Q=>aw Q (fun ds Q=>aw Q (fun es Q=>x=.ref a∧y=.ref b∧a7 K H a xs∧a7 K H b ys∧IsL K H ds xs∧IsL K H es ys∧D.cj ds < n∧Q (.bl (if neg then !D.gU ds es else D.gU ds es)) H))))))
theorem D3(I:Inv X pins σ H s){A:Around}{es:List D}{b:Addr}{ys:List V}(q:a7 X.K H a xs)(q':a7 X.K H b ys)(l:IsL X.K H ds xs)(l':IsL X.K H es ys)(hu:A.units + 1 + D.cj ds < cLine) :
  SeqAt.RcAt A s (.ref a) (.ref b) (D.gU ds es)∧SeqAt.RcNeAt A s (.ref a) (.ref b) (!D.gU ds es):=by
 obtain⟨its,rv,p,z⟩:=I.list q;obtain⟨its',rv',p',z'⟩:=I.list q';have ln:=l.length;have ln':=l'.length;have lr:=rv.length;have lr':=rv'.length;have e1:its.toArray.size=ds.length:=by rw[dY]; lia
 have e2:its'.toArray.size=es.length:=by rw[dY]; lia
 by_cases hl:ds.length=es.length
 ·have he:∀ j (h1:j < its.toArray.size) (h2:j < its'.toArray.size),SeqAt.EqAt A.in1 s its.toArray[j] its'.toArray[j] ((fun j=>match ds[j]?,es[j]? with | some d,some e=>D.beq d e | _,_=>true) j):=fun j h1 h2=>by
   have j1:j < ds.length:=by lia
   have j2:j < es.length:=by lia
   obtain⟨x,ex,ix⟩:=l.get (cu j1);obtain⟨y,ey,iy⟩:=l'.get (cu j2);obtain⟨w1,ew1,rw1⟩:=rv.get ex;obtain⟨w2,ew2,rw2⟩:=rv'.get ey;have f1:its.toArray[j]=w1:=by
    have:its.toArray[j]?=some w1:=by simpa using ew1
    exact (Array.getElem?_eq_some_iff.mp this).2
   have f2:its'.toArray[j]=w2:=by
    have:its'.toArray[j]?=some w2:=by simpa using ew2
    exact (Array.getElem?_eq_some_iff.mp this).2
   rw[f1,f2]
   try dsimp only
   rw[cu j1,cu j2];have dl:(ds[j]).dep≤D.cj ds:=D.we (vB j1);exact wY I _ _ ix iy rw1 rw2 (by rw[in1_units]; lia)
  have R1:=SeqAt.RcAt.lists p.isList p'.isList (by lia) (by lia) he;have R2:=SeqAt.RcNeAt.lists p.isList p'.isList (by lia) (by lia) he;have eb:=D.tM ds es;rw[show (ds.length == es.length)=true from by simpa using hl,Bool.and_true,Nat.min_eq_left (by lia)]at eb;rw[e1]at R1 R2;exact⟨by rw[← eb]; exact R1,by rw[← eb]; exact R2⟩
 ·have eb:D.gU ds es=false:=by
   cases h:D.gU ds es with
   | false=>rfl
   | true=>exact absurd (D.ub ds es h) hl
  rw[eb];have hs:(its.toArray.size != its'.toArray.size)=true:=by rw[e1,e2]; simpa using hl
  exact⟨SeqAt.RcAt.lists_lengths p.isList p'.isList hs (by lia),SeqAt.RcNeAt.lists_lengths p.isList p'.isList hs (by lia)⟩
theorem HZ(hu:X.A.units + 1 + n < cLine):jQ X (compareOp .Eq) (D6 X.K n false):=by
 intro pins s σ H x y v u Q I rx ry h;obtain⟨a,b,xs,ys,ds,es,rfl,rfl,q1,q2,l1,l2,hd,q⟩:=h;cases rx; cases ry;exact (D3 I q1 q2 l1 l2 (by lia)).1 X.prog X.w X.xe _ ⟨.bl _,H,I,rfl,q⟩
theorem DS(hu:X.A.units + 1 + n < cLine):jQ X (compareOp .NotEq) (D6 X.K n true):=by
 intro pins s σ H x y v u Q I rx ry h;obtain⟨a,b,xs,ys,ds,es,rfl,rfl,q1,q2,l1,l2,hd,q⟩:=h;cases rx; cases ry;exact (D3 I q1 q2 l1 l2 (by lia)).2 X.prog X.w X.xe _ ⟨.bl _,H,I,rfl,q⟩
end L2
namespace L2
open PySem PySem.Spec PyProof.Rows PySem.W
variable {C N e:Addr}{A:Around}{E:Value→Shared→Prop}{X:Cx}{w:World}{s:Shared}{pos np:Pos}{prog:Program}{h:Heap}{nm q x:Str}{bm sub:List Value}{hdct ab:Bool}{sn:List Str}{col:Option Bool}{dd od:Option Addr}{k0:Option Value}{newId:String}{vs:Array Value}{sl:Array (Option Value)}{M:Model}{env:Env}{H:Hp}
section
variable {g:Array GenState}{d:Drawn}{t:Nat}{os:OsState}
variable {bs bmB:List Value}{k1 k2 k3 k5:Option Value}{B initId:String}
end
noncomputable def Eo:List Value→Bool
 | .ref _::r=>Eo r
 | l=>l == [.type "ValueError",.type "Exception",.type "BaseException",.type "object"]
noncomputable def Hl(K:aW)(C:Addr):Bool:=(PySem.W.clsIn K C).any fun c=>Eo c.mro
section
variable {K:aW}
variable {x:Addr}{name:Str}{v:Value}
end
section
variable {base:Heap}{outer l:List Env}{L:Addr}{c fl head:Value}{hadNext:Bool}{lo:Nat}{Q:Unit→Shared→Prop}
end
def Hc(e C:Addr)(od:Option Addr):HO:=.ext fun h=>∃ t,h.get? e=some ⟨.ref C,od,.fields #[.ref t,.none,.none,.none,.bool false,.none],#[]⟩
section
variable {P:Program}{t:Addr}
end
structure JM (K:aW) (C:Addr):Prop where
 sa:PySem.W.findIn K (.ref C) "__setattr__" = some (some (.builtin "object.__setattr__"))
 po:Hl K C=true
 hd:PySem.W.hasDictIn K C=true
structure JJ (K:aW) (C f:Addr):Prop where
 ex:∃ nm q N bs bm hdct sn sub ab col dd k0 k1 k2 k3 k5 newId B initId bmB,K.lookup C=some (excClassObj nm q C N bs bm hdct sn sub ab col dd k0 k1 k2 k3 k5 newId)∧ExcBaseFacts B newId initId bmB∧
  bm.contains (.type "BaseException")=true∧(∀ h,K.In h→OwnTail h bmB bm)∧(∀ h,K.In h→∃ mN,h.Ns N mN∧mN "__init__" = some (.ref f))
 fn:∃ oI,K.lookup f=some oI∧oI.cls=.type "function"
 kp:PySem.W.keepIn K (.ref C)=true
section
variable {o value:Expr}{f:Str}{pos':Pos}{ta tv:TE}
end
section
variable {bs:List Value}{k1 k2 k3 k5:Option Value}
end
section
variable {k:Nat}{f:Addr}{fd:sE}{ps:List Str}{sp:Sp}{cpos:Pos}{e:Expr}{es:List Expr}{t:TA}{R:Addr→Addr→Hp→Prop}
end
section
variable {pins pins':List (Addr × Obj)}{σ:St}{E:XK}{a:Addr}
end
section
variable {E:XK}{i:Nat}{n:Str}{S:Addr}{b₀:Stmt}{body suite:List Stmt}{hpos:Pos}{tb th:TS}
end
end L2
namespace L2
open PySem PySem.Spec PyProof.Rows PySem.W
variable {X:Cx}{s s₀:Shared}{H H' H₀:Hp}{A:Around}{w:World}{E Q:Value→Shared→Prop}{a C dx fa:Addr}{pins:List (Addr × Obj)}{pos cpos apos p pos' tpos:Pos}{σ:St}{e o value tg:Expr}{u fl cd r:Value}{prog P:Program}{y v:V}{kvs:List (Key × V)}{es:List Expr}{ps N:List Str}{t:TA}{sp:Sp}{x m qual f:Str}{xs:List (List Key × Addr × Value)}{ts:List T}{base h':Heap}{j n:Nat}{td ty tv ta:TE}{env:Env}{items:Array Value}{scope:Scope}{outer:List Env}{ox:Obj}{M:Model}
section
variable {K:aW}{x D:Addr}{odo:Option Obj}{name:Str}{v:Value}
end
structure JF (K:aW) (C:Addr):Prop where
 ga:PySem.W.findIn K (.ref C) "__getattribute__" = some (some (.builtin "BaseException.__getattribute__"))
 gn:PySem.W.findIn K (.ref C) "__getattr__" = some none
 mb:PySem.W.mroIn K C (.type "BaseException")=some true
 hd:PySem.W.hasDictIn K C=true
 cl:PySem.W.findIn K (.ref C) "__class__" = some (some (.builtin "object.__class__"))
 cg:PySem.W.specialIn K (.builtin "object.__class__") "__get__" = some (some (.builtin "getset_descriptor.__get__"))
 ct:PySem.W.takesIn K (.builtin "object.__class__")=some true
 mo:PySem.W.mroIn K C (.type "object")=some true
section
variable {K:aW}{x:Addr}{od:Obj}{name:Str}{v:Value}
end
section
variable {fs:List (Str × V)}
end
section
variable {k:Nat}{E:XK}
end
inductive C0(C:Addr)(f:Str)(vs:List V)(H:Hp)(Q:VK)(E:XK):Prop|m(a v:_)(_:vs=[.ref a,v])(_:H a=some (Hc a C none))(_:∀ dx,H dx=none→dx≠a→Q .non (upd (upd H dx (.xd [(f,v)])) a (Hc a C (some dx))))
structure JS (P:Program) (w:World) (K:aW) (mg:Str→Option Value) (base:Heap) (x:Str) (k:Nat) (ps:List Str) (C:Addr) (f:Str):Prop where
 ex:∃ fI fd,JJ K C fI∧bg P w K mg base cH k fI fd ps (C0 C f)∧Binds K fd ps []
 mg:mg x=some (.ref C)
 len:ps.length≤sizeLine
section
variable {K:aW}{mg:Str→Option Value}{E:XK}
variable {k:Nat}{np:Pos}
end
theorem uJ:∀ {bs:List Bool} {us:List Value},Vals (bs.map V.bl) us→LSm.BoolsAre us bs
 | [],_,.nil=>.nil
 | b::bs,_,.cons r t=>by
  cases (show _=Value.bool b from r);exact .cons b (uJ t)
def IV(K:aW):List V→Hp→VK→Prop:=fun xs H Q=>aw Q (fun (p:Addr) Q=>aw Q (fun (bs:List Bool) Q=>xs=[.ref p]∧a7 K H p (bs.map V.bl)∧Q (.bl (bs.all id)) H))
theorem tI(hc:X.calm=true):fX X (.builtin "all") (IV X.K):=by
 intro pins s σ H xs us Q I r h;obtain⟨p,bs,rfl,hs,q⟩:=h;obtain⟨u,rfl,ru⟩:=r.one;obtain rfl:u=Value.ref p:=ru;obtain⟨its,rv,hl,_⟩:=I.list hs;have hb:=uJ rv;have hl':s.heap.IsList p its.toArray:=hl.isList;have hlt:p < s.heap.objs.size:=by obtain⟨_,e,_⟩:=hl'; exact dy e
 refine call_all_walk (wpAny_pyIter_list hl' ?_)
 refine⟨s.heap.objs.size,[s.heap.objs.size,p],[s.heap.objs.size],its.toArray.size,_,_,fun i=>(bs[i]?).getD true,rfl,Walks.list (A:=X.A.in1) (I.ok.hd hc) _ p (eR hlt) its.toArray,
  ⟨⟨_,jN _ rfl,rfl,rfl⟩,hl'.push _⟩,fun i v s' Q' E' hP hQ=>?_,fun h' tk hk=>?_⟩
 ·obtain⟨b,e,rfl⟩:=hb.get i v (by simpa using hP);simp only[e,Option.getD_some]at hQ;exact Es hQ
 ·have e:((List.range its.toArray.size).all fun i=>(bs[i]?).getD true)=bs.all id:=by
   rw[dY,hb.length]; exact LSm.range_all bs
  rw[e];exact⟨.bl (bs.all id),H,I.kept (t':=tk) (LSm.kept_iter hk),rfl,q⟩
section
variable {κ:Type} [DecidableEq κ]
noncomputable def cv(kvs:List (κ × V))(k:κ):Option V:=(kvs.find? fun kv=>decide (kv.1=k)).map (·.2)
noncomputable def putK(kvs:List (κ × V))(k:κ)(v:V):List (κ × V):=
 if (kvs.any fun kv=>decide (kv.1=k))=true then kvs.map (fun kv=>if kv.1=k then (kv.1,v) else kv) else kvs++[(k,v)]
theorem cy{p:κ × V}{r:List (κ × V)}{k:κ}(e:p.1=k):cv (p::r) k=some p.2:=by simp[cv,C8,e]
theorem cA{p:κ × V}{r:List (κ × V)}{k:κ}(e:¬ p.1=k):cv (p::r) k=cv r k:=by simp[cv,C8,e]
theorem fm(k:κ):∀ kvs:List (κ × V),(kvs.any fun kv=>decide (kv.1=k))=(cv kvs k).isSome
 | []=>rfl
 | p::r=>by
  rw[List.any_cons];by_cases e:p.1=k
  ·simp only[cy e,ff e,Bool.true_or,Option.isSome_some]
  ·rw[cA e,fK e,Bool.false_or]; exact fm k r
theorem tK(k j:κ)(y:V):∀ kvs:List (κ × V),cv (kvs.map fun kv=>if kv.1=k then (kv.1,y) else kv) j=(cv kvs j).map fun x=>if j=k then y else x
 | []=>rfl
 | p::r=>by
  have ih:=tK k j y r;rw[mD];by_cases h:p.1=k
  ·rw[if_pos h];by_cases e:p.1=j
   ·rw[cy (p:=(p.1,y)) e,cy e,Option.map_some,if_pos (e.symm.trans h)]
   ·rw[cA (p:=(p.1,y)) e,cA e,ih]
  ·rw[if_neg h];by_cases e:p.1=j
   ·rw[cy (p:=p) e,cy e,Option.map_some,if_neg (fun z=>h (e.trans z))]
   ·rw[cA (p:=p) e,cA e,ih]
theorem qx(k j:κ)(y:V):∀ kvs:List (κ × V),cv kvs k=none→cv (kvs++[(k,y)]) j=if j=k then some y else cv kvs j
 | [],_=>by
  by_cases e:k=j
  ·rw[if_pos e.symm]; exact cy (p:=(k,y)) e
  ·rw[if_neg (fun z=>e z.symm)]; exact cA (p:=(k,y)) e
 | p::r,hn=>by
  rw[List.cons_append];have hk:¬ p.1=k:=fun z=>by rw[cy z]at hn; cases hn
  rw[cA hk]at hn;have ih:=qx k j y r hn;by_cases e:p.1=j
  ·rw[cy e,cy e,if_neg (fun z=>hk (e.trans z))]
  ·rw[cA e,cA e,ih]
theorem bN(kvs:List (κ × V))(k j:κ)(y:V):cv (putK kvs k y) j=if j=k then some y else cv kvs j:=by
 unfold putK;by_cases a:(kvs.any fun kv=>decide (kv.1=k))=true
 ·rw[if_pos a,tK];rw[fm]at a;by_cases e:j=k
  ·obtain⟨x,hx⟩:=Option.isSome_iff_exists.mp a;rw[if_pos e,e,hx,Option.map_some,if_pos rfl]
  ·rw[if_neg e];cases cv kvs j with
   | none=>rfl
   | some x=>rw[Option.map_some,if_neg e]
 ·rw[if_neg a];refine qx k j y kvs ?_;rw[fm]at a;cases q:cv kvs k with
  | none=>rfl
  | some x=>rw[q]at a; exact (a rfl).elim
theorem b9(kvs:List (κ × V))(k:κ)(v:V):(putK kvs k v).length≤kvs.length + 1:=by
 unfold putK;split
 ·rw[cU]; lia
 ·rw[iD,tD,List.length_nil]; lia
theorem uI{kvs:List (κ × V)}{k:κ}(v:V)(h:cv kvs k=none):putK kvs k v=kvs++[(k,v)]:=by
 unfold putK;rw[fm,h];exact if_neg (by decide)
theorem gT.fj{o:Option V}{u:Option Value}(r:gT o u):o.isSome=u.isSome:=by
 cases o with
 | none=>cases u with
  | none=>rfl
  | some _=>exact (show False from r).elim
 | some _=>cases u with
  | none=>exact (show False from r).elim
  | some _=>rfl
theorem KV.val{kvs:List (κ × V)}{vs:List (κ × Value)}(r:KV kvs vs)(k:κ):gT (cv kvs k) (valueAt vs k):=by
 unfold KV at r
 induction r with
 | nil=>exact True.intro
 | @cons p q ps qs h t ih=>
  obtain⟨h1,h2⟩:=h;by_cases e:p.1=k
  ·have e':q.1=k:=h1.symm.trans e;have b:valueAt (q::qs) k=some q.2:=by simp[valueAt,C8,e']
   rw[cy e,b]; exact h2
  ·have e':¬ q.1=k:=fun z=>e (h1.trans z)
   have b:valueAt (q::qs) k=valueAt qs k:=by simp[valueAt,C8,e']
   rw[cA e,b]; exact ih
theorem KV.any{kvs:List (κ × V)}{vs:List (κ × Value)}(r:KV kvs vs)(k:κ):(kvs.any fun kv=>decide (kv.1=k))=vs.any fun kv=>decide (kv.1=k):=by
 unfold KV at r
 induction r with
 | nil=>rfl
 | cons h t ih=>rw[List.any_cons,List.any_cons,ih,h.1]
theorem KV.E5{kvs:List (κ × V)}{vs:List (κ × Value)}(r:KV kvs vs)(k:κ)(ry:RelV y u) :
  KV (kvs.map fun kv=>if kv.1=k then (kv.1,y) else kv) (vs.map fun kv=>if kv.1=k then (kv.1,u) else kv):=by
 unfold KV at r ⊢
 induction r with
 | nil=>exact .nil
 | @cons p q ps qs h t ih=>
  rw[mD,mD];refine .cons ?_ ih;obtain⟨h1,h2⟩:=h;by_cases e:p.1=k
  ·rw[if_pos e,if_pos (h1.symm.trans e)]; exact⟨h1,ry⟩
  ·rw[if_neg e,if_neg (fun z=>e (h1.trans z))]; exact⟨h1,h2⟩
theorem KV.put{kvs:List (κ × V)}{vs:List (κ × Value)}(r:KV kvs vs)(k:κ)(ry:RelV y u):KV (putK kvs k y) (stored vs k u):=by
 unfold putK stored;rw[r.any k];by_cases e:(vs.any fun kv=>decide (kv.1=k))=true
 ·rw[if_pos e,if_pos e]; exact r.E5 k ry
 ·rw[if_neg e,if_neg e]; exact Paired.snoc r ⟨rfl,ry⟩
theorem KV.keys{kvs:List (κ × V)}{vs:List (κ × Value)}(r:KV kvs vs):kvs.map (·.1)=vs.map (·.1):=by
 unfold KV at r
 induction r with
 | nil=>rfl
 | cons h t ih=>rw[mD,mD,ih,h.1]
theorem KV.length{kvs:List (κ × V)}{vs:List (κ × Value)}(r:KV kvs vs):kvs.length=vs.length:=Paired.length r
end
theorem lQ{k:Key}(r:RelV (kV k) u):(bt P w).is k u=true:=by
 cases k with
 | inl i=>obtain⟨t,e⟩:=(show ∃ t,u=Value.int i t from r); subst e; exact uB P w i t
 | inr x=>obtain⟨t,e⟩:=(show ∃ t,u=Value.str x t from r); subst e; exact fM P w x t
theorem i9{P:Program}{w:World}:∀ {ks:List Key} {us:List Value},Vals (ks.map kV) us→ItemsAre (bt P w) ks us
 | [],_,r=>by rw[List.map_nil]at r; cases r; exact .nil
 | k::ks,_,r=>by
  rw[mD]at r;cases r with
  | cons h t=>exact .cons (lQ h) (i9 t)
abbrev KT(H:Hp):List (List Key × V)→List (List Key × Addr × Value)→Prop:=Paired fun p q=>p.1=q.1∧H q.2.1=some (.tup (p.1.map kV))∧RelV p.2 q.2.2
theorem KT.val{kvs:List (List Key × V)}(r:KT H kvs xs)(k:List Key):gT (cv kvs k) ((atKey xs k).map (·.2)):=by
 induction r with
 | nil=>exact True.intro
 | @cons p q ps qs h t ih=>
  obtain⟨h1,_,h2⟩:=h;by_cases e:p.1=k
  ·have e':q.1=k:=h1.symm.trans e;have b:atKey (q::qs) k=some q.2:=by simp[atKey,C8,e']
   rw[cy e,b]; exact h2
  ·have e':¬ q.1=k:=fun z=>e (h1.trans z)
   have b:atKey (q::qs) k=atKey qs k:=by simp[atKey,C8,e']
   rw[cA e,b]; exact ih
theorem KT.E5{kvs:List (List Key × V)}(r:KT H kvs xs)(k:List Key)(ry:RelV y u) :
  KT H (kvs.map fun kv=>if kv.1=k then (kv.1,y) else kv) (xs.map (putAt k u)):=by
 induction r with
 | nil=>exact .nil
 | @cons p q ps qs h t ih=>
  rw[mD,mD];refine .cons ?_ ih;obtain⟨h1,h2,h3⟩:=h;unfold putAt;by_cases e:p.1=k
  ·rw[if_pos e,if_pos (h1.symm.trans e)]; exact⟨h1,h2,ry⟩
  ·rw[if_neg e,if_neg (fun z=>e (h1.trans z))]; exact⟨h1,h2,h3⟩
theorem KT.put{kvs:List (List Key × V)}(r:KT H kvs xs)(k:List Key){b:Addr}(hb:H b=some (.tup (k.map kV)))(ry:RelV y u) :
  KT H (putK kvs k y) (storedH xs k b u):=by
 have e:(kvs.any fun kv=>decide (kv.1=k))=(atKey xs k).isSome:=by
  rw[fm,(r.val k).fj,Option.isSome_map]
 unfold putK storedH;rw[e];by_cases q:(atKey xs k).isSome=true
 ·rw[if_pos q,if_pos q]; exact r.E5 k ry
 ·rw[if_neg q,if_neg q]; exact Paired.snoc r ⟨rfl,hb,ry⟩
theorem KT.keeps{kvs:List (List Key × V)}(r:KT H kvs xs)(ht:∀ b ys,H b=some (.tup ys)→H' b=some (.tup ys)):KT H' kvs xs:=
 Paired.zm r fun _ _ z=>⟨z.1,ht _ _ z.2.1,z.2.2⟩
section
variable {h:Heap}
theorem AL{u:HO}(ok:jh P w H h)(e:Rd H a u):cO P w H h a u:=e.ok ok
theorem ux(ok:jh P w H h)(e:Rd H a (.dK kvs)):kvs.length≤sizeLine∧(a == sysModules)=false∧∃ vs,KV kvs vs∧h.DictOf (bt P w) a vs:=
 show cO P w H h a (.dK kvs) from AL ok e
theorem yq(ok:jh P w H h)(e:H a=some (.dK kvs)):kvs.length≤sizeLine∧(a == sysModules)=false∧∃ vs,KV kvs vs∧h.DictOf (bt P w) a vs:=ux ok (.inl e)
theorem nU{ks:List Key}(ok:jh P w H h)(e:H a=some (.tup (ks.map kV))):(tupleKind (bt P w)).is h ks a:=by
 obtain⟨_,its,r,o,h1,h2,n,h3⟩:=(show cO P w H h a (.tup (ks.map kV)) from ok a _ e)
 exact⟨o,its.toArray,n,h1,h2,h3,by simpa using i9 r⟩
theorem vq{kvs:List (List Key × V)}(ok:jh P w H h)(e:Rd H a (.dT kvs)):kvs.length≤sizeLine∧(a == sysModules)=false∧
  ∃ xs,KT H kvs xs∧h.DictOfH (tupleKind (bt P w)) a xs:=by
 obtain⟨z,y,xs,r,o,es,ep,h1,h2,h3,h4,h5⟩:=(show cO P w H h a (.dT kvs) from AL ok e)
 refine⟨z,y,xs,r,o,es,ep,h1,h2,h3,h4,fun x hx=>?_,h5⟩;have all:∀ {l:List (List Key × V)} {m:List (List Key × Addr × Value)},KT H l m→∀ x∈m,(tupleKind (bt P w)).is h x.1 x.2.1:=by
  intro l m q
  induction q with
  | nil=>intro x hx; exact nomatch hx
  | @cons p q ps qs hq t ih=>
   intro x hx;rcases dO.mp hx with e | hx
   ·subst e;exact nU ok (by rw[← hq.1]; exact hq.2.1)
   ·exact ih x hx
 exact all r x hx
theorem GL{kvs:List (List Key × V)}(ok:jh P w H h)(e:H a=some (.dT kvs)):kvs.length≤sizeLine∧(a == sysModules)=false∧
  ∃ xs,KT H kvs xs∧h.DictOfH (tupleKind (bt P w)) a xs:=vq ok (.inl e)
end
def jt(H:Hp)(a:Addr)(y:V)(r:Option V):Prop:=
 (∃ kvs k,Rd H a (.dK kvs)∧y=kV k∧r=cv kvs k)∨∃ kvs k b,Rd H a (.dT kvs)∧y=.ref b∧H b=some (.tup (k.map kV))∧r=cv kvs k
def nP(H:Hp)(a:Addr)(y v:V)(H':Hp):Prop:=
 (∃ kvs k,H a=some (.dK kvs)∧y=kV k∧kvs.length < sizeLine∧H'=upd H a (.dK (putK kvs k v)))∨
 ∃ kvs k b,H a=some (.dT kvs)∧y=.ref b∧H b=some (.tup (k.map kV))∧kvs.length < sizeLine∧H'=upd H a (.dT (putK kvs k v))
theorem jt.k{k:Key}(e:H a=some (.dK kvs)):jt H a (kV k) (cv kvs k):=.inl ⟨kvs,k,.inl e,rfl,rfl⟩
theorem nP.k{k:Key}(e:H a=some (.dK kvs))(hl:kvs.length < sizeLine):nP H a (kV k) v (upd H a (.dK (putK kvs k v))):=.inl ⟨kvs,k,e,rfl,hl,rfl⟩
section
variable {o:Option V}
theorem Inv.big(I:Inv X pins σ H s):sysModules < s.heap.objs.size:=by
 have h:mainGlobals < s.heap.objs.size:=(I.mod.glob.keeps I.bk).lt;exact Nat.lt_trans (by decide) h
theorem yY(hu:A.units + 1 < cLine)(I:Inv X pins σ H s)(g:jt H a y (some v))(ry:RelV y u)(h:∀ w' s',Inv X pins σ H s'→RelV v w'→Q w' s') :
  wpAny (model X.prog X.w) A (getItem (.ref a) u) Q E s:=by
 rcases g with ⟨kvs,k,e,ey,l⟩ | ⟨kvs,k,b,e,ey,eb,l⟩
 ·subst ey;obtain⟨z,hd,vs,rel,dd⟩:=ux I.hok e;obtain⟨w',hw,rw'⟩:=gT.some_of (v:=v) (o:=valueAt vs k) (by rw[l]; exact rel.val k);exact wpAny_getItem_of (lQ ry) dd.mapOf hw (h w' _ (I.tok _) rw')
 ·subst ey;cases (show u=Value.ref b from ry);obtain⟨z,hd,xs,rel,dd⟩:=vq I.hok e;obtain⟨w',hw,rw'⟩:=gT.some_of (v:=v) (o:=(atKey xs k).map (·.2)) (by rw[l]; exact rel.val k);obtain⟨p,hp,hp2⟩:=Ed.mp hw;refine wpAny_getItem_heap (Ga hu) (nU I.hok eb) dd hp ?_;rw[hp2];exact h w' _ (I.tok _) rw'
theorem IG(hu:A.units + 1 < cLine)(I:Inv X pins σ H s)(g:jt H a y o)(ry:RelV y u)(h:∀ s',Inv X pins σ H s'→Q (.bool o.isSome) s') :
  wpAny (model X.prog X.w) A (compareOp .In u (.ref a)) Q E s:=by
 rcases g with ⟨kvs,k,e,ey,l⟩ | ⟨kvs,k,b,e,ey,eb,l⟩
 ·subst ey;obtain⟨z,hd,vs,rel,dd⟩:=ux I.hok e;refine wpAny_in_of (lQ ry) hd dd.mapOf ?_;rw[← (rel.val k).fj,← l];exact h _ (I.tok _)
 ·subst ey;cases (show u=Value.ref b from ry);obtain⟨z,hd,xs,rel,dd⟩:=vq I.hok e;refine wpAny_in_heap (Ga hu) (nU I.hok eb) hd dd ?_;have q:=(rel.val k).fj;rw[Option.isSome_map]at q;rw[← q,← l];exact h _ (I.tok _)
theorem CH(hu:A.units + 1 < cLine)(I:Inv X pins σ H s)(g:jt H a y o)(ry:RelV y u)(h:∀ s',Inv X pins σ H s'→Q (.bool (!o.isSome)) s') :
  wpAny (model X.prog X.w) A (compareOp .NotIn u (.ref a)) Q E s:=by
 rcases g with ⟨kvs,k,e,ey,l⟩ | ⟨kvs,k,b,e,ey,eb,l⟩
 ·subst ey;obtain⟨z,hd,vs,rel,dd⟩:=ux I.hok e;refine wpAny_notIn_of (lQ ry) hd dd.mapOf ?_;rw[← (rel.val k).fj,← l];exact h _ (I.tok _)
 ·subst ey;cases (show u=Value.ref b from ry);obtain⟨z,hd,xs,rel,dd⟩:=vq I.hok e;refine wpAny_notIn_heap (Ga hu) (nU I.hok eb) hd dd ?_;have q:=(rel.val k).fj;rw[Option.isSome_map]at q;rw[← q,← l];exact h _ (I.tok _)
theorem iT{t':Nat}{ob:HO}(I:Inv X pins σ H s)(mu:Hk (H a))(hs:Heap.SameBut a s.heap h')(he:∃ q,h'.get? a=some q)(new:cO X.prog X.w (upd H a ob) h' a ob) :
  Inv X pins σ (upd H a ob) { s with heap:=h',toks:=t' }:=
 I.write (x:=a) (e:=a) mu (.inl rfl) (fun b q hb z=>(hs.2 b hb).trans z) he new
theorem wo{vs:List (Key × Value)}(z:kvs.length≤sizeLine)(hd:(a == sysModules)=false)(rel:KV kvs vs)(dd:h'.DictOf (bt P w) a vs) :
  cO P w H' h' a (.dK kvs):=⟨z,hd,vs,rel,dd⟩
theorem zb{Q:Unit→Shared→Prop}(hu:A.units + 1 < cLine)(I:Inv X pins σ H s)(g:nP H a y v H')(ry:RelV y u)(rv:RelV v r)(h:∀ s',Inv X pins σ H' s'→Q () s') :
  wpAny (model X.prog X.w) A (setItem (.ref a) u r) Q E s:=by
 rcases g with ⟨kvs,k,e,ey,l,eH⟩ | ⟨kvs,k,b,e,ey,eb,l,eH⟩
 ·subst ey eH;obtain⟨z,hd,vs,rel,dd⟩:=yq I.hok e;have hz:vs.length≤sizeLine:=by rw[← rel.length]; exact z
  have hl:(putK kvs k v).length≤sizeLine:=by have:=b9 kvs k v; lia
  refine wpAny_setItem_pairs (hsz:=hz) (lQ ry) dd fun h' dd' hs=>h _ ?_
  have he:∃ q,h'.get? a=some q:=let ⟨q,_,_,hq,_⟩:=dd'; ⟨q,hq⟩
  exact iT I (by rw[e]; exact True.intro) hs he (wo hl hd (rel.put k rv) dd')
 ·subst ey eH;cases (show u=Value.ref b from ry);obtain⟨z,hd,xs,rel,dd⟩:=GL I.hok e;have hz:xs.length≤sizeLine:=by rw[← Paired.length rel]; exact z
  have hl:(putK kvs k v).length≤sizeLine:=by have:=b9 kvs k v; lia
  refine wpAny_setItem_heap (hsz:=hz) (Ga hu) (nU I.hok eb) dd fun h' dd' hs=>h _ ?_
  obtain⟨q,es,ep,hq,h2,h3,h4,_,h5⟩:=dd';refine iT I (by rw[e]; exact True.intro) hs ⟨q,hq⟩ ⟨hl,hd,_,(rel.put k eb rv).keeps fun c ys ec=>?_,q,es,ep,hq,h2,h3,h4,h5⟩;rw[aq (bh ec e (fun z=>nomatch z))];exact ec
end
section
variable {k:Key}
end
def FQ(i:Expr):Prop:=∀ ov iv,subscripted i false ov iv=operate [ov,iv] (getItem ov iv)
theorem yG{slice:Expr}{T id:String}
  (hl:typeLookup (.type T) "__getitem__" = pure (some (.builtin id))) (hs:FQ slice)
  (h:wpAny (model prog w) A (eval value env) (fun o s₁=>wpAny (model prog w) A (eval slice env) (fun i s₂=>s₂.TypeIs o T∧wpAny (model prog w) A (getItem o i) Q E s₂) E s₁) E s) :
  wpAny (model prog w) A (eval (.Subscript value slice pos) env) Q E s:=by
 refine Subscript_ (vv h (fun o s₁ h₁=>vv h₁ (fun i s₂ h₂=>?_) fun _ _ x=>x) fun _ _ x=>x);obtain⟨hT,h₂⟩:=h₂;unfold subscriptTail;refine aQ ?_;rw[getitemInPython_of_ne hT.not_modules];refine aQ (Cq hT hl ?_);have fin:wpAny (model prog w) A (subscripted slice false o i) (fun r s₃=>wpAny (model prog w) A (letTemporaryGo value o r >>= fun _=>pure r) Q E s₃) E s₂:=by
  rw[hs o i];exact wpAny_operating (vv h₂ (fun r s₃ h₃=>aQ (wpAny_letTemporaryGo (bH h₃))) fun _ _ x=>x)
 first
  | exact bH (aQ fin)
  | exact aQ (bH (aQ fin))
  | exact aQ fin
theorem uX{o:Option V}(I:Inv X pins σ H s)(g:jt H a y o):s.TypeIs (.ref a) "dict":=by
 rcases g with ⟨kvs,k,e,_,_⟩ | ⟨kvs,k,b,e,_,_,_⟩
 ·obtain⟨_,_,vs,_,dd⟩:=ux I.hok e;exact dd.typeIs
 ·obtain⟨_,_,xs,_,dd⟩:=vq I.hok e;exact dd.typeIs
def Gn(td ty:TE):TE:=fun σ H Q=>td σ H fun x H1=>ty σ H1 fun y H2=>aw Q (fun a Q=>aw Q (fun v Q=>x=.ref a∧jt H2 a y (some v)∧Q v H2))
def IP(ty td:TE):TE:=fun σ H Q=>ty σ H fun y H1=>td σ H1 fun x H2=>aw Q (fun a Q=>aw Q (fun o Q=>x=.ref a∧jt H2 a y o∧Q (.bl o.isSome) H2))
def CO(ty td:TE):TE:=fun σ H Q=>ty σ H fun y H1=>td σ H1 fun x H2=>aw Q (fun a Q=>aw Q (fun o Q=>x=.ref a∧jt H2 a y o∧Q (.bl (!o.isSome)) H2))
def GF(td ty tv:TE):TS:=fun D σ H=>tv σ H fun v H1=>td σ H1 fun x H2=>ty σ H2 fun y H3=>aw D (fun a D=>aw D (fun H4 D=>x=.ref a∧nP H3 a y v H4∧D.nx σ H4))
section
variable {i:Expr}
theorem bR(hu:X.A.units + 1 < cLine)(ho:PE X o td)(hi:PE X i ty)(hs:autoParam (FQ i) q_5):PE X (.Subscript o i pos) (Gn td ty):=by
 intro pins s σ H Q I h;refine yG PySem.F.slot_dict_getitem.lookup hs (bW (ho pins s σ H _ I h) fun u s1 hpat=>?_);obtain⟨x,H1,I1,rx,q1⟩:=hpat;refine bW (hi pins s1 σ H1 _ I1 q1) fun iv s2 hpat=>?_
 obtain⟨y,H2,I2,ry,a,v,ex,g,q2⟩:=hpat;subst ex;obtain rfl:u=Value.ref a:=rx;exact⟨uX I2 g,yY hu I2 g ry fun w' s3 I3 rw'=>⟨v,H2,I3,rw',q2⟩⟩
theorem FN(hu:X.A.units + 1 < cLine)(hi:PE X i ty)(ho:PE X o td):PC X .In i o (IP ty td):=by
 intro pins s σ H Q I h;refine bW (hi pins s σ H _ I h) fun iv s1 hpat=>?_
 obtain⟨y,H1,I1,ry,q1⟩:=hpat;refine bW (ho pins s1 σ H1 _ I1 q1) fun u s2 hpat=>?_
 obtain⟨x,H2,I2,rx,a,ov,ex,g,q2⟩:=hpat;subst ex;obtain rfl:u=Value.ref a:=rx;exact IG hu I2 g ry fun s3 I3=>⟨.bl ov.isSome,H2,I3,rfl,q2⟩
theorem lH(hu:X.A.units + 1 < cLine)(hi:PE X i ty)(ho:PE X o td):PC X .NotIn i o (CO ty td):=by
 intro pins s σ H Q I h;refine bW (hi pins s σ H _ I h) fun iv s1 hpat=>?_
 obtain⟨y,H1,I1,ry,q1⟩:=hpat;refine bW (ho pins s1 σ H1 _ I1 q1) fun u s2 hpat=>?_
 obtain⟨x,H2,I2,rx,a,ov,ex,g,q2⟩:=hpat;subst ex;obtain rfl:u=Value.ref a:=rx;exact CH hu I2 g ry fun s3 I3=>⟨.bl (!ov.isSome),H2,I3,rfl,q2⟩
theorem gI(hu:X.A.units + 1 < cLine)(ho:PE X o td)(hi:PE X i ty)(hv:PE X value tv)(hs:swapsWith value (some (.Subscript o i pos')) pos.line X.env=pure false) :
  PS X (.Assign [.Subscript o i pos'] value pos) (GF td ty tv):=by
 intro pins s σ H D I h;refine wpAny_Assign_Subscript (bW (hv pins s σ H _ I h) fun r s1 hpat=>?_) hs;obtain⟨v,H1,I1,rv,q1⟩:=hpat;refine bW (ho pins s1 σ H1 _ I1 q1) fun u s2 hpat=>?_
 obtain⟨x,H2,I2,rx,q2⟩:=hpat;refine bW (hi pins s2 σ H2 _ I2 q2) fun iv s3 hpat=>?_
 obtain⟨y,H3,I3,ry,a,H4,ex,g,q3⟩:=hpat;subst ex;obtain rfl:u=Value.ref a:=rx;exact zb hu I3 g ry rv fun s4 I4=>⟨σ,H4,I4,q3⟩
end
theorem vf(h:Heap)(hb:sysModules < h.objs.size):cO P w H (h.push { cls:=.type "dict",data:=.dict #[] }) h.objs.size (.dK []):=
 ⟨fE _,ET.mpr (Ne.symm (eR hb)),[],.nil,Heap.DictOf.new h⟩
def FG:TE:=fun _ H Q=>∀ p,H p=none→Q (.ref p) (upd H p (.dK []))
theorem B5:PE X (.Dict [] [] pos) FG:=fun pins s σ H Q I h=>
 wpAny_Dict_empty ⟨.ref s.heap.objs.size,_,I.laid (a:=s.heap.objs.size) (o:=.dK []) (t':=s.toks) (fun _ _ q=>dE _ q) (cq _) (vf s.heap I.big),rfl,h _ (I.hok.fresh (cq _))⟩
def wH:List (TE × TE)→St→Hp→(List (V × V)→Hp→Prop)→Prop
 | [],_,H,Q=>Q [] H
 | (tk,tv)::r,σ,H,Q=>tk σ H fun x H1=>tv σ H1 fun y H2=>wH r σ H2 fun ps H3=>Q ((x,y)::ps) H3
abbrev VV:List (V × V)→List (Value × Value)→Prop:=Paired fun p q=>RelV p.1 q.1∧RelV p.2 q.2
def Ie(X:Cx)(pos:Pos)(keys:List (Option Expr))(values:List Expr)(trs:List (TE × TE)):Prop:=
 ∀ (pins:List (Addr × Obj)) (s:Shared) (σ:St) (H:Hp) (Q:List (V × V)→Hp→Prop),Inv X pins σ H s→wH trs σ H Q→
  wpAny (model X.prog X.w) X.A (evalPairs (pairTrees keys values X.env pos)) (fun vs s'=>∃ ps H',Inv X pins σ H' s'∧VV ps vs∧Q ps H') X.xe s
theorem mG:Ie X pos [] [] []:=fun pins s σ H Q I h=>pairTrees_nil_walk ⟨[],H,I,.nil,h⟩
theorem ki{X:Cx}{pos:Pos}{k v:Expr}{ks:List (Option Expr)}{vs:List Expr}{tk tv:TE}{trs:List (TE × TE)}(hk:PE X k tk)(hv:PE X v tv)(hr:Ie X pos ks vs trs) :
  Ie X pos (some k::ks) (v::vs) ((tk,tv)::trs):=fun pins s σ H Q I h=>
 pairTrees_cons_walk (bW (hk pins s σ H _ I h) fun u s1 ⟨x,H1,I1,rx,q1⟩=>bW (hv pins s1 σ H1 _ I1 q1) fun w2 s2 ⟨y,H2,I2,ry,q2⟩=>
  bW (hr pins s2 σ H2 _ I2 q2) fun ws s3 hp2=>by obtain⟨ps,H3,I3,rel,q3⟩:=hp2; exact⟨(x,y)::ps,H3,I3,.cons ⟨rx,ry⟩ rel,q3⟩)
noncomputable def dS(kvs more:List (Key × V)):List (Key × V):=more.foldl (fun acc kv=>putK acc kv.1 kv.2) kvs
theorem KV.merge:∀ {more:List (Key × V)} {rs:List (Key × Value)} {kvs:List (Key × V)} {vs:List (Key × Value)},KV more rs→KV kvs vs→KV (dS kvs more) (merged vs rs):=by
 intro more rs kvs vs r;unfold KV at r
 induction r generalizing kvs vs with
 | nil=>intro q; exact q
 | @cons p q ps qs h t ih=>
  intro r0;have e:KV (putK kvs p.1 p.2) (stored vs q.1 q.2):=by
   have:=r0.put p.1 h.2;rw[← h.1]; exact this
  exact ih e
theorem fT:∀ (more kvs:List (Key × V)),(dS kvs more).length≤kvs.length + more.length
 | [],kvs=>by show kvs.length≤kvs.length + 0; lia
 | p::r,kvs=>by
  have h1:=fT r (putK kvs p.1 p.2);have h2:=b9 kvs p.1 p.2;show (dS (putK kvs p.1 p.2) r).length≤_;rw[tD]; lia
theorem nu{P:Program}{w:World}:∀ {kvs:List (Key × V)} {ws:List (Value × Value)},VV (kvs.map fun kv=>(kV kv.1,kv.2)) ws→∃ rs,Carries (bt P w) ws rs∧KV kvs rs
 | [],_,r=>by rw[List.map_nil]at r; cases r; exact⟨[],True.intro,.nil⟩
 | p::kvs,_,r=>by
  rw[mD]at r;cases r with
  | @cons a b as bs h t=>
   obtain⟨rs,c,q⟩:=nu (P:=P) (w:=w) t;obtain⟨b1,b2⟩:=b;exact⟨(p.1,b2)::rs,⟨lQ h.1,rfl,c⟩,.cons ⟨rfl,h.2⟩ q⟩
def Hu(trs:List (TE × TE)):TE:=fun σ H Q=>∀ p,H p=none→wH trs σ (upd H p (.dK [])) fun ps H2=>H2 p=some (.dK [])∧∃ kvs:List (Key × V),ps=kvs.map (fun kv=>(kV kv.1,kv.2))∧kvs.length≤15∧Q (.ref p) (upd H2 p (.dK (dS [] kvs)))
theorem mT{X:Cx}{pos:Pos}{keys:List (Option Expr)}{values:List Expr}{trs:List (TE × TE)}(h:Ie X pos keys values trs)(hall:keys.all (·.isSome)=true)(hl:keys.length=values.length)(h0:keys≠[])
  (h15:keys.length≤15):PE X (.Dict keys values pos) (Hu trs):=by
 intro pins s σ H Q I q;have hn:=I.hok.fresh (cq s.heap.objs.size);have I1:=I.laid (a:=s.heap.objs.size) (o:=.dK []) (h':=s.heap.push { cls:=.type "dict",data:=.dict #[] }) (t':=s.toks) (fun _ _ q=>dE _ q) (cq _) (vf s.heap I.big);refine wpAny_Dict_walk (knd:=bt X.prog X.w) hall hl h0 h15 (bW (h pins _ σ _ _ I1 (q _ hn)) fun ws s2 hpat=>?_);obtain⟨ps,H2,I2,rel,e,kvs,ep,lk,q2⟩:=hpat;subst ep;obtain⟨rs,c,rk⟩:=nu (P:=X.prog) (w:=X.w) rel;obtain⟨z,hd,vs0,r0,dd⟩:=yq I2.hok e;cases r0;refine⟨rs,c,dd,fun h' dd' hs=>⟨.ref s.heap.objs.size,_,?_,rfl,q2⟩⟩;have hz:(dS [] kvs).length≤sizeLine:=by
  have h1:=fT kvs [];rw[List.length_nil]at h1;rw[uF]; lia
 have he:∃ q,h'.get? s.heap.objs.size=some q:=let ⟨q,_,_,hq,_⟩:=dd'; ⟨q,hq⟩
 exact iT I2 (by rw[e]; exact True.intro) hs he (wo hz hd (rk.merge .nil) dd')
structure M1 (X:Cx) (o:Expr) (m:Str) (apos:Pos) (e:Expr) (cpos:Pos):Prop where
 base:attributeBase o m X.env (eval o X.env)=eval o X.env
 few:((backTo cpos (starEach [e] X.env)).all (fun x=>!x.1) && (backToKw cpos (keywordEach [] X.env)).all (fun x=>x.1.isSome)
  && decide (([e]:List Expr).length + ([]:List Keyword).length + (if ([]:List Keyword).isEmpty then 0 else 1) < 30))=true
 line:(apos.endLine == cpos.line)=true
 trees:backTo cpos (starEach [e] X.env)=[(false,eval e X.env)]
structure M2 (X:Cx) (o:Expr) (m:Str) (apos:Pos) (e f:Expr) (cpos:Pos):Prop where
 base:attributeBase o m X.env (eval o X.env)=eval o X.env
 few:((backTo cpos (starEach [e,f] X.env)).all (fun x=>!x.1) && (backToKw cpos (keywordEach [] X.env)).all (fun x=>x.1.isSome)
  && decide (([e,f]:List Expr).length + ([]:List Keyword).length + (if ([]:List Keyword).isEmpty then 0 else 1) < 30))=true
 line:(apos.endLine == cpos.line)=true
 trees:backTo cpos (starEach [e,f] X.env)=[(false,eval e X.env),(false,eval f X.env)]
section
variable {d:V}{o:Option V}
end
section
variable {f:Expr}{tx:TE}
end
section
variable {κ:Type} [DecidableEq κ]
theorem fN:∀ {l:List κ} {k:κ},l.Nodup→¬ k∈l→(l++[k]).Nodup
 | [],k,_,_=>by simp
 | a::r,k,h,hk=>by
  obtain⟨h1,h2⟩:=vx.mp h;show (a::(r++[k])).Nodup;refine vx.mpr ⟨fun m=>?_,fN h2 fun m=>hk (dO.mpr (Or.inr m))⟩;rcases fv.mp m with q | q
  ·exact h1 q
  ·exact hk (dO.mpr (Or.inl (dU.mp q).symm))
end
theorem zc{p:Addr}(h:H p=none)(o:HO):aD H (upd H p o):=fun b u q=>by rw[aq (aH q h)]; exact q
def IU(K:aW):V→Option Int→Option Int→Hp→VK→Prop:=fun x lo hi H Q=>aw Q (fun a Q=>aw Q (fun xs Q=>x=.ref a∧bY K H a xs∧∀ p H',aD H H'→bY K H' p (my xs lo hi)→Q (.ref p) H'))
theorem yW{t sl:Addr}{vl vu:Value}{lo hi:Option Int}(ht:IsTup s.heap t items)(hs:s.heap.IsSliceOf sl vl vu .none)
  (pl:IsPart vl lo) (pu:IsPart vu hi) (hw:HT.dC items.size 0 lo=0∧HT.dC items.size items.size hi=items.size) (h:Q (.ref t) s):wpAny (model prog w) A (getItem (.ref t) (.ref sl)) Q E s:=by
 obtain⟨os,hos,hcs,hds⟩:=id hs;have hTs:s.TypeIs (.ref sl) "slice":=⟨os,hos,hcs⟩
 unfold getItem
 try with_reducible refine kP ?_
 first | refine aQ (bH ?_) | skip
 refine aQ (wpAny_sequenceKey ht.typeIs (by decide) ?_); refine aQ (Eb (name:=Str.ofString "__getitem__") ht.typeIs F7 (yp F7 ht.typeIs entry_tuple_getitem ?_ (args_tuple_getitem _ _)));show wpAny _ _ (Builtin.Tuple.tupleItemsOf (.ref t) >>= _) _ _ s; refine aQ (tupleItemsOf_ ht ?_); refine aQ (wpAny_typeOf hTs ?_);rw[if_pos (by decide)];refine aQ (HT.fY hs pl pu ?_);show wpAny _ _ (if (((HT.dC items.size 0 lo:Nat):Int) == 0 && (1:Int) == 1 && (HT.dC items.size items.size hi - HT.dC items.size 0 lo) == items.size)=true then _ else _) _ _ s;rw[if_pos (by rw[hw.1,hw.2]; simp)];unfold Builtin.Tuple.tupleIsExact;refine aQ (aQ (wpAny_typeOf ht.typeIs (bH ?_)));rw[if_pos (by decide)];exact aQ (tR (bH ⟨_,rfl,bH h⟩))
theorem sd:Ib X (IU X.K):=by
 intro pins s σ H x v vl vu lo hi sl Q I rx hs pl pu h;obtain⟨a,xs,rfl,hx,q⟩:=h;by_cases hw:HT.dC xs.length 0 lo=0∧HT.dC xs.length xs.length hi=xs.length
 ·cases rx;obtain⟨its,r,ht,hz⟩:=I.tuple hx;have hlen:its.toArray.size=xs.length:=by rw[dY]; exact r.length.symm
  refine⟨"tuple",_,F7.lookup,ht.typeIs,yW ht hs pl pu (by rw[hlen]; exact hw) ⟨.ref a,H,I,rfl,q a H (aD.refl H) ?_⟩⟩;unfold my;rw[hw.1,hw.2,List.drop_zero,Nat.sub_zero,Ah];exact hx
 ·exact vE pins s σ H _ v vl vu lo hi sl Q I rx hs pl pu ⟨a,xs,rfl,hx,hw,fun p np=>q p _ (zc np _) (bY.of af)⟩
inductive T where
 | d (d:D) | lst (ts:List T) | tup (ts:List T)
mutual
noncomputable def IsT(K:aW)(H:Hp):T→V→Prop
 | .d d,v=>Is K H d v
 | .lst ts,v=>∃ a xs,v=.ref a∧a7 K H a xs∧gc K H ts xs
 | .tup ts,v=>∃ a xs,v=.ref a∧bY K H a xs∧gc K H ts xs
noncomputable def gc(K:aW)(H:Hp):List T→List V→Prop
 | [],vs=>vs=[]
 | t::ts,vs=>∃ v r,vs=v::r∧IsT K H t v∧gc K H ts r
end
mutual
noncomputable def T.dep:T→Nat
 | .d x=>x.dep
 | .lst ts=>1 + T.cj ts
 | .tup ts=>1 + T.cj ts
noncomputable def T.cj:List T→Nat
 | []=>0
 | t::ts=>max t.dep (T.cj ts)
end
section
variable {K:aW}
theorem vt{d:D}(h:Is K H d v):IsT K H (.d d) v:=by unfold IsT; exact h
theorem mI{xs:List V}(q:a7 K H a xs)(l:gc K H ts xs):IsT K H (.lst ts) (.ref a):=by unfold IsT; exact⟨a,xs,rfl,q,l⟩
theorem mQ{xs:List V}(q:bY K H a xs)(l:gc K H ts xs):IsT K H (.tup ts) (.ref a):=by unfold IsT; exact⟨a,xs,rfl,q,l⟩
theorem iF:gc K H [] []:=by unfold gc; rfl
theorem df{t:T}{vs:List V}(h:IsT K H t v)(l:gc K H ts vs):gc K H (t::ts) (v::vs):=by unfold gc; exact⟨v,vs,rfl,h,l⟩
theorem gc.length:∀ {ts:List T} {vs:List V},gc K H ts vs→ts.length=vs.length
 | [],vs,h=>by unfold gc at h; rw[h]; rfl
 | t::ts,vs,h=>by
  unfold gc at h;obtain⟨v,r,rfl,_,l⟩:=h;rw[tD,tD,gc.length l]
theorem jX:∀ {ds:List D} {vs:List V},IsL K H ds vs→gc K H (ds.map T.d) vs
 | [],vs,h=>by rw[h.nil_inv]; exact iF
 | d::ds,vs,h=>by
  obtain⟨v,r,rfl,a,b⟩:=h.cons_inv;exact df (vt a) (jX b)
theorem nY:∀ {ds:List D},T.cj (ds.map T.d)=D.cj ds
 | []=>by unfold T.cj D.cj; rfl
 | d::ds=>by
  have e:=nY (ds:=ds);rw[mD];unfold T.cj D.cj;rw[e];have:T.dep (.d d)=d.dep:=by unfold T.dep; rfl
  rw[this]
end
def Bb(A:Around)(s:Shared)(us us':List Value):Prop:=∀ (j:Nat) u u',us[j]?=some u→us'[j]?=some u'→SeqAt.EqAt A s u u' true
theorem all_true(n:Nat):(List.range n).all (fun _=>true)=true:=by simp
theorem mL{us us':List Value}(h:Bb A s us us'):∀ j (h1:j < us.toArray.size) (h2:j < us'.toArray.size),SeqAt.EqAt A s us.toArray[j] us'.toArray[j] ((fun _=>true) j):=fun j h1 h2=>
 h j _ _ (by rw[dY]at h1; simp[h1]) (by rw[dY]at h2; simp[h2])
mutual
theorem Fe(I:Inv X pins σ H s):∀ (t:T) {A:Around} {v v':V} {u u':Value},IsT X.K H t v→IsT X.K H t v'→RelV v u→RelV v' u'→A.units + t.dep < cLine→SeqAt.EqAt A s u u' true
 | .d d,A,v,v',u,u',h,k,r,r',hu=>by
  unfold IsT at h k;have e:T.dep (.d d)=d.dep:=by unfold T.dep; rfl
  have:=wY I d d h k r r' (by rw[← e]; exact hu);rw[D.nO]at this;exact this
 | .lst ts,A,v,v',u,u',h,k,r,r',hu=>by
  unfold IsT at h k;obtain⟨a,xs,rfl,q,l⟩:=h;obtain⟨b,ys,rfl,q',l'⟩:=k;cases r; cases r';have e:T.dep (.lst ts)=1 + T.cj ts:=by conv=>lhs; unfold T.dep
  by_cases hab:a=b
  ·subst hab; exact SeqAt.EqAt.same _
  ·obtain⟨its,rv,p,z⟩:=I.list q;obtain⟨its',rv',p',z'⟩:=I.list q';have R:=SeqAt.RcAt.lists (A:=A) (s:=s) (e:=fun _=>true) p.isList p'.isList (by rw[dY,dY,← rv.length,← rv'.length,← l.length,← l'.length]) (by lia) (mL (kx I ts l l' rv rv' (by rw[in1_units]; lia)));rw[all_true]at R;exact SeqAt.EqAt.of_refs hab R
 | .tup ts,A,v,v',u,u',h,k,r,r',hu=>by
  unfold IsT at h k;obtain⟨a,xs,rfl,q,l⟩:=h;obtain⟨b,ys,rfl,q',l'⟩:=k;cases r; cases r';have e:T.dep (.tup ts)=1 + T.cj ts:=by conv=>lhs; unfold T.dep
  by_cases hab:a=b
  ·subst hab; exact SeqAt.EqAt.same _
  ·obtain⟨its,rv,p,z⟩:=I.tuple q;obtain⟨its',rv',p',z'⟩:=I.tuple q';have R:=SeqAt.RcAt.tuples (A:=A) (s:=s) (e:=fun _=>true) p p' (by lia) (mL (kx I ts l l' rv rv' (by rw[in1_units]; lia)));have es:its.toArray.size=its'.toArray.size:=by rw[dY,dY,← rv.length,← rv'.length,← l.length,← l'.length]
   rw[all_true,es,beq_self_eq_true]at R;exact SeqAt.EqAt.of_refs hab R
theorem kx(I:Inv X pins σ H s):∀ (ts:List T) {A:Around} {xs ys:List V} {us us':List Value},gc X.K H ts xs→gc X.K H ts ys→Vals xs us→Vals ys us'→A.units + T.cj ts < cLine→Bb A s us us'
 | [],A,xs,ys,us,us',l,l',rv,rv',hu=>by
  unfold gc at l l';subst l;cases rv;intro j u u' h; simp at h
 | t::ts,A,xs,ys,us,us',l,l',rv,rv',hu=>by
  unfold gc at l l';obtain⟨x,r,rfl,i,l⟩:=l;obtain⟨y,r',rfl,i',l'⟩:=l';cases rv with | cons q1 rv=>cases rv' with | cons q2 rv'=>
  have e:T.cj (t::ts)=max t.dep (T.cj ts):=by conv=>lhs; unfold T.cj
  intro j u u' h h'
  match j,h,h' with
  | 0,h,h'=>cases h; cases h'; exact Fe I t i i' q1 q2 (by lia)
  | j + 1,h,h'=>exact kx I ts l l' rv rv' (by lia) j u u' (by simpa using h) (by simpa using h')
end
def Jd(K:aW)(n:Nat)(neg:Bool):R2:=fun x y H Q=>aw Q (fun ts Q=>((IsT K H (.lst ts) x∧IsT K H (.lst ts) y)∨(IsT K H (.tup ts) x∧IsT K H (.tup ts) y))∧T.cj ts < n∧Q (.bl (!neg)) H)
theorem I0(I:Inv X pins σ H s){x:V}{u':Value}(h:(IsT X.K H (.lst ts) x∧IsT X.K H (.lst ts) y)∨(IsT X.K H (.tup ts) x∧IsT X.K H (.tup ts) y))(r:RelV x u)(r':RelV y u')(hu:A.units + 1 + T.cj ts < cLine) :
  SeqAt.RcAt A s u u' true∧SeqAt.RcNeAt A s u u' false:=by
 rcases h with ⟨h,k⟩ | ⟨h,k⟩
 ·unfold IsT at h k;obtain⟨a,xs,rfl,q,l⟩:=h;obtain⟨b,ys,rfl,q',l'⟩:=k;cases r; cases r';obtain⟨its,rv,p,z⟩:=I.list q;obtain⟨its',rv',p',z'⟩:=I.list q';have es:its.toArray.size=its'.toArray.size:=by rw[dY,dY,← rv.length,← rv'.length,← l.length,← l'.length]
  have sa:=mL (kx (A:=A.in1) I ts l l' rv rv' (by rw[in1_units]; omega));have R:=SeqAt.RcAt.lists (A:=A) (e:=fun _=>true) p.isList p'.isList es (by omega) sa;have R2:=SeqAt.RcNeAt.lists (A:=A) (e:=fun _=>true) p.isList p'.isList es (by omega) sa;rw[all_true]at R R2;exact⟨R,R2⟩
 ·unfold IsT at h k;obtain⟨a,xs,rfl,q,l⟩:=h;obtain⟨b,ys,rfl,q',l'⟩:=k;cases r; cases r';obtain⟨its,rv,p,z⟩:=I.tuple q;obtain⟨its',rv',p',z'⟩:=I.tuple q';have es:its.toArray.size=its'.toArray.size:=by rw[dY,dY,← rv.length,← rv'.length,← l.length,← l'.length]
  have sa:=mL (kx (A:=A.in1) I ts l l' rv rv' (by rw[in1_units]; omega));have R:=SeqAt.RcAt.tuples (A:=A) (e:=fun _=>true) p p' (by omega) sa;have R2:=SeqAt.RcNeAt.tuples (A:=A) (e:=fun _=>true) p p' (by omega) sa;rw[all_true,es,beq_self_eq_true]at R R2;exact⟨R,R2⟩
theorem BX(hu:X.A.units + 1 + n < cLine):jQ X (compareOp .Eq) (Jd X.K n false):=by
 intro pins s σ H x y v u Q I rx ry h;obtain⟨ts,h1,hd,q⟩:=h;exact (I0 I h1 rx ry (by lia)).1 X.prog X.w X.xe _ ⟨.bl _,H,I,rfl,q⟩
def ju(P:Program)(w:World)(K:aW)(mg:Str→Option Value)(base:Heap)(C:Addr)(m:Str)(k:Nat)(ps:List Str)(sp:Sp):Prop:=
 ∃ (f:Addr) (fd:sE),vy K C∧Meth K C m f∧bg P w K mg base cH k f fd ps sp∧Binds K fd ps []
theorem ju.mono{K:aW}{mg:Str→Option Value}{k:Nat}(c:ju P w K mg base C m j ps sp)(h:j≤k):ju P w K mg base C m k ps sp:=
 let ⟨f,fd,a,b,F,d⟩:=c; ⟨f,fd,a,b,F.mono h,d⟩
def zX(C:Addr)(m:Str)(sp:Sp)(ta:TE)(t:TA):TE:=fun σ H Q=>ta σ H fun x H1=>aw Q (fun a Q=>aw Q (fun dx Q=>aw Q (fun fs Q=>x=.ref a∧H1 a=some (.ins C dx fs)∧fs.lookup m=none∧t σ H1 fun vs H2=>sp (x::vs) H2 Q E0)))
def Io(P:Program)(w:World)(K:aW)(mg:Str→Option Value)(base:Heap)(x:Str)(C:Addr)(k:Nat)(ps:List Str)(sp:Sp):Prop:=
 ∃ (f:Addr) (fd:sE),Mk K C f∧bg P w K mg base cH k f fd ps sp∧Binds K fd ps []∧mg x=some (.ref C)
def Ir(C:Addr)(sp:Sp)(t:TA):TE:=fun σ H Q=>t σ H fun vs H1=>∀ x dx,H1 x=none→H1 dx=none→dx≠x→sp (.ref x::vs) (upd (upd H1 dx (.own x)) x (.ins C dx [])) (fun v H2=>v=.non∧Q (.ref x) H2) E0
section
variable {k:Nat}
theorem cw{pl:Sem Bool}(he:PE X o ta)(c:ju X.prog X.w X.K X.mg X.base C m k ps sp)(hr:dX k X.A)(ha:PA X (e::es) t)
  (hst:autoParam (starEach (e::es) X.env=(false,eval e X.env)::starEach es X.env) q_1) (hpl:autoParam ((backTo pos (starEach es X.env)).any (·.1)=false) q_1)
  (ht:eval (.Call (.Attribute o m apos) (e::es) [] pos) X.env=(do
   let ov ← eval o X.env; standAt apos.atName; let (f,first) ← holding [ov] (getMethod ov m pl)
   callWith pos f first (backTo pos (starEach (e::es) X.env)) (backToKw pos (keywordEach [] X.env))):=by rfl):PE X (.Call (.Attribute o m apos) (e::es) [] pos) (zX C m sp ta t):=by
 obtain⟨f,fd,cl,hm,F,b⟩:=c;have h:=De (E:=E0) (pos:=pos) (apos:=apos) (pl:=pl) he cl hm F hr b .nil xG ha hst hpl ht;have e1:qw C m sp [] E0 ta t=zX C m sp ta t:=by
  funext σ H Q
  unfold qw zX;simp only[xE]
 rw[e1]at h;exact h
theorem iR{pl:Sem Bool}(he:PE X o ta)(c:ju X.prog X.w X.K X.mg X.base C m k ps sp)(hr:dX k X.A)
  (ht:eval (.Call (.Attribute o m apos) [] [] pos) X.env=(do
   let ov ← eval o X.env; standAt apos.atName; let (f,first) ← holding [ov] (getMethod ov m pl)
   callWith pos f first (backTo pos (starEach [] X.env)) (backToKw pos (keywordEach [] X.env))):=by rfl):PE X (.Call (.Attribute o m apos) [] [] pos) (zX C m sp ta BR):=by
 obtain⟨f,fd,cl,hm,F,b⟩:=c;have h:=BG (E:=E0) (pos:=pos) (apos:=apos) (pl:=pl) he cl hm F hr b .nil xG ht;have e1:qw C m sp [] E0 ta BR=zX C m sp ta BR:=by
  funext σ H Q
  unfold qw zX;simp only[xE]
 rw[e1]at h;exact h
theorem Gz(c:Io X.prog X.w X.K X.mg X.base x C k ps sp)(hr:dX (k + 1) X.A)(hg:Gl X x)(ha:PA X (e::es) t)(hdb:autoParam ((x == ("__debug__":Str))=false) q_2)
  (he:autoParam (starEach (e::es) X.env=(false,eval e X.env)::starEach es X.env) q_1) (hpl:autoParam ((backTo pos (starEach es X.env)).any (·.1)=false) q_1):PE X (.Call (.Name x p) (e::es) [] pos) (Ir C sp t):=by
 obtain⟨f,fd,M,F,b,m⟩:=c;have h:=DX (E:=E0) (pos:=pos) (p:=p) M F hr hg m b .nil xG ha hdb he hpl;have e1:BH C sp [] E0 t=Ir C sp t:=by
  funext σ H Q
  unfold BH Ir;simp only[xE]
 rw[e1]at h;exact h
end
section
variable {K:aW}
theorem jn(h:X.K=K):fX X (.type "list") (fun xs H Q=>∃ p ys,xs=[.ref p]∧(a7 K H p ys∨bY K H p ys)∧∀ l,H l=none→Q (.ref l) (upd H l (.lst ys))):=h ▸ dg
theorem jl(h:X.K=K):fX X (.builtin "len") (fun xs H Q=>∃ p ys,xs=[.ref p]∧(a7 K H p ys∨bY K H p ys)∧Q (.int ys.length) H):=h ▸ a8
end
def JV(C:Addr)(f:Str)(ta:TE):TE:=fun σ H Q=>ta σ H fun x H1=>aw Q (fun a Q=>aw Q (fun dx Q=>aw Q (fun fs Q=>aw Q (fun v Q=>x=.ref a∧H1 a=some (.ins C dx fs)∧fs.lookup f=some v∧Q v H1))))
def JG(C:Addr)(f:Str)(ta tv:TE):TS:=fun D σ H=>tv σ H fun y H1=>ta σ H1 fun x H2=>aw D (fun a D=>aw D (fun dx D=>aw D (fun fs D=>x=.ref a∧H2 a=some (.ins C dx fs)∧fs.length < 1000∧D.nx σ (upd H2 a (.ins C dx (bL f y fs))))))
def E9(C:Addr)(f:Str)(ta tv:TE)(rd:V→V→Hp→VK→Prop):TS:=fun D σ H=>ta σ H fun x H1=>aw D (fun a D=>aw D (fun dx D=>aw D (fun fs D=>aw D (fun v D=>x=.ref a∧H1 a=some (.ins C dx fs)∧fs.lookup f=some v∧
 tv σ H1 fun y H2=>rd v y H2 fun z H3=>aw D (fun dx' D=>aw D (fun fs' D=>H3 a=some (.ins C dx' fs')∧fs'.length < 1000∧D.nx σ (upd H3 a (.ins C dx' (bL f z fs')))))))))
theorem cF(c:vy X.K C)(n:dj X.K C f)(he:PE X e ta)(hb:autoParam (attributeBase e f X.env (eval e X.env)=eval e X.env) q_1):PE X (.Attribute e f pos) (JV C f ta):=by
 intro pins s σ H Q I h;refine C5 hb (bW (he pins s σ H _ I h) fun u s1 ⟨x,H1,I1,rx,a,dx,fs,v,ex,ea,l,q⟩=>?_); subst ex; obtain rfl:u=Value.ref a:=rx;exact nE I1 ea c n l fun u s2 I2 ru=>⟨v,H1,I2,ru,q⟩
theorem iN(c:vy X.K C)(n:dj X.K C f)(ha:PE X o ta)(hv:PE X value tv)(hs:autoParam (swapsWith value (some (.Attribute o f pos')) pos.line X.env=pure false) q_1):PS X (.Assign [.Attribute o f pos'] value pos) (JG C f ta tv):=by
 intro pins s σ H D I h;refine plainObj_wpAny_Assign_Attribute (bW (hv pins s σ H _ I h) fun u s1 hpat=>?_) hs;obtain⟨y,H1,I1,ry,q⟩:=hpat;refine bW (ha pins s1 σ H1 _ I1 q) fun ov s2 hpat=>?_
 obtain⟨x,H2,I2,rx,a,dx,fs,ex,ea,l,q2⟩:=hpat;subst ex; obtain rfl:ov=Value.ref a:=rx;exact oS I2 ea c n l ry fun s3 I3=>⟨σ,_,I3,q2⟩
theorem As{op:Operator}{rd:V→V→Hp→VK→Prop}(c:vy X.K C)(n:dj X.K C f)(ha:PE X o ta)(hv:PE X value tv)(hop:Jf X op rd):PS X (.AugAssign (.Attribute o f tpos) op value pos) (E9 C f ta tv rd):=by
 intro pins s σ H D I h;refine wpAny_AugAssign_AttributeAny (bW (ha pins s σ H _ I h) fun ov s1 ⟨x,H1,I1,rx,a,dx,fs,v,ex,ea,l,q⟩=>?_); subst ex; obtain rfl:ov=Value.ref a:=rx;refine nE I1 ea c n l fun u s2 I2 ru=>bW (hv pins s2 σ H1 _ I2 q) fun w3 s3 hpat=>?_
 obtain⟨y,H2,I3,ry,q3⟩:=hpat;refine bW (hop pins s3 σ H2 v y u w3 _ I3 ru ry q3) fun w4 s4 hpat=>?_
 obtain⟨z,H3,I4,rz,d2,f2,e2,l2,q4⟩:=hpat;exact oS I4 e2 c n l2 rz fun s5 I5=>⟨σ,_,I5,q4⟩
section
variable {σ:List (Option V)}
theorem mZ{N1 N2:List Str}(I:Inv {X with N:=N1} pins σ H s)(hl:N2.length=N1.length)(hs:∀ k,k≠j→N2[k]?=N1[k]?)(hj:σ[j]?=some none):Inv { X with N:=N2 } pins σ H s:=by
 obtain⟨m,hn,hm⟩:=I.loc
 exact⟨⟨I.ok.mod,I.ok.kind,I.ok.glob,I.ok.blt,I.ok.above,I.ok.inj,I.ok.has,I.ok.cab,I.ok.hd,I.ok.frames,I.ok.stk,I.ok.exf,I.ok.bs,I.ok.bsz,I.ok.noex,I.ok.exfs,I.ok.kR,I.ok.frf⟩,I.os,I.bare,I.base,
  ⟨m,hn,fun i x v e1 e2 e3=>hm i x v ((hs i (fun z=>by rw[z,hj]at e2; cases e2)) ▸ e1) e2 e3⟩,I.cell,I.free,I.freeC,I.pin,I.hok,by rw[I.len]; exact hl.symm⟩
def Jg(j:Nat)(t:TE):TE:=fun σ H Q=>σ[j]?=some none∧t σ H Q
theorem EM{t:TE}{y:Str}(he:PE {X with N:=X.N.set j y} e t):PE X e (Jg j t):=by
 intro pins s σ H Q I h;obtain⟨hj,h⟩:=h;refine vv (he pins s σ H Q (mZ (N1:=X.N) (j:=j) I xI (fun k hk=>Af (Ne.symm hk)) hj) h) (fun u s' hp=>?_) (fun _ _ z=>z);obtain⟨v,H',I',r,q⟩:=hp;exact⟨v,H',mZ (N1:=X.N.set j y) (N2:=X.N) (j:=j) I' xI.symm (fun k hk=>(Af (Ne.symm hk)).symm) hj,r,q⟩
end
def Gp(j:Nat)(t:TS):TS:=fun D σ H=>σ[j]?=some none∧t { nx:=fun σ' H'=>σ'[j]?=some none∧D.nx σ' H',rt:=fun _ _=>False,bk:=fun _ _=>False,ct:=fun _ _=>False } σ H
theorem EC{st:Stmt}{t:TS}{y:Str}(hs:PS {X with N:=X.N.set j y} st t):PS X st (Gp j t):=by
 intro pins s σ H D I h;obtain⟨hj,h⟩:=h;refine vv (hs pins s σ H _ (mZ (N1:=X.N) (j:=j) I xI (fun k hk=>Af (Ne.symm hk)) hj) h) (fun fl s' hp=>?_) (fun _ _ z=>z);cases fl with
 | next=>
  obtain⟨σ',H',I',hj',q⟩:=hp;exact⟨σ',H',mZ (N1:=X.N.set j y) (N2:=X.N) (j:=j) I' xI.symm (fun k hk=>(Af (Ne.symm hk)).symm) hj',q⟩
 | brk=>obtain⟨_,_,_,z⟩:=hp; exact z.elim
 | cont=>obtain⟨_,_,_,z⟩:=hp; exact z.elim
 | ret u=>obtain⟨_,_,_,_,_,z⟩:=hp; exact z.elim
theorem zE{K:aW}{xs:List V}{vn:Nat}{g:TG}{tc:TT}{te:TE}{p:Addr}{H1:Hp}{Q:Hp→Prop}(Pv:Nat→Hp→Prop)(h0:Pv 0 (upd H1 p (.lst [])))(hl:∀ i H,i≤xs.length→Pv i H→a7 K H a xs)
  (hs:∀ i x H t,xs[i]?=some x→Pv i H→H t=none→g (.ref t) (List.replicate vn none++σ) (upd H t (.tup [.int (i:Int),x])) fun σ2 H2=>(∃ τ:St,σ2=τ++σ∧τ.length=vn)∧tc σ2 H2 fun b H3=>
   if b=true then te σ2 H3 fun v H4=>∃ acc,H4 p=some (.lst acc)∧acc.length < sizeLine∧Pv (i + 1) (upd H4 p (.lst (acc++[v]))) else Pv (i + 1) H3) (hd:∀ H,Pv xs.length H→Q H):lj (F8 K a) vn g tc te σ p H1 Q:=by
 refine⟨fun i m H=>i≤xs.length∧m=xs.length - i∧Pv i H,⟨xs.length,fE _,rfl,h0⟩,fun i m H hw=>?_⟩;obtain⟨hi,rfl,hp⟩:=hw;have hq:=hl i H hi hp;by_cases hlt:i < xs.length
 ·refine .inr ⟨⟨xs,xs[i],hq,cu hlt⟩,Pv (i + 1),fun H' h'=>⟨xs.length - (i + 1),by lia,by lia,rfl,h'⟩,fun x H' hy=>?_⟩;obtain⟨t,nt,rfl,hv⟩:=hy;obtain⟨v,ev,rfl⟩:=hv xs hq;exact hs i v H t ev hp nt
 ·have e:i=xs.length:=by lia
  subst e;exact .inl ⟨⟨xs,hq,cq _⟩,hd H hp⟩
theorem m4{it t:Addr}{items:Array Value}(hne:t≠it):∀ (n i:Nat) (s:Shared) (Q:List Value→Shared→Prop),s.heap.IsListIter it t i→s.heap.IsList t items→i + n≤items.size→
  (∀ h',Heap.IsListIter h' it t (i + n)→Heap.SameBut it s.heap h'→Q ((items.toList.drop i).take n) { s with heap:=h' })→wpAny (model prog w) A (draw (.ref it) n) Q E s
 | 0,i,s,Q,hit,_,_,hQ=>by
  show wpAny _ _ (pure []) Q E s;exact bH (by simpa using hQ s.heap hit (Heap.SameBut.refl ..))
 | n + 1,i,s,Q,hit,ht,hle,hQ=>by
  have hlt:i < items.size:=by lia
  show wpAny _ _ (pyNext (.ref it) >>= _) Q E s;refine aQ (wpAny_pyNext_list_item hit ht (x:=items[i]) (by simp[hlt]) fun h₁ hit₁ hs₁=>?_);refine aQ (kP (m4 hne n (i + 1) _ _ hit₁ (ht.extBut hs₁.extBut hne) (by lia) fun h₂ hit₂ hs₂=>bH ?_));have hd:items.toList.drop i=items[i]::items.toList.drop (i + 1):=by simp[List.drop_eq_getElem_cons,hlt]
  have:=hQ h₂ (by rw[show i + (n + 1)=i + 1 + n by lia]; exact hit₂) (hs₁.trans hs₂);rw[hd,List.take_succ_cons]at this;exact this
theorem jV{t:Addr}{Q:List Value→Shared→Prop}(hh:A.handled=none)(ht:s.heap.IsList t items)
  (hQ:∀ h',Heap.ExtBut s.heap.objs.size s.heap h'→Q items.toList {s with heap:=h'}):wpAny (model prog w) A (unpackItems (.ref t) items.size none) Q E s:=by
 have hlt:t≠s.heap.objs.size:=by obtain⟨o,ho,_⟩:=ht; exact eR (dy ho)
 unfold unpackItems;refine aQ ?_
 ·unfold notIterableAtAll;refine aQ (Cq ht.typeIs PySem.slot_list_iter.lookup ?_);refine bH ?_;simp only[qz,oM];refine aQ (kP (wpAny_pyIter_list ht ?_));refine aQ (kP (m4 hlt items.size 0 _ _ ⟨_,jN _ rfl,rfl,rfl⟩ (ht.push _) (by lia) fun h₁ hit₁ hs₁=>?_));have hall:List.take items.size (List.drop 0 items.toList)=items.toList:=by
   rw[List.drop_zero]; exact Ez (by simp)
  rw[hall];rw[if_neg (by simp)];have ht₁:Heap.IsList h₁ t items:=(ht.push _).extBut hs₁.extBut hlt;refine aQ (kP (wpAny_pyNext_list_end hh hit₁ ht₁ (by simp) fun h₂ he₂=>?_));simp only[Option.isSome_none,qz,oM];refine bH (hQ h₂ fun b o hb e=>he₂ b o hb (hs₁.extBut b o hb (dE _ e)))
theorem jD{elts:List Expr}{x1}{t:Addr}{Q:Unit→Shared→Prop}(hh:A.handled=none)(ht:s.heap.IsList t items)
  (hn:(assignEach elts env).length=items.size) (hstar:(assignEach elts env).findIdx? (·.1)=none)
  (h:∀ h',Heap.ExtBut s.heap.objs.size s.heap h'→wpAny (model prog w) A (assignInOrder ((assignEach elts env).map (·.2)) items.toList) Q E {s with heap:=h'}) :
  wpAny (model prog w) A (assign (.Tuple elts x1 pos) env (.ref t)) Q E s:=by
 rw[assign_Tuple];refine aQ (wpAny_standAt ?_);unfold unpack;rw[hn,hstar];exact aQ (kP (jV hh ht h))
def IK(K:aW)(n:Nat)(t:Cs):TG:=fun v σ H Q=>∃ a xs,v=.ref a∧a7 K H a xs∧xs.length=n∧t xs σ H Q
theorem FH{k:Nat}{t:Cs}(hc:X.calm=true)(h:F6 X es t)
  (hn:autoParam ((assignEach es X.env).length=n) q_1) (hst:autoParam ((assignEach es X.env).findIdx? (·.1)=none) q_1):PG X (.Tuple es k pos) (IK X.K n t):=by
 intro pins s σ H v u Q I r hw;obtain⟨a,xs,e1,hq,hl,hw⟩:=hw;subst e1;cases r;obtain⟨its,rv,ht,hz⟩:=I.list hq;refine jD (I.ok.hd hc) ht.isList (by simp[hn,← hl,rv.length]) hst fun h' hx=>?_
 have I1:Inv X pins σ H { s with heap:=h' }:=I.kept (t':=s.toks) fun b o e=>hx b o (eR (dy e)) e
 exact h pins _ σ H xs _ Q I1 (by simpa using rv) hw
structure Sub (P:Program) (w:World) (it:Addr) (src:List Addr) (St:Nat→Heap→Prop) (Vl:Nat→Value→Prop) (n:Nat):Prop where
 keep:∀ k h h',St k h→(∀ b,(b=it∨b∈src)→∀ o,h.get? b=some o→h'.get? b=some o)→St k h'
 obj:∀ k h,St k h→∃ o,h.get? it=some o∧∀ v,o.data≠.cell v
 item:∀ (A:Around) (E:Value→Shared→Prop) (s:Shared) (Q:Value→Shared→Prop) (k:Nat),St k s.heap→k < n→(∀ g x tk,Vl k x→St (k + 1) g→Heap.SameBut it s.heap g→Q x { s with heap:=g,toks:=tk })→wpAny (model P w) A (Builtin.SmallTypes.nextOf (.ref it)) Q E s
 stop:∀ (A:Around) (E:Value→Shared→Prop) (s:Shared) (Q:Value→Shared→Prop) (k:Nat),A.handled=none→St k s.heap→n≤k→(∀ g e,Heap.ExtBut it s.heap g→(∃ o,g.get? e=some o∧o.cls=.type "StopIteration")→E (.ref e) { s with heap:=g })→wpAny (model P w) A (Builtin.SmallTypes.nextOf (.ref it)) Q E s
structure Apart (z TI TO i1 i2:Addr) (s1 s2:List Addr):Prop where
 TIz:TI≠z
 TOz:TO≠z
 i1z:i1≠z
 i2z:i2≠z
 TITO:TI≠TO
 TIi1:TI≠i1
 TIi2:TI≠i2
 TOi1:TO≠i1
 TOi2:TO≠i2
 i12:i1≠i2
 a1:∀ b∈s1,b≠z∧b≠TO∧b≠i1∧b≠i2
 a2:∀ b∈s2,b≠z∧b≠TO∧b≠i1∧b≠i2
section
variable {z TI TO i1 i2:Addr}{s1 s2:List Addr}{St1 St2:Nat→Heap→Prop}{V1 V2:Nat→Value→Prop}{n1 n2 k:Nat}
end
structure Src where
 rd:aW→Hp→List V→Prop
 itr:Heap→Addr→Nat→Prop
 src:List Addr
structure Jt (S:Src):Prop where
 keepI:∀ h h' it k,S.itr h it k→(∀ o,h.get? it=some o→h'.get? it=some o)→S.itr h' it k
 objI:∀ h it k,S.itr h it k→∃ o,h.get? it=some o∧∀ v,o.data≠.cell v
 inj:∀ (X:Cx) pins σ H s xs ys,Inv X pins σ H s→S.rd X.K H xs→S.rd X.K H ys→xs=ys
 sub:∀ (X:Cx) pins σ H s xs it,Inv X pins σ H s→S.rd X.K H xs→(∀ b∈S.src,b≠it)→∃ (St:Nat→Heap→Prop) (Vl:Nat→Value→Prop),Sub X.prog X.w it S.src St Vl xs.length∧(∀ k,S.itr s.heap it k→St k s.heap)∧(∀ k h,St k h→S.itr h it k)∧∀ k v u,xs[k]?=some u→Vl k v→RelV u v
section
variable {l:List Env}{L e:Addr}{c:Value}{od:Option Addr}{lo:Nat}{Q:Unit→Shared→Prop}
end
section
variable {K:aW}{mg:Str→Option Value}{E:XK}
variable {k:Nat}
end
section
variable {E:XK}{cl:List (Str × Addr)}{vars:List Str}{Cm:Addr}{sm:Shared}{Hm:Hp}{fp:List Addr}{pm:List (Addr × Obj)}
variable {k:Nat}
end
section
variable {R:Result→Shared→Prop}
end
section
variable {to:TE}{name:Str}{T id:String}{r:V→List V→Hp→VK→Prop}
end
end L2
namespace Srt
open PySem PyProof.Rows
variable {i n j nrem lo ep c ia ib na nb ac bc:Nat}{p:Keyed}{xs ys out:List Keyed}{prog:Program}{w:World}{A:Around}{s:Shared}{E:Value→Shared→Prop}{st:SortSt}{a a₀ arr:Array Keyed}{Q:Option Nat→SortSt→Prop}{R:Result→Shared→Prop}{d l:Addr}{ns:List Int}{P:Array (Nat × Nat × Nat)}
def nk(p:Keyed):Int:=numOf p.1
def CK(p:Keyed):Prop:=∃ n t,p.1=Value.int n t
abbrev SM(α:Type):=StateT SortSt Sem α
noncomputable def fR:Bool→Keyed→Array Keyed→Nat→Nat→Nat→SM (Option Nat):=sortPriv% PySem.Builtin.gallop
section
theorem rW{x y:Keyed}{Q:Option Bool→SortSt→Prop}(hk:kindOf st=oneType')(hx:CK x)(hy:CK y)(h:Q (some (decide (nk x < nk y))) st):wpS (model prog w) A E s (lt' x y) Q st:=by
 obtain⟨a,t,ea⟩:=hx;obtain⟨b,u,eb⟩:=hy;have e1:nk x=a:=by unfold nk; rw[ea]; rfl
 have e2:nk y=b:=by unfold nk; rw[eb]; rfl
 rw[e1,e2]at h;rw[lt'_eq];refine bV (wpS_get ?_);rw[hk,ea,eb,keyLt'_oneType];exact bV (wpS_lift (wpAny_attempt (oneLt_int ⟨rfl,cN h⟩)))
theorem bF{Q:Keyed→SortSt→Prop}(hp:arr[i]?=some p)(h:Q p st):wpS (model prog w) A E s (elem' arr i) Q st:=by
 rw[elem'_eq,hp];exact cN h
noncomputable abbrev GS(left:Bool)(key:Keyed)(arr:Array Keyed)(j:Nat):SM (Option Bool):=do
 let x ← elem' arr j
 if left=true then lt' x key else do
  let r ← lt' key x
  pure (Option.map (fun x=>!x) r)
abbrev Sr:Type:=Option (Option Nat) × Nat × Nat
noncomputable def Jk(left:Bool)(key:Keyed)(arr:Array Keyed)(base hint m:Nat)(r:Sr):SM (ForInStep Sr):=
 if r.2.2 ≥ m then pure (ForInStep.done (none,r.2.1,r.2.2))
 else do
  let some x ← GS left key arr (base + (hint + r.2.2)) | pure (ForInStep.done (some none,r.2.1,r.2.2))
  if (!x)=true then pure (ForInStep.done (none,r.2.1,r.2.2))
  else pure (ForInStep.yield (none,r.2.2,2 * r.2.2 + 1))
noncomputable def Jz(left:Bool)(key:Keyed)(arr:Array Keyed)(base hint m:Nat)(r:Sr):SM (ForInStep Sr):=
 if r.2.2 ≥ m then pure (ForInStep.done (none,r.2.1,r.2.2))
 else do
  let some x ← GS left key arr (base + (hint - r.2.2)) | pure (ForInStep.done (some none,r.2.1,r.2.2))
  if x=true then pure (ForInStep.done (none,r.2.1,r.2.2))
  else pure (ForInStep.yield (none,r.2.2,2 * r.2.2 + 1))
noncomputable def Ek(left:Bool)(key:Keyed)(arr:Array Keyed)(base:Nat)(r:Sr):SM (ForInStep Sr):=
 if r.2.1 ≥ r.2.2 then pure (ForInStep.done (none,r.2.1,r.2.2))
 else do
  let some x ← GS left key arr (base + (r.2.1 + (r.2.2 - r.2.1) / 2)) | pure (ForInStep.done (some none,r.2.1,r.2.2))
  if x=true then pure (ForInStep.yield (none,r.2.1 + (r.2.2 - r.2.1) / 2 + 1,r.2.2))
  else pure (ForInStep.yield (none,r.2.1,r.2.1 + (r.2.2 - r.2.1) / 2))
noncomputable def EI(left:Bool)(key:Keyed)(arr:Array Keyed)(base n lo hi:Nat):SM (Option Nat):=do
 let r ← forIn [:n] ((none:Option (Option Nat)),lo,hi) fun _ r=>Ek left key arr base r
 match r.1 with
 | some x=>pure x
 | none=>pure (some r.2.2)
theorem zA(left:Bool)(key:Keyed)(arr:Array Keyed)(base n hint:Nat):fR left key arr base n hint=(do
  let some x ← GS left key arr (base + hint) | pure none
  if x=true then do
   let r ← forIn [:n] ((none:Option (Option Nat)),0,1) fun _ r=>Jk left key arr base hint (n - hint) r
   match r.1 with
   | some x=>pure x
   | none=>EI left key arr base n (hint + r.2.1 + 1) (hint + min r.2.2 (n - hint))
  else do
   let r ← forIn [:n] ((none:Option (Option Nat)),0,1) fun _ r=>Jz left key arr base hint (hint + 1) r
   match r.1 with
   | some x=>pure x
   | none=>EI left key arr base n (hint + 1 - min r.2.2 (hint + 1)) (hint - r.2.1)):=by kernel_rfl
structure r8 (left:Bool) (key:Keyed) (arr:Array Keyed) (base n:Nat) (B:Nat→Bool):Prop where
 kk:CK key
 at_:∀ i,i < n→∃ p,arr[base + i]?=some p∧CK p∧B i=(if left=true then decide (nk p < nk key) else !decide (nk key < nk p))
 mono:∀ i j,i≤j→j < n→B j=true→B i=true
variable {left:Bool}{key:Keyed}{base:Nat}{B:Nat→Bool}
theorem mX{Q:Option Bool→SortSt→Prop}(hk:kindOf st=oneType')(G:r8 left key arr base n B)(hi:i < n)(h:Q (some (B i)) st):wpS (model prog w) A E s (GS left key arr (base + i)) Q st:=by
 obtain⟨p,ep,ip,eb⟩:=G.at_ i hi;refine bV (bF ep ?_);cases left with
 | true=>
  rw[if_pos rfl]at eb ⊢;exact rW hk ip G.kk (by rw[← eb]; exact h)
 | false=>
  rw[if_neg gW]at eb ⊢;exact bV (rW hk G.kk ip (cN (by show Q (some (!decide (nk key < nk p))) st; rw[← eb]; exact h)))
theorem vo{l0 h0:Nat}(hk:kindOf st=oneType')(G:r8 left key arr base n B)(c1:l0≤h0)(c2:h0≤n)(c3:∀ i,i < l0→B i=true)(c4:∀ i,h0≤i→i < n→B i=false)
  (q:∀ k,k≤n→(∀ i,i < k→B i=true)→(∀ i,k≤i→i < n→B i=false)→Q (some k) st):wpS (model prog w) A E s (EI left key arr base n l0 h0) Q st:=by
 refine bV (wpS_mono (uf (I:=fun i r st2=>st2=st∧∃ l h,r=(none,l,h)∧l≤h∧h≤n∧h - l≤n - i∧(∀ i,i < l→B i=true)∧∀ i,h≤i→i < n→B i=false)
  (Q:=fun r st2=>st2=st∧∃ l,r=(none,l,l)∧l≤n∧(∀ i,i < l→B i=true)∧∀ i,l≤i→i < n→B i=false) ?stepT ?finT ⟨rfl,l0,h0,rfl,c1,c2,by lia,c3,c4⟩) ?postT)
 case finT=>
  rintro r st2 ⟨rfl,l,h,rfl,b1,b2,b3,b4,b5⟩
  have e:l=h:=by lia
  subst e;exact⟨rfl,l,rfl,b2,b4,b5⟩
 case stepT=>
  rintro i r st2 _ Gm ⟨rfl,l,h,rfl,b1,b2,b3,b4,b5⟩
  unfold Ek;dsimp only;by_cases hlh:l ≥ h
  ·rw[if_pos hlh];have e:l=h:=by lia
   subst e;exact cN ⟨rfl,l,rfl,b2,b4,b5⟩
  ·rw[if_neg hlh];refine bV (mX hk G (by lia) ?_);dsimp only;cases eb:B (l + (h - l) / 2) with
   | true=>
    rw[if_pos rfl];exact cN ⟨rfl,_,h,rfl,by lia,b2,by lia,fun j hj=>G.mono j _ (by lia) (by lia) eb,b5⟩
   | false=>
    rw[if_neg gW];refine cN ⟨rfl,l,_,rfl,by lia,by lia,by lia,b4,fun j hj hn=>?_⟩;cases e2:B j with
    | false=>rfl
    | true=>rw[G.mono _ j hj hn e2]at eb; cases eb
 case postT=>
  rintro r st2 ⟨rfl,l,rfl,b2,b4,b5⟩
  exact cN (q l b2 b4 b5)
theorem eF{hint:Nat}(hk:kindOf st=oneType')(G:r8 left key arr base n B)(hh:hint < n)
  (q:∀ k,k≤n→(∀ i,i < k→B i=true)→(∀ i,k≤i→i < n→B i=false)→Q (some k) st):wpS (model prog w) A E s (fR left key arr base n hint) Q st:=by
 rw[zA];refine bV (mX hk G hh ?_);dsimp only;cases e0:B hint with
 | true=>
  rw[if_pos rfl]
  refine bV (wpS_mono (uf (I:=fun i r st'=>st'=st∧∃ l o,r=(none,l,o)∧l < o∧l < n - hint∧i + 1≤o∧B (hint + l)=true)
   (Q:=fun r st'=>st'=st∧∃ l o,r=(none,l,o)∧l < o∧l < n - hint∧B (hint + l)=true∧(n - hint≤o∨(o < n - hint∧B (hint + o)=false))) ?step ?fin ⟨rfl,0,1,rfl,by omega,by omega,by omega,e0⟩) ?post)
  case fin=>
   rintro r st' ⟨rfl,l,o,rfl,a1,a2,a3,a4⟩
   exact⟨rfl,l,o,rfl,a1,a2,a4,.inl (by omega)⟩
  case step=>
   rintro i r st' _ hi' ⟨rfl,l,o,rfl,a1,a2,a3,a4⟩
   unfold Jk;dsimp only;by_cases ho:o ≥ n - hint
   ·rw[if_pos ho];exact cN ⟨rfl,l,o,rfl,a1,a2,a4,.inl ho⟩
   ·rw[if_neg ho];refine bV (mX hk G (by omega) ?_);dsimp only;cases eb:B (hint + o) with
    | true=>
     rw[if_neg (by decide)];exact cN ⟨rfl,o,2 * o + 1,rfl,by omega,by omega,by omega,eb⟩
    | false=>
     rw[if_pos (show (!false)=true from rfl)];exact cN ⟨rfl,l,o,rfl,a1,a2,a4,.inr ⟨by omega,eb⟩⟩
  case post=>
   rintro r st' ⟨rfl,l,o,rfl,a1,a2,a4,a5⟩
   dsimp only;refine vo hk G (by omega) (by omega) (fun j hj=>G.mono j _ (by omega) (by omega) a4) (fun j hj hn=>?_) q;rcases a5 with a5 | ⟨a5,a6⟩
   ·omega
   ·cases e2:B j with
    | false=>rfl
    | true=>rw[G.mono _ j (by omega) hn e2]at a6; cases a6
 | false=>
  rw[if_neg gW]
  refine bV (wpS_mono (uf (I:=fun i r st'=>st'=st∧∃ l o,r=(none,l,o)∧l < o∧l < hint + 1∧i + 1≤o∧B (hint - l)=false)
   (Q:=fun r st'=>st'=st∧∃ l o,r=(none,l,o)∧l < o∧l < hint + 1∧B (hint - l)=false∧(hint + 1≤o∨(o < hint + 1∧B (hint - o)=true))) ?step2 ?fin2 ⟨rfl,0,1,rfl,by omega,by omega,by omega,e0⟩) ?post2)
  case fin2=>
   rintro r st' ⟨rfl,l,o,rfl,a1,a2,a3,a4⟩
   exact⟨rfl,l,o,rfl,a1,a2,a4,.inl (by omega)⟩
  case step2=>
   rintro i r st' _ hi' ⟨rfl,l,o,rfl,a1,a2,a3,a4⟩
   unfold Jz;dsimp only;by_cases ho:o ≥ hint + 1
   ·rw[if_pos ho];exact cN ⟨rfl,l,o,rfl,a1,a2,a4,.inl ho⟩
   ·rw[if_neg ho];refine bV (mX hk G (by omega) ?_);dsimp only;cases eb:B (hint - o) with
    | true=>
     rw[if_pos rfl];exact cN ⟨rfl,l,o,rfl,a1,a2,a4,.inr ⟨by omega,eb⟩⟩
    | false=>
     rw[if_neg gW];exact cN ⟨rfl,o,2 * o + 1,rfl,by omega,by omega,by omega,eb⟩
  case post2=>
   rintro r st' ⟨rfl,l,o,rfl,a1,a2,a4,a5⟩
   dsimp only;refine vo hk G (by omega) (by omega) (fun j hj=>?_) (fun j hj hn=>?_) q
   ·rcases a5 with a5 | ⟨a5,a6⟩
    ·omega
    ·exact G.mono j _ (by omega) (by omega) a6
   ·cases e2:B j with
    | false=>rfl
    | true=>rw[G.mono _ j hj hn e2]at a4; cases a4
end
def Le(p q:Keyed):Prop:=nk p≤nk q
theorem Le.trans{q r:Keyed}(h1:Le p q)(h2:Le q r):Le p r:=Int.le_trans h1 h2
abbrev So(l:List Keyed):Prop:=l.Pairwise Le
theorem de(h:xs[i]?=some p):xs.drop i=p::xs.drop (i + 1):=by
 obtain⟨hi,e⟩:=eQ.mp h;rw[List.drop_eq_getElem_cons hi,e]
theorem So.drop(h:So xs)(i:Nat):So (xs.drop i):=h.sublist (List.drop_sublist i xs)
theorem So.take(h:So xs)(i:Nat):So (xs.take i):=h.sublist (List.take_sublist i xs)
theorem So.head(h:So xs)(e:xs[i]?=some p):∀ q∈xs.drop (i + 1),Le p q:=by
 have:=h.drop i;rw[de e]at this;exact (List.pairwise_cons.mp this).1
theorem So.from(h:So xs){b:Keyed}(e:xs[i]?=some p)(hb:Le b p):∀ q∈xs.drop i,Le b q:=fun q hq=>by
 rw[de e]at hq;rcases dO.mp hq with rfl | hq
 ·exact hb
 ·exact hb.trans (h.head e q hq)
structure MI (xs ys out:List Keyed) (ia ib:Nat):Prop where
 la:ia≤xs.length
 lb:ib≤ys.length
 pm:out.Perm (xs.take ia++ys.take ib)
 so:So out
 ax:∀ o∈out,∀ p∈xs.drop ia,Le o p
 bx:∀ o∈out,∀ p∈ys.drop ib,Le o p
def cB(xs ys r:List Keyed):Prop:=r.Perm (xs++ys)∧So r
theorem MI.swap(h:MI xs ys out ia ib):MI ys xs out ib ia:=⟨h.lb,h.la,h.pm.trans Bm,h.so,h.bx,h.ax⟩
theorem MI.nil:MI xs ys [] 0 0:=⟨fE _,fE _,List.Perm.refl _,List.Pairwise.nil,fun _ h=>by simp at h,fun _ h=>by simp at h⟩
theorem MI.ny(h:MI xs ys out ia ib)(sy:So ys)(hp:ys[ib]?=some p)(hx:∀ q∈xs.drop ia,Le p q):MI xs ys (out++[p]) ia (ib + 1):=by
 have hl:ib < ys.length:=(eQ.mp hp).1;have hm:p∈ys.drop ib:=by rw[de hp]; exact oE
 refine⟨h.la,hl,?_,?_,fun o ho q hq=>?_,fun o ho q hq=>?_⟩
 ·rw[A2,hp,← mE];exact h.pm.append_right _
 ·exact Ad.mpr ⟨h.so,List.pairwise_singleton _ _,fun a ha b hb=>by rw[dU.mp hb]; exact h.bx a ha p hm⟩
 ·rcases fv.mp ho with ho | ho
  ·exact h.ax o ho q hq
  ·rw[dU.mp ho]; exact hx q hq
 ·rcases fv.mp ho with ho | ho
  ·exact h.bx o ho q (by rw[de hp]; exact tu _ hq)
  ·rw[dU.mp ho]; exact sy.head hp q hq
theorem MI.jU(h:MI xs ys out ia ib)(sx:So xs)(hp:xs[ia]?=some p)(hy:∀ q∈ys.drop ib,Le p q):MI xs ys (out++[p]) (ia + 1) ib:=(h.swap.ny sx hp hy).swap
theorem MI.nK(h:MI xs ys out ia ib)(sx:So xs):∀ (k:Nat),ia + k≤xs.length→(∀ i p,ia≤i→i < ia + k→xs[i]?=some p→∀ q∈ys.drop ib,Le p q)→MI xs ys (out++(xs.drop ia).take k) (ia + k) ib
 | 0,_,_=>by rw[List.take_zero,xE]; exact h
 | k + 1,hk,hle=>by
  have hr:=h.nK sx k (by lia) fun i p h1 h2=>hle i p h1 (by lia)
  have hp:xs[ia + k]?=some xs[ia + k]:=cu (by lia);have:=hr.jU sx hp (hle _ _ (by lia) (by lia) hp);rw[A2,List.getElem?_drop,hp,← mE];exact this
theorem MI.Bg(h:MI xs ys out ia ib)(sy:So ys)(k:Nat)(hk:ib + k≤ys.length)(hle:∀ i p,ib≤i→i < ib + k→ys[i]?=some p→∀ q∈xs.drop ia,Le p q):MI xs ys (out++(ys.drop ib).take k) ia (ib + k):=(h.swap.nK sy k hk hle).swap
theorem MI.nF(h:MI xs ys out ia ib)(sx:So xs)(e:ib=ys.length):cB xs ys (out++xs.drop ia++ys.drop ib):=by
 subst e;rw[List.drop_length,xE];refine⟨?_,Ad.mpr ⟨h.so,sx.drop ia,h.ax⟩⟩;have:=h.pm;rw[Ah]at this;refine (this.append_right _).trans ?_;rw[mE];refine (Bm.append_left _).trans ?_;rw[← mE,FJ]
theorem MI.m6(h:MI xs ys out ia ib)(sy:So ys)(e:ia=xs.length):cB xs ys (out++xs.drop ia++ys.drop ib):=by
 have:=h.swap.nF sy e;refine⟨?_,?_⟩
 ·refine List.Perm.trans ?_ (this.1.trans Bm);rw[mE,mE];exact Bm.append_left _
 ·subst e;have:=this.2;rw[List.drop_length,xE]at this ⊢;exact this
theorem MI.last(h:MI xs ys out ia ib)(sx:So xs)(sy:So ys)(hl:∀ q∈ys.drop ib,∀ p∈xs.drop ia,Le q p):cB xs ys (out++ys.drop ib++xs.drop ia):=by
 refine⟨?_,?_⟩
 ·have e1:(out++ys.drop ib++xs.drop ia).Perm (xs.take ia++ys.take ib++ys.drop ib++xs.drop ia):=(h.pm.append_right _).append_right _;refine e1.trans ?_;rw[mE (xs.take ia),FJ,mE];refine (Bm.append_left _).trans ?_;rw[← mE,FJ]
 ·refine Ad.mpr ⟨Ad.mpr ⟨h.so,sy.drop ib,h.bx⟩,sx.drop ia,fun a ha b hb=>?_⟩;rcases fv.mp ha with ha | ha
  ·exact h.ax a ha b hb
  ·exact hl a ha b hb
structure MH (xs ys out:List Keyed) (na nb:Nat):Prop where
 la:na≤xs.length
 lb:nb≤ys.length
 pm:out.Perm (xs.drop na++ys.drop nb)
 so:So out
 ax:∀ o∈out,∀ p∈xs.take na,Le p o
 bx:∀ o∈out,∀ p∈ys.take nb,Le p o
theorem take_snoc(h:xs[i]?=some p):xs.take (i + 1)=xs.take i++[p]:=by rw[A2,h]; rfl
theorem So.last(h:So xs)(e:xs[i]?=some p):∀ q∈xs.take i,Le q p:=fun q hq=>by
 have:=h.take (i + 1);rw[take_snoc e]at this;exact (Ad.mp this).2.2 q hq p (dU.mpr rfl)
theorem So.Dr(h:So xs){b:Keyed}(e:xs[i]?=some p)(hb:Le p b):∀ q∈xs.take (i + 1),Le q b:=fun q hq=>by
 rw[take_snoc e]at hq;rcases fv.mp hq with hq | hq
 ·exact (h.last e q hq).trans hb
 ·rw[dU.mp hq]; exact hb
theorem MH.swap(h:MH xs ys out na nb):MH ys xs out nb na:=⟨h.lb,h.la,h.pm.trans Bm,h.so,h.bx,h.ax⟩
theorem MH.nil:MH xs ys [] xs.length ys.length:=⟨cq _,cq _,by rw[List.drop_length,List.drop_length]; exact List.Perm.refl _,List.Pairwise.nil,fun _ h=>by simp at h,fun _ h=>by simp at h⟩
theorem MH.jU(h:MH xs ys out (na + 1) nb)(sx:So xs)(hp:xs[na]?=some p)(hy:∀ q∈ys.take nb,Le q p):MH xs ys (p::out) na nb:=by
 have hl:na < xs.length:=(eQ.mp hp).1;have hm:p∈xs.take (na + 1):=by rw[take_snoc hp]; simp
 refine⟨by lia,h.lb,?_,List.pairwise_cons.mpr ⟨fun o ho=>h.ax o ho p hm,h.so⟩,fun o ho q hq=>?_,fun o ho q hq=>?_⟩
 ·rw[de hp]; exact h.pm.cons p
 ·rcases dO.mp ho with rfl | ho
  ·exact sx.last hp q hq
  ·exact h.ax o ho q (by rw[take_snoc hp]; exact tq _ hq)
 ·rcases dO.mp ho with rfl | ho
  ·exact hy q hq
  ·exact h.bx o ho q hq
theorem MH.ny(h:MH xs ys out na (nb + 1))(sy:So ys)(hp:ys[nb]?=some p)(hx:∀ q∈xs.take na,Le q p):MH xs ys (p::out) na nb:=(h.swap.jU sy hp hx).swap
theorem MH.nK(sx:So xs):∀ (k:Nat) {na:Nat} {out:List Keyed},MH xs ys out (na + k) nb→(∀ i p,na≤i→i < na + k→xs[i]?=some p→∀ q∈ys.take nb,Le q p)→MH xs ys ((xs.drop na).take k++out) na nb
 | 0,_,_,h,_=>by rw[List.take_zero]; exact h
 | k + 1,na,out,h,hle=>by
  have hl:na + (k + 1)≤xs.length:=h.la;have hp:xs[na + k]?=some xs[na + k]:=cu (by lia);have h1:=MH.jU (na:=na + k) h sx hp (hle _ _ (by lia) (by lia) hp);have:=MH.nK sx k h1 fun i p a1 a2=>hle i p a1 (by lia)
  rw[A2,List.getElem?_drop,hp,mE];exact this
theorem MH.Bg(sy:So ys)(k:Nat)(h:MH xs ys out na (nb + k))(hle:∀ i p,nb≤i→i < nb + k→ys[i]?=some p→∀ q∈xs.take na,Le q p):MH xs ys ((ys.drop nb).take k++out) na nb:=(MH.nK sy k h.swap hle).swap
theorem MH.m6(h:MH xs ys out na nb)(sy:So ys)(e:na=0):cB xs ys (xs.take na++ys.take nb++out):=by
 subst e;rw[List.take_zero,List.nil_append];refine⟨?_,Ad.mpr ⟨sy.take nb,h.so,fun a ha b hb=>h.bx b hb a ha⟩⟩;have:=h.pm;rw[List.drop_zero]at this;refine (this.append_left _).trans ?_;rw[← mE];refine (Bm.append_right _).trans ?_;rw[mE,FJ]
theorem MH.nF(h:MH xs ys out na nb)(sx:So xs)(e:nb=0):cB xs ys (xs.take na++ys.take nb++out):=by
 have:=h.swap.m6 sx e;refine⟨?_,?_⟩
 ·exact (Bm.append_right _).trans (this.1.trans Bm)
 ·subst e;have:=this.2;rw[List.take_zero,List.nil_append]at this;rw[List.take_zero,xE];exact this
theorem MH.first(h:MH xs ys out na nb)(sx:So xs)(sy:So ys)(hl:∀ q∈ys.take nb,∀ p∈xs.take na,Le q p):cB xs ys (ys.take nb++xs.take na++out):=by
 refine⟨?_,?_⟩
 ·refine (h.pm.append_left _).trans ?_;rw[mE,← mE (xs.take na),FJ];refine Bm.trans ?_;rw[mE];refine (Bm.append_left _).trans ?_;rw[FJ]
 ·refine Ad.mpr ⟨Ad.mpr ⟨sy.take nb,sx.take na,fun a ha b hb=>hl a ha b hb⟩,h.so,fun a ha b hb=>?_⟩;rcases fv.mp ha with ha | ha
  ·exact h.bx b hb a ha
  ·exact h.ax b hb a ha
noncomputable def nA:Array Keyed→Array Keyed→SM (Array Keyed):=sortPriv% PySem.Builtin.mergeLo
noncomputable abbrev setG(st:SortSt)(g:Nat):SortSt:=SortSt.mk' (kindOf st) (arrOf st) (pendingOf st) g (failedOf st)
def gE:Nat→SM Unit:=sortPriv% PySem.Builtin.setMinGallop
theorem ku(g:Nat):gE g=modify fun s=>setG s g:=rfl
abbrev zW:Type:=Option (Array Keyed) × Array Keyed × Nat × Nat × Nat × Nat × Nat
abbrev Gk:Type:=Option (Array Keyed) × Array Keyed × Nat × Nat × Nat × Nat
section
variable (a b:Array Keyed)
noncomputable abbrev kE(out:Array Keyed)(ia ib:Nat):Array Keyed:=out++a.extract ia++b.extract ib
noncomputable abbrev kX(out:Array Keyed)(ia ib:Nat):Array Keyed:=out++b.extract ib++a.extract ia
noncomputable def ID(out:Array Keyed)(ia ib mg ac bc:Nat):SM (ForInStep zW):=do
 let ea ← elem' a ia
 if (ia + 1 + 1 == a.size)=true then pure (ForInStep.done (some (kX a b (out.push ea) (ia + 1) ib),out.push ea,ia + 1,ib,mg,ac,bc))
 else if (decide (ac < 7) && decide (bc < 7))=true then pure (ForInStep.done (none,out.push ea,ia + 1,ib,mg,ac,bc))
 else pure (ForInStep.yield (none,out.push ea,ia + 1,ib,mg,ac,bc))
noncomputable def Jw(out:Array Keyed)(ia ib mg ac bc:Nat):SM (ForInStep zW):=do
 let ea ← elem' a ia
 let some k ← fR true ea b ib (b.size - ib) 0 | pure (ForInStep.done (some (kE a b out ia ib),out,ia,ib,mg,ac,bc))
 if k > 0 then
  if (ib + k == b.size)=true then pure (ForInStep.done (some (kE a b (out++b.extract ib (ib + k)) ia (ib + k)),out++b.extract ib (ib + k),ia,ib + k,mg,ac,k))
  else ID a b (out++b.extract ib (ib + k)) ia (ib + k) mg ac k
 else ID a b out ia ib mg ac k
noncomputable def IB(out:Array Keyed)(ia ib mg ac bc:Nat):SM (ForInStep zW):=do
 let eb ← elem' b ib
 if (ib + 1 == b.size)=true then pure (ForInStep.done (some (kE a b (out.push eb) ia (ib + 1)),out.push eb,ia,ib + 1,mg,ac,bc))
 else Jw a b (out.push eb) ia (ib + 1) mg ac bc
noncomputable def lo1(out:Array Keyed)(ia ib mg ac bc:Nat):SM (ForInStep zW):=do
 let eb ← elem' b ib
 let some k ← fR false eb a ia (a.size - ia) 0 | pure (ForInStep.done (some (kE a b out ia ib),out,ia,ib,mg,ac,bc))
 if k > 0 then
  if (ia + k + 1 == a.size)=true then pure (ForInStep.done (some (kX a b (out++a.extract ia (ia + k)) (ia + k) ib),out++a.extract ia (ia + k),ia + k,ib,mg,k,bc))
  else if (ia + k == a.size)=true then pure (ForInStep.done (some (kE a b (out++a.extract ia (ia + k)) (ia + k) ib),out++a.extract ia (ia + k),ia + k,ib,mg,k,bc))
  else IB a b (out++a.extract ia (ia + k)) (ia + k) ib mg k bc
 else IB a b out ia ib mg k bc
noncomputable def Jo(r:zW):SM (ForInStep zW):=
 if r.2.2.2.2.1 > 1 then do
  gE (r.2.2.2.2.1 - 1)
  lo1 a b r.2.1 r.2.2.1 r.2.2.2.1 (r.2.2.2.2.1 - 1) r.2.2.2.2.2.1 r.2.2.2.2.2.2
 else do
  gE r.2.2.2.2.1
  lo1 a b r.2.1 r.2.2.1 r.2.2.2.1 r.2.2.2.2.1 r.2.2.2.2.2.1 r.2.2.2.2.2.2
noncomputable def IX(mg:Nat)(r:Gk):SM (ForInStep Gk):=do
 let eb ← elem' b r.2.2.2.1
 let ea ← elem' a r.2.2.1
 let some wins ← lt' eb ea | pure (ForInStep.done (some (kE a b r.2.1 r.2.2.1 r.2.2.2.1),r.2.1,r.2.2.1,r.2.2.2.1,r.2.2.2.2.1,r.2.2.2.2.2))
 if wins=true then do
  let eb ← elem' b r.2.2.2.1
  if (r.2.2.2.1 + 1 == b.size)=true then pure (ForInStep.done (some (kE a b (r.2.1.push eb) r.2.2.1 (r.2.2.2.1 + 1)),r.2.1.push eb,r.2.2.1,r.2.2.2.1 + 1,0,r.2.2.2.2.2 + 1))
  else if r.2.2.2.2.2 + 1 ≥ mg then pure (ForInStep.done (none,r.2.1.push eb,r.2.2.1,r.2.2.2.1 + 1,0,r.2.2.2.2.2 + 1))
  else pure (ForInStep.yield (none,r.2.1.push eb,r.2.2.1,r.2.2.2.1 + 1,0,r.2.2.2.2.2 + 1))
 else do
  let ea ← elem' a r.2.2.1
  if (r.2.2.1 + 1 + 1 == a.size)=true then pure (ForInStep.done (some (kX a b (r.2.1.push ea) (r.2.2.1 + 1) r.2.2.2.1),r.2.1.push ea,r.2.2.1 + 1,r.2.2.2.1,r.2.2.2.2.1 + 1,0))
  else if r.2.2.2.2.1 + 1 ≥ mg then pure (ForInStep.done (none,r.2.1.push ea,r.2.2.1 + 1,r.2.2.2.1,r.2.2.2.2.1 + 1,0))
  else pure (ForInStep.yield (none,r.2.1.push ea,r.2.2.1 + 1,r.2.2.2.1,r.2.2.2.2.1 + 1,0))
end
theorem vV(a b:Array Keyed):nA a b=(do
  liftM (rule "list.sort.merge-lo")
  let e0 ← elem' b 0
  if (1 == b.size)=true then pure (kE a b #[e0] 0 1)
  else if (0 + 1 == a.size)=true then pure (kX a b #[e0] 0 1)
  else do
   let g ← get
   let r ← forIn [:a.size + b.size] ((none:Option (Array Keyed)),#[e0],0,1,gallopOf g) fun _ r=>do
    let r1 ← forIn [:a.size + b.size] ((none:Option (Array Keyed)),r.2.1,r.2.2.1,r.2.2.2.1,0,0) fun _ r1=>IX a b r.2.2.2.2 r1
    match r1.1 with
    | some x=>pure (ForInStep.done (some x,r1.2.1,r1.2.2.1,r1.2.2.2.1,r.2.2.2.2))
    | none=>do
     liftM (rule "list.sort.gallop")
     let r2 ← forIn [:a.size + b.size] ((none:Option (Array Keyed)),r1.2.1,r1.2.2.1,r1.2.2.2.1,r.2.2.2.2 + 1,r1.2.2.2.2.1,r1.2.2.2.2.2) fun _ r2=>Jo a b r2
     match r2.1 with
     | some x=>pure (ForInStep.done (some x,r2.2.1,r2.2.2.1,r2.2.2.2.1,r2.2.2.2.2.1))
     | none=>do
      gE (r2.2.2.2.2.1 + 1)
      pure (ForInStep.yield (none,r2.2.1,r2.2.2.1,r2.2.2.2.1,r2.2.2.2.2.1 + 1))
   match r.1 with
   | some x=>pure x
   | none=>unsupported "internal:list.sort.merge-bound"):=by kernel_rfl
structure MC (a b:Array Keyed):Prop where
 ka:∀ p∈a.toList,CK p
 kb:∀ p∈b.toList,CK p
 sa:So a.toList
 sb:So b.toList
 hl:∀ q∈b.toList,∀ p,a.toList[a.size - 1]?=some p→Le q p
 hf:∀ q,b.toList[0]?=some q→∀ p∈a.toList,Le q p
theorem iX(a:Array Keyed)(i:Nat):(a.extract i).toList=a.toList.drop i:=by
 rw[Array.toList_extract];show (a.toList.drop i).take (a.size - i)=_;exact Ez (by rw[List.length_drop,jP]; exact cq _)
theorem mM(a:Array Keyed)(i k:Nat):(a.extract i (i + k)).toList=(a.toList.drop i).take k:=by
 rw[Array.toList_extract];show (a.toList.drop i).take (i + k - i)=_;rw[Nat.add_sub_cancel_left]
theorem aI(h:i < a.size):a[i]?=some a[i]∧a.toList[i]?=some a[i]:=⟨getElem?_pos a i h,by rw[E3]; exact getElem?_pos a i h⟩
theorem eE(h:i < a.size):a[i]∈a.toList:=by simp
structure J (a b out:Array Keyed) (ia ib:Nat):Prop where
 mi:MI a.toList b.toList out.toList ia ib
 ha:ia + 1 < a.size
 hb:ib < b.size
def GP(a b:Array Keyed)(c:Nat):ForInStep zW→Prop
 | .done r=>(∃ x,r.1=some x∧cB a.toList b.toList x.toList)∨(r.1=none∧J a b r.2.1 r.2.2.1 r.2.2.2.1∧c≤r.2.2.1 + r.2.2.2.1)
 | .yield r=>r.1=none∧J a b r.2.1 r.2.2.1 r.2.2.2.1∧c≤r.2.2.1 + r.2.2.2.1
def JI(a b:Array Keyed)(c:Nat):ForInStep Gk→Prop
 | .done r=>(∃ x,r.1=some x∧cB a.toList b.toList x.toList)∨(r.1=none∧J a b r.2.1 r.2.2.1 r.2.2.2.1∧c≤r.2.2.1 + r.2.2.2.1)
 | .yield r=>r.1=none∧J a b r.2.1 r.2.2.1 r.2.2.2.1∧c≤r.2.2.1 + r.2.2.2.1
section
variable {b out:Array Keyed}{mg:Nat}
theorem iE(h:cB a.toList b.toList (out.toList++a.toList.drop ia++b.toList.drop ib)):cB a.toList b.toList (kE a b out ia ib).toList:=by
 rw[yX,yX,iX,iX]; exact h
theorem yV(h:cB a.toList b.toList (out.toList++b.toList.drop ib++a.toList.drop ia)):cB a.toList b.toList (kX a b out ia ib).toList:=by
 rw[yX,yX,iX,iX]; exact h
theorem MC.last(C:MC a b)(h:MI a.toList b.toList out.toList ia ib)(e:ia + 1=a.size):cB a.toList b.toList (kX a b out ia ib).toList:=by
 refine yV (h.last C.sa C.sb fun q hq p hp=>?_);have hi:ia < a.size:=by lia
 rw[de (aI hi).2,e,List.drop_of_length_le (by rw[jP]; exact cq _)]at hp;rw[dU.mp hp];exact C.hl q (List.mem_of_mem_drop hq) _ (by rw[show a.size - 1=ia by lia]; exact (aI hi).2)
theorem MI.kj(h:MI xs ys (out.toList++[p]) ia ib):MI xs ys (out.push p).toList ia ib:=by rw[Array.toList_push]; exact h
theorem Cb{Q:ForInStep zW→SortSt→Prop}(C:MC a b)(h:MI a.toList b.toList out.toList ia ib)(ha:ia + 1 < a.size)(hb:ib < b.size)(hle:∀ q∈b.toList.drop ib,Le a[ia] q)(hc:c≤ia + ib + 1)
  (q:∀ r,GP a b c r→Q r st):wpS (model prog w) A E s (ID a b out ia ib mg ac bc) Q st:=by
 have hi:ia < a.size:=by lia
 have h1:=(h.jU C.sa (aI hi).2 hle).kj;refine bV (bF (aI hi).1 ?_);by_cases e:ia + 1 + 1=a.size
 ·rw[if_pos (by simpa using e)];exact cN (q _ (.inl ⟨_,rfl,C.last h1 e⟩))
 ·rw[if_neg (by simpa using e)];have hj:J a b (out.push a[ia]) (ia + 1) ib:=⟨h1,by lia,hb⟩
  by_cases e2:(decide (ac < 7) && decide (bc < 7))=true
  ·rw[if_pos e2];exact cN (q _ (.inr ⟨rfl,hj,by show c≤ia + 1 + ib; lia⟩))
  ·rw[if_neg e2];exact cN (q _ ⟨rfl,hj,by show c≤ia + 1 + ib; lia⟩)
theorem EW{Q:ForInStep zW→SortSt→Prop}(hk:kindOf st=oneType')(C:MC a b)(h:MI a.toList b.toList out.toList ia ib)(ha:ia + 1 < a.size)(hb:ib < b.size)(hc:c≤ia + ib + 1)
  (q:∀ r,GP a b c r→Q r st):wpS (model prog w) A E s (Jw a b out ia ib mg ac bc) Q st:=by
 have hi:ia < a.size:=by lia
 have lb:=jP (xs:=b);have G:r8 true a[ia] b ib (b.size - ib) (fun i=>if hi:ib + i < b.size then decide (nk b[ib + i] < nk a[ia]) else false):=by
  refine⟨C.ka _ (eE hi),fun i hn=>?_,fun i j hij hj hB=>?_⟩
  ·have hx:ib + i < b.size:=by lia
   exact⟨b[ib + i],(aI hx).1,C.kb _ (eE hx),by rw[dif_pos hx]; rfl⟩
  ·have hx:ib + j < b.size:=by lia
   have hy:ib + i < b.size:=by lia
   rw[dif_pos hx]at hB;rw[dif_pos hy];have hB:=pH hB;have:Le b[ib + i] b[ib + j]:=by
    rcases Nat.eq_or_lt_of_le hij with e | e
    ·subst e; exact Int.le_refl _
    ·refine C.sb.head (aI hy).2 _ ?_;exact gh (i:=j - i - 1) (by rw[List.getElem?_drop,show ib + i + 1 + (j - i - 1)=ib + j by lia]; exact (aI hx).2)
   unfold Le at this;exact ff (by lia)
 refine bV (bF (aI hi).1 ?_);refine bV (eF hk G (by lia) fun k k1 k2 k3=>?_);dsimp only;have hm:∀ i p,ib≤i→i < ib + k→b.toList[i]?=some p→∀ q∈a.toList.drop ia,Le p q:=fun i p h1 h2 hp=>by
  obtain⟨j,rfl⟩:∃ j,i=ib + j:=⟨i - ib,by lia⟩
  have hx:ib + j < b.size:=by lia
  have:=k2 j (by lia);rw[dif_pos hx]at this;have e:p=b[ib + j]:=by
   have:=(aI hx).2;rw[hp]at this;exact mW this
  refine C.sa.from (aI hi).2 ?_;rw[e];exact Aj (pH this)
 have h1:=h.Bg C.sb k (by lia) hm;have hle:ib + k < b.size→∀ q∈b.toList.drop (ib + k),Le a[ia] q:=fun hx=>by
  have:=k3 k (cq _) (by lia);rw[dif_pos hx]at this;refine C.sb.from (aI hx).2 ?_;have:=of_decide_eq_false this;unfold Le
  lia
 by_cases hk0:k > 0
 ·rw[if_pos hk0];have h2:MI a.toList b.toList (out++b.extract ib (ib + k)).toList ia (ib + k):=by rw[yX,mM]; exact h1
  by_cases e:ib + k=b.size
  ·rw[if_pos (by simpa using e)];exact cN (q _ (.inl ⟨_,rfl,iE (h2.nF C.sa (by rw[lb]; exact e))⟩))
  ·rw[if_neg (by simpa using e)];exact Cb C h2 ha (by lia) (hle (by lia)) (by lia) q
 ·rw[if_neg hk0];have e:k=0:=by lia
  subst e;exact Cb C h ha hb (hle hb) hc q
theorem AW{Q:ForInStep zW→SortSt→Prop}(hk:kindOf st=oneType')(C:MC a b)(h:MI a.toList b.toList out.toList ia ib)(ha:ia + 1 < a.size)(hb:ib < b.size)(hle:∀ q∈a.toList.drop ia,Le b[ib] q)(hc:c≤ia + ib + 1)
  (q:∀ r,GP a b c r→Q r st):wpS (model prog w) A E s (IB a b out ia ib mg ac bc) Q st:=by
 have h1:=(h.ny C.sb (aI hb).2 hle).kj;refine bV (bF (aI hb).1 ?_);by_cases e:ib + 1=b.size
 ·rw[if_pos (by simpa using e)];exact cN (q _ (.inl ⟨_,rfl,iE (h1.nF C.sa (by rw[jP]; exact e))⟩))
 ·rw[if_neg (by simpa using e)];exact EW hk C h1 ha (by lia) (by lia) q
theorem Ff{Q:ForInStep zW→SortSt→Prop}(hk:kindOf st=oneType')(C:MC a b)(h:J a b out ia ib)(hc:c≤ia + ib + 1)
  (q:∀ r,GP a b c r→Q r st):wpS (model prog w) A E s (lo1 a b out ia ib mg ac bc) Q st:=by
 obtain⟨h,ha,hb⟩:=h;have la:=jP (xs:=a);have hi:ia < a.size:=by lia
 have G:r8 false b[ib] a ia (a.size - ia) (fun i=>if hi:ia + i < a.size then !decide (nk b[ib] < nk a[ia + i]) else false):=by
  refine⟨C.kb _ (eE hb),fun i hn=>?_,fun i j hij hj hB=>?_⟩
  ·have hx:ia + i < a.size:=by lia
   exact⟨a[ia + i],(aI hx).1,C.ka _ (eE hx),by rw[dif_pos hx]; rfl⟩
  ·have hx:ia + j < a.size:=by lia
   have hy:ia + i < a.size:=by lia
   rw[dif_pos hx]at hB;rw[dif_pos hy];have hB:¬ nk b[ib] < nk a[ia + j]:=by simpa using hB
   have:Le a[ia + i] a[ia + j]:=by
    rcases Nat.eq_or_lt_of_le hij with e | e
    ·subst e; exact Int.le_refl _
    ·refine C.sa.head (aI hy).2 _ ?_;exact gh (i:=j - i - 1) (by rw[List.getElem?_drop,show ia + i + 1 + (j - i - 1)=ia + j by lia]; exact (aI hx).2)
   unfold Le at this;have:¬ nk b[ib] < nk a[ia + i]:=by lia
   simpa using this
 refine bV (bF (aI hb).1 ?_);refine bV (eF hk G (by lia) fun k k1 k2 k3=>?_);dsimp only;have hm:∀ i p,ia≤i→i < ia + k→a.toList[i]?=some p→∀ q∈b.toList.drop ib,Le p q:=fun i p h1 h2 hp=>by
  obtain⟨j,rfl⟩:∃ j,i=ia + j:=⟨i - ia,by lia⟩
  have hx:ia + j < a.size:=by lia
  have:=k2 j (by lia);rw[dif_pos hx]at this;have this:¬ nk b[ib] < nk a[ia + j]:=by simpa using this
  have e:p=a[ia + j]:=by
   have:=(aI hx).2;rw[hp]at this;exact mW this
  refine C.sb.from (aI hb).2 ?_;rw[e];unfold Le
  lia
 have h1:=h.nK C.sa k (by lia) hm;have hle:ia + k < a.size→∀ q∈a.toList.drop (ia + k),Le b[ib] q:=fun hx=>by
  have:=k3 k (cq _) (by lia);rw[dif_pos hx]at this;have this:nk b[ib] < nk a[ia + k]:=by simpa using this
  refine C.sa.from (aI hx).2 ?_;unfold Le
  lia
 by_cases hk0:k > 0
 ·rw[if_pos hk0];have h2:MI a.toList b.toList (out++a.extract ia (ia + k)).toList (ia + k) ib:=by rw[yX,mM]; exact h1
  by_cases e:ia + k + 1=a.size
  ·rw[if_pos (by simpa using e)];exact cN (q _ (.inl ⟨_,rfl,C.last h2 e⟩))
  ·rw[if_neg (by simpa using e)];by_cases e2:ia + k=a.size
   ·rw[if_pos (by simpa using e2)];exact cN (q _ (.inl ⟨_,rfl,iE (h2.m6 C.sb (by rw[la]; exact e2))⟩))
   ·rw[if_neg (by simpa using e2)];exact AW hk C h2 (by lia) hb (hle (by lia)) (by lia) q
 ·rw[if_neg hk0];have e:k=0:=by lia
  subst e;exact AW hk C h ha hb (hle hi) hc q
theorem FD{Q:ForInStep Gk→SortSt→Prop}(hk:kindOf st=oneType')(C:MC a b){r:Gk}(h:J a b r.2.1 r.2.2.1 r.2.2.2.1)(hc:c≤r.2.2.1 + r.2.2.2.1 + 1)
  (q:∀ x,JI a b c x→Q x st):wpS (model prog w) A E s (IX a b mg r) Q st:=by
 obtain⟨r0,out,ia,ib,ac,bc⟩:=r;obtain⟨h,ha,hb⟩:=h;have h:MI a.toList b.toList out.toList ia ib:=h;have ha:ia + 1 < a.size:=ha;have hb:ib < b.size:=hb;have hc:c≤ia + ib + 1:=hc;have hi:ia < a.size:=by lia
 unfold IX;dsimp only;refine bV (bF (aI hb).1 (bV (bF (aI hi).1 (bV (rW hk (C.kb _ (eE hb)) (C.ka _ (eE hi)) ?_)))));dsimp only;by_cases hw:nk b[ib] < nk a[ia]
 ·rw[if_pos (ff hw)];have h1:=(h.ny C.sb (aI hb).2 (C.sa.from (aI hi).2 (Aj hw))).kj;refine bV (bF (aI hb).1 ?_);by_cases e:ib + 1=b.size
  ·rw[if_pos (by simpa using e)];exact cN (q _ (.inl ⟨_,rfl,iE (h1.nF C.sa (by rw[jP]; exact e))⟩))
  ·rw[if_neg (by simpa using e)];have hj:J a b (out.push b[ib]) ia (ib + 1):=⟨h1,ha,by lia⟩
   by_cases e2:bc + 1 ≥ mg
   ·rw[if_pos e2];exact cN (q _ (.inr ⟨rfl,hj,by show c≤ia + (ib + 1); lia⟩))
   ·rw[if_neg e2];exact cN (q _ ⟨rfl,hj,by show c≤ia + (ib + 1); lia⟩)
 ·rw[if_neg (by simpa using hw)];have h1:=(h.jU C.sa (aI hi).2 (C.sb.from (aI hb).2 (by unfold Le; lia))).kj;refine bV (bF (aI hi).1 ?_);by_cases e:ia + 1 + 1=a.size
  ·rw[if_pos (by simpa using e)];exact cN (q _ (.inl ⟨_,rfl,C.last h1 e⟩))
  ·rw[if_neg (by simpa using e)];have hj:J a b (out.push a[ia]) (ia + 1) ib:=⟨h1,by lia,hb⟩
   by_cases e2:ac + 1 ≥ mg
   ·rw[if_pos e2];exact cN (q _ (.inr ⟨rfl,hj,by show c≤ia + 1 + ib; lia⟩))
   ·rw[if_neg e2];exact cN (q _ ⟨rfl,hj,by show c≤ia + 1 + ib; lia⟩)
end
section
variable {b:Array Keyed}
theorem uZ{Q:Array Keyed→SortSt→Prop}(hk:kindOf st=oneType')(C:MC a b)(ha:0 < a.size)(hb:0 < b.size)(q:∀ r g,cB a.toList b.toList r.toList→Q r (setG st g)):wpS (model prog w) A E s (nA a b) Q st:=by
 rw[vV];have eg:st=setG st (gallopOf st):=rfl;have la:=jP (xs:=a);have lb:=jP (xs:=b);have h0:MI a.toList b.toList (#[b[0]]:Array Keyed).toList 0 1:=MI.nil.ny C.sb (aI hb).2 fun q hq=>C.hf _ (aI hb).2 q hq
 refine bV (wpS_lift (tR ⟨rfl,?_⟩));refine bV (bF (aI hb).1 ?_);by_cases e1:1=b.size
 ·rw[if_pos (by simpa using e1),eg];exact cN (q _ _ (iE (h0.nF C.sa (by rw[lb]; exact e1))))
 rw[if_neg (by simpa using e1)];by_cases e2:0 + 1=a.size
 ·rw[if_pos (by simpa using e2),eg];exact cN (q _ _ (C.last h0 e2))
 rw[if_neg (by simpa using e2)];refine bV (wpS_get ?_)
 refine bV (wpS_mono (uf (I:=fun i r st'=>(∃ g,st'=setG st g)∧r.1=none∧J a b r.2.1 r.2.2.1 r.2.2.2.1∧i≤r.2.2.1 + r.2.2.2.1)
  (Q:=fun r st'=>(∃ g,st'=setG st g)∧∃ x,r.1=some x∧cB a.toList b.toList x.toList) ?step ?fin ⟨⟨_,eg⟩,rfl,⟨h0,by show 0 + 1 < a.size; lia,by show 1 < b.size; lia⟩,fE _⟩) ?post)
 case fin=>
  rintro r st' ⟨_,_,hj,hi⟩
  have:=hj.ha;have:=hj.hb
  lia
 case post=>
  rintro⟨r0,r⟩ st' ⟨⟨g,rfl⟩,x,e,hG⟩
  have e:r0=some x:=e;subst e;exact cN (q _ _ hG)
 case step=>
  rintro i ⟨r0,out,ia,ib,mg⟩ st' _ hi ⟨⟨g,rfl⟩,er,hj,hc⟩
  have hj:J a b out ia ib:=hj;have hc:i≤ia + ib:=hc;dsimp only
  refine bV (wpS_mono (uf (I:=fun j r st'=>st'=setG st g∧r.1=none∧J a b r.2.1 r.2.2.1 r.2.2.2.1∧j≤r.2.2.1 + r.2.2.2.1∧(j=0→ia + ib≤r.2.2.1 + r.2.2.2.1)∧(0 < j→ia + ib + 1≤r.2.2.1 + r.2.2.2.1))
   (Q:=fun r st'=>st'=setG st g∧((∃ x,r.1=some x∧cB a.toList b.toList x.toList)∨(r.1=none∧J a b r.2.1 r.2.2.1 r.2.2.2.1∧ia + ib + 1≤r.2.2.1 + r.2.2.2.1))) ?step1 ?fin1 ⟨rfl,rfl,hj,fE _,fun _=>cq _,fun z=>absurd z (Cr _)⟩) ?post1)
  case fin1=>
   rintro r st' ⟨_,_,hj',hi',_⟩
   have:=hj'.ha;have:=hj'.hb
   lia
  case step1=>
   rintro j r st' _ hj1 ⟨rfl,er1,hjr,hjc,hj0,hjp⟩
   refine FD (c:=max (j + 1) (ia + ib + 1)) (by exact hk) C hjr ?_ fun x hx=>?_
   ·rcases Nat.eq_zero_or_pos j with z | z
    ·have:=hj0 z; lia
    ·have:=hjp z; lia
   ·cases x with
    | done r'=>
     refine⟨rfl,?_⟩;rcases hx with hx | ⟨x1,x2,x3⟩
     ·exact .inl hx
     ·exact .inr ⟨x1,x2,by lia⟩
    | yield r'=>
     obtain⟨x1,x2,x3⟩:=hx;exact⟨rfl,x1,x2,by lia,fun z=>by lia,fun _=>by lia⟩
  case post1=>
   rintro⟨q0,out1,ia1,ib1,ac1,bc1⟩ st' ⟨rfl,h⟩
   rcases h with ⟨x,e,hG⟩ | ⟨e,hj1,hc1⟩
   ·have e:q0=some x:=e;subst e;exact cN ⟨⟨_,rfl⟩,x,rfl,hG⟩
   ·have e:q0=none:=e;subst e;have hj1:J a b out1 ia1 ib1:=hj1;have hc1:ia + ib + 1≤ia1 + ib1:=hc1;dsimp only;refine bV (wpS_lift (tR ⟨rfl,?_⟩))
    refine bV (wpS_mono (uf (I:=fun j r st'=>(∃ g,st'=setG st g)∧r.1=none∧J a b r.2.1 r.2.2.1 r.2.2.2.1∧j≤r.2.2.1 + r.2.2.2.1∧ia + ib + 1≤r.2.2.1 + r.2.2.2.1)
     (Q:=fun r st'=>(∃ g,st'=setG st g)∧((∃ x,r.1=some x∧cB a.toList b.toList x.toList)∨(r.1=none∧J a b r.2.1 r.2.2.1 r.2.2.2.1∧ia + ib + 1≤r.2.2.1 + r.2.2.2.1))) ?step2 ?fin2 ⟨⟨_,rfl⟩,rfl,hj1,fE _,hc1⟩) ?post2)
    case fin2=>
     rintro r st' ⟨_,_,hj',hi',_⟩
     have:=hj'.ha;have:=hj'.hb
     lia
    case step2=>
     rintro j ⟨p0,out2,ia2,ib2,mg2,ac2,bc2⟩ st' _ hj2 ⟨⟨g2,rfl⟩,er2,hjr,hjc,hjb⟩
     have hjr:J a b out2 ia2 ib2:=hjr;have hjc:j≤ia2 + ib2:=hjc;have hjb:ia + ib + 1≤ia2 + ib2:=hjb;have go:∀ (m:Nat) (QQ:ForInStep zW→SortSt→Prop),(∀ r g,GP a b (max (j + 1) (ia + ib + 1)) r→QQ r (setG st g))→wpS (model prog w) A E s (gE m >>= fun _=>lo1 a b out2 ia2 ib2 m ac2 bc2) QQ (setG st g2):=fun m QQ hQ=>by
      rw[ku];refine bV (wpS_modify ?_);exact Ff (by exact hk) C hjr (by lia) fun x hx=>hQ x m hx
     have fin:∀ (x:ForInStep zW) (g:Nat),GP a b (max (j + 1) (ia + ib + 1)) x→(match x with | .done c'=>(∃ g',setG st g=setG st g')∧((∃ x,c'.1=some x∧cB a.toList b.toList x.toList)∨(c'.1=none∧J a b c'.2.1 c'.2.2.1 c'.2.2.2.1∧ia + ib + 1≤c'.2.2.1 + c'.2.2.2.1)) | .yield c'=>(∃ g',setG st g=setG st g')∧c'.1=none∧J a b c'.2.1 c'.2.2.1 c'.2.2.2.1∧j + 1≤c'.2.2.1 + c'.2.2.2.1∧ia + ib + 1≤c'.2.2.1 + c'.2.2.2.1):=fun x m hx=>by
      cases x with
      | done r'=>
       refine⟨⟨m,rfl⟩,?_⟩;rcases hx with hx | ⟨x1,x2,x3⟩
       ·exact .inl hx
       ·exact .inr ⟨x1,x2,by lia⟩
      | yield r'=>
       obtain⟨x1,x2,x3⟩:=hx;exact⟨⟨m,rfl⟩,x1,x2,by lia,by lia⟩
     unfold Jo;dsimp only;by_cases hm:mg2 > 1
     ·rw[if_pos hm];refine go _ _ fun x m hx=>?_
      have:=fin x m hx;cases x <;> exact this
     ·rw[if_neg hm];refine go _ _ fun x m hx=>?_
      have:=fin x m hx;cases x <;> exact this
    case post2=>
     rintro⟨q2,out2,ia2,ib2,mg2,ac2,bc2⟩ st' ⟨⟨g2,rfl⟩,h⟩
     rcases h with ⟨x,e,hG⟩ | ⟨e,hj2,hc2⟩
     ·have e:q2=some x:=e;subst e;exact cN ⟨⟨_,rfl⟩,x,rfl,hG⟩
     ·have e:q2=none:=e;subst e;have hj2:J a b out2 ia2 ib2:=hj2;have hc2:ia + ib + 1≤ia2 + ib2:=hc2;dsimp only;rw[ku];refine bV (wpS_modify (cN ⟨⟨_,rfl⟩,rfl,hj2,?_⟩));show i + 1≤ia2 + ib2
      lia
end
noncomputable def ng:Array Keyed→Array Keyed→SM (Array Keyed):=sortPriv% PySem.Builtin.mergeHi
abbrev zU:Type:=Option (Array Keyed) × Nat × Nat × Array Keyed × Nat × Nat × Nat
abbrev Ge:Type:=Option (Array Keyed) × Nat × Nat × Array Keyed × Nat × Nat
section
variable (a b:Array Keyed)
noncomputable abbrev kq(out:Array Keyed)(na nb:Nat):Array Keyed:=a.extract 0 na++b.extract 0 nb++out.reverse
noncomputable abbrev jY(out:Array Keyed)(na nb:Nat):Array Keyed:=b.extract 0 nb++a.extract 0 na++out.reverse
noncomputable def Ik(out:Array Keyed)(na nb mg ac bc:Nat):SM (ForInStep zU):=do
 let ea ← elem' a (na - 1)
 if (na - 1 == 0)=true then pure (ForInStep.done (some (kq a b (out.push ea) (na - 1) nb),na - 1,nb,out.push ea,mg,ac,bc))
 else if (decide (ac < 7) && decide (bc < 7))=true then pure (ForInStep.done (none,na - 1,nb,out.push ea,mg,ac,bc))
 else pure (ForInStep.yield (none,na - 1,nb,out.push ea,mg,ac,bc))
noncomputable def JB(out:Array Keyed)(na nb mg ac bc:Nat):SM (ForInStep zU):=do
 let ea ← elem' a (na - 1)
 let some t ← fR true ea b 0 nb (nb - 1) | pure (ForInStep.done (some (kq a b out na nb),na,nb,out,mg,ac,bc))
 if nb - t > 0 then
  if (t == 1)=true then pure (ForInStep.done (some (jY a b (out++(b.extract t nb).reverse) na t),na,t,out++(b.extract t nb).reverse,mg,ac,nb - t))
  else if (t == 0)=true then pure (ForInStep.done (some (kq a b (out++(b.extract t nb).reverse) na t),na,t,out++(b.extract t nb).reverse,mg,ac,nb - t))
  else Ik a b (out++(b.extract t nb).reverse) na t mg ac (nb - t)
 else Ik a b out na nb mg ac (nb - t)
noncomputable def Gm(out:Array Keyed)(na nb mg ac bc:Nat):SM (ForInStep zU):=do
 let eb ← elem' b (nb - 1)
 if (nb - 1 == 1)=true then pure (ForInStep.done (some (jY a b (out.push eb) na (nb - 1)),na,nb - 1,out.push eb,mg,ac,bc))
 else JB a b (out.push eb) na (nb - 1) mg ac bc
noncomputable def Ig(out:Array Keyed)(na nb mg ac bc:Nat):SM (ForInStep zU):=do
 let eb ← elem' b (nb - 1)
 let some t ← fR false eb a 0 na (na - 1) | pure (ForInStep.done (some (kq a b out na nb),na,nb,out,mg,ac,bc))
 if na - t > 0 then
  if (t == 0)=true then pure (ForInStep.done (some (kq a b (out++(a.extract t na).reverse) t nb),t,nb,out++(a.extract t na).reverse,mg,na - t,bc))
  else Gm a b (out++(a.extract t na).reverse) t nb mg (na - t) bc
 else Gm a b out na nb mg (na - t) bc
noncomputable def Jm(r:zU):SM (ForInStep zU):=
 if r.2.2.2.2.1 > 1 then do
  gE (r.2.2.2.2.1 - 1)
  Ig a b r.2.2.2.1 r.2.1 r.2.2.1 (r.2.2.2.2.1 - 1) r.2.2.2.2.2.1 r.2.2.2.2.2.2
 else do
  gE r.2.2.2.2.1
  Ig a b r.2.2.2.1 r.2.1 r.2.2.1 r.2.2.2.2.1 r.2.2.2.2.2.1 r.2.2.2.2.2.2
noncomputable def F3(mg:Nat)(r:Ge):SM (ForInStep Ge):=do
 let eb ← elem' b (r.2.2.1 - 1)
 let ea ← elem' a (r.2.1 - 1)
 let some wins ← lt' eb ea | pure (ForInStep.done (some (kq a b r.2.2.2.1 r.2.1 r.2.2.1),r.2.1,r.2.2.1,r.2.2.2.1,r.2.2.2.2.1,r.2.2.2.2.2))
 if wins=true then do
  let ea ← elem' a (r.2.1 - 1)
  if (r.2.1 - 1 == 0)=true then pure (ForInStep.done (some (kq a b (r.2.2.2.1.push ea) (r.2.1 - 1) r.2.2.1),r.2.1 - 1,r.2.2.1,r.2.2.2.1.push ea,r.2.2.2.2.1 + 1,0))
  else if r.2.2.2.2.1 + 1 ≥ mg then pure (ForInStep.done (none,r.2.1 - 1,r.2.2.1,r.2.2.2.1.push ea,r.2.2.2.2.1 + 1,0))
  else pure (ForInStep.yield (none,r.2.1 - 1,r.2.2.1,r.2.2.2.1.push ea,r.2.2.2.2.1 + 1,0))
 else do
  let eb ← elem' b (r.2.2.1 - 1)
  if (r.2.2.1 - 1 == 1)=true then pure (ForInStep.done (some (jY a b (r.2.2.2.1.push eb) r.2.1 (r.2.2.1 - 1)),r.2.1,r.2.2.1 - 1,r.2.2.2.1.push eb,0,r.2.2.2.2.2 + 1))
  else if r.2.2.2.2.2 + 1 ≥ mg then pure (ForInStep.done (none,r.2.1,r.2.2.1 - 1,r.2.2.2.1.push eb,0,r.2.2.2.2.2 + 1))
  else pure (ForInStep.yield (none,r.2.1,r.2.2.1 - 1,r.2.2.2.1.push eb,0,r.2.2.2.2.2 + 1))
end
theorem wg(a b:Array Keyed):ng a b=(do
  liftM (rule "list.sort.merge-hi")
  let e0 ← elem' a (a.size - 1)
  if (a.size - 1 == 0)=true then pure (kq a b #[e0] (a.size - 1) b.size)
  else if (b.size == 1)=true then pure (jY a b #[e0] (a.size - 1) b.size)
  else do
   let g ← get
   let r ← forIn [:a.size + b.size] ((none:Option (Array Keyed)),a.size - 1,b.size,#[e0],gallopOf g) fun _ r=>do
    let r1 ← forIn [:a.size + b.size] ((none:Option (Array Keyed)),r.2.1,r.2.2.1,r.2.2.2.1,0,0) fun _ r1=>F3 a b r.2.2.2.2 r1
    match r1.1 with
    | some x=>pure (ForInStep.done (some x,r1.2.1,r1.2.2.1,r1.2.2.2.1,r.2.2.2.2))
    | none=>do
     liftM (rule "list.sort.gallop")
     let r2 ← forIn [:a.size + b.size] ((none:Option (Array Keyed)),r1.2.1,r1.2.2.1,r1.2.2.2.1,r.2.2.2.2 + 1,r1.2.2.2.2.1,r1.2.2.2.2.2) fun _ r2=>Jm a b r2
     match r2.1 with
     | some x=>pure (ForInStep.done (some x,r2.2.1,r2.2.2.1,r2.2.2.2.1,r2.2.2.2.2.1))
     | none=>do
      gE (r2.2.2.2.2.1 + 1)
      pure (ForInStep.yield (none,r2.2.1,r2.2.2.1,r2.2.2.2.1,r2.2.2.2.2.1 + 1))
   match r.1 with
   | some x=>pure x
   | none=>unsupported "internal:list.sort.merge-bound"):=by kernel_rfl
structure JH (a b out:Array Keyed) (na nb:Nat):Prop where
 mh:MH a.toList b.toList out.reverse.toList na nb
 ha:1≤na
 hb:2≤nb
def HP(a b:Array Keyed)(c:Nat):ForInStep zU→Prop
 | .done r=>(∃ x,r.1=some x∧cB a.toList b.toList x.toList)∨(r.1=none∧JH a b r.2.2.2.1 r.2.1 r.2.2.1∧r.2.1 + r.2.2.1≤c)
 | .yield r=>r.1=none∧JH a b r.2.2.2.1 r.2.1 r.2.2.1∧r.2.1 + r.2.2.1≤c
def JY(a b:Array Keyed)(c:Nat):ForInStep Ge→Prop
 | .done r=>(∃ x,r.1=some x∧cB a.toList b.toList x.toList)∨(r.1=none∧JH a b r.2.2.2.1 r.2.1 r.2.2.1∧r.2.1 + r.2.2.1≤c)
 | .yield r=>r.1=none∧JH a b r.2.2.2.1 r.2.1 r.2.2.1∧r.2.1 + r.2.2.1≤c
theorem nB(a:Array Keyed)(i:Nat):(a.extract 0 i).toList=a.toList.take i:=by
 rw[Array.toList_extract];show (a.toList.drop 0).take (i - 0)=_;rw[List.drop_zero,Nat.sub_zero]
section
variable {b out:Array Keyed}{mg:Nat}
theorem j9(h:cB a.toList b.toList (a.toList.take na++b.toList.take nb++out.reverse.toList)):cB a.toList b.toList (kq a b out na nb).toList:=by
 rw[yX,yX,nB,nB]; exact h
theorem MC.first(C:MC a b)(h:MH a.toList b.toList out.reverse.toList na 1):cB a.toList b.toList (jY a b out na 1).toList:=by
 rw[yX,yX,nB,nB];refine h.first C.sa C.sb fun q hq p hp=>?_
 have hb:0 < b.size:=by have:=h.lb; rw[jP]at this; lia
 rw[take_snoc (i:=0) (aI hb).2,List.take_zero,List.nil_append,dU]at hq;rw[hq];exact C.hf _ (aI hb).2 p (List.mem_of_mem_take hp)
theorem MH.kj(h:MH xs ys (p::out.reverse.toList) na nb):MH xs ys (out.push p).reverse.toList na nb:=by
 rw[Array.reverse_push,yX]; exact h
theorem MH.many1{l:Array Keyed}(h:MH xs ys (l.toList++out.reverse.toList) na nb):MH xs ys (out++l.reverse).reverse.toList na nb:=by
 rw[Array.reverse_append,Array.reverse_reverse,yX]; exact h
theorem BA{xs:Array Keyed}(h:So xs.toList)(hij:i≤j)(hj:j < xs.size):Le (xs[i]'(by lia)) xs[j]:=by
 have hi:i < xs.size:=by lia
 rcases Nat.eq_or_lt_of_le hij with e | e
 ·subst e; exact Int.le_refl _
 ·refine h.head (aI hi).2 _ ?_;exact gh (i:=j - i - 1) (by rw[List.getElem?_drop,show i + 1 + (j - i - 1)=j by lia]; exact (aI hj).2)
theorem BP{Q:ForInStep zU→SortSt→Prop}(C:MC a b)(h:MH a.toList b.toList out.reverse.toList na nb)(ha:1≤na)(hb:2≤nb)(hla:na - 1 < a.size)(hle:∀ q∈b.toList.take nb,Le q a[na - 1])(hc:na + nb≤c + 1)
  (q:∀ r,HP a b c r→Q r st):wpS (model prog w) A E s (Ik a b out na nb mg ac bc) Q st:=by
 obtain⟨m,rfl⟩:∃ m,na=m + 1:=⟨na - 1,by lia⟩
 have hla:m < a.size:=hla;have h1:=(MH.jU h C.sa (aI hla).2 hle).kj;refine bV (bF (aI hla).1 ?_);by_cases e:m=0
 ·rw[if_pos (by simpa using e)];exact cN (q _ (.inl ⟨_,rfl,j9 (h1.m6 C.sb e)⟩))
 ·rw[if_neg (by simpa using e)];have hj:JH a b (out.push a[m]) m nb:=⟨h1,by lia,hb⟩
  by_cases e2:(decide (ac < 7) && decide (bc < 7))=true
  ·rw[if_pos e2];exact cN (q _ (.inr ⟨rfl,hj,by show m + nb≤c; lia⟩))
  ·rw[if_neg e2];exact cN (q _ ⟨rfl,hj,by show m + nb≤c; lia⟩)
theorem EY{Q:ForInStep zU→SortSt→Prop}(hk:kindOf st=oneType')(C:MC a b)(h:MH a.toList b.toList out.reverse.toList na nb)(ha:1≤na)(hb:2≤nb)(hc:na + nb≤c + 1)
  (q:∀ r,HP a b c r→Q r st):wpS (model prog w) A E s (JB a b out na nb mg ac bc) Q st:=by
 have la:=h.la;have lb:=h.lb;rw[jP]at la lb;have hi:na - 1 < a.size:=by lia
 have G:r8 true a[na - 1] b 0 nb (fun i=>if hi:i < b.size then decide (nk b[i] < nk a[na - 1]) else false):=by
  refine⟨C.ka _ (eE hi),fun i hn=>?_,fun i j hij hj hB=>?_⟩
  ·have hx:i < b.size:=by lia
   exact⟨b[i],by rw[Nat.zero_add]; exact (aI hx).1,C.kb _ (eE hx),by rw[dif_pos hx]; rfl⟩
  ·have hx:j < b.size:=by lia
   have hy:i < b.size:=by lia
   rw[dif_pos hx]at hB;rw[dif_pos hy];have hB:=pH hB;have:=BA C.sb hij hx;unfold Le at this;exact ff (by lia)
 refine bV (bF (aI hi).1 ?_);refine bV (eF hk G (by lia) fun t k1 k2 k3=>?_);dsimp only;have hle:∀ q∈b.toList.take t,Le q a[na - 1]:=fun q hq=>by
  obtain⟨j,ej⟩:=Fw.mp hq;have hj:j < t:=by have:=(eQ.mp ej).1; rw[qy]at this; lia
  rw[List.getElem?_take,if_pos hj]at ej;have hx:j < b.size:=by lia
  rw[(aI hx).2]at ej;cases ej;have:=k2 j hj;rw[dif_pos hx]at this;exact Aj (pH this)
 have h1:MH a.toList b.toList ((b.toList.drop t).take (nb - t)++out.reverse.toList) na t:=by
  refine MH.Bg C.sb (nb - t) (by rw[show t + (nb - t)=nb by lia]; exact h) fun i p a1 a2 ep=>?_
  have hx:i < b.size:=by lia
  rw[(aI hx).2]at ep;cases ep;have:=k3 i a1 (by lia);rw[dif_pos hx]at this;have this:=of_decide_eq_false this;obtain⟨m,rfl⟩:∃ m,na=m + 1:=⟨na - 1,by lia⟩
  refine C.sa.Dr (aI (show m < a.size from hi)).2 ?_;unfold Le;have this:¬ nk b[i] < nk a[m]:=this
  lia
 by_cases hk0:nb - t > 0
 ·rw[if_pos hk0];have h2:MH a.toList b.toList (out++(b.extract t nb).reverse).reverse.toList na t:=by
   refine MH.many1 ?_;have:=mM b t (nb - t);rw[show t + (nb - t)=nb by lia]at this;rw[this];exact h1
  by_cases e:t=1
  ·rw[if_pos (by simpa using e)];subst e;exact cN (q _ (.inl ⟨_,rfl,C.first h2⟩))
  ·rw[if_neg (by simpa using e)];by_cases e0:t=0
   ·rw[if_pos (by simpa using e0)];exact cN (q _ (.inl ⟨_,rfl,j9 (h2.nF C.sa e0)⟩))
   ·rw[if_neg (by simpa using e0)];exact BP C h2 ha (by lia) hi hle (by lia) q
 ·rw[if_neg hk0];have e:t=nb:=by lia
  subst e;exact BP C h ha hb hi hle hc q
theorem B3{Q:ForInStep zU→SortSt→Prop}(hk:kindOf st=oneType')(C:MC a b)(h:MH a.toList b.toList out.reverse.toList na nb)(ha:1≤na)(hb:2≤nb)(hlb:nb - 1 < b.size)(hle:∀ q∈a.toList.take na,Le q b[nb - 1])(hc:na + nb≤c + 1)
  (q:∀ r,HP a b c r→Q r st):wpS (model prog w) A E s (Gm a b out na nb mg ac bc) Q st:=by
 obtain⟨m,rfl⟩:∃ m,nb=m + 1:=⟨nb - 1,by lia⟩
 have hlb:m < b.size:=hlb;have h1:=(MH.ny h C.sb (aI hlb).2 hle).kj;refine bV (bF (aI hlb).1 ?_);by_cases e:m=1
 ·rw[if_pos (by simpa using e)];subst e;exact cN (q _ (.inl ⟨_,rfl,C.first h1⟩))
 ·rw[if_neg (by simpa using e)];exact EY hk C h1 ha (show 2≤m by lia) (show na + m≤c + 1 by lia) q
theorem Fq{Q:ForInStep zU→SortSt→Prop}(hk:kindOf st=oneType')(C:MC a b)(h:JH a b out na nb)(hc:na + nb≤c + 1)
  (q:∀ r,HP a b c r→Q r st):wpS (model prog w) A E s (Ig a b out na nb mg ac bc) Q st:=by
 obtain⟨h,ha,hb⟩:=h;have la:=h.la;have lb:=h.lb;rw[jP]at la lb;have hi:nb - 1 < b.size:=by lia
 have G:r8 false b[nb - 1] a 0 na (fun i=>if hi:i < a.size then !decide (nk b[nb - 1] < nk a[i]) else false):=by
  refine⟨C.kb _ (eE hi),fun i hn=>?_,fun i j hij hj hB=>?_⟩
  ·have hx:i < a.size:=by lia
   exact⟨a[i],by rw[Nat.zero_add]; exact (aI hx).1,C.ka _ (eE hx),by rw[dif_pos hx]; rfl⟩
  ·have hx:j < a.size:=by lia
   have hy:i < a.size:=by lia
   rw[dif_pos hx]at hB;rw[dif_pos hy];have hB:¬ nk b[nb - 1] < nk a[j]:=by simpa using hB
   have:=BA C.sa hij hx;unfold Le at this;have:¬ nk b[nb - 1] < nk a[i]:=by lia
   simpa using this
 refine bV (bF (aI hi).1 ?_);refine bV (eF hk G (by lia) fun t k1 k2 k3=>?_);dsimp only;have hle:∀ q∈a.toList.take t,Le q b[nb - 1]:=fun q hq=>by
  obtain⟨j,ej⟩:=Fw.mp hq;have hj:j < t:=by have:=(eQ.mp ej).1; rw[qy]at this; lia
  rw[List.getElem?_take,if_pos hj]at ej;have hx:j < a.size:=by lia
  rw[(aI hx).2]at ej;cases ej;have:=k2 j hj;rw[dif_pos hx]at this;have this:¬ nk b[nb - 1] < nk a[j]:=by simpa using this
  unfold Le
  lia
 have h1:MH a.toList b.toList ((a.toList.drop t).take (na - t)++out.reverse.toList) t nb:=by
  refine MH.nK C.sa (na - t) (by rw[show t + (na - t)=na by lia]; exact h) fun i p a1 a2 ep=>?_
  have hx:i < a.size:=by lia
  rw[(aI hx).2]at ep;cases ep;have:=k3 i a1 (by lia);rw[dif_pos hx]at this;have this:nk b[nb - 1] < nk a[i]:=by simpa using this
  obtain⟨m,rfl⟩:∃ m,nb=m + 1:=⟨nb - 1,by lia⟩
  refine C.sb.Dr (aI (show m < b.size from hi)).2 ?_;unfold Le;have this:nk b[m] < nk a[i]:=this
  lia
 by_cases hk0:na - t > 0
 ·rw[if_pos hk0];have h2:MH a.toList b.toList (out++(a.extract t na).reverse).reverse.toList t nb:=by
   refine MH.many1 ?_;have:=mM a t (na - t);rw[show t + (na - t)=na by lia]at this;rw[this];exact h1
  by_cases e0:t=0
  ·rw[if_pos (by simpa using e0)];exact cN (q _ (.inl ⟨_,rfl,j9 (h2.m6 C.sb e0)⟩))
  ·rw[if_neg (by simpa using e0)];exact B3 hk C h2 (by lia) hb hi hle (by lia) q
 ·rw[if_neg hk0];have e:t=na:=by lia
  subst e;exact B3 hk C h ha hb hi hle hc q
theorem Fo{Q:ForInStep Ge→SortSt→Prop}(hk:kindOf st=oneType')(C:MC a b){r:Ge}(h:JH a b r.2.2.2.1 r.2.1 r.2.2.1)(hc:r.2.1 + r.2.2.1≤c + 1)
  (q:∀ x,JY a b c x→Q x st):wpS (model prog w) A E s (F3 a b mg r) Q st:=by
 obtain⟨r0,na,nb,out,ac,bc⟩:=r;obtain⟨h,ha,hb⟩:=h;have h:MH a.toList b.toList out.reverse.toList na nb:=h;have ha:1≤na:=ha;have hb:2≤nb:=hb;have hc:na + nb≤c + 1:=hc;have la:=h.la;have lb:=h.lb;rw[jP]at la lb;obtain⟨i,rfl⟩:∃ i,na=i + 1:=⟨na - 1,by lia⟩
 obtain⟨j,rfl⟩:∃ j,nb=j + 1:=⟨nb - 1,by lia⟩
 have hi:i < a.size:=by lia
 have hj:j < b.size:=by lia
 unfold F3;dsimp only;simp only[Nat.add_sub_cancel];refine bV (bF (aI hj).1 (bV (bF (aI hi).1 (bV (rW hk (C.kb _ (eE hj)) (C.ka _ (eE hi)) ?_)))));dsimp only;by_cases hw:nk b[j] < nk a[i]
 ·rw[if_pos (ff hw)];have h1:=(MH.jU h C.sa (aI hi).2 (C.sb.Dr (aI hj).2 (Aj hw))).kj;refine bV (bF (aI hi).1 ?_);by_cases e:i=0
  ·rw[if_pos (by simpa using e)];exact cN (q _ (.inl ⟨_,rfl,j9 (h1.m6 C.sb e)⟩))
  ·rw[if_neg (by simpa using e)];have hjj:JH a b (out.push a[i]) i (j + 1):=⟨h1,by lia,hb⟩
   by_cases e2:ac + 1 ≥ mg
   ·rw[if_pos e2];exact cN (q _ (.inr ⟨rfl,hjj,by show i + (j + 1)≤c; lia⟩))
   ·rw[if_neg e2];exact cN (q _ ⟨rfl,hjj,by show i + (j + 1)≤c; lia⟩)
 ·rw[if_neg (by simpa using hw)];have h1:=(MH.ny h C.sb (aI hj).2 (C.sa.Dr (aI hi).2 (by unfold Le; lia))).kj;refine bV (bF (aI hj).1 ?_);by_cases e:j=1
  ·rw[if_pos (by simpa using e)];subst e;exact cN (q _ (.inl ⟨_,rfl,C.first h1⟩))
  ·rw[if_neg (by simpa using e)];have hjj:JH a b (out.push b[j]) (i + 1) j:=⟨h1,by lia,by lia⟩
   by_cases e2:bc + 1 ≥ mg
   ·rw[if_pos e2];exact cN (q _ (.inr ⟨rfl,hjj,by show i + 1 + j≤c; lia⟩))
   ·rw[if_neg e2];exact cN (q _ ⟨rfl,hjj,by show i + 1 + j≤c; lia⟩)
end
section
variable {b:Array Keyed}
theorem tO{Q:Array Keyed→SortSt→Prop}(hk:kindOf st=oneType')(C:MC a b)(ha:0 < a.size)(hb:0 < b.size)(q:∀ r g,cB a.toList b.toList r.toList→Q r (setG st g)):wpS (model prog w) A E s (ng a b) Q st:=by
 rw[wg];have eg:st=setG st (gallopOf st):=rfl;have la:=jP (xs:=a);have lb:=jP (xs:=b);have hz0:a.size - 1 < a.size:=by lia
 have h0:MH a.toList b.toList (#[a[a.size - 1]]:Array Keyed).reverse.toList (a.size - 1) b.size:=by
  have h1:MH a.toList b.toList [] (a.size - 1 + 1) b.size:=by
   have:=MH.nil (xs:=a.toList) (ys:=b.toList);rw[la,lb]at this;rw[show a.size - 1 + 1=a.size by lia];exact this
  exact h1.jU C.sa (aI hz0).2 fun q hq=>C.hl q (List.mem_of_mem_take hq) _ (aI hz0).2
 refine bV (wpS_lift (tR ⟨rfl,?_⟩));refine bV (bF (aI hz0).1 ?_);by_cases e1:a.size - 1=0
 ·rw[if_pos (by simpa using e1),eg];exact cN (q _ _ (j9 (h0.m6 C.sb e1)))
 rw[if_neg (by simpa using e1)];by_cases e2:b.size=1
 ·rw[if_pos (by simpa using e2),eg];rw[e2]at h0 ⊢;exact cN (q _ _ (C.first h0))
 rw[if_neg (by simpa using e2)];refine bV (wpS_get ?_)
 refine bV (wpS_mono (uf (I:=fun i r st'=>(∃ g,st'=setG st g)∧r.1=none∧JH a b r.2.2.2.1 r.2.1 r.2.2.1∧i + (r.2.1 + r.2.2.1)≤a.size + b.size)
  (Q:=fun r st'=>(∃ g,st'=setG st g)∧∃ x,r.1=some x∧cB a.toList b.toList x.toList) ?step ?fin ⟨⟨_,eg⟩,rfl,⟨h0,by show 1≤a.size - 1; lia,by show 2≤b.size; lia⟩,by show 0 + (a.size - 1 + b.size)≤a.size + b.size; lia⟩) ?post)
 case fin=>
  rintro r st' ⟨_,_,hj,hi⟩
  have:=hj.ha;have:=hj.hb
  lia
 case post=>
  rintro⟨r0,r⟩ st' ⟨⟨g,rfl⟩,x,e,hG⟩
  have e:r0=some x:=e;subst e;exact cN (q _ _ hG)
 case step=>
  rintro i ⟨r0,ia,ib,out,mg⟩ st' _ hi ⟨⟨g,rfl⟩,er,hj,hc⟩
  have hj:JH a b out ia ib:=hj;have hc:i + (ia + ib)≤a.size + b.size:=hc;have hx3:1≤ia:=hj.ha;have hx4:2≤ib:=hj.hb;have hx1:=hj.mh.la;have hx2:=hj.mh.lb;rw[la]at hx1;rw[lb]at hx2;dsimp only
  refine bV (wpS_mono (uf (I:=fun j r st'=>st'=setG st g∧r.1=none∧JH a b r.2.2.2.1 r.2.1 r.2.2.1∧j + (r.2.1 + r.2.2.1)≤a.size + b.size∧(j=0→r.2.1 + r.2.2.1≤ia + ib)∧(0 < j→r.2.1 + r.2.2.1 + 1≤ia + ib))
   (Q:=fun r st'=>st'=setG st g∧((∃ x,r.1=some x∧cB a.toList b.toList x.toList)∨(r.1=none∧JH a b r.2.2.2.1 r.2.1 r.2.2.1∧r.2.1 + r.2.2.1 + 1≤ia + ib))) ?step1 ?fin1 ⟨rfl,rfl,hj,by show 0 + (ia + ib)≤_; lia,fun _=>cq _,fun z=>absurd z (Cr _)⟩) ?post1)
  case fin1=>
   rintro r st' ⟨_,_,hj',hi',_⟩
   have:=hj'.ha;have:=hj'.hb
   lia
  case step1=>
   rintro j r st' _ hj1 ⟨rfl,er1,hjr,hjc,hj0,hjp⟩
   refine Fo (c:=min (a.size + b.size - (j + 1)) (ia + ib - 1)) (by exact hk) C hjr ?_ fun x hx=>?_
   ·rcases Nat.eq_zero_or_pos j with z | z
    ·have:=hj0 z; lia
    ·have:=hjp z; lia
   ·cases x with
    | done r'=>
     refine⟨rfl,?_⟩;rcases hx with hx | ⟨x1,x2,x3⟩
     ·exact .inl hx
     ·exact .inr ⟨x1,x2,by lia⟩
    | yield r'=>
     obtain⟨x1,x2,x3⟩:=hx;exact⟨rfl,x1,x2,by lia,fun z=>by lia,fun _=>by lia⟩
  case post1=>
   rintro⟨q0,ia1,ib1,out1,ac1,bc1⟩ st' ⟨rfl,h⟩
   rcases h with ⟨x,e,hG⟩ | ⟨e,hj1,hc1⟩
   ·have e:q0=some x:=e;subst e;exact cN ⟨⟨_,rfl⟩,x,rfl,hG⟩
   ·have e:q0=none:=e;subst e;have hj1:JH a b out1 ia1 ib1:=hj1;have hc1:ia1 + ib1 + 1≤ia + ib:=hc1;dsimp only;refine bV (wpS_lift (tR ⟨rfl,?_⟩))
    refine bV (wpS_mono (uf (I:=fun j r st'=>(∃ g,st'=setG st g)∧r.1=none∧JH a b r.2.2.2.1 r.2.1 r.2.2.1∧j + (r.2.1 + r.2.2.1)≤a.size + b.size∧r.2.1 + r.2.2.1 + 1≤ia + ib)
     (Q:=fun r st'=>(∃ g,st'=setG st g)∧((∃ x,r.1=some x∧cB a.toList b.toList x.toList)∨(r.1=none∧JH a b r.2.2.2.1 r.2.1 r.2.2.1∧r.2.1 + r.2.2.1 + 1≤ia + ib))) ?step2 ?fin2 ⟨⟨_,rfl⟩,rfl,hj1,by show 0 + (ia1 + ib1)≤_; lia,hc1⟩) ?post2)
    case fin2=>
     rintro r st' ⟨_,_,hj',hi',_⟩
     have:=hj'.ha;have:=hj'.hb
     lia
    case step2=>
     rintro j ⟨p0,ia2,ib2,out2,mg2,ac2,bc2⟩ st' _ hj2 ⟨⟨g2,rfl⟩,er2,hjr,hjc,hjb⟩
     have hjr:JH a b out2 ia2 ib2:=hjr;have hjc:j + (ia2 + ib2)≤a.size + b.size:=hjc;have hjb:ia2 + ib2 + 1≤ia + ib:=hjb;have go:∀ (m:Nat) (QQ:ForInStep zU→SortSt→Prop),(∀ r g,HP a b (min (a.size + b.size - (j + 1)) (ia + ib - 1)) r→QQ r (setG st g))→wpS (model prog w) A E s (gE m >>= fun _=>Ig a b out2 ia2 ib2 m ac2 bc2) QQ (setG st g2):=fun m QQ hQ=>by
      rw[ku];refine bV (wpS_modify ?_);exact Fq (by exact hk) C hjr (by lia) fun x hx=>hQ x m hx
     have fin:∀ (x:ForInStep zU) (g:Nat),HP a b (min (a.size + b.size - (j + 1)) (ia + ib - 1)) x→(match x with | .done c'=>(∃ g',setG st g=setG st g')∧((∃ x,c'.1=some x∧cB a.toList b.toList x.toList)∨(c'.1=none∧JH a b c'.2.2.2.1 c'.2.1 c'.2.2.1∧c'.2.1 + c'.2.2.1 + 1≤ia + ib)) | .yield c'=>(∃ g',setG st g=setG st g')∧c'.1=none∧JH a b c'.2.2.2.1 c'.2.1 c'.2.2.1∧j + 1 + (c'.2.1 + c'.2.2.1)≤a.size + b.size∧c'.2.1 + c'.2.2.1 + 1≤ia + ib):=fun x m hx=>by
      cases x with
      | done r'=>
       refine⟨⟨m,rfl⟩,?_⟩;rcases hx with hx | ⟨x1,x2,x3⟩
       ·exact .inl hx
       ·exact .inr ⟨x1,x2,by lia⟩
      | yield r'=>
       obtain⟨x1,x2,x3⟩:=hx;exact⟨⟨m,rfl⟩,x1,x2,by lia,by lia⟩
     unfold Jm;dsimp only;by_cases hm:mg2 > 1
     ·rw[if_pos hm];refine go _ _ fun x m hx=>?_
      have:=fin x m hx;cases x <;> exact this
     ·rw[if_neg hm];refine go _ _ fun x m hx=>?_
      have:=fin x m hx;cases x <;> exact this
    case post2=>
     rintro⟨q2,ia2,ib2,out2,mg2,ac2,bc2⟩ st' ⟨⟨g2,rfl⟩,h⟩
     rcases h with ⟨x,e,hG⟩ | ⟨e,hj2,hc2⟩
     ·have e:q2=some x:=e;subst e;exact cN ⟨⟨_,rfl⟩,x,rfl,hG⟩
     ·have e:q2=none:=e;subst e;have hj2:JH a b out2 ia2 ib2:=hj2;have hc2:ia2 + ib2 + 1≤ia + ib:=hc2;dsimp only;rw[ku];refine bV (wpS_modify (cN ⟨⟨_,rfl⟩,rfl,hj2,?_⟩));show i + 1 + (ia2 + ib2)≤a.size + b.size
      lia
end
def Seg(xs:Array Keyed)(lo n:Nat):Prop:=∀ i j,lo≤i→i≤j→j < lo + n→K xs i≤K xs j
def Dec(xs:Array Keyed)(lo n:Nat):Prop:=∀ i j,lo≤i→i≤j→j < lo + n→K xs j≤K xs i
structure SB (a₀:Array Keyed) (P:Array (Nat × Nat × Nat)) (xs:Array Keyed) (lo:Nat) (st:SortSt):Prop where
 perm:(arrOf st).Perm a₀
 kind:kindOf st=oneType'
 failed:failedOf st=none
 pend:pendingOf st=P
 low:∀ i,i < lo→K (arrOf st) i=K xs i
section
variable {xs:Array Keyed}
theorem SB.size(h:SB a₀ P xs lo st):(arrOf st).size=a₀.size:=h.perm.size_eq
theorem SB.set(h:SB a₀ P xs lo st){ys:Array Keyed}(hp:ys.Perm (arrOf st))(hl:∀ i,i < lo→K ys i=K (arrOf st) i):SB a₀ P xs lo (setArr st ys):=
 ⟨hp.trans h.perm,h.kind,h.failed,h.pend,fun i hi=>(hl i hi).trans (h.low i hi)⟩
theorem SB.lt(h:SB a₀ P xs lo st)(h0:IntKeys a₀){Q:Option Bool→SortSt→Prop}(hi:i < a₀.size)(hj:j < a₀.size)
  (q:Q (some (decide (K (arrOf st) i < K (arrOf st) j))) st):wpS (model prog w) A E s (ltAt' i j) Q st:=by
 have B:SBase a₀ (setPending st #[]):=⟨h.perm,h.kind,h.failed,rfl⟩
 obtain⟨t,p,e1⟩:=B.at h0 hi;obtain⟨u,q',e2⟩:=B.at h0 hj;exact wpS_ltAt h.kind e1 e2 q
theorem SB.HU(h:SB a₀ P xs lo st)(hi:lo≤i)(hj:j≤a₀.size):SB a₀ P xs lo (setArr st (mirror (arrOf st) i j ((j - i) / 2))):=
 h.set (mirror_perm _ _ _ _) fun k hk=>by rw[K_mirror (by rw[h.size]; exact hj),if_neg (by lia)]
theorem Seg.one:Seg xs lo 1:=fun i j h1 h2 h3=>by
 have:i=j:=by lia
 subst this; exact Int.le_refl _
theorem Seg.more(h:Seg xs lo n)(hn:1≤n)(hl:¬ K xs (lo + n) < K xs (lo + n - 1)):Seg xs lo (n + 1):=fun i j h1 h2 h3=>by
 by_cases hj:j < lo + n
 ·exact h i j h1 h2 hj
 ·have e:j=lo + n:=by lia
  subst e;by_cases hi:i=lo + n
  ·subst hi; exact Int.le_refl _
  ·exact Int.le_trans (h i (lo + n - 1) h1 (by lia) (by lia)) (Int.not_lt.mp hl)
theorem Dec.more(h:Dec xs lo n)(hn:1≤n)(hl:K xs (lo + n)≤K xs (lo + n - 1)):Dec xs lo (n + 1):=fun i j h1 h2 h3=>by
 by_cases hj:j < lo + n
 ·exact h i j h1 h2 hj
 ·have e:j=lo + n:=by lia
  subst e;by_cases hi:i=lo + n
  ·subst hi; exact Int.le_refl _
  ·exact Int.le_trans hl (h i (lo + n - 1) h1 (by lia) (by lia))
theorem Dec.same{ys:Array Keyed}(h:Dec xs lo n)(e:∀ k,K ys k=K xs k):Dec ys lo n:=fun i j h1 h2 h3=>by rw[e,e]; exact h i j h1 h2 h3
noncomputable def FA(lo a nrem:Nat):SM AscSt:=forIn [a:nrem] ((none,a):AscSt) fun _ r=>do
 let some x ← ltAt' (lo + r.2) (lo + r.2 - 1) | pure (ForInStep.done (some none,r.2))
 if x=true then pure (ForInStep.done (none,r.2)) else pure (ForInStep.yield (none,r.2 + 1))
noncomputable def By(lo n nrem:Nat):SM (Option Nat):=do
 reverseSlice' lo (lo + n)
 let r ← FA lo n nrem
 match r.1 with
 | some x=>pure x
 | none=>pure (some r.2)
noncomputable def Gi(lo n nrem:Nat):SM DescSt:=forIn [n:nrem] ((none,n,0):DescSt) fun _ r=>do
 let some x ← ltAt' (lo + r.2.1) (lo + r.2.1 - 1) | pure (ForInStep.done (some none,r.2.1,r.2.2))
 if x=true then
  if r.2.2 > 0 then do
   reverseSlice' (lo + r.2.1 - (r.2.2 + 1)) (lo + r.2.1)
   pure (ForInStep.yield (none,r.2.1 + 1,0))
  else pure (ForInStep.yield (none,r.2.1 + 1,0))
 else do
  let some y ← ltAt' (lo + r.2.1 - 1) (lo + r.2.1) | pure (ForInStep.done (some none,r.2.1,r.2.2))
  if y=true then pure (ForInStep.done (none,r.2.1,r.2.2)) else pure (ForInStep.yield (none,r.2.1 + 1,r.2.2 + 1))
noncomputable def E7(lo n nrem:Nat):SM (Option Nat):=do
 liftM (rule "list.sort.descending-run")
 let r ← Gi lo (n + 1) nrem
 match r.1 with
 | some x=>pure x
 | none=>
  if r.2.2 > 0 then do
   reverseSlice' (lo + r.2.1 - (r.2.2 + 1)) (lo + r.2.1)
   By lo r.2.1 nrem
  else By lo r.2.1 nrem
theorem uG(lo nrem:Nat):countRun' lo nrem=(do
  let r ← FA lo 1 nrem
  match r.1 with
  | some x=>pure x
  | none=>
   if (r.2 == nrem)=true then pure (some r.2)
   else if r.2 > 1 then do
    let some rose ← ltAt' lo (lo + r.2 - 1) | pure none
    if rose=true then pure (some r.2) else do
     reverseSlice' lo (lo + r.2)
     E7 lo r.2 nrem
   else E7 lo r.2 nrem):=by kernel_rfl
theorem yj{a:Nat}{Q:AscSt→SortSt→Prop}(h0:IntKeys a₀)(hn:lo + nrem≤a₀.size)(ha:1≤a)(han:a≤nrem)(hB:SB a₀ P xs lo st)(hs:Seg (arrOf st) lo a)
  (q:∀ n,a≤n→n≤nrem→Seg (arrOf st) lo n→(n=nrem∨K (arrOf st) (lo + n) < K (arrOf st) (lo + n - 1))→Q (none,n) st):wpS (model prog w) A E s (FA lo a nrem) Q st:=by
 refine uf (I:=fun x c st'=>st'=st∧c=(none,x)∧Seg (arrOf st) lo x) ?step ?fin ⟨rfl,rfl,hs⟩
 case fin=>
  rintro c st' ⟨rfl,rfl,hs'⟩
  rw[show max a nrem=nrem by lia]at hs' ⊢;exact q nrem han (cq _) hs' (.inl rfl)
 case step=>
  rintro x c st' hax hxn ⟨rfl,rfl,hs'⟩
  dsimp only;refine bV (hB.lt h0 (by lia) (by lia) ?_);by_cases hl:K (arrOf st') (lo + x) < K (arrOf st') (lo + x - 1)
  ·simp only[hl,decide_true,if_true];exact cN (q x hax (by lia) hs' (.inr hl))
  ·simp only[hl,decide_false,qz,oM];exact cN ⟨rfl,rfl,hs'.more (by lia) hl⟩
theorem tP(h0:IntKeys a₀)(hn:lo + nrem≤a₀.size)(h1:1≤n)(hnn:n≤nrem)(hB:SB a₀ P xs lo st)(hs:Dec (arrOf st) lo n)
  (q:∀ m st',SB a₀ P xs lo st'→1≤m→m≤nrem→Seg (arrOf st') lo m→Q (some m) st'):wpS (model prog w) A E s (By lo n nrem) Q st:=by
 have hsz:lo + n≤(arrOf st).size:=by rw[hB.size]; lia
 have hB':=hB.HU (cq lo) (show lo + n≤a₀.size by lia);refine bV (wpS_reverse ?_);refine bV (yj h0 hn h1 hnn hB' ?_ fun m hm1 hm2 hsm _=>cN (q m _ hB' (by lia) hm2 hsm));intro i j h1 h2 h3;show K (mirror (arrOf st) lo (lo + n) ((lo + n - lo) / 2)) i≤K (mirror (arrOf st) lo (lo + n) ((lo + n - lo) / 2)) j;rw[K_mirror hsz,K_mirror hsz,if_pos (by lia),if_pos (by lia)];exact hs _ _ (by lia) (by lia) (by lia)
theorem DJ{Q:DescSt→SortSt→Prop}(h0:IntKeys a₀)(hn:lo + nrem≤a₀.size)(h1:1≤n)(hnn:n≤nrem)(hB:SB a₀ P xs lo st)(hs:Dec (arrOf st) lo n)
  (q:∀ m e st',SB a₀ P xs lo st'→n≤m→m≤nrem→Dec (arrOf st') lo m→e + 1≤m→(∀ i,lo + m - (e + 1)≤i→i < lo + m→K (arrOf st') i=K (arrOf st') (lo + m - 1))→Q (none,m,e) st') :
  wpS (model prog w) A E s (Gi lo n nrem) Q st:=by
 refine uf (I:=fun x c st'=>∃ e,c=(none,x,e)∧SB a₀ P xs lo st'∧Dec (arrOf st') lo x∧e + 1≤x∧
   (∀ i,lo + x - (e + 1)≤i→i < lo + x→K (arrOf st') i=K (arrOf st') (lo + x - 1))) ?step ?fin ⟨0,rfl,hB,hs,by lia,fun i h1 h2=>by congr 1; lia⟩
 case fin=>
  rintro c st' ⟨e,rfl,hB',hs',hq,he⟩
  rw[show max n nrem=nrem by lia]at hs' hq he ⊢;exact q nrem e st' hB' hnn (cq _) hs' hq he
 case step=>
  rintro x c st' hax hxn ⟨e,rfl,hB',hs',hq,he⟩
  dsimp only;have hsz:lo + x≤(arrOf st').size:=by rw[hB'.size]; lia
  refine bV (hB'.lt h0 (by lia) (by lia) ?_);by_cases hl:K (arrOf st') (lo + x) < K (arrOf st') (lo + x - 1)
  ·simp only[hl,decide_true,if_true];have hd:=hs'.more (by lia) (Aj hl);by_cases hp:e > 0
   ·rw[if_pos hp];exact bV (wpS_reverse (cN ⟨0,rfl,hB'.HU (by lia) (by lia),hd.same (K_mirror_equal hsz he),by lia,fun i h1 h2=>by congr 1; lia⟩))
   ·rw[if_neg hp];exact cN ⟨0,rfl,hB',hd,by lia,fun i h1 h2=>by congr 1; lia⟩
  ·simp only[hl,decide_false,qz,oM];refine bV (hB'.lt h0 (by lia) (by lia) ?_);by_cases hg:K (arrOf st') (lo + x - 1) < K (arrOf st') (lo + x)
   ·simp only[hg,decide_true,if_true];exact cN (q x e st' hB' hax (by lia) hs' hq he)
   ·simp only[hg,decide_false,qz,oM];have ex:K (arrOf st') (lo + x)=K (arrOf st') (lo + x - 1):=by lia
    refine cN ⟨e + 1,rfl,hB',hs'.more (by lia) (by lia),by lia,fun i h1 h2=>?_⟩;rw[show lo + (x + 1) - 1=lo + x by lia];by_cases hi:i=lo + x
    ·subst hi; rfl
    ·rw[ex]; exact he i (by lia) (by lia)
theorem yf(h0:IntKeys a₀)(hn:lo + nrem≤a₀.size)(hnn:n + 1≤nrem)(hB:SB a₀ P xs lo st)(hs:Dec (arrOf st) lo (n + 1))
  (q:∀ m st',SB a₀ P xs lo st'→1≤m→m≤nrem→Seg (arrOf st') lo m→Q (some m) st'):wpS (model prog w) A E s (E7 lo n nrem) Q st:=by
 refine bV (wpS_lift (tR ⟨rfl,?_⟩));refine bV (DJ h0 hn (by lia) hnn hB hs fun m e st' hB' hm1 hm2 hs' hq he=>?_);dsimp only;have hsz:lo + m≤(arrOf st').size:=by rw[hB'.size]; lia
 by_cases hp:e > 0
 ·rw[if_pos hp];exact bV (wpS_reverse (tP h0 hn (by lia) hm2 (hB'.HU (by lia) (by lia)) (hs'.same (K_mirror_equal hsz he)) q))
 ·rw[if_neg hp];exact tP h0 hn (by lia) hm2 hB' hs' q
theorem yB(h0:IntKeys a₀)(hn:lo + nrem≤a₀.size)(h1:1≤nrem)(hB:SB a₀ P xs lo st)
  (q:∀ m st',SB a₀ P xs lo st'→1≤m→m≤nrem→Seg (arrOf st') lo m→Q (some m) st'):wpS (model prog w) A E s (countRun' lo nrem) Q st:=by
 rw[uG];refine bV (yj h0 hn (cq 1) h1 hB Seg.one fun n hn1 hn2 hsn hor=>?_);dsimp only;by_cases hnn:n=nrem
 ·rw[if_pos (by simpa using hnn)];exact cN (q n st hB hn1 hn2 hsn)
 rw[if_neg (by simpa using hnn)];have hlt:=hor.resolve_left hnn;by_cases hgt:n > 1
 ·rw[if_pos hgt];refine bV (hB.lt h0 (by lia) (by lia) ?_);by_cases hr:K (arrOf st) lo < K (arrOf st) (lo + n - 1)
  ·simp only[hr,decide_true,if_true];exact cN (q n st hB hn1 hn2 hsn)
  ·simp only[hr,decide_false,qz,oM];have hsz:lo + n≤(arrOf st).size:=by rw[hB.size]; lia
   have ha:∀ k,lo≤k→k < lo + n→K (arrOf st) k=K (arrOf st) (lo + n - 1):=fun k k1 k2=>by
    have a1:=hsn lo k (cq _) k1 k2;have a2:=hsn k (lo + n - 1) k1 (by lia) (by lia)
    lia
   have hd:Dec (arrOf st) lo n:=fun i j i1 i2 i3=>by rw[ha i i1 (by lia),ha j (by lia) i3]; exact Int.le_refl _
   exact bV (wpS_reverse (yf h0 hn (by lia) (hB.HU (cq _) (by lia)) ((hd.more hn1 (Aj hlt)).same (K_mirror_equal hsz ha)) q))
 ·rw[if_neg hgt];have e:n=1:=by lia
  subst e;refine yf h0 hn (by lia) hB (Dec.more (fun i j i1 i2 i3=>?_) (cq 1) (Aj hlt)) q;have:i=j:=by lia
  subst this; exact Int.le_refl _
end
noncomputable def Gj(lo k:Nat)(r:Option Bool × Nat × Nat):SM (ForInStep (Option Bool × Nat × Nat)):=
 if r.2.1 ≥ r.2.2 then pure (ForInStep.done (none,r.2.1,r.2.2))
 else do
  let some x ← ltAt' (lo + k) (lo + (r.2.1 + r.2.2) / 2) | pure (ForInStep.done (some false,r.2.1,r.2.2))
  if x=true then pure (ForInStep.yield (none,r.2.1,(r.2.1 + r.2.2) / 2)) else pure (ForInStep.yield (none,(r.2.1 + r.2.2) / 2 + 1,r.2.2))
theorem o8(lo n ok:Nat):binarySort' lo n ok=(do
  let r ← forIn [max ok 1:n] ((none:Option Bool),()) fun k _=>do
   let r ← forIn [:k] ((none:Option Bool),0,k) fun _ r=>Gj lo k r
   match r.1 with
   | some x=>pure (ForInStep.done (some x,()))
   | none=>do
    moveDown' (lo + k) (lo + r.2.1)
    pure (ForInStep.yield (none,()))
  match r.1 with
  | some x=>pure x
  | none=>pure true):=by kernel_rfl
section
variable {xs:Array Keyed}
theorem xU{ok:Nat}{Q:Bool→SortSt→Prop}(h0:IntKeys a₀)(hn:lo + n≤a₀.size)(hok:ok≤n)(hB:SB a₀ P xs lo st)(hs:Seg (arrOf st) lo ok)
  (q:∀ st',SB a₀ P xs lo st'→Seg (arrOf st') lo n→Q true st'):wpS (model prog w) A E s (binarySort' lo n ok) Q st:=by
 rw[o8]
 refine bV (wpS_mono (uf (I:=fun k c st'=>c=(none,())∧SB a₀ P xs lo st'∧Seg (arrOf st') lo (min k n))
  (Q:=fun c st'=>c=(none,())∧SB a₀ P xs lo st'∧Seg (arrOf st') lo n) ?step ?fin ?init) ?post)
 case post=>
  rintro c st' ⟨rfl,hB',hs'⟩
  exact cN (q st' hB' hs')
 case init=>
  refine⟨rfl,hB,fun i j h1 h2 h3=>?_⟩;by_cases e:ok=0
  ·have:i=j:=by lia
   subst this; exact Int.le_refl _
  ·exact hs i j h1 h2 (by lia)
 case fin=>
  rintro c st' ⟨hc,hB',hs'⟩
  refine⟨hc,hB',?_⟩
  rwa [show min (max (max ok 1) n) n=n by lia]at hs'
 case step=>
  rintro k c st' hak hkn ⟨rfl,hB',hs'⟩
  rw[show min k n=k by lia]at hs';have hk:lo + k < a₀.size:=by lia
  refine bV (wpS_mono (uf (I:=fun x c st''=>st''=st'∧∃ l r,c=(none,l,r)∧l≤r∧r≤k∧r - l≤k - x∧
    (∀ i,lo≤i→i < lo + l→K (arrOf st') i≤K (arrOf st') (lo + k))∧(∀ i,lo + r≤i→i < lo + k→K (arrOf st') (lo + k) < K (arrOf st') i))
   (Q:=fun c st''=>st''=st'∧∃ l r,c=(none,l,r)∧l≤k∧
    (∀ i,lo≤i→i < lo + l→K (arrOf st') i≤K (arrOf st') (lo + k))∧(∀ i,lo + l≤i→i < lo + k→K (arrOf st') (lo + k) < K (arrOf st') i)) ?istep ?ifin ?iinit) ?ipost)
  case iinit=>exact⟨rfl,0,k,rfl,by lia,by lia,by lia,fun i h1 h2=>by lia,fun i h1 h2=>by lia⟩
  case ifin=>
   rintro c st'' ⟨rfl,l,r,rfl,hlr,hrk,hm,hlo,hhi⟩
   have:l=r:=by lia
   subst this;exact⟨rfl,l,l,rfl,hrk,hlo,hhi⟩
  case istep=>
   rintro x c st'' _ hxk ⟨rfl,l,r,rfl,hlr,hrk,hm,hlo,hhi⟩
   unfold Gj;dsimp only;by_cases hge:l ≥ r
   ·rw[if_pos hge];have:l=r:=by lia
    subst this;exact cN ⟨rfl,l,l,rfl,hrk,hlo,hhi⟩
   ·rw[if_neg hge];refine bV (hB'.lt h0 hk (by lia) ?_);by_cases hl:K (arrOf st'') (lo + k) < K (arrOf st'') (lo + (l + r) / 2)
    ·simp only[hl,decide_true,if_true];refine cN ⟨rfl,l,(l + r) / 2,rfl,by lia,by lia,by lia,hlo,fun i h1 h2=>?_⟩;exact Int.lt_of_lt_of_le hl (hs' _ _ (by lia) h1 h2)
    ·simp only[hl,decide_false,qz,oM];refine cN ⟨rfl,(l + r) / 2 + 1,r,rfl,by lia,by lia,by lia,fun i h1 h2=>?_,hhi⟩;exact Int.le_trans (hs' i (lo + (l + r) / 2) h1 (by lia) (by lia)) (Int.not_lt.mp hl)
  case ipost=>
   rintro c st'' ⟨rfl,l,r,rfl,hlk,hlo,hhi⟩
   dsimp only;rw[moveDown'_eq];have hks:lo + k < (arrOf st'').size:=by rw[hB'.size]; exact hk
   have hd:lo + k - (lo + l)≤lo + k:=by lia
   refine bV (wpS_modify (cN ⟨rfl,hB'.set (bubble_perm _ _ _) fun i hi=>?_,?_⟩))
   ·show K (bubble (arrOf st'') (lo + k) (lo + k - (lo + l))) i=_;rw[K_bubble hks hd,if_neg (by lia),if_neg (by lia)]
   rw[show min (k + 1) n=k + 1 by lia];intro i j h1 h2 h3;show K (bubble (arrOf st'') (lo + k) (lo + k - (lo + l))) i≤K (bubble (arrOf st'') (lo + k) (lo + k - (lo + l))) j;rw[K_bubble hks hd,K_bubble hks hd,show lo + k - (lo + k - (lo + l))=lo + l by lia]
   repeat' split
   all_goals first
    | (exfalso; lia)
    | exact Int.le_refl _
    | exact hlo _ (by lia) (by lia)
    | exact Aj (hhi _ (by lia) (by lia))
    | exact hs' _ _ (by lia) (by lia) (by lia)
end
noncomputable def Fh(b:Nat)(m:Array Keyed)(xs:Array Keyed):Array Keyed:=m.toList.zipIdx.foldl (fun a (p,j)=>a.setIfInBounds (b + j) p) xs
noncomputable def mg(i:Nat)(st:SortSt)(sa na pw sb nb:Nat):SM Bool:=do
 set (setPending st (((pendingOf st).setIfInBounds i (sa,na + nb,pw)).eraseIdxIfInBounds (i + 1)))
 let e ← elem' (arrOf st) sb
 let some k ← fR false e (arrOf st) sa na 0 | pure false
 if (na - k == 0)=true then pure true else do
  let e ← elem' (arrOf st) (sa + k + (na - k) - 1)
  let some t ← fR true e (arrOf st) sb nb (nb - 1) | pure false
  if (t == 0)=true then pure true else do
   let m ← if na - k≤t then nA ((arrOf st).extract (sa + k) sb) ((arrOf st).extract sb (sb + t)) else ng ((arrOf st).extract (sa + k) sb) ((arrOf st).extract sb (sb + t))
   modify fun s=>setArr s (Fh (sa + k) m (arrOf s))
   let s ← get
   pure (failedOf s).isNone
theorem xt(i:Nat):mergeAt' i=(do
  let s ← get
  match ((pendingOf s)[i]?,(pendingOf s)[i + 1]?) with
  | (some (sa,na,pw),some (sb,nb,_))=>mg i s sa na pw sb nb
  | _=>unsupported "internal:list.sort.pending"):=by kernel_rfl
theorem uT(b:Nat):∀ (l:List Keyed) (n:Nat) (xs:Array Keyed),b + n + l.length≤xs.size→
  ((l.zipIdx n).foldl (fun a (p,j)=>a.setIfInBounds (b + j) p) xs).toList=xs.toList.take (b + n)++l++xs.toList.drop (b + n + l.length)
 | [],n,xs,h=>by
  show xs.toList=xs.toList.take (b + n)++[]++xs.toList.drop (b + n);rw[xE,FJ]
 | p::l,n,xs,h=>by
  have h':b + n + (l.length + 1)≤xs.size:=h;rw[List.zipIdx_cons,List.foldl_cons,uT b l (n + 1) _ (by rw[Array.size_setIfInBounds]; lia)];have hl:b + n < xs.toList.length:=by rw[jP]; lia
  rw[Array.toList_setIfInBounds,tD];rw[show b + (n + 1)=b + n + 1 by lia,List.drop_set_of_lt (by lia),List.take_set,A2,cu hl,Option.toList_some,List.set_append_right _ _ (by rw[qy]; lia),qy,show b + n - min (b + n) xs.toList.length=0 by lia];rw[List.set_cons_zero,show b + n + 1 + l.length=b + n + (l.length + 1) by lia,mE,mE,mE];rfl
theorem Fj{b:Nat}{m xs:Array Keyed}(h:b + m.size≤xs.size):(Fh b m xs).toList=xs.toList.take b++m.toList++xs.toList.drop (b + m.size):=by
 have:=uT b m.toList 0 xs (by rw[jP]; exact h);rw[jP]at this;exact this
theorem pJ{xs:Array Keyed}(h:i < xs.size):K xs i=nk xs[i]:=K_eq h
theorem Aa{xs:Array Keyed}(h:So xs.toList):SortedTo xs xs.size:=fun i j hij hj=>by
 rw[pJ (by lia),pJ hj];exact BA h hij hj
theorem Bl{xs:Array Keyed}(h:Seg xs lo n)(hn:lo + n≤xs.size):So (xs.extract lo (lo + n)).toList:=by
 refine List.pairwise_iff_getElem.mpr fun i j hi hj hij=>?_
 have hj':j < n:=by have:=hj; rw[jP,Array.size_extract]at this; lia
 have hx:lo + i < xs.size:=by lia
 have hy:lo + j < xs.size:=by lia
 have:=h (lo + i) (lo + j) (by lia) (by lia) (by lia);rw[pJ hx,pJ hy]at this;rw[Array.getElem_toList,Array.getElem_toList,Array.getElem_extract,Array.getElem_extract];exact this
theorem mK{xs:Array Keyed}(h:p∈(xs.extract i j).toList):∃ k,i≤k∧k < j∧∃ hk:k < xs.size,p=xs[k]:=by
 obtain⟨n,hn,e⟩:=List.mem_iff_getElem.mp h;have hn':n < (xs.extract i j).size:=by rw[← jP]; exact hn
 have hs:=hn';rw[Array.size_extract]at hs;refine⟨i + n,by lia,by lia,by lia,?_⟩;rw[← e,Array.getElem_toList,Array.getElem_extract]
theorem hV(xs:Array Keyed){k:Nat}(hij:i≤j)(hjk:j≤k):(xs.extract i j).toList++(xs.extract j k).toList=(xs.extract i k).toList:=by
 rw[← yX,Array.extract_append_extract,Nat.min_eq_left hij,Nat.max_eq_right hjk]
section
variable {n1 n2 pw pw':Nat}
theorem Dk{Q:Bool→SortSt→Prop}(h0:IntKeys a₀)(hp:(arrOf st).Perm a₀)(hk:kindOf st=oneType')(hf:failedOf st=none)(hP:pendingOf st=#[(0,n1,pw),(n1,n2,pw')])
  (h1:1≤n1) (h2:1≤n2) (hn:n1 + n2=a₀.size) (g1:Seg (arrOf st) 0 n1) (g2:Seg (arrOf st) n1 n2)
  (q:∀ st',(arrOf st').Perm a₀→failedOf st'=none→(pendingOf st').size≤1→SortedTo (arrOf st') a₀.size→Q true st'):wpS (model prog w) A E s (mergeAt' 0) Q st:=by
 rw[xt];refine bV (wpS_get ?_);rw[hP];show wpS (model prog w) A E s (mg 0 st 0 n1 pw n1 n2) Q st;have hz:(arrOf st).size=n1 + n2:=hp.size_eq.trans hn.symm;generalize eX:arrOf st=X at hp hz g1 g2;have hkk:∀ i,(hi:i < X.size)→CK X[i]:=fun i hi=>h0 _ ((Array.perm_iff_toList_perm.mp hp).mem_iff.mp (eE hi))
 have kle:∀ i j,(hij:i≤j)→(hj:j < n1)→nk (X[i]'(by lia))≤nk (X[j]'(by lia)):=fun i j hij hj=>by
  have:=g1 i j (fE _) hij (by lia);rw[pJ (by lia),pJ (by lia)]at this;exact this
 have kle2:∀ i j,(hij:i≤j)→(hj:j < n2)→nk (X[n1 + i]'(by lia))≤nk (X[n1 + j]'(by lia)):=fun i j hij hj=>by
  have:=g2 (n1 + i) (n1 + j) (by lia) (by lia) (by lia);rw[pJ (by lia),pJ (by lia)]at this;exact this
 unfold mg;have hps:((((pendingOf st).setIfInBounds 0 (0,n1 + n2,pw)).eraseIdxIfInBounds (0 + 1))).size≤1:=by
  rw[hP];simp[Array.eraseIdxIfInBounds]
 generalize ((((pendingOf st).setIfInBounds 0 (0,n1 + n2,pw)).eraseIdxIfInBounds (0 + 1)))=PP at hps;rw[eX];refine bV (wpS_mono (Q:=fun _ st'=>st'=setPending st PP) ?_ ?_)
 ·unfold wpS; rw[StateT.run_set]; exact bH ⟨rfl,rfl⟩
 rintro _ st1 rfl
 have hb:n1 < X.size:=by lia
 refine bV (bF (aI hb).1 ?_);have G:r8 false X[n1] X 0 n1 (fun i=>if hi:i < X.size then !decide (nk X[n1] < nk X[i]) else false):=by
  refine⟨hkk _ hb,fun i hn=>?_,fun i j hij hj hB=>?_⟩
  ·have hx:i < X.size:=by lia
   exact⟨X[i],by rw[Nat.zero_add]; exact (aI hx).1,hkk _ hx,by rw[dif_pos hx]; rfl⟩
  ·have hx:j < X.size:=by lia
   have hy:i < X.size:=by lia
   rw[dif_pos hx]at hB;rw[dif_pos hy];have hB:¬ nk X[n1] < nk X[j]:=by simpa using hB
   have:=kle i j hij hj;have:¬ nk X[n1] < nk X[i]:=by lia
   simpa using this
 refine bV (eF (by exact hk) G (by lia) fun k k1 k2 k3=>?_);dsimp only;have lowk:∀ i,(hi:i < k)→nk (X[i]'(by lia))≤nk X[n1]:=fun i hi=>by
  have:=k2 i hi;rw[dif_pos (show i < X.size by lia)]at this;have this:¬ nk X[n1] < nk X[i]:=by simpa using this
  lia
 by_cases e1:n1 - k=0
 ·rw[if_pos (by simpa using e1)];have e:k=n1:=by lia
  subst e;refine cN (q _ (by rw[show arrOf (setPending st PP)=X from eX]; exact hp) hf hps ?_);rw[show arrOf (setPending st PP)=X from eX];intro i j hij hj;by_cases hjk:j < k
  ·exact g1 i j (fE _) hij (by lia)
  by_cases hik:i < k
  ·have a1:=lowk i hik;have a2:=g2 k j (cq _) (by lia) (by lia);rw[pJ hb]at a2;rw[pJ (by lia)]
   lia
  ·exact g2 i j (by lia) hij (by lia)
 rw[if_neg (by simpa using e1)];rw[show 0 + k + (n1 - k) - 1=n1 - 1 by lia];have hl:n1 - 1 < X.size:=by lia
 refine bV (bF (aI hl).1 ?_);have upk:nk X[n1] < nk X[k]:=by
  have:=k3 k (cq _) (by lia);rw[dif_pos (show k < X.size by lia)]at this
  simpa using this
 have G2:r8 true X[n1 - 1] X n1 n2 (fun i=>if hi:n1 + i < X.size then decide (nk X[n1 + i] < nk X[n1 - 1]) else false):=by
  refine⟨hkk _ hl,fun i hn=>?_,fun i j hij hj hB=>?_⟩
  ·have hx:n1 + i < X.size:=by lia
   exact⟨X[n1 + i],(aI hx).1,hkk _ hx,by rw[dif_pos hx]; rfl⟩
  ·have hx:n1 + j < X.size:=by lia
   have hy:n1 + i < X.size:=by lia
   rw[dif_pos hx]at hB;rw[dif_pos hy];have hB:=pH hB;have:=kle2 i j hij hj;exact ff (by lia)
 refine bV (eF (by exact hk) G2 (by lia) fun t t1 t2 t3=>?_);dsimp only;have lowt:∀ i,(hi:i < t)→nk (X[n1 + i]'(by lia)) < nk X[n1 - 1]:=fun i hi=>by
  have:=t2 i hi;rw[dif_pos (show n1 + i < X.size by lia)]at this;exact pH this
 have upt:∀ i,t≤i→(hi:i < n2)→nk X[n1 - 1]≤nk (X[n1 + i]'(by lia)):=fun i hi hn=>by
  have:=t3 i hi hn;rw[dif_pos (show n1 + i < X.size by lia)]at this;have:=of_decide_eq_false this
  lia
 have hkl:=kle k (n1 - 1) (by lia) (by lia);by_cases e2:t=0
 ·exfalso;have:=upt 0 (by lia) (by lia);have:nk X[n1 - 1]≤nk X[n1]:=this
  lia
 rw[if_neg (by simpa using e2),Nat.zero_add];have so1:=Bl g1 (by lia);have so2:=Bl g2 (by lia);rw[Nat.zero_add]at so1;rw[← hV X (fE k) k1]at so1;rw[← hV X (show n1≤n1 + t by lia) (show n1 + t≤n1 + n2 by lia)]at so2;obtain⟨sA,sx,lAx⟩:=Ad.mp so1;obtain⟨sy,sB,lyB⟩:=Ad.mp so2;have xin:∀ p∈(X.extract k n1).toList,CK p∧nk X[n1] < nk p∧nk p≤nk X[n1 - 1]:=fun p hp=>by
  obtain⟨i,i1,i2,hi,rfl⟩:=mK hp;have a1:=kle k i i1 i2;have a2:=kle i (n1 - 1) (by lia) (by lia);exact⟨hkk _ hi,by lia,a2⟩
 have yin:∀ p∈(X.extract n1 (n1 + t)).toList,CK p∧nk X[n1]≤nk p∧nk p < nk X[n1 - 1]:=fun p hp=>by
  obtain⟨i,i1,i2,hi,rfl⟩:=mK hp;obtain⟨j,rfl⟩:∃ j,i=n1 + j:=⟨i - n1,by lia⟩
  have a1:=kle2 0 j (fE _) (by lia);exact⟨hkk _ hi,a1,lowt j (by lia)⟩
 have zx:(X.extract k n1).size=n1 - k:=by rw[Array.size_extract]; lia
 have zy:(X.extract n1 (n1 + t)).size=t:=by rw[Array.size_extract]; lia
 have C:MC (X.extract k n1) (X.extract n1 (n1 + t)):=by
  refine⟨fun p hp=>(xin p hp).1,fun p hp=>(yin p hp).1,sx,sy,fun q hq p hp=>?_,fun q hq p hp=>?_⟩
  ·rw[zx,E3,Array.getElem?_extract_of_lt (by lia)]at hp;rw[← mW hp];have e:X[k + (n1 - k - 1)]'(by lia)=X[n1 - 1]:=getElem_congr_idx (by lia);rw[e];exact Aj (yin q hq).2.2
  ·rw[E3,Array.getElem?_extract_of_lt (by lia)]at hq;rw[← mW hq];exact Aj (xin p hp).2.1
 have fin:∀ (r:Array Keyed) (g:Nat),cB (X.extract k n1).toList (X.extract n1 (n1 + t)).toList r.toList→wpS (model prog w) A E s (do
   modify fun s=>setArr s (Fh k r (arrOf s))
   let s ← get
   pure (failedOf s).isNone) Q (setG (setPending st PP) g):=fun r g hG=>by
  refine bV (wpS_modify (bV (wpS_get (cN ?_))));show Q (failedOf st).isNone _;rw[hf];have zr:r.size=n1 - k + t:=by
   have:=hG.1.length_eq;rw[iD,jP,jP,jP,zx,zy]at this;exact this
  have eY:(Fh k r X).toList=(X.extract 0 k).toList++r.toList++(X.extract (n1 + t) (n1 + n2)).toList:=by
   rw[Fj (by lia),nB,zr,show k + (n1 - k + t)=n1 + t by lia,← hz,iX]
  have eXl:X.toList=(X.extract 0 k).toList++((X.extract k n1).toList++(X.extract n1 (n1 + t)).toList)++(X.extract (n1 + t) (n1 + n2)).toList:=by
   rw[hV X k1 (by lia),hV X (fE k) (by lia),hV X (fE _) (by lia),← hz,iX,List.drop_zero]
  have pY:(Fh k r X).Perm X:=by
   rw[Array.perm_iff_toList_perm,eY,eXl];exact (hG.1.append_left _).append_right _
  refine q _ (by show (Fh k r (arrOf st)).Perm a₀; rw[eX]; exact pY.trans hp) hf hps ?_;show SortedTo (Fh k r (arrOf st)) a₀.size;rw[eX,← hn,← hz,← pY.size_eq];refine Aa ?_;rw[eY];have inA:∀ p∈(X.extract 0 k).toList,nk p≤nk X[n1]:=fun p hp=>by
   obtain⟨i,i1,i2,hi,rfl⟩:=mK hp;exact lowk i i2
  have inB:∀ p∈(X.extract (n1 + t) (n1 + n2)).toList,nk X[n1 - 1]≤nk p:=fun p hp=>by
   obtain⟨i,i1,i2,hi,rfl⟩:=mK hp;obtain⟨j,rfl⟩:∃ j,i=n1 + j:=⟨i - n1,by lia⟩
   exact upt j (by lia) (by lia)
  have inR:∀ p∈r.toList,nk X[n1]≤nk p∧nk p≤nk X[n1 - 1]:=fun p hp=>by
   rcases fv.mp (hG.1.mem_iff.mp hp) with hp | hp
   ·exact⟨Aj (xin p hp).2.1,(xin p hp).2.2⟩
   ·exact⟨(yin p hp).2.1,Aj (yin p hp).2.2⟩
  refine Ad.mpr ⟨Ad.mpr ⟨sA,hG.2,fun a ha b hb=>?_⟩,sB,fun a ha b hb=>?_⟩
  ·exact Int.le_trans (inA a ha) (inR b hb).1
  ·have h3:=inB b hb;rcases fv.mp ha with ha | ha
   ·have:=inA a ha;show nk a≤nk b
    lia
   ·exact Int.le_trans (inR a ha).2 h3
 by_cases e3:n1 - k≤t
 ·rw[if_pos e3];exact bV (uZ (by exact hk) C (by lia) (by lia) fun r g hG=>fin r g hG)
 ·rw[if_neg e3];exact bV (tO (by exact hk) C (by lia) (by lia) fun r g hG=>fin r g hG)
end
structure R1 (a₀:Array Keyed) (n1:Nat) (st:SortSt):Prop where
 perm:(arrOf st).Perm a₀
 kind:kindOf st=oneType'
 failed:failedOf st=none
 pend:pendingOf st=#[(0,n1,0)]
 g1:Seg (arrOf st) 0 n1
 hn:n1≤a₀.size
 h1:1≤n1
structure R2 (a₀:Array Keyed) (n1 n2 pw:Nat) (st:SortSt):Prop where
 perm:(arrOf st).Perm a₀
 kind:kindOf st=oneType'
 failed:failedOf st=none
 pend:pendingOf st=#[(0,n1,pw),(n1,n2,0)]
 g1:Seg (arrOf st) 0 n1
 g2:Seg (arrOf st) n1 n2
 hn:n1 + n2=a₀.size
 h1:1≤n1
 h2:1≤n2
def RE(a₀:Array Keyed)(st:SortSt):Prop:=R1 a₀ a₀.size st∨∃ n1 n2 pw,R2 a₀ n1 n2 pw st
theorem zO(h:64≤n)(hn:n < 128):minRun' n n 0=n / 2 + n % 2:=by
 obtain⟨f,rfl⟩:∃ f,n=f + 1 + 1:=⟨n - 2,by lia⟩
 rw[minRun'_succ,if_neg (by lia),minRun'_succ,if_pos (by lia)]
 lia
theorem SB.one(h:SB a₀ #[] (arrOf st) 0 st)(hs:Seg (arrOf st) 0 n)(h1:1≤n)(hn:n≤a₀.size):R1 a₀ n (setPending st ((pendingOf st).push (0,n,0))):=
 ⟨h.perm,h.kind,h.failed,by show (pendingOf st).push _=_; rw[h.pend]; rfl,hs,hn,h1⟩
theorem AY{Q:Unit→SortSt→Prop}(h0:IntKeys a₀)(hB:SBase a₀ st)(h2:64≤a₀.size)(h64:a₀.size < 128)
  (q:∀ st',(arrOf st').Perm a₀→failedOf st'=none→SortedTo (arrOf st') a₀.size→Q () st'):wpS (model prog w) A E s sortRuns' Q st:=by
 rw[sortRuns'_eq];refine bV (wpS_get ?_);dsimp only;have hmr:=zO h2 h64;simp only[hB.size,hmr];generalize hM:a₀.size / 2 + a₀.size % 2=M
 refine bV (wpS_mono (uf
  (I:=fun x c st'=>(x=0∧c=(none,0)∧SBase a₀ st')∨(x=1∧∃ n1,c=(none,n1)∧M≤n1∧n1 < a₀.size∧R1 a₀ n1 st')∨(1≤x∧c=(none,a₀.size)∧RE a₀ st'))
  (Q:=fun c st'=>c=(none,a₀.size)∧RE a₀ st') ?step ?fin (.inl ⟨rfl,rfl,hB⟩)) ?post)
 case fin=>
  rintro c st' (⟨hx,_,_⟩ | ⟨hx,_⟩ | ⟨_,hc,hD⟩)
  ·lia
  ·lia
  ·exact⟨hc,hD⟩
 case step=>
  rintro x c st' _ hx (⟨rfl,rfl,hB'⟩ | ⟨rfl,n1,rfl,hM1,hn1,hR⟩ | ⟨hx1,rfl,hD⟩)
  ·dsimp only;rw[if_neg (by lia)];simp only[Nat.sub_zero,Nat.zero_add];have hSB:SB a₀ #[] (arrOf st') 0 st':=⟨hB'.perm,hB'.kind,hB'.failed,hB'.pend,fun i hi=>rfl⟩
   have out:∀ (n:Nat) (st3:SortSt),SB a₀ #[] (arrOf st') 0 st3→Seg (arrOf st3) 0 n→M≤n→n≤a₀.size→(n=a₀.size∧RE a₀ (setPending st3 ((pendingOf st3).push (0,n,0))))∨(n < a₀.size∧R1 a₀ n (setPending st3 ((pendingOf st3).push (0,n,0)))):=fun n st3 hB3 hs3 hm hn=>by
    have hr:=SB.one (a₀:=a₀) (st:=st3) ⟨hB3.perm,hB3.kind,hB3.failed,hB3.pend,fun i hi=>rfl⟩ hs3 (by lia) hn;by_cases e:n=a₀.size
    ·exact .inl ⟨e,.inl (e ▸ hr)⟩
    ·exact .inr ⟨by lia,hr⟩
   refine bV (yB h0 (lo:=0) (by lia) (by lia) hSB fun m st2 hB2 hm1 hm2 hs2=>?_);dsimp only;by_cases hlt:m < M
   ·rw[if_pos hlt];refine bV (wpS_lift (tR ⟨rfl,?_⟩));refine bV (xU h0 (lo:=0) (by lia) (by lia) hB2 hs2 fun st3 hB3 hs3=>?_);simp only[Bool.not_true,qz,oM];refine bV (wpS_get ?_);have hb:(pendingOf st3).back?=none:=by rw[hB3.pend]; rfl
    rw[hb];dsimp only;refine bV (wpS_modify (cN ?_));rcases out _ st3 hB3 hs3 (by lia) (by lia) with ⟨e,hr⟩ | ⟨e,hr⟩
    ·exact .inr (.inr ⟨by lia,congrArg (Prod.mk none) e,hr⟩)
    ·exact .inr (.inl ⟨by simp,_,rfl,by lia,e,hr⟩)
   ·rw[if_neg hlt];refine bV (wpS_get ?_);have hb:(pendingOf st2).back?=none:=by rw[hB2.pend]; rfl
    rw[hb];dsimp only;refine bV (wpS_modify (cN ?_));rcases out _ st2 hB2 hs2 (by lia) (by lia) with ⟨e,hr⟩ | ⟨e,hr⟩
    ·exact .inr (.inr ⟨by lia,congrArg (Prod.mk none) e,hr⟩)
    ·exact .inr (.inl ⟨by simp,_,rfl,by lia,e,hr⟩)
  ·dsimp only;rw[if_neg (by lia)];have hSB:SB a₀ #[(0,n1,0)] (arrOf st') n1 st':=⟨hR.perm,hR.kind,hR.failed,hR.pend,fun i hi=>rfl⟩
   have out:∀ (pw:Nat) (st3:SortSt),SB a₀ #[(0,n1,0)] (arrOf st') n1 st3→Seg (arrOf st3) n1 (a₀.size - n1)→RE a₀ (setPending (setPending st3 #[(0,n1,pw)]) (#[(0,n1,pw)].push (n1,a₀.size - n1,0))):=fun pw st3 hB3 hs3=>by
    refine .inr ⟨n1,a₀.size - n1,pw,hB3.perm,hB3.kind,hB3.failed,rfl,fun i j i1 i2 i3=>?_,hs3,by lia,by lia,by lia⟩;have:=hR.g1 i j i1 i2 i3;rw[← hB3.low i (by lia),← hB3.low j (by lia)]at this;exact this
   refine bV (yB h0 (lo:=n1) (by lia) (by lia) hSB fun m st2 hB2 hm1 hm2 hs2=>?_);dsimp only;have hb:∀ st3,SB a₀ #[(0,n1,0)] (arrOf st') n1 st3→(pendingOf st3).back?=some (0,n1,0):=fun st3 h3=>by rw[h3.pend]; rfl
   by_cases hlt:m < M
   ·rw[if_pos hlt];refine bV (wpS_lift (tR ⟨rfl,?_⟩));rw[show min (a₀.size - n1) M=a₀.size - n1 by lia];refine bV (xU h0 (lo:=n1) (by lia) (by lia) hB2 hs2 fun st3 hB3 hs3=>?_);simp only[Bool.not_true,qz,oM];refine bV (wpS_get ?_);rw[hb st3 hB3];dsimp only;refine bV (wpS_mono (uf (I:=fun _ c st''=>st''=st3∧c=(none,())) (Q:=fun c st''=>st''=st3∧c=(none,())) ?_ (fun _ _ hh=>hh) ⟨rfl,rfl⟩) ?_)
    ·rintro x c st'' _ _ ⟨rfl,rfl⟩
     refine bV (wpS_get ?_);rw[hB3.pend,if_neg (by simp)];exact cN ⟨rfl,rfl⟩
    ·rintro c st'' ⟨rfl,rfl⟩
     dsimp only;refine bV (wpS_modify (bV (wpS_modify (cN ?_))));rw[hB3.pend];exact .inr (.inr ⟨by lia,by rw[show n1 + (a₀.size - n1)=a₀.size by lia],out _ _ hB3 hs3⟩)
   ·rw[if_neg hlt];have e:m=a₀.size - n1:=by lia
    subst e;refine bV (wpS_get ?_);rw[hb st2 hB2];dsimp only;refine bV (wpS_mono (uf (I:=fun _ c st''=>st''=st2∧c=(none,())) (Q:=fun c st''=>st''=st2∧c=(none,())) ?_ (fun _ _ hh=>hh) ⟨rfl,rfl⟩) ?_)
    ·rintro x c st'' _ _ ⟨rfl,rfl⟩
     refine bV (wpS_get ?_);rw[hB2.pend,if_neg (by simp)];exact cN ⟨rfl,rfl⟩
    ·rintro c st'' ⟨rfl,rfl⟩
     dsimp only;refine bV (wpS_modify (bV (wpS_modify (cN ?_))));rw[hB2.pend];exact .inr (.inr ⟨by lia,by rw[show n1 + (a₀.size - n1)=a₀.size by lia],out _ _ hB2 hs2⟩)
  ·dsimp only;rw[if_pos (cq _)];exact cN ⟨rfl,hD⟩
 case post=>
  rintro c st' ⟨rfl,hD⟩
  dsimp only
  refine bV (wpS_mono (uf (I:=fun x c st''=>c=(none,())∧((x=0∧st''=st')∨((arrOf st'').Perm a₀∧failedOf st''=none∧(pendingOf st'').size≤1∧SortedTo (arrOf st'') a₀.size)))
   (Q:=fun c st''=>c=(none,())∧(arrOf st'').Perm a₀∧failedOf st''=none∧SortedTo (arrOf st'') a₀.size) ?_ ?_ ⟨rfl,.inl ⟨rfl,rfl⟩⟩) ?_)
  ·rintro x c st'' _ _ ⟨rfl,⟨rfl,rfl⟩ | ⟨e1,e2,e3,e4⟩⟩
   ·rcases hD with hR | ⟨n1,n2,pw,hR⟩
    ·refine bV (wpS_get ?_);rw[if_pos (by rw[hR.pend]; exact cq 1)];refine cN ⟨rfl,hR.perm,hR.failed,fun i j hij hj=>hR.g1 i j (fE _) hij (by lia)⟩
    ·refine bV (wpS_get ?_);rw[hR.pend,if_neg (by simp)];refine bV (Dk h0 hR.perm hR.kind hR.failed hR.pend hR.h1 hR.h2 hR.hn hR.g1 hR.g2 fun st3 e1 e2 e3 e4=>?_);exact cN ⟨rfl,.inr ⟨e1,e2,e3,e4⟩⟩
   ·refine bV (wpS_get ?_);rw[if_pos e3];exact cN ⟨rfl,e1,e2,e4⟩
  ·rintro c st'' ⟨hc,⟨hx,_⟩ | ⟨e1,e2,e3,e4⟩⟩
   ·lia
   ·exact⟨hc,e1,e2,e4⟩
  ·rintro c st'' ⟨rfl,e1,e2,e4⟩
   exact cN (q _ e1 e2 e4)
theorem len_dict:typeLookup (.type "dict") "__len__" = pure (some (.builtin "dict.__len__")):=by rw[typeLookup_type,FZ]; kernel_rfl
section
variable {κ:Type} [DecidableEq κ] {knd:PySem.KeyKind prog w κ}
theorem ug(S d:Addr)(res:Value)(c₀:Nat){kvs:List (κ × Value)}(hh:A.handled=none)(hsm:(d == sysModules)=false)(hne:d≠S)
  (hS:s.heap.get? S=some {cls:=.type "list",data:=.seq #[] c₀}) (hm:s.heap.DictAt knd d kvs ep) (hn:kvs.length≤sizeLine)
  (hR:∀ s' acc c',(∀ b o,b≠S→s.heap.get? b=some o→s'.heap.get? b=some o)→s'.gens=s.gens→s'.drawn=s.drawn→s'.os=s.os→
   s'.heap.get? S=some {cls:=.type "list",dict:=none,data:=.seq acc c',slots:=#[]}→ItemsOf (fun i v=>∃ k x,kvs[i]?=some (k,x)∧knd.is k v=true) acc kvs.length→R (.ok (.ret res)) s') :
  wpAny (model prog w) A.in1 (Builtin.List.listExtendWith (.ref S) (.ref d) res)
   (fun fin s'=>match fin with | .done f=>R (.ok f) s' | .again c'=>c'.quiet=true∧codeAny (model prog w) A c' R s') (fun e s'=>R (.error e) s') s:=by
 have hT:=hm.dictOf.typeIs;unfold Builtin.List.listExtendWith;refine aQ (wpAny_typeOf hT ?_);have h1:Builtin.List.listSameRef (.ref S) (.ref d)=false:=by simp[Builtin.List.listSameRef,Ne.symm hne]
 rw[if_neg (by rw[h1]; decide)];refine aQ (wpAny_pyIter_dict hsm hm ?_);have hm1:=hm.push { cls:=.type "dict_keyiterator",data:=.fields #[.ref d,.int 0 0,.int kvs.length 0,.int ep 0] };have hS1:(s.heap.push { cls:=.type "dict_keyiterator",data:=.fields #[.ref d,.int 0 0,.int kvs.length 0,.int ep 0] }).get? S=some { cls:=.type "list",data:=.seq #[] c₀ }:=dE _ hS;have hT1:Shared.TypeIs { s with heap:=s.heap.push { cls:=.type "dict_keyiterator",data:=.fields #[.ref d,.int 0 0,.int kvs.length 0,.int ep 0] } } (.ref d) "dict":=hm1.dictOf.typeIs;have hI1:(s.heap.push { cls:=.type "dict_keyiterator",data:=.fields #[.ref d,.int 0 0,.int kvs.length 0,.int ep 0] }).IsKeyIter s.heap.objs.size d 0 kvs.length ep:=⟨_,jN _ rfl,rfl,rfl⟩
 have hid:s.heap.objs.size≠d:=Ne.symm (eR hm.lt_size);have F3:s.heap.objs.size≠S:=Ne.symm (eR (dy hS));have hk1:∀ b o,s.heap.get? b=some o→(s.heap.push { cls:=.type "dict_keyiterator",data:=.fields #[.ref d,.int 0 0,.int kvs.length 0,.int ep 0] }).get? b=some o:=fun b o e=>dE _ e
 have hlt1:∀ b o,s.heap.get? b=some o→b≠s.heap.objs.size:=fun b o e=>eR (dy e)
 generalize (s.heap.push { cls:=.type "dict_keyiterator",data:=.fields #[.ref d,.int 0 0,.int kvs.length 0,.int ep 0] })=g1 at *;refine aQ (kP ?_);unfold Builtin.List.listLengthHint;refine aQ (Cq hT1 len_dict ?_)
 (generalize hid:("dict.__len__":String)=id0; (fail_if_success (clear hid id0)); wp_delta; rw[show splitId id0=some ("dict","__len__") from by subst hid; decide +kernel]; subst hid)
 refine aQ (wpAny_isInstance (b:=true) hT1 (by rw[isSubtype_type]; kernel_rfl) ?_);refine aQ (m:=typeOf (.ref d)) (wpAny_typeOf hT1 ?_);refine bH ?_
 show wpAny _ A.in1 (rule "list.extend.makes-room" >>= fun _=>Builtin.List.listTouch (.ref S) >>= fun _=>
  again (.builtin "list.extend.loop" ⟨[.ref S,.ref s.heap.objs.size,res],[]⟩)) _ _ _
 refine aQ (tR ?_);refine aQ ?_;unfold Builtin.List.listTouch;refine aQ (listUpdate_at (s:={ s with heap:=g1 }) hS1 rfl ?_ (fE _) (by show 1≤sizeLine + 1; omega));have hS2:=get?_update_seq (c:="list") hS1 (·.push .none);refine listUpdate_at (s:={ s with heap:=g1.update S (Obj.mapSeq (·.push .none)) }) hS2 rfl ?_ (by show 1≤sizeLine; decide) (by show 0≤sizeLine + 1; omega);have hS3:=get?_update_seq (c:="list") hS2 (·.pop);have ot:∀ b o,b≠S→g1.get? b=some o→((g1.update S (Obj.mapSeq (·.push .none))).update S (Obj.mapSeq (·.pop))).get? b=some o:=fun b o hb e=>
  (Dy _ _ (Ne.symm hb)).trans ((Dy _ _ (Ne.symm hb)).trans e)
 have W:=(Walks.dictKeys (knd:=knd) (A:=A.in1) hh s.heap.objs.size d (Ne.symm hid) kvs ep).toS;refine bH ⟨plainId_quiet F9 _,codeAny_extend_loopS W hn S (by simp[Ne.symm F3,Ne.symm hne]) _ kvs.length 0 _ _ _ rfl (fE _) ?_ hS3 (ItemsOf.nil _) fun s' acc' c' hm' hS' hacc=>?_⟩
 ·exact⟨hI1.at fun o e=>ot _ o F3 e,hm1.at' fun o e=>ot _ o hne e⟩
 ·refine hR s' acc' c' (fun b o hb e=>?_) hm'.gens hm'.drawn hm'.os hS' hacc;exact hm'.heap b o (by simp[hb,hlt1 b o e]) (ot b o hb (hk1 b o e))
end
theorem Dh{a:Addr}{vs:List Value}{P:Fin→Shared→Prop}(ho:s.heap.get? a=some (seqObj "list" vs.toArray n))(hI:IntsAre vs ns)(hl:vs.length < 128)
  (q:∀ (out:Array Value) (ns':List Int),IntsAre out.toList ns'→ns'.Perm ns→ns'.Pairwise (·≤·)→P (.done (.ret .none)) {s with heap:=sortedHeap s.heap a vs out}) :
  wpAny (model prog w) A (Builtin.«list.sort» ⟨[.ref a],[]⟩) P E s:=by
 by_cases h64:vs.length < 64
 ·exact list_sort_tree ho hI h64 q
 obtain⟨v1,v2,r,e⟩:∃ v1 v2 r,vs=v1::v2::r:=by
  cases vs with
  | nil=>exact absurd (by decide) h64
  | cons v1 vs=>
   cases vs with
   | nil=>exact absurd (show 1 < 64 by decide) h64
   | cons v2 r=>exact⟨v1,v2,r,rfl⟩
 have ha:a < s.heap.objs.size:=dy ho;have hz:vs.toArray.size=vs.length:=dY ..;have hk:keyKind' vs.toArray=pure oneType':=by
  subst e;exact keyKind_ints hI
 have h2:¬ vs.toArray.size < 2:=by lia
 rw[list_sort_plain];refine aQ (listItems_at ho rfl (aQ (listUpdate_at ho rfl ?_ (by rw[hz,uF]; lia) (fE _))));obtain⟨e1,ho1⟩:∃ e1,(s.heap.update a (Obj.mapSeq fun _=>#[])).get? a=some (seqObj "list" #[] e1):=⟨_,get?_update_seq ho (fun _=>#[])⟩
 refine aQ (seqEpoch_at ho1 rfl (aQ (wpAny_newTuple (aQ (wpAny_newList (kP ?_))) (by rw[uF]; simpa using (by lia:vs.length≤_)))));have ho6:(((s.heap.update a (Obj.mapSeq fun _=>#[])).push (seqObj "tuple" vs.toArray 0)).push (seqObj "list" #[] 0)).get? a=some (seqObj "list" #[] e1):=by
  refine dE _ (dE _ ho1)
 show wpAny (model prog w) A _ P E { s with heap:=((s.heap.update a (Obj.mapSeq fun _=>#[])).push (seqObj "tuple" vs.toArray 0)).push (seqObj "list" #[] 0) };dsimp only;rw[if_neg h2,if_neg h2,hk]
 refine aQ (bH (aQ (vv (AY (a₀:=pairsOf vs) (st:=SortSt.mk' oneType' (vs.toArray.zip vs.toArray) #[] 7 none)
  (Q:=fun _ st'=>(arrOf st').Perm (pairsOf vs)∧failedOf st'=none∧SortedTo (arrOf st') (pairsOf vs).size)
  hI.intKeys ⟨Array.Perm.refl _,rfl,rfl,rfl⟩ (by rw[pairsOf_size]; lia) (by rw[pairsOf_size]; exact hl) fun st' a1 a2 a3=>⟨a1,a2,a3⟩) ?_ fun _ _ e=>e)))
 rintro⟨⟨⟩,st'⟩ s' ⟨rfl,hp,hf,hs⟩
 dsimp only;refine aQ (seqEpoch_at ho6 rfl (aQ (listUpdate_at ho6 rfl ?_ (fE _) ?_)))
 ·rw[hf];simp only[bne_self_eq_false,qz,oM];obtain⟨ns',i1,i2,i3⟩:=sorted_out hI hp hs;exact bH (q _ ns' i1 i2 i3)
 ·rw[Array.size_map,hp.size_eq,pairsOf_size,uF]
  lia
theorem yI{κ:Type}{is:κ→Value→Bool}:∀ {l:List Value} {kvs:List (κ × Value)} {ns:List Int} {f:Int→κ},(∀ i v,is (f i) v=true→∃ t,v=.int i t)→l.length=kvs.length→(∀ (i:Nat) v,l[i]?=some v→∃ k x,kvs[i]?=some (k,x)∧is k v=true)→kvs.map (·.1)=ns.map f→IntsAre l ns
 | [],[],[],_,_,_,_,_=>.nil
 | [],[],_::_,_,_,_,_,e=>by simp at e
 | [],_::_,_,_,_,h,_,_=>by simp at h
 | _::_,[],_,_,_,h,_,_=>by simp at h
 | _::_,_::_,[],_,_,_,_,e=>by simp at e
 | v::l,(k,x)::kvs,n::ns,f,hf,hl,h,e=>by
  rw[mD,mD,List.cons.injEq]at e;obtain⟨k',x',e1,e2⟩:=h 0 v rfl;have e1:some (k,x)=some (k',x'):=e1;cases e1;have ek:k=f n:=e.1;rw[ek]at e2;obtain⟨t,rfl⟩:=hf n v e2;exact .cons n t (yI hf (by simpa using hl) (fun i u hu=>h (i + 1) u hu) e.2)
theorem zB{κ:Type}[DecidableEq κ]{knd:PySem.KeyKind prog w κ}{S:Addr}{c₀:Nat}{kvs:List (κ × Value)}(hh:A.handled=none)(hsm:(d == sysModules)=false)(hne:d≠S)
  (hS:s.heap.get? S=some {cls:=.type "list",data:=.seq #[] c₀}) (hm:s.heap.DictAt knd d kvs ep) (hn:kvs.length≤sizeLine)
  (hR:∀ s' acc c',(∀ b o,b≠S→s.heap.get? b=some o→s'.heap.get? b=some o)→s'.gens=s.gens→s'.drawn=s.drawn→s'.os=s.os→
   s'.heap.get? S=some {cls:=.type "list",dict:=none,data:=.seq acc c',slots:=#[]}→ItemsOf (fun i v=>∃ k x,kvs[i]?=some (k,x)∧knd.is k v=true) acc kvs.length→R (.ok (.ret (.ref S))) s') :
  codeAny (model prog w) A (.builtin "list.__iadd__" ⟨[.ref S,.ref d],[]⟩) R s:=by
 refine codeAny_builtin F.entry_list_iadd ?_;rw[F5 F.plain_list_iadd _];exact ug (knd:=knd) S d _ c₀ hh hsm hne hS hm hn hR
theorem uv{κ:Type}[DecidableEq κ]{knd:PySem.KeyKind prog w κ}{kvs:List (κ × Value)}{f:Int→κ}{Q:Value→Shared→Prop}(hh:A.handled=none)(hsm:(d == sysModules)=false)
  (hm:s.heap.DictAt knd d kvs ep) (hf:∀ i v,knd.is (f i) v=true→∃ t,v=.int i t) (hk:kvs.map (·.1)=ns.map f) (hl:kvs.length < 128)
  (q:∀ (s':Shared) (l:Addr) (out:Array Value) (ns':List Int) (c:Nat),(∀ b o,s.heap.get? b=some o→s'.heap.get? b=some o)→s'.gens=s.gens→s'.drawn=s.drawn→s'.os=s.os→s.heap.objs.size≤l→
   s'.heap.get? l=some (seqObj "list" out c)→IntsAre out.toList ns'→ns'.Perm ns→ns'.Pairwise (·≤·)→Q (.ref l) s') :
  wpAny (model prog w) A (call (.builtin "sorted") [.ref d]) Q E s:=by
 have hne:d≠s.heap.objs.size:=eR hm.lt_size;refine Calls.call_function_entry kind_sorted plain_sorted entry_sorted (args_sorted1 _) ?_;unfold Builtin.«sorted»;refine aQ (m:=checkCount "sorted" 1 1 _) (bH ?_);refine aQ (Q:=_) ?_;unfold collect;refine aQ (wpAny_runValue (codeAny_builtin F.entry_proto_collect ?_));rw[F5 F.plain_proto_collect _];refine aQ (Ea (bH ⟨plainId_quiet F.plain_list_iadd _,?_⟩));refine zB (s:={ s with heap:=s.heap.push { cls:=.type "list",data:=.seq ([]:List Value).toArray } }) (knd:=knd) (kvs:=kvs) (ep:=ep) (S:=s.heap.objs.size) (d:=d) (c₀:=0) (by exact hh) hsm hne (jN _ rfl) (hm.push _) (by rw[uF]; lia) fun s1 acc c1 k1 g1 d1 o1 hS hacc=>?_
 refine aQ (wpAny_load hS (bH ?_));have hI:IntsAre acc.toList ns:=yI (kvs:=kvs) hf (by rw[jP]; exact hacc.1) (fun i v hv=>hacc.2 i v (by rw[← E3]; exact hv)) hk;have hlen:acc.toList.length=kvs.length:=by rw[jP]; exact hacc.1
 refine aQ (wpAny_newList ?_ (by rw[hlen,uF]; lia));have hoL:(s1.heap.push (seqObj "list" acc.toList.toArray 0)).get? s1.heap.objs.size=some (seqObj "list" acc.toList.toArray 0):=jN _ rfl;have hlt:s.heap.objs.size < s1.heap.objs.size:=dy hS;refine aQ (kP (yp slot_list_sort ⟨_,hoL,rfl⟩ entry_list_sort (Dh hoL hI (by lia) fun out ns' a1 a2 a3=>⟨_,rfl,?_⟩) (args_list_sort _)));obtain⟨c2,hc2⟩:=sortedHeap_at (h:=s1.heap.push (seqObj "list" acc.toList.toArray 0)) (n:=0) (out:=out) hoL;refine bH ⟨_,rfl,q _ _ out ns' c2 (fun b o e=>?_) g1 d1 o1 (Nat.le_of_lt hlt) hc2 a1 a2 a3⟩;have hb:b < s.heap.objs.size:=dy e;have hb1:b < s1.heap.objs.size:=Nat.lt_trans hb hlt;have e1:=k1 b o (eR hb) (dE _ e);show (sortedHeap (s1.heap.push (seqObj "list" acc.toList.toArray 0)) s1.heap.objs.size acc.toList out).get? b=some o;rw[sortedHeap_old (eR hb1) (by rw[size_push']; exact Nat.lt_succ_of_lt hb1)];exact dE _ e1
theorem sh:typeLookup (.type "list") "keys" = pure none:=by rw[typeLookup_type,FZ]; kernel_rfl
theorem dQ:plainId "dict.update.loop" = true:=by decide +kernel
theorem iA:entryFor table "dict.update.loop" = some Builtin.«dict.update.loop»:=entryFor_of_fast (by kernel_rfl)
section
theorem ze{a:Addr}{xs:Array Value}{k:Nat}{Q:Option Value→Shared→Prop}(hx:s.heap.get? a=some {cls:=.type "list",data:=.seq xs k})(hA:A.handled=none)
  (h:∀ h' tk,(∀ b o,s.heap.get? b=some o→h'.get? b=some o)→Q none {s with heap:=h',toks:=tk}):wpAny (model prog w) A (getAttr? (.ref a) "keys") Q E s:=by
 obtain⟨hp,g,d,tk,os⟩:=s;have hT:∀ tk',(⟨hp,g,d,tk',os⟩:Shared).TypeIs (.ref a) "list":=fun _=>⟨_,hx,rfl⟩
 have f1:=sub_AttributeError;have f3:=F.slot_list_getattribute.lookup;have f4:=F.slot_list_getattribute.bind (.ref a);have f5:=am_list_getattr_none;unfold getAttr? getAttrBy? getAttrBy
 repeat (any_goals (first | assumption | exact hT _ | ((with_reducible show wpAny _ _ (call (Value.builtin "list.__getattribute__") _ _) _ _ _); refine call_meets F.slot_list_getattribute (hT _) am_entry_list_getattribute (F.args_list_getattribute_2 _ _) (meets_getattribute_miss_list a xs k #[] "keys" _ sh (by decide) (by rw[uF]; decide)) ⟨hx,hA,fun h' tk' e hx'=>?_⟩) | wp_step))
 obtain⟨t',u',he⟩:=hx'.there;show wpAny _ _ (getattributeRaised _ _ _ _ _ _ _) _ _ _;unfold getattributeRaised
 repeat (any_goals (first | assumption | wp_step))
 exact h _ _ hx'.keeps
structure Pr (κ:Type) where
 p:Addr
 k:κ
 key:Value
 v:Value
variable {κ:Type} [DecidableEq κ] {knd:PySem.KeyKind prog w κ}{ts:List (Pr κ)}
noncomputable abbrev uu(ts:List (Pr κ)):List (κ × Value):=ts.map fun t=>(t.k,t.v)
noncomputable abbrev tE(ts:List (Pr κ)):List Value:=ts.map fun t=>.ref t.p
theorem AZ{it:Addr}{res:Value}(hh:A.handled=none)(hil:l≠it)(hdi:d≠it)(hdl:l≠d)(hp:∀ t∈ts,t.p≠it∧t.p≠d)(hk:∀ t∈ts,knd.is t.k t.key=true)(hn:ts.length≤sizeLine) :
  ∀ (n i:Nat) (s:Shared),ts.length - i=n→i≤ts.length→s.heap.IsListIter it l i→s.heap.IsList l (tE ts).toArray→(∀ t∈ts,s.heap.IsTuple t.p #[t.key,t.v])→s.heap.DictOf knd d (merged [] ((uu ts).take i))→
  (∀ s',(∀ b o,b≠it→b≠d→s.heap.get? b=some o→s'.heap.get? b=some o)→s'.gens=s.gens→s'.drawn=s.drawn→s'.os=s.os→s'.heap.DictOf knd d (merged [] (uu ts))→R (.ok (.ret res)) s')→
  codeAny (model prog w) A (.builtin "dict.update.loop" ⟨[.ref d,.ref it,.int i 0,res],[]⟩) R s:=by
 intro n
 induction n with
 | zero=>
  intro i s hn0 hi hit hl ht hd q;have e:i=ts.length:=by lia
  subst e;refine codeAny_builtin iA ?_;rw[F5 dQ _];show wpAny _ A.in1 (pyNext (.ref it) >>= _) _ _ s;refine aQ (wpAny_pyNext_list_end hh hit hl (by simp) fun h' eb=>?_);refine aQ (m:=Builtin.Dict.addKeywords d []) (bH (bH ?_));refine q { s with heap:=h' } (fun b o hb _ e=>eb b o hb e) rfl rfl rfl ?_;rw[Ez (by simp)]at hd;exact hd.extBut eb hdi
 | succ n ih=>
  intro i s hn0 hi hit hl ht hd q;have hlt:i < ts.length:=by lia
  refine codeAny_builtin iA ?_;rw[F5 dQ _];show wpAny _ A.in1 (pyNext (.ref it) >>= _) _ _ s;have hm:ts[i]∈ts:=vB hlt;refine aQ (wpAny_pyNext_list_item hit hl (x:=.ref ts[i].p) (by simp[hlt]) fun h1 hit1 sb1=>?_);have ht1:∀ t∈ts,h1.IsTuple t.p #[t.key,t.v]:=fun t h=>(ht t h).extBut sb1.extBut (hp t h).1
  have hl1:=hl.extBut sb1.extBut hil;have hd1:=hd.extBut sb1.extBut hdi;obtain⟨o,ho,hc,c,hdat⟩:=id (ht1 _ hm);refine aQ (kP (aQ (wpAny_tryCatch ?_)));unfold Builtin.Dict.pairItems;refine aQ (wpAny_typeOf (s:={ s with heap:=h1 }) (T:="tuple") ⟨o,ho,hc⟩ ?_);rw[if_pos (by decide)];refine aQ (m:=seqItems? (.ref ts[i].p)) ?_;unfold seqItems?;refine aQ (wpAny_load (s:={ s with heap:=h1 }) ho ?_);rw[hdat];refine bH (bH ?_);show wpAny _ A.in1 (holding [ts[i].key,ts[i].v] (dictSet d ts[i].key ts[i].v)) _ _ { s with heap:=h1 };have hz:(merged [] ((uu ts).take i)).length≤sizeLine:=by
   have:=merged_length_le (K:=κ) [] ((uu ts).take i);rw[qy,cU]at this;simp at this
   lia
  refine kP (wpAny_dictSet_pairs (hsz:=hz) (hk _ hm) hd1 fun h2 hd2 sb2=>?_);refine bH ⟨plainId_quiet dQ _,?_⟩;have kp:∀ b o,b≠it→b≠d→s.heap.get? b=some o→h2.get? b=some o:=fun b o hb hb2 e=>(sb2.2 b hb2).trans ((sb1.2 b hb).trans e)
  have:=ih (i + 1) { s with heap:=h2,toks:=s.toks + 1 } (by lia) hlt (hit1.extBut sb2.extBut (Ne.symm hdi)) (hl1.extBut sb2.extBut hdl) (fun t h=>(ht1 t h).extBut sb2.extBut (hp t h).2)
   (by rw[merged_take_succ [] (uu ts) i (ts[i].k,ts[i].v) (by simp[hlt])]; exact hd2) fun s' k' g' dr' o' dd=>q s' (fun b o hb hb2 e=>k' b o hb hb2 (kp b o hb hb2 e)) g' dr' o' dd
  exact this
theorem vX{Q:Value→Shared→Prop}(hh:A.handled=none)(hl:s.heap.get? l=some {cls:=.type "list",data:=.seq (tE ts).toArray c})(ht:∀ t∈ts,s.heap.IsTuple t.p #[t.key,t.v])(hk:∀ t∈ts,knd.is t.k t.key=true)(hn:ts.length≤sizeLine)
  (q:∀ s':Shared,(∀ b o,s.heap.get? b=some o→s'.heap.get? b=some o)→s'.gens=s.gens→s'.drawn=s.drawn→s'.os=s.os→s'.heap.DictOf knd s.heap.objs.size (merged [] (uu ts))→Q (.ref s.heap.objs.size) s') :
  wpAny (model prog w) A (call (.type "dict") [.ref l]) Q E s:=by
 refine callType_codes (Q₁:=fun obj s₁=>obj=.ref s.heap.objs.size∧s₁={ s with heap:=s.heap.push { cls:=.type "dict",data:=.dict #[] } }) F.kt_called_dict (F.kt_typeCall_dict_1 _) F.entry_dict_init (kt_code_dict_new _ ⟨rfl,rfl⟩) ?_
 rintro obj s₁ ⟨rfl,rfl⟩
 have hnew:(s.heap.push { cls:=.type "dict",data:=.dict #[] }).DictOf knd s.heap.objs.size []:=Heap.DictOf.new s.heap;have hl1:(s.heap.push { cls:=.type "dict",data:=.dict #[] }).get? l=some { cls:=.type "list",data:=.seq (tE ts).toArray c }:=dE _ hl;have hz1:(s.heap.push { cls:=.type "dict",data:=.dict #[] }).objs.size=s.heap.objs.size + 1:=Ck ..;have hk1:∀ b o,s.heap.get? b=some o→(s.heap.push { cls:=.type "dict",data:=.dict #[] }).get? b=some o:=fun b o e=>dE _ e
 refine⟨hnew.typeIs,F.args_dict_init_2 _ _,?_⟩;generalize s.heap.push { cls:=.type "dict",data:=.dict #[] }=g1 at *;unfold Builtin.«dict.__init__»;refine aQ ?_;unfold Builtin.Dict.selfAndRest;refine aQ (wpAny_notOrdered_dict (s:={ s with heap:=g1 }) hnew.typeIs ?_);show wpAny _ _ (pure (s.heap.objs.size,[Value.ref l])) _ _ _;refine bH ?_;show wpAny _ _ (Builtin.Dict.updateFrom "dict.__init__" s.heap.objs.size (.ref l) [] .none) _ _ _;unfold Builtin.Dict.updateFrom;refine aQ (wpAny_typeOf (s:={ s with heap:=g1 }) (T:="list") ⟨_,hl1,rfl⟩ ?_);rw[if_pos (by decide)];refine aQ (ze (s:={ s with heap:=g1 }) hl1 (by exact hh) fun h2 tk2 k2=>?_);rw[if_pos (by rfl)];refine aQ (tR ?_);have hl2:h2.IsList l (tE ts).toArray:=⟨_,k2 _ _ hl1,rfl,_,rfl⟩
 have hd2:h2.DictOf knd s.heap.objs.size []:=by
  obtain⟨o,es,ep,ho,r⟩:=hnew;exact⟨o,es,ep,k2 _ _ ho,r⟩
 have lt1:∀ b o,g1.get? b=some o→b < h2.objs.size:=fun b o e=>dy (k2 b o e)
 refine aQ (wpAny_pyIter_list (s:={ s with heap:=h2,toks:=tk2 }) hl2 (bH ⟨plainId_quiet dQ _,?_⟩));have hs2:s.heap.objs.size < h2.objs.size:=by
  obtain⟨o,es,ep,ho,r⟩:=hd2;exact dy ho
 refine AZ (ts:=ts) (knd:=knd) (s:={ s with heap:=h2.push { cls:=.type "list_iterator",data:=.fields #[.ref l,.int 0 0] },toks:=tk2 }) (n:=ts.length) (i:=0) (l:=l) (by exact hh) (eR (lt1 l _ hl1)) (eR hs2) (eR (dy hl)) ?_ hk hn rfl (fE _)
  ⟨_,jN _ rfl,rfl,rfl⟩ ?_ ?_ ?_ fun s' k' g' d' o' dd=>?_
 ·intro t h;obtain⟨o,ho,_⟩:=ht t h;exact⟨eR (lt1 _ _ (hk1 _ _ ho)),eR (dy ho)⟩
 ·obtain⟨o,ho,r⟩:=hl2;exact⟨o,dE _ ho,r⟩
 ·intro t h;obtain⟨o,ho,r⟩:=ht t h;exact⟨o,dE _ (k2 _ _ (hk1 _ _ ho)),r⟩
 ·exact hd2.push _
 ·refine⟨rfl,q s' (fun b o e=>?_) g' d' o' dd⟩;exact k' b o (eR (lt1 b o (hk1 b o e))) (eR (dy e)) (dE _ (k2 _ _ (hk1 _ _ e)))
end
end Srt
namespace L2
open PySem PySem.Spec PyProof.Rows
variable {w:World}{X:Cx}{s:Shared}{prog:Program}{A:Around}{pos:Pos}{Q E:Value→Shared→Prop}{σ:St}{H:Hp}{a:Addr}{es:List Expr}
section
variable {κ:Type} [DecidableEq κ] {knd:PySem.KeyKind prog w κ}
theorem sQ{d:Addr}{kvs:List (κ × Value)}{k:κ}{key dflt:Value}(hkey:knd.is k key=true)(hm:s.heap.DictOf knd d kvs)(hz:kvs.length≤sizeLine)
  (there:∀ v,valueAt kvs k=some v→Q v {s with toks:=s.toks + 1})
  (new:valueAt kvs k=none→∀ h',h'.DictOf knd d (kvs++[(k,dflt)])→Heap.SameBut d s.heap h'→Q dflt {s with heap:=h',toks:=s.toks + 1}):wpAny (model prog w) A (dictSetDefault d key dflt) Q E s:=by
 obtain⟨o,es,ep,ho,hc,hd,hk,hp,hn⟩:=hm;have hl:=hp.length;have hf:(es.toList.find? fun e=>knd.is k e.key).map (·.val)=valueAt kvs k:=hp.find k;have hes:es.size≤sizeLine:=by rw[jP]at hl; lia
 have hidx:(es.findIdx? fun e=>knd.is k e.key)=kvs.findIdx? fun kv=>decide (kv.1=k):=by
  rw[← hp.findIdx k]; obtain⟨l⟩:=es; simp
 unfold dictSetDefault;refine kP (aQ (knd.pyHash hkey (aQ (wpAny_dictFind_of (s:={ s with toks:=s.toks + 1 }) hkey ho hd hk ?_))));cases hi:es.findIdx? fun e=>knd.is k e.key with
 | some i=>
  refine aQ (wpAny_dictEntries (s:={ s with toks:=s.toks + 1 }) ho hd ?_);have hi':=Array.findIdx?_eq_some_iff_findIdx_eq.mp hi;have hlt:i < es.size:=hi'.1;rw[Eu hlt];refine aQ (tR (bH (there _ ?_)));have:findBy knd.is es k=(es[i]?).map (·.val):=by rw[findBy_of_findIdx?,hi]
  rw[Eu hlt]at this;rw[← hf];unfold findBy at this;rw[Array.find?_toList];exact this
 | none=>
  have hnot:k∉kvs.map (·.1):=not_mem_of_findIdx_none (hidx ▸ hi);have hva:valueAt kvs k=none:=by
   cases e:valueAt kvs k with
   | none=>rfl
   | some v=>
    exfalso;unfold valueAt at e;rw[Ed]at e;obtain⟨q,hq,_⟩:=e;exact hnot (zM.mpr ⟨q,List.mem_of_find?_eq_some hq,pH (List.find?_some (p:=fun kv:κ × Value=>decide (kv.1=k)) hq)⟩)
  refine aQ (tR (aQ (wpAny_updateDictKeys (hz:=hes) (s:={ s with toks:=s.toks + 1 }) ho hd (bH (new hva _ ⟨_,_,ep + 1,Fn _ ho (Obj.isFreed_of_dict (Obj.data_mapDictKeys hd _)),
   hc.mapDictKeys _,Obj.data_mapDictKeys hd _,hk.push hkey _,?_,?_⟩ (Heap.SameBut.update ..))))))
  ·have:=hp.append hkey (knd.hash k) dflt;obtain⟨l⟩:=es
   simpa using this
  ·rw[je,List.nodup_append];refine⟨hn,by simp,?_⟩;intro a ha b hb;simp only[mD,List.map_nil,dU]at hb;subst hb;exact fun e=>hnot (e ▸ ha)
end
theorem Inv.new{pins:List (Addr × Obj)}{s':Shared}{o:HO}(I:Inv X pins σ H s)(k:∀ b u,s.heap.get? b=some u→s'.heap.get? b=some u)(g:s'.gens=s.gens)(d:s'.drawn=s.drawn)(os:s'.os=s.os)
  (hp:s.heap.objs.size≤a) (new:cO X.prog X.w (upd H a o) s'.heap a o):Inv X pins σ (upd H a o) s':=by
 obtain⟨h',g',d',t',o'⟩:=s';cases g;cases d;cases os;exact I.laid (t':=t') k hp new
theorem FI{i:Int}{v:Value}(h:mj (.inl i) v=true):∃ t,v=.int i t:=by
 rcases bS h with ⟨j,t,e,rfl⟩ | ⟨x,t,e,_⟩
 ·cases e; exact⟨t,rfl⟩
 ·cases e
theorem tV:∀ {us:List Value} {ns:List Int},IntsAre us ns→Vals (ns.map V.int) us
 | _,_,.nil=>.nil
 | _,_,.cons n t h=>.cons ⟨t,rfl⟩ (tV h)
def A7:List V→Hp→VK→Prop:=fun xs H Q=>∃ (p:Addr) (kvs:List (Key × V)) (ns:List Int),xs=[.ref p]∧H p=some (.dK kvs)∧kvs.map (·.1)=ns.map Sum.inl∧kvs.length < 128∧
 ∀ (l:Addr) (ns':List Int),H l=none→ns'.Perm ns→ns'.Pairwise (·≤·)→Q (.ref l) (upd H l (.lst (ns'.map V.int)))
theorem kh(hc:X.calm=true):fX X (.builtin "sorted") A7:=by
 intro pins s σ H xs us Q I r h;obtain⟨p,kvs,ns,rfl,hp,hk,hl,q⟩:=h;obtain⟨u,rfl,ru⟩:=r.one;cases ru;obtain⟨z,hsm,vs,rel,dd⟩:=yq I.hok hp;obtain⟨ep,da⟩:=dd.dictAt;refine Srt.uv (f:=Sum.inl) (I.ok.hd hc) hsm da (fun i v hv=>FI hv) (by rw[← rel.keys]; exact hk) (by rw[← rel.length]; exact hl) fun s' l out ns' c k g d o hlt hl' i1 i2 i3=>?_
 have hn:=I.hok.fresh hlt;refine⟨.ref l,_,I.new k g d o hlt (o:=.lst (ns'.map V.int)) ⟨?_,out.toList,c,tV i1,?_⟩,rfl,q l ns' hn i2 i3⟩
 ·rw[cU,i2.length_eq,← cU (f:=(Sum.inl:Int→Key)),← hk,cU,uF]
  lia
 ·exact hl'
def EF:List V→Hp→VK→Prop:=fun xs H Q=>∃ (l:Addr) (ps:List (Addr × Key × V)),xs=[.ref l]∧H l=some (.lst (ps.map fun t=>.ref t.1))∧(∀ t∈ps,H t.1=some (.tup [kV t.2.1,t.2.2]))∧
 ∀ p,H p=none→Q (.ref p) (upd H p (.dK (dS [] (ps.map (·.2)))))
theorem Bq{P:Program}{w:World}{H:Hp}{h:Heap}(ok:jh P w H h):∀ {ps:List (Addr × Key × V)},(∀ t∈ps,H t.1=some (.tup [kV t.2.1,t.2.2]))→
  ∃ ts:List (Srt.Pr Key),ts.map (·.p)=ps.map (·.1)∧(∀ t∈ts,h.IsTuple t.p #[t.key,t.v])∧(∀ t∈ts,(bt P w).is t.k t.key=true)∧KV (ps.map (·.2)) (Srt.uu ts)
 | [],_=>⟨[],rfl,fun _ h=>absurd h o7,fun _ h=>absurd h o7,Paired.nil⟩
 | (p,k,v)::ps,hp=>by
  obtain⟨ts,e1,e2,e3,e4⟩:=Bq ok (ps:=ps) fun t ht=>hp t (tu _ ht)
  have hx:H p=some (.tup [kV k,v]):=hp _ oE;obtain⟨z,its,rv,o,ho,hc,n,hd⟩:=ok p _ hx;obtain⟨u1,u2,rfl,r1,r2⟩:=rv.two;refine⟨⟨p,k,u1,u2⟩::ts,by rw[mD,mD,e1],fun t ht=>?_,fun t ht=>?_,.cons ⟨rfl,r2⟩ e4⟩
  ·rcases dO.mp ht with rfl | ht
   ·exact⟨o,ho,hc,n,hd⟩
   ·exact e2 t ht
  ·rcases dO.mp ht with rfl | ht
   ·exact lQ r1
   ·exact e3 t ht
theorem pX:∀ {as:List Addr} {us:List Value},Vals (as.map V.ref) us→us=as.map Value.ref
 | [],_,.nil=>rfl
 | a::as,_,.cons r t=>by rw[mD,pX t]; cases r; rfl
theorem xa(hc:X.calm=true):fX X (.type "dict") EF:=by
 intro pins s σ H xs us Q I r h;obtain⟨l,ps,rfl,hl,ht,q⟩:=h;obtain⟨u,rfl,ru⟩:=r.one;cases ru;obtain⟨z,its,n,rv,hlen,e⟩:=I.tm hl;obtain⟨ts,e1,e2,e3,e4⟩:=Bq I.hok ht;have ei:its=Srt.tE ts:=by
  have:(ps.map fun t=>V.ref t.1)=(ps.map (·.1)).map V.ref:=by rw[List.map_map]; rfl
  rw[this]at rv;rw[pX rv,← e1,List.map_map]; rfl
 subst ei;have hz:ts.length≤sizeLine:=by
  have:=congrArg List.length e1;rw[cU,cU]at this;rw[cU]at z
  lia
 refine Srt.vX (knd:=bt X.prog X.w) (I.ok.hd hc) e e2 e3 hz fun s' k g d o dd=>?_
 refine⟨.ref s.heap.objs.size,_,I.new k g d o (cq _) (o:=.dK (dS [] (ps.map (·.2)))) ?_,rfl,q _ I.fresh⟩;have hb:(s.heap.objs.size == sysModules)=false:=ET.mpr (Ne.symm (eR I.big));refine⟨?_,hb,merged [] (Srt.uu ts),KV.merge e4 .nil,dd⟩;have:=fT (ps.map (·.2)) [];rw[cU]at this z;simp at this
 lia
def GD:V→List V→Hp→VK→Prop:=fun x vs H Q=>∃ (d:Addr) (kvs:List (Key × V)) (k:Key) (y:V),x=.ref d∧vs=[kV k,y]∧H d=some (.dK kvs)∧kvs.length < sizeLine∧(∀ v,cv kvs k=some v→Q v H)∧(cv kvs k=none→Q y (upd H d (.dK (kvs++[(k,y)]))))
theorem lM:entryFor table "dict.setdefault" = some Builtin.«dict.setdefault»:=entryFor_of_fast (by kernel_rfl)
theorem o9:Hr X "dict.setdefault" GD:=by
 intro pins s σ H x vs v us Q I rx rv h;obtain⟨d,kvs,k,y,rfl,rfl,hd,hz,q1,q2⟩:=h;cases rx;obtain⟨u1,u2,rfl,r1,r2⟩:=rv.two;obtain⟨z,hsm,ws,rel,dd⟩:=yq I.hok hd;have hlen:=rel.length;refine yp F.slot_dict_setdefault dd.typeIs lM ?_ (F.args_dict_setdefault_3 _ _ _);unfold Builtin.«dict.setdefault»;refine aQ ?_;unfold Builtin.Dict.keyAndDefault;refine aQ (wpAny_notOrdered_dict dd.typeIs ?_);show wpAny _ _ (pure (d,u1,some u2)) _ _ s;refine bH ?_;show wpAny _ _ (if (d == sysModules)=true then _ else (dictSetDefault d u1 u2 >>= _)) _ _ s;rw[if_neg (by rw[hsm]; exact gW)];refine aQ (sQ (lQ r1) dd (by lia) (fun v hv=>bH ⟨v,rfl,?_⟩) fun hn h' dd' hs=>bH ⟨u2,rfl,?_⟩)
 ·have:=rel.val k;rw[hv]at this;cases e:cv kvs k with
  | none=>rw[e]at this; exact this.elim
  | some w'=>
   rw[e]at this;exact⟨w',H,I.tok _,this,q1 w' e⟩
 ·have:=rel.val k;rw[hn]at this;cases e:cv kvs k with
  | some w'=>rw[e]at this; exact this.elim
  | none=>
   have he:∃ q,h'.get? d=some q:=let ⟨q,_,_,hq,_⟩:=dd'; ⟨q,hq⟩
   refine⟨y,_,iT I (by rw[hd]; exact True.intro) hs he (wo ?_ hsm ?_ dd'),r2,q2 e⟩
   ·rw[iD,vm]; lia
   ·have p:=rel.put k r2;rw[uI y e]at p;have e2:stored ws k u2=ws++[(k,u2)]:=by
     unfold stored;rw[if_neg];rw[← rel.any k,fm,e];exact gW
    rw[e2]at p;exact p
section
variable {e:Expr}{te:TE}{lo hi:Option Expr}{st:Expr}{tl th tk:TO}{p2:Pos}
end
open AutoSeq1 (wpAny_loadPart')
theorem mF(l:Addr)(items:Array Value)(n:Nat)(dct:Option Addr)(sl:Array (Option Value)) :
  Meets (Builtin.«enumerate.__new__» ⟨[.type "enumerate",.ref l],[]⟩) (fun _ R s=>s.heap.get? l=some { cls:=.type "tuple",dict:=dct,data:=.seq items n,slots:=sl }∧
   R (.ok (.ret (.ref (s.heap.push { cls:=.type "tuple_iterator",data:=.fields #[.ref l,.int 0 0] }).objs.size)))
    { s with heap:=(s.heap.push { cls:=.type "tuple_iterator",data:=.fields #[.ref l,.int 0 0] }).push { cls:=.type "enumerate",data:=.fields #[.none,.bool false,.ref s.heap.objs.size,rawInt 0,.none,.none] } }):=
 .of_wp fun prog w A R s h=>by
  obtain⟨hp,g,d,tk,os⟩:=s; obtain⟨hl,h⟩:=h;have hsub:=sub_enumerate;have hL:Heap.IsTuple (Shared.heap ⟨hp,g,d,tk,os⟩) l items:=⟨_,hl,rfl,n,rfl⟩
  wp_walk using wpAny_loadPart' hl
  refine wpAny_stack_any fun st=>bH ?_
  split
  ·rename_i c _ _ _ _ _;cases (c == Value.type "enumerate")
   ·wp_walk using wpAny_loadPart' hl,F4 hL
    exact⟨_,rfl,h⟩
   ·wp_walk using wpAny_loadPart' hl,F4 hL
    exact⟨_,rfl,h⟩
  ·wp_walk using wpAny_loadPart' hl,F4 hL
   exact⟨_,rfl,h⟩
theorem mr{l:Addr}{items:Array Value}(hL:s.heap.IsTuple l items)
  (h:∀ h',IsEnum h' (s.heap.objs.size + 1) s.heap.objs.size 0 .none→h'.IsTupleIter s.heap.objs.size l 0→(∀ b o,s.heap.get? b=some o→h'.get? b=some o)→Q (.ref (s.heap.objs.size + 1)) {s with heap:=h'}) :
  wpAny (model prog w) A (call (.type "enumerate") [.ref l]) Q E s:=by
 obtain⟨⟨c,dct,dt,sl⟩,hl,hc,n,hd⟩:=hL;replace hc:c=.type "tuple":=hc;replace hd:dt=.seq items n:=hd;subst hc hd;refine callType_new F.called_enumerate (by decide) (F.typeCall_enumerate_1 _) (F.newCall_enumerate_1 _) (fun obj=>F.args_object_init_2 obj _) F.entry_enumerate_new
  (mF l items n dct sl) ⟨hl,?_⟩
 have hz:(s.heap.push { cls:=.type "tuple_iterator",data:=.fields #[.ref l,.int 0 0] }).objs.size=s.heap.objs.size + 1:=Ck ..;show _∧_;rw[hz]
 have he:IsEnum ((s.heap.push { cls:=.type "tuple_iterator",data:=.fields #[.ref l,.int 0 0] }).push
   { cls:=.type "enumerate",data:=.fields #[.none,.bool false,.ref s.heap.objs.size,rawInt 0,.none,.none] }) (s.heap.objs.size + 1) s.heap.objs.size 0 .none:=by
  have:=jN (s.heap.push { cls:=.type "tuple_iterator",data:=.fields #[.ref l,.int 0 0] })
   (o:={ cls:=.type "enumerate",data:=.fields #[.none,.bool false,.ref s.heap.objs.size,rawInt 0,.none,.none] }) rfl
  rw[hz]at this; exact this
 exact⟨⟨_,he,rfl⟩,h _ he ⟨_,dE _ (jN _ rfl),rfl,rfl⟩ fun b o x=>dE _ (dE _ x)⟩
theorem z9(hh:A.handled=none)(it l:Addr)(hne:l≠it)(items:Array Value) :
  Draws prog w A it [it,l] items.size (fun i v=>items[i]?=some v) (fun i h=>h.IsTupleIter it l i∧h.IsTuple l items) where
 live:=fun _ _ st=>let ⟨o,ho,_⟩:=st.1; ⟨o,ho⟩
 frame:=fun _ _ _ st hk=>⟨st.1.at fun o e=>hk it (by simp) o e,st.2.at fun o e=>hk l (by simp) o e⟩
 item:=fun i s Q E hi st hQ=>by
  refine ZT.next_item st.1 st.2 (x:=items[i]) (by simp[hi]) fun h' hit' hs'=>?_
  exact hQ _ h' s.toks (by simp[hi]) ⟨hit',st.2.extBut hs'.extBut hne⟩ hs'
 done:=fun s Q E st hE=>ZT.next_end hh st.1 st.2 (by simp) hE
def BD(K:aW)(a:Addr):It:=
 ⟨fun i H=>∃ xs x,bY K H a xs∧xs[i]?=some x,fun i H x H'=>∃ t,H t=none∧x=.ref t∧∀ xs,bY K H a xs→∃ v,xs[i]?=some v∧H'=upd H t (.tup [.int i,v]),fun i H=>∃ xs,bY K H a xs∧xs.length≤i⟩
theorem vW{P:Program}{K:aW}{k:Nat}(a e it:Addr)(hne:e≠it) :
  Turn P w K (.Tuple es k pos) (BD K a) [e,it] e (fun i h=>(∃ old,IsEnum h e it (i:Int) old)∧h.IsTupleIter it a i) where
 mem:=by simp
 obj:=fun i h st b hb=>by
  obtain⟨⟨old,st1⟩,o,e2,c,d⟩:=st;simp only[dO,o7,or_false]at hb;rcases hb with rfl | rfl
  ·exact⟨_,st1,fun v z=>by cases z⟩
  ·exact⟨o,e2,fun v z=>by rw[d]at z; cases z⟩
 keep:=fun i h h' st kp=>⟨let ⟨old,z⟩:=st.1; ⟨old,kp e (by simp) _ z⟩,st.2.at fun o q=>kp it (by simp) o q⟩
 item:=by
  intro X hP hw hK hc i pins s σ H E I hf st hg;subst hP hw hK;obtain⟨xs,x,hq,hx⟩:=hg;obtain⟨its,rv,p,hz⟩:=I.tuple hq;obtain⟨u,hu,ru⟩:=rv.get hx;obtain⟨⟨old,st1⟩,st2⟩:=st;have pt:s.heap.IsTuple a its.toArray:=p;have hnt:a≠it:=fun z=>by
   obtain⟨o1,q1,c1,_⟩:=pt;obtain⟨o2,q2,c2,_⟩:=st2;rw[z,q2]at q1;cases q1;rw[c1]at c2;exact absurd c2 (by decide)
  have hea:e≠a:=fun z=>by
   obtain⟨o1,q1,c1,_⟩:=pt;have st1':=st1;rw[z]at st1';rw[show s.heap.get? a=_ from st1']at q1;cases q1;exact absurd (show Value.type "enumerate" = Value.type "tuple" from c1) (by decide)
  refine wpAny_pyNext_enum_itemD (z9 (A:=X.A.in1) (I.ok.hd hc) it a hnt its.toArray) st1 ⟨st2,pt⟩ (by rw[dY,← rv.length]; exact (eQ.mp hx).1) hne (by simp[hne,hea]) fun u' h1 tk hp o1 l1 t1 z1 k1=>?_
  have eu:u'=u:=by
   have h2:its.toArray[i]?=some u:=by simpa using hu
   rw[h2]at hp;exact (mW hp).symm
  subst eu;have l1:=l1.1;refine⟨_,rfl,wpAny_letOwnedTupleGo_enum o1 fun h2 o2 b2=>?_⟩;have hnew:H s.heap.objs.size=none:=I.fresh;have lte:e < s.heap.objs.size:=dy st1;have k2:∀ b o,b≠e→b≠it→s.heap.get? b=some o→h2.get? b=some o:=fun b o b1 b2' q=>b2.extBut b o b1 (k1 b o b1 b2' q)
  have t2:h2.get? s.heap.objs.size=some { cls:=.type "tuple",data:=.seq #[.int i tk,u'] }:=b2.extBut _ _ (Nat.ne_of_gt lte) t1;have fe:=hf e (by simp);have fi:=hf it (by simp);have nch:∀ b o,H b=some o→b≠e∧b≠it:=fun b o q=>⟨fun z=>by (rw[z,fe.1]at q; cases q),fun z=>by (rw[z,fi.1]at q; cases q)⟩
  have I2:Inv X pins σ (upd H s.heap.objs.size (.tup [.int i,x])) { s with heap:=h2,gens:=s.gens,drawn:=s.drawn,toks:=tk + 1 }:=by
   refine I.step (ch:=[e,it]) (fun b hb=>?_) (fun b o _ _ hc q _=>k2 b o (fun z=>hc (by simp[z])) (fun z=>hc (by simp[z])) q) (fun b o _ _ hc q _=>⟨o.slots,k2 b o (fun z=>hc (by simp[z])) (fun z=>hc (by simp[z])) q⟩)
    (fun b o _ q n=>by rw[aq (eR (dy q))]; exact n) (fun b o hc q=>⟨o,k2 b o (fun z=>hc (by simp[z])) (fun z=>hc (by simp[z])) q⟩)
    (fun b zs q=>by rw[aq (aH q hnew)]; exact q) (fun b o v q=>by rw[aq (aH q hnew)]; exact q) (fun b ps q=>⟨#[],by rw[aq (aH q hnew),q]; simp⟩) (fun m hm=>?_) (fun b o q=>?_) I.bare
   ·simp only[dO,o7,or_false]at hb;rcases hb with rfl | rfl
    ·exact⟨fe.2.2.2.1,fe.2.1,fe.2.2.2.2.1,fe.2.2.2.2.2⟩
    ·exact⟨fi.2.2.2.1,fi.2.1,fi.2.2.2.2.1,fi.2.2.2.2.2⟩
   ·obtain⟨o,es',ep,ho,r⟩:=hm;exact⟨o,es',ep,k2 _ o (Ne.symm fe.2.1) (Ne.symm fi.2.1) ho,r⟩
   ·by_cases hb:b=s.heap.objs.size
    ·subst hb;rw[af]at q;cases q;exact⟨by show 2≤sizeLine; decide,[.int i tk,u'],.cons ⟨_,rfl⟩ (.cons ru .nil),_,t2,rfl,_,rfl⟩
    ·rw[aq hb]at q;refine (I.hok b o q).sP (fun c v hc z=>k2 c v ?_ ?_ z) (fun c z=>by rw[aq (aH z hnew)]; exact z) fun c zs z=>by rw[aq (aH z hnew)]; exact z
     ·rcases hc with z' | z'
      ·rw[z']; exact (nch b o q).1
      ·exact (nch c _ z').1
     ·rcases hc with z' | z'
      ·rw[z']; exact (nch b o q).2
      ·exact (nch c _ z').2
  refine⟨.ref s.heap.objs.size,_,I2,rfl,⟨_,hnew,rfl,fun ys hy=>⟨x,by rw[I.jb hy hq]; exact hx,rfl⟩⟩,⟨⟨u',?_⟩,l1.extBut b2.extBut (Ne.symm hne)⟩,fun b hb=>?_⟩
  ·have:((i:Int) + 1)=((i + 1:Nat):Int):=by lia
   rw[← this]; exact o2
  ·simp only[dO,o7,or_false]at hb;rcases hb with rfl | rfl
   ·rw[aq (eR lte)]; exact fe.1
   ·obtain⟨oi,ei,_⟩:=st2;rw[aq (eR (dy ei))]; exact fi.1
 done:=by
  intro X hP hw hK hc i pins s σ H E I hf st hg;subst hP hw hK;obtain⟨xs,hq,hx⟩:=hg;obtain⟨its,rv,p,hz⟩:=I.tuple hq;obtain⟨⟨old,st1⟩,st2⟩:=st;obtain⟨f0,f1,f2,f3,f4,f5⟩:=hf it (by simp);have hl:=rv.length;have pt:s.heap.IsTuple a its.toArray:=p;have hnt:a≠it:=fun z=>by
   obtain⟨o1,q1,c1,_⟩:=pt;obtain⟨o2,q2,c2,_⟩:=st2;rw[z,q2]at q1;cases q1;rw[c1]at c2;exact absurd c2 (by decide)
  have hT:s.TypeIs (.ref e) "enumerate":=⟨_,st1,rfl⟩
  unfold pyNext;refine aQ (wpAny_attempt (Eb (name:=Str.ofString "__next__") hT F.slot_enumerate_next (yp F.slot_enumerate_next hT F.entry_enumerate_next ?_ (F.args_enumerate_next_1 _))));show wpAny _ _ (field (.ref e) 2 >>= _) _ _ _;refine aQ (o6 st1 rfl (x:=.ref it) rfl ?_);refine aQ (ZT.next_end (A:=X.A.in1) (I.ok.hd hc) st2 pt (by simp; lia) fun h' x eb hx'=>?_);obtain⟨ox,hox,hcx⟩:=hx';refine aQ (wpAny_isInstance (T:="StopIteration") (b:=true) ⟨ox,hox,hcx⟩ isSubtype_stop ?_);exact bH ⟨rfl,I.turned (t':=s.toks) (fun b o hb e=>eb b o hb e) f0 f1 f3 f4 f5⟩
 self:=fun A i s Q E st h=>by
  obtain⟨old,st1⟩:=st.1;have hT:s.TypeIs (.ref e) "enumerate":=⟨_,st1,rfl⟩
  exact wpAny_pyIter_slot hT F.slot_enumerate_iter (yp F.slot_enumerate_iter hT F.entry_enumerate_iter (bH ⟨_,rfl, "enumerate",_,hT,F.slot_enumerate_next.lookup,h⟩) (F.args_enumerate_iter_1 _))
def Fg(K:aW)(ta:TA):TI:=fun σ H R=>ta σ H fun vs H1=>aw R (fun a R=>vs=[.ref a]∧(∃ xs,bY K H1 a xs)∧R (BD K a) H1)
theorem An{k:Nat}{post:Pos}{a:Expr}{ta:TA}{p:Pos}(hg:Gl X "enumerate")(hm:X.mg "enumerate" = none)(ha:PA X [a] ta)(hs:autoParam (starEach [a] X.env=[(false,eval a X.env)]) q_1) :
  PI X (.Tuple es k post) (.Call (.Name "enumerate" p) [a] [] pos) (Fg X.K ta):=by
 intro pins s σ H R I h;refine Call_ (gr I hg hm PyProof.Rows.boot_enumerate (D5 (bW (ha pos pins s σ H _ I h) fun us s1 hpat=>?_) hs rfl));obtain⟨vs,H1,I1,r1,q1⟩:=hpat;obtain⟨l,rfl,⟨xs,hq⟩,q⟩:=q1;obtain⟨u,rfl,ru⟩:=r1.one;cases ru;obtain⟨its,rv,pl,hz⟩:=I1.tuple hq;refine mr (show s1.heap.IsTuple l its.toArray from pl) fun h' en it kp=>?_
 have T:=vW (P:=X.prog) (w:=X.w) (K:=X.K) (es:=es) (k:=k) (pos:=post) l (s1.heap.objs.size + 1) s1.heap.objs.size (Nat.succ_ne_self _);have st:(∃ old,IsEnum h' (s1.heap.objs.size + 1) s1.heap.objs.size (((0:Nat)):Int) old)∧h'.IsTupleIter s1.heap.objs.size l 0:=⟨⟨_,en⟩,it⟩
 have I2:Inv X pins σ H1 { s1 with heap:=h' }:=I1.kept (t':=s1.toks) kp;refine T.self X.A 0 { s1 with heap:=h' } _ _ st ?_;refine⟨_,_,_,_,H1,rfl,I2,T,st,fun b hb=>?_,q⟩;simp only[dO,o7,or_false]at hb;rcases hb with rfl | rfl
 ·exact I1.xm (zH _) (I1.hok.fresh (zH _))
 ·exact I1.xm (cq _) (I1.hok.fresh (cq _))
theorem zg{K:aW}{xs:List V}{g:TG}{tb:TS}{D:Ends}(Pv:Nat→St→Hp→Prop)(h0:Pv 0 σ H)(hl:∀ i σ H,i≤xs.length→Pv i σ H→bY K H a xs)
  (hs:∀ i x σ H t,xs[i]?=some x→Pv i σ H→H t=none→g (.ref t) σ (upd H t (.tup [.int (i:Int),x])) fun σ2 H2=>tb {D with nx:=Pv (i + 1),ct:=Pv (i + 1),bk:=D.nx} σ2 H2) (hd:∀ σ H,Pv xs.length σ H→D.nx σ H) :
  ∃ W:Nat→Nat→St→Hp→Prop,(∃ m,W 0 m σ H)∧∀ i m σ H,W i m σ H→
   ((BD K a).stop i H∧D.nx σ H)∨((BD K a).go i H∧∃ N:St→Hp→Prop,(∀ σ' H',N σ' H'→∃ m',m' < m∧W (i + 1) m' σ' H')∧∀ x H',(BD K a).yld i H x H'→g x σ H' fun σ2 H2=>tb { D with nx:=N,ct:=N,bk:=D.nx } σ2 H2):=by
 refine⟨fun i m σ H=>i≤xs.length∧m=xs.length - i∧Pv i σ H,⟨xs.length,fE _,rfl,h0⟩,fun i m σ H hw=>?_⟩;obtain⟨hi,rfl,hp⟩:=hw;have hq:=hl i σ H hi hp;by_cases hlt:i < xs.length
 ·refine .inr ⟨⟨xs,xs[i],hq,cu hlt⟩,Pv (i + 1),fun σ' H' h'=>⟨xs.length - (i + 1),by lia,by lia,rfl,h'⟩,fun x H' hy=>?_⟩;obtain⟨t,nt,rfl,hv⟩:=hy;obtain⟨v,ev,rfl⟩:=hv xs hq;exact hs i v σ H t ev hp nt
 ·have e:i=xs.length:=by lia
  subst e;exact .inl ⟨⟨xs,hq,cq _⟩,hd σ H hp⟩
end L2
namespace L2
open PySem PySem.Spec PyProof.Rows
section
variable {X:Cx}
theorem Inv.forget{pins:List (Addr × Obj)}{σ:List (Option V)}{H:Hp}{s:Shared}(I:Inv X pins σ H s)(j:Nat):Inv X pins (σ.set j none) H s:=by
 obtain⟨m,hn,hm⟩:=I.loc;refine⟨I.ok,I.os,I.bare,I.base,⟨m,hn,fun i x v e1 e2 e3=>hm i x v e1 ?_ e3⟩,I.cell,I.free,I.freeC,I.pin,I.hok,by rw[xI]; exact I.len⟩;by_cases h:j=i
 ·subst h;rw[List.getElem?_set]at e2;simp at e2
 ·rw[Af h]at e2;exact e2
def DV(j:Nat)(t:TS):TS:=fun D σ H=>t D (σ.set j none) H
theorem zl{st:Stmt}{t:TS}{j:Nat}(hs:PS X st t):PS X st (DV j t):=fun pins s σ H D I h=>hs pins s (σ.set j none) H D (I.forget j) h
end
end L2
namespace Srt
open PySem PyProof.Rows
variable {items:Array Value}
theorem Dl:typeLookup (.type "list_reverseiterator") "__len__" = pure none:=by rw[typeLookup_type,FZ]; kernel_rfl
theorem Bh:typeLookup (.type "list_reverseiterator") "__length_hint__" = pure (some (.builtin "list_reverseiterator.__length_hint__")):=by rw[typeLookup_type,FZ]; kernel_rfl
section
variable {prog:Program}{w:World}{A:Around}{s:Shared}{R:Result→Shared→Prop}
theorem vK(S l I:Addr)(res:Value)(c₀:Nat)(hh:A.handled=none)(hSI:I≠S)(hSl:l≠S)(hIl:l≠I)
  (hS:s.heap.get? S=some {cls:=.type "list",data:=.seq #[] c₀}) (hI:s.heap.IsRevIter I l ((items.size:Int) - 1)) (hl:s.heap.IsList l items) (hn:items.size≤sizeLine)
  (hR:∀ s' acc c',(∀ b o,b≠S→b≠I→s.heap.get? b=some o→s'.heap.get? b=some o)→s'.gens=s.gens→s'.drawn=s.drawn→s'.os=s.os→
   s'.heap.get? S=some {cls:=.type "list",dict:=none,data:=.seq acc c',slots:=#[]}→ItemsOf (fun i v=>items[items.size - 1 - i]?=some v) acc items.size→R (.ok (.ret res)) s') :
  wpAny (model prog w) A.in1 (Builtin.List.listExtendWith (.ref S) (.ref I) res)
   (fun fin s'=>match fin with | .done f=>R (.ok f) s' | .again c'=>c'.quiet=true∧codeAny (model prog w) A c' R s') (fun e s'=>R (.error e) s') s:=by
 have hT:=hI.typeIs;unfold Builtin.List.listExtendWith;refine aQ (wpAny_typeOf hT ?_);have h1:Builtin.List.listSameRef (.ref S) (.ref I)=false:=by simp[Builtin.List.listSameRef,Ne.symm hSI]
 rw[if_neg (by rw[h1]; decide)];refine aQ (wpAny_pyIter_revIter hI ?_);refine aQ (kP ?_);unfold Builtin.List.listLengthHint;refine aQ (Cq hT Dl ?_);show wpAny _ A.in1 (specialOf (Value.ref I) (Str.ofString "__length_hint__") >>= _) _ _ _;refine aQ (Cq hT Bh ?_)
 (generalize hid:("list_reverseiterator.__length_hint__":String)=id0; (fail_if_success (clear hid id0)); wp_delta; rw[show splitId id0=some ("list_reverseiterator","__length_hint__") from by subst hid; decide +kernel]; subst hid)
 refine aQ (wpAny_isInstance (b:=true) hT (by rw[isSubtype_type]; kernel_rfl) ?_);refine bH ?_;show wpAny _ A.in1 (again (.builtin "list.extend.loop" ⟨[.ref S,.ref I,res],[]⟩)) _ _ _;have W:=(Walks.listRev (prog:=prog) (w:=w) (A:=A.in1) hh I l hIl items).toS;refine bH ⟨plainId_quiet F9 _,codeAny_extend_loopS W hn S (by simp[Ne.symm hSI,Ne.symm hSl]) _ items.size 0 _ _ _ rfl (fE _) ?_ hS (ItemsOf.nil _) fun s' acc' c' hm' hS' hacc=>?_⟩
 ·exact⟨fE _,by rw[show (items.size:Int) - 1 - ((0:Nat):Int)=(items.size:Int) - 1 by lia]; exact hI,hl⟩
 ·exact hR s' acc' c' (fun b o hb hb' e=>hm'.heap b o (by simp[hb,hb']) e) hm'.gens hm'.drawn hm'.os hS' hacc
theorem AB{l I:Addr}{Q:Value→Shared→Prop}{E:Value→Shared→Prop}(hh:A.handled=none)(hI:s.heap.IsRevIter I l ((items.size:Int) - 1))(hl:s.heap.IsList l items)(hIl:l≠I)(hn:items.size≤sizeLine)
  (q:∀ (s':Shared) (acc:Array Value) (c:Nat),(∀ b o,b≠I→s.heap.get? b=some o→s'.heap.get? b=some o)→s'.gens=s.gens→s'.drawn=s.drawn→s'.os=s.os→
   s'.heap.get? s.heap.objs.size=some (seqObj "list" acc c)→ItemsOf (fun i v=>items[items.size - 1 - i]?=some v) acc items.size→Q (.ref s.heap.objs.size) s') :
  wpAny (model prog w) A (call (.type "list") [.ref I]) Q E s:=by
 have hIn:I≠s.heap.objs.size:=by
  obtain⟨o,ho,_⟩:=hI;exact eR (dy ho)
 have hln:l≠s.heap.objs.size:=by
  obtain⟨o,ho,_⟩:=hl;exact eR (dy ho)
 refine callType_codes (Q₁:=fun obj s₁=>obj=.ref s.heap.objs.size∧s₁={ s with heap:=s.heap.push { cls:=.type "list",data:=.seq #[] } }) F.called_list (F.typeCall_list_1 _) F.entry_list_init
  (code_list_new _ ⟨rfl,rfl⟩) fun obj s₁ h₁=>?_
 obtain⟨rfl,rfl⟩:=h₁;have hS:(s.heap.push { cls:=.type "list",data:=.seq #[] }).get? s.heap.objs.size=some { cls:=.type "list",data:=.seq #[] }:=jN _ rfl;refine⟨⟨_,hS,rfl⟩,F.args_list_init_2 _ _,?_⟩;show wpAny _ A.in1.in1 (do let old ← Builtin.List.listItems (.ref s.heap.objs.size); Builtin.List.listUpdate (.ref s.heap.objs.size) (fun _=>#[]); letGo old.toList.reverse; Builtin.List.listExtendWith (.ref s.heap.objs.size) (.ref I) .none) _ _ _;refine aQ (listItems_at hS rfl (aQ (listUpdate_at hS rfl (aQ (wpAny_letGo ?_)) (fE _) (fE _))));have hS2:=get?_update_seq (c:="list") hS (fun _=>#[]);have ot:∀ b o,b≠s.heap.objs.size→(s.heap.push { cls:=.type "list",data:=.seq #[] }).get? b=some o→((s.heap.push { cls:=.type "list",data:=.seq #[] }).update s.heap.objs.size (Obj.mapSeq (fun _=>(#[]:Array Value)))).get? b=some o:=fun b o hb e=>(Dy _ _ (Ne.symm hb)).trans e
 refine vK (items:=items) s.heap.objs.size l I _ _ (by exact hh) hIn hln hIl hS2 (hI.at fun o e=>ot _ o hIn (dE _ e)) (hl.at fun o e=>ot _ o hln (dE _ e)) hn fun s1 acc c1 k1 g1 d1 o1 hS1 hacc=>?_
 refine⟨rfl,q s1 acc c1 (fun b o hb' e=>?_) g1 d1 o1 hS1 hacc⟩;have hb:=eR (dy e);exact k1 b o hb hb' (ot b o hb (dE _ e))
end
end Srt
namespace L2
open PySem PySem.Spec PyProof.Rows
variable {H H':Hp}{X:Cx}{kvs:List (List Key × V)}{s:Shared}{pos:Pos}{u:Value}{a:Addr}{xs:List (List Key × Addr × Value)}{pins:List (Addr × Obj)}{σ:St}{zs:List (Addr × List Key)}{A:Around}{E:Value→Shared→Prop}
def Bz(ta:TA):TE:=fun σ H Q=>ta σ H fun vs H1=>∃ (l:Addr) (xs:List V),vs=[.ref l]∧H1 l=some (.lst xs)∧∀ p,H1 p=none→Q (.ref p) (upd H1 p (.lst xs.reverse))
theorem nW:∀ {xs:List V} {us:List Value},us.length=xs.length→(∀ (i:Nat) (v:Value) (x:V),us[i]?=some v→xs[i]?=some x→RelV x v)→Vals xs us
 | [],[],_,_=>.nil
 | x::xs,u::us,hl,h=>.cons (h 0 u x rfl rfl) (nW (Nat.succ.inj hl) fun i v y e1 e2=>h (i + 1) v y e1 e2)
theorem wx{a:Expr}{ta:TA}{p p2 pos2:Pos}(hc:X.calm=true)(gl:Gl X "list")(ml:X.mg "list" = none)(gz:Gl X "reversed")(mz:X.mg "reversed" = none)(ha:PA X [a] ta)
  (h1:autoParam (starEach [.Call (.Name "reversed" p2) [a] [] pos2] X.env=(false,eval (.Call (.Name "reversed" p2) [a] [] pos2) X.env)::starEach [] X.env) q_1) (h2:autoParam ((backTo pos (starEach [] X.env)).any (·.1)=false) q_1)
  (h3:autoParam (starEach [a] X.env=(false,eval a X.env)::starEach [] X.env) q_1) (h4:autoParam ((backTo pos2 (starEach [] X.env)).any (·.1)=false) q_1) :
  PE X (.Call (.Name "list" p) [.Call (.Name "reversed" p2) [a] [] pos2] [] pos) (Bz ta):=by
 intro pins s σ H Q I h;refine EA (gr I gl ml C7 ?_);refine D5 ?_ h1 h2;rw[h1];change wpAny _ _ (spliced ((false,eval (.Call (.Name "reversed" p2) [a] [] pos2) X.env)::backTo pos (starEach [] X.env))) _ _ s;refine Calls.spliced_cons ?_;refine EA (gr I gz mz PyProof.Rows.boot_reversed ?_);refine D5 (bW (ha pos2 pins s σ H _ I h) fun us s1 ⟨vs,H1,I1,r1,q1⟩=>?_) h3 h4;obtain⟨l,xs,rfl,hl,q⟩:=q1;obtain⟨u1,rfl,e1⟩:=r1.one;cases e1;obtain⟨z,its,n,rv,hg⟩:=I1.hok l _ hl;have lt1:l < s1.heap.objs.size:=dy hg;have isl:s1.heap.IsList l its.toArray:=⟨_,hg,rfl,n,rfl⟩
 refine call_reversed_list isl ?_;refine Calls.spliced_nil ?_;have hv:=rv.length;have hsz:(s1.heap.push (revObj l ((its.toArray.size:Int) - 1))).objs.size=s1.heap.objs.size + 1:=by simp[Heap.push]
 refine Srt.AB (s:={ s1 with heap:=s1.heap.push (revObj l ((its.toArray.size:Int) - 1)) }) (items:=its.toArray) (l:=l) (I1.ok.hd hc) ⟨_,jN _ rfl,rfl,rfl⟩ (isl.at fun o e=>dE _ e) (eR lt1) (by simp only[dY]; lia) fun s' acc c k g d o hl' hi=>?_
 have ha:(s1.heap.push (revObj l ((its.toArray.size:Int) - 1))).objs.size=s1.heap.objs.size + 1:=hsz;change s'.heap.get? (s1.heap.push (revObj l ((its.toArray.size:Int) - 1))).objs.size=_ at hl';rw[ha]at hl';refine⟨.ref (s1.heap.objs.size + 1),_,I1.new (a:=s1.heap.objs.size + 1) (o:=.lst xs.reverse) (fun b u e=>k b u (eR (dy e)) (dE _ e)) g d o (zH _) ⟨by rw[List.length_reverse]; exact z,acc.toList,c,?_,hl'⟩,by show RelV (.ref (s1.heap.objs.size + 1)) (.ref _); rw[ha]; rfl,q _ (I1.hok.fresh (zH _))⟩;have hn:acc.toList.length=xs.length:=by rw[jP,hi.1]; simp only[dY]; lia
 refine nW (by rw[List.length_reverse]; exact hn) fun i v x ev ex=>?_
 have hi':=hi.2 i v (by rw[← E3]; exact ev);have hlt:i < xs.length:=by have:=(eQ.mp ev).1; lia
 rw[List.getElem?_reverse hlt]at ex;have e2:its[xs.length - 1 - i]?=some v:=by
  simp only[dY,List.getElem?_toArray]at hi';rw[← hv]at hi';exact hi'
 obtain⟨u,eu,ru⟩:=rv.get ex;rw[e2]at eu;cases eu;exact ru
theorem Paired.GA{α β:Type}{F:α→β→Prop}{l:List α}{m:List β}(h:Paired F l m):∀ y∈m,∃ x∈l,F x y:=by
 induction h with
 | nil=>intro y hy; cases hy
 | @cons a b l m r t ih=>
  intro y hy;rcases dO.mp hy with rfl | hy
  ·exact⟨a,oE,r⟩
  ·obtain⟨x,hx,q⟩:=ih y hy;exact⟨x,tu _ hx,q⟩
abbrev KZ(zs:List (Addr × List Key))(H:Hp):List (List Key × V)→List (List Key × Addr × Value)→Prop:=Paired fun p q=>p.1=q.1∧(H q.2.1=some (.tup (p.1.map kV))∨(q.2.1,p.1)∈zs)∧RelV p.2 q.2.2
section
variable {zs':List (Addr × List Key)}
theorem KZ.val(r:KZ zs H kvs xs)(k:List Key):gT (cv kvs k) ((atKey xs k).map (·.2)):=by
 induction r with
 | nil=>exact True.intro
 | @cons p q ps qs h t ih=>
  by_cases e:p.1=k
  ·have b:atKey (q::qs) k=some q.2:=by simp[atKey,C8,h.1.symm.trans e]
   rw[cy e,b];exact h.2.2
  ·have e2:¬ q.1=k:=fun z=>e (h.1.trans z)
   have b:atKey (q::qs) k=atKey qs k:=by simp[atKey,C8,e2]
   rw[cA e,b];exact ih
theorem KZ.keeps(r:KZ zs H kvs xs)(ht:∀ b ys,H b=some (.tup ys)→H' b=some (.tup ys))(hz:∀ z∈zs,z∈zs'):KZ zs' H' kvs xs:=
 Paired.zm r fun _ _ z=>⟨z.1,z.2.1.imp (ht _ _) (hz _),z.2.2⟩
theorem KZ.put(r:KZ zs H kvs xs)(k:List Key){b:Addr}{y:V}(hb:H b=some (.tup (k.map kV))∨(b,k)∈zs)(ry:RelV y u):KZ zs H (putK kvs k y) (storedH xs k b u):=by
 have e:(kvs.any fun kv=>decide (kv.1=k))=(atKey xs k).isSome:=by rw[fm,(r.val k).fj,Option.isSome_map]
 unfold putK storedH;rw[e];by_cases q:(atKey xs k).isSome=true
 ·rw[if_pos q,if_pos q];clear e q
  induction r with
  | nil=>exact .nil
  | @cons p q ps qs h t ih=>
   rw[mD,mD];refine .cons ?_ ih;unfold putAt;by_cases e:p.1=k
   ·rw[if_pos e,if_pos (h.1.symm.trans e)]; exact⟨h.1,h.2.1,ry⟩
   ·rw[if_neg e,if_neg (fun z=>e (h.1.trans z))]; exact h
 ·rw[if_neg q,if_neg q];exact Paired.snoc r ⟨rfl,hb,ry⟩
end
def Cn(K:aW)(b:Addr)(k:List Key):Prop:=∃ (o:Obj) (its:Array Value) (n:Nat),K.lookup b=some o∧o.cls=.type "tuple"∧o.data=.seq its n∧its.size≤sizeLine∧Vals (k.map kV) its.toList
def Cz(K:aW)(zs:List (Addr × List Key)):Prop:=∀ z∈zs,Cn K z.1 z.2
def DZ(K:aW)(H:Hp)(a:Addr)(kvs:List (List Key × V)):Prop:=∃ zs,Rd H a (.dZ zs kvs)∧Cz K zs
def DW(K:aW)(H:Hp)(a:Addr)(kvs:List (List Key × V)):Prop:=∃ zs,H a=some (.dZ zs kvs)∧Cz K zs
theorem DW.rd{K:aW}(h:DW K H a kvs):DZ K H a kvs:=let ⟨zs,e,c⟩:=h; ⟨zs,.inl e,c⟩
def Ky(K:aW)(H:Hp)(b:Addr)(k:List Key):Prop:=H b=some (.tup (k.map kV))∨Cn K b k
theorem Ky.sq{K:aW}{b:Addr}{k:List Key}(h:Ky K H b k):bY K H b (k.map kV):=h.elim (fun e=>.inl (.inl e)) .inr
section
variable {b:Addr}{k:List Key}{v d:V}{r:Value}
theorem yr(I:Inv X pins σ H s)(h:Ky X.K H b k):(tupleKind (bt X.prog X.w)).is s.heap k b:=by
 obtain⟨its,r,⟨o,h1,h2,n,h3⟩,_⟩:=I.tuple h.sq;exact⟨o,its.toArray,n,h1,h2,h3,by simpa using i9 r⟩
theorem yc(I:Inv X pins σ H s)(e:Rd H a (.dZ zs kvs))(hz:Cz X.K zs):kvs.length≤sizeLine∧(a == sysModules)=false∧∃ xs,KZ zs H kvs xs∧s.heap.DictOfH (tupleKind (bt X.prog X.w)) a xs:=by
 obtain⟨z,y,xs,r,o,es,ep,h1,h2,h3,h4,h5⟩:=(show cO X.prog X.w H s.heap a (.dZ zs kvs) from AL I.hok e)
 refine⟨z,y,xs,r,o,es,ep,h1,h2,h3,h4,fun x hx=>?_,h5⟩;obtain⟨p,_,q1,q2,_⟩:=Paired.GA r x hx;rw[← q1];rcases q2 with q2 | q2
 ·exact yr I (.inl q2)
 ·exact yr I (.inr (hz _ q2))
theorem IQ(I:Inv X pins σ H s)(g:DZ X.K H a kvs):s.TypeIs (.ref a) "dict"∧(∀ b,Value.ref a=.ref b→∃ ob,s.heap.get? b=some ob∧ob.dict=none)∧(a == sysModules)=false:=by
 obtain⟨zs,e,hz⟩:=g;obtain⟨_,hd,xs,_,dd⟩:=yc I e hz;refine⟨dd.typeIs,fun b q=>?_,hd⟩;cases q;obtain⟨ob,_,_,h1,h2,_⟩:=dd;exact⟨ob,h1,h2.2.1⟩
theorem xS{K:aW}(hz:Cz K zs)(hk:Ky K H b k):∃ zs',(∀ z∈zs,z∈zs')∧Cz K zs'∧(H b=some (.tup (k.map kV))∨(b,k)∈zs'):=by
 rcases hk with e | c
 ·exact⟨zs,fun _ h=>h,hz,.inl e⟩
 ·refine⟨(b,k)::zs,fun _ h=>tu _ h,fun z h=>?_,.inr oE⟩;rcases dO.mp h with rfl | h
  ·exact c
  ·exact hz z h
theorem D7{h':Heap}(hl:kvs.length≤sizeLine)(hd:(a == sysModules)=false)(rel:KZ zs H' kvs xs)(dd:h'.DictOfH (tupleKind (bt X.prog X.w)) a xs):cO X.prog X.w H' h' a (.dZ zs kvs):=by
 obtain⟨q,es,ep,hq,h2,h3,h4,_,h5⟩:=dd;exact⟨hl,hd,xs,rel,q,es,ep,hq,h2,h3,h4,h5⟩
theorem yO{Q:Unit→Shared→Prop}(hu:A.units + 1 < cLine)(I:Inv X pins σ H s)(g:DW X.K H a kvs)(hk:Ky X.K H b k)(hl:kvs.length < sizeLine)(rv:RelV v r)
  (h:∀ zs' s',Cz X.K zs'→Inv X pins σ (upd H a (.dZ zs' (putK kvs k v))) s'→Q () s'):wpAny (model X.prog X.w) A (setItem (.ref a) (.ref b) r) Q E s:=by
 obtain⟨zs,e,hz⟩:=g;obtain⟨z,hd,xs,rel,dd⟩:=yc I (.inl e) hz;obtain⟨zs',z1,z2,z3⟩:=xS hz hk;have hx:xs.length≤sizeLine:=by rw[← Paired.length rel]; exact z
 have hl2:(putK kvs k v).length≤sizeLine:=by have:=b9 kvs k v; omega
 refine wpAny_setItem_heap (hsz:=hx) (Ga hu) (yr I hk) dd fun h' dd' hs=>h zs' _ z2 ?_
 have he:∃ q,h'.get? a=some q:=let ⟨q,_,_,hq,_⟩:=dd'; ⟨q,hq⟩
 refine iT I (by rw[e]; exact True.intro) hs he (D7 hl2 hd (((rel.keeps (fun _ _ e=>e) z1).put k z3 rv).keeps (fun c ys ec=>?_) fun _ h=>h) dd');rw[aq (bh ec e (fun z=>nomatch z))];exact ec
end
def Hg(K:aW)(td ty tv:TE):TS:=fun D σ H=>tv σ H fun v H1=>td σ H1 fun x H2=>ty σ H2 fun y H3=>∃ a kvs b k,x=.ref a∧y=.ref b∧DW K H3 a kvs∧Ky K H3 b k∧kvs.length < sizeLine∧
 ∀ H4,(∀ c o,c≠a→H3 c=some o→H4 c=some o)→(∀ c,c≠a→H4 c=H3 c)→DW K H4 a (putK kvs k v)→D.nx σ H4
section
variable {o i e f value:Expr}{pos' tpos apos cpos:Pos}{td ty tv tx:TE}
theorem jZ(hu:X.A.units + 1 < cLine)(ho:PE X o td)(hi:PE X i ty)(hv:PE X value tv)(hs:swapsWith value (some (.Subscript o i pos')) pos.line X.env=pure false) :
  PS X (.Assign [.Subscript o i pos'] value pos) (Hg X.K td ty tv):=by
 intro pins s σ H D I h;refine wpAny_Assign_Subscript (bW (hv pins s σ H _ I h) fun r s1 hp=>?_) hs;obtain⟨v,H1,I1,rv,q1⟩:=hp;refine bW (ho pins s1 σ H1 _ I1 q1) fun u s2 hp=>?_
 obtain⟨x,H2,I2,rx,q2⟩:=hp;refine bW (hi pins s2 σ H2 _ I2 q2) fun iv s3 hp=>?_
 obtain⟨y,H3,I3,ry,a,kvs,b,k,rfl,rfl,g,hk,hl,q3⟩:=hp;cases rx;cases ry;exact yO hu I3 g hk hl rv fun zs' s4 hz I4=>⟨σ,_,I4,q3 _ (fun c o hc e=>by rw[aq hc]; exact e) (fun c hc=>aq hc) ⟨zs',af,hz⟩⟩
end
section
variable {prog:Program}{w:World}{κ:Type} [DecidableEq κ] {knd:PySem.HeapKind prog w κ}
end
end L2
namespace Srt
open PySem PyProof.Rows
section
variable {prog:Program}{w:World}{A:Around}{E:Value→Shared→Prop}{s:Shared}{d it:Addr}{es:Array DictEntry}{ep i:Nat}
end
end Srt
namespace L2
open PySem PySem.Spec PyProof.Rows
variable {X:Cx}
section
variable {pins:List (Addr × Obj)}{σ:St}{H:Hp}{s:Shared}{a:Addr}{o:Obj}{u:HO}
end
section
variable {tg:Expr}
end
end L2
namespace Srt
open PySem PyProof.Rows
section
variable {prog:Program}{w:World}{A:Around}{E:Value→Shared→Prop}{s:Shared}{R:Result→Shared→Prop}
end
end Srt
namespace L2
open PySem PySem.Spec PyProof.Rows
end L2
namespace Srt
open PySem PySem.Spec PyProof.Rows L2
structure JX where
 p:Addr
 k:List Key
 b:Addr
 v:Value
section
variable {prog:Program}{w:World}{A:Around}{E:Value→Shared→Prop}{s:Shared}{ts:List JX}
end
end Srt
namespace L2
open PySem PySem.Spec PyProof.Rows
variable {X:Cx}{pos:Pos}{s:Shared}{H:Hp}{o i v e:Expr}{td ty tv:TE}{pins:List (Addr × Obj)}{σ:St}{A:Around}{E:Value→Shared→Prop}{n:Nat}{zs:List (Addr × List D)}{kvs:List (List D × V)}
theorem zT{prog:Program}{w:World}{env:Env}{κ:Type}[DecidableEq κ]{knd:PySem.HeapKind prog w κ}{k:Expr}{Q:Value→Shared→Prop}(hu:knd.room A)
  (h:wpAny (model prog w) A (evalPairs (pairTrees [some k] [v] env pos)) (fun vs s₁=>∃ (a:Addr) (kk:κ) (u:Value),vs=[(.ref a,u)]∧knd.is s₁.heap kk a∧s₁.heap.DictOfH knd s.heap.objs.size []∧
   ∀ h' t',h'.DictOfH knd s.heap.objs.size (storedH [] kk a u)→Heap.SameBut s.heap.objs.size s₁.heap h'→Q (.ref s.heap.objs.size) {s₁ with heap:=h',toks:=t'}) E { s with heap:=s.heap.push {cls:=.type "dict",data:=.dict #[]} }) :
  wpAny (model prog w) A (eval (.Dict [some k] [v] pos) env) Q E s:=by
 have hn:=pairTrees_length [some k] [v] env pos rfl rfl;have h0:pairTrees [some k] [v] env pos≠[]:=fun z=>by rw[z]at hn; cases hn
 rw[arm_eval_Dict,zip_pairTrees [some k] [v] env pos rfl rfl,dictDisplay_pairs _ h0 (by rw[hn]; show 1 < 17; decide)];refine aQ (wpAny_standAt (aQ ?_))
 (unfold subDict; refine aQ (wpAny_alloc (aQ (kP ?_))); rw[if_pos (by rw[hn]; show 1≤15; decide)])
 refine aQ (vv h (fun vs s₁ h₁=>?_) fun _ _ e=>e);obtain⟨a,kk,u,rfl,his,hm,q⟩:=h₁;refine kP (aQ ?_);simp only[DC,List.forIn_nil];refine aQ (aQ (wpAny_dictSet_heap (hsz:=fE _) hu his hm fun h' dd hs=>?_));exact bH (bH (bH (bH (bH (q h' _ dd hs)))))
def ER(K:aW)(tk tv:TE):TE:=fun σ H Q=>∀ p,H p=none→tk σ (upd H p (.dZ [] [])) fun x H1=>tv σ H1 fun y H2=>∃ b k,x=.ref b∧H2 p=some (.dZ [] [])∧Ky K H2 b k∧∀ H3,(∀ c,c≠p→H3 c=H2 c)→DW K H3 p [(k,y)]→Q (.ref p) H3
theorem ur{k:Expr}{tk:TE}(hu:X.A.units < cLine)(hk:PE X k tk)(hv:PE X v tv):PE X (.Dict [some k] [v] pos) (ER X.K tk tv):=by
 intro pins s σ H Q I q;have hn:=I.hok.fresh (cq s.heap.objs.size);have I1:=I.laid (a:=s.heap.objs.size) (o:=.dZ [] []) (h':=s.heap.push { cls:=.type "dict",data:=.dict #[] }) (t':=s.toks) (fun _ _ q=>dE _ q) (cq _)
  ⟨fE _,ET.mpr (Ne.symm (eR I.big)),[],.nil,_,#[],0,jN _ rfl,⟨rfl,rfl,rfl⟩,rfl,rfl,List.nodup_nil⟩
 refine zT (knd:=tupleKind (bt X.prog X.w)) hu (pairTrees_cons_walk (bW (hk pins _ σ _ _ I1 (q _ hn)) fun u1 s2 hp=>?_));obtain⟨x,H1,I2,rx,q1⟩:=hp;refine bW (hv pins s2 σ H1 _ I2 q1) fun u2 s3 hp=>pairTrees_nil_walk ?_
 obtain⟨y,H2,I3,ry,b,kk,rfl,e,hb,q2⟩:=hp;cases rx;obtain⟨z,hd,xs,rel,dd⟩:=yc I3 (.inl e) (zs:=[]) fun _ h=>absurd h o7
 cases rel;refine⟨b,kk,u2,rfl,yr I3 hb,dd,fun h' t' dd' hs=>?_⟩;obtain⟨zs',z1,z2,z3⟩:=xS (zs:=[]) (fun _ h=>absurd h o7) hb;have he:∃ q,h'.get? s.heap.objs.size=some q:=let ⟨q,_,_,hq,_⟩:=dd'; ⟨q,hq⟩
 refine⟨.ref s.heap.objs.size,_,iT I3 (by rw[e]; exact True.intro) hs he (D7 (zs:=zs') (kvs:=[(kk,y)]) (by show 1≤sizeLine; decide) hd (KZ.keeps (KZ.put (kvs:=[]) (xs:=[]) .nil kk z3 ry) (fun c ys ec=>?_) fun _ h=>h) dd'),rfl,q2 _ (fun c hc=>aq hc) ⟨zs',af,z2⟩⟩;rw[aq (bh ec e (fun z=>nomatch z))];exact ec
section
variable {te:TE}{lo hi:Option Expr}{st:Expr}{tl th tk:TO}{p2:Pos}
end
section
variable {zs':List (Addr × List D)}{H':Hp}{xs:List (List D × Addr × Value)}
end
section
variable {a b:Addr}{k:List D}{v d:V}{u r:Value}
end
section
variable {f value:Expr}{pos' tpos apos cpos:Pos}{tx:TE}
end
end L2
namespace Srt
open PySem PyProof.Rows
section
variable {prog:Program}{w:World}{A:Around}{E:Value→Shared→Prop}{s:Shared}{d it v:Addr}{es:Array DictEntry}{ep i:Nat}
end
end Srt
namespace L2
open PySem PySem.Spec PyProof.Rows
variable {X:Cx}
section
variable {tg:Expr}
end
def E1(K:aW)(td ty:TE):TE:=fun σ H Q=>td σ H fun x H1=>ty σ H1 fun y H2=>∃ a kvs b k v,x=.ref a∧y=.ref b∧DZ K H2 a kvs∧bY K H2 b (k.map kV)∧cv kvs k=some v∧Q v H2
section
variable {o i:Expr}{pos:Pos}{td ty:TE}
theorem uV(hu:X.A.units + 1 < cLine)(ho:PE X o td)(hi:PE X i ty)(hs:autoParam (FQ i) q_5):PE X (.Subscript o i pos) (E1 X.K td ty):=by
 intro pins s σ H Q I h;refine yG PySem.F.slot_dict_getitem.lookup hs (bW (ho pins s σ H _ I h) fun u s1 hp=>?_);obtain⟨x,H1,I1,rx,q1⟩:=hp;refine bW (hi pins s1 σ H1 _ I1 q1) fun iv s2 hp=>?_
 obtain⟨y,H2,I2,ry,a,kvs,b,k,v,rfl,rfl,g,hk,l,q2⟩:=hp;cases rx;cases ry;refine⟨(IQ I2 g).1,?_⟩;obtain⟨zs,e,hz⟩:=g;obtain⟨z,hd,xs,rel,dd⟩:=yc I2 e hz;obtain⟨w',hw,rw'⟩:=gT.some_of (v:=v) (o:=(atKey xs k).map (·.2)) (by rw[← l]; exact rel.val k);obtain⟨p,hp,hp2⟩:=Ed.mp hw;have hki:(tupleKind (bt X.prog X.w)).is s2.heap k b:=by
  obtain⟨its,r,⟨o,h1,h2,n,h3⟩,_⟩:=I2.tuple hk;exact⟨o,its.toArray,n,h1,h2,h3,by simpa using i9 r⟩
 refine wpAny_getItem_heap (Ga hu) hki dd hp ?_;rw[hp2];exact⟨v,H2,I2.tok _,rw',q2⟩
end
end L2
local macro_rules | `(tactic| walk_at "k")=>`(tactic| exact⟨rfl,rfl,rfl,by decide +kernel,rfl,by decide +kernel,by decide +kernel⟩)
local macro_rules | `(tactic| walk_at "l")=>`(tactic| (intro vs H Q E h; cases h; subst_vars; rfl))
namespace K44
open PySem PySem.Spec PyProof.Rows L2
noncomputable abbrev qA:List Str:=["_law_program_here","_law_at","_law_values","_law_sizes","_law_state"]
noncomputable abbrev jc:List Str:=["self","line"]
noncomputable abbrev qB:List Str:=["_law_script","_law_program_here","_law_lines","_law_met_here","_law_some","_law_rows_here","_law_sizes","_law_budget_here","_law_walk","_law_state","_law_again","_law_at","_law_values","_law_which_here","_law_here","_law_name"]
noncomputable abbrev Ju:List Str:=["_law_script","_law_box","_law_names","_law_rows_here","_law_at","_law_lines","_law_many","_law_bounds","?","_law_goals","_law_other","_law_a","_law_b"]
abbrev qC:List Str:=["line"]
noncomputable abbrev Ab:List Str:=["_law_box","_law_many"]
noncomputable abbrev qD:List Str:=["_law_script","_law_box","_law_names","_law_rows_here","_law_at","_law_lines","_law_many"]
noncomputable abbrev Iw:List Str:=["_law_line_here","_law_values","_law_sizes","_law_worths","_law_k","_law_a","_law_b"]
noncomputable abbrev qE:List Str:=["_law_program_here","_law_at","_law_which_here","_law_state"]
noncomputable abbrev Im:List Str:=["_law_script","_law_names","_law_rows_here","_law_at","_law_lines","_law_many"]
noncomputable abbrev qF:List Str:=["line","now"]
noncomputable abbrev GH:List Str:=["self","program","rows","taken","budget"]
noncomputable abbrev qG:List Str:=["_law_state","_law_at","_law_values","_law_sizes"]
noncomputable abbrev Et:List Str:=["_law_script","_law_k"]
noncomputable abbrev qH:List Str:=["_law_line_here","_law_values","_law_sizes"]
noncomputable abbrev GK:List Str:=["_law_box","_law_at","_law_many"]
noncomputable abbrev qI:List Str:=["_law_script","_law_program_here","_law_rows_here","_law_r","_law_box","_law_many"]
noncomputable abbrev F1:List Str:=["_law_bound","_law_worths"]
noncomputable abbrev qJ:List Str:=["_law_box","_law_names","_law_rows_here","_law_some"]
noncomputable abbrev Cj:List Str:=["_law_script"]
noncomputable abbrev qK:List Str:=["program","steps"]
noncomputable abbrev vw:List Str:=["self"]
noncomputable abbrev qL:List Str:=["_law_box","_law_names","_law_rows_here"]
noncomputable abbrev Js:List Str:=["_law_k","_law_box","_law_names","_law_rows_here","_law_some"]
noncomputable abbrev qM:List Str:=["_law_lines","_law_goal_here","_law_at"]
abbrev AG:List Str:=["program"]
noncomputable abbrev qN:List Str:=["value","now"]
noncomputable abbrev Gy:List Str:=["line","which","now"]
noncomputable abbrev qO:List Str:=["_law_line_here"]
noncomputable abbrev Jn:List Str:=["program","steps","facts","now","at","which","line"]
noncomputable abbrev qP:List Str:=["_law_script","_law_program_here"]
noncomputable abbrev Jx:List Str:=["program","reached","leading","at","which","after"]
noncomputable abbrev qQ:List Str:=["self","name"]
noncomputable abbrev IZ:List Str:=["_law_lines","_law_met_here"]
noncomputable abbrev qR:List Str:=["_law_script","_law_many"]
noncomputable abbrev Jy:List Str:=["name","version","line","now","given"]
noncomputable abbrev qS:List Str:=["value","value","number","way","way"]
noncomputable abbrev JA:List Str:=["_law_script","_law_box","_law_many"]
noncomputable abbrev qT:List Str:=["_law_box","_law_names"]
noncomputable abbrev Ih:List Str:=["line","leading"]
noncomputable abbrev qU:List Str:=["bounds","which"]
noncomputable abbrev Ic:List Str:=["program","line"]
noncomputable abbrev qV:List Str:=["_law_cell"]
noncomputable abbrev HW:List Str:=["self","bound"]
noncomputable abbrev qW:List Str:=["bound","now"]
noncomputable abbrev HS:List Str:=["self","node"]
noncomputable abbrev qX:List Str:=["_law_box"]
variable {H H' H1 H2:Hp}{ls:List Ln}{l:Ln}{nm j a i x g m c n nl r h cut ep nG nL nZ:Nat}{p ps t al C lc tp dx aP aG aL aZ:Addr}{rs ks F W S ws:List Nat}{st:List (Nat × Nat)}{o:HO}{v en:V}{xs ys vs:List V}{us:List Value}{d:bT}{A:WA}{wk wk':List (List Key × V)}{pf:Nat→Addr}{wf:Nat→List Way}{kvs:List (Key × V)}{nums cn vals ns:List Int}{ds:List D}{w:World}{σ:L2.St}{z:Str}{y:Option Nat}{q:Option (Str × Nat)}{u:TS}{s:Nat × Option Nat × Int}{g':Nat→V}{B:Prop}{P:Program}{oP oG oL oZ:Obj}{es:Array DictEntry}{iG iL iZ:Array Value}
variable {K:aW}{mg:Str→Option Value}{base:Heap}{f a_GIVING a_PLACING a_PARTS a_ZERO:Addr}{fd:sE}
noncomputable def top(i:Nat):Stmt:=PySem.Challenge.pw_lookspare_k44_whole_facts_are_so_in_runs.main.body.getD i (.Pass ⟨0,0,0,0⟩)
abbrev xb:Stmt:=top 36
inductive jw(K:aW)(vs:List V)(H:Hp)(Q:VK)(E:XK):Prop|m(a:Addr)(ns:List Int)(k:Int)(_:vs=[.ref a,.int k])(_:a7 K H a (ns.map V.int))(_:ns.length≤63)(_:0≤k)(_:k≤1000)(_:∀ c:Int,Q (.int c) H)
def Av(n:Int)(v:V):Prop:=v=.non∨∃ i:Int,0≤i∧i < n∧v=.int i
theorem aj(h:H p=none)(o:HO):aD H (upd H p o):=fun b u q=>by rw[aq (aH q h)]; exact q
theorem r9{c:TT}{t:TS}{D:Ends}(Φ:L2.St→Hp→Prop)(h:∀ σ' H',Φ σ' H'→D.nx σ' H')(hi:∀ D':Ends,(∀ σ' H',Φ σ' H'→D'.nx σ' H')→vR c t u D' σ H):vR c t u D σ H:=hi D h
theorem Fb{c:TT}{t:TS}{D:Ends}(Φ:L2.St→Hp→Prop)(h:∀ σ' H',Φ σ' H'→D.nx σ' H')(hi:∀ nx:L2.St→Hp→Prop,(∀ σ' H',Φ σ' H'→nx σ' H')→vR c t u {D with nx:=nx} σ H):vR c t u D σ H:=hi D.nx h
theorem iP{i:Int}(h0:0≤i)(h1:i < (ns.length:Int)):∃ c:Int,me (ns.map V.int) i=some (.int c):=by
 obtain⟨j,rfl⟩:∃ j:Nat,i=(j:Int):=⟨i.toNat,by lia⟩
 have hj:j < ns.length:=by lia
 exact⟨ns[j],bf (by rw[lK,cu hj]; rfl)⟩
theorem oF{x y:Int}(b:Bool):∃ z:Int,me [V.int x,.int y] (if b then 1 else 0)=some (.int z)∧(z=x∨z=y):=by
 cases b with
 | true=>exact⟨y,rfl,.inr rfl⟩
 | false=>exact⟨x,rfl,.inl rfl⟩
section
local macro_rules | `(tactic| walk_at "s")=>`(tactic| first | exact⟨by decide,by decide⟩ | exact⟨by decide,by decide,by decide⟩ | exact Or.inl ⟨by decide,by decide⟩ | exact Or.inr ⟨by decide,by decide⟩ | (show (0:Int) < _; decide) | (show (0:Int)≤_; decide) | (show (0:Int) < _; omega) | (show (0:Int)≤_; omega) | exact⟨by omega,by omega⟩ | exact Or.inl ⟨by omega,by omega⟩ | exact Or.inr ⟨by omega,by omega⟩)
local macro_rules | `(tactic| walk_at "r")=>`(tactic| repeat (first | (refine⟨_,rfl,?_⟩) | (refine⟨_,_,rfl,rfl,?_⟩) | (refine⟨rfl,?_⟩) | (refine⟨by walk_at "s",?_⟩) | (refine⟨bQ rfl,fun _ _=>?_⟩)))
theorem gm:aF ["_law_script","_law_k","_law_many","_law_cell","_law_mixed","_law_other"] Et (ao xb):=by walk_at "k"
theorem DO(F:cM K "_law_draw" "_law_draw" xb f fd)(m_len:mg "len" = none):bg P w K mg base cH (n + 1) f fd Et (jw K):=by
 refine F.ok gm (by walk_at "l") (fun cdv A outer s H vs Q E hr h=>?_);obtain⟨a,ns,k,rfl,hS,h63,k0,k1,q⟩:=h
 refine⟨_,(@ag _ _ _ _ _ (aV (i:=2) gm.nd (bj a8 rfl m_len qi (aa (pv 0) ae)))
   (@ag _ _ _ _ _ (ba (PW.pt (kU (aE lY (pv 2) ai) (kU (aE bA (aR fu (av aK (pv 0) ai) ai) ai) (mP (aE kf (aR ke (pv 1) (pv 2)) ai))))) (ak (az (aR E8 (aR Fv (av aK (pv 0) (aR fu (pv 1) (pv 2))) (aR bK (aR eC ai (aR ke (pv 1) (pv 2))) ai)) ai))) aN)
   (@ag _ _ _ _ _ (aV (i:=3) gm.nd (aR eC ai (pv 1)))
   (@ag _ _ _ _ _ (ba (aE kf (pv 1) (pv 2)) (ak (aV (i:=3) gm.nd (av aK (pv 0) (pv 1)))) (ak (ba (aE lY (pv 2) ai) (@ag _ _ _ _ _ (aV (i:=5) gm.nd (av aK (pv 0) (aR fu (aR bK (aR eC ai (pv 1)) ai) (pv 2))))
   (ak (aV (i:=3) gm.nd (aR bK (aR bK (pv 3) (av aK (pv 0) (aR fu (pv 1) (pv 2)))) (aR eC ai (aR fu (pv 5) ai)))))) aN)))
   (@ag _ _ _ _ _ (aV (i:=4) gm.nd (aR fu (aR bK (aR eC (pv 3) ai) (aR eC ai (pv 1))) ai))
   (ak (az (aR fu (aR eC (aR ke (pv 4) ai) (aR bK (aR bK (aR fu (pv 4) ai) (aR eC ai (pv 1))) ai)) ai)))))))),?_⟩
 refine⟨_,rfl,a,_,rfl,.inl hS,?_⟩;rw[cU];have mod0:∀ x:Int,0 < (ns.length:Int)→0≤x % (ns.length:Int)∧x % (ns.length:Int) < (ns.length:Int):=fun x h=>⟨Int.emod_nonneg _ (by lia),Int.emod_lt_of_pos _ h⟩
 dsimp only[kO,rR];refine Fb (fun σ' H'=>σ'=[some (.ref a),some (.int k),some (.int (ns.length:Int)),none,none,none]∧H=H') (fun σ' H' h=>?_) (fun nx kk=>?_);rotate_left
 ·dsimp only[vR,EK,rR,qd];refine⟨_,rfl,_,_,rfl,rfl,_,rfl,cT (fun c1=>?_) (fun c1=>bp (kk _ _ ⟨rfl,rfl⟩))⟩;have hp:0 < (ns.length:Int):=pH c1;obtain⟨s0,es0⟩:=iP (ns:=ns) (i:=0) (by decide) hp;refine⟨_,rfl,a,_,0,_,rfl,rfl,hS,es0,_,_,rfl,rfl,by show (0:Int) < 2; decide,rfl,_,rfl,cT (fun c2=>?_) (fun c2=>bp (kk _ _ ⟨rfl,rfl⟩))⟩;refine⟨_,rfl,_,rfl,_,_,rfl,rfl,⟨hp,by show (ns.length:Int) < 1073741824; lia⟩,_,_,rfl,rfl,_,rfl,cT (fun c3=>?_) (fun c3=>kk _ _ ⟨rfl,rfl⟩)⟩;obtain⟨sk,esk⟩:=iP (ns:=ns) (i:=k % (ns.length:Int)) (mod0 k hp).1 (mod0 k hp).2;have hd:0≤k / (ns.length:Int):=Int.ediv_nonneg k0 (by lia);refine⟨_,rfl,_,rfl,_,rfl,_,_,rfl,rfl,by show (0:Int) < (ns.length:Int); exact hp,a,_,_,_,rfl,rfl,hS,esk,_,rfl,_,rfl,_,_,rfl,rfl,⟨hp,by show (ns.length:Int) < 1073741824; lia⟩,_,_,rfl,rfl,.inl ⟨by decide,by decide⟩,_,_,rfl,rfl,_,_,rfl,rfl,by show (0:Int)≤61 * (k / (ns.length:Int)) + 1; lia,_,_,rfl,rfl,q _⟩
 obtain⟨rfl,rfl⟩:=h;refine⟨_,rfl,_,_,rfl,rfl,.inl ⟨by decide,by decide⟩,?_⟩;dsimp only[kO,rR];refine r9 (fun σ' H'=>∃ (c:Int) (y5:Option V),σ'=[some (.ref a),some (.int k),some (.int (ns.length:Int)),some (.int c),none,y5]∧H=H') (fun σ' H' h=>?_) (fun D' kk=>?_);rotate_left
 ·refine⟨_,rfl,_,rfl,_,_,rfl,rfl,_,rfl,cT (fun c1=>?_) (fun c1=>?_)⟩
  ·have hlt:k < (ns.length:Int):=pH c1;obtain⟨sk,esk⟩:=iP (ns:=ns) (i:=k) k0 hlt;exact⟨_,rfl,_,rfl,a,_,_,_,rfl,rfl,hS,esk,kk _ _ ⟨_,_,rfl,rfl⟩⟩
  ·refine⟨_,rfl,_,_,rfl,rfl,_,rfl,cT (fun c2=>?_) (fun c2=>kk _ _ ⟨_,_,rfl,rfl⟩)⟩;have hp:0 < (ns.length:Int):=pH c2;obtain⟨so,eso⟩:=iP (ns:=ns) (i:=(3 * k + 1) % (ns.length:Int)) (mod0 _ hp).1 (mod0 _ hp).2;obtain⟨sk,esk⟩:=iP (ns:=ns) (i:=k % (ns.length:Int)) (mod0 k hp).1 (mod0 k hp).2;refine⟨_,rfl,_,rfl,_,_,rfl,rfl,.inl ⟨by decide,by decide⟩,_,_,rfl,rfl,_,rfl,_,_,rfl,rfl,by show (0:Int) < (ns.length:Int); exact hp,a,_,_,_,rfl,rfl,hS,eso,?_⟩;exact⟨_,rfl,_,rfl,_,rfl,_,rfl,_,_,rfl,rfl,by show (0:Int) < (ns.length:Int); exact hp,a,_,_,_,rfl,rfl,hS,esk,_,_,rfl,rfl,_,rfl,_,_,rfl,rfl,by show (0:Int) < 1000033; decide,_,_,rfl,rfl,.inl ⟨by decide,by decide⟩,_,_,rfl,rfl,kk _ _ ⟨_,_,rfl,rfl⟩⟩
 obtain⟨c,y5,rfl,rfl⟩:=h;refine⟨_,rfl,_,_,rfl,rfl,.inr ⟨by decide,by decide⟩,_,rfl,_,_,rfl,rfl,.inl ⟨by decide,by decide⟩,_,_,rfl,rfl,_,_,rfl,rfl,by show (0:Int) < 2305843009213693951; decide,?_⟩;have hm:0≤(c * 6364136223846793005 + 1442695040888963407 * k) % 2305843009213693951∧(c * 6364136223846793005 + 1442695040888963407 * k) % 2305843009213693951 < 2305843009213693951:=⟨Int.emod_nonneg _ (by decide),Int.emod_lt_of_pos _ (by decide)⟩
 exact⟨_,rfl,_,_,rfl,rfl,⟨by decide,by decide⟩,_,rfl,_,_,rfl,rfl,by show (0:Int) < 1000003; decide,_,rfl,_,_,rfl,rfl,.inl ⟨by decide,by decide⟩,_,_,rfl,rfl,_,_,rfl,rfl,_,_,rfl,rfl,.inl ⟨by show -(2 ^ 64:Int) < ((c * 6364136223846793005 + 1442695040888963407 * k) % 2305843009213693951) / 1024; lia,by show ((c * 6364136223846793005 + 1442695040888963407 * k) % 2305843009213693951) / 1024 < (2 ^ 64:Int); lia⟩,_,_,rfl,rfl,by show (0:Int) < 2305843009213693951; decide,q _⟩
end
theorem aD.new(s:aD H H')(h:H p=none):aD H (upd H' p o):=fun b u q=>by
 rw[aq (aH q h)]; exact s b u q
theorem bu.new(h:H p=none):bu H (upd H p o):=(aj h o).aS
theorem bu.lst(h:H p=some (.lst xs)):bu H (upd H p (.lst ys)):=
 ⟨fun b zs e=>by rw[aq (bh e h (by intro z; cases z))]; exact e,fun b o u e=>by rw[aq (bh e h (by intro z; cases z))]; exact e⟩
theorem ay(s:aD H H')(h:H' p=none):H p=none:=s.free h
theorem cx(h:H p=some o)(ht:H t=none):p≠t:=aH h ht
theorem bP{A B:Hp→Prop}(h:A H):Eh σ H (fun b H3=>if b=true then A H3 else B H3):=by
 show if true=true then A H else B H
 rw[if_pos rfl]; exact h
theorem small(h:n≤1000):n≤sizeLine:=Nat.le_of_lt (aO h)
theorem dW(v:V)(vs:List V):me (v::vs) 0=some v:=bf (j:=0) rfl
theorem jO(v u:V)(vs:List V):me (v::u::vs) 1=some u:=bf (j:=1) rfl
theorem at2(v u w:V)(vs:List V):me (v::u::w::vs) 2=some w:=bf (j:=2) rfl
theorem Ej(v u w z:V)(vs:List V):me (v::u::w::z::vs) 3=some z:=bf (j:=3) rfl
theorem Jq(v u w z y:V)(vs:List V):me (v::u::w::z::y::vs) 4=some y:=bf (j:=4) rfl
theorem gS{a b:Str}(h:decide (V.str a=V.str b)=true):a=b:=by have:=pH h; injection this
theorem f7{a b:Str}(h:¬ decide (V.str a=V.str b)=true):a≠b:=fun e=>h (ff (by rw[e]))
abbrev nQ:Stmt:=top 15
theorem zK:aF qC qC (ao nQ):=by walk_at "k"
inductive mR(K:aW)(vs:List V)(H:Hp)(Q:VK)(E:XK):Prop|m(v:V)(x:Str)(ds:List D)(_:vs=[v])(_:Is K H (.tup (.str x::ds)) v)(_:Q (.bl (decide (x=("ask":Str)))) H)
noncomputable def aB(l:List Int):List V:=l.map V.int
inductive bT where
 | set (x:Nat) (y:Option Nat) (c:Int)
 | sum (x z:Nat) (y:Option Nat)
 | len (x r:Nat)
 | take (x:Nat)
 | tell (x:Nat)
 | get (x r:Nat) (y:Option Nat) (c:Int)
 | put (r:Nat) (y:Option Nat) (c:Int) (z:Nat)
noncomputable def sr:Option Nat→D
 | none=>.non
 | some i=>.int (i:Int)
noncomputable def kT:Option Nat→V
 | none=>.non
 | some i=>.int (i:Int)
noncomputable def bT.word:bT→Str
 | .set ..=>"set" | .sum ..=>"sum" | .len ..=>"len" | .take ..=>"take" | .tell ..=>"tell" | .get ..=>"get" | .put ..=>"put"
noncomputable def bT.args:bT→List D
 | .set x y c=>[.int (x:Int),sr y,.int c]
 | .sum x z y=>[.int (x:Int),.int (z:Int),sr y]
 | .len x r=>[.int (x:Int),.int (r:Int)]
 | .take x=>[.int (x:Int)]
 | .tell x=>[.int (x:Int)]
 | .get x r y c=>[.int (x:Int),.int (r:Int),sr y,.int c]
 | .put r y c z=>[.int (r:Int),sr y,.int c,.int (z:Int)]
noncomputable def bT.line(d:bT)(k:Nat):D:=.tup (.str d.word::(d.args++[.int (k:Int)]))
def d6(n:Nat):Option Nat→Prop
 | none=>True
 | some i=>i < n
noncomputable def bT.Ok(nm rw:Nat):bT→Prop
 | .set x y _=>x < nm∧d6 nm y
 | .sum x z y=>x < nm∧z < nm∧d6 nm y
 | .len x r=>x < nm∧r < rw
 | .take x=>x < nm
 | .tell x=>x < nm
 | .get x r y _=>x < nm∧r < rw∧d6 nm y
 | .put r y _ z=>r < rw∧d6 nm y∧z < nm
noncomputable def bT.slot:bT→Option (Nat × Option Nat × Int)
 | .get _ r y c=>some (r,y,c)
 | .put r y c _=>some (r,y,c)
 | _=>none
abbrev sZ:Stmt:=top 12
abbrev jr:Stmt:=top 13
abbrev jB:Stmt:=top 14
theorem uU:aF qC qC (ao jB):=by walk_at "k"
theorem AV:aF qC qC (ao sZ):=by walk_at "k"
theorem uD:aF qC qC (ao jr):=by walk_at "k"
noncomputable def se:List Str:=["set","sum","len","take","get"]
noncomputable def nX:List Str:=["get","put"]
theorem qe(l:List Str):(l.map V.str).all jo=true:=by
 rw[List.all_eq_true];intro v hv;obtain⟨x,_,rfl⟩:=zM.mp hv;rfl
structure Dv (K:aW) (mg:Str→Option Value) (a_GIVING a_PLACING:Addr):Prop where
 mv:mg "GIVING" = some (.ref a_GIVING)
 gv:∀ H:Hp,bY K H a_GIVING (se.map V.str)
 mp:mg "PLACING" = some (.ref a_PLACING)
 pl:∀ H:Hp,bY K H a_PLACING (nX.map V.str)
inductive Nd where
 | zero
 | name (x:Nat)
 | len (r:Nat)
noncomputable def Nd.word:Nd→Str
 | .zero=>"zero" | .name _=>"name" | .len _=>"len"
noncomputable def Nd.args:Nd→List D
 | .zero=>[] | .name x=>[.int (x:Int),.int 0] | .len r=>[.int (r:Int)]
noncomputable def Nd.D(q:Nd):D:=.tup (.str q.word::q.args)
noncomputable def Nd.Ok(nm rw:Nat):Nd→Prop
 | .zero=>True | .name x=>x < nm | .len r=>r < rw
structure Bd where
 a:Nd
 b:Nd
 c:Int
noncomputable def Bd.D(q:Bd):D:=.tup [q.a.D,q.b.D,.int q.c]
noncomputable def Bd.Ok(nm rw:Nat)(q:Bd):Prop:=q.a.Ok nm rw∧q.b.Ok nm rw
inductive Ln where
 | deed (d:bT) (k:Nat)
 | test (y w:Option Nat) (c:Int) (k m:Nat)
 | ask (bs:List Bd) (k m:Nat)
 | stop
noncomputable def Ln.word:Ln→Str
 | .deed d _=>d.word | .test ..=>"test" | .ask ..=>"ask" | .stop=>"end"
noncomputable def Ln.args:Ln→List D
 | .deed d k=>d.args++[.int (k:Int)]
 | .test y w c k m=>[sr y,sr w,.int c,.int (k:Int),.int (m:Int)]
 | .ask bs k m=>[.tup (bs.map Bd.D),.int (k:Int),.int (m:Int)]
 | .stop=>[]
noncomputable def Ln.D(l:Ln):D:=.tup (.str l.word::l.args)
noncomputable def Ln.Ok(nm rw nl:Nat):Ln→Prop
 | .deed d k=>d.Ok nm rw∧k < nl
 | .test y w _ k m=>d6 nm y∧d6 nm w∧k < nl∧m < nl
 | .ask bs k m=>(∀ q∈bs,q.Ok nm rw)∧(0 < bs.length∧bs.length≤100)∧k < nl∧m < nl
 | .stop=>True
def bT.name?:bT→V
 | .set x _ _=>.int (x:Int) | .sum x _ _=>.int (x:Int) | .len x _=>.int (x:Int) | .take x=>.int (x:Int) | .tell _=>.non | .get x _ _ _=>.int (x:Int) | .put ..=>.non
noncomputable def Ln.gives:Ln→V
 | .deed d _=>d.name?
 | _=>.non
noncomputable def Ln.isPlace:Ln→Bool
 | .deed d _=>d.slot.isSome
 | _=>false
inductive mY(K:aW)(vs:List V)(H:Hp)(Q:VK)(E:XK):Prop|m(l:Ln)(v:V)(_:vs=[v])(_:Is K H l.D v)(_:Q l.gives H)
inductive rC(K:aW)(vs:List V)(H:Hp)(Q:VK)(E:XK):Prop|m(l:Ln)(v:V)(_:vs=[v])(_:Is K H l.D v)(_:Q (.bl l.isPlace) H)
inductive fZ(K:aW)(vs:List V)(H:Hp)(Q:VK)(E:XK):Prop|m(d:bT)(k:Nat)(v:V)(s:Nat × Option Nat × Int)(_:vs=[v])(_:Is K H (d.line k) v)(_:d.slot=some s)(_:∀ H' t,aD H H'→bY K H' t [.int (s.1:Int),kT s.2.1,.int s.2.2]→Q (.ref t) H')
theorem yL(F:cM K "is_ask" "is_ask" nQ f fd):bg P w K mg base cH (n + 1) f fd qC (mR K):=by
 refine F.ok zK (by walk_at "l") (fun cdv A outer s H vs Q E hr h=>?_);obtain⟨v,x,ds,rfl,hi,q⟩:=h;refine⟨_,(ak (az (bU bA (av aA (pv 0) ai) aJ))),?_⟩;obtain⟨a,xs,rfl,hq,il0⟩:=hi.bB;obtain⟨v0,vs,rfl,i0,il⟩:=il0.cons_inv;cases i0.str_inv;refine⟨_,rfl,a,_,0,_,rfl,rfl,hq,dW _ _,rfl,?_⟩;rw[show decide (V.str x=V.str "ask")=decide (x=("ask":Str)) from decide_eq_decide.mpr ⟨fun z=>V.str.inj z,fun z=>by rw[z]⟩];exact q
noncomputable def xu:List Str:=["set","sum","len","take","tell","get","put"]
theorem AK(d:bT):d.word∈xu:=by cases d <;> simp[bT.word,xu]
theorem jT(h:¬ z∈xu):d.word≠z:=fun e=>h (e ▸ AK d)
theorem dk(h:Is K H l.D v):∃ a vs,v=.ref a∧bY K H a (.str l.word::vs)∧IsL K H l.args vs:=by
 obtain⟨a,xs,rfl,hq,il0⟩:=h.bB;obtain⟨v0,vs,rfl,i0,il⟩:=il0.cons_inv;cases i0.str_inv;exact⟨a,vs,rfl,hq,il⟩
theorem AH{q:Nd}(h:Is K H q.D v):∃ a vs,v=.ref a∧bY K H a (.str q.word::vs)∧IsL K H q.args vs:=by
 obtain⟨a,xs,rfl,hq,il0⟩:=h.bB;obtain⟨v0,vs,rfl,i0,il⟩:=il0.cons_inv;cases i0.str_inv;exact⟨a,vs,rfl,hq,il⟩
theorem mB{d:D}(h:IsL K H (d::ds) vs):∃ v r,vs=v::r∧Is K H d v∧IsL K H ds r:=h.cons_inv
theorem Dd(h:Is K H (sr y) v):v=kT y:=by
 cases y with
 | none=>exact h.eJ
 | some i=>exact h.int_inv
theorem bD{i:Int}(h:IsL K H (.int i::ds) vs):∃ r,vs=.int i::r∧IsL K H ds r:=by
 obtain⟨v,r,rfl,a,b⟩:=h.cons_inv;cases a.int_inv;exact⟨r,rfl,b⟩
theorem jf(h:IsL K H (sr y::ds) vs):∃ r,vs=kT y::r∧IsL K H ds r:=by
 obtain⟨v,r,rfl,a,b⟩:=h.cons_inv;cases Dd a;exact⟨r,rfl,b⟩
theorem cD{l:List Int}(h:i < l.length):(aB l)[i]?=some (.int (l[i]?.getD 0)):=by
 show (l.map V.int)[i]?=_;rw[lK,cu h]; rfl
theorem AI(F:cM K "gives" "gives" sZ f fd)(T:Dv K mg a_GIVING a_PLACING):bg P w K mg base cH (n + 1) f fd qC (mY K):=by
 refine F.ok AV (by walk_at "l") (fun cdv A outer s H vs Q E hr h=>?_);obtain⟨l,v,rfl,hi,q⟩:=h;have m_GIVING:=T.mv;refine⟨_,(ak (az (cC (aE fk (av aA (pv 0) ai) (iQ rfl m_GIVING (v:=.ref a_GIVING) rfl) (by with_unfolding_all rfl)) (av aA (pv 0) ai) cJ))),?_⟩;obtain⟨a,vs,rfl,hq,il⟩:=dk hi;refine⟨_,rfl,a,_,0,_,rfl,rfl,hq,dW _ _,a_GIVING,_,rfl,.inr (T.gv H),rfl,qe _,_,rfl,?_⟩;cases l with
 | deed d k=>
  cases d with
  | set x y c=>obtain⟨r,rfl,_⟩:=bD il; exact bI ⟨_,rfl,a,_,1,_,rfl,rfl,hq,jO _ _ _,q⟩
  | sum x z y=>obtain⟨r,rfl,_⟩:=bD il; exact bI ⟨_,rfl,a,_,1,_,rfl,rfl,hq,jO _ _ _,q⟩
  | len x r=>obtain⟨r,rfl,_⟩:=bD il; exact bI ⟨_,rfl,a,_,1,_,rfl,rfl,hq,jO _ _ _,q⟩
  | take x=>obtain⟨r,rfl,_⟩:=bD il; exact bI ⟨_,rfl,a,_,1,_,rfl,rfl,hq,jO _ _ _,q⟩
  | tell x=>exact bp q
  | get x r y c=>obtain⟨r,rfl,_⟩:=bD il; exact bI ⟨_,rfl,a,_,1,_,rfl,rfl,hq,jO _ _ _,q⟩
  | put r y c z=>exact bp q
 | test y w c k m=>exact bp q
 | ask bs k m=>exact bp q
 | stop=>exact bp q
theorem tG(F:cM K "is_place" "is_place" jr f fd)(T:Dv K mg a_GIVING a_PLACING):bg P w K mg base cH (n + 1) f fd qC (rC K):=by
 refine F.ok uD (by walk_at "l") (fun cdv A outer s H vs Q E hr h=>?_);obtain⟨l,v,rfl,hi,q⟩:=h;have m_PLACING:=T.mp;refine⟨_,(ak (az (bU fk (av aA (pv 0) ai) (iQ rfl m_PLACING (v:=.ref a_PLACING) rfl) (by with_unfolding_all rfl)))),?_⟩;obtain⟨a,vs,rfl,hq,il⟩:=dk hi;refine⟨_,rfl,a,_,0,_,rfl,rfl,hq,dW _ _,a_PLACING,_,rfl,.inr (T.pl H),rfl,qe _,?_⟩;cases l with
 | deed d k=>cases d <;> exact q
 | test y w c k m=>exact q
 | ask bs k m=>exact q
 | stop=>exact q
theorem vg(F:cM K "place_of" "place_of" jB f fd):bg P w K mg base cH (n + 1) f fd qC (fZ K):=by
 refine F.ok uU (by walk_at "l") (fun cdv A outer s H vs Q E hr h=>?_);obtain⟨d,k,v,s,rfl,hi,hs,q⟩:=h;refine⟨_,(ak (az (cC (aE bA (av aA (pv 0) ai) aJ) (hU sd (pv 0) (fH ai) (fH ai)) (hU sd (pv 0) (fH ai) (fH ai))))),?_⟩;obtain⟨a,vs,rfl,hq,il⟩:=dk (l:=.deed d k) hi;refine⟨_,rfl,a,_,0,_,rfl,rfl,hq,dW _ _,rfl,_,rfl,?_⟩;cases d with
 | get x r y c=>
  obtain⟨r1,rfl,i1⟩:=bD il;obtain⟨r2,rfl,i2⟩:=bD i1;obtain⟨r3,rfl,i3⟩:=jf i2;obtain⟨r4,rfl,i4⟩:=bD i3;obtain⟨r5,rfl,i5⟩:=bD i4;cases i5.nil_inv;cases hs;exact bI ⟨_,rfl,_,rfl,_,rfl,a,_,rfl,hq,fun t H' s' q'=>q H' t s' q'⟩
 | put r y c z=>
  obtain⟨r2,rfl,i2⟩:=bD il;obtain⟨r3,rfl,i3⟩:=jf i2;obtain⟨r4,rfl,i4⟩:=bD i3;obtain⟨r5,rfl,i5⟩:=bD i4;obtain⟨r6,rfl,i6⟩:=bD i5;cases i6.nil_inv;cases hs;exact bp ⟨_,rfl,_,rfl,_,rfl,a,_,rfl,hq,fun t H' s' q'=>q H' t s' q'⟩
 | set x y c=>cases hs
 | sum x z y=>cases hs
 | len x r=>cases hs
 | take x=>cases hs
 | tell x=>cases hs
theorem j5{rw:Nat}(hs:d.slot=some s)(hk:d.Ok nm rw):s.1 < rw∧d6 nm s.2.1:=by
 cases d with
 | get x r y c=>cases hs; exact⟨hk.2.1,hk.2.2⟩
 | put r y c z=>cases hs; exact⟨hk.1,hk.2.1⟩
 | set x y c=>cases hs
 | sum x z y=>cases hs
 | len x r=>cases hs
 | take x=>cases hs
 | tell x=>cases hs
theorem ints_set{l:List Int}{v:Int}:(aB l).set i (.int v)=aB (l.set i v):=by unfold aB; rw[List.map_set]
theorem rG(h:i < n):Ai n (i:Int)=some i:=by
 unfold Ai;rw[if_pos (by lia),if_pos (by lia)];rfl
noncomputable def hZ:List (Str × List Str):=[("set",["name","value","number","way"]),("sum",["name","name","value","way"]),("len",["name","row","way"]),("take",["name","way"]),("get",["name","row","value","number","way"]),("put",["row","value","number","name","way"]),
 ("tell",["name","way"]),("test",qS),("ask",["bounds","way","way"]),("end",[])]
inductive yg(K:aW)(vs:List V)(H:Hp)(Q:VK)(E:XK):Prop|m(v:V)(x:Str)(ds:List D)(ks:List Str)(_:vs=[v])(_:Is K H (.tup (.str x::ds)) v)(_:hZ.lookup x=some ks)(_:∀ (H':Hp) (l:Addr) (ps:List V),aD H H'→H' l=some (.lst ps)→H l=none→ps.length=min ks.length ds.length→ (∀ (j:Nat) (k:Str) (d:D),ks[j]?=some k→ds[j]?=some d→∃ t v,ps[j]?=some (.ref t)∧H' t=some (.tup [.str k,v])∧Is K H' d v)→Q (.ref l) H')
abbrev rY:Stmt:=top 10
abbrev sR:Stmt:=top 11
structure Tab (P:Program) (w:World) (K:aW) (mg:Str→Option Value) (a_PARTS:Addr):Prop where
 mp:mg "PARTS" = some (.ref a_PARTS)
 kd:∃ kvs,KD P w K a_PARTS kvs∧∀ (x:Str) (ks:List Str),hZ.lookup x=some ks→∃ p,kvs.lookup x=some (.ref p)∧∀ H:Hp,bY K H p (ks.map V.str)
noncomputable def jm(ks:List Str)(ds:List D):List D:=((ks.zip ds).filter (fun (p:Str × D)=>p.1 == ("way":Str))).map (·.2)
theorem kK{α β:Type}:∀ (i:Nat) (l:List α) (m:List β),(l.take i).zip (m.take i)=(l.zip m).take i
 | 0,_,_=>by simp
 | i + 1,[],_=>by simp
 | i + 1,_::_,[]=>by simp
 | i + 1,a::l,b::m=>by simp[kK i l m]
inductive rZ(K:aW)(vs:List V)(H:Hp)(Q:VK)(E:XK):Prop|m(v:V)(x:Str)(ds:List D)(ks:List Str)(_:vs=[v])(_:Is K H (.tup (.str x::ds)) v)(_:hZ.lookup x=some ks)(_:ds.length≤1000)(_:∀ (H':Hp) (t:Addr) (xs:List V),aD H H'→H' t=some (.tup xs)→IsL K H' (jm ks ds) xs→Q (.ref t) H')
theorem BE:aF qC qC (ao rY):=by walk_at "k"
theorem Dz:aF qC qC (ao sR):=by walk_at "k"
theorem wO(v:V)(vs:List V):my (v::vs) (some 1) none=vs:=by
 unfold my;rw[show HT.dC (v::vs).length 0 (some 1)=min 1 (v::vs).length from HT.yi _ _ 1,HT.A0];simp
theorem BQ(F:cM K "parts" "parts" rY f fd)(m_list:mg "list" = none)(m_zip:mg "zip" = none)(T:Tab P w K mg a_PARTS):bg P w K mg base cH (n + 1) f fd qC (yg K):=by
 refine F.ok BE (by walk_at "l") (fun cdv A outer s H vs Q E hr h=>?_);obtain⟨v,x,ds,ks,rfl,hi,hk,q⟩:=h;have m_PARTS:=T.mp;refine⟨_,(ak (az (vS rfl rfl m_list rfl m_zip (aa (av Gx (iQ rfl m_PARTS (v:=.ref a_PARTS) rfl) (av aA (pv 0) ai)) (aa (hU vE (pv 0) (fH ai) yy) ae))))),?_⟩;obtain⟨a,xs,rfl,hq,il0⟩:=hi.bB;obtain⟨v0,vs,rfl,i0,il⟩:=il0.cons_inv;have e0:=i0.str_inv;subst e0;obtain⟨kvs,kd,kk⟩:=T.kd;obtain⟨p,el,hp⟩:=kk x ks hk;refine⟨_,rfl,a,_,0,_,rfl,rfl,hq,dW _ _,?_⟩;refine⟨a_PARTS,kvs,x,_,rfl,rfl,kd,el,?_⟩;refine⟨_,rfl,_,rfl,a,_,rfl,hq,?_,fun t ht=>?_⟩
 ·rintro⟨h1,_⟩
  rw[show HT.dC (V.str x::vs).length 0 (some 1)=min 1 (V.str x::vs).length from HT.yi _ _ 1]at h1;simp at h1
 ·rw[wO]at *;have st:aD H (upd H t (.tup vs)):=aj ht _;have ln:=il.length;refine⟨p,t,ks.map V.str,vs,rfl,hp _,bY.of af,fun H2 l ps s2 e2 n2 l2 h2=>?_⟩;refine q H2 l ps (st.trans s2) e2 (ay st n2) (by rw[l2,cU,ln]) fun j k d ek ed=>?_
  obtain⟨v,ev,iv⟩:=il.get ed;obtain⟨t2,et,h3⟩:=h2 j (.str k) v (by rw[lK,ek]; rfl) ev;exact⟨t2,v,et,h3,iv.mono (st.trans s2).aS⟩
theorem nj{ks:List Str}{k:Str}{d:D}(hk:ks[i]?=some k)(hd:ds[i]?=some d) :
  jm (ks.take (i + 1)) (ds.take (i + 1))=jm (ks.take i) (ds.take i)++(if k == ("way":Str) then [d] else []):=by
 unfold jm;rw[kK,kK,A2];have e:(ks.zip ds)[i]?=some (k,d):=by
  rw[List.getElem?_zip_eq_some]; exact⟨hk,hd⟩
 rw[e,List.filter_append,je];congr 1;show List.map (·.2) (List.filter (fun (p:Str × D)=>p.1 == ("way":Str)) [(k,d)])=_;rw[List.filter_cons];cases (k == ("way":Str)) <;> rfl
theorem zt(ks:List Str)(ds:List D):jm (ks.take (min ks.length ds.length)) (ds.take (min ks.length ds.length))=jm ks ds:=by
 unfold jm;rw[kK];rw[Ez (by rw[List.length_zip]; exact cq _)]
theorem DA(F:cM K "ways" "ways" sR f fd)(m_tuple:mg "tuple" = none)(c_parts:Cl P w K mg base "parts" n qC (yg K)):bg P w K mg base cH (n + 1) f fd qC (rZ K):=by
 refine F.ok Dz (by walk_at "l") (fun cdv A outer s H vs Q E hr h=>?_);obtain⟨v,x,ds,ks,rfl,hi,hk,h1000,q⟩:=h;refine⟨_,(ak (az (bw jk rfl m_tuple PyProof.Rows.boot_tuple (aa (cS ["kind","part"] rfl (cW (N:=qC) (so:=ao sR) rfl rfl (by decide +kernel)) (du (aC c_parts hr rfl (aa (pv 0) ae))) (fun _ _ _ _ _ _=>(xV (K:=K) (n:=2) rfl rfl (bG (aU (i:=0) (show List.Nodup (α:=Str) ["kind","part","line"] by decide +kernel) rfl (Or.inl rfl) (Or.inr rfl)) (bG (aU (i:=1) (show List.Nodup (α:=Str) ["kind","part","line"] by decide +kernel) rfl (Or.inl rfl) (Or.inr rfl)) eK)))) (fun _ _ _ _ _ _=>(uA (aE bA (pv 0) aJ))) (fun _ _ _ _ _ _=>(pv 1))) ae)))),?_⟩;refine⟨_,rfl,v,x,ds,ks,rfl,hi,hk,fun H1 l ps s1 el nl ln hp=>⟨l,rfl,⟨_,a7.of el⟩,fun p np=>?_⟩⟩;refine fh (xs:=ps) (fun i H'=>aD H1 H'∧∃ acc,H' p=some (.lst acc)∧acc.length≤i∧IsL K H' (jm (ks.take i) (ds.take i)) acc) ⟨aj np _,[],af,cq _,aM⟩ (fun i H' _ h=>a7.of (h.1 _ _ el)) (fun i y H' ey h=>?_) (fun H' h=>?_)
 ·obtain⟨sm,acc,ea,la,il⟩:=h;have hi:i < ps.length:=(eQ.mp ey).1;have hk':i < ks.length:=by lia
  have hd':i < ds.length:=by lia
  obtain⟨t,v,et,ht,iv⟩:=hp i _ _ (cu hk') (cu hd');rw[et]at ey;cases ey;refine⟨t,_,rfl,bY.of (sm _ _ ht),rfl,_,_,rfl,_,_,rfl,rfl,⟨[some (.str ks[i]),some v],rfl,rfl⟩,?_⟩;refine⟨_,rfl,rfl,_,rfl,cT (fun cc=>?_) (fun cc=>?_)⟩
  ·have e:=gS cc;refine⟨_,rfl,acc,ea,aO (by lia),aD.new sm np,acc++[v],af,by rw[iD,vm]; lia,?_⟩;rw[nj (cu hk') (cu hd'),e];exact IsL.append (il.mono (bu.lst ea)) (au ((iv.mono sm.aS).mono (bu.lst ea)) aM)
  ·have e:=f7 cc;refine⟨sm,acc,ea,by lia,?_⟩;rw[nj (cu hk') (cu hd'),show (ks[i] == ("way":Str))=false from by simpa using e]
   simpa using il
 ·obtain⟨sm,acc,ea,la,il⟩:=h;rw[ln,zt]at il;refine⟨p,acc,rfl,.inl ⟨a7.of ea,fun t nt=>?_⟩⟩;exact q _ t acc (s1.trans (sm.trans (aj nt _))) af (il.mono (bu.new nt))
def Iy(ls:List Ln)(nm rw nl:Nat):Prop:=∀ l∈ls,l.Ok nm rw nl
structure Prog (nm rw:Nat) (ls:List Ln):Prop where
 hn:nm≤6
 hr:rw≤3
 l0:0 < ls.length
 l1:ls.length≤70
 ok:Iy ls nm rw ls.length
abbrev jL:Stmt:=top 46
theorem uS:aF qO qO (ao jL):=by walk_at "k"
theorem j8{K:aW}{H:Hp}:∀ {ds:List D} {e:D} {vs:List V},IsL K H (ds++[e]) vs→∃ us v,vs=us++[v]∧IsL K H ds us∧Is K H e v
 | [],e,vs,h=>by
  obtain⟨v,r,rfl,h1,h2⟩:=IsL.cons_inv h;rw[h2.nil_inv];exact⟨[],v,rfl,aM,h1⟩
 | d::ds,e,vs,h=>by
  obtain⟨v,r,rfl,h1,h2⟩:=IsL.cons_inv h;obtain⟨us,z,rfl,h3,h4⟩:=j8 h2;exact⟨v::us,z,rfl,au h1 h3,h4⟩
theorem CQ(x:V)(xs:List V)(v:V):me (x::(xs++[v])) (-1)=some v:=by
 have hl:(x::(xs++[v])).length=xs.length + 2:=by simp
 unfold me Ai;rw[if_neg (by decide),hl,if_pos (by omega)];have e:(-1 + ((xs.length + 2:Nat):Int)).toNat=xs.length + 1:=by omega
 rw[e];show (x::(xs++[v]))[xs.length + 1]?=some v;rw[List.getElem?_cons_succ,CG (cq _),Nat.sub_self];rfl
noncomputable def aX(l:List Nat):List V:=l.map fun (i:Nat)=>V.int (i:Int)
noncomputable def En(l:List Nat):List D:=l.map fun (i:Nat)=>D.int (i:Int)
theorem bJ(l:List Nat):(aX l).length=l.length:=cU ..
theorem fP{l:List Nat}(h:i < l.length):(aX l)[i]?=some (.int (l[i]:Int)):=by
 show (l.map _)[i]?=_;rw[lK,cu h]; rfl
theorem oJ{K:aW}{H:Hp}:∀ {l:List Nat} {xs:List V},IsL K H (En l) xs→xs=aX l
 | [],xs,h=>IsL.nil_inv h
 | i::l,xs,h=>by
  obtain⟨v,r,rfl,h1,h2⟩:=IsL.cons_inv h;cases h1.int_inv;rw[oJ h2];rfl
noncomputable def Ln.wy:Ln→List Nat
 | .deed _ k=>[k]
 | .test _ _ _ k m=>[k,m]
 | .ask _ k m=>[k,m]
 | .stop=>[]
theorem Ey{rw:Nat}(h:l.Ok nm rw nl):∀ g∈l.wy,g < nl:=by
 intro g hg;cases l with
 | deed d k=>
  rw[dU.mp (show g∈[k] from hg)];exact h.2
 | test y u c k m=>
  rcases dO.mp (show g∈[k,m] from hg) with e | e
  ·rw[e]; exact h.2.2.1
  ·rw[dU.mp e]; exact h.2.2.2
 | ask bs k m=>
  rcases dO.mp (show g∈[k,m] from hg) with e | e
  ·rw[e]; exact h.2.2.1
  ·rw[dU.mp e]; exact h.2.2.2
 | stop=>cases hg
theorem EV(l:Ln):l.wy.length≤2:=by cases l <;> exact bQ rfl
noncomputable def Ln.kinds:Ln→List Str
 | .deed d _=>(hZ.lookup d.word).getD []
 | .test ..=>qS
 | .ask ..=>["bounds","way","way"]
 | .stop=>[]
theorem kinds_of(l:Ln):hZ.lookup l.word=some l.kinds:=by
 cases l with
 | deed d k=>cases d <;> rfl
 | test y u c k m=>rfl
 | ask bs k m=>rfl
 | stop=>rfl
theorem uy(l:Ln):jm l.kinds l.args=En l.wy:=by
 cases l with
 | deed d k=>cases d <;> rfl
 | test y u c k m=>rfl
 | ask bs k m=>rfl
 | stop=>rfl
theorem u7{rw:Nat}(h:l.Ok nm rw nl):l.args.length≤1000:=by
 cases l with
 | deed d k=>cases d <;> exact bQ rfl
 | test y u c k m=>exact bQ rfl
 | ask bs k m=>exact bQ rfl
 | stop=>exact bQ rfl
inductive mS(K:aW)(vs:List V)(H:Hp)(Q:VK)(E:XK):Prop|m(l:Ln)(v:V)(_:vs=[v])(_:Is K H l.D v)(_:∀ H' p,aD H H'→H' p=some (.lst (aX l.wy))→H p=none→Q (.ref p) H')
theorem uO(F:cM K "_law_ways" "_law_ways" jL f fd):bg P w K mg base cH (n + 1) f fd qO (mS K):=by
 refine F.ok uS (by walk_at "l") (fun cdv A outer s H vs Q E hr h=>?_);obtain⟨l,v,rfl,hi,q⟩:=h
 refine⟨_,(@ag _ _ _ _ _ (ba (aE fk (av aA (pv 0) ai) (aY (di rfl)) (by with_unfolding_all rfl)) (ak (az (bo (aa (av aA (pv 0) (nJ jG ai)) (aa (av aA (pv 0) (nJ jG ai)) ae))))) aN)
   (@ag _ _ _ _ _ (ba (aE bA (av aA (pv 0) ai) aJ) (ak (az (bo ae))) aN)
   (ak (az (bo (aa (av aA (pv 0) (nJ jG ai)) ae)))))),?_⟩
 obtain⟨t,vs,rfl,hq,il⟩:=dk hi;refine⟨_,rfl,t,_,0,_,rfl,rfl,hq,dW _ _,bQ rfl,fun t2 n2=>⟨t2,_,rfl,.inr (bY.of af),rfl,rfl,_,rfl,?_⟩⟩;have s2:=aj n2 (.tup [.str "test",.str "ask"]);have hq2:=s2.aS.sq hq;cases l with
 | deed d k=>
  obtain⟨us,z,rfl,iu,iz⟩:=j8 (show IsL K H (d.args++[.int (k:Int)]) vs from il);cases iz.int_inv;have back:∃ p':Prop,p':=⟨True,trivial⟩
  have fin:∀ Q':Prop,(∀ p,upd H t2 (.tup [.str "test",.str "ask"]) p=none→Q (.ref p) (upd (upd H t2 (.tup [.str "test",.str "ask"])) p (.lst [.int (k:Int)]))):=fun _ p np=>q _ p (s2.trans (aj np _)) af (ay s2 np)
  cases d <;> exact bp ⟨_,rfl,t,_,0,_,rfl,rfl,hq2,dW _ _,rfl,_,rfl,bp ⟨_,rfl,_,rfl,t,_,_,_,rfl,rfl,hq2,CQ _ _ _,bQ rfl,fin True⟩⟩
 | test y u c k m=>
  obtain⟨r1,rfl,i1⟩:=jf il;obtain⟨r2,rfl,i2⟩:=jf i1;obtain⟨r3,rfl,i3⟩:=bD i2;obtain⟨r4,rfl,i4⟩:=bD i3;obtain⟨r5,rfl,i5⟩:=bD i4;cases i5.nil_inv;exact bI ⟨_,rfl,_,rfl,t,_,_,_,rfl,rfl,hq2,rfl,_,rfl,_,rfl,t,_,_,_,rfl,rfl,hq2,rfl,bQ rfl,fun p np=>q _ p (s2.trans (aj np _)) af (ay s2 np)⟩
 | ask bs k m=>
  obtain⟨v1,r1,rfl,_,i1⟩:=mB il;obtain⟨r4,rfl,i4⟩:=bD i1;obtain⟨r5,rfl,i5⟩:=bD i4;cases i5.nil_inv;exact bI ⟨_,rfl,_,rfl,t,_,_,_,rfl,rfl,hq2,rfl,_,rfl,_,rfl,t,_,_,_,rfl,rfl,hq2,rfl,bQ rfl,fun p np=>q _ p (s2.trans (aj np _)) af (ay s2 np)⟩
 | stop=>
  cases il.nil_inv;exact bp ⟨_,rfl,t,_,0,_,rfl,rfl,hq2,dW _ _,rfl,_,rfl,bI ⟨bQ rfl,fun p np=>q _ p (s2.trans (aj np _)) af (ay s2 np)⟩⟩
noncomputable def ck(ls:List Ln)(i:Nat):List Nat:=((ls[i]?).map Ln.wy).getD []
theorem kg(h:i < ls.length):ck ls i=ls[i].wy:=by unfold ck; rw[cu h]; rfl
inductive lF (ls:List Ln):Nat→Prop
 | zero:lF ls 0
 | step {i j:Nat}:lF ls i→j∈ck ls i→lF ls j
theorem C6{rw:Nat}(P:Prog nm rw ls)(h:j∈ck ls i):i < ls.length∧j < ls.length:=by
 by_cases hi:i < ls.length
 ·rw[kg hi]at h;exact⟨hi,Ey (P.ok _ (vB hi)) j h⟩
 ·unfold ck at h;rw[ES (by lia)]at h;cases h
theorem lF.lt{rw:Nat}(P:Prog nm rw ls)(h:lF ls i):i < ls.length:=by
 cases h with
 | zero=>exact P.l0
 | step _ h=>exact (C6 P h).2
structure bM (ls:List Ln) (rs:List Nat):Prop where
 so:rs.Pairwise (· < ·)
 mem:∀ i,i∈rs↔lF ls i
theorem rf:∀ {l l':List Nat},l.Pairwise (· < ·)→l'.Pairwise (· < ·)→(∀ i,i∈l↔i∈l')→l=l'
 | [],[],_,_,_=>rfl
 | [],b::_,_,_,h=>absurd ((h b).mpr oE) o7
 | a::_,[],_,_,h=>absurd ((h a).mp oE) o7
 | a::l,b::l',h1,h2,h=>by
  obtain⟨p1,q1⟩:=List.pairwise_cons.mp h1;obtain⟨p2,q2⟩:=List.pairwise_cons.mp h2;have e:a=b:=by
   rcases dO.mp ((h a).mp oE) with e | e
   ·exact e
   ·rcases dO.mp ((h b).mpr oE) with e' | e'
    ·exact e'.symm
    ·have:=p1 b e';have:=p2 a e
     lia
  subst e;rw[rf q1 q2 fun i=>⟨fun hi=>?_,fun hi=>?_⟩]
  ·rcases dO.mp ((h i).mp (tu _ hi)) with e | e
   ·have:=p1 i hi; lia
   ·exact e
  ·rcases dO.mp ((h i).mpr (tu _ hi)) with e | e
   ·have:=p2 i hi; lia
   ·exact e
theorem bM.eq{rs':List Nat}(h:bM ls rs)(h':bM ls rs'):rs=rs':=rf h.so h'.so fun i=>(h.mem i).trans (h'.mem i).symm
theorem bM.nodup(h:bM ls rs):rs.Nodup:=h.so.imp fun h=>eR h
theorem cX:∀ {n:Nat} {l:List Nat},l.Nodup→(∀ i∈l,i < n)→l.length≤n
 | 0,[],_,_=>cq _
 | 0,a::_,_,h=>absurd (h a oE) (Nat.not_lt_zero _)
 | n + 1,l,hn,h=>by
  have h1:(l.filter (·≠n)).length≤n:=cX (hn.sublist List.filter_sublist) fun i hi=>by
   have:=List.mem_filter.mp hi;have:=h i this.1;have:i≠n:=by simpa using (List.mem_filter.mp hi).2
   lia
  have h2:l.length≤(l.filter (·≠n)).length + 1:=by
   clear h1 h
   induction l with
   | nil=>exact fE _
   | cons a l ih=>
    obtain⟨h3,h4⟩:=vx.mp hn;by_cases e:a=n
    ·subst e;have:(a::l).filter (·≠a)=l:=by
      rw[List.filter_cons,if_neg (by simp),List.filter_eq_self];intro x hx;simp only[ne_eq,decide_not,Bool.not_eq_true',decide_eq_false_iff_not];exact fun z=>h3 (z ▸ hx)
     rw[this,tD]
     lia
    ·rw[List.filter_cons,if_pos (by simpa using e),tD,tD];have:=ih h4
     lia
  lia
theorem lV(hp:ns.Perm (F.map fun (i:Nat)=>(i:Int)))(hs:ns.Pairwise (·≤·))(hn:F.Nodup):∃ rs:List Nat,ns.map V.int=aX rs∧rs.Pairwise (· < ·)∧(∀ i,i∈rs↔i∈F):=by
 have pos:∀ x∈ns,∃ i:Nat,i∈F∧x=(i:Int):=fun x hx=>by
  obtain⟨i,hi,e⟩:=zM.mp (hp.mem_iff.mp hx);exact⟨i,hi,e.symm⟩
 have hn':ns.Nodup:=hp.nodup_iff.mpr (List.Pairwise.map _ (fun a b h e=>h (Int.ofNat.inj e)) hn);refine⟨ns.map Int.toNat,?_,?_,fun i=>⟨fun hi=>?_,fun hi=>?_⟩⟩
 ·unfold aX;rw[List.map_map];refine List.map_congr_left fun x hx=>?_
  obtain⟨i,_,rfl⟩:=pos x hx;rfl
 ·refine List.pairwise_map.mpr ?_;refine List.Pairwise.imp_of_mem ?_ (hs.and hn');intro a b ha hb h;obtain⟨i,_,rfl⟩:=pos a ha;obtain⟨j,_,rfl⟩:=pos b hb;show i < j;have h1:(i:Int)≤(j:Int):=h.1;have h2:(i:Int)≠(j:Int):=h.2
  lia
 ·obtain⟨x,hx,rfl⟩:=zM.mp hi;obtain⟨j,hj,rfl⟩:=pos x hx;exact hj
 ·exact zM.mpr ⟨(i:Int),hp.mem_iff.mpr (zM.mpr ⟨i,hi,rfl⟩),rfl⟩
noncomputable def bz(ks:List Nat)(g:Nat→V):List (Key × V):=ks.map fun (k:Nat)=>(Sum.inl (k:Int),g k)
theorem gK(ks:List Nat)(g:Nat→V):(bz ks g).length=ks.length:=cU ..
theorem fc:∀ (ks:List Nat) (g:Nat→V) (k:Nat),cv (bz ks g) (Sum.inl (k:Int))=if k∈ks then some (g k) else none
 | [],g,k=>by rw[if_neg o7]; rfl
 | a::ks,g,k=>by
  by_cases e:a=k
  ·subst e;rw[if_pos oE];exact cy (p:=(Sum.inl (a:Int),g a)) rfl
  ·have:cv (bz (a::ks) g) (Sum.inl (k:Int))=cv (bz ks g) (Sum.inl (k:Int)):=cA (p:=(Sum.inl (a:Int),g a)) (fun z=>e (Int.ofNat.inj (Sum.inl.inj z)));rw[this,fc ks g k];by_cases h:k∈ks
   ·rw[if_pos h,if_pos (tu _ h)]
   ·rw[if_neg h,if_neg (fun z=>(dO.mp z).elim (fun z=>e z.symm) h)]
theorem yU{g:Nat→V}(h:∀ k∈ks,g k=g' k):bz ks g=bz ks g':=List.map_congr_left fun k hk=>by rw[h k hk]
theorem AU{g:Nat→V}{k:Nat}(h:∀ j∈ks,g' j=g j):bz ks g++[(Sum.inl (k:Int),g' k)]=bz (ks++[k]) g':=by
 unfold bz;rw[je];congr 1;exact List.map_congr_left fun j hj=>by rw[h j hj]
theorem mJ{g:Nat→V}{k:Nat}(h:k∉ks):putK (bz ks g) (Sum.inl (k:Int)) (g k)=bz (ks++[k]) g:=by
 rw[uI _ (by rw[fc,if_neg h])];exact AU fun _ _=>rfl
theorem uP(ks:List Nat)(g:Nat→V):(bz ks g).map (·.1)=(ks.map fun (i:Nat)=>(i:Int)).map Sum.inl:=by
 unfold bz;rw[List.map_map,List.map_map]; rfl
theorem pV:∀ {more:List Nat} {ks:List Nat} {g:Nat→V},(ks++more).Nodup→dS (bz ks g) (bz more g)=bz (ks++more) g
 | [],ks,g,_=>by rw[xE]; rfl
 | k::more,ks,g,h=>by
  have hk:k∉ks:=fun z=>by
   have:=(List.nodup_append.mp h).2.2 k z k oE;exact this rfl
  show dS (putK (bz ks g) (Sum.inl (k:Int)) (g k)) (bz more g)=_;rw[mJ hk,pV (by rw[mE]; exact h),mE]; rfl
structure gX (K:aW) (H:Hp) (tp al:Addr) (nm rw:Nat) (ls:List Ln):Prop where
 t:bY K H tp [.int (nm:Int),.int (rw:Int),.ref al]
 l:∃ xs,a7 K H al xs∧IsL K H (ls.map Ln.D) xs
 ok:Prog nm rw ls
theorem gX.same{K:aW}{rw:Nat}(h:gX K H tp al nm rw ls)(s:aD H H'):gX K H' tp al nm rw ls:=by
 obtain⟨h1,⟨xs,h2,h3⟩,h4⟩:=h;exact⟨s.aS.sq h1,⟨xs,s.seq h2,h3.mono s.aS⟩,h4⟩
theorem eN{K:aW}(h:∃ xs,a7 K H al xs∧IsL K H (ls.map Ln.D) xs)(hi:i < ls.length):∃ xs v,a7 K H al xs∧me xs (i:Int)=some v∧Is K H ls[i].D v:=by
 obtain⟨xs,h2,h3⟩:=h;obtain⟨v,ev,iv⟩:=h3.get (j:=i) (d:=ls[i].D) (by rw[lK,cu hi]; rfl);exact⟨xs,v,h2,bf ev,iv⟩
abbrev ja:Stmt:=top 17
theorem fB:aF ["program","found","waiting","at","after"] AG (ao ja):=by walk_at "k"
inductive uq(K:aW)(vs:List V)(H:Hp)(Q:VK)(E:XK):Prop|m(tp al:Addr)(nm rw:Nat)(ls:List Ln)(_:vs=[.ref tp])(_:gX K H tp al nm rw ls)(_:∀ (H':Hp) (p:Addr) (rs:List Nat),aD H H'→H' p=some (.lst (aX rs))→H p=none→bM ls rs→Q (.ref p) H')
abbrev yes:Nat→V:=fun _=>.bl true
structure CT (ls:List Ln) (F W:List Nat):Prop where
 nd:F.Nodup
 z:0∈F
 r:∀ i∈F,lF ls i
 w:∀ i∈W,i∈F
 c:∀ i∈F,i∉W→∀ j∈ck ls i,j∈F
theorem CT.all(h:CT ls F []):lF ls i→i∈F:=fun hr=>by
 induction hr with
 | zero=>exact h.z
 | step _ hj ih=>exact h.c _ ih o7 _ hj
structure CI (ls:List Ln) (F W:List Nat) (a k:Nat):Prop where
 nd:F.Nodup
 z:0∈F
 r:∀ i∈F,lF ls i
 w:∀ i∈W,i∈F
 ha:a∈F
 c:∀ i∈F,i∉W→i≠a→∀ j∈ck ls i,j∈F
 d:∀ j∈(ck ls a).take k,j∈F
theorem CT.start(h:CT ls F (W++[a])):CI ls F W a 0:=
 ⟨h.nd,h.z,h.r,fun i hi=>h.w i (tq _ hi),h.w a (by simp),fun i hi h1 h2=>h.c i hi fun z=>by
  rcases fv.mp z with z | z
  ·exact h1 z
  ·exact h2 (dU.mp z),fun j hj=>by simp at hj⟩
theorem nh{l:List Nat}{k:Nat}(e:l[k]?=some g)(h:j∈l.take (k + 1)):j∈l.take k∨j=g:=by
 rw[A2,e]at h;rcases fv.mp h with h | h
 ·exact .inl h
 ·exact .inr (by simpa using h)
theorem CI.old{k:Nat}(h:CI ls F W a k)(e:(ck ls a)[k]?=some g)(hg:g∈F):CI ls F W a (k + 1):=
 ⟨h.nd,h.z,h.r,h.w,h.ha,h.c,fun j hj=>by
  rcases nh e hj with hj | rfl
  ·exact h.d j hj
  ·exact hg⟩
theorem CI.new{k:Nat}(h:CI ls F W a k)(e:(ck ls a)[k]?=some g)(hg:g∉F):CI ls (F++[g]) (W++[g]) a (k + 1):=by
 refine⟨fN h.nd hg,tq _ h.z,fun i hi=>?_,fun i hi=>?_,tq _ h.ha,fun i hi h1 h2 j hj=>?_,fun j hj=>?_⟩
 ·rcases fv.mp hi with hi | hi
  ·exact h.r i hi
  ·rw[dU.mp hi];exact .step (h.r a h.ha) (gh e)
 ·rcases fv.mp hi with hi | hi
  ·exact tq _ (h.w i hi)
  ·exact vA _ hi
 ·rcases fv.mp hi with hi | hi
  ·exact tq _ (h.c i hi (fun z=>h1 (tq _ z)) h2 j hj)
  ·exact absurd (vA _ hi) h1
 ·rcases nh e hj with hj | rfl
  ·exact tq _ (h.d j hj)
  ·exact vA _ (dU.mpr rfl)
theorem CI.stop{k:Nat}(h:CI ls F W a k)(hk:(ck ls a).length≤k):CT ls F W:=by
 refine⟨h.nd,h.z,h.r,h.w,fun i hi h1 j hj=>?_⟩;by_cases e:i=a
 ·subst e;exact h.d j (by rw[Ez hk]; exact hj)
 ·exact h.c i hi h1 e j hj
theorem xh(F:cM K "come_to" "come_to" ja f fd)(m_sorted:mg "sorted" = none)(c_ways:Cl P w K mg base "ways" n qC (rZ K)):bg P w K mg base cH (n + 1) f fd AG (uq K):=by
 refine F.ok fB (by walk_at "l") (fun cdv A outer s H vs Q E hr h=>?_);obtain⟨tp,al,nm,rw,ls,rfl,hP,q⟩:=h;have hu:(A.deeper (envOfC "come_to" (ao ja) s.heap.objs.size f cdv)).units + 1 < cLine:=by have:=hr.units; lia
 refine⟨_,(@ag _ _ _ _ _ (@iq _ _ 1 _ _ _ _ fB.nd rfl (Or.inl rfl) (@mT _ _ _ _ _ (@ki _ _ _ _ _ _ _ _ _ ai dR mG) rfl rfl (fun z=>nomatch z) (by decide)) rfl (by first | exact .inl rfl | exact .inr rfl))
   (@ag _ _ _ _ _ (aV (i:=2) fB.nd (bo (aa ai ae)))
   (@ag _ _ _ _ _ (gi mO (tF (pv 2) (fun _=>rfl)) (@ag _ _ _ _ _ (aV (i:=3) fB.nd (AS v9 PySem.F.slot_list_pop PySem.F.type_list_pop Bp (pv 2)))
   (ak (cQ mO rfl (oo (aC c_ways hr rfl (aa (av aK (av aA (pv 0) ai) (pv 3)) ae))) (aU (i:=4) fB.nd rfl (Or.inl rfl)) (ak (ba (sF (lH hu (pv 4) (pv 1))) (@ag _ _ _ _ _ (gI hu (pv 1) (pv 4) dR rfl)
   (ak (bZ (fJ v9 Cp Cv cE (pv 2) (aa (pv 4) ae))))) aN))))))
   (ak (az (bj (kh rfl) rfl m_sorted PyProof.Rows.boot_sorted (aa (pv 1) ae))))))),?_⟩
 intro pd npd;refine⟨af,[(Sum.inl 0,.bl true)],rfl,bQ rfl,?_⟩;have lt:∀ {F W:List Nat},CT ls F W→F.length≤ls.length:=fun h=>cX h.nd fun i hi=>(h.r i hi).lt hP.ok
 have l1:=hP.ok.l1;have e0:upd (upd H pd (.dK [])) pd (.dK (dS [] [(Sum.inl 0,.bl true)]))=upd H pd (.dK (bz [0] yes)):=by rw[yC]; rfl
 rw[e0];have s1:=aj npd (.dK (bz [0] yes));refine⟨bQ rfl,fun pw npw=>?_⟩;have s2:=aj npw (.lst [.int 0]);have ed:=s2 _ _ (af (H:=H) (a:=pd) (o:=.dK (bz [0] yes)));have ew:upd (upd H pd (.dK (bz [0] yes))) pw (.lst [.int 0]) pw=some (.lst (aX [0])):=af;have npw0:=ay s1 npw;have s02:=s1.trans s2;have hdw:pd≠pw:=cx (af (H:=H) (a:=pd) (o:=.dK (bz [0] yes))) npw;generalize upd (upd H pd (.dK (bz [0] yes))) pw (.lst [.int 0])=H2 at ed ew s02;clear s1 s2 npw e0
 refine⟨fun m σ H'=>∃ (F W:List Nat) (y3 y4:Option V),aD H H'∧H' pd=some (.dK (bz F yes))∧H' pw=some (.lst (aX W))∧CT ls F W∧(m=2 * (ls.length - F.length) + W.length∧m≤2 * ls.length)∧σ=[some (.ref tp),some (.ref pd),some (.ref pw),y3,y4],
  ⟨_,[0],[0],_,_,s02,ed,ew,⟨by simp,by simp,fun i hi=>by rw[dU.mp hi]; exact .zero,fun _ h=>h,fun i hi h=>absurd hi h⟩,⟨rfl,by have:=hP.ok.l0; show 2 * (ls.length - 1) + 1≤_; lia⟩,rfl⟩,fun m σ H3 h=>?_⟩
 obtain⟨F,W,y3,y4,s3,ed3,ew3,C,⟨rfl,hm0⟩,rfl⟩:=h;refine⟨_,rfl,_,.inl ⟨_,a7.of ew3,rfl⟩,?_⟩;rcases List.eq_nil_or_concat W with rfl | ⟨W',a,rfl⟩
 ·refine bp ?_;refine⟨_,rfl,pd,_,F.map (fun (i:Nat)=>(i:Int)),rfl,ed3,uP F yes,by rw[gK]; have:=lt C; lia,fun l ns nl hp hs=>?_⟩;obtain⟨rs,e1,e2,e3⟩:=lV hp hs C.nd;rw[e1];exact q _ l rs (s3.trans (aj nl _)) af (ay s3 nl) ⟨e2,fun i=>(e3 i).trans ⟨C.r i,C.all⟩⟩
 ·rw[List.concat_eq_append]at ew3 C ⊢;have ea:(aX (W'++[a]))=aX W'++[.int (a:Int)]:=by unfold aX; rw[je]; rfl
  have la:(W'++[a]).length=W'.length + 1:=by simp
  rw[List.concat_eq_append,la]at hm0;refine cT (fun _=>?_) (fun cc=>absurd (by rw[ea]; simp) cc);refine⟨fun σ' H'=>∃ m',m' < 2 * (ls.length - F.length) + (W'++[a]).length∧∃ (F W:List Nat) (y3 y4:Option V),aD H H'∧H' pd=some (.dK (bz F yes))∧H' pw=some (.lst (aX W))∧CT ls F W∧(m'=2 * (ls.length - F.length) + W.length∧m'≤2 * ls.length)∧σ'=[some (.ref tp),some (.ref pd),some (.ref pw),y3,y4],fun _ _ h=>h,?_⟩;have hra:=C.r a (C.w a (by simp));have hla:=hra.lt hP.ok;refine⟨_,rfl,.inl ⟨rfl,_,a7.of ew3⟩,pw,_,.int (a:Int),rfl,rfl,ew3,by rw[ea]; simp,?_⟩;have ew4:upd H3 pw (.lst (aX (W'++[a])).dropLast) pw=some (.lst (aX W')):=by rw[af,ea,List.dropLast_concat]
  have ed4:upd H3 pw (.lst (aX (W'++[a])).dropLast) pd=some (.dK (bz F yes)):=by rw[aq hdw]; exact ed3
  have s4:aD H (upd H3 pw (.lst (aX (W'++[a])).dropLast)):=aD.new s3 npw0;generalize upd H3 pw (.lst (aX (W'++[a])).dropLast)=H4 at ew4 ed4 s4;clear ew3 ed3 s3;have P4:=hP.same s4;obtain⟨xs,v,hxs,hv,iv⟩:=eN P4.l hla;have okl:=hP.ok.ok _ (vB hla);have ewy:=kg hla;generalize ls[a]=l at iv okl ewy;refine⟨_,rfl,tp,_,2,_,rfl,rfl,P4.t,at2 _ _ _ _,_,rfl,al,xs,_,_,rfl,rfl,hxs,hv,v,l.word,l.args,l.kinds,rfl,iv,kinds_of l,u7 okl,fun H5 t xs5 s5 et il=>⟨t,rfl,⟨_,bY.of et⟩,?_⟩⟩;rw[uy]at il;cases oJ il;have ed5:=s5 _ _ ed4;have ew5:=s5 _ _ ew4;have s05:=s4.trans s5;refine C4 (xs:=aX l.wy) (fun i σ H'=>∃ (F' W2:List Nat) (y4:Option V),aD H H'∧H' t=some (.tup (aX l.wy))∧H' pd=some (.dK (bz F' yes))∧H' pw=some (.lst (aX W2))∧CI ls F' W2 a i∧2 * (ls.length - F'.length) + W2.length≤2 * (ls.length - F.length) + W'.length∧σ=[some (.ref tp),some (.ref pd),some (.ref pw),some (.int (a:Int)),y4])
   ⟨F,W',_,s05,et,ed5,ew5,C.start,cq _,rfl⟩ (fun i σ H' _ h=>?_) (fun i x σ H' ex h=>?_) (fun σ H' h=>?_)
  ·obtain⟨F',W2,y4,_,e,_⟩:=h;exact bY.of e
  ·obtain⟨F',W2,y4,s6,et6,ed6,ew6,CC,hm,rfl⟩:=h;have hi:i < l.wy.length:=by have:=(eQ.mp ex).1; rw[bJ]at this; exact this
   rw[fP hi]at ex;cases ex;have eg:(ck ls a)[i]?=some l.wy[i]:=by rw[ewy]; exact cu hi
   generalize l.wy[i]=g at eg;refine⟨_,rfl,_,rfl,pd,_,rfl,jt.k (k:=.inl (g:Int)) ed6,_,rfl,?_⟩;rw[fc];by_cases hg:g∈F'
   ·rw[if_pos hg];exact bp ⟨F',W2,_,s6,et6,ed6,ew6,CC.old eg hg,hm,rfl⟩
   ·rw[if_neg hg];have C2:=CC.new eg hg;have hl2:(F'++[g]).length≤ls.length:=cX C2.nd fun i hi=>(C2.r i hi).lt hP.ok
    rw[iD,vm]at hl2;have hW:W2.length≤1000:=by lia
    refine bI ⟨_,rfl,_,rfl,pd,_,rfl,nP.k (k:=.inl (g:Int)) ed6 (aO (by rw[gK]; lia)),?_⟩;have e7:putK (bz F' yes) (Sum.inl (g:Int)) (.bl true)=bz (F'++[g]) yes:=mJ (g:=yes) hg;rw[e7];have ew7:upd H' pd (.dK (bz (F'++[g]) yes)) pw=some (.lst (aX W2)):=by rw[aq (Ne.symm hdw)]; exact ew6
    refine⟨_,rfl,.inl ⟨rfl,_,a7.of ew7⟩,_,rfl,pw,_,_,rfl,rfl,ew7,aO (by rw[bJ]; lia),?_⟩;refine⟨F'++[g],W2++[g],_,aD.new (aD.new s6 npd) npw0,?_,?_,?_,C2,?_,rfl⟩
    ·rw[aq (bh et6 ew6 (by intro z; cases z)),aq (bh et6 ed6 (by intro z; cases z))]; exact et6
    ·rw[aq hdw,af]
    ·rw[af]; unfold aX; rw[je]; rfl
    ·rw[iD,iD,vm]; lia
  ·obtain⟨F',W2,y4,s6,et6,ed6,ew6,CC,hm,rfl⟩:=h;refine⟨_,?_,F',W2,_,_,s6,ed6,ew6,CC.stop (by rw[ewy,bJ]; exact cq _),⟨rfl,by lia⟩,rfl⟩;rw[la]; lia
abbrev yu:Stmt:=top 47
theorem jz:aF ["_law_lines","_law_met_here","_law_grown","_law_at","_law_goal_here"] ["_law_lines"] (ao yu):=by walk_at "k"
inductive D4(K:aW)(vs:List V)(H:Hp)(Q:VK)(E:XK):Prop|m(al:Addr)(nm rw:Nat)(ls:List Ln)(_:vs=[.ref al])(_:(∃ xs,a7 K H al xs∧IsL K H (ls.map Ln.D) xs))(_:Prog nm rw ls)(_:∀ (H':Hp) (p:Addr) (rs:List Nat),aD H H'→H' p=some (.lst (aX rs))→H p=none→bM ls rs→Q (.ref p) H')
structure LM (ls:List Ln) (F:List Nat):Prop where
 nd:F.Nodup
 z:0∈F
 r:∀ i∈F,lF ls i
def Fl(ls:List Ln)(F:List Nat):Prop:=∀ a∈F,∀ j∈ck ls a,j∈F
theorem LM.all(h:LM ls F)(c:Fl ls F):lF ls i→i∈F:=fun hr=>by
 induction hr with
 | zero=>exact h.z
 | step _ hj ih=>exact c _ ih _ hj
theorem LM.new(h:LM ls F)(ha:a∈F)(hj:g∈ck ls a)(hg:g∉F):LM ls (F++[g]):=
 ⟨fN h.nd hg,tq _ h.z,fun i hi=>by
  rcases fv.mp hi with hi | hi
  ·exact h.r i hi
  ·rw[dU.mp hi]
   exact .step (h.r a ha) hj⟩
structure LP (ls:List Ln) (F F':List Nat) (b:Bool) (i k:Nat):Prop where
 m:LM ls F'
 s:∀ a∈F,a∈F'
 t:b=true→F.length < F'.length
 l:F.length≤F'.length
 f:b=false→F'=F∧(∀ a,a < i→a∈F→∀ j∈ck ls a,j∈F)∧(i∈F→∀ j∈(ck ls i).take k,j∈F)
theorem jE{K:aW}(s:aD H H')(h:∃ xs,a7 K H al xs∧IsL K H (ls.map Ln.D) xs):∃ xs,a7 K H' al xs∧IsL K H' (ls.map Ln.D) xs:=by
 obtain⟨xs,h1,h2⟩:=h;exact⟨xs,s.seq h1,h2.mono s.aS⟩
theorem pU{K:aW}(h:IsL K H (ls.map Ln.D) xs):xs.length=ls.length:=by
 have:=h.length;rw[cU]at this;exact this.symm
theorem FC(F:cM K "_law_met" "_law_met" yu f fd)(m_sorted:mg "sorted" = none)(m_range:mg "range" = none)(m_len:mg "len" = none)(c_law_ways:Cl P w K mg base "_law_ways" n qO (mS K)):bg P w K mg base cH (n + 1) f fd ["_law_lines"] (D4 K):=by
 refine F.ok jz (by walk_at "l") (fun cdv A outer s H vs Q E hr h=>?_);obtain⟨al,nm,rw,ls,rfl,hL,hP,q⟩:=h;have hu:(A.deeper (envOfC "_law_met" (ao yu) s.heap.objs.size f cdv)).units + 1 < cLine:=by have:=hr.units; lia
 refine⟨_,(@ag _ _ _ _ _ (@iq _ _ 1 _ _ _ _ jz.nd rfl (Or.inl rfl) (@mT _ _ _ _ _ (@ki _ _ _ _ _ _ _ _ _ ai dR mG) rfl rfl (fun z=>nomatch z) (by decide)) rfl (by first | exact .inl rfl | exact .inr rfl))
   (@ag _ _ _ _ _ (aV (i:=2) jz.nd dR)
   (@ag _ _ _ _ _ (gi mO (dH (pv 2)) (@ag _ _ _ _ _ (aV (i:=2) jz.nd dR)
   (ak (cQ mO rfl (bO rfl m_range (aa (bj a8 rfl m_len qi (aa (pv 0) ae)) ae)) (aU (i:=3) jz.nd rfl (Or.inl rfl)) (ak (ba (sF (FN hu (pv 3) (pv 1))) (ak (cQ mO rfl (du (aC c_law_ways hr rfl (aa (av aK (pv 0) (pv 3)) ae))) (aU (i:=4) jz.nd rfl (Or.inl rfl)) (ak (ba (sF (lH hu (pv 4) (pv 1))) (@ag _ _ _ _ _ (gI hu (pv 1) (pv 4) dR rfl)
   (ak (aV (i:=2) jz.nd dR))) aN)))) aN))))))
   (ak (az (bj (kh rfl) rfl m_sorted PyProof.Rows.boot_sorted (aa (pv 1) ae))))))),?_⟩
 intro pd npd;refine⟨af,[(Sum.inl 0,.bl true)],rfl,bQ rfl,?_⟩;have lt:∀ {F:List Nat},LM ls F→F.length≤ls.length:=fun h=>cX h.nd fun i hi=>(h.r i hi).lt hP
 have l1:=hP.l1;have e0:upd (upd H pd (.dK [])) pd (.dK (dS [] [(Sum.inl 0,.bl true)]))=upd H pd (.dK (bz [0] yes)):=by rw[yC]; rfl
 rw[e0];have s1:=aj npd (.dK (bz [0] yes));have ed:upd H pd (.dK (bz [0] yes)) pd=some (.dK (bz [0] yes)):=af;generalize upd H pd (.dK (bz [0] yes))=H1 at s1 ed
 refine⟨fun m σ H'=>∃ (F:List Nat) (b:Bool) (y3 y4:Option V),aD H H'∧H' pd=some (.dK (bz F yes))∧LM ls F∧(b=false→Fl ls F)∧m=(ls.length - F.length) + (if b then 1 else 0)∧σ=[some (.ref al),some (.ref pd),some (.bl b),y3,y4],
  ⟨_,[0],true,_,_,s1,ed,⟨by simp,by simp,fun i hi=>by rw[dU.mp hi]; exact .zero⟩,fun z=>(by cases z),rfl,rfl⟩,fun m σ H3 h=>?_⟩
 obtain⟨F,b,y3,y4,s3,ed3,M,hc,rfl,rfl⟩:=h;refine⟨_,rfl,b,rfl,?_⟩;cases b with
 | false=>
  refine bp ?_;refine⟨_,rfl,pd,_,F.map (fun (i:Nat)=>(i:Int)),rfl,ed3,uP F yes,by rw[gK]; have:=lt M; lia,fun l ns nl hp hs=>?_⟩;obtain⟨rs,e1,e2,e3⟩:=lV hp hs M.nd;rw[e1];exact q _ l rs (s3.trans (aj nl _)) af (ay s3 nl) ⟨e2,fun i=>(e3 i).trans ⟨M.r i,M.all (hc rfl)⟩⟩
 | true=>
  refine bI ⟨fun σ' H'=>∃ m',m' < (ls.length - F.length) + (if true=true then 1 else 0)∧∃ (F:List Nat) (b:Bool) (y3 y4:Option V),aD H H'∧H' pd=some (.dK (bz F yes))∧LM ls F∧(b=false→Fl ls F)∧m'=(ls.length - F.length) + (if b then 1 else 0)∧σ'=[some (.ref al),some (.ref pd),some (.bl b),y3,y4],fun _ _ h=>h,?_⟩;obtain⟨xs,hxs,ixs⟩:=jE s3 hL;refine⟨_,rfl,al,xs,rfl,.inl hxs,_,rfl,by lia,by rw[pU ixs]; lia,?_⟩;rw[m8,pU ixs];refine dh (n:=ls.length) (fun i σ H'=>∃ (F':List Nat) (b:Bool) (y3 y4:Option V),aD H H'∧H' pd=some (.dK (bz F' yes))∧LP ls F F' b i 0∧σ=[some (.ref al),some (.ref pd),some (.bl b),y3,y4])
   ⟨F,false,_,_,s3,ed3,⟨M,fun _ h=>h,fun z=>(by cases z),cq _,fun _=>⟨rfl,fun a h=>absurd h (Nat.not_lt_zero _),fun _ j hj=>by simp at hj⟩⟩,rfl⟩ (fun i σ H4 hi h=>?_) (fun σ H4 h=>?_)
  ·obtain⟨F',b,y3,y4,s4,ed4,L,rfl⟩:=h;rw[Co];refine⟨_,rfl,_,rfl,pd,_,rfl,jt.k (k:=.inl (i:Int)) ed4,_,rfl,?_⟩;rw[fc];by_cases ha:i∈F'
   ·rw[if_pos ha];refine bI ?_;obtain⟨xs,v,hxs,hv,iv⟩:=eN (jE s4 hL) hi;have ewy:=kg hi;generalize ls[i]=l at iv ewy;refine⟨_,rfl,_,rfl,al,xs,_,_,rfl,rfl,hxs,hv,l,v,rfl,iv,fun H5 pl s5 el nl=>⟨pl,rfl,⟨_,a7.of el⟩,?_⟩⟩;refine gj (xs:=aX l.wy) (fun k σ H'=>∃ (F2:List Nat) (b:Bool) (y4:Option V),aD H H'∧H' pl=some (.lst (aX l.wy))∧H' pd=some (.dK (bz F2 yes))∧i∈F2∧LP ls F F2 b i k∧σ=[some (.ref al),some (.ref pd),some (.bl b),some (.int (i:Int)),y4])
     ⟨F',b,_,s4.trans s5,el,s5 _ _ ed4,ha,L,rfl⟩ (fun k σ H' _ h=>?_) (fun k x σ H' ex h=>?_) (fun σ H' h=>?_)
    ·obtain⟨F2,b,y4,_,e,_⟩:=h;exact a7.of e
    ·obtain⟨F2,b,y4,s6,el6,ed6,ha6,L6,rfl⟩:=h;have hk:k < l.wy.length:=by have:=(eQ.mp ex).1; rw[bJ]at this; exact this
     rw[fP hk]at ex;cases ex;have eg:(ck ls i)[k]?=some l.wy[k]:=by rw[ewy]; exact cu hk
     generalize l.wy[k]=g at eg;refine⟨_,rfl,_,rfl,pd,_,rfl,jt.k (k:=.inl (g:Int)) ed6,_,rfl,?_⟩;rw[fc];by_cases hg:g∈F2
     ·rw[if_pos hg];refine bp ⟨F2,b,_,s6,el6,ed6,ha6,⟨L6.m,L6.s,L6.t,L6.l,fun e=>?_⟩,rfl⟩;obtain⟨e1,e2,e3⟩:=L6.f e;subst e1;refine⟨rfl,e2,fun h j hj=>?_⟩;rcases nh eg hj with hj | rfl
      ·exact e3 h j hj
      ·exact hg
     ·rw[if_neg hg];have M2:=L6.m.new ha6 (gh eg) hg;have hl2:=lt M2;rw[iD,vm]at hl2;refine bI ⟨_,rfl,_,rfl,pd,_,rfl,nP.k (k:=.inl (g:Int)) ed6 (aO (by rw[gK]; lia)),?_⟩;have e7:putK (bz F2 yes) (Sum.inl (g:Int)) (.bl true)=bz (F2++[g]) yes:=mJ (g:=yes) hg;rw[e7];refine⟨F2++[g],true,_,aD.new s6 npd,?_,af,tq _ ha6,⟨M2,fun a h=>tq _ (L6.s a h),fun _=>?_,?_,fun z=>(by cases z)⟩,rfl⟩
      ·rw[aq (bh el6 ed6 (by intro z; cases z))]; exact el6
      ·have:=L6.l;rw[iD,vm]; lia
      ·have:=L6.l;rw[iD,vm]; lia
    ·obtain⟨F2,b,y4,s6,el6,ed6,ha6,L6,rfl⟩:=h;refine⟨F2,b,_,_,s6,ed6,⟨L6.m,L6.s,L6.t,L6.l,fun e=>?_⟩,rfl⟩;obtain⟨e1,e2,e3⟩:=L6.f e;subst e1;refine⟨rfl,fun a h hax j hj=>?_,fun _ j hj=>by simp at hj⟩;by_cases ea:a=i
     ·subst ea;exact e3 hax j (by rw[Ez (by rw[ewy,bJ]; exact cq _)]; exact hj)
     ·exact e2 a (by lia) hax j hj
   ·rw[if_neg ha];refine bp ⟨F',b,_,_,s4,ed4,⟨L.m,L.s,L.t,L.l,fun e=>?_⟩,rfl⟩;obtain⟨e1,e2,e3⟩:=L.f e;subst e1;refine⟨rfl,fun a h ha' j hj=>?_,fun _ j hj=>by simp at hj⟩;by_cases ea:a=i
    ·subst ea; exact absurd ha' ha
    ·exact e2 a (by lia) ha' j hj
  ·obtain⟨F',b,y3,y4,s4,ed4,L,rfl⟩:=h;have h1:=lt L.m;have h2:=L.l;refine⟨_,?_,F',b,_,_,s4,ed4,L.m,fun e a ha=>?_,rfl,rfl⟩
   ·cases b with
    | true=>have:=L.t rfl; rw[if_pos rfl]; lia
    | false=>rw[if_neg gW,if_pos rfl]; lia
   ·obtain⟨e1,e2,_⟩:=L.f e;subst e1;exact e2 a ((L.m.r a ha).lt hP) ha
abbrev Way:=Option (Nat × Nat)
noncomputable def A5:Way→D
 | none=>.non
 | some (a,b)=>.tup [.int (a:Int),.int (b:Int)]
noncomputable def basis(k:Nat):List Way:=if k=0 then [none] else []
noncomputable def hits(ws:List Nat)(a k:Nat):List Way:=ws.zipIdx.filterMap fun (g,j)=>if g=k then some (some (a,j)) else none
theorem lA{k:Nat}(e:ws[j]?=some g):hits (ws.take (j + 1)) a k=hits (ws.take j) a k++(if g=k then [some (a,j)] else []):=by
 unfold hits;have hj:j < ws.length:=(eQ.mp e).1;rw[A2,e,List.zipIdx_append,List.filterMap_append];congr 1;have:0 + (ws.take j).length=j:=by rw[qy]; lia
 rw[this];show List.filterMap _ [(g,j)]=_;by_cases h:g=k
 ·simp[h]
 ·simp[h]
theorem nD(ws:List Nat)(a k:Nat):(hits ws a k).length≤ws.length:=by
 unfold hits;have:=List.length_filterMap_le (fun (x:Nat × Nat)=>match x with | (g,j)=>if g=k then some (some (a,j)) else none) ws.zipIdx;rw[List.length_zipIdx]at this;exact this
noncomputable def lead(ls:List Ln)(rs:List Nat)(k:Nat):List Way:=basis k++rs.flatMap fun a=>hits (ck ls a) a k
theorem kW{k:Nat}(e:rs[i]?=some a):lead ls (rs.take (i + 1)) k=lead ls (rs.take i) k++hits (ck ls a) a k:=by
 unfold lead;rw[A2,e,List.flatMap_append,mE];congr 2;simp
theorem nq(ls:List Ln)(a:Nat):(ck ls a).length≤2:=by
 unfold ck;cases ls[a]? with
 | none=>exact fE _
 | some l=>exact EV l
theorem vd(ls:List Ln)(k:Nat):∀ rs:List Nat,(lead ls rs k).length≤1 + 2 * rs.length:=by
 intro rs;unfold lead;rw[iD];have h1:(basis k).length≤1:=by unfold basis; split <;> simp
 have h2:(rs.flatMap fun a=>hits (ck ls a) a k).length≤2 * rs.length:=by
  induction rs with
  | nil=>simp
  | cons a rs ih=>
   rw[List.flatMap_cons,iD,tD];have:=nD (ck ls a) a k;have:=nq ls a
   lia
 lia
structure fF (K:aW) (H:Hp) (d:Addr) (ks:List Nat) (pf:Nat→Addr) (wf:Nat→List Way):Prop where
 d:H d=some (.dK (bz ks fun k=>.ref (pf k)))
 l:∀ k∈ks,∃ ys,H (pf k)=some (.lst ys)∧IsL K H ((wf k).map A5) ys
 i:∀ k∈ks,∀ k'∈ks,pf k=pf k'→k=k'
theorem fF.same{K:aW}{d:Addr}(L:fF K H d ks pf wf)(s:aD H H'):fF K H' d ks pf wf:=
 ⟨s _ _ L.d,fun k hk=>let ⟨ys,h1,h2⟩:=L.l k hk; ⟨ys,s _ _ h1,h2.mono s.aS⟩,L.i⟩
theorem fF.congr{K:aW}{d:Addr}{wf':Nat→List Way}(L:fF K H d ks pf wf)(h:∀ k,wf k=wf' k):fF K H d ks pf wf':=by
 have:wf=wf':=funext h;exact this ▸ L
theorem fF.app{K:aW}{d:Addr}(L:fF K H d ks pf wf){k:Nat}(hk:k∈ks)(ey:H (pf k)=some (.lst ys)){x:Way}(iv:Is K H (A5 x) v) :
  fF K (upd H (pf k) (.lst (ys++[v]))) d ks pf (fun j=>wf j++if k=j then [x] else []):=by
 have tl:=bu.lst (ys:=ys++[v]) ey;refine⟨?_,fun j hj=>?_,L.i⟩
 ·rw[aq (bh L.d ey (by intro z; cases z))]; exact L.d
 ·obtain⟨zs,h1,h2⟩:=L.l j hj;by_cases e:k=j
  ·subst e;rw[ey]at h1;cases h1;refine⟨_,af,?_⟩;rw[if_pos rfl,je];exact IsL.append (h2.mono tl) (au (iv.mono tl) aM)
  ·refine⟨zs,?_,?_⟩
   ·rw[aq (fun z=>e (L.i j hj k hk z).symm)]; exact h1
   ·rw[if_neg e,xE]; exact h2.mono tl
theorem fF.len{K:aW}{d:Addr}(L:fF K H d ks pf wf){k:Nat}(hk:k∈ks):∃ ys,H (pf k)=some (.lst ys)∧IsL K H ((wf k).map A5) ys∧ys.length=(wf k).length:=by
 obtain⟨ys,h1,h2⟩:=L.l k hk;have:=h2.length;rw[cU]at this;exact⟨ys,h1,h2,this.symm⟩
theorem fF.get{K:aW}{d:Addr}(L:fF K H d ks pf wf){k:Nat}(hk:k∈ks):jt H d (.int (k:Int)) (some (.ref (pf k))):=by
 have:=jt.k (k:=.inl (k:Int)) L.d;rw[fc,if_pos hk]at this;exact this
abbrev eP:Stmt:=top 18
abbrev oB:Stmt:=top 19
theorem dc:aF Jx AG (ao eP):=by walk_at "k"
theorem za:aF Ih Ih (ao oB):=by walk_at "k"
inductive oQ(K:aW)(vs:List V)(H:Hp)(Q:VK)(E:XK):Prop|m(tp al:Addr)(nm rw:Nat)(ls:List Ln)(_:vs=[.ref tp])(_:gX K H tp al nm rw ls)(_:∀ (H':Hp) (d:Addr) (rs:List Nat) (pf:Nat→Addr),aD H H'→bM ls rs→fF K H' d rs pf (lead ls rs)→H d=none→(∀ k∈rs,H (pf k)=none)→Q (.ref d) H')
structure Mk (H0 H:Hp) (pc:Addr) (ks:List Nat) (ps:List (Addr × Key × V)) (pf:Nat→Addr):Prop where
 l:H pc=some (.lst (ps.map fun t=>.ref t.1))
 t:∀ t∈ps,H t.1=some (.tup [kV t.2.1,t.2.2])
 v:ps.map (·.2)=bz ks fun k=>.ref (pf k)
 e:∀ k∈ks,H (pf k)=some (.lst [])∧H0 (pf k)=none∧pf k≠pc
 i:∀ k∈ks,∀ k'∈ks,pf k=pf k'→k=k'
theorem sj(F:cM K "into_each" "into_each" eP f fd)(m_enumerate:mg "enumerate" = none)(m_dict:mg "dict" = none)(c_ways:Cl P w K mg base "ways" n qC (rZ K))(c_come_to:Cl P w K mg base "come_to" n AG (uq K)):bg P w K mg base cH (n + 1) f fd AG (oQ K):=by
 refine F.ok dc (by walk_at "l") (fun cdv A outer s H vs Q E hr h=>?_);obtain⟨tp,al,nm,rw,ls,rfl,hP,q⟩:=h;have hu:(A.deeper (envOfC "into_each" (ao eP) s.heap.objs.size f cdv)).units + 1 < cLine:=by have:=hr.units; lia
 refine⟨_,(@ag _ _ _ _ _ (aV (i:=1) dc.nd (aC c_come_to hr rfl (aa (pv 0) ae)))
   (@ag _ _ _ _ _ (aV (i:=2) dc.nd (bw (xa rfl) rfl m_dict PyProof.Rows.boot_dict (aa (cS qC rfl (cW (N:=Jx) (so:=ao eP) rfl rfl (by decide +kernel)) (du (pv 1)) (fun _ _ _ _ _ _=>(aU (i:=0) (show List.Nodup (α:=Str) ["line","program","reached","leading","at","which","after"] by decide +kernel) rfl (Or.inl rfl) (Or.inr rfl))) (fun _ _ _ _ _ _=>cf) (fun _ _ _ _ _ _=>(aY (aa (pv 0) (aa (bo ae) ae))))) ae)))
   (@ag _ _ _ _ _ (bZ (fJ v9 Cp Cv cE (bR hu (pv 2) ai) (aa cJ ae)))
   (@ag _ _ _ _ _ (cQ mO rfl (du (pv 1)) (aU (i:=3) dc.nd rfl (Or.inl rfl)) (ak (cQ mO rfl (An rfl m_enumerate (aa (aC c_ways hr rfl (aa (av aK (av aA (pv 0) ai) (pv 3)) ae)) ae)) (hJ rfl (bG (aU (i:=4) dc.nd rfl (Or.inl rfl)) (bG (aU (i:=5) dc.nd rfl (Or.inl rfl)) eK))) (ak (bZ (fJ v9 Cp Cv cE (bR hu (pv 2) (pv 5)) (aa (aY (aa (pv 3) (aa (pv 4) ae))) ae)))))))
   (ak (az (pv 2))))))),?_⟩
 refine⟨_,rfl,tp,al,nm,rw,ls,rfl,hP,fun H1 pr rs s1 er nr R=>?_⟩;have l1:=hP.ok.l1;have lr:rs.length≤ls.length:=cX R.nodup fun i hi=>((R.mem i).mp hi).lt hP.ok
 have z0:0∈rs:=(R.mem 0).mpr .zero;refine⟨_,rfl,pr,rfl,⟨_,a7.of er⟩,fun pc npc=>?_⟩;refine fh (xs:=aX rs) (fun i H'=>aD H1 H'∧∃ ps pf,Mk H1 H' pc (rs.take i) ps pf) ⟨aj npc _,[],fun _=>0,⟨af,fun _ h=>absurd h o7,rfl,fun _ h=>by simp at h,fun _ h=>by simp at h⟩⟩ (fun i H' _ h=>a7.of (h.1 _ _ er)) (fun i y H2 ey h=>?_) (fun H2 h=>?_)
 ·obtain⟨s2,ps,pf,M⟩:=h;have hi:i < rs.length:=by have:=(eQ.mp ey).1; rw[bJ]at this; exact this
  rw[fP hi]at ey;cases ey;have hkn:rs[i]∉rs.take i:=fun z=>by
   obtain⟨j,hj,e⟩:=List.getElem_of_mem z;rw[qy]at hj;rw[List.getElem_take]at e;have:=(List.getElem_inj R.nodup).mp e
   lia
  have et:rs.take (i + 1)=rs.take i++[rs[i]]:=by rw[A2,cu hi]; rfl
  generalize rs[i]=k at hkn et;have hne:∀ j,j∈rs.take i→j≠k:=fun j hj z=>hkn (by rw[← z]; exact hj)
  refine⟨⟨[some (.int (k:Int))],rfl,rfl⟩,bP ?_⟩;refine⟨_,rfl,bQ rfl,fun p1 np1=>⟨bQ rfl,fun t1 nt1=>?_⟩⟩;have u1:=aj np1 (.lst []);have u2:=aj nt1 (.tup [.int (k:Int),.ref p1]);have u12:=u1.trans u2;have e1:=u2 _ _ (af (H:=H2) (a:=p1) (o:=.lst []));have e2:upd (upd H2 p1 (.lst [])) t1 (.tup [.int (k:Int),.ref p1]) t1=some (.tup [.int (k:Int),.ref p1]):=af;have ec:=u12 _ _ M.l;have n1:=ay s2 np1;have nt:=ay u1 nt1;generalize upd (upd H2 p1 (.lst [])) t1 (.tup [.int (k:Int),.ref p1])=H3 at u12 e1 e2 ec;have lp:ps.length=i:=by
   have:=congrArg List.length M.v;rw[cU,gK,qy]at this
   lia
  refine⟨_,ec,aO (by rw[cU]; lia),aD.new (s2.trans u12) npc,ps++[(t1,.inl (k:Int),.ref p1)],fun j=>if j=k then p1 else pf j,?_⟩;have hpc:pc≠p1:=cx M.l np1;have htc:t1≠pc:=(cx M.l nt).symm;rw[et];refine⟨by rw[af,je]; rfl,fun t ht=>?_,?_,fun j hj=>?_,fun j hj j' hj' e=>?_⟩
  ·rcases fv.mp ht with ht | ht
   ·have h:=M.t t ht;rw[aq (bh h M.l (by intro z; cases z))];exact u12 _ _ h
   ·rw[dU.mp ht,aq htc]; exact e2
  ·rw[je,M.v];refine (congrArg (·++[((Sum.inl (k:Int):Key),V.ref p1)]) (yU (g':=fun j=>V.ref (if j=k then p1 else pf j)) fun j hj=>?_)).trans ?_
   ·rw[if_neg (hne _ hj)]
   ·unfold bz;rw[je];congr 1;simp
  ·rcases fv.mp hj with hj | hj
   ·obtain⟨a1,a2,a3⟩:=M.e j hj;rw[if_neg (hne _ hj)];exact⟨by rw[aq a3]; exact u12 _ _ a1,a2,a3⟩
   ·rw[dU.mp hj,if_pos rfl];exact⟨by rw[aq hpc.symm]; exact e1,n1,hpc.symm⟩
  ·have aux:∀ x,x∈rs.take i→pf x≠p1:=fun x hx z=>by
    have:=(M.e x hx).1;rw[z,np1]at this;cases this
   rcases fv.mp hj with hj | hj
   ·rw[if_neg (hne _ hj)]at e;rcases fv.mp hj' with hj' | hj'
    ·rw[if_neg (hne _ hj')]at e;exact M.i j hj j' hj' e
    ·rw[dU.mp hj',if_pos rfl]at e;exact absurd e (aux j hj)
   ·rw[dU.mp hj]at e ⊢;rw[if_pos rfl]at e;rcases fv.mp hj' with hj' | hj'
    ·rw[if_neg (hne _ hj')]at e;exact absurd e.symm (aux j' hj')
    ·exact (dU.mp hj').symm
 ·obtain⟨s2,ps,pf,M⟩:=h;rw[bJ,Ah]at M;refine⟨pc,ps,rfl,M.l,M.t,fun pd npd=>?_⟩;have em:dS [] (ps.map (·.2))=bz rs (fun k=>V.ref (pf k)):=by
   rw[M.v];exact pV (ks:=[]) (by simpa using R.nodup)
  rw[em];have u3:=aj npd (.dK (bz rs fun k=>V.ref (pf k)));have ed:upd H2 pd (.dK (bz rs fun k=>V.ref (pf k))) pd=some (.dK (bz rs fun k=>V.ref (pf k))):=af;have s3:=s1.trans (s2.trans u3);have s13:=s2.trans u3;have npd0:=ay (s1.trans s2) npd;have L0:fF K (upd H2 pd (.dK (bz rs fun k=>V.ref (pf k)))) pd rs pf (fun _=>[]):=⟨ed,fun k hk=>⟨[],u3 _ _ (M.e k hk).1,aM⟩,M.i⟩
  have fr:∀ k∈rs,H (pf k)=none:=fun k hk=>ay s1 (M.e k hk).2.1
  have npr:∀ k∈rs,pr≠pf k:=fun k hk=>cx er (M.e k hk).2.1
  have er3:=s13 _ _ er;generalize upd H2 pd (.dK (bz rs fun k=>V.ref (pf k)))=H3 at s3 L0 er3;clear u3 npd s13 s2 M em ed;obtain⟨y0,ey0,_,_⟩:=L0.len z0;have hy:y0=[]:=by
   obtain⟨ys,h1,h2⟩:=L0.l 0 z0;rw[ey0]at h1;cases h1;exact h2.nil_inv
  subst hy;refine⟨_,rfl,pd,_,rfl,L0.get z0,.inl ⟨rfl,_,a7.of ey0⟩,pf 0,_,_,rfl,rfl,ey0,Nat.lt_of_le_of_lt (fE _) (aO (cq 1000)),?_⟩;have L1:=(L0.app z0 ey0 (x:=none) xg).congr (wf':=lead ls (rs.take 0)) fun k=>by
   unfold lead basis;by_cases e:k=0
   ·subst e; simp
   ·rw[if_neg e,if_neg (Ne.symm e)]; simp
  have s4:aD H (upd H3 (pf 0) (.lst ([]++[V.non]))):=aD.new s3 (fr 0 z0);have er4:upd H3 (pf 0) (.lst ([]++[V.non])) pr=some (.lst (aX rs)):=by rw[aq (npr 0 z0)]; exact er3
  generalize upd H3 (pf 0) (.lst ([]++[V.non]))=H4 at L1 s4 er4;refine⟨_,rfl,pr,rfl,⟨_,a7.of er4⟩,?_⟩;refine gj (xs:=aX rs) (fun i σ H'=>aD H H'∧H' pr=some (.lst (aX rs))∧fF K H' pd rs pf (lead ls (rs.take i))∧∃ y3 y4 y5:Option V,σ=[some (.ref tp),some (.ref pr),some (.ref pd),y3,y4,y5])
   ⟨s4,er4,L1,_,_,_,rfl⟩ (fun i σ H' _ h=>a7.of h.2.1) (fun i x σ H5 ex h=>?_) (fun σ H5 h=>?_)
  ·obtain⟨s5,er5,L5,y3,y4,y5,rfl⟩:=h;have hi:i < rs.length:=by have:=(eQ.mp ex).1; rw[bJ]at this; exact this
   rw[fP hi]at ex;cases ex;have ea:=cu hi;generalize rs[i]=a at ea;have hra:=(R.mem a).mp (gh ea);have hla:=hra.lt hP.ok;have P5:=hP.same s5;obtain⟨xs,v,hxs,hv,iv⟩:=eN P5.l hla;have okl:=hP.ok.ok _ (vB hla);have ewy:=kg hla;generalize ls[a]=l at iv okl ewy;refine⟨_,rfl,tp,_,2,_,rfl,rfl,P5.t,at2 _ _ _ _,_,rfl,al,xs,_,_,rfl,rfl,hxs,hv,v,l.word,l.args,l.kinds,rfl,iv,kinds_of l,u7 okl,fun H6 t xs6 s6 et il=>⟨t,rfl,⟨_,bY.of et⟩,?_⟩⟩;rw[uy]at il;cases oJ il;refine zg (xs:=aX l.wy) (fun j σ H'=>aD H H'∧H' pr=some (.lst (aX rs))∧H' t=some (.tup (aX l.wy))∧fF K H' pd rs pf (fun k=>lead ls (rs.take i) k++hits ((ck ls a).take j) a k)∧∃ y4 y5:Option V,σ=[some (.ref tp),some (.ref pr),some (.ref pd),some (.int (a:Int)),y4,y5])
    ⟨s5.trans s6,s6 _ _ er5,et,(L5.same s6).congr fun k=>by simp[hits],_,_,rfl⟩ (fun j σ H' _ h=>bY.of h.2.2.1) (fun j x σ H7 tt ex h ntt=>?_) (fun σ H7 h=>?_)
   ·obtain⟨s7,er7,et7,L7,y4,y5,rfl⟩:=h;have hj:j < l.wy.length:=by have:=(eQ.mp ex).1; rw[bJ]at this; exact this
    rw[fP hj]at ex;cases ex;have eg:(ck ls a)[j]?=some l.wy[j]:=by rw[ewy]; exact cu hj
    generalize l.wy[j]=g at eg;have hg:g∈rs:=(R.mem g).mpr (.step hra (gh eg));have u8:=aj ntt (.tup [.int (j:Int),.int (g:Int)]);have L8:=L7.same u8;have er8:=u8 _ _ er7;have et8:=u8 _ _ et7;have ett:upd H7 tt (.tup [.int (j:Int),.int (g:Int)]) tt=some (.tup [.int (j:Int),.int (g:Int)]):=af;have s8:=s7.trans u8;generalize upd H7 tt (.tup [.int (j:Int),.int (g:Int)])=H8 at L8 er8 et8 ett s8;obtain⟨ys,ey,_,ly⟩:=L8.len hg;refine⟨tt,_,rfl,bY.of ett,rfl,_,_,rfl,_,_,rfl,rfl,?_⟩;refine⟨_,rfl,_,rfl,pd,_,rfl,L8.get hg,.inl ⟨rfl,_,a7.of ey⟩,_,rfl,_,rfl,bQ rfl,fun t9 nt9=>?_⟩;have u9:=aj nt9 (.tup [.int (a:Int),.int (j:Int)]);have L9:=L8.same u9;have ey9:=u9 _ _ ey;have iv9:Is K (upd H8 t9 (.tup [.int (a:Int),.int (j:Int)])) (A5 (some (a,j))) (.ref t9):=cI (bY.of af) (au a9 (au a9 aM));have b1:=vd ls g (rs.take i);have b2:=nD ((ck ls a).take j) a g;have b3:=nq ls a;rw[qy]at b1 b2;rw[iD]at ly;refine⟨pf g,ys,_,rfl,rfl,ey9,aO (by lia),aD.new (s8.trans u9) (fr g hg),?_,?_,(L9.app hg ey9 iv9).congr fun k=>?_,_,_,rfl⟩
    ·rw[aq (npr g hg)]; exact u9 _ _ er8
    ·rw[aq (bh (u9 _ _ et8) ey9 (by intro z; cases z))]; exact u9 _ _ et8
    ·rw[lA eg,mE]
   ·obtain⟨s7,er7,et7,L7,y4,y5,rfl⟩:=h;refine⟨s7,er7,L7.congr fun k=>?_,_,_,_,rfl⟩;have e:(ck ls a).take (aX l.wy).length=ck ls a:=Ez (by rw[ewy,bJ]; exact cq _);rw[kW ea,e]
  ·obtain⟨s5,er5,L5,y3,y4,y5,rfl⟩:=h;rw[bJ,Ah]at L5;exact⟨_,rfl,q _ pd rs pf s5 R L5 npd0 fr⟩
noncomputable def d4(k:Nat)(ws:List Way):Bool:=decide (k=0) || decide (2≤ws.length)
noncomputable def gR(ls:List Ln)(rs:List Nat):List Nat:=rs.filter fun k=>d4 k (lead ls rs k)
inductive xJ(K:aW)(vs:List V)(H:Hp)(Q:VK)(E:XK):Prop|m(k:Nat)(p:Addr)(ws:List Way)(ys:List V)(_:vs=[.int (k:Int),.ref p])(_:a7 K H p ys)(_:ys.length=ws.length)(_:Q (.bl (d4 k ws)) H)
theorem yR(F:cM K "is_cut" "is_cut" oB f fd)(m_len:mg "len" = none):bg P w K mg base cH (n + 1) f fd Ih (xJ K):=by
 refine F.ok za (by walk_at "l") (fun cdv A outer s H vs Q E hr h=>?_);obtain⟨k,p,ws,ys,rfl,hp,hl,q⟩:=h;refine⟨_,(ak (az (HH (bU bA (pv 0) ai) (Cc (bU BB (bj a8 rfl m_len qi (aa (pv 1) ae)) ai))))),?_⟩;have e:decide (V.int (k:Int)=V.int 0)=decide (k=0):=decide_eq_decide.mpr ⟨fun z=>by injection z with z; lia,fun z=>by rw[z]; rfl⟩;refine⟨_,rfl,rfl,_,rfl,?_⟩;rw[e];unfold d4 at q;by_cases h0:k=0
 ·rw[ff h0]at q ⊢;exact bI q
 ·rw[fK h0]at q ⊢;refine bp ⟨_,rfl,p,ys,rfl,.inl hp,_,_,rfl,rfl,?_⟩;show Q (.bl (decide ((2:Int)≤(ys.length:Int)))) H;rw[show decide ((2:Int)≤(ys.length:Int))=decide (2≤ws.length) from decide_eq_decide.mpr (by lia)];exact q
noncomputable def oC:D:=.tup [.str "zero"]
noncomputable def pT(x:Nat)(v:Int):D:=.tup [.str "name",.int (x:Int),.int v]
noncomputable def rJ(r:Nat):D:=.tup [.str "len",.int (r:Int)]
noncomputable def sC(now:List Int):Option Nat→D
 | none=>oC
 | some x=>pT x (now[x]?.getD 0)
structure Ft where
 a:D
 b:D
 c:Int
noncomputable def Ft.D(f:Ft):D:=.tup [f.a,f.b,.int f.c]
noncomputable def Ft.turn(f:Ft):Ft:=⟨f.b,f.a,-1 - f.c⟩
noncomputable def Nd.now(now:List Int):Nd→L2.D
 | .zero=>oC
 | .name x=>pT x (now[x]?.getD 0)
 | .len r=>rJ r
noncomputable def Bd.now(now:List Int)(q:Bd):Ft:=⟨q.a.now now,q.b.now now,q.c⟩
noncomputable def nR(a b:D)(c:Int):List Ft:=[⟨a,b,c⟩,⟨b,a,-c⟩]
noncomputable def branch(k:Nat)(fs:List Ft):List Ft:=if k=0 then fs else match fs with
 | [f]=>[f.turn]
 | _=>[]
theorem wR{k:Nat}{f:Ft}(h:k≠0):branch k [f]=[f.turn]:=by unfold branch; rw[if_neg h]
theorem vU{k:Nat}{fs:List Ft}(h:k≠0)(hl:fs.length≠1):branch k fs=[]:=by
 unfold branch; rw[if_neg h]
 match fs,hl with
 | [],_=>rfl
 | [_],h=>exact absurd rfl h
 | _::_::_,_=>rfl
noncomputable def Ln.given:Ln→Option Nat
 | .deed (.set x _ _) _=>some x
 | .deed (.sum x _ _) _=>some x
 | .deed (.len x _) _=>some x
 | .deed (.take x) _=>some x
 | .deed (.get x _ _ _) _=>some x
 | _=>none
theorem ma(l:Ln):l.gives=kT l.given:=by
 cases l with
 | deed d k=>cases d <;> rfl
 | _=>rfl
noncomputable def bump(now:List Int):Option Nat→List Int
 | none=>now
 | some x=>now.set x (now[x]?.getD 0 + 1)
noncomputable def Ln.behind(l:Ln)(now:List Int):List Int:=bump now l.given
theorem jR(now:List Int)(y:Option Nat):(bump now y).length=now.length:=by
 cases y with
 | none=>rfl
 | some x=>exact xI
noncomputable def newD(now:List Int)(x:Nat):D:=pT x (now[x]?.getD 0 + 1)
noncomputable def rQ(now:List Int)(s:Nat × Option Nat × Int):Ft:=⟨oC,sC now s.2.1,s.2.2⟩
noncomputable def iB(now:List Int)(s:Nat × Option Nat × Int):Ft:=⟨sC now s.2.1,rJ s.1,-1 - s.2.2⟩
noncomputable def Ln.facts(k:Nat)(now:List Int):Ln→List Ft
 | .deed (.set x y c) _=>nR (newD now x) (sC now y) c
 | .deed (.len x r) _=>nR (newD now x) (rJ r) 0
 | .deed (.get _ r y c) _=>[rQ now (r,y,c),iB now (r,y,c)]
 | .deed (.put r y c _) _=>[rQ now (r,y,c),iB now (r,y,c)]
 | .deed _ _=>[]
 | .test y w c _ _=>branch k [⟨sC now y,sC now w,c⟩]
 | .ask bs _ _=>branch k (bs.map (Bd.now now))
 | .stop=>[]
noncomputable def Ln.AM:Ln→Nat
 | .deed _ _=>1
 | .test ..=>2
 | .ask ..=>2
 | .stop=>0
noncomputable def dq(s:Nat × Nat):D:=.tup [.int (s.1:Int),.int (s.2:Int)]
def lD(ls:List Ln)(s:Nat × Nat):Prop:=∃ l,ls[s.1]?=some l∧s.2 < l.AM
noncomputable def nV(rw:Nat):List Ft:=(List.range rw).map fun r=>⟨oC,rJ r,0⟩
noncomputable def FV(ls:List Ln)(st:List Ft × List Int)(s:Nat × Nat):List Ft × List Int:=match ls[s.1]? with
 | some l=>(st.1++l.facts s.2 st.2,l.behind st.2)
 | none=>st
noncomputable def along(ls:List Ln)(nm rw:Nat)(st:List (Nat × Nat))(j:Nat):List Ft × List Int:=(st.take j).foldl (FV ls) (nV rw,List.replicate nm 0)
theorem gq{rw:Nat}{s:Nat × Nat}(h:st[j]?=some s):along ls nm rw st (j + 1)=FV ls (along ls nm rw st j) s:=by
 unfold along;rw[List.take_succ,List.foldl_append,h];rfl
theorem ic{st:List Ft × List Int}{s:Nat × Nat}(h:ls[s.1]?=some l):FV ls st s=(st.1++l.facts s.2 st.2,l.behind st.2):=by unfold FV; rw[h]
theorem qj{k:Nat}{now:List Int}{rw:Nat}(h:l.Ok nm rw nl):(l.facts k now).length≤100:=by
 have br:∀ fs:List Ft,fs.length≤100→(branch k fs).length≤100:=fun fs hf=>by
  unfold branch;split
  ·exact hf
  ·split
   ·exact bQ rfl
   ·exact fE _
 cases l with
 | deed d m=>cases d <;> exact bQ rfl
 | test y w c k2 m=>exact br _ (bQ rfl)
 | ask bs k2 m=>exact br _ (by rw[cU]; exact h.2.1.2)
 | stop=>exact fE _
theorem og{rw:Nat}(h:l.Ok nm rw nl):d6 nm l.given:=by
 cases l with
 | deed d k=>
  cases d with
  | set x y c=>exact h.1.1
  | sum x z y=>exact h.1.1
  | len x r=>exact h.1.1
  | take x=>exact h.1
  | tell x=>trivial
  | get x r y c=>exact h.1.1
  | put r y c z=>trivial
 | test y w c k m=>trivial
 | ask bs k m=>trivial
 | stop=>trivial
structure J0 (nm rw j:Nat) (st:List Ft × List Int):Prop where
 f:st.1.length≤rw + 100 * j
 n:st.2.length=nm
theorem eB{ls:List Ln}{nm rw nl:Nat}(ok:Iy ls nm rw nl){st:List (Nat × Nat)}(hs:∀ s∈st,lD ls s):∀ {j:Nat},j≤st.length→J0 nm rw j (along ls nm rw st j)
 | 0,_=>⟨by show (nV rw).length≤_; unfold nV; rw[cU,List.length_range]; lia,Ac⟩
 | j + 1,h=>by
  have ih:=eB ok hs (j:=j) (by lia);have ej:=cu (show j < st.length by lia);obtain⟨l,el,_⟩:=hs _ (gh ej);rw[gq ej,ic el];refine⟨?_,(jR _ _).trans ih.n⟩;have h1:=ih.f;have h2:=qj (k:=(st[j]).2) (now:=(along ls nm rw st j).2) (ok l (gh el));show List.length (_++_)≤_;rw[iD]; lia
structure wZ (K:aW) (mg:Str→Option Value) (a_ZERO:Addr):Prop where
 mz:mg "ZERO" = some (.ref a_ZERO)
 z:∀ H:Hp,bY K H a_ZERO [.str "zero"]
theorem wZ.is{K:aW}{mg:Str→Option Value}{a:Addr}(Z:wZ K mg a)(H:Hp):Is K H oC (.ref a):=cI (Z.z H) (au ee aM)
abbrev gD:Stmt:=top 2
abbrev jx:Stmt:=top 3
abbrev iH:Stmt:=top 4
abbrev kS:Stmt:=top 5
abbrev gF:Stmt:=top 22
abbrev jv:Stmt:=top 23
abbrev eG:Stmt:=top 25
abbrev cR:Stmt:=top 26
abbrev eZ:Stmt:=top 27
abbrev gH:Stmt:=top 28
abbrev sV:Stmt:=top 29
abbrev ij:Stmt:=top 30
abbrev gN:Stmt:=top 31
abbrev fA:Stmt:=top 32
theorem pP:aF qN qN (ao gD):=by walk_at "k"
theorem ua:aF ["node","now"] ["node","now"] (ao jx):=by walk_at "k"
theorem sM:aF qW qW (ao iH):=by walk_at "k"
theorem wD:aF ["bound"] ["bound"] (ao kS):=by walk_at "k"
theorem j7:aF AG AG (ao eG):=by walk_at "k"
theorem fq:aF ["line","now","given"] qF (ao cR):=by walk_at "k"
theorem pA:aF qF qF (ao gH):=by walk_at "k"
theorem B0:aF ["a","b","c"] ["a","b","c"] (ao sV):=by walk_at "k"
theorem ko:aF ["line","now","place"] qF (ao ij):=by walk_at "k"
theorem jj:aF ["line","now","place"] qF (ao gN):=by walk_at "k"
theorem mw:aF qU qU (ao fA):=by walk_at "k"
def Fi(K:aW)(H:Hp)(Q:VK)(ds:List D):Prop:=∀ H' p xs,aD H H'→H' p=some (.lst xs)→H p=none→IsL K H' ds xs→Q (.ref p) H'
inductive dF(K:aW)(vs:List V)(H:Hp)(Q:VK)(E:XK):Prop|m(y:Option Nat)(an:Addr)(now:List Int)(_:vs=[kT y,.ref an])(_:a7 K H an (aB now))(_:d6 now.length y)(_:∀ v H',aD H H'→Is K H' (sC now y) v→Q v H')
inductive qo(K:aW)(vs:List V)(H:Hp)(Q:VK)(E:XK):Prop|m(q:Nd)(v:V)(an:Addr)(now:List Int)(rw:Nat)(_:vs=[v,.ref an])(_:a7 K H an (aB now))(_:Is K H q.D v)(_:q.Ok now.length rw)(_:∀ v H',aD H H'→Is K H' (q.now now) v→Q v H')
inductive oj(K:aW)(vs:List V)(H:Hp)(Q:VK)(E:XK):Prop|m(q:Bd)(v:V)(an:Addr)(now:List Int)(rw:Nat)(_:vs=[v,.ref an])(_:a7 K H an (aB now))(_:Is K H q.D v)(_:q.Ok now.length rw)(_:∀ v H',aD H H'→Is K H' (q.now now).D v→Q v H')
inductive qh(K:aW)(vs:List V)(H:Hp)(Q:VK)(E:XK):Prop|m(f:Ft)(v:V)(_:vs=[v])(_:Is K H f.D v)(_:∀ v H',aD H H'→Is K H' f.turn.D v→Q v H')
inductive sT(K:aW)(vs:List V)(H:Hp)(Q:VK)(E:XK):Prop|m(t:Addr)(nm:Nat)(xr:List V)(_:vs=[.ref t])(_:bY K H t (.int (nm:Int)::xr))(_:nm≤100)(_:∀ H' p,aD H H'→H' p=some (.lst (aB (List.replicate nm 0)))→H p=none→Q (.ref p) H')
inductive kM(K:aW)(vs:List V)(H:Hp)(Q:VK)(E:XK):Prop|m(l:Ln)(v:V)(an:Addr)(now:List Int)(_:vs=[v,.ref an])(_:a7 K H an (aB now))(_:Is K H l.D v)(_:d6 now.length l.given)(_:now.length≤100)(_:∀ H' p,aD H H'→H' p=some (.lst (aB (l.behind now)))→H p=none→Q (.ref p) H')
inductive lX(K:aW)(vs:List V)(H:Hp)(Q:VK)(E:XK):Prop|m(l:Ln)(v:V)(an:Addr)(now:List Int)(x:Nat)(_:vs=[v,.ref an])(_:a7 K H an (aB now))(_:Is K H l.D v)(_:l.given=some x)(_:x < now.length)(_:now.length≤100)(_:∀ v H',aD H H'→Is K H' (newD now x) v→Q v H')
inductive yv(K:aW)(vs:List V)(H:Hp)(Q:VK)(E:XK):Prop|m(a b:D)(va vb:V)(c:Int)(_:vs=[va,vb,.int c])(_:Is K H a va)(_:Is K H b vb)(_:Fi K H Q ((nR a b c).map Ft.D))
inductive Bo(K:aW)(vs:List V)(H:Hp)(Q:VK)(E:XK):Prop|m(d:bT)(k:Nat)(v:V)(s:Nat × Option Nat × Int)(an:Addr)(now:List Int)(_:vs=[v,.ref an])(_:a7 K H an (aB now))(_:Is K H (d.line k) v)(_:d.slot=some s)(_:d6 now.length s.2.1)(_:∀ v H',aD H H'→Is K H' (rQ now s).D v→Q v H')
inductive wU(K:aW)(vs:List V)(H:Hp)(Q:VK)(E:XK):Prop|m(d:bT)(k:Nat)(v:V)(s:Nat × Option Nat × Int)(an:Addr)(now:List Int)(_:vs=[v,.ref an])(_:a7 K H an (aB now))(_:Is K H (d.line k) v)(_:d.slot=some s)(_:d6 now.length s.2.1)(_:∀ v H',aD H H'→Is K H' (iB now s).D v→Q v H')
inductive tT(K:aW)(vs:List V)(H:Hp)(Q:VK)(E:XK):Prop|m(p:Addr)(xs:List V)(fs:List Ft)(k:Nat)(_:vs=[.ref p,.int (k:Int)])(_:H p=some (.lst xs))(_:IsL K H (fs.map Ft.D) xs)(_:∀ H' p' xs',aD H H'→H' p'=some (.lst xs')→(p'=p∨H p'=none)→IsL K H' ((branch k fs).map Ft.D) xs'→Q (.ref p') H')
theorem bC(l:List Int):(aB l).length=l.length:=by unfold aB; rw[cU]
theorem DP{v:Int}(e:H t=some (.tup [.str "name",.int (x:Int),.int v])):Is K H (pT x v) (.ref t):=cI (bY.of e) (au ee (au a9 (au a9 aM)))
theorem wX(e:H t=some (.tup [.str "len",.int (r:Int)])):Is K H (rJ r) (.ref t):=cI (bY.of e) (au ee (au a9 aM))
theorem lR{a b:D}{va vb:V}{c:Int}(e:H t=some (.tup [va,vb,.int c]))(ha:Is K H a va)(hb:Is K H b vb):Is K H (Ft.D ⟨a,b,c⟩) (.ref t):=cI (bY.of e) (au ha (au hb (au a9 aM)))
theorem tN(v:V):∀ m,(List.replicate m [v]).flatten=List.replicate m v
 | 0=>rfl
 | m + 1=>by rw[D1,List.flatten_cons,tN v m,D1]; rfl
theorem vi(nm:Nat):(List.replicate nm [V.int 0]).flatten=aB (List.replicate nm 0):=by
 rw[tN]; unfold aB; rw[List.map_replicate]
theorem pL(F:cM K "value_node" "value_node" gD f fd)(Z:wZ K mg a_ZERO):bg P w K mg base cH (n + 1) f fd qN (dF K):=by
 refine F.ok pP (by walk_at "l") (fun cdv A outer s H vs Q E hr h=>?_);obtain⟨y,an,now,rfl,hn,hy,q⟩:=h;have m_ZERO:=Z.mz;refine⟨_,(ak (az (cC (aE vP (pv 0) cJ) (iQ rfl m_ZERO (v:=.ref a_ZERO) rfl) (aY (aa aJ (aa (pv 0) (aa (av aK (pv 1) (pv 0)) ae))))))),?_⟩;cases y with
 | none=>exact⟨_,rfl,rfl,_,rfl,bI (q _ _ (aD.refl _) (Z.is H))⟩
 | some x=>
  refine⟨_,rfl,rfl,_,rfl,bp ⟨_,rfl,_,rfl,_,rfl,an,_,_,_,rfl,rfl,hn,bf (cD hy),bQ rfl,fun t nt=>?_⟩⟩;exact q _ _ (aj nt _) (DP af)
theorem uh(F:cM K "node_now" "node_now" jx f fd)(m_len:mg "len" = none)(c_value_node:Cl P w K mg base "value_node" n qN (dF K)):bg P w K mg base cH (n + 1) f fd ["node","now"] (qo K):=by
 refine F.ok ua (by walk_at "l") (fun cdv A outer s H vs Q E hr h=>?_);obtain⟨nd,v,an,now,rw,rfl,hn,hi,hk,q⟩:=h
 refine⟨_,(@ag _ _ _ _ _ (ba (PW.pt (kU (aE bA (av aA (pv 0) ai) aJ) (mP (aE kf (av aA (pv 0) ai) (bj a8 rfl m_len qi (aa (pv 1) ae)))))) (ak (az (aC c_value_node hr rfl (aa (av aA (pv 0) ai) (aa (pv 1) ae))))) aN)
   (ak (az (pv 0)))),?_⟩
 obtain⟨a,vs,rfl,hq,il⟩:=AH hi;dsimp only[kO,rR,vR,EK,qd];refine⟨_,rfl,a,_,0,_,rfl,rfl,hq,dW _ _,rfl,_,rfl,?_⟩;cases nd with
 | zero=>exact bp (bp ⟨_,rfl,q _ _ (aD.refl _) hi⟩)
 | len r=>exact bp (bp ⟨_,rfl,q _ _ (aD.refl _) hi⟩)
 | name x=>
  obtain⟨r,rfl,_⟩:=bD il;have hx:x < now.length:=hk;refine bI ⟨_,rfl,a,_,1,_,rfl,rfl,hq,jO _ _ _,_,rfl,an,_,rfl,.inl hn,_,_,rfl,rfl,_,rfl,cT (fun c=>?_) (fun c=>?_)⟩
  ·exact⟨_,rfl,a,_,1,_,rfl,rfl,hq,jO _ _ _,_,rfl,some x,an,now,rfl,hn,hx,fun v H' s' h'=>q v H' s' h'⟩
  ·exact absurd (ff (by rw[bC]; lia)) c
theorem sS(F:cM K "bound_now" "bound_now" iH f fd)(c_node_now:Cl P w K mg base "node_now" n ["node","now"] (qo K)):bg P w K mg base cH (n + 1) f fd qW (oj K):=by
 refine F.ok sM (by walk_at "l") (fun cdv A outer s H vs Q E hr h=>?_);obtain⟨b,v,an,now,rw,rfl,hn,hi,hk,q⟩:=h;refine⟨_,(ak (az (aY (aa (aC c_node_now hr rfl (aa (av aA (pv 0) ai) (aa (pv 1) ae))) (aa (aC c_node_now hr rfl (aa (av aA (pv 0) ai) (aa (pv 1) ae))) (aa (av aA (pv 0) ai) ae)))))),?_⟩;obtain⟨a,zs,rfl,hqa,ila⟩:=hi.bB;obtain⟨va,r1,rfl,ia,il1⟩:=mB ila;obtain⟨vb,r2,rfl,ib,il2⟩:=mB il1;obtain⟨r3,rfl,il3⟩:=bD il2;refine⟨_,rfl,a,_,0,_,rfl,rfl,hqa,dW _ _,_,rfl,b.a,va,an,now,rw,rfl,hn,ia,hk.1,fun v1 H1 s1 i1=>?_⟩;refine⟨_,rfl,a,_,1,_,rfl,rfl,s1.aS.sq hqa,jO _ _ _,_,rfl,b.b,vb,an,now,rw,rfl,s1.seq hn,ib.mono s1.aS,hk.2,fun v2 H2 s2 i2=>?_⟩;refine⟨_,rfl,a,_,2,_,rfl,rfl,(s1.trans s2).aS.sq hqa,at2 _ _ _ _,bQ rfl,fun t nt=>?_⟩;have u:=aj nt (.tup [v1,v2,.int b.c]);exact q _ _ (s1.trans (s2.trans u)) (lR af (i1.mono (s2.trans u).aS) (i2.mono u.aS))
theorem vY(F:cM K "against" "against" kS f fd):bg P w K mg base cH (n + 1) f fd ["bound"] (qh K):=by
 refine F.ok wD (by walk_at "l") (fun cdv A outer s H vs Q E hr h=>?_);obtain⟨ft,v,rfl,hi,q⟩:=h;refine⟨_,(ak (az (aY (aa (av aA (pv 0) ai) (aa (av aA (pv 0) ai) (aa (aR dD (nJ jG ai) (av aA (pv 0) ai)) ae)))))),?_⟩;obtain⟨a,zs,rfl,hqa,ila⟩:=hi.bB;obtain⟨va,r1,rfl,ia,il1⟩:=mB ila;obtain⟨vb,r2,rfl,ib,il2⟩:=mB il1;obtain⟨r3,rfl,il3⟩:=bD il2;refine⟨_,rfl,a,_,1,_,rfl,rfl,hqa,jO _ _ _,_,rfl,a,_,0,_,rfl,rfl,hqa,dW _ _,_,rfl,_,rfl,a,_,2,_,rfl,rfl,hqa,at2 _ _ _ _,_,_,rfl,rfl,bQ rfl,fun t nt=>?_⟩;have u:=aj nt (.tup [vb,va,.int (-1 - ft.c)]);exact q _ _ u (lR af (ib.mono u.aS) (ia.mono u.aS))
theorem j6(F:cM K "first_versions" "first_versions" eG f fd):bg P w K mg base cH (n + 1) f fd AG (sT K):=by
 refine F.ok j7 (by walk_at "l") (fun cdv A outer s H vs Q E hr h=>?_);obtain⟨t,nm,xr,rfl,hq,hnm,q⟩:=h;refine⟨_,(ak (az (aR rE (bo (aa ai ae)) (av aA (pv 0) ai)))),?_⟩;refine⟨bQ rfl,fun lz nlz=>?_⟩;have s1:=aj nlz (.lst [.int 0]);refine⟨_,rfl,t,_,0,_,rfl,rfl,s1.aS.sq hq,dW _ _,lz,_,[.int 0],rfl,rfl,af,by lia,by lia,(by rw[uF,m8,vm]; lia),fun an nan=>?_⟩;rw[m8,vi];exact q _ an (s1.trans (aj nan _)) af (ay s1 nan)
theorem jI(F:cM K "versions_behind" "versions_behind" cR f fd)(m_enumerate:mg "enumerate" = none)(c_gives:Cl P w K mg base "gives" n qC (mY K)):bg P w K mg base cH (n + 1) f fd qF (kM K):=by
 refine F.ok fq (by walk_at "l") (fun cdv A outer s H vs Q E hr h=>?_);obtain⟨l,v,an,now,rfl,hn,hi,hg,h100,q⟩:=h
 refine⟨_,(@ag _ _ _ _ _ (aV (i:=2) fq.nd (aC c_gives hr rfl (aa (pv 0) ae)))
   (ak (az (cS ["name","version"] rfl (cW (N:=["line","now","given"]) (so:=ao cR) rfl rfl (by decide +kernel)) (xC rfl m_enumerate (aa (pv 1) ae)) (fun _ _ _ _ _ _=>(xV (K:=K) (n:=2) rfl rfl (bG (aU (i:=0) (show List.Nodup (α:=Str) Jy by decide +kernel) rfl (Or.inl rfl) (Or.inr rfl)) (bG (aU (i:=1) (show List.Nodup (α:=Str) Jy by decide +kernel) rfl (Or.inl rfl) (Or.inr rfl)) eK)))) (fun _ _ _ _ _ _=>cf) (fun _ _ _ _ _ _=>(cC (aE bA (pv 0) (pv 4)) (aR bK (pv 1) ai) (pv 1))))))),?_⟩
 refine⟨_,rfl,l,v,rfl,hi,?_⟩;rw[ma];refine⟨_,rfl,an,rfl,⟨_,hn⟩,fun p np=>?_⟩;refine zE (xs:=aB now) (fun i H'=>aD H H'∧H' p=some (.lst (aB ((l.behind now).take i)))) ⟨aj np _,af⟩ (fun i H' _ h=>h.1.seq hn) (fun i y H' t ey h nt=>?_) (fun H' h=>?_)
 ·have hil:i < now.length:=by have:=(eQ.mp ey).1; rw[bC]at this; exact this
  rw[cD hil]at ey;cases ey;have u:=aj nt (.tup [.int (i:Int),.int (now[i]?.getD 0)]);refine⟨t,_,rfl,bY.of af,rfl,_,_,rfl,_,_,rfl,rfl,⟨⟨[some (.int (i:Int)),some (.int (now[i]?.getD 0))],rfl,rfl⟩,bP ?_⟩⟩;have hbl:i < (l.behind now).length:=by unfold Ln.behind; rw[jR]; exact hil
  have fin:∀ z:Int,(l.behind now)[i]?.getD 0=z→∃ acc,upd H' t (.tup [.int (i:Int),.int (now[i]?.getD 0)]) p=some (.lst acc)∧acc.length < sizeLine∧aD H (upd (upd H' t (.tup [.int (i:Int),.int (now[i]?.getD 0)])) p (.lst (acc++[.int z])))∧upd (upd H' t (.tup [.int (i:Int),.int (now[i]?.getD 0)])) p (.lst (acc++[.int z])) p=some (.lst (aB ((l.behind now).take (i + 1)))):=fun z ez=>by
   refine⟨_,u _ _ h.2,aO (by rw[bC,qy]; lia),aD.new (h.1.trans u) np,?_⟩;rw[af,List.take_succ,cu hbl];have e2:(l.behind now)[i]=z:=by rw[cu hbl]at ez; exact ez
   rw[e2];unfold aB;rw[je];rfl
  cases hgv:l.given with
  | none=>
   refine⟨_,rfl,_,rfl,rfl,_,rfl,bp ⟨_,rfl,fin _ ?_⟩⟩;unfold Ln.behind; rw[hgv]; rfl
  | some x=>
   refine⟨_,rfl,_,rfl,rfl,_,rfl,cT (fun c=>?_) (fun c=>?_)⟩
   ·have e:(i:Int)=(x:Int):=by have:=pH c; injection this
    have e':i=x:=by lia
    refine⟨_,rfl,_,_,rfl,rfl,fin _ ?_⟩;unfold Ln.behind; rw[hgv,e'];show (now.set x _)[x]?.getD 0=_;rw[yM (by lia)]; rfl
   ·have e':¬ x=i:=fun z=>c (ff (by rw[z]; rfl))
    refine⟨_,rfl,fin _ ?_⟩;unfold Ln.behind; rw[hgv];show (now.set x _)[i]?.getD 0=_;rw[Af e']
 ·have e:(aB now).length=(l.behind now).length:=by rw[bC]; unfold Ln.behind; rw[jR]
  rw[e,Ah]at h;exact q H' p h.1 h.2 np
theorem pK(F:cM K "given_node" "given_node" gH f fd)(c_gives:Cl P w K mg base "gives" n qC (mY K))(c_value_node:Cl P w K mg base "value_node" n qN (dF K))(c_versions_behind:Cl P w K mg base "versions_behind" n qF (kM K)) :
  bg P w K mg base cH (n + 1) f fd qF (lX K):=by
 refine F.ok pA (by walk_at "l") (fun cdv A outer s H vs Q E hr h=>?_);obtain⟨l,v,an,now,x,rfl,hn,hi,hg,hx,h100,q⟩:=h;refine⟨_,(ak (az (aC c_value_node hr rfl (aa (aC c_gives hr rfl (aa (pv 0) ae)) (aa (aC c_versions_behind hr rfl (aa (pv 0) (aa (pv 1) ae))) ae))))),?_⟩;refine⟨_,rfl,l,v,rfl,hi,?_⟩;refine⟨_,rfl,_,rfl,l,v,an,now,rfl,hn,hi,by rw[hg]; exact hx,h100,fun H1 p s1 ep np=>?_⟩;rw[ma,hg];refine⟨some x,p,l.behind now,rfl,a7.of ep,by unfold Ln.behind; rw[jR]; exact hx,fun v H' s' i'=>q v H' (s1.trans s') ?_⟩;have e:sC (l.behind now) (some x)=newD now x:=by
  unfold Ln.behind sC newD; rw[hg];show pT x ((now.set x _)[x]?.getD 0)=_;rw[yM hx]; rfl
 rw[← e]; exact i'
theorem Ax(F:cM K "alike" "alike" sV f fd):bg P w K mg base cH (n + 1) f fd ["a","b","c"] (yv K):=by
 refine F.ok B0 (by walk_at "l") (fun cdv A outer s H vs Q E hr h=>?_);obtain⟨a,b,va,vb,c,rfl,ha,hb,q⟩:=h;refine⟨_,(ak (az (bo (aa (aY (aa (pv 0) (aa (pv 1) (aa (pv 2) ae)))) (aa (aY (aa (pv 1) (aa (pv 0) (aa (nJ jG (pv 2)) ae)))) ae))))),?_⟩;refine⟨_,rfl,_,rfl,_,rfl,bQ rfl,fun t1 n1=>?_⟩;have u1:=aj n1 (.tup [va,vb,.int c]);refine⟨_,rfl,_,rfl,_,rfl,_,rfl,bQ rfl,fun t2 n2=>⟨bQ rfl,fun p np=>?_⟩⟩;have u2:=aj n2 (.tup [vb,va,.int (-c)]);have u3:=aj np (.lst [.ref t1,.ref t2]);have u123:=u1.trans (u2.trans u3);refine q _ p _ u123 af (ay (u1.trans u2) np) (au ?_ (au ?_ aM))
 ·exact lR ((u2.trans u3) _ _ af) (ha.mono u123.aS) (hb.mono u123.aS)
 ·exact lR (u3 _ _ af) (hb.mono u123.aS) (ha.mono u123.aS)
theorem sG(F:cM K "low_bound" "low_bound" ij f fd)(Z:wZ K mg a_ZERO)(c_place_of:Cl P w K mg base "place_of" n qC (fZ K))(c_value_node:Cl P w K mg base "value_node" n qN (dF K)):bg P w K mg base cH (n + 1) f fd qF (Bo K):=by
 refine F.ok ko (by walk_at "l") (fun cdv A outer s H vs Q E hr h=>?_);obtain⟨d,k,v,sl,an,now,rfl,hn,hi,hs,hy,q⟩:=h;have m_ZERO:=Z.mz
 refine⟨_,(@ag _ _ _ _ _ (aV (i:=2) ko.nd (aC c_place_of hr rfl (aa (pv 0) ae)))
   (ak (az (aY (aa (iQ rfl m_ZERO (v:=.ref a_ZERO) rfl) (aa (aC c_value_node hr rfl (aa (av aA (pv 2) ai) (aa (pv 1) ae))) (aa (av aA (pv 2) ai) ae))))))),?_⟩
 refine⟨_,rfl,d,k,v,sl,rfl,hi,hs,fun H1 t s1 et=>?_⟩;refine⟨_,rfl,t,_,1,_,rfl,rfl,et,jO _ _ _,_,rfl,sl.2.1,an,now,rfl,s1.seq hn,hy,fun v2 H2 s2 i2=>?_⟩;refine⟨_,rfl,t,_,2,_,rfl,rfl,s2.aS.sq et,at2 _ _ _ _,bQ rfl,fun t3 n3=>?_⟩;have u:=aj n3 (.tup [.ref a_ZERO,v2,.int sl.2.2]);exact q _ _ (s1.trans (s2.trans u)) (lR af (Z.is _) (i2.mono u.aS))
theorem pB(F:cM K "high_bound" "high_bound" gN f fd)(c_place_of:Cl P w K mg base "place_of" n qC (fZ K))(c_value_node:Cl P w K mg base "value_node" n qN (dF K)):bg P w K mg base cH (n + 1) f fd qF (wU K):=by
 refine F.ok jj (by walk_at "l") (fun cdv A outer s H vs Q E hr h=>?_);obtain⟨d,k,v,sl,an,now,rfl,hn,hi,hs,hy,q⟩:=h
 refine⟨_,(@ag _ _ _ _ _ (aV (i:=2) jj.nd (aC c_place_of hr rfl (aa (pv 0) ae)))
   (ak (az (aY (aa (aC c_value_node hr rfl (aa (av aA (pv 2) ai) (aa (pv 1) ae))) (aa (aY (aa aJ (aa (av aA (pv 2) ai) ae))) (aa (aR dD (nJ jG ai) (av aA (pv 2) ai)) ae))))))),?_⟩
 refine⟨_,rfl,d,k,v,sl,rfl,hi,hs,fun H1 t s1 et=>?_⟩;refine⟨_,rfl,t,_,1,_,rfl,rfl,et,jO _ _ _,_,rfl,sl.2.1,an,now,rfl,s1.seq hn,hy,fun v2 H2 s2 i2=>?_⟩;refine⟨_,rfl,t,_,0,_,rfl,rfl,s2.aS.sq et,dW _ _,bQ rfl,fun t3 n3=>?_⟩;have u:=aj n3 (.tup [.str "len",.int (sl.1:Int)]);refine⟨_,rfl,_,rfl,t,_,2,_,rfl,rfl,(s2.trans u).aS.sq et,at2 _ _ _ _,_,_,rfl,rfl,bQ rfl,fun t4 n4=>?_⟩;have u2:=aj n4 (.tup [v2,.ref t3,.int (-1 - sl.2.2)]);exact q _ _ (s1.trans (s2.trans (u.trans u2))) (lR af (i2.mono (u.trans u2).aS) (wX (u2 _ _ af)))
theorem mx(F:cM K "branch_facts" "branch_facts" fA f fd)(m_len:mg "len" = none)(c_against:Cl P w K mg base "against" n ["bound"] (qh K)):bg P w K mg base cH (n + 1) f fd qU (tT K):=by
 refine F.ok mw (by walk_at "l") (fun cdv A outer s H vs Q E hr h=>?_);obtain⟨p,xs,fs,k,rfl,hp,il,q⟩:=h
 refine⟨_,(@ag _ _ _ _ _ (ba (aE bA (pv 1) ai) (ak (az (pv 0))) aN)
   (ak (az (cC (aE bA (bj a8 rfl m_len qi (aa (pv 0) ae)) ai) (bo (aa (aC c_against hr rfl (aa (av aK (pv 0) ai) ae)) ae)) (bo ae))))),?_⟩
 have ll:fs.length=xs.length:=by have:=il.length; rw[cU]at this; exact this
 refine⟨_,rfl,rfl,_,rfl,cT (fun c=>?_) (fun c=>?_)⟩
 ·have e:(k:Int)=0:=by have:=pH c; injection this
  have e':k=0:=by lia
  refine⟨_,rfl,q H p xs (aD.refl H) hp (.inl rfl) ?_⟩;unfold branch; rw[if_pos e']; exact il
 have hk:k≠0:=fun z=>c (ff (by rw[z]; rfl))
 refine⟨_,rfl,p,_,rfl,.inl (a7.of hp),rfl,_,rfl,cT (fun c1=>?_) (fun c1=>?_)⟩
 ·have e:(xs.length:Int)=1:=by have:=pH c1; injection this
  have hx:xs.length=1:=by lia
  obtain⟨ft,rfl⟩:=List.length_eq_one_iff.mp (ll.trans hx);obtain⟨v,r,rfl,i0,i1⟩:=il.cons_inv;cases i1.nil_inv;refine⟨_,rfl,p,_,0,_,rfl,rfl,a7.of hp,dW _ _,ft,v,rfl,i0,fun v1 H1 s1 i1=>⟨bQ rfl,fun l nl=>?_⟩⟩;have u:=aj nl (.lst [v1]);refine q _ l _ (s1.trans u) af (.inr (ay s1 nl)) ?_;rw[wR hk];exact au (i1.mono u.aS) aM
 ·refine⟨bQ rfl,fun l nl=>q _ l [] (aj nl _) af (.inr nl) ?_⟩;have hx:fs.length≠1:=fun z=>c1 (ff (by rw[← ll,z]; rfl))
  rw[vU hk hx]; exact aM
theorem pE:aF Gy Gy (ao eZ):=by walk_at "k"
theorem cY:aF Jn qK (ao gF):=by walk_at "k"
theorem eO:aF ["program","steps","now","at","which"] qK (ao jv):=by walk_at "k"
inductive lW(K:aW)(vs:List V)(H:Hp)(Q:VK)(E:XK):Prop|m(l:Ln)(v:V)(k:Nat)(an:Addr)(now:List Int)(rw nl:Nat)(_:vs=[v,.int (k:Int),.ref an])(_:a7 K H an (aB now))(_:Is K H l.D v)(_:l.Ok now.length rw nl)(_:k < l.AM)(_:now.length≤100)(_:Fi K H Q ((l.facts k now).map Ft.D))
structure lJ (K:aW) (H:Hp) (t as_:Addr) (nm rw:Nat) (ls:List Ln) (st:List (Nat × Nat)):Prop where
 prog:∃ al xs,bY K H t [.int (nm:Int),.int (rw:Int),.ref al]∧a7 K H al xs∧IsL K H (ls.map Ln.D) xs
 steps:∃ ys,a7 K H as_ ys∧IsL K H (st.map dq) ys
 ok:Iy ls nm rw ls.length
 uR:∀ s∈st,lD ls s
 nm:nm≤100
 rw:rw≤100
 len:st.length≤100
theorem lJ.same{K:aW}{as_:Addr}{rw:Nat}(h:lJ K H t as_ nm rw ls st)(s:aD H H'):lJ K H' t as_ nm rw ls st:=by
 obtain⟨⟨al,xs,h1,h2,h3⟩,⟨ys,h4,h5⟩,h6,h7,h8,h9,h10⟩:=h;exact⟨⟨al,xs,s.aS.sq h1,s.seq h2,h3.mono s.aS⟩,⟨ys,s.seq h4,h5.mono s.aS⟩,h6,h7,h8,h9,h10⟩
inductive ql(K:aW)(vs:List V)(H:Hp)(Q:VK)(E:XK):Prop|m(t as_:Addr)(nm rw:Nat)(ls:List Ln)(st:List (Nat × Nat))(_:vs=[.ref t,.ref as_])(_:lJ K H t as_ nm rw ls st)(_:Fi K H Q ((along ls nm rw st st.length).1.map Ft.D))
inductive jJ(K:aW)(vs:List V)(H:Hp)(Q:VK)(E:XK):Prop|m(t as_:Addr)(nm rw:Nat)(ls:List Ln)(st:List (Nat × Nat))(_:vs=[.ref t,.ref as_])(_:lJ K H t as_ nm rw ls st)(_:∀ H' p,aD H H'→H' p=some (.lst (aB (along ls nm rw st st.length).2))→H p=none→Q (.ref p) H')
theorem oH{k:Nat}(h:(Ln.deed d k).isPlace=true):∃ s,d.slot=some s:=by
 cases d with
 | get x r y c=>exact⟨_,rfl⟩
 | put r y c z=>exact⟨_,rfl⟩
 | _=>cases h
theorem Ak(h:l.word = "set"):∃ x y c m,l=.deed (.set x y c) m:=by
 cases l with
 | deed d m=>
  cases d with
  | set x y c=>exact⟨x,y,c,m,rfl⟩
  | sum x z y=>exact absurd h (show ¬ (("sum":Str) = "set") by decide)
  | len x r=>exact absurd h (show ¬ (("len":Str) = "set") by decide)
  | take x=>exact absurd h (show ¬ (("take":Str) = "set") by decide)
  | tell x=>exact absurd h (show ¬ (("tell":Str) = "set") by decide)
  | get x r y c=>exact absurd h (show ¬ (("get":Str) = "set") by decide)
  | put r y c z=>exact absurd h (show ¬ (("put":Str) = "set") by decide)
 | test y u c m1 m2=>exact absurd h (show ¬ (("test":Str) = "set") by decide)
 | ask bs m1 m2=>exact absurd h (show ¬ (("ask":Str) = "set") by decide)
 | stop =>exact absurd h (show ¬ (("end":Str) = "set") by decide)
theorem BN(h:l.word = "len"):∃ x r m,l=.deed (.len x r) m:=by
 cases l with
 | deed d m=>
  cases d with
  | set x y c=>exact absurd h (show ¬ (("set":Str) = "len") by decide)
  | sum x z y=>exact absurd h (show ¬ (("sum":Str) = "len") by decide)
  | len x r=>exact⟨x,r,m,rfl⟩
  | take x=>exact absurd h (show ¬ (("take":Str) = "len") by decide)
  | tell x=>exact absurd h (show ¬ (("tell":Str) = "len") by decide)
  | get x r y c=>exact absurd h (show ¬ (("get":Str) = "len") by decide)
  | put r y c z=>exact absurd h (show ¬ (("put":Str) = "len") by decide)
 | test y u c m1 m2=>exact absurd h (show ¬ (("test":Str) = "len") by decide)
 | ask bs m1 m2=>exact absurd h (show ¬ (("ask":Str) = "len") by decide)
 | stop =>exact absurd h (show ¬ (("end":Str) = "len") by decide)
theorem rA(h:l.word = "test"):∃ y u c m1 m2,l=.test y u c m1 m2:=by
 cases l with
 | deed d m=>
  cases d with
  | set x y c=>exact absurd h (show ¬ (("set":Str) = "test") by decide)
  | sum x z y=>exact absurd h (show ¬ (("sum":Str) = "test") by decide)
  | len x r=>exact absurd h (show ¬ (("len":Str) = "test") by decide)
  | take x=>exact absurd h (show ¬ (("take":Str) = "test") by decide)
  | tell x=>exact absurd h (show ¬ (("tell":Str) = "test") by decide)
  | get x r y c=>exact absurd h (show ¬ (("get":Str) = "test") by decide)
  | put r y c z=>exact absurd h (show ¬ (("put":Str) = "test") by decide)
 | test y u c m1 m2=>exact⟨y,u,c,m1,m2,rfl⟩
 | ask bs m1 m2=>exact absurd h (show ¬ (("ask":Str) = "test") by decide)
 | stop =>exact absurd h (show ¬ (("end":Str) = "test") by decide)
theorem oV(h:l.word = "ask"):∃ bs m1 m2,l=.ask bs m1 m2:=by
 cases l with
 | deed d m=>
  cases d with
  | set x y c=>exact absurd h (show ¬ (("set":Str) = "ask") by decide)
  | sum x z y=>exact absurd h (show ¬ (("sum":Str) = "ask") by decide)
  | len x r=>exact absurd h (show ¬ (("len":Str) = "ask") by decide)
  | take x=>exact absurd h (show ¬ (("take":Str) = "ask") by decide)
  | tell x=>exact absurd h (show ¬ (("tell":Str) = "ask") by decide)
  | get x r y c=>exact absurd h (show ¬ (("get":Str) = "ask") by decide)
  | put r y c z=>exact absurd h (show ¬ (("put":Str) = "ask") by decide)
 | test y u c m1 m2=>exact absurd h (show ¬ (("test":Str) = "ask") by decide)
 | ask bs m1 m2=>exact⟨bs,m1,m2,rfl⟩
 | stop =>exact absurd h (show ¬ (("end":Str) = "ask") by decide)
theorem Dg:decide (l.word=("ask":Str))=true↔∃ bs k m,l=.ask bs k m:=by
 constructor
 ·intro h; exact oV (pH h)
 ·rintro⟨bs,k,m,rfl⟩; rfl
theorem pS(F:cM K "step_facts" "step_facts" eZ f fd)(c_alike:Cl P w K mg base "alike" n ["a","b","c"] (yv K))(c_given_node:Cl P w K mg base "given_node" n qF (lX K))(c_value_node:Cl P w K mg base "value_node" n qN (dF K))(c_is_place:Cl P w K mg base "is_place" n qC (rC K))(c_is_ask:Cl P w K mg base "is_ask" n qC (mR K))
  (c_low_bound:Cl P w K mg base "low_bound" n qF (Bo K)) (c_high_bound:Cl P w K mg base "high_bound" n qF (wU K)) (c_branch_facts:Cl P w K mg base "branch_facts" n qU (tT K)) (c_bound_now:Cl P w K mg base "bound_now" n qW (oj K)):bg P w K mg base cH (n + 1) f fd Gy (lW K):=by
 refine F.ok pE (by walk_at "l") (fun cdv A outer s H vs Q E hr h=>?_);obtain⟨l,v,k,an,now,rw,nl,rfl,hn,hi,hok,hk,h100,q⟩:=h
 refine⟨_,(@ag _ _ _ _ _ (ba (aE bA (av aA (pv 0) ai) aJ) (ak (az (aC c_alike hr rfl (aa (aC c_given_node hr rfl (aa (pv 0) (aa (pv 2) ae))) (aa (aC c_value_node hr rfl (aa (av aA (pv 0) ai) (aa (pv 2) ae))) (aa (av aA (pv 0) ai) ae)))))) aN)
   (@ag _ _ _ _ _ (ba (aE bA (av aA (pv 0) ai) aJ) (ak (az (aC c_alike hr rfl (aa (aC c_given_node hr rfl (aa (pv 0) (aa (pv 2) ae))) (aa (aY (aa aJ (aa (av aA (pv 0) ai) ae))) (aa ai ae)))))) aN)
   (@ag _ _ _ _ _ (ba (dH (aC c_is_place hr rfl (aa (pv 0) ae))) (ak (az (bo (aa (aC c_low_bound hr rfl (aa (pv 0) (aa (pv 2) ae))) (aa (aC c_high_bound hr rfl (aa (pv 0) (aa (pv 2) ae))) ae))))) aN)
   (@ag _ _ _ _ _ (ba (aE bA (av aA (pv 0) ai) aJ) (ak (az (aC c_branch_facts hr rfl (aa (bo (aa (aY (aa (aC c_value_node hr rfl (aa (av aA (pv 0) ai) (aa (pv 2) ae))) (aa (aC c_value_node hr rfl (aa (av aA (pv 0) ai) (aa (pv 2) ae))) (aa (av aA (pv 0) ai) ae)))) ae)) (aa (pv 1) ae))))) aN)
   (@ag _ _ _ _ _ (ba (dH (aC c_is_ask hr rfl (aa (pv 0) ae))) (ak (az (aC c_branch_facts hr rfl (aa (cS ["bound"] rfl (cW (N:=Gy) (so:=ao eZ) rfl rfl (by decide +kernel)) (oo (av aA (pv 0) ai)) (fun _ _ _ _ _ _=>(aU (i:=0) (show List.Nodup (α:=Str) ["bound","line","which","now"] by decide +kernel) rfl (Or.inl rfl) (Or.inr rfl))) (fun _ _ _ _ _ _=>cf) (fun _ _ _ _ _ _=>(aC c_bound_now hr rfl (aa (pv 0) (aa (pv 3) ae))))) (aa (pv 1) ae))))) aN)
   (ak (az (bo ae)))))))),?_⟩
 obtain⟨a,vs,rfl,hq,il⟩:=dk hi;refine⟨_,rfl,a,_,0,_,rfl,rfl,hq,dW _ _,rfl,_,rfl,cT (fun c=>?_) (fun c=>?_)⟩
 ·-- set
  have hw:l.word = "set":=gS c;obtain⟨x,y,cc,m,rfl⟩:∃ x y cc m,l=.deed (.set x y cc) m:=Ak hw;obtain⟨r1,rfl,i1⟩:=bD il;obtain⟨r2,rfl,i2⟩:=jf i1;obtain⟨r3,rfl,i3⟩:=bD i2;refine⟨_,rfl,_,rfl,.deed (.set x y cc) m,.ref a,an,now,x,rfl,hn,hi,rfl,hok.1.1,h100,fun v1 H1 s1 j1=>?_⟩;refine⟨_,rfl,a,_,2,_,rfl,rfl,s1.aS.sq hq,at2 _ _ _ _,_,rfl,y,an,now,rfl,s1.seq hn,hok.1.2,fun v2 H2 s2 j2=>?_⟩;exact⟨_,rfl,a,_,3,_,rfl,rfl,(s1.trans s2).aS.sq hq,Ej _ _ _ _ _,newD now x,sC now y,v1,v2,cc,rfl,j1.mono s2.aS,j2,fun H' p xs s' e' n' i'=>q H' p xs (s1.trans (s2.trans s')) e' (ay (s1.trans s2) n') i'⟩
 have ns:=f7 c;refine⟨_,rfl,a,_,0,_,rfl,rfl,hq,dW _ _,rfl,_,rfl,cT (fun c2=>?_) (fun c2=>?_)⟩
 ·have hw:l.word = "len":=gS c2;obtain⟨x,r,m,rfl⟩:∃ x r m,l=.deed (.len x r) m:=BN hw;obtain⟨r1,rfl,i1⟩:=bD il;obtain⟨r2,rfl,i2⟩:=bD i1;refine⟨_,rfl,_,rfl,.deed (.len x r) m,.ref a,an,now,x,rfl,hn,hi,rfl,hok.1.1,h100,fun v1 H1 s1 j1=>?_⟩;refine⟨_,rfl,a,_,2,_,rfl,rfl,s1.aS.sq hq,at2 _ _ _ _,bQ rfl,fun t nt=>?_⟩;have s2:=aj nt (.tup [.str "len",.int (r:Int)]);exact⟨newD now x,rJ r,v1,.ref t,0,rfl,j1.mono s2.aS,wX af,fun H' p xs s' e' n' i'=>q H' p xs (s1.trans (s2.trans s')) e' (ay (s1.trans s2) n') i'⟩
 have nl':=f7 c2;refine⟨_,rfl,l,.ref a,rfl,hi,_,rfl,cT (fun c3=>?_) (fun c3=>?_)⟩
 ·obtain⟨d,m,rfl⟩:∃ d m,l=.deed d m:=by
   cases l with
   | deed d m=>exact⟨d,m,rfl⟩
   | _=>cases c3
  obtain⟨sl,hsl⟩:=oH c3;have hy:=(j5 hsl hok.1).2;have ef:(Ln.deed d m).facts k now=[rQ now sl,iB now sl]:=by
   cases d with
   | get x r y c=>cases hsl; rfl
   | put r y c z=>cases hsl; rfl
   | _=>cases hsl
  rw[ef]at q;refine⟨_,rfl,_,rfl,d,m,.ref a,sl,an,now,rfl,hn,hi,hsl,hy,fun v1 H1 s1 j1=>?_⟩;refine⟨_,rfl,_,rfl,d,m,.ref a,sl,an,now,rfl,s1.seq hn,hi.mono s1.aS,hsl,hy,fun v2 H2 s2 j2=>⟨bQ rfl,fun p np=>?_⟩⟩;have u:=aj np (.lst [v1,v2]);exact q _ p _ (s1.trans (s2.trans u)) af (ay (s1.trans s2) np) (au (j1.mono (s2.trans u).aS) (au (j2.mono u.aS) aM))
 refine⟨_,rfl,a,_,0,_,rfl,rfl,hq,dW _ _,rfl,_,rfl,cT (fun c4=>?_) (fun c4=>?_)⟩
 ·have hw:l.word = "test":=gS c4;obtain⟨y,u,cc,m1,m2,rfl⟩:∃ y u cc m1 m2,l=.test y u cc m1 m2:=rA hw;obtain⟨r1,rfl,i1⟩:=jf il;obtain⟨r2,rfl,i2⟩:=jf i1;obtain⟨r3,rfl,i3⟩:=bD i2;refine⟨_,rfl,a,_,1,_,rfl,rfl,hq,jO _ _ _,_,rfl,y,an,now,rfl,hn,hok.1,fun v1 H1 s1 j1=>?_⟩;refine⟨_,rfl,a,_,2,_,rfl,rfl,s1.aS.sq hq,at2 _ _ _ _,_,rfl,u,an,now,rfl,s1.seq hn,hok.2.1,fun v2 H2 s2 j2=>?_⟩;refine⟨_,rfl,a,_,3,_,rfl,rfl,(s1.trans s2).aS.sq hq,Ej _ _ _ _ _,bQ rfl,fun t nt=>⟨bQ rfl,fun p np=>?_⟩⟩;have u1:=aj nt (.tup [v1,v2,.int cc]);have u2:=aj np (.lst [.ref t]);refine⟨_,rfl,p,_,[⟨sC now y,sC now u,cc⟩],k,rfl,af,au (lR (u2 _ _ af) (j1.mono (s2.trans (u1.trans u2)).aS) (j2.mono (u1.trans u2).aS)) aM,fun H' p' xs' s' e' n' i'=>q H' p' xs' (s1.trans (s2.trans (u1.trans (u2.trans s')))) e' ?_ i'⟩;rcases n' with z | z
  ·rw[z]; exact ay (s1.trans (s2.trans u1)) np
  ·exact ay (s1.trans (s2.trans (u1.trans u2))) z
 have nt':=f7 c4;refine⟨_,rfl,.ref a,l.word,l.args,rfl,hi,_,rfl,cT (fun c5=>?_) (fun c5=>?_)⟩
 ·obtain⟨bs,m1,m2,rfl⟩:=Dg.mp c5;obtain⟨vb,r1,rfl,ib,i1⟩:=mB il;obtain⟨ab,ys,rfl,hqb,ilb⟩:=ib.bB;have ly:bs.length=ys.length:=by have:=ilb.length; rw[cU]at this; exact this
  refine⟨_,rfl,a,_,1,_,rfl,rfl,hq,jO _ _ _,ab,rfl,⟨_,hqb⟩,fun p np=>?_⟩;refine kc (xs:=ys) (fun i H'=>aD H H'∧∃ acc,H' p=some (.lst acc)∧IsL K H' (((bs.take i).map (Bd.now now)).map Ft.D) acc) ⟨aj np _,[],af,aM⟩ (fun i H' _ h=>h.1.aS.sq hqb) (fun i y H' ey h=>?_) (fun H' h=>?_)
  ·obtain⟨sm,acc,ea,ia⟩:=h;have hil:i < bs.length:=by have:=(eQ.mp ey).1; lia
   have eb:=cu hil;obtain⟨y',ey',iy⟩:=ilb.get (j:=i) (d:=bs[i].D) (by rw[lK,eb]; rfl);rw[ey]at ey'; cases ey';refine⟨⟨[some y],rfl,rfl⟩,bP ⟨_,rfl,_,rfl,bs[i],y,an,now,rw,rfl,sm.seq hn,iy.mono sm.aS,hok.1 _ (vB hil),fun v1 H1 s1 j1=>?_⟩⟩;have la:=ia.length;rw[cU,cU,qy]at la;have h4:=hok.2.1;refine⟨acc,s1 _ _ ea,aO (by lia),aD.new (sm.trans s1) np,acc++[v1],af,?_⟩;have tl:=bu.lst (ys:=acc++[v1]) (s1 _ _ ea);rw[List.take_succ,eb];simp only[Option.toList_some,je,mD,List.map_nil];exact IsL.append ((ia.mono s1.aS).mono tl) (au (j1.mono tl) aM)
  ·obtain⟨sm,acc,ea,ia⟩:=h;rw[← ly,Ah]at ia;refine⟨_,rfl,p,_,bs.map (Bd.now now),k,rfl,ea,ia,fun H2 p' xs' s' e' n' i'=>q H2 p' xs' (sm.trans s') e' ?_ i'⟩;rcases n' with z | z
   ·rw[z]; exact np
   ·exact ay sm z
 ·refine⟨bQ rfl,fun p np=>q _ p [] (aj np _) af np ?_⟩;have e:l.facts k now=[]:=by
   cases l with
   | deed d m=>
    cases d with
    | set x y cc=>exact absurd rfl ns
    | len x r=>exact absurd rfl nl'
    | get x r y cc=>exact absurd rfl c3
    | put r y cc z=>exact absurd rfl c3
    | _=>rfl
   | test=>exact absurd rfl nt'
   | ask=>exact absurd (ff rfl) c5
   | stop=>rfl
  rw[e]; exact aM
theorem rm{y:V}(il:IsL K H (st.map dq) ys)(ey:ys[j]?=some y):∃ s t,st[j]?=some s∧y=.ref t∧bY K H t [.int (s.1:Int),.int (s.2:Int)]:=by
 obtain⟨d,ed,id⟩:=il.get' ey;rw[lK]at ed;obtain⟨s,es,rfl⟩:=Ed.mp ed;obtain⟨t,zs,rfl,hq,ilz⟩:=id.bB;obtain⟨r1,rfl,i1⟩:=bD ilz;obtain⟨r2,rfl,i2⟩:=bD i1;cases i2.nil_inv;exact⟨s,t,es,rfl,hq⟩
theorem uN(F:cM K "facts_of" "facts_of" gF f fd)(Z:wZ K mg a_ZERO)(m_range:mg "range" = none)(c_first_versions:Cl P w K mg base "first_versions" n AG (sT K))(c_step_facts:Cl P w K mg base "step_facts" n Gy (lW K))(c_versions_behind:Cl P w K mg base "versions_behind" n qF (kM K)):bg P w K mg base cH (n + 1) f fd qK (ql K):=by
 refine F.ok cY (by walk_at "l") (fun cdv A outer s H vs Q E hr h=>?_);obtain⟨t,as_,nm,rw,ls,st,rfl,W,q⟩:=h;obtain⟨⟨al,xs,hq,hal,iL⟩,⟨ys,hys,iS⟩,ok,uR,hnm,hrw,hst⟩:=W;have m_ZERO:=Z.mz
 refine⟨_,(@ag _ _ _ _ _ (jA (i:=2) ["row"] rfl (cW (N:=Jn) (so:=ao gF) rfl rfl (by decide +kernel)) cY.nd rfl (Or.inl rfl) (bO rfl m_range (aa (av aA (pv 0) ai) ae)) (fun _ _ _ _ _ _=>(aU (i:=0) (show List.Nodup (α:=Str) ["row","program","steps","facts","now","at","which","line"] by decide +kernel) rfl (Or.inl rfl) (Or.inr rfl))) (fun _ _ _ _ _ _=>cf) (fun _ _ _ _ _ _=>(aY (aa (iQ rfl m_ZERO (v:=.ref a_ZERO) rfl) (aa (aY (aa aJ (aa (pv 0) ae))) (aa ai ae))))) rfl)
   (@ag _ _ _ _ _ (aV (i:=3) cY.nd (aC c_first_versions hr rfl (aa (pv 0) ae)))
   (@ag _ _ _ _ _ (cQ mO rfl (du (pv 1)) (hJ rfl (bG (aU (i:=4) cY.nd rfl (Or.inl rfl)) (bG (aU (i:=5) cY.nd rfl (Or.inl rfl)) eK))) (@ag _ _ _ _ _ (aV (i:=6) cY.nd (av aK (av aA (pv 0) ai) (pv 4)))
   (@ag _ _ _ _ _ (bZ (fJ v9 PySem.F.slot_list_extend PySem.F.type_list_extend pW (pv 2) (aa (aC c_step_facts hr rfl (aa (pv 6) (aa (pv 5) (aa (pv 3) ae)))) ae)))
   (ak (aV (i:=3) cY.nd (aC c_versions_behind hr rfl (aa (pv 6) (aa (pv 3) ae))))))))
   (ak (az (pv 2)))))),?_⟩
 refine⟨_,rfl,t,_,1,_,rfl,rfl,hq,jO _ _ _,_,rfl,by lia,by lia,fun p np=>?_⟩;rw[m8];refine eA (n:=rw) (fun i H'=>aD H H'∧∃ acc,H' p=some (.lst acc)∧IsL K H' ((nV i).map Ft.D) acc) ⟨aj np _,[],af,aM⟩ (fun i H' hi h=>?_) (fun H1 h=>?_)
 ·obtain⟨sm,acc,ea,ia⟩:=h;refine⟨⟨[some (.int (0 + (i:Int)))],rfl,rfl⟩,bP ?_⟩;rw[Co];refine⟨_,rfl,bQ rfl,fun t1 n1=>⟨bQ rfl,fun t2 n2=>?_⟩⟩;have u1:=aj n1 (.tup [.str "len",.int (i:Int)]);have u2:=aj n2 (.tup [.ref a_ZERO,.ref t1,.int 0]);have u12:=u1.trans u2;have la:=ia.length;unfold nV at la;rw[cU,cU,List.length_range]at la;have ea2:=u12 _ _ ea;refine⟨acc,ea2,aO (by lia),aD.new (sm.trans u12) np,acc++[.ref t2],af,?_⟩;have tl:=bu.lst (ys:=acc++[.ref t2]) ea2;have e:nV (i + 1)=nV i++[⟨oC,rJ i,0⟩]:=by unfold nV; rw[List.range_succ,je]; rfl
  rw[e,je];exact IsL.append ((ia.mono u12.aS).mono tl) (au ((lR af (Z.is _) (wX (u2 _ _ af))).mono tl) aM)
 obtain⟨sm1,acc,ea,ia⟩:=h;refine⟨_,rfl,t,nm,_,rfl,sm1.aS.sq hq,hnm,fun H2 pn s2 en nn=>?_⟩;have sm2:=sm1.trans s2
 refine⟨_,rfl,as_,rfl,⟨_,sm2.seq hys⟩,gj (xs:=ys) (fun j σ H'=>∃ pn y4 y5 y6 acc,σ=[some (.ref t),some (.ref as_),some (.ref p),some (.ref pn),y4,y5,y6]∧pn≠p∧aD H H'∧H' p=some (.lst acc)∧IsL K H' ((along ls nm rw st j).1.map Ft.D) acc∧H' pn=some (.lst (aB (along ls nm rw st j).2)))
  ⟨_,_,_,_,acc,rfl,(cx ea nn).symm,sm2,s2 _ _ ea,ia.mono s2.aS,en⟩ (fun j σ H' _ h=>?_) (fun j y σ H' ey h=>?_) (fun σ H' h=>?_)⟩
 ·obtain⟨_,_,_,_,_,_,_,s',_⟩:=h;exact s'.seq hys
 ·obtain⟨pn,y4,y5,y6,acc,rfl,ppn,s',ep,ia',en⟩:=h;obtain⟨sp,ts,esp,rfl,hqs⟩:=rm (iS.mono s'.aS) ey;have hjl:j < st.length:=(eQ.mp esp).1;obtain⟨l,el,hw⟩:=uR sp (gh esp);have far:=eB ok uR (j:=j) (by lia);have okl:=ok l (gh el);refine⟨ts,_,rfl,hqs,rfl,_,_,rfl,_,_,rfl,rfl,?_⟩;obtain⟨vl,evl,ivl⟩:=(iL.mono s'.aS).get (j:=sp.1) (d:=l.D) (by rw[lK,el]; rfl);refine⟨_,rfl,t,_,2,_,rfl,rfl,s'.aS.sq hq,at2 _ _ _ _,_,rfl,al,xs,_,_,rfl,rfl,s'.seq hal,bf evl,?_⟩;refine⟨_,rfl,.inl ⟨rfl,_,a7.of ep⟩,?_⟩;refine⟨_,rfl,_,rfl,_,rfl,l,vl,sp.2,pn,(along ls nm rw st j).2,rw,ls.length,rfl,a7.of en,ivl,by rw[far.n]; exact okl,hw,by rw[far.n]; exact hnm,fun H3 pf fs s3 ef nf iff=>?_⟩;have ep3:=s3 _ _ ep;have la:=ia'.length;rw[cU]at la;have lf:=iff.length;rw[cU]at lf;have h1:=far.f;have h2:=qj (k:=sp.2) (now:=(along ls nm rw st j).2) okl;refine⟨p,pf,acc,fs,rfl,rfl,ep3,ef,(by rw[uF]; lia),?_⟩;have tl:=bu.lst (ys:=acc++fs) ep3;have en4:upd H3 p (.lst (acc++fs)) pn=some (.lst (aB (along ls nm rw st j).2)):=by rw[aq ppn]; exact s3 _ _ en
  have s4:aD H (upd H3 p (.lst (acc++fs))):=aD.new (s'.trans s3) np;refine⟨_,rfl,_,rfl,l,vl,pn,(along ls nm rw st j).2,rfl,a7.of en4,(ivl.mono s3.aS).mono tl,by rw[far.n]; exact og okl,by rw[far.n]; exact hnm,fun H5 p5 s5 e5 n5=>?_⟩;refine⟨p5,_,_,_,acc++fs,rfl,(cx af n5).symm,s4.trans s5,s5 _ _ af,?_,?_⟩
  ·rw[gq esp,ic el];show IsL K H5 (List.map Ft.D (_++_)) _;rw[je];exact (IsL.append ((ia'.mono s3.aS).mono tl) (iff.mono tl)).mono s5.aS
  ·rw[gq esp,ic el]; exact e5
 ·obtain⟨pn,y4,y5,y6,acc,rfl,ppn,s',ep,ia',en⟩:=h;have ly:ys.length=st.length:=by have:=iS.length; rw[cU]at this; exact this.symm
  rw[ly]at ia';exact⟨_,rfl,q H' p acc s' ep np ia'⟩
theorem vh(F:cM K "versions" "versions" jv f fd)(c_first_versions:Cl P w K mg base "first_versions" n AG (sT K))(c_versions_behind:Cl P w K mg base "versions_behind" n qF (kM K)):bg P w K mg base cH (n + 1) f fd qK (jJ K):=by
 refine F.ok eO (by walk_at "l") (fun cdv A outer s H vs Q E hr h=>?_);obtain⟨t,as_,nm,rw,ls,st,rfl,W,q⟩:=h;obtain⟨⟨al,xs,hq,hal,iL⟩,⟨ys,hys,iS⟩,ok,uR,hnm,hrw,hst⟩:=W
 refine⟨_,(@ag _ _ _ _ _ (aV (i:=2) eO.nd (aC c_first_versions hr rfl (aa (pv 0) ae)))
   (@ag _ _ _ _ _ (cQ mO rfl (du (pv 1)) (hJ rfl (bG (aU (i:=3) eO.nd rfl (Or.inl rfl)) (bG (aU (i:=4) eO.nd rfl (Or.inl rfl)) eK))) (ak (aV (i:=2) eO.nd (aC c_versions_behind hr rfl (aa (av aK (av aA (pv 0) ai) (pv 3)) (aa (pv 2) ae))))))
   (ak (az (pv 2))))),?_⟩
 refine⟨_,rfl,t,nm,_,rfl,hq,hnm,fun H2 pn s2 en nn=>?_⟩
 refine⟨_,rfl,as_,rfl,⟨_,s2.seq hys⟩,gj (xs:=ys) (fun j σ H'=>∃ pn y4 y5,σ=[some (.ref t),some (.ref as_),some (.ref pn),y4,y5]∧aD H H'∧H pn=none∧H' pn=some (.lst (aB (along ls nm rw st j).2)))
  ⟨_,_,_,rfl,s2,nn,en⟩ (fun j σ H' _ h=>?_) (fun j y σ H' ey h=>?_) (fun σ H' h=>?_)⟩
 ·obtain⟨_,_,_,_,s',_⟩:=h;exact s'.seq hys
 ·obtain⟨pn,y4,y5,rfl,s',nn',en'⟩:=h;obtain⟨sp,ts,esp,rfl,hqs⟩:=rm (iS.mono s'.aS) ey;have hjl:j < st.length:=(eQ.mp esp).1;obtain⟨l,el,hw⟩:=uR sp (gh esp);have far:=eB ok uR (j:=j) (by lia);have okl:=ok l (gh el);refine⟨ts,_,rfl,hqs,rfl,_,_,rfl,_,_,rfl,rfl,?_⟩;obtain⟨vl,evl,ivl⟩:=(iL.mono s'.aS).get (j:=sp.1) (d:=l.D) (by rw[lK,el]; rfl);refine⟨_,rfl,t,_,2,_,rfl,rfl,s'.aS.sq hq,at2 _ _ _ _,_,rfl,al,xs,_,_,rfl,rfl,s'.seq hal,bf evl,?_⟩;refine⟨_,rfl,l,vl,pn,(along ls nm rw st j).2,rfl,a7.of en',ivl,by rw[far.n]; exact og okl,by rw[far.n]; exact hnm,fun H5 p5 s5 e5 n5=>?_⟩;refine⟨p5,_,_,rfl,s'.trans s5,ay s' n5,?_⟩;rw[gq esp,ic el]; exact e5
 ·obtain⟨pn,y4,y5,rfl,s',nn',en'⟩:=h;have ly:ys.length=st.length:=by have:=iS.length; rw[cU]at this; exact this.symm
  rw[ly]at en';exact⟨_,rfl,q H' pn s' en' nn'⟩
theorem sO{k:Nat}(ha:a∈rs)(e:(ck ls a)[j]?=some k):some (a,j)∈lead ls rs k:=by
 unfold lead;refine vA _ (List.mem_flatMap.mpr ⟨a,ha,?_⟩);unfold hits;refine List.mem_filterMap.mpr ⟨(k,j),?_,by simp⟩;rw[List.mem_zipIdx_iff_getElem?]; exact e
theorem uK{k:Nat}{x:Way}(h:x∈lead ls rs k):(x=none∧k=0)∨∃ a j,x=some (a,j)∧a∈rs∧(ck ls a)[j]?=some k:=by
 unfold lead at h;rcases fv.mp h with h | h
 ·unfold basis at h;by_cases e:k=0
  ·rw[if_pos e]at h;exact .inl ⟨dU.mp h,e⟩
  ·rw[if_neg e]at h; cases h
 ·obtain⟨a,ha,h⟩:=List.mem_flatMap.mp h;unfold hits at h;obtain⟨⟨g,j⟩,h1,h2⟩:=List.mem_filterMap.mp h;rw[List.mem_zipIdx_iff_getElem?]at h1;by_cases e:g=k
  ·subst e;refine .inr ⟨a,j,?_,ha,h1⟩;have:some (some (a,j))=some x:=by simpa using h2
   exact (mW this).symm
  ·simp[e]at h2
theorem zF(ls:List Ln)(rs:List Nat):none∈lead ls rs 0:=by
 unfold lead basis;rw[if_pos rfl];exact tq _ oE
theorem tL{k:Nat}{p:Nat × Nat}(e:lead ls rs k=[some p]):k≠0:=fun z=>by
 subst z;have:=zF ls rs;rw[e]at this;cases dU.mp this
theorem mU{k:Nat}(e:lead ls rs k=[some (a,j)]):a∈rs∧(ck ls a)[j]?=some k:=by
 have:some (a,j)∈lead ls rs k:=by rw[e]; exact oE
 rcases uK this with ⟨z,_⟩ | ⟨a',j',z,h1,h2⟩
 ·cases z
 ·cases z; exact⟨h1,h2⟩
theorem xM{k:Nat}{p:Nat × Nat}(e:lead ls rs k=[some p]):d4 k (lead ls rs k)=false:=by
 unfold d4;rw[fK (tL e),e]; rfl
theorem uM(R:bM ls rs){k:Nat}(hk:k∈rs)(h:d4 k (lead ls rs k)=false):∃ a j,lead ls rs k=[some (a,j)]:=by
 unfold d4 at h;have h0:¬ k=0:=fun z=>by rw[ff z]at h; cases h
 have h2:¬ 2≤(lead ls rs k).length:=fun z=>by rw[ff z,Bool.or_true]at h; cases h
 have hne:lead ls rs k≠[]:=by
  cases (R.mem k).mp hk with
  | zero=>exact absurd rfl h0
  | @step i _ hi hj=>
   obtain⟨j,hjl,e⟩:=List.getElem_of_mem hj;exact List.ne_nil_of_mem (sO ((R.mem i).mpr hi) (by rw[cu hjl,e]))
 obtain⟨x,l,e⟩:=List.exists_cons_of_ne_nil hne;have hl:l=[]:=by
  rw[e,tD]at h2;exact List.eq_nil_of_length_eq_zero (by lia)
 subst hl;rcases uK (show x∈lead ls rs k by rw[e]; exact oE) with ⟨_,z⟩ | ⟨a,j,z,_⟩
 ·exact absurd z h0
 ·exact⟨a,j,by rw[e,z]⟩
inductive vk (ls:List Ln):Nat→Nat→Prop
 | zero:vk ls 0 0
 | step {n i j:Nat}:vk ls n i→j∈ck ls i→vk ls (n + 1) j
theorem vk.JR(h:vk ls n i):lF ls i:=by
 induction h with
 | zero=>exact .zero
 | step _ hj ih=>exact .step ih hj
theorem lF.n_(h:lF ls i):∃ n,vk ls n i:=by
 induction h with
 | zero=>exact⟨0,.zero⟩
 | step _ hj ih=>
  obtain⟨n,hn⟩:=ih;exact⟨n + 1,.step hn hj⟩
theorem least{p:Nat→Prop}:∀ n,p n→∃ m,p m∧∀ k,k < m→¬ p k:=by
 intro n
 induction n using Nat.strongRecOn with
 | _ n ih=>
  intro h;by_cases e:∃ k,k < n∧p k
  ·obtain⟨k,hk,hp⟩:=e;exact ih k hk hp
  ·exact⟨n,h,fun k hk hp=>e ⟨k,hk,hp⟩⟩
def wG(ls:List Ln)(c m:Nat):Prop:=vk ls m c∧∀ k,k < m→¬ vk ls k c
theorem Dx(h:lF ls c):∃ m,wG ls c m:=by
 obtain⟨n,hn⟩:=h.n_;exact least n hn
theorem CD{m':Nat}(h:wG ls c m)(h':wG ls c m'):m=m':=by
 rcases Nat.lt_trichotomy m m' with z | z | z
 ·exact absurd h.1 (h'.2 m z)
 ·exact z
 ·exact absurd h'.1 (h.2 m' z)
theorem zq(R:bM ls rs)(e:lead ls rs c=[some (a,j)])(h:wG ls c m):∃ m',m=m' + 1∧wG ls a m':=by
 obtain⟨h1,h2⟩:=h;have hw:=mU e;cases h1 with
 | zero=>exact absurd rfl (tL e)
 | @step n i _ hi hj=>
  obtain⟨j',hjl,ej⟩:=List.getElem_of_mem hj;have hm:=sO ((R.mem i).mpr hi.JR) (show (ck ls i)[j']?=some c by rw[cu hjl,ej]);rw[e]at hm;cases dU.mp hm;exact⟨n,rfl,hi,fun k hk hr=>h2 (k + 1) (by lia) (.step hr (gh hw.2))⟩
inductive Tr (ls:List Ln) (rs:List Nat):Nat→List (Nat × Nat)→Nat→Prop
 | nil (k:Nat):Tr ls rs k [] k
 | cons {a j c k:Nat} {st:List (Nat × Nat)}:lead ls rs c=[some (a,j)]→Tr ls rs c st k→Tr ls rs a ((a,j)::st) k
theorem Tr.last{k:Nat}(t:Tr ls rs h st k):(st=[]∧h=k)∨∃ st0 a j,st=st0++[(a,j)]∧lead ls rs k=[some (a,j)]∧Tr ls rs h st0 a:=by
 induction t with
 | nil k=>exact .inl ⟨rfl,rfl⟩
 | @cons a j c k st e t ih=>
  rcases ih with ⟨rfl,rfl⟩ | ⟨st0,a',j',rfl,e',t'⟩
  ·exact .inr ⟨[],a,j,rfl,e,.nil a⟩
  ·exact .inr ⟨(a,j)::st0,a',j',rfl,e',.cons e t'⟩
theorem Tr.uniq{ls:List Ln}{rs:List Nat}:∀ (n:Nat) {h h' k:Nat} {st st':List (Nat × Nat)},st.length≤n→Tr ls rs h st k→Tr ls rs h' st' k→d4 h (lead ls rs h)=true→d4 h' (lead ls rs h')=true→h=h'∧st=st'
 | n,h,h',k,st,st',hn,t,t',c,c'=>by
  rcases t.last with ⟨rfl,rfl⟩ | ⟨s0,a,j,rfl,e,t0⟩
  ·rcases t'.last with ⟨rfl,rfl⟩ | ⟨s0,a,j,rfl,e,_⟩
   ·exact⟨rfl,rfl⟩
   ·rw[xM e]at c; cases c
  ·rcases t'.last with ⟨rfl,rfl⟩ | ⟨s0',a',j',rfl,e',t0'⟩
   ·rw[xM e]at c'; cases c'
   ·rw[e]at e';cases e';cases n with
    | zero=>rw[iD,vm]at hn; lia
    | succ n=>
     obtain⟨r1,r2⟩:=Tr.uniq n (by rw[iD,vm]at hn; lia) t0 t0' c c';exact⟨r1,by rw[r2]⟩
theorem Tr.src{k:Nat}(t:Tr ls rs h st k):∀ s∈st,s.1∈rs:=by
 induction t with
 | nil k=>intro s hs; cases hs
 | @cons a j c k st e t ih=>
  intro s hs;rcases dO.mp hs with rfl | hs
  ·exact (mU e).1
  ·exact ih s hs
structure xi (ls:List Ln) (rs:List Nat) (k h:Nat) (st:List (Nat × Nat)):Prop where
 tr:Tr ls rs h st k
 cut:d4 h (lead ls rs h)=true
 mem:h∈rs
 len:st.length≤ls.length
theorem xi.uniq{k h':Nat}{st':List (Nat × Nat)}(a:xi ls rs k h st)(b:xi ls rs k h' st'):h=h'∧st=st':=Tr.uniq st.length (cq _) a.tr b.tr a.cut b.cut
structure Bk (ls:List Ln) (rs:List Nat) (k c m:Nat) (st:List (Nat × Nat)):Prop where
 tr:Tr ls rs c st k
 mem:c∈rs
 rk:wG ls c m
 rks:∀ i s,st[i]?=some s→wG ls s.1 (m + i)
theorem Bk.len{rw:Nat}{k:Nat}(P:Prog nm rw ls)(R:bM ls rs)(b:Bk ls rs k c m st):st.length≤ls.length:=by
 have h:(st.map (·.1)).length≤ls.length:=by
  refine cX ?_ fun i hi=>?_
  ·refine List.pairwise_iff_getElem.mpr fun i j hi hj hij e=>?_
   rw[cU]at hi hj;rw[List.getElem_map,List.getElem_map]at e;have r1:=b.rks i _ (cu hi);have r2:=b.rks j _ (cu hj);rw[e]at r1;have:=CD r1 r2
   lia
  ·obtain⟨s,hs,rfl⟩:=zM.mp hi;exact ((R.mem _).mp (b.tr.src s hs)).lt P
 rw[cU]at h;exact h
theorem Bk.back{k:Nat}(R:bM ls rs)(b:Bk ls rs k c m st)(e:lead ls rs c=[some (a,j)]):∃ m',m=m' + 1∧Bk ls rs k a m' ((a,j)::st):=by
 obtain⟨m',rfl,hr⟩:=zq R e b.rk;refine⟨m',rfl,.cons e b.tr,(mU e).1,hr,fun i s es=>?_⟩;cases i with
 | zero=>cases es; exact hr
 | succ i=>
  have:=b.rks i s es;rw[show m' + (i + 1)=m' + 1 + i by lia];exact this
theorem ya{K:aW}{H:Hp}:∀ {ds:List D} {vs:List V},IsL K H ds vs→IsL K H ds.reverse vs.reverse
 | [],vs,h=>by rw[IsL.nil_inv h]; exact aM
 | d::ds,vs,h=>by
  obtain⟨v,r,rfl,h1,h2⟩:=IsL.cons_inv h;rw[List.reverse_cons,List.reverse_cons];exact IsL.append (ya h2) (au h1 aM)
abbrev mH:Stmt:=top 21
theorem gb:aF ["program","line","leading","back","at","way"] Ic (ao mH):=by walk_at "k"
inductive sH(K:aW)(vs:List V)(H:Hp)(Q:VK)(E:XK):Prop|m(tp al:Addr)(nm rw:Nat)(ls:List Ln)(k:Nat)(_:vs=[.ref tp,.int (k:Int)])(_:gX K H tp al nm rw ls)(_:lF ls k)(_:∀ (H':Hp) (t p:Addr) (ys:List V) (hd:Nat) (st:List (Nat × Nat)) (rs:List Nat),aD H H'→H' t=some (.tup [.int (hd:Int),.ref p])→H' p=some (.lst ys)→H p=none→IsL K H' (st.map dq) ys→bM ls rs→xi ls rs k hd st→Q (.ref t) H')
theorem BF(F:cM K "trail" "trail" mH f fd)(m_list:mg "list" = none)(m_reversed:mg "reversed" = none)(c_into_each:Cl P w K mg base "into_each" n AG (oQ K))(c_is_cut:Cl P w K mg base "is_cut" n Ih (xJ K)):bg P w K mg base cH (n + 1) f fd Ic (sH K):=by
 refine F.ok gb (by walk_at "l") (fun cdv A outer s H vs Q E hr h=>?_);obtain⟨tp,al,nm,rw,ls,k,rfl,hP,hk,q⟩:=h;have hu:(A.deeper (envOfC "trail" (ao mH) s.heap.objs.size f cdv)).units + 1 < cLine:=by have:=hr.units; lia
 refine⟨_,(@ag _ _ _ _ _ (aV (i:=2) gb.nd (aC c_into_each hr rfl (aa (pv 0) ae)))
   (@ag _ _ _ _ _ (aV (i:=3) gb.nd (bo ae))
   (@ag _ _ _ _ _ (aV (i:=4) gb.nd (pv 1))
   (@ag _ _ _ _ _ (gi mO (nC (dH (aC c_is_cut hr rfl (aa (pv 4) (aa (bR hu (pv 2) (pv 4)) ae))))) (@ag _ _ _ _ _ (aV (i:=5) gb.nd (av aK (bR hu (pv 2) (pv 4)) ai))
   (@ag _ _ _ _ _ (bZ (fJ v9 Cp Cv cE (pv 3) (aa (pv 5) ae)))
   (ak (aV (i:=4) gb.nd (av aA (pv 5) ai))))))
   (ak (az (aY (aa (pv 4) (aa (wx rfl rfl m_list rfl m_reversed (aa (pv 3) ae)) ae))))))))),?_⟩
 refine⟨_,rfl,tp,al,nm,rw,ls,rfl,hP,fun H1 d rs pf s1 R L nd fr=>⟨bQ rfl,fun pb npb=>?_⟩⟩;have l1:=hP.ok.l1;have hkr:k∈rs:=(R.mem k).mpr hk;obtain⟨m0,hm0⟩:=Dx hk;have npb0:=ay s1 npb;have u2:=aj npb (.lst []);have eb:upd H1 pb (.lst []) pb=some (.lst []):=af;generalize upd H1 pb (.lst [])=H2 at u2 eb;refine⟨_,rfl,?_⟩
 refine⟨fun m σ H'=>∃ (c:Nat) (B:List (Nat × Nat)) (ys:List V) (y5:Option V),aD H1 H'∧H' pb=some (.lst ys)∧IsL K H' (B.map dq) ys∧Bk ls rs k c m B.reverse∧σ=[some (.ref tp),some (.int (k:Int)),some (.ref d),some (.ref pb),some (.int (c:Int)),y5],
  ⟨m0,k,[],[],_,u2,eb,aM,⟨.nil k,hkr,hm0,fun i s es=>by simp at es⟩,rfl⟩,fun m σ H3 h=>?_⟩
 obtain⟨c,B,ys,y5,s3,eb3,ib,bk,rfl⟩:=h;have L3:=L.same s3;obtain⟨zs,ez,iz,lz⟩:=L3.len bk.mem;refine⟨_,rfl,_,rfl,_,rfl,d,_,rfl,L3.get bk.mem,c,pf c,lead ls rs c,zs,rfl,a7.of ez,lz,_,rfl,?_⟩;have lB:B.length≤ls.length:=by have:=bk.len hP.ok R; rw[List.length_reverse]at this; exact this
 have ly:ys.length=B.length:=by have:=ib.length; rw[cU]at this; exact this.symm
 cases hcut:d4 c (lead ls rs c) with
 | true=>
  refine bp ?_;refine⟨_,rfl,_,rfl,pb,ys,rfl,eb3,fun p np=>⟨bQ rfl,fun t nt=>?_⟩⟩;have u4:=aj np (.lst ys.reverse);have u5:=aj nt (.tup [.int (c:Int),.ref p]);have u45:=u4.trans u5;refine q _ t p ys.reverse c B.reverse rs (s1.trans (s3.trans u45)) af (u5 _ _ af) (ay (s1.trans s3) np) ?_ R ⟨bk.tr,hcut,bk.mem,by rw[List.length_reverse]; exact lB⟩;rw[List.map_reverse];exact ya (ib.mono u45.aS)
 | false=>
  refine bI ⟨fun σ' H'=>∃ m',m' < m∧∃ (c:Nat) (B:List (Nat × Nat)) (ys:List V) (y5:Option V),aD H1 H'∧H' pb=some (.lst ys)∧IsL K H' (B.map dq) ys∧Bk ls rs k c m' B.reverse∧σ'=[some (.ref tp),some (.int (k:Int)),some (.ref d),some (.ref pb),some (.int (c:Int)),y5],fun _ _ h=>h,?_⟩;obtain⟨a,j,e1⟩:=uM R bk.mem hcut;rw[e1]at iz;obtain⟨v,r,rfl,iv,ir⟩:=IsL.cons_inv iz;cases ir.nil_inv;obtain⟨tw,xs,rfl,hw,iw⟩:=iv.bB;obtain⟨r1,rfl,i1⟩:=bD iw;obtain⟨r2,rfl,i2⟩:=bD i1;cases i2.nil_inv;refine⟨_,rfl,_,rfl,d,_,rfl,L3.get bk.mem,pf c,_,0,_,rfl,rfl,a7.of ez,dW _ _,?_⟩;refine⟨_,rfl,.inl ⟨rfl,_,a7.of eb3⟩,_,rfl,pb,ys,_,rfl,rfl,eb3,aO (by lia),?_⟩;obtain⟨m',rfl,bk'⟩:=bk.back R e1;have tl:=bu.lst (ys:=ys++[.ref tw]) eb3;refine⟨_,rfl,tw,_,0,_,rfl,rfl,tl.sq hw,dW _ _,m',by lia,a,B++[(a,j)],ys++[.ref tw],_,aD.new s3 npb,af,?_,by rw[List.reverse_append]; exact bk',rfl⟩;rw[je];exact IsL.append (ib.mono tl) (au ((show Is K H3 (dq (a,j)) (.ref tw) from iv).mono tl) aM)
abbrev rO:Stmt:=top 24
theorem oO:aF ["program","look","line","now"] ["program","look"] (ao rO):=by walk_at "k"
noncomputable def Gr(k:Nat)(low:Bool):D:=.tup [.int (k:Int),.str (if low then "low" else "high")]
inductive yK(K:aW)(vs:List V)(H:Hp)(Q:VK)(E:XK):Prop|m(tp al:Addr)(nm rw:Nat)(ls:List Ln)(k:Nat)(v:V)(d:bT)(m:Nat)(sl:Nat × Option Nat × Int)(low:Bool)(_:vs=[.ref tp,v])(_:gX K H tp al nm rw ls)(_:lF ls k)(_:Is K H (Gr k low) v)(_:ls[k]?=some (.deed d m))(_:d.slot=some sl)(_:∀ (H':Hp) (v':V) (hd:Nat) (st:List (Nat × Nat)) (rs:List Nat),aD H H'→bM ls rs→xi ls rs k hd st→Is K H' (if low then (rQ (along ls nm rw st st.length).2 sl).D else (iB (along ls nm rw st st.length).2 sl).D) v'→Q v' H')
theorem A9(l:Ln):l.wy.length=l.AM:=by cases l <;> rfl
theorem step_at(h:(ck ls a)[j]?=some c):lD ls (a,j):=by
 unfold ck at h;cases e:ls[a]? with
 | none=>rw[e]at h; cases h
 | some l=>
  rw[e]at h;have:=(eQ.mp (show l.wy[j]?=some c from h)).1;rw[A9]at this;exact⟨l,e,this⟩
theorem Tr.uR{k:Nat}(t:Tr ls rs h st k):∀ s∈st,lD ls s:=by
 induction t with
 | nil k=>intro s hs; cases hs
 | @cons a j c k st e t ih=>
  intro s hs;rcases dO.mp hs with rfl | hs
  ·exact step_at (mU e).2
  ·exact ih s hs
theorem qm{K:aW}{rw:Nat}(hP:gX K H tp al nm rw ls)(hs:a7 K H ps ys)(is:IsL K H (st.map dq) ys)(uR:∀ s∈st,lD ls s)(len:st.length≤100):lJ K H tp ps nm rw ls st:=by
 obtain⟨xs,h1,h2⟩:=hP.l;have:=hP.ok.hn;have:=hP.ok.hr;exact⟨⟨al,xs,hP.t,h1,h2⟩,⟨ys,hs,is⟩,hP.ok.ok,uR,by lia,by lia,len⟩
theorem B2(F:cM K "needs" "needs" rO f fd)(c_trail:Cl P w K mg base "trail" n Ic (sH K))(c_versions:Cl P w K mg base "versions" n qK (jJ K))(c_low_bound:Cl P w K mg base "low_bound" n qF (Bo K))(c_high_bound:Cl P w K mg base "high_bound" n qF (wU K)):bg P w K mg base cH (n + 1) f fd ["program","look"] (yK K):=by
 refine F.ok oO (by walk_at "l") (fun cdv A outer s H vs Q E hr h=>?_);obtain⟨tp,al,nm,rw,ls,k,v,d,m,sl,low,rfl,hP,hk,iv,el,hsl,q⟩:=h
 refine⟨_,(@ag _ _ _ _ _ (aV (i:=2) oO.nd (av aK (av aA (pv 0) ai) (av aA (pv 1) ai)))
   (@ag _ _ _ _ _ (aV (i:=3) oO.nd (aC c_versions hr rfl (aa (pv 0) (aa (av aA (aC c_trail hr rfl (aa (pv 0) (aa (av aA (pv 1) ai) ae))) ai) ae))))
   (ak (az (cC (aE bA (av aA (pv 1) ai) aJ) (aC c_low_bound hr rfl (aa (pv 2) (aa (pv 3) ae))) (aC c_high_bound hr rfl (aa (pv 2) (aa (pv 3) ae)))))))),?_⟩
 obtain⟨tw,xs,rfl,hw,iw⟩:=iv.bB;obtain⟨r1,rfl,i1⟩:=bD iw;obtain⟨v1,r2,rfl,i2,i3⟩:=mB i1;cases i2.str_inv;cases i3.nil_inv;have hlk:k < ls.length:=hk.lt hP.ok;have el':ls[k]=.deed d m:=by rw[cu hlk]at el; exact mW el
 obtain⟨xl,vl,hxl,hvl,ivl⟩:=eN hP.l hlk;have okl:=hP.ok.ok _ (vB hlk);rw[el']at ivl okl;have hso:=j5 hsl okl.1;refine⟨_,rfl,tp,_,2,_,rfl,rfl,hP.t,at2 _ _ _ _,_,rfl,tw,_,0,_,rfl,rfl,hw,dW _ _,al,xl,_,_,rfl,rfl,hxl,hvl,?_⟩;refine⟨_,rfl,_,rfl,_,rfl,tw,_,0,_,rfl,rfl,hw,dW _ _,tp,al,nm,rw,ls,k,rfl,hP,hk,fun H1 t p ys hd st rs s1 et ep np iy R T=>?_⟩;refine⟨t,_,1,_,rfl,rfl,bY.of et,jO _ _ _,tp,p,nm,rw,ls,st,rfl,qm (hP.same s1) (a7.of ep) iy T.tr.uR (by have:=hP.ok.l1; have:=T.len; lia),fun H2 pn s2 en nn=>?_⟩;have vl':=(eB (rw:=rw) hP.ok.ok T.tr.uR (cq st.length)).n;have s12:=s1.trans s2;refine⟨_,rfl,tw,_,1,_,rfl,rfl,s12.aS.sq hw,jO _ _ _,rfl,_,rfl,?_⟩;cases low with
 | true=>exact bI ⟨_,rfl,_,rfl,d,m,vl,sl,pn,_,rfl,a7.of en,ivl.mono s12.aS,hsl,by rw[vl']; exact hso.2,fun v' H' s' i'=>q _ v' hd st rs (s12.trans s') R T i'⟩
 | false=>exact bp ⟨_,rfl,_,rfl,d,m,vl,sl,pn,_,rfl,a7.of en,ivl.mono s12.aS,hsl,by rw[vl']; exact hso.2,fun v' H' s' i'=>q _ v' hd st rs (s12.trans s') R T i'⟩
structure WC (K:aW) (C:Addr):Prop where
 cl:vy K C
 na_lines:dj K C "lines"
 na_rows:dj K C "rows"
 na_coming:dj K C "coming"
 na_budget:dj K C "budget"
 na_at:dj K C "at"
 na_numbers:dj K C "numbers"
 na_heard:dj K C "heard"
 na_done:dj K C "done"
 na_ended:dj K C "ended"
noncomputable def rN(al ar ac:Addr)(b:Int)(at_:Int)(an ah:Addr)(dn:Int)(en:V):List (Str × V):=
 [("lines",.ref al),("rows",.ref ar),("coming",.ref ac),("budget",.int b),("at",.int at_),("numbers",.ref an),("heard",.ref ah),("done",.int dn),("ended",en)]
structure WA where
 x:Addr
 dx:Addr
 al:Addr
 ar:Addr
 ac:Addr
 an:Addr
 ah:Addr
 rs:List Addr
structure WS where
 ds:List D
 rows:List (List Int)
 coming:List Int
 budget:Int
 at_:Nat
 nums:List Int
 heard:List Int
 done:Int
 ended:Option (Str × Nat)
noncomputable def eU(H:Hp)(e:Option (Str × Nat))(en:V):Prop:=match e with
 | none=>en=.non
 | some (z,i)=>∃ te,en=.ref te∧H te=some (.tup [.str z,.int (i:Int)])
structure WalkAt (K:aW) (H:Hp) (C:Addr) (A:WA) (w:WS):Prop where
 ins:∃ en,H A.x=some (.ins C A.dx (rN A.al A.ar A.ac w.budget w.at_ A.an A.ah w.done en))∧eU H w.ended en
 lines:∃ xs,H A.al=some (.lst xs)∧IsL K H w.ds xs
 rows:H A.ar=some (.lst (A.rs.map V.ref))
 rlen:A.rs.length=w.rows.length
 row:∀ (i:Nat) a r,A.rs[i]?=some a→w.rows[i]?=some r→H a=some (.lst (aB r))
 coming:H A.ac=some (.lst (aB w.coming))
 nums:H A.an=some (.lst (aB w.nums))
 heard:H A.ah=some (.lst (aB w.heard))
 nd:(A.al::A.ar::A.ac::A.an::A.ah::A.rs).Nodup
noncomputable def WA.all(A:WA):List Addr:=A.x::A.al::A.ar::A.ac::A.an::A.ah::A.rs
def gY(S:List Addr)(H H':Hp):Prop:=∀ b o,H b=some o→¬ b∈S→H' b=some o
theorem gY.refl(S:List Addr)(H:Hp):gY S H H:=fun _ _ e _=>e
theorem gY.trans{S:List Addr}(a:gY S H H1)(b:gY S H1 H2):gY S H H2:=fun c o e n=>b c o (a c o e n) n
theorem gY.of_same{S:List Addr}(s:aD H H'):gY S H H':=fun b o e _=>s b o e
theorem gY.upd{S:List Addr}(h:p∈S):gY S H (L2.upd H p o):=fun b u e n=>by rw[aq (fun (z:b=p)=>n (by rw[z]; exact h))]; exact e
section
variable {w:WS}
theorem WalkAt.keep(h:WalkAt K H C A w)(hk:∀ b o,b∈A.all→H b=some o→H' b=some o)(ht:bu H H'):WalkAt K H' C A w:=by
 obtain⟨en,e1,e2⟩:=h.ins;obtain⟨xs,l1,l2⟩:=h.lines;refine⟨⟨en,hk _ _ (by simp[WA.all]) e1,?_⟩,⟨xs,hk _ _ (by simp[WA.all]) l1,l2.mono ht⟩,hk _ _ (by simp[WA.all]) h.rows,h.rlen,fun i a r e f=>hk _ _ (by simp[WA.all,gh e]) (h.row i a r e f),hk _ _ (by simp[WA.all]) h.coming,hk _ _ (by simp[WA.all]) h.nums,hk _ _ (by simp[WA.all]) h.heard,h.nd⟩;unfold eU at e2 ⊢;split at e2
 ·exact e2
 ·obtain⟨te,q1,q2⟩:=e2;exact⟨te,q1,ht.1 _ _ q2⟩
theorem WalkAt.same(h:WalkAt K H C A w)(s:aD H H'):WalkAt K H' C A w:=h.keep (fun b o _ e=>s b o e) s.aS
theorem Gq(h:WalkAt K H C A w)(e:H p=some o)(n:∀ xs,o≠.lst xs):p≠A.al∧p≠A.ar∧p≠A.ac∧p≠A.an∧p≠A.ah∧∀ a∈A.rs,p≠a:=by
 obtain⟨xs,l1,_⟩:=h.lines;have go:∀ {q:Addr} {ys:List V},H q=some (.lst ys)→p≠q:=fun f z=>by rw[z]at e; rw[e]at f; exact n _ (mW f)
 refine⟨go l1,go h.rows,go h.coming,go h.nums,go h.heard,fun a ha=>?_⟩;obtain⟨i,hi⟩:=Fw.mp ha;have hl:i < w.rows.length:=by have:=(eQ.mp hi).1; have:=h.rlen; omega
 exact go (h.row i a _ hi (cu hl))
theorem iC{fs fs':List (Str × V)}(h:H p=some (.ins C dx fs)):bu H (upd H p (.ins C dx fs')):=
 ⟨fun b zs e=>by rw[aq (bh e h (by intro z; cases z))]; exact e,fun b o u e=>by rw[aq (bh e h (by intro z; cases z))]; exact e⟩
theorem WalkAt.CU(h:WalkAt K H C A w){at2:Nat}{dn:Int}{e2:Option (Str × Nat)}(he:eU H e2 en) :
  WalkAt K (upd H A.x (.ins C A.dx (rN A.al A.ar A.ac w.budget at2 A.an A.ah dn en))) C A { w with at_:=at2,done:=dn,ended:=e2 }:=by
 obtain⟨en0,e1,_⟩:=h.ins;have tp:=iC (fs':=rN A.al A.ar A.ac w.budget at2 A.an A.ah dn en) e1;obtain⟨n1,n2,n3,n4,n5,n6⟩:=Gq h e1 (fun xs z=>by cases z);obtain⟨xs,l1,l2⟩:=h.lines;refine⟨⟨en,af,?_⟩,⟨xs,by rw[aq n1.symm]; exact l1,l2.mono tp⟩,by rw[aq n2.symm]; exact h.rows,h.rlen,fun i a r e f=>by rw[aq (n6 a (gh e)).symm]; exact h.row i a r e f,by rw[aq n3.symm]; exact h.coming,by rw[aq n4.symm]; exact h.nums,by rw[aq n5.symm]; exact h.heard,h.nd⟩;unfold eU at he ⊢;split at he
 ·exact he
 ·obtain⟨te,q1,q2⟩:=he;exact⟨te,q1,tp.1 _ _ q2⟩
theorem HN{a b c d e:Addr}{l:List Addr}(h:(a::b::c::d::e::l).Nodup):a≠b∧a≠c∧a≠d∧a≠e∧b≠c∧b≠d∧b≠e∧c≠d∧c≠e∧d≠e∧(∀ z∈l,a≠z∧b≠z∧c≠z∧d≠z∧e≠z):=by
 simp only[vx,dO,not_or]at h;obtain⟨⟨h1,h2,h3,h4,h5⟩,⟨h6,h7,h8,h9⟩,⟨h10,h11,h12⟩,⟨h13,h14⟩,h15,_⟩:=h;exact⟨h1,h2,h3,h4,h6,h7,h8,h10,h11,h13,fun z hz=>⟨fun q=>h5 (q ▸ hz),fun q=>h9 (q ▸ hz),fun q=>h12 (q ▸ hz),fun q=>h14 (q ▸ hz),fun q=>h15 (q ▸ hz)⟩⟩
theorem Dq(h:WalkAt K H C A w)(e:H p=some (.lst ys)):A.x≠p:=by
 obtain⟨en0,e1,_⟩:=h.ins;exact bh e1 e (by intro z; cases z)
theorem kA{zs:List V}(e:H p=some (.lst ys))(h:eU H q en):eU (upd H p (.lst zs)) q en:=by
 unfold eU at h ⊢;split at h
 ·exact h
 ·obtain⟨te,q1,q2⟩:=h;exact⟨te,q1,(bu.lst e).1 _ _ q2⟩
theorem WalkAt.Di(h:WalkAt K H C A w)(l:List Int):WalkAt K (upd H A.an (.lst (aB l))) C A { w with nums:=l }:=by
 obtain⟨en,e1,e2⟩:=h.ins;obtain⟨xs,l1,l2⟩:=h.lines;obtain⟨_,_,n1,_,_,n2,_,n3,_,n4,n5⟩:=HN h.nd;exact⟨⟨en,by rw[aq (Dq h h.nums)]; exact e1,kA h.nums e2⟩,⟨xs,by rw[aq n1]; exact l1,l2.mono (bu.lst h.nums)⟩,by rw[aq n2]; exact h.rows,h.rlen,fun i a r e f=>by rw[aq (n5 a (gh e)).2.2.2.1.symm]; exact h.row i a r e f,by rw[aq n3]; exact h.coming,af,by rw[aq n4.symm]; exact h.heard,h.nd⟩
theorem WalkAt.zw(h:WalkAt K H C A w)(l:List Int):WalkAt K (upd H A.ac (.lst (aB l))) C A { w with coming:=l }:=by
 obtain⟨en,e1,e2⟩:=h.ins;obtain⟨xs,l1,l2⟩:=h.lines;obtain⟨_,n1,_,_,n2,_,_,n3,n4,_,n5⟩:=HN h.nd;exact⟨⟨en,by rw[aq (Dq h h.coming)]; exact e1,kA h.coming e2⟩,⟨xs,by rw[aq n1]; exact l1,l2.mono (bu.lst h.coming)⟩,by rw[aq n2]; exact h.rows,h.rlen,fun i a r e f=>by rw[aq (n5 a (gh e)).2.2.1.symm]; exact h.row i a r e f,af,by rw[aq n3.symm]; exact h.nums,by rw[aq n4.symm]; exact h.heard,h.nd⟩
theorem WalkAt.Cf(h:WalkAt K H C A w)(l:List Int):WalkAt K (upd H A.ah (.lst (aB l))) C A { w with heard:=l }:=by
 obtain⟨en,e1,e2⟩:=h.ins;obtain⟨xs,l1,l2⟩:=h.lines;obtain⟨_,_,_,n1,_,_,n2,_,n3,n4,n5⟩:=HN h.nd;exact⟨⟨en,by rw[aq (Dq h h.heard)]; exact e1,kA h.heard e2⟩,⟨xs,by rw[aq n1]; exact l1,l2.mono (bu.lst h.heard)⟩,by rw[aq n2]; exact h.rows,h.rlen,fun i a r e f=>by rw[aq (n5 a (gh e)).2.2.2.2.symm]; exact h.row i a r e f,by rw[aq n3]; exact h.coming,by rw[aq n4]; exact h.nums,af,h.nd⟩
end
noncomputable def worth(nums:List Int):Option Nat→Int
 | none=>0
 | some i=>nums[i]?.getD 0
structure Mem where
 nums:List Int
 coming:List Int
 heard:List Int
noncomputable def fS(nums:List Int)(rows:List (List Int))(s:Nat × Option Nat × Int):Option Str:=
 if worth nums s.2.1 + s.2.2 < 0 then some "low" else if ((rows[s.1]?.getD []).length:Int)≤worth nums s.2.1 + s.2.2 then some "high" else none
noncomputable def bT.look(nums:List Int)(rows:List (List Int))(d:bT):Option Str:=match d.slot with
 | some s=>fS nums rows s
 | none=>none
noncomputable def bT.run(rows:List (List Int))(m:Mem):bT→Mem
 | .set x y c=>{ m with nums:=m.nums.set x (worth m.nums y + c) }
 | .sum x z y=>{ m with nums:=m.nums.set x (worth m.nums (some z) + worth m.nums y) }
 | .len x r=>{ m with nums:=m.nums.set x ((rows[r]?.getD []).length:Int) }
 | .take x=>{ m with nums:=m.nums.set x (m.coming.headD 0),coming:=m.coming.tail }
 | .tell x=>{ m with heard:=m.heard++[worth m.nums (some x)] }
 | .get x r y c=>{ m with nums:=m.nums.set x ((rows[r]?.getD [])[(worth m.nums y + c).toNat]?.getD 0) }
 | .put _ _ _ _=>m
noncomputable def bT.rows(rows:List (List Int))(m:Mem):bT→List (List Int)
 | .put r y c z=>rows.set r ((rows[r]?.getD []).set (worth m.nums y + c).toNat (worth m.nums (some z)))
 | _=>rows
noncomputable def WS.mem(w:WS):Mem:=⟨w.nums,w.coming,w.heard⟩
noncomputable def WS.oW(w:WS)(m:Mem):WS:={ w with nums:=m.nums,coming:=m.coming,heard:=m.heard }
section
variable {w:WS}
theorem WalkAt.E4(h:WalkAt K H C A w){a:Addr}{l0:List Int}(ea:A.rs[r]?=some a)(el:w.rows[r]?=some l0)(l:List Int):WalkAt K (upd H a (.lst (aB l))) C A { w with rows:=w.rows.set r l }:=by
 obtain⟨en,e1,e2⟩:=h.ins;obtain⟨xs,l1,l2⟩:=h.lines;have ho:=h.row r a l0 ea el;have ham:=gh ea;obtain⟨_,_,_,_,_,_,_,_,_,_,n5⟩:=HN h.nd;have nda:(A.rs).Nodup:=by have:=h.nd; simp only[vx]at this; exact this.2.2.2.2.2
 refine⟨⟨en,by rw[aq (Dq h ho)]; exact e1,kA ho e2⟩,⟨xs,by rw[aq (n5 a ham).1]; exact l1,l2.mono (bu.lst ho)⟩,by rw[aq (n5 a ham).2.1]; exact h.rows,by rw[h.rlen,xI],fun i b q e g=>?_,by rw[aq (n5 a ham).2.2.1]; exact h.coming,by rw[aq (n5 a ham).2.2.2.1]; exact h.nums,by rw[aq (n5 a ham).2.2.2.2]; exact h.heard,h.nd⟩;by_cases hi:i=r
 ·subst hi;rw[ea]at e; cases e;rw[yM (eQ.mp el).1]at g;cases g;exact af
 ·rw[Af (fun z=>hi z.symm)]at g;have hne:b≠a:=fun z=>by
   rw[z]at e;exact hi ((List.getElem?_inj (eQ.mp e).1 nda).mp (e.trans ea.symm))
  rw[aq hne];exact h.row i b q e g
end
abbrev gk:Stmt:=(inClass (top 34) 13)
abbrev e9:Stmt:=(inClass (top 34) 10)
abbrev gO:Stmt:=(inClass (top 34) 9)
abbrev fV:Stmt:=(inClass (top 34) 8)
abbrev lE:Stmt:=(inClass (top 34) 7)
abbrev jy:Stmt:=(inClass (top 34) 14)
abbrev gQ:Stmt:=(inClass (top 34) 15)
abbrev dA:Stmt:=(inClass (top 34) 6)
abbrev gy:Stmt:=(inClass (top 34) 11)
abbrev dJ:Stmt:=(inClass (top 34) 12)
theorem uw:aF jc jc (ao jy):=by walk_at "k"
theorem ph:aF jc jc (ao gQ):=by walk_at "k"
theorem eV:aF ["self","line","place"] jc (ao dA):=by walk_at "k"
theorem pM:aF HW HW (ao gy):=by walk_at "k"
theorem jC:aF HS HS (ao dJ):=by walk_at "k"
theorem pN:aF qQ qQ (ao gk):=by walk_at "k"
theorem pG:aF jc jc (ao e9):=by walk_at "k"
theorem pj:aF jc jc (ao gO):=by walk_at "k"
theorem hX:aF ["self","line","row"] jc (ao fV):=by walk_at "k"
theorem jH:aF ["self","line","name","row"] jc (ao lE):=by walk_at "k"
noncomputable def Nd.val(nums:List Int)(rows:List (List Int)):Nd→Int
 | .zero=>0 | .name x=>worth nums (some x) | .len r=>((rows[r]?.getD []).length:Int)
noncomputable def Bd.so(nums:List Int)(rows:List (List Int))(q:Bd):Bool:=decide (q.a.val nums rows - q.b.val nums rows≤q.c)
noncomputable def Ln.bit(nums:List Int)(rows:List (List Int)):Ln→Bool
 | .test y w c _ _=>!decide (worth nums y - worth nums w≤c)
 | .ask bs _ _=>!bs.all (Bd.so nums rows)
 | _=>false
noncomputable def Ln.next(nums:List Int)(rows:List (List Int))(l:Ln):Nat:=match l with
 | .deed _ k=>k
 | .test _ _ _ k m=>if l.bit nums rows then m else k
 | .ask _ k m=>if l.bit nums rows then m else k
 | .stop=>0
inductive mV(K:aW)(C:Addr)(vs:List V)(H:Hp)(Q:VK)(E:XK):Prop|m(A:WA)(w:WS)(y:Option Nat)(_:vs=[.ref A.x,kT y])(_:WalkAt K H C A w)(_:d6 w.nums.length y)(_:Q (.int (worth w.nums y)) H)
inductive lO(K:aW)(C:Addr)(vs:List V)(H:Hp)(Q:VK)(E:XK):Prop|m(A:WA)(w:WS)(q:Nd)(v:V)(_:vs=[.ref A.x,v])(_:WalkAt K H C A w)(_:Is K H q.D v)(_:q.Ok w.nums.length w.rows.length)(_:Q (.int (q.val w.nums w.rows)) H)
inductive Ca(K:aW)(C:Addr)(vs:List V)(H:Hp)(Q:VK)(E:XK):Prop|m(A:WA)(w:WS)(q:Bd)(v:V)(_:vs=[.ref A.x,v])(_:WalkAt K H C A w)(_:Is K H q.D v)(_:q.Ok w.nums.length w.rows.length)(_:Q (.bl (q.so w.nums w.rows)) H)
inductive xA(K:aW)(C:Addr)(vs:List V)(H:Hp)(Q:VK)(E:XK):Prop|m(A:WA)(w:WS)(l:Ln)(nl:Nat)(v:V)(_:vs=[.ref A.x,v])(_:WalkAt K H C A w)(_:Is K H l.D v)(_:l.Ok w.nums.length w.rows.length nl)(_:∀ H',aD H H'→Q (.int (if l.bit w.nums w.rows then 1 else 0)) H')
inductive vI(K:aW)(C:Addr)(vs:List V)(H:Hp)(Q:VK)(E:XK):Prop|m(A:WA)(w:WS)(l:Ln)(nl:Nat)(v:V)(_:vs=[.ref A.x,v])(_:WalkAt K H C A w)(_:Is K H l.D v)(_:l.Ok w.nums.length w.rows.length nl)(_:l≠.stop)(_:∀ H',gY A.all H H'→bu H H'→WalkAt K H' C A { w with at_:=l.next w.nums w.rows }→Q .non H')
noncomputable def bT.val(rows:List (List Int))(m:Mem):bT→Int
 | .set _ y c=>worth m.nums y + c
 | .sum _ z y=>worth m.nums (some z) + worth m.nums y
 | .len _ r=>((rows[r]?.getD []).length:Int)
 | .take _=>m.coming.headD 0
 | .tell _=>0
 | .get _ r y c=>(rows[r]?.getD [])[(worth m.nums y + c).toNat]?.getD 0
 | .put ..=>0
noncomputable def bT.rest(m:Mem):bT→List Int
 | .take _=>m.coming.tail
 | _=>m.coming
inductive xO(K:aW)(C:Addr)(vs:List V)(H:Hp)(Q:VK)(E:XK):Prop|m(A:WA)(w:WS)(d:bT)(k:Nat)(v:V)(s:Nat × Option Nat × Int)(a:Addr)(_:vs=[.ref A.x,v])(_:WalkAt K H C A w)(_:Is K H (d.line k) v)(_:d.slot=some s)(_:A.rs[s.1]?=some a)(_:∀ H',aD H H'→Q (.ref a) H')
inductive jd(K:aW)(C:Addr)(vs:List V)(H:Hp)(Q:VK)(E:XK):Prop|m(A:WA)(w:WS)(d:bT)(k:Nat)(v:V)(s:Nat × Option Nat × Int)(_:vs=[.ref A.x,v])(_:WalkAt K H C A w)(_:Is K H (d.line k) v)(_:d.slot=some s)(_:d6 w.nums.length s.2.1)(_:∀ H',aD H H'→Q (.int (worth w.nums s.2.1 + s.2.2)) H')
noncomputable def yn:Option Str→V
 | none=>.non
 | some z=>.str z
inductive tU(K:aW)(C:Addr)(vs:List V)(H:Hp)(Q:VK)(E:XK):Prop|m(A:WA)(w:WS)(d:bT)(k:Nat)(v:V)(s:Nat × Option Nat × Int)(_:vs=[.ref A.x,v])(_:WalkAt K H C A w)(_:Is K H (d.line k) v)(_:d.slot=some s)(_:d.Ok w.nums.length w.rows.length)(_:∀ H',aD H H'→Q (yn (fS w.nums w.rows s)) H')
theorem pR(F:cM K "worth" "Walk.worth" gk f fd)(W:WC K C):bg P w K mg base cH (n + 1) f fd qQ (mV K C):=by
 refine F.ok pN (by walk_at "l") (fun cdv A outer s H vs Q E hr h=>?_);obtain⟨A,w,y,rfl,hw,hy,q⟩:=h;refine⟨_,(ak (az (cC (aE vP (pv 1) cJ) ai (av aK (cF W.cl W.na_numbers (pv 0)) (pv 1))))),?_⟩;obtain⟨en,e1,e2⟩:=hw.ins;cases y with
 | none=>exact⟨_,rfl,rfl,_,rfl,bI q⟩
 | some i=>
  have hi:i < w.nums.length:=hy;refine⟨_,rfl,rfl,_,rfl,bp ⟨_,rfl,A.x,A.dx,_,_,rfl,e1,rfl,_,rfl,A.an,_,_,_,rfl,rfl,a7.of hw.nums,bf (j:=i) ?_,q⟩⟩;show (w.nums.map V.int)[i]?=some (.int (w.nums[i]?.getD 0));rw[lK,cu hi]; rfl
theorem jq(F:cM K "node_worth" "Walk.node_worth" dJ f fd)(W:WC K C)(m_len:mg "len" = none):bg P w K mg base cH (n + 1) f fd HS (lO K C):=by
 refine F.ok jC (by walk_at "l") (fun cdv A outer s H vs Q E hr h=>?_);obtain⟨A,w,nd,v,rfl,hw,hi,hk,q⟩:=h
 refine⟨_,(@ag _ _ _ _ _ (ba (aE bA (av aA (pv 1) ai) aJ) (ak (az (av aK (cF W.cl W.na_numbers (pv 0)) (av aA (pv 1) ai)))) aN)
   (ak (az (cC (aE bA (av aA (pv 1) ai) aJ) (bj a8 rfl m_len qi (aa (av aK (cF W.cl W.na_rows (pv 0)) (av aA (pv 1) ai)) ae)) ai)))),?_⟩
 obtain⟨en,e1,e2⟩:=hw.ins;obtain⟨a,vs,rfl,hq,il⟩:=AH hi;refine⟨_,rfl,a,_,0,_,rfl,rfl,hq,dW _ _,rfl,_,rfl,?_⟩;cases nd with
 | name x=>
  obtain⟨r,rfl,_⟩:=bD il;have hx:x < w.nums.length:=hk;exact bI ⟨_,rfl,A.x,A.dx,_,_,rfl,e1,rfl,_,rfl,a,_,1,_,rfl,rfl,hq,jO _ _ _,A.an,_,_,_,rfl,rfl,a7.of hw.nums,bf (cD hx),q⟩
 | len r=>
  obtain⟨t,rfl,_⟩:=bD il;have hr:r < w.rows.length:=hk;have hra:r < A.rs.length:=by rw[hw.rlen]; exact hr
  have era:=cu hra;have err:=cu hr;refine bp ⟨_,rfl,a,_,0,_,rfl,rfl,hq,dW _ _,rfl,_,rfl,bI ⟨_,rfl,A.x,A.dx,_,_,rfl,e1,rfl,_,rfl,a,_,1,_,rfl,rfl,hq,jO _ _ _,A.ar,_,_,.ref A.rs[r],rfl,rfl,a7.of hw.rows,bf (j:=r) (by rw[lK,era]; rfl),A.rs[r],_,rfl,.inl (a7.of (hw.row r _ _ era err)),?_⟩⟩;have e:((aB w.rows[r]).length:Int)=(Nd.len r).val w.nums w.rows:=by
   show _=((w.rows[r]?.getD []).length:Int)
   rw[err]; unfold aB; rw[cU]; rfl
  rw[e]; exact q
 | zero=>exact bp ⟨_,rfl,a,_,0,_,rfl,rfl,hq,dW _ _,rfl,_,rfl,bp q⟩
theorem pk(F:cM K "is_so" "Walk.is_so" gy f fd)(W:WC K C)(c_Walk_node_worth:ju P w K mg base C "node_worth" n HS (lO K C)):bg P w K mg base cH (n + 1) f fd HW (Ca K C):=by
 refine F.ok pM (by walk_at "l") (fun cdv A outer s H vs Q E hr h=>?_);obtain⟨A,w,b,v,rfl,hw,hi,hk,q⟩:=h;refine⟨_,(ak (az (bU BJ (aR dD (cw (pv 0) c_Walk_node_worth hr (aa (av aA (pv 1) ai) ae)) (cw (pv 0) c_Walk_node_worth hr (aa (av aA (pv 1) ai) ae))) (av aA (pv 1) ai)))),?_⟩;obtain⟨en,e1,e2⟩:=hw.ins;obtain⟨a,xs,rfl,hq,il⟩:=hi.bB;obtain⟨va,r1,rfl,ia,il1⟩:=mB il;obtain⟨vb,r2,rfl,ib,il2⟩:=mB il1;obtain⟨r3,rfl,il3⟩:=bD il2;exact⟨_,rfl,A.x,A.dx,_,rfl,e1,rfl,_,rfl,a,_,0,_,rfl,rfl,hq,dW _ _,A,w,b.a,va,rfl,hw,ia,hk.1,_,rfl,A.x,A.dx,_,rfl,e1,rfl,_,rfl,a,_,1,_,rfl,rfl,hq,jO _ _ _,A,w,b.b,vb,rfl,hw,ib,hk.2,_,_,rfl,rfl,_,rfl,a,_,2,_,rfl,rfl,hq,at2 _ _ _ _,_,_,rfl,rfl,q⟩
theorem px(F:cM K "which" "Walk.which" e9 f fd)(W:WC K C)(m_all:mg "all" = none)(c_is_ask:Cl P w K mg base "is_ask" n qC (mR K))(c_Walk_worth:ju P w K mg base C "worth" n qQ (mV K C))(c_Walk_is_so:ju P w K mg base C "is_so" n HW (Ca K C)) :
  bg P w K mg base cH (n + 1) f fd jc (xA K C):=by
 refine F.ok pG (by walk_at "l") (fun cdv A outer s H vs Q E hr h=>?_);obtain⟨A,w,l,nl,v,rfl,hw,hi,hk,q⟩:=h
 refine⟨_,(@ag _ _ _ _ _ (ba (aE bA (av aA (pv 1) ai) aJ) (ak (az (cC (aE BJ (aR dD (cw (pv 0) c_Walk_worth hr (aa (av aA (pv 1) ai) ae)) (cw (pv 0) c_Walk_worth hr (aa (av aA (pv 1) ai) ae))) (av aA (pv 1) ai)) ai ai))) aN)
   (@ag _ _ _ _ _ (ba (dH (aC c_is_ask hr rfl (aa (pv 1) ae))) (ak (az (cC (dH (bj (tI rfl) rfl m_all PyProof.Rows.boot_all (aa (cS ["bound"] rfl (cW (N:=jc) (so:=ao e9) rfl rfl (by decide +kernel)) (oo (av aA (pv 1) ai)) (fun _ _ _ _ _ _=>(aU (i:=0) (show List.Nodup (α:=Str) ["bound","self","line"] by decide +kernel) rfl (Or.inl rfl) (Or.inr rfl))) (fun _ _ _ _ _ _=>cf) (fun _ _ _ _ _ _=>(cw (pv 1) c_Walk_is_so hr (aa (pv 0) ae)))) ae))) ai ai))) aN)
   (ak (az ai)))),?_⟩
 obtain⟨en,e1,e2⟩:=hw.ins;obtain⟨a,vs,rfl,hq,il⟩:=dk hi;refine⟨_,rfl,a,_,0,_,rfl,rfl,hq,dW _ _,rfl,_,rfl,?_⟩;cases l with
 | deed d k=>
  have q0:=q H (aD.refl H);rw[fK (show ¬ V.str (Ln.deed d k).word=V.str "test" from fun z=>jT (d:=d) (z:="test") (by decide) (V.str.inj z))];refine bp ⟨_,rfl,.ref a,(Ln.deed d k).word,_,rfl,hi,_,rfl,?_⟩;rw[fK (show ¬ (Ln.deed d k).word = "ask" from jT (d:=d) (by decide))];exact bp q0
 | stop=>
  have q0:=q H (aD.refl H);rw[fK (show ¬ V.str (Ln.stop).word=V.str "test" from fun z=>(by decide:("end":Str)≠"test") (V.str.inj z))];refine bp ⟨_,rfl,.ref a,(Ln.stop).word,_,rfl,hi,_,rfl,?_⟩;rw[fK (show ¬ (Ln.stop).word = "ask" by decide)];exact bp q0
 | test y u c k m=>
  obtain⟨r1,rfl,il1⟩:=jf il;obtain⟨r2,rfl,il2⟩:=jf il1;obtain⟨r3,rfl,il3⟩:=bD il2;refine bI ⟨_,rfl,A.x,A.dx,_,rfl,e1,rfl,_,rfl,a,_,1,_,rfl,rfl,hq,jO _ _ _,A,w,y,rfl,hw,hk.1,_,rfl,A.x,A.dx,_,rfl,e1,rfl,_,rfl,a,_,2,_,rfl,rfl,hq,at2 _ _ _ _,A,w,u,rfl,hw,hk.2.1,_,_,rfl,rfl,_,rfl,a,_,3,_,rfl,rfl,hq,Ej _ _ _ _ _,_,_,rfl,rfl,_,rfl,?_⟩;have q0:=q H (aD.refl H);by_cases e:worth w.nums y - worth w.nums u≤c
  ·rw[ff e];have hb:(Ln.test y u c k m).bit w.nums w.rows=false:=by show (!decide _)=false; rw[ff e]; rfl
   rw[hb]at q0;exact bI q0
  ·rw[fK e];have hb:(Ln.test y u c k m).bit w.nums w.rows=true:=by show (!decide _)=true; rw[fK e]; rfl
   rw[hb]at q0;exact bp q0
 | ask bs k m=>
  refine bp ⟨_,rfl,.ref a, "ask",_,rfl,hi,_,rfl,bI ?_⟩;obtain⟨vb,r1,rfl,ib,il1⟩:=mB il;obtain⟨ab,xs,rfl,hqb,ilb⟩:=ib.bB;refine⟨_,rfl,a,_,1,_,rfl,rfl,hq,jO _ _ _,ab,rfl,⟨_,hqb⟩,fun p np=>?_⟩;have lx:=ilb.length;rw[cU]at lx;have h100:=hk.2.1;refine kc (xs:=xs) (fun i H'=>aD H H'∧H' p=some (.lst ((bs.take i).map fun b=>V.bl (b.so w.nums w.rows)))) ⟨aj np _,af⟩ (fun i H' _ h=>h.1.aS.sq hqb) (fun i y H' ey h=>?_) (fun H' h=>?_)
  ·obtain⟨sm,ep⟩:=h;have hil:i < bs.length:=by have:=(eQ.mp ey).1; omega
   have eb:=cu hil;obtain⟨v',ev',iv'⟩:=(ilb.mono sm.aS).get (j:=i) (d:=bs[i].D) (by rw[lK,eb]; rfl);rw[ey]at ev'; cases ev';refine⟨⟨[some y],rfl,rfl⟩,bP ⟨_,rfl,A.x,A.dx,_,rfl,sm _ _ e1,rfl,_,rfl,A,w,bs[i],y,rfl,hw.same sm,iv',hk.1 _ (gh eb),_,ep,aO (by rw[cU,qy]; omega),aD.new sm np,?_⟩⟩;rw[af,A2,eb,je]; rfl
  ·obtain⟨sm,ep⟩:=h;rw[← lx,Ah]at ep;refine⟨p,bs.map (Bd.so w.nums w.rows),rfl,a7.of (by rw[ep,List.map_map]; rfl),_,rfl,?_⟩;have q0:=q H' sm;have hb:(Ln.ask bs k m).bit w.nums w.rows=!(bs.map (Bd.so w.nums w.rows)).all id:=by
    show (!bs.all (Bd.so w.nums w.rows))=_;rw[List.all_map]; rfl
   rw[hb]at q0;cases e:(bs.map (Bd.so w.nums w.rows)).all id with
   | true=>rw[e]at q0; exact bI q0
   | false=>rw[e]at q0; exact bp q0
theorem BK(h:eU H q en)(s:aD H H2):eU H2 q en:=by
 unfold eU at h ⊢;split at h
 ·exact h
 ·obtain⟨te,q1,q2⟩:=h;exact⟨te,q1,s _ _ q2⟩
theorem DL(l:Ln)(h:l≠.stop):∃ ks,hZ.lookup l.word=some ks∧l.args.length≤1000∧
  jm ks l.args=(match l with | .deed _ k=>[.int (k:Int)] | .test _ _ _ k m=>[.int (k:Int),.int (m:Int)] | .ask _ k m=>[.int (k:Int),.int (m:Int)] | .stop=>[]):=by
 cases l with
 | deed d k=>cases d <;> exact⟨_,rfl,by simp[Ln.args,bT.args],rfl⟩
 | test y w c k m=>exact⟨_,rfl,by simp[Ln.args],rfl⟩
 | ask bs k m=>exact⟨_,rfl,by simp[Ln.args],rfl⟩
 | stop=>exact absurd rfl h
theorem Bw{k:Nat}(b:Bool):me [V.int (k:Int),.int (m:Int)] (if b then 1 else 0)=some (.int ((if b then m else k:Nat):Int)):=by cases b <;> rfl
theorem pq(F:cM K "go_on" "Walk.go_on" gO f fd)(W:WC K C)(c_ways:Cl P w K mg base "ways" n qC (rZ K))(c_Walk_which:ju P w K mg base C "which" n jc (xA K C)):bg P w K mg base cH (n + 1) f fd jc (vI K C):=by
 refine F.ok pj (by walk_at "l") (fun cdv A outer s H vs Q E hr h=>?_);obtain⟨A,w,l,nl,v,rfl,hw,hi,hok,hne,q⟩:=h;refine⟨_,(ak (iN W.cl W.na_at (pv 0) (av aA (aC c_ways hr rfl (aa (pv 1) ae)) (cw (pv 0) c_Walk_which hr (aa (pv 1) ae))))),?_⟩;obtain⟨ks,hk,hl,hws⟩:=DL l hne;refine⟨_,rfl,v,l.word,_,ks,rfl,hi,hk,hl,fun H1 t xs s1 et il=>?_⟩;rw[hws]at il;have hw1:=hw.same s1;obtain⟨en,e1,e2⟩:=hw1.ins;refine⟨_,rfl,A.x,A.dx,_,rfl,e1,rfl,_,rfl,A,w,l,nl,v,rfl,hw1,hi.mono s1.aS,hok,fun H2 s2=>?_⟩;have hw2:=hw1.same s2;have e12:=s2 _ _ e1;have hat:me xs (if l.bit w.nums w.rows then 1 else 0)=some (.int ((l.next w.nums w.rows:Nat):Int)):=by
  cases l with
  | deed d k=>
   obtain⟨r,rfl,ir⟩:=bD il;exact dW _ _
  | test y u c k m=>
   obtain⟨r1,rfl,ir1⟩:=bD il;obtain⟨r2,rfl,ir2⟩:=bD ir1;cases ir2.nil_inv;exact Bw _
  | ask bs k m=>
   obtain⟨r1,rfl,ir1⟩:=bD il;obtain⟨r2,rfl,ir2⟩:=bD ir1;cases ir2.nil_inv;exact Bw _
  | stop=>exact absurd rfl hne
 refine⟨t,_,_,_,rfl,rfl,bY.of (s2 _ _ et),hat,_,rfl,A.x,A.dx,_,rfl,e12,(by show 9 < 1000; decide),?_⟩;have s12:=s1.trans s2;exact q _ ((gY.of_same s12).trans (gY.upd (by simp[WA.all]))) (s12.aS.trans (iC e12)) (hw2.CU (at2:=l.next w.nums w.rows) (dn:=w.done) (e2:=w.ended) (BK e2 s2))
theorem ui(F:cM K "row" "Walk.row" jy f fd)(W:WC K C)(c_place_of:Cl P w K mg base "place_of" n qC (fZ K)):bg P w K mg base cH (n + 1) f fd jc (xO K C):=by
 refine F.ok uw (by walk_at "l") (fun cdv A outer s H vs Q E hr h=>?_);obtain⟨A,w,d,k,v,s,a,rfl,hw,hi,hs,ha,q⟩:=h;refine⟨_,(ak (az (av aK (cF W.cl W.na_rows (pv 0)) (av aA (aC c_place_of hr rfl (aa (pv 1) ae)) ai)))),?_⟩;obtain⟨en,e1,e2⟩:=hw.ins;refine⟨_,rfl,A.x,A.dx,_,_,rfl,e1,rfl,_,rfl,d,k,v,s,rfl,hi,hs,fun H1 t s1 ht=>?_⟩;exact⟨t,_,0,_,rfl,rfl,ht,dW _ _,A.ar,_,_,.ref a,rfl,rfl,a7.of (s1 _ _ hw.rows),bf (j:=s.1) (by rw[lK,ha]; rfl),q H1 s1⟩
theorem pC(F:cM K "place" "Walk.place" gQ f fd)(W:WC K C)(c_place_of:Cl P w K mg base "place_of" n qC (fZ K))(c_Walk_worth:ju P w K mg base C "worth" n qQ (mV K C)):bg P w K mg base cH (n + 1) f fd jc (jd K C):=by
 refine F.ok ph (by walk_at "l") (fun cdv A outer s H vs Q E hr h=>?_);obtain⟨A,w,d,k,v,s,rfl,hw,hi,hs,hy,q⟩:=h;refine⟨_,(ak (az (aR bK (cw (pv 0) c_Walk_worth hr (aa (av aA (aC c_place_of hr rfl (aa (pv 1) ae)) ai) ae)) (av aA (aC c_place_of hr rfl (aa (pv 1) ae)) ai)))),?_⟩;obtain⟨en,e1,e2⟩:=hw.ins;refine⟨_,rfl,A.x,A.dx,_,rfl,e1,rfl,_,rfl,d,k,v,s,rfl,hi,hs,fun H1 t s1 ht=>?_⟩;refine⟨t,_,1,_,rfl,rfl,ht,jO _ _ _,A,w,s.2.1,rfl,hw.same s1,hy,_,rfl,d,k,v,s,rfl,hi.mono s1.aS,hs,fun H2 t2 s2 ht2=>?_⟩;exact⟨t2,_,2,_,rfl,rfl,ht2,at2 _ _ _ _,_,_,rfl,rfl,q H2 (s1.trans s2)⟩
theorem ji(F:cM K "failed_look" "Walk.failed_look" dA f fd)(W:WC K C)(m_len:mg "len" = none)(c_Walk_row:ju P w K mg base C "row" n jc (xO K C))(c_Walk_place:ju P w K mg base C "place" n jc (jd K C)):bg P w K mg base cH (n + 1) f fd jc (tU K C):=by
 refine F.ok eV (by walk_at "l") (fun cdv A outer s H vs Q E hr h=>?_);obtain⟨A,w,d,k,v,s,rfl,hw,hi,hs,hk,q⟩:=h
 refine⟨_,(@ag _ _ _ _ _ (aV (i:=2) eV.nd (cw (pv 0) c_Walk_place hr (aa (pv 1) ae)))
   (@ag _ _ _ _ _ (ba (aE kf (pv 2) ai) (ak (az aJ)) aN)
   (ak (az (cC (aE kf (pv 2) (bj a8 rfl m_len qi (aa (cw (pv 0) c_Walk_row hr (aa (pv 1) ae)) ae))) cJ aJ))))),?_⟩
 obtain⟨en,e1,e2⟩:=hw.ins;obtain⟨hr1,hy⟩:=j5 hs hk;refine⟨_,rfl,A.x,A.dx,_,rfl,e1,rfl,_,rfl,A,w,d,k,v,s,rfl,hw,hi,hs,hy,fun H1 s1=>?_⟩;refine⟨_,rfl,_,_,rfl,rfl,_,rfl,?_⟩;by_cases hl:worth w.nums s.2.1 + s.2.2 < 0
 ·rw[ff hl];have e:fS w.nums w.rows s=some "low":=if_pos hl;have:=q H1 s1;rw[e]at this;exact bI this
 rw[fK hl];have hra:s.1 < A.rs.length:=by rw[hw.rlen]; exact hr1
 have era:=cu hra;have err:=cu hr1;have hw1:=hw.same s1;refine bp ⟨_,rfl,_,rfl,A.x,A.dx,_,rfl,s1 _ _ e1,rfl,_,rfl,A,w,d,k,v,s,A.rs[s.1],rfl,hw1,hi.mono s1.aS,hs,era,fun H2 s2=>?_⟩;refine⟨A.rs[s.1],_,rfl,.inl (a7.of (s2 _ _ (hw1.row s.1 _ _ era err))),_,_,rfl,rfl,_,rfl,?_⟩;have q2:=q H2 (s1.trans s2);have el:((aB w.rows[s.1]).length:Int)=((w.rows[s.1]?.getD []).length:Int):=by rw[err]; unfold aB; rw[cU]; rfl
 by_cases hh:((w.rows[s.1]?.getD []).length:Int)≤worth w.nums s.2.1 + s.2.2
 ·have e:fS w.nums w.rows s=some "high":=(if_neg hl).trans (if_pos hh);rw[e]at q2;rw[fK (show ¬ worth w.nums s.2.1 + s.2.2 < ((aB w.rows[s.1]).length:Int) by rw[el]; omega)];exact bp q2
 ·have e:fS w.nums w.rows s=none:=(if_neg hl).trans (if_neg hh);rw[e]at q2;rw[ff (show worth w.nums s.2.1 + s.2.2 < ((aB w.rows[s.1]).length:Int) by rw[el]; omega)];exact bI q2
inductive ve(K:aW)(C:Addr)(vs:List V)(H:Hp)(Q:VK)(E:XK):Prop|m(A:WA)(w:WS)(d:bT)(k:Nat)(v:V)(_:vs=[.ref A.x,v])(_:WalkAt K H C A w)(_:Is K H (d.line k) v)(_:d.Ok w.nums.length w.rows.length)(_:d.look w.nums w.rows=none)(_:d.name?≠.non)(_:∀ H',gY A.all H H'→bu H H'→WalkAt K H' C A { w with coming:=d.rest w.mem }→Q (.int (d.val w.rows w.mem)) H')
inductive GU(K:aW)(C:Addr)(vs:List V)(H:Hp)(Q:VK)(E:XK):Prop|m(A:WA)(w:WS)(l:Ln)(v:V)(_:vs=[.ref A.x,v])(_:WalkAt K H C A w)(_:Is K H l.D v)(_:((aw Q (fun (d:bT) Q=>aw Q (fun (k:Nat) Q=>l=.deed d k∧d.Ok w.nums.length w.rows.length∧d.look w.nums w.rows=none∧w.heard.length≤900∧ ∀ H',gY A.all H H'→bu H H'→WalkAt K H' C A { w.oW (d.run w.rows w.mem) with rows:=d.rows w.rows w.mem }→Q .non H')))∨(aw Q (fun y Q=>aw Q (fun u Q=>aw Q (fun c Q=>aw Q (fun k Q=>aw Q (fun m Q=>l=.test y u c k m∧Q .non H))))))))
theorem cV{a:Str}{A:Prop}(e:d.word=a)(h:a≠z)(hb:B):if decide (V.str d.word=V.str z)=true then A else B:=by
 rw[fK (fun q=>h (e ▸ (V.str.inj q)))]; exact bp hb
theorem B7{k:Nat}(h:Is K H (d.line k) v):∃ a vs,v=.ref a∧bY K H a (.str d.word::vs)∧IsL K H (d.args++[.int (k:Int)]) vs:=dk (l:=.deed d k) h
theorem si{rows:List (List Int)}(hs:d.slot=some s)(h:d.look nums rows=none):0≤worth nums s.2.1 + s.2.2∧worth nums s.2.1 + s.2.2 < ((rows[s.1]?.getD []).length:Int):=by
 have h':fS nums rows s=none:=by unfold bT.look at h; rw[hs]at h; exact h
 unfold fS at h';split at h'
 ·cases h'
 ·split at h'
  ·cases h'
  ·omega
theorem ni(F:cM K "result" "Walk.result" fV f fd)(W:WC K C)(m_len:mg "len" = none)(c_Walk_worth:ju P w K mg base C "worth" n qQ (mV K C))(c_Walk_row:ju P w K mg base C "row" n jc (xO K C))(c_Walk_place:ju P w K mg base C "place" n jc (jd K C)) :
  bg P w K mg base cH (n + 1) f fd jc (ve K C):=by
 refine F.ok hX (by walk_at "l") (fun cdv A outer s H vs Q E hr h=>?_);obtain⟨A,w,d,k,v,rfl,hw,hi,hok,hlk,hnn,q⟩:=h
 refine⟨_,(@ag _ _ _ _ _ (ba (aE bA (av aA (pv 1) ai) aJ) (ak (az (aR bK (cw (pv 0) c_Walk_worth hr (aa (av aA (pv 1) ai) ae)) (av aA (pv 1) ai)))) aN)
   (@ag _ _ _ _ _ (ba (aE bA (av aA (pv 1) ai) aJ) (ak (az (aR bK (cw (pv 0) c_Walk_worth hr (aa (av aA (pv 1) ai) ae)) (cw (pv 0) c_Walk_worth hr (aa (av aA (pv 1) ai) ae))))) aN)
   (@ag _ _ _ _ _ (ba (aE bA (av aA (pv 1) ai) aJ) (ak (az (bj a8 rfl m_len qi (aa (av aK (cF W.cl W.na_rows (pv 0)) (av aA (pv 1) ai)) ae)))) aN)
   (@ag _ _ _ _ _ (ba (aE bA (av aA (pv 1) ai) aJ) (ak (az (cC (tF (cF W.cl W.na_coming (pv 0)) (fun _=>rfl)) (fJ v9 PySem.F.slot_list_pop PySem.F.type_list_pop Az (cF W.cl W.na_coming (pv 0)) (aa ai ae)) ai))) aN)
   (@ag _ _ _ _ _ (aV (i:=2) hX.nd (cw (pv 0) c_Walk_row hr (aa (pv 1) ae)))
   (ak (az (av aK (pv 2) (cw (pv 0) c_Walk_place hr (aa (pv 1) ae)))))))))),?_⟩
 obtain⟨a,vs,rfl,hq,il⟩:=B7 hi;obtain⟨en,e1,e2⟩:=hw.ins;refine⟨_,rfl,a,_,0,_,rfl,rfl,hq,dW _ _,rfl,_,rfl,?_⟩;cases d with
 | set x y c=>
  obtain⟨r,rfl,i1⟩:=bD il;obtain⟨r,rfl,i2⟩:=jf i1;obtain⟨r,rfl,i3⟩:=bD i2;refine bI ⟨_,rfl,A.x,A.dx,_,rfl,e1,rfl,_,rfl,a,_,2,_,rfl,rfl,hq,at2 _ _ _ _,A,w,y,rfl,hw,hok.2,_,rfl,a,_,3,_,rfl,rfl,hq,Ej _ _ _ _ _,_,_,rfl,rfl,?_⟩;exact q H (gY.refl _ H) (bu.refl H) hw
 | sum x z y=>
  obtain⟨r,rfl,i1⟩:=bD il;obtain⟨r,rfl,i2⟩:=bD i1;obtain⟨r,rfl,i3⟩:=jf i2;refine cV (d:=.sum x z y) (a:="sum") rfl (by decide) ⟨_,rfl,a,_,0,_,rfl,rfl,hq,dW _ _,rfl,_,rfl,bI ?_⟩;refine⟨_,rfl,A.x,A.dx,_,rfl,e1,rfl,_,rfl,a,_,2,_,rfl,rfl,hq,at2 _ _ _ _,A,w,some z,rfl,hw,hok.2.1,_,rfl,A.x,A.dx,_,rfl,e1,rfl,_,rfl,a,_,3,_,rfl,rfl,hq,Ej _ _ _ _ _,A,w,y,rfl,hw,hok.2.2,_,_,rfl,rfl,?_⟩;exact q H (gY.refl _ H) (bu.refl H) hw
 | len x r=>
  obtain⟨r1,rfl,i1⟩:=bD il;obtain⟨r1,rfl,i2⟩:=bD i1;have hr2:r < w.rows.length:=hok.2;have hra:r < A.rs.length:=by rw[hw.rlen]; exact hr2
  have era:=cu hra;have err:=cu hr2;refine cV (d:=.len x r) (a:="len") rfl (by decide) ⟨_,rfl,a,_,0,_,rfl,rfl,hq,dW _ _,rfl,_,rfl,cV (d:=.len x r) (a:="len") rfl (by decide) ⟨_,rfl,a,_,0,_,rfl,rfl,hq,dW _ _,rfl,_,rfl,bI ?_⟩⟩;refine⟨_,rfl,A.x,A.dx,_,_,rfl,e1,rfl,_,rfl,a,_,2,_,rfl,rfl,hq,at2 _ _ _ _,A.ar,_,_,.ref A.rs[r],rfl,rfl,a7.of hw.rows,bf (j:=r) (by rw[lK,era]; rfl),A.rs[r],_,rfl,.inl (a7.of (hw.row r _ _ era err)),?_⟩;have ev:(((aB w.rows[r]).length:Nat):Int)=bT.val w.rows w.mem (.len x r):=by
   show (((w.rows[r]).map V.int).length:Int)=((w.rows[r]?.getD []).length:Int)
   rw[cU,err]; rfl
  rw[ev];exact q H (gY.refl _ H) (bu.refl H) hw
 | take x=>
  refine cV (d:=.take x) (a:="take") rfl (by decide) ⟨_,rfl,a,_,0,_,rfl,rfl,hq,dW _ _,rfl,_,rfl,cV (d:=.take x) (a:="take") rfl (by decide) ⟨_,rfl,a,_,0,_,rfl,rfl,hq,dW _ _,rfl,_,rfl,cV (d:=.take x) (a:="take") rfl (by decide) ⟨_,rfl,a,_,0,_,rfl,rfl,hq,dW _ _,rfl,_,rfl,bI ?_⟩⟩⟩;refine⟨_,rfl,A.x,A.dx,_,_,rfl,e1,rfl,!(aB w.coming).isEmpty,.inl ⟨_,a7.of hw.coming,rfl⟩,?_⟩;cases hc:w.coming with
  | nil=>
   refine bp ?_;have ev:(0:Int)=bT.val w.rows w.mem (.take x):=by show (0:Int)=w.coming.headD 0; rw[hc]; rfl
   have er:w.coming=bT.rest w.mem (.take x):=by show w.coming=w.coming.tail; rw[hc]; rfl
   rw[ev];exact q H (gY.refl _ H) (bu.refl H) (by rw[← er]; exact hw)
  | cons c cs=>
   have hcm:H A.ac=some (.lst (.int c::aB cs)):=by rw[hw.coming,hc]; rfl
   refine bI ⟨_,rfl,A.x,A.dx,_,_,rfl,e1,rfl,.inl ⟨rfl,_,a7.of hcm⟩,A.ac,_,0,0,.int c,rfl,rfl,hcm,by decide,by decide,(by simp[seqIndex?]),rfl,?_⟩;have ev:c=bT.val w.rows w.mem (.take x):=by show c=w.coming.headD 0; rw[hc]; rfl
   have er:cs=bT.rest w.mem (.take x):=by show cs=w.coming.tail; rw[hc]; rfl
   have e0:(V.int c::aB cs).eraseIdx 0=aB cs:=rfl;rw[e0,ev,er];exact q _ (gY.upd (by simp[WA.all])) (bu.lst hw.coming) (hw.zw _)
 | tell x=>exact absurd rfl hnn
 | put r y c z=>exact absurd rfl hnn
 | get x r y c=>
  refine cV (d:=.get x r y c) (a:="get") rfl (by decide) ⟨_,rfl,a,_,0,_,rfl,rfl,hq,dW _ _,rfl,_,rfl,cV (d:=.get x r y c) (a:="get") rfl (by decide) ⟨_,rfl,a,_,0,_,rfl,rfl,hq,dW _ _,rfl,_,rfl,cV (d:=.get x r y c) (a:="get") rfl (by decide) ⟨_,rfl,a,_,0,_,rfl,rfl,hq,dW _ _,rfl,_,rfl,cV (d:=.get x r y c) (a:="get") rfl (by decide) ?_⟩⟩⟩;have hs:(bT.get x r y c).slot=some (r,y,c):=rfl;obtain⟨p0,p1⟩:=si hs hlk;have hr2:r < w.rows.length:=hok.2.1;have hra:r < A.rs.length:=by rw[hw.rlen]; exact hr2
  have era:=cu hra;have err:=cu hr2;refine⟨_,rfl,A.x,A.dx,_,rfl,e1,rfl,_,rfl,A,w,.get x r y c,k,.ref a,(r,y,c),A.rs[r],rfl,hw,hi,hs,era,fun H1 s1=>?_⟩;have hw1:=hw.same s1;refine⟨_,rfl,_,rfl,A.x,A.dx,_,rfl,s1 _ _ e1,rfl,_,rfl,A,w,.get x r y c,k,.ref a,(r,y,c),rfl,hw1,hi.mono s1.aS,hs,hok.2.2,fun H2 s2=>?_⟩;rw[err]at p1;have p0':(0:Int)≤worth w.nums y + c:=p0;have p1':worth w.nums y + c < (w.rows[r].length:Int):=p1;obtain⟨pp,epp,hpp⟩:∃ pp:Nat,worth w.nums y + c=(pp:Int)∧pp < w.rows[r].length:=⟨(worth w.nums y + c).toNat,by omega,by omega⟩
  have ev:(w.rows[r])[pp]?.getD 0=bT.val w.rows w.mem (.get x r y c):=by
   show _=(w.rows[r]?.getD [])[(worth w.nums y + c).toNat]?.getD 0;rw[epp,err,m8]; rfl
  refine⟨A.rs[r],_,_,_,rfl,rfl,a7.of (s2 _ _ (hw1.row r _ _ era err)),(by show me _ (worth w.nums y + c)=_; rw[epp]; exact bf (cD hpp)),?_⟩;rw[ev];exact q H2 (gY.of_same (s1.trans s2)) (s1.trans s2).aS (hw1.same s2)
theorem WalkAt.Br{w:WS}(_:WalkAt K H C A w){l:List Int}:(aB l).length=l.length:=by unfold aB; rw[cU]
theorem vO(F:cM K "do" "Walk.do" lE f fd)(W:WC K C)(c_gives:Cl P w K mg base "gives" n qC (mY K))(c_Walk_result:ju P w K mg base C "result" n jc (ve K C))(c_Walk_row:ju P w K mg base C "row" n jc (xO K C))(c_Walk_place:ju P w K mg base C "place" n jc (jd K C)) :
  bg P w K mg base cH (n + 1) f fd jc (GU K C):=by
 refine F.ok jH (by walk_at "l") (fun cdv A outer s H vs Q E hr h=>?_);obtain⟨A,w,l,v,rfl,hw,hi,h⟩:=h
 refine⟨_,(@ag _ _ _ _ _ (aV (i:=2) jH.nd (aC c_gives hr rfl (aa (pv 1) ae)))
   (ak (ba (aE gp (pv 2) cJ) (ak (jM (cw (pv 0) c_Walk_result hr (aa (pv 1) ae)) (sD (cF W.cl W.na_numbers (pv 0)) (pv 2) set_list))) (ak (ba (aE bA (av aA (pv 1) ai) aJ) (@ag _ _ _ _ _ (aV (i:=3) jH.nd (cw (pv 0) c_Walk_row hr (aa (pv 1) ae)))
   (ak (jM (av aK (cF W.cl W.na_numbers (pv 0)) (av aA (pv 1) ai)) (sD (pv 3) (cw (pv 0) c_Walk_place hr (aa (pv 1) ae)) set_list)))) (ak (ba (aE bA (av aA (pv 1) ai) aJ) (ak (bZ (fJ v9 Cp Cv cE (cF W.cl W.na_heard (pv 0)) (aa (av aK (cF W.cl W.na_numbers (pv 0)) (av aA (pv 1) ai)) ae)))) aN))))))),?_⟩
 refine⟨_,rfl,l,v,rfl,hi,?_⟩;rcases h with ⟨d,k,rfl,hok,hlk,h900,q⟩ | ⟨y,u,c,k,m,rfl,q⟩
 rotate_left
 ·obtain⟨a,vs,rfl,hq,il⟩:=dk hi;exact⟨_,rfl,rfl,_,rfl,bp ⟨_,rfl,a,_,0,_,rfl,rfl,hq,dW _ _,rfl,_,rfl,bp ⟨_,rfl,a,_,0,_,rfl,rfl,hq,dW _ _,rfl,_,rfl,bp q⟩⟩⟩
 obtain⟨en,e1,e2⟩:=hw.ins;have main:∀ (x:Nat),x < w.nums.length→d.name?=.int (x:Int)→d.rows w.rows w.mem=w.rows→d.run w.rows w.mem=⟨w.nums.set x (d.val w.rows w.mem),d.rest w.mem,w.heard⟩→∀ H1,gY A.all H H1→bu H H1→WalkAt K H1 C A { w with coming:=d.rest w.mem }→
   (∃ l,H1 A.an=some (.lst l)∧l=aB w.nums∧Ai l.length (x:Int)=some x)∧Q .non (upd H1 A.an (.lst ((aB w.nums).set x (.int (d.val w.rows w.mem))))):=by
  intro x hx hnm hrw hrun H1 b1 t1 hw1;refine⟨⟨_,hw1.nums,rfl,by unfold aB; rw[cU]; exact rG hx⟩,?_⟩;rw[ints_set];refine q _ (b1.trans (gY.upd (by simp[WA.all]))) (t1.trans (bu.lst hw1.nums)) ?_;have:=hw1.Di (w.nums.set x (d.val w.rows w.mem));rw[hrun,hrw];exact this
 cases d with
 | tell x=>
  obtain⟨a,vs,rfl,hq,il⟩:=dk hi;obtain⟨r,rfl,il⟩:=bD il;have hx:x < w.nums.length:=hok;refine⟨_,rfl,rfl,_,rfl,bp ?_⟩;refine⟨_,rfl,a,_,0,_,rfl,rfl,hq,dW _ _,rfl,_,rfl,cV (d:=.tell x) (a:="tell") rfl (by decide) ⟨_,rfl,a,_,0,_,rfl,rfl,hq,dW _ _,rfl,_,rfl,bI ?_⟩⟩;refine⟨_,rfl,A.x,A.dx,_,_,rfl,e1,rfl,.inl ⟨rfl,_,a7.of hw.heard⟩,_,rfl,A.x,A.dx,_,_,rfl,e1,rfl,_,rfl,a,_,1,_,rfl,rfl,hq,jO _ _ _,A.an,_,_,_,rfl,rfl,a7.of hw.nums,bf (cD hx),A.ah,_,_,rfl,rfl,hw.heard,aO (by unfold aB; rw[cU]; omega),?_⟩;have eh:aB w.heard++[V.int (w.nums[x]?.getD 0)]=aB (w.heard++[w.nums[x]?.getD 0]):=by unfold aB; rw[je]; rfl
  rw[eh];exact q _ (gY.upd (by simp[WA.all])) (bu.lst hw.heard) (hw.Cf _)
 | set x y c=>
  refine⟨_,rfl,rfl,_,rfl,bI ⟨_,rfl,A.x,A.dx,_,rfl,e1,rfl,_,rfl,A,w,.set x y c,k,v,rfl,hw,hi,hok,hlk,(fun z=>by cases z),fun H1 b1 t1 hw1=>?_⟩⟩;obtain⟨⟨l,g1,rfl,g2⟩,g3⟩:=main x hok.1 rfl rfl rfl H1 b1 t1 hw1;obtain⟨en1,e11,_⟩:=hw1.ins;exact⟨_,rfl,A.x,A.dx,_,_,rfl,e11,rfl,_,rfl,A.an,_,_,x,rfl,rfl,g1,g2,g3⟩
 | sum x z y=>
  refine⟨_,rfl,rfl,_,rfl,bI ⟨_,rfl,A.x,A.dx,_,rfl,e1,rfl,_,rfl,A,w,.sum x z y,k,v,rfl,hw,hi,hok,hlk,(fun z=>by cases z),fun H1 b1 t1 hw1=>?_⟩⟩;obtain⟨⟨l,g1,rfl,g2⟩,g3⟩:=main x hok.1 rfl rfl rfl H1 b1 t1 hw1;obtain⟨en1,e11,_⟩:=hw1.ins;exact⟨_,rfl,A.x,A.dx,_,_,rfl,e11,rfl,_,rfl,A.an,_,_,x,rfl,rfl,g1,g2,g3⟩
 | len x r=>
  refine⟨_,rfl,rfl,_,rfl,bI ⟨_,rfl,A.x,A.dx,_,rfl,e1,rfl,_,rfl,A,w,.len x r,k,v,rfl,hw,hi,hok,hlk,(fun z=>by cases z),fun H1 b1 t1 hw1=>?_⟩⟩;obtain⟨⟨l,g1,rfl,g2⟩,g3⟩:=main x hok.1 rfl rfl rfl H1 b1 t1 hw1;obtain⟨en1,e11,_⟩:=hw1.ins;exact⟨_,rfl,A.x,A.dx,_,_,rfl,e11,rfl,_,rfl,A.an,_,_,x,rfl,rfl,g1,g2,g3⟩
 | take x=>
  refine⟨_,rfl,rfl,_,rfl,bI ⟨_,rfl,A.x,A.dx,_,rfl,e1,rfl,_,rfl,A,w,.take x,k,v,rfl,hw,hi,hok,hlk,(fun z=>by cases z),fun H1 b1 t1 hw1=>?_⟩⟩;obtain⟨⟨l,g1,rfl,g2⟩,g3⟩:=main x hok rfl rfl rfl H1 b1 t1 hw1;obtain⟨en1,e11,_⟩:=hw1.ins;exact⟨_,rfl,A.x,A.dx,_,_,rfl,e11,rfl,_,rfl,A.an,_,_,x,rfl,rfl,g1,g2,g3⟩
 | get x r y c=>
  refine⟨_,rfl,rfl,_,rfl,bI ⟨_,rfl,A.x,A.dx,_,rfl,e1,rfl,_,rfl,A,w,.get x r y c,k,v,rfl,hw,hi,hok,hlk,(fun z=>by cases z),fun H1 b1 t1 hw1=>?_⟩⟩;obtain⟨⟨l,g1,rfl,g2⟩,g3⟩:=main x hok.1 rfl rfl rfl H1 b1 t1 hw1;obtain⟨en1,e11,_⟩:=hw1.ins;exact⟨_,rfl,A.x,A.dx,_,_,rfl,e11,rfl,_,rfl,A.an,_,_,x,rfl,rfl,g1,g2,g3⟩
 | put r y c z=>
  obtain⟨a,vs,rfl,hq,il⟩:=dk hi;obtain⟨r1,rfl,i1⟩:=bD il;obtain⟨r2,rfl,i2⟩:=jf i1;obtain⟨r3,rfl,i3⟩:=bD i2;obtain⟨r4,rfl,i4⟩:=bD i3;have hs:(bT.put r y c z).slot=some (r,y,c):=rfl;obtain⟨p0,p1⟩:=si hs hlk;have hr2:r < w.rows.length:=hok.1;have hra:r < A.rs.length:=by rw[hw.rlen]; exact hr2
  have era:=cu hra;have err:=cu hr2;rw[err]at p1;have p0':(0:Int)≤worth w.nums y + c:=p0;have p1':worth w.nums y + c < (w.rows[r].length:Int):=p1;obtain⟨pp,epp,hpp⟩:∃ pp:Nat,worth w.nums y + c=(pp:Int)∧pp < w.rows[r].length:=⟨(worth w.nums y + c).toNat,by omega,by omega⟩
  have hz:z < w.nums.length:=hok.2.2;refine⟨_,rfl,rfl,_,rfl,bp ⟨_,rfl,a,_,0,_,rfl,rfl,hq,dW _ _,rfl,_,rfl,bI ?_⟩⟩;refine⟨_,rfl,A.x,A.dx,_,rfl,e1,rfl,_,rfl,A,w,.put r y c z,k,.ref a,(r,y,c),A.rs[r],rfl,hw,hi,hs,era,fun H1 s1=>?_⟩;have hw1:=hw.same s1;have hq1:=s1.aS.sq hq;refine⟨_,rfl,A.x,A.dx,_,_,rfl,s1 _ _ e1,rfl,_,rfl,a,_,4,_,rfl,rfl,hq1,Jq _ _ _ _ _ _,A.an,_,_,_,rfl,rfl,a7.of hw1.nums,bf (cD hz),?_⟩;refine⟨_,rfl,_,rfl,A.x,A.dx,_,rfl,s1 _ _ e1,rfl,_,rfl,A,w,.put r y c z,k,.ref a,(r,y,c),rfl,hw1,hi.mono s1.aS,hs,hok.2.1,fun H2 s2=>?_⟩;have hw2:=hw1.same s2;refine⟨A.rs[r],_,_,pp,rfl,rfl,hw2.row r _ _ era err,(by show Ai _ (worth w.nums y + c)=_; rw[epp,hw.Br]; exact rG hpp),?_⟩;rw[ints_set];have hset:=hw2.E4 era err (w.rows[r].set pp (w.nums[z]?.getD 0));have er:bT.rows w.rows w.mem (.put r y c z)=w.rows.set r (w.rows[r].set pp (w.nums[z]?.getD 0)):=by
   show w.rows.set r ((w.rows[r]?.getD []).set (worth w.nums y + c).toNat (worth w.nums (some z)))=_;rw[epp,err,m8]; rfl
  refine q _ ((gY.of_same (s1.trans s2)).trans (gY.upd (by simp[WA.all,gh era]))) ((s1.trans s2).aS.trans (bu.lst (hw2.row r _ _ era err))) ?_;rw[er];exact hset
abbrev fW:Stmt:=(inClass (top 34) 5)
abbrev eD:Stmt:=(inClass (top 34) 4)
abbrev ig:Stmt:=(inClass (top 34) 1)
abbrev gw:Stmt:=(inClass (top 34) 3)
theorem iI:aF ["self","line","look"] jc (ao fW):=by walk_at "k"
theorem kr:aF vw vw (ao eD):=by walk_at "k"
theorem gJ:aF ["self","line","word"] vw (ao ig):=by walk_at "k"
theorem pQ:aF vw vw (ao gw):=by walk_at "k"
noncomputable def Ln.calm:Ln→Prop
 | .ask ..=>False
 | _=>True
inductive Pass (ls:List Ln) (nums:List Int) (rows:List (List Int)):Nat→Nat→Nat→Prop
 | here {i:Nat} {l:Ln}:ls[i]?=some l→l.calm→Pass ls nums rows 0 i i
 | go {n i j:Nat} {bs:List Bd} {k m:Nat}:ls[i]?=some (.ask bs k m)→Pass ls nums rows n ((Ln.ask bs k m).next nums rows) j→Pass ls nums rows (n + 1) i j
def Am(ls:List Ln)(nm rw:Nat):Prop:=∀ l∈ls,l.Ok nm rw ls.length
noncomputable def Ln.look(nums:List Int)(rows:List (List Int)):Ln→Option Str
 | .deed d _=>d.look nums rows
 | _=>none
noncomputable def Ln.dM(w:WS)(l:Ln):Option Str:=match l with
 | .stop=>some ("end":Str)
 | l=>match l.look w.nums w.rows with
  | some z=>some z
  | none=>if w.budget≤w.done then some ("spent":Str) else none
inductive tQ(K:aW)(C:Addr)(vs:List V)(H:Hp)(Q:VK)(E:XK):Prop|m(A:WA)(w:WS)(l:Ln)(nl:Nat)(v:V)(_:vs=[.ref A.x,v])(_:WalkAt K H C A w)(_:Is K H l.D v)(_:l.Ok w.nums.length w.rows.length nl)(_:∀ H',aD H H'→Q (yn (l.dM w)) H')
inductive BI(K:aW)(C:Addr)(vs:List V)(H:Hp)(Q:VK)(E:XK):Prop|m(A:WA)(w:WS)(ls:List Ln)(n j:Nat)(_:vs=[.ref A.x])(_:WalkAt K H C A w)(_:w.ds=ls.map Ln.D)(_:Am ls w.nums.length w.rows.length)(_:Pass ls w.nums w.rows n w.at_ j)(_:∀ H',gY A.all H H'→bu H H'→WalkAt K H' C A { w with at_:=j }→Q .non H')
noncomputable def Ln.run(rows:List (List Int))(m:Mem):Ln→Mem
 | .deed d _=>d.run rows m
 | _=>m
noncomputable def Ln.rows(rows:List (List Int))(m:Mem):Ln→List (List Int)
 | .deed d _=>d.rows rows m
 | _=>rows
noncomputable def WS.next(w:WS)(j:Nat)(l:Ln):WS:=match l.dM w with
 | some z=>{ w with at_:=j,ended:=some (z,j) }
 | none=>{ w.oW (l.run w.rows w.mem) with rows:=l.rows w.rows w.mem,at_:=l.next w.nums w.rows,done:=w.done + 1 }
structure Em (w:WS):Prop where
 rows:w.rows.length≤100
 row:∀ r∈w.rows,r.length≤1000
 heard:w.heard.length≤900
 nums:w.nums.length≤100
inductive Aw(K:aW)(C:Addr)(vs:List V)(H:Hp)(Q:VK)(E:XK):Prop|m(A:WA)(w:WS)(_:vs=[.ref A.x])(_:WalkAt K H C A w)(_:((w.ended≠none∧Q .non H)∨ aw Q (fun (ls:List Ln) Q=>aw Q (fun (n:Nat) Q=>aw Q (fun (j:Nat) Q=>aw Q (fun (l:Ln) Q=>w.ended=none∧w.ds=ls.map Ln.D∧Am ls w.nums.length w.rows.length∧Pass ls w.nums w.rows n w.at_ j∧ls[j]?=some l∧l.calm∧Em w∧∀ H',gY A.all H H'→bu H H'→WalkAt K H' C A (w.next j l)→Q .non H'))))))
inductive xX(K:aW)(C:Addr)(vs:List V)(H:Hp)(Q:VK)(E:XK):Prop|m(A:WA)(w:WS)(_:vs=[.ref A.x])(_:WalkAt K H C A w)(_:∀ H' t l1,aD H H'→H' t=some (.tup [.int (w.at_:Int),.ref l1])→H' l1=some (.lst (aB w.nums))→H l1=none→Q (.ref t) H')
theorem oN(F:cM K "ending" "Walk.ending" fW f fd)(W:WC K C)(c_is_place:Cl P w K mg base "is_place" n qC (rC K))(c_Walk_failed_look:ju P w K mg base C "failed_look" n jc (tU K C)) :
  bg P w K mg base cH (n + 1) f fd jc (tQ K C):=by
 refine F.ok iI (by walk_at "l") (fun cdv A outer s H vs Q E hr h=>?_);obtain⟨A,w,l,nl,v,rfl,hw,hi,hok,q⟩:=h
 refine⟨_,(@ag _ _ _ _ _ (ba (aE bA (av aA (pv 1) ai) aJ) (ak (az aJ)) aN)
   (@ag _ _ _ _ _ (ba (dH (aC c_is_place hr rfl (aa (pv 1) ae))) (@ag _ _ _ _ _ (aV (i:=2) iI.nd (cw (pv 0) c_Walk_failed_look hr (aa (pv 1) ae)))
   (ak (ba (aE gp (pv 2) cJ) (ak (az (pv 2))) aN))) aN)
   (ak (az (cC (aE BB (cF W.cl W.na_done (pv 0)) (cF W.cl W.na_budget (pv 0))) aJ cJ))))),?_⟩
 obtain⟨en,e1,e2⟩:=hw.ins;obtain⟨a,vs,rfl,hq,il⟩:=dk hi;refine⟨_,rfl,a,_,0,_,rfl,rfl,hq,dW _ _,rfl,_,rfl,?_⟩;by_cases hs:l=.stop
 ·subst hs;exact bI (q H (aD.refl H))
 have hn:l.word≠"end":=by
  cases l with
  | deed d k=>exact jT (by decide)
  | test y u c k m=>exact (by decide:("test":Str)≠"end")
  | ask bs k m=>exact (by decide:("ask":Str)≠"end")
  | stop=>exact absurd rfl hs
 rw[fK (show ¬ V.str l.word=V.str "end" from fun z=>hn (V.str.inj z))];refine bp ⟨_,rfl,l,.ref a,rfl,hi,_,rfl,?_⟩;cases hp:l.isPlace with
 | false=>
  have hlk:l.look w.nums w.rows=none:=by
   cases l with
   | deed d k=>
    have:d.slot.isSome=false:=hp;show d.look w.nums w.rows=none;unfold bT.look;cases e:d.slot with
    | none=>rfl
    | some s=>rw[e]at this; cases this
   | _=>rfl
  have hq2:l.dM w=if w.budget≤w.done then some ("spent":Str) else none:=by
   cases l with
   | stop=>exact absurd rfl hs
   | deed d k=>show (match d.look w.nums w.rows with | some z=>some z | none=>_)=_; rw[show d.look w.nums w.rows=none from hlk]
   | test y u c k m=>rfl
   | ask bs k m=>rfl
  rw[hq2]at q;refine bp ?_;refine⟨_,rfl,A.x,A.dx,_,_,rfl,e1,rfl,_,rfl,A.x,A.dx,_,_,rfl,e1,rfl,_,_,rfl,rfl,_,rfl,?_⟩;have q0:=q H (aD.refl H);by_cases hb:w.budget≤w.done
  ·rw[ff hb];rw[if_pos hb]at q0;exact bI q0
  ·rw[fK hb];rw[if_neg hb]at q0;exact bp q0
 | true=>
  cases l with
  | test y u c k m=>cases hp
  | ask bs k m=>cases hp
  | stop=>cases hp
  | deed d k=>
   have hp':d.slot.isSome=true:=hp;obtain⟨s,es⟩:=Option.isSome_iff_exists.mp hp';have hq2:(Ln.deed d k).dM w=match fS w.nums w.rows s with | some z=>some z | none=>if w.budget≤w.done then some ("spent":Str) else none:=by
    show (match d.look w.nums w.rows with | some z=>some z | none=>_)=_;have:d.look w.nums w.rows=fS w.nums w.rows s:=by unfold bT.look; rw[es]
    rw[this]
   rw[hq2]at q;refine bI ⟨_,rfl,A.x,A.dx,_,rfl,e1,rfl,_,rfl,A,w,d,k,.ref a,s,rfl,hw,hi,es,hok.1,fun H1 s1=>?_⟩;have q1:=q H1 s1;refine⟨_,rfl,rfl,_,rfl,?_⟩;cases e:fS w.nums w.rows s with
   | some z=>
    rw[e]at q1;exact bI ⟨_,rfl,q1⟩
   | none=>
    rw[e]at q1;have e11:=s1 _ _ e1;refine bp ⟨_,rfl,A.x,A.dx,_,_,rfl,e11,rfl,_,rfl,A.x,A.dx,_,_,rfl,e11,rfl,_,_,rfl,rfl,_,rfl,?_⟩;by_cases hb:w.budget≤w.done
    ·rw[ff hb];have q2:Q (yn (if w.budget≤w.done then some ("spent":Str) else none)) H1:=q1;rw[if_pos hb]at q2;exact bI q2
    ·rw[fK hb];have q2:Q (yn (if w.budget≤w.done then some ("spent":Str) else none)) H1:=q1;rw[if_neg hb]at q2;exact bp q2
theorem sJ{w:WS}(hw:WalkAt K H C A w)(hd:w.ds=ls.map Ln.D)(hl:ls[i]?=some l):∃ xs v,H A.al=some (.lst xs)∧me xs (i:Int)=some v∧Is K H l.D v:=by
 obtain⟨xs,l1,l2⟩:=hw.lines;rw[hd]at l2;obtain⟨v,ev,iv⟩:=l2.get (j:=i) (d:=l.D) (by rw[lK,hl]; rfl);exact⟨xs,v,l1,bf ev,iv⟩
theorem rp(h:l.calm):l.word≠"ask":=by
 cases l with
 | deed d k=>exact jT (by decide)
 | test y u c k m=>exact (by decide:("test":Str)≠"ask")
 | ask bs k m=>exact h.elim
 | stop=>exact (by decide:("end":Str)≠"ask")
theorem kH(F:cM K "pass_asks" "Walk.pass_asks" eD f fd)(W:WC K C)(c_is_ask:Cl P w K mg base "is_ask" n qC (mR K))(c_Walk_go_on:ju P w K mg base C "go_on" n jc (vI K C)):bg P w K mg base cH (n + 1) f fd vw (BI K C):=by
 refine F.ok kr (by walk_at "l") (fun cdv A outer s H vs Q E hr h=>?_);obtain⟨A,w,ls,n,j,rfl,hw,hds,hok,hp,q⟩:=h;refine⟨_,(ak (gi mO (dH (aC c_is_ask hr rfl (aa (av aK (cF W.cl W.na_lines (pv 0)) (cF W.cl W.na_at (pv 0))) ae))) (ak (bZ (cw (pv 0) c_Walk_go_on hr (aa (av aK (cF W.cl W.na_lines (pv 0)) (cF W.cl W.na_at (pv 0))) ae)))))),?_⟩;refine⟨fun m σ H'=>σ=[some (.ref A.x)]∧∃ i,Pass ls w.nums w.rows m i j∧gY A.all H H'∧bu H H'∧WalkAt K H' C A { w with at_:=i },⟨n,rfl,w.at_,hp,gY.refl _ _,(aD.refl H).aS,hw⟩,fun m σ H' h=>?_⟩;obtain⟨rfl,i,hp,bb,tt,hw'⟩:=h;obtain⟨en,e1,e2⟩:=hw'.ins;cases hp with
 | here hl hc=>
  rename_i l;obtain⟨xs,v,l1,ev,iv⟩:=sJ hw' hds hl;refine⟨_,rfl,A.x,A.dx,_,_,rfl,e1,rfl,_,rfl,A.x,A.dx,_,_,rfl,e1,rfl,A.al,xs,_,v,rfl,rfl,a7.of l1,ev,v,l.word,l.args,rfl,iv,_,rfl,?_⟩;rw[fK (rp hc)];exact bp (q _ bb tt hw')
 | go hl hp2=>
  rename_i n2 bs k m2;obtain⟨xs,v,l1,ev,iv⟩:=sJ hw' hds hl;refine⟨_,rfl,A.x,A.dx,_,_,rfl,e1,rfl,_,rfl,A.x,A.dx,_,_,rfl,e1,rfl,A.al,xs,_,v,rfl,rfl,a7.of l1,ev,v, "ask",(Ln.ask bs k m2).args,rfl,iv,_,rfl,bI ?_⟩;refine⟨fun σ' H2=>σ'=[some (.ref A.x)]∧∃ i,Pass ls w.nums w.rows n2 i j∧gY A.all H H2∧bu H H2∧WalkAt K H2 C A { w with at_:=i },fun σ' H2 h=>⟨n2,Nat.lt_succ_self _,h⟩,?_⟩;refine⟨_,rfl,A.x,A.dx,_,rfl,e1,rfl,_,rfl,A.x,A.dx,_,_,rfl,e1,rfl,_,rfl,A.x,A.dx,_,_,rfl,e1,rfl,A.al,xs,_,v,rfl,rfl,a7.of l1,ev,A,_,.ask bs k m2,ls.length,v,rfl,hw',iv,hok _ (gh hl),(fun z=>by cases z),fun H2 b2 t2 hw2=>?_⟩;exact⟨rfl,_,hp2,bb.trans b2,tt.trans t2,hw2⟩
theorem sL(F:cM K "step" "Walk.step" ig f fd)(W:WC K C)(c_Walk_pass_asks:ju P w K mg base C "pass_asks" n vw (BI K C))(c_Walk_ending:ju P w K mg base C "ending" n jc (tQ K C))(c_Walk_do:ju P w K mg base C "do" n jc (GU K C))
  (c_Walk_go_on:ju P w K mg base C "go_on" n jc (vI K C)):bg P w K mg base cH (n + 1) f fd vw (Aw K C):=by
 refine F.ok gJ (by walk_at "l") (fun cdv A outer s H vs Q E hr h=>?_);obtain⟨A,w,rfl,hw,h⟩:=h
 refine⟨_,(@ag _ _ _ _ _ (ba (aE gp (cF W.cl W.na_ended (pv 0)) cJ) (ak xN) aN)
   (@ag _ _ _ _ _ (bZ (iR (pv 0) c_Walk_pass_asks hr))
   (@ag _ _ _ _ _ (aV (i:=1) gJ.nd (av aK (cF W.cl W.na_lines (pv 0)) (cF W.cl W.na_at (pv 0))))
   (@ag _ _ _ _ _ (aV (i:=2) gJ.nd (cw (pv 0) c_Walk_ending hr (aa (pv 1) ae)))
   (@ag _ _ _ _ _ (ba (aE gp (pv 2) cJ) (@ag _ _ _ _ _ (iN W.cl W.na_ended (pv 0) (aY (aa (pv 2) (aa (cF W.cl W.na_at (pv 0)) ae))))
   (ak xN)) aN)
   (@ag _ _ _ _ _ (bZ (cw (pv 0) c_Walk_do hr (aa (pv 1) ae)))
   (@ag _ _ _ _ _ (bZ (cw (pv 0) c_Walk_go_on hr (aa (pv 1) ae)))
   (ak (As W.cl W.na_done (pv 0) ai DI))))))))),?_⟩
 obtain⟨en,e1,e2⟩:=hw.ins;refine⟨_,rfl,A.x,A.dx,_,_,rfl,e1,rfl,rfl,_,rfl,?_⟩;rcases h with ⟨hne,q⟩ | ⟨ls,n1,j,l,hn,hds,hok,hp,hl,hc,hz,q⟩
 ·unfold eU at e2;split at e2
  ·exact absurd (by assumption) hne
  ·obtain⟨te,rfl,_⟩:=e2;exact bI q
 have en0:en=.non:=by rw[hn]at e2; exact e2
 subst en0;refine bp ⟨_,rfl,A.x,A.dx,_,rfl,e1,rfl,A,w,ls,n1,j,rfl,hw,hds,hok,hp,fun H0 b0 t0 hw0=>?_⟩;obtain⟨en0,e10,e20⟩:=hw0.ins;have en0':en0=.non:=by have:=e20; rw[show ({ w with at_:=j }:WS).ended=none from hn]at this; exact this
 subst en0';obtain⟨xs,v,l1,ev,iv⟩:=sJ hw0 hds hl;refine⟨_,rfl,A.x,A.dx,_,_,rfl,e10,rfl,_,rfl,A.x,A.dx,_,_,rfl,e10,rfl,A.al,xs,_,v,rfl,rfl,a7.of l1,ev,?_⟩;have oka:=hok _ (gh hl);refine⟨_,rfl,A.x,A.dx,_,rfl,e10,rfl,_,rfl,A,{ w with at_:=j },l,ls.length,v,rfl,hw0,iv,oka,fun HX sX=>?_⟩;have hwX:=hw0.same sX;have e1X:=sX _ _ e10;have ivX:=iv.mono sX.aS;have bX:=b0.trans (gY.of_same (S:=A.all) sX);have tX:=t0.trans sX.aS;clear hw0 e10 iv b0 t0;have hending:l.dM { w with at_:=j }=l.dM w:=by cases l <;> rfl
 rw[hending];cases hst:l.dM w with
 | none=>
  have hnx:w.next j l={ w.oW (l.run w.rows w.mem) with rows:=l.rows w.rows w.mem,at_:=l.next w.nums w.rows,done:=w.done + 1 }:=by unfold WS.next; rw[hst]
  rw[hnx]at q;refine⟨_,rfl,rfl,_,rfl,bp ?_⟩;cases l with
  | stop=>cases hst
  | ask bs k m=>exact hc.elim
  | deed d k=>
   have hlk:d.look w.nums w.rows=none:=by
    cases e:d.look w.nums w.rows with
    | none=>rfl
    | some z=>
     have:(Ln.deed d k).dM w=some z:=by show (match d.look w.nums w.rows with | some z=>some z | none=>_)=_; rw[e]
     rw[this]at hst; cases hst
   refine⟨_,rfl,A.x,A.dx,_,rfl,e1X,rfl,_,rfl,A,{ w with at_:=j },.deed d k,v,rfl,hwX,ivX,.inl ⟨d,k,rfl,oka.1,hlk,hz.heard,fun H1 b1 t1 hw1=>?_⟩⟩;obtain⟨en1,e11,e21⟩:=hw1.ins;have ok1:(Ln.deed d k).Ok (d.run w.rows w.mem).nums.length (d.rows w.rows w.mem).length ls.length:=by
    have e:(d.run w.rows w.mem).nums.length=w.nums.length:=by cases d <;> simp[bT.run,WS.mem]
    have e':(d.rows w.rows w.mem).length=w.rows.length:=by cases d <;> simp[bT.rows]
    rw[e,e']; exact oka
   refine⟨_,rfl,A.x,A.dx,_,rfl,e11,rfl,_,rfl,A,_,.deed d k,ls.length,v,rfl,hw1,ivX.mono t1,ok1,(fun z=>by cases z),fun H2 b2 t2 hw2=>?_⟩;obtain⟨en2,e12,e22⟩:=hw2.ins;refine⟨_,rfl,A.x,A.dx,_,_,rfl,e12,rfl,_,_,rfl,rfl,A.dx,_,e12,(by show 9 < 1000; decide),?_⟩;exact q _ (bX.trans (b1.trans (b2.trans (gY.upd (by simp[WA.all]))))) (tX.trans (t1.trans (t2.trans (iC e12)))) (hw2.CU (at2:=k) (dn:=w.done + 1) (e2:=w.ended) e22)
  | test y u c k m=>
   refine⟨_,rfl,A.x,A.dx,_,rfl,e1X,rfl,_,rfl,A,{ w with at_:=j },.test y u c k m,v,rfl,hwX,ivX,.inr ⟨y,u,c,k,m,rfl,?_⟩⟩;refine⟨_,rfl,A.x,A.dx,_,rfl,e1X,rfl,_,rfl,A,_,.test y u c k m,ls.length,v,rfl,hwX,ivX,oka,(fun z=>by cases z),fun H2 b2 t2 hw2=>?_⟩;obtain⟨en2,e12,e22⟩:=hw2.ins;refine⟨_,rfl,A.x,A.dx,_,_,rfl,e12,rfl,_,_,rfl,rfl,A.dx,_,e12,(by show 9 < 1000; decide),?_⟩;exact q _ (bX.trans (b2.trans (gY.upd (by simp[WA.all])))) (tX.trans (t2.trans (iC e12))) (hw2.CU (at2:=(Ln.test y u c k m).next w.nums w.rows) (dn:=w.done + 1) (e2:=w.ended) e22)
 | some z=>
  have hnx:w.next j l={ w with at_:=j,ended:=some (z,j) }:=by unfold WS.next; rw[hst]
  rw[hnx]at q;refine⟨_,rfl,rfl,_,rfl,bI ?_⟩;refine⟨_,rfl,_,rfl,A.x,A.dx,_,_,rfl,e1X,rfl,bQ rfl,fun te nte=>?_⟩;have s1:=aj nte (.tup [.str z,.int (j:Int)]);have hw1:=hwX.same s1;have e11:=s1 _ _ e1X;refine⟨_,rfl,A.x,A.dx,_,rfl,e11,(by show 9 < 1000; decide),?_⟩;exact q _ (bX.trans ((gY.of_same s1).trans (gY.upd (by simp[WA.all])))) (tX.trans (s1.aS.trans (iC e11))) (hw1.CU (at2:=j) (dn:=w.done) (e2:=some (z,j)) ⟨te,rfl,af⟩)
theorem pI(F:cM K "frame" "Walk.frame" gw f fd)(W:WC K C)(m_list:mg "list" = none):bg P w K mg base cH (n + 1) f fd vw (xX K C):=by
 refine F.ok pQ (by walk_at "l") (fun cdv A outer s H vs Q E hr h=>?_);obtain⟨A,w,rfl,hw,q⟩:=h;refine⟨_,(ak (az (aY (aa (cF W.cl W.na_at (pv 0)) (aa (bw dg rfl m_list C7 (aa (cF W.cl W.na_numbers (pv 0)) ae)) ae))))),?_⟩;obtain⟨en,e1,e2⟩:=hw.ins;refine⟨_,rfl,A.x,A.dx,_,_,rfl,e1,rfl,_,rfl,A.x,A.dx,_,_,rfl,e1,rfl,A.an,_,rfl,.inl (a7.of hw.nums),fun l1 n1=>⟨bQ rfl,fun t nt=>?_⟩⟩;have s1:=aj n1 (.lst (aB w.nums));have s2:=aj nt (.tup [.int (w.at_:Int),.ref l1]);exact q _ t l1 (s1.trans s2) af (s2 _ _ af) n1
abbrev fL:Stmt:=(inClass (top 34) 2)
abbrev fO:Stmt:=(inClass (top 34) 0)
theorem su:aF vw vw (ao fL):=by walk_at "k"
theorem sU:aF GH GH (ao fO):=by walk_at "k"
structure fD (H:Hp) (a:Addr) (rs:List Addr) (rows:List (List Int)):Prop where
 top:H a=some (.lst (rs.map V.ref))
 len:rs.length=rows.length
 row:∀ (i:Nat) b r,rs[i]?=some b→rows[i]?=some r→H b=some (.lst (aB r))
 nd:(a::rs).Nodup
def rB(K:aW)(H:Hp)(a:Addr)(rows:List (List Int)):Prop:=∃ vs,a7 K H a vs∧vs.length=rows.length∧∀ (i:Nat) v r,vs[i]?=some v→rows[i]?=some r→∃ b,v=.ref b∧a7 K H b (aB r)
theorem fD.src{K:aW}{a:Addr}{rs:List Addr}{rows:List (List Int)}(h:fD H a rs rows):rB K H a rows:=
 ⟨_,a7.of h.top,by rw[cU,h.len],fun i v r e f=>by
  rw[lK]at e;obtain⟨b,hb,rfl⟩:=Ed.mp e
  exact⟨b,rfl,a7.of (h.row i b r hb f)⟩⟩
theorem fD.same{a:Addr}{rs:List Addr}{rows:List (List Int)}(h:fD H a rs rows)(s:aD H H'):fD H' a rs rows:=⟨s _ _ h.top,h.len,fun i b r e f=>s _ _ (h.row i b r e f),h.nd⟩
theorem WalkAt.EJ{K:aW}{w:WS}(h:WalkAt K H C A w):fD H A.ar A.rs w.rows:=by
 refine⟨h.rows,h.rlen,h.row,?_⟩;have:=h.nd;simp only[vx,dO,not_or]at this ⊢;exact⟨this.2.1.2.2.2,this.2.2.2.2.2⟩
inductive Bc(K:aW)(C:Addr)(vs:List V)(H:Hp)(Q:VK)(E:XK):Prop|m(A:WA)(w:WS)(_:vs=[.ref A.x])(_:WalkAt K H C A w)(_:w.rows.length≤100)(_:∀ H' t l1 p rs en,aD H H'→H' t=some (.tup [en,.ref l1,.int w.done,.ref p])→eU H' w.ended en→H' l1=some (.lst (aB w.heard))→fD H' p rs w.rows→(∀ b∈l1::p::rs,H b=none)→(l1::p::rs).Nodup→Q (.ref t) H')
inductive Be(K:aW)(C:Addr)(vs:List V)(H:Hp)(Q:VK)(E:XK):Prop|m(x dx t l ar0 ac0:Addr)(nm:Nat)(rw b:Int)(rows:List (List Int))(taken:List Int)(xs:List V)(ds:List D)(_:vs=[.ref x,.ref t,.ref ar0,.ref ac0,.int b])(_:H x=some (.ins C dx []))(_:bY K H t [.int (nm:Int),.int rw,.ref l])(_:a7 K H l xs)(_:IsL K H ds xs)(_:rB K H ar0 rows)(_:rows.length≤100)(_:a7 K H ac0 (aB taken))(_:nm≤100)(_:∀ (A:WA) (H':Hp),A.x=x→A.dx=dx→(∀ c o,H c=some o→c≠x→H' c=some o)→(∀ c∈A.al::A.ar::A.ac::A.an::A.ah::A.rs,H c=none)→WalkAt K H' C A ⟨ds,rows,taken,b,0,List.replicate nm 0,[],0,none⟩→Q .non H')
theorem AA(s:aD H H')(h:eU H q en):eU H' q en:=by
 unfold eU at h ⊢;split at h
 ·exact h
 ·obtain⟨te,q1,q2⟩:=h;exact⟨te,q1,s _ _ q2⟩
def kB(H1:Hp)(rows:List (List Int))(p:Addr)(i:Nat)(H':Hp):Prop:=aD H1 H'∧∃ rs:List Addr,H' p=some (.lst (rs.map V.ref))∧rs.length=i∧(∀ (j:Nat) b r,rs[j]?=some b→rows[j]?=some r→H' b=some (.lst (aB r)))∧(∀ b∈rs,H1 b=none∧b≠p)∧rs.Nodup
theorem kB.zero{rows:List (List Int)}(np:H1 p=none):kB H1 rows p 0 (upd H1 p (.lst [])):=⟨aj np _,[],af,rfl,fun j b r h=>by simp at h,fun b h=>by simp at h,List.nodup_nil⟩
theorem fN{α:Type}:∀ {l:List α} {k:α},l.Nodup→¬ k∈l→(l++[k]).Nodup:=fun {l k} h hk=>by
 rw[List.nodup_append];exact⟨h,by simp,fun a ha b hb=>by rw[dU.mp hb]; exact fun e=>hk (e ▸ ha)⟩
theorem kB.next{rows:List (List Int)}{r:List Int}{l2:Addr}(np:H1 p=none)(h:kB H1 rows p i H')(er:rows[i]?=some r)(n2:H' l2=none)(h100:rows.length≤100) :
  ∃ acc,upd H' l2 (.lst (aB r)) p=some (.lst acc)∧acc.length < sizeLine∧kB H1 rows p (i + 1) (upd (upd H' l2 (.lst (aB r))) p (.lst (acc++[.ref l2]))):=by
 obtain⟨sm,rs,ep,ln,hr,hf,nd⟩:=h;have hi:=(eQ.mp er).1;have pl:p≠l2:=cx ep n2;have s2:=aj n2 (.lst (aB r));have nl2:¬ l2∈rs:=fun m=>by
  obtain⟨j,hj⟩:=Fw.mp m;have hjl:j < rows.length:=by have:=(eQ.mp hj).1; lia
  rw[hr j l2 _ hj (cu hjl)]at n2;cases n2
 refine⟨_,s2 _ _ ep,aO (by rw[cU]; lia),aD.new (sm.trans s2) np,rs++[l2],by rw[af,je]; rfl,by simp[ln],fun j b r' hb hr'=>?_,fun b hb=>?_,fN nd nl2⟩
 ·by_cases hj:j < rs.length
  ·rw[Ec hj]at hb;have hbm:=gh hb;rw[aq (hf b hbm).2];exact s2 _ _ (hr j b r' hb hr')
  ·rw[CG (by lia)]at hb;have:j=rs.length:=by
    have:=(eQ.mp hb).1;simp at this; lia
   subst this;simp at hb;subst hb;rw[ln,er]at hr';cases hr';rw[aq pl.symm,af]
 ·rcases fv.mp hb with z | z
  ·exact hf b z
  ·rw[dU.mp z];exact⟨ay sm n2,pl.symm⟩
theorem kB.rows{rows:List (List Int)}(h:kB H1 rows p rows.length H'):∃ rs,fD H' p rs rows∧(∀ b∈rs,H1 b=none∧b≠p):=by
 obtain⟨sm,rs,ep,ln,hr,hf,nd⟩:=h;exact⟨rs,⟨ep,ln,hr,vx.mpr ⟨fun m=>(hf p m).2 rfl,nd⟩⟩,hf⟩
theorem rV(F:cM K "told" "Walk.told" fL f fd)(W:WC K C)(m_list:mg "list" = none):bg P w K mg base cH (n + 1) f fd vw (Bc K C):=by
 refine F.ok su (by walk_at "l") (fun cdv A outer s H vs Q E hr h=>?_);obtain⟨A,w,rfl,hw,h100,q⟩:=h;refine⟨_,(ak (az (aY (aa (cF W.cl W.na_ended (pv 0)) (aa (bw dg rfl m_list C7 (aa (cF W.cl W.na_heard (pv 0)) ae)) (aa (cF W.cl W.na_done (pv 0)) (aa (cS ["row"] rfl (cW (N:=vw) (so:=ao fL) rfl rfl (by decide +kernel)) (du (cF W.cl W.na_rows (pv 0))) (fun _ _ _ _ _ _=>(aU (i:=0) (show List.Nodup (α:=Str) ["row","self"] by decide +kernel) rfl (Or.inl rfl) (Or.inr rfl))) (fun _ _ _ _ _ _=>cf) (fun _ _ _ _ _ _=>(bw (jn (K:=K) rfl) rfl m_list C7 (aa (pv 0) ae)))) ae))))))),?_⟩;obtain⟨en,e1,e2⟩:=hw.ins;refine⟨_,rfl,A.x,A.dx,_,en,rfl,e1,rfl,_,rfl,A.x,A.dx,_,_,rfl,e1,rfl,A.ah,_,rfl,.inl (a7.of hw.heard),fun l1 n1=>?_⟩;have s1:=aj n1 (.lst (aB w.heard));have hw1:=hw.same s1;have el1:upd H l1 (.lst (aB w.heard)) l1=some (.lst (aB w.heard)):=af;have e11:=s1 _ _ e1;generalize upd H l1 (.lst (aB w.heard))=H1 at s1 hw1 el1 e11;refine⟨_,rfl,A.x,A.dx,_,_,rfl,e11,rfl,_,rfl,A.x,A.dx,_,_,rfl,e11,rfl,A.ar,rfl,⟨_,a7.of hw1.rows⟩,fun p np=>?_⟩;have src:rB K H1 A.ar w.rows:=hw1.EJ.src;refine fh (xs:=A.rs.map V.ref) (fun i H'=>kB H1 w.rows p i H') (.zero np) (fun i H' _ h=>a7.of (h.1 _ _ hw1.rows)) (fun i y H' ey h=>?_) (fun H' h=>?_)
 ·rw[lK]at ey;obtain⟨b,hb,rfl⟩:=Ed.mp ey;have hil:i < w.rows.length:=by have:=(eQ.mp hb).1; have:=hw1.rlen; lia
  have er:=cu hil;have hbr:=hw1.row i b _ hb er;refine⟨⟨[some (.ref b)],rfl,rfl⟩,bP ⟨_,rfl,b,_,rfl,.inl (a7.of (h.1 _ _ hbr)),fun l2 n2=>?_⟩⟩;exact h.next np er n2 h100
 ·have hl:(A.rs.map V.ref).length=w.rows.length:=by rw[cU]; exact hw1.rlen
  rw[hl]at h;obtain⟨rs,ra,hf⟩:=h.rows;refine⟨bQ rfl,fun t nt=>?_⟩;have s2:=aj nt (.tup [en,.ref l1,.int w.done,.ref p]);have sm:=h.1.trans s2;refine q _ t l1 p rs en (s1.trans sm) af (AA (s1.trans sm) e2) (sm _ _ el1) (ra.same s2) (fun b hb=>?_) ?_
  ·rcases dO.mp hb with z | hb
   ·rw[z]; exact n1
   ·rcases dO.mp hb with z | hb
    ·rw[z]; exact ay s1 np
    ·exact ay s1 (hf b hb).1
  ·refine vx.mpr ⟨fun m=>?_,ra.nd⟩;rcases dO.mp m with z | m
   ·rw[z,np]at el1; cases el1
   ·rw[(hf l1 m).1]at el1; cases el1
noncomputable def Cg(al p:Addr):List (Str × V):=[("lines",.ref al),("rows",.ref p)]
noncomputable def FF(al p ac:Addr)(b:Int):List (Str × V):=[("lines",.ref al),("rows",.ref p),("coming",.ref ac),("budget",.int b),("at",.int 0)]
noncomputable def wc(al p ac:Addr)(b:Int)(an:Addr):List (Str × V):=[("lines",.ref al),("rows",.ref p),("coming",.ref ac),("budget",.int b),("at",.int 0),("numbers",.ref an)]
def Bx(x:Addr)(H H':Hp):Prop:=∀ c o,H c=some o→c≠x→H' c=some o
theorem Bx.trans{x:Addr}(a:Bx x H H1)(b:Bx x H1 H2):Bx x H H2:=fun c o e n=>b c o (a c o e n) n
theorem Bx.of_same{x:Addr}(s:aD H H'):Bx x H H':=fun b o e _=>s b o e
theorem Bx.upd{x:Addr}:Bx x H (L2.upd H x o):=fun b u e n=>by rw[aq n]; exact e
theorem Bx.aS{x:Addr}{fs:List (Str × V)}(b:Bx x H H')(h:H x=some (.ins C dx fs)):bu H H':=
 ⟨fun c xs e=>b c _ e (bh e h (by intro z; cases z)),fun c o u e=>b c _ e (bh e h (by intro z; cases z))⟩
theorem Bx.seq{x:Addr}{fs:List (Str × V)}{a:Addr}(b:Bx x H H')(h:H x=some (.ins C dx fs))(q:a7 K H a xs):a7 K H' a xs:=by
 rcases q with (q | ⟨o,q⟩) | q
 ·exact .inl (.inl (b _ _ q (bh q h (by intro z; cases z))))
 ·exact .inl (.inr ⟨o,b _ _ q (bh q h (by intro z; cases z))⟩)
 ·exact .inr q
theorem Bx.none{x:Addr}(b:Bx x H H')(h:H x=some o){c:Addr}{o':HO}(hx:H' x=some o')(e:H' c=none):H c=none:=by
 cases q:H c with
 | none=>rfl
 | some u=>
  by_cases hc:c=x
  ·rw[hc,hx]at e; cases e
  ·rw[b c u q hc]at e; cases e
theorem rX(F:cM K "__init__" "Walk.__init__" fO f fd)(W:WC K C)(m_list:mg "list" = none):bg P w K mg base cH (n + 1) f fd GH (Be K C):=by
 refine F.ok sU (by walk_at "l") (fun cdv A outer s H vs Q E hr h=>?_);obtain⟨x,dx,t,l,ar0,ac0,nm,rw,b,rows,taken,xs,ds,rfl,hx,hq,hl,il,hR,h100,hT,hnm,q⟩:=h
 refine⟨_,(@ag _ _ _ _ _ (iN W.cl W.na_lines (pv 0) (bw dg rfl m_list C7 (aa (av aA (pv 1) ai) ae)))
   (@ag _ _ _ _ _ (iN W.cl W.na_rows (pv 0) (cS ["row"] rfl (cW (N:=GH) (so:=ao fO) rfl rfl (by decide +kernel)) (du (pv 2)) (fun _ _ _ _ _ _=>(aU (i:=0) (show List.Nodup (α:=Str) ["row","self","program","rows","taken","budget"] by decide +kernel) rfl (Or.inl rfl) (Or.inr rfl))) (fun _ _ _ _ _ _=>cf) (fun _ _ _ _ _ _=>(bw (jn (K:=K) rfl) rfl m_list C7 (aa (pv 0) ae)))))
   (@ag _ _ _ _ _ (iN W.cl W.na_coming (pv 0) (bw dg rfl m_list C7 (aa (pv 3) ae)))
   (@ag _ _ _ _ _ (iN W.cl W.na_budget (pv 0) (pv 4))
   (@ag _ _ _ _ _ (iN W.cl W.na_at (pv 0) ai)
   (@ag _ _ _ _ _ (iN W.cl W.na_numbers (pv 0) (aR rE (bo (aa ai ae)) (av aA (pv 1) ai)))
   (@ag _ _ _ _ _ (iN W.cl W.na_heard (pv 0) (bo ae))
   (@ag _ _ _ _ _ (iN W.cl W.na_done (pv 0) ai)
   (ak (iN W.cl W.na_ended (pv 0) cJ)))))))))),?_⟩
 refine⟨_,rfl,t,_,2,_,rfl,rfl,hq,at2 _ _ _ _,l,xs,rfl,.inl hl,fun al nal=>?_⟩;have s1:=aj nal (.lst xs);refine⟨_,rfl,x,dx,_,rfl,s1 _ _ hx,by decide,?_⟩;have b1:Bx x H (upd (upd H al (.lst xs)) x (.ins C dx (bL "lines" (.ref al) []))):=(Bx.of_same s1).trans .upd;have x1:upd (upd H al (.lst xs)) x (.ins C dx (bL "lines" (.ref al) [])) x=some (.ins C dx [("lines",.ref al)]):=af;have eal:upd (upd H al (.lst xs)) x (.ins C dx (bL "lines" (.ref al) [])) al=some (.lst xs):=by rw[aq (cx hx nal).symm,af]
 generalize upd (upd H al (.lst xs)) x (.ins C dx (bL "lines" (.ref al) []))=H1 at b1 x1 eal;obtain⟨vs,qv,lv,hv⟩:=hR;refine⟨_,rfl,ar0,rfl,⟨_,b1.seq hx qv⟩,fun p np=>?_⟩;have np0:H p=none:=b1.none hx x1 np;refine fh (xs:=vs) (fun i H'=>kB H1 rows p i H') (.zero np) (fun i H' _ h=>h.1.seq (b1.seq hx qv)) (fun i y H' ey h=>?_) (fun H' h=>?_)
 ·have hil:i < rows.length:=by have:=(eQ.mp ey).1; lia
  have er:=cu hil;obtain⟨c,rfl,sq⟩:=hv i y _ ey er;refine⟨⟨[some (.ref c)],rfl,rfl⟩,bP ⟨_,rfl,c,_,rfl,.inl (h.1.seq (b1.seq hx sq)),fun l2 n2=>?_⟩⟩;exact h.next np er n2 h100
 rw[lv]at h;obtain⟨rs,ra,hf⟩:=h.rows;have sm:=h.1;have xp:x≠p:=cx x1 np;refine⟨_,rfl,x,dx,_,rfl,sm _ _ x1,by show 1 < 1000; decide,?_⟩;have b2:Bx x H (upd H' x (.ins C dx (bL "rows" (.ref p) [("lines",.ref al)]))):=b1.trans ((Bx.of_same sm).trans .upd);have xrs:∀ c∈rs,x≠c:=fun c hc z=>by rw[← z]at hc; have:=(hf x hc).1; rw[x1]at this; cases this
 have ra2:fD (upd H' x (.ins C dx (bL "rows" (.ref p) [("lines",.ref al)]))) p rs rows:=⟨by rw[aq xp.symm]; exact ra.top,ra.len,fun i c r e g=>by rw[aq (xrs c (gh e)).symm]; exact ra.row i c r e g,ra.nd⟩
 have x2:upd H' x (.ins C dx (bL "rows" (.ref p) [("lines",.ref al)])) x=some (.ins C dx (Cg al p)):=af;have xal:x≠al:=cx hx nal;have eal2:upd H' x (.ins C dx (bL "rows" (.ref p) [("lines",.ref al)])) al=some (.lst xs):=by rw[aq xal.symm]; exact sm _ _ eal
 generalize upd H' x (.ins C dx (bL "rows" (.ref p) [("lines",.ref al)]))=H2 at b2 ra2 x2 eal2;refine⟨_,rfl,ac0,_,rfl,.inl (b2.seq hx hT),fun ac nac=>?_⟩;have s3:=aj nac (.lst (aB taken));refine⟨_,rfl,x,dx,_,rfl,s3 _ _ x2,by show 2 < 1000; decide,?_⟩;refine⟨_,rfl,_,rfl,x,dx,_,rfl,af,by show 3 < 1000; decide,?_⟩;refine⟨_,rfl,x,dx,_,rfl,af,by show 4 < 1000; decide,?_⟩;have xac:x≠ac:=cx x2 nac;have f5:(FF al p ac b)=bL "at" (.int 0) (bL "budget" (.int b) (bL "coming" (.ref ac) (Cg al p))):=rfl;rw[← f5];have b3:Bx x H2 (upd (upd (upd (upd H2 ac (.lst (aB taken))) x (.ins C dx (bL "coming" (.ref ac) (Cg al p)))) x (.ins C dx (bL "budget" (.int b) (bL "coming" (.ref ac) (Cg al p))))) x (.ins C dx (FF al p ac b))):=
  (Bx.of_same s3).trans (Bx.upd.trans (Bx.upd.trans .upd))
 have e3:upd (upd (upd (upd H2 ac (.lst (aB taken))) x (.ins C dx (bL "coming" (.ref ac) (Cg al p)))) x (.ins C dx (bL "budget" (.int b) (bL "coming" (.ref ac) (Cg al p))))) x (.ins C dx (FF al p ac b)) ac=some (.lst (aB taken)):=by
  rw[aq xac.symm,aq xac.symm,aq xac.symm,af]
 have x3:upd (upd (upd (upd H2 ac (.lst (aB taken))) x (.ins C dx (bL "coming" (.ref ac) (Cg al p)))) x (.ins C dx (bL "budget" (.int b) (bL "coming" (.ref ac) (Cg al p))))) x (.ins C dx (FF al p ac b)) x=some (.ins C dx (FF al p ac b)):=af;generalize upd (upd (upd (upd H2 ac (.lst (aB taken))) x (.ins C dx (bL "coming" (.ref ac) (Cg al p)))) x (.ins C dx (bL "budget" (.int b) (bL "coming" (.ref ac) (Cg al p))))) x (.ins C dx (FF al p ac b))=H3 at b3 e3 x3;have b03:=b2.trans b3;have hq3:=(b03.aS hx).sq hq;refine⟨bQ rfl,fun lz nlz=>?_⟩;have s4:=aj nlz (.lst [.int 0]);refine⟨_,rfl,t,_,0,_,rfl,rfl,s4.aS.sq hq3,dW _ _,lz,_,[.int 0],rfl,rfl,af,by lia,by lia,by rw[uF,m8,vm]; lia,fun an nan=>?_⟩;have erep:(List.replicate ((nm:Int)).toNat [V.int 0]).flatten=aB (List.replicate nm 0):=by
  rw[m8];unfold aB;rw[List.map_replicate];clear hq hq3 hnm q
  induction nm with
  | zero=>rfl
  | succ m ih=>rw[D1,List.flatten_cons,D1,ih]; rfl
 rw[erep];have s5:=aj nan (.lst (aB (List.replicate nm 0)));have s45:=s4.trans s5;refine⟨_,rfl,x,dx,_,rfl,s45 _ _ x3,by show 5 < 1000; decide,?_⟩;have xan:x≠an:=cx (s4 _ _ x3) nan;have f6:(wc al p ac b an)=bL "numbers" (.ref an) (FF al p ac b):=rfl;rw[← f6];have b4:Bx x H3 (upd (upd (upd H3 lz (.lst [.int 0])) an (.lst (aB (List.replicate nm 0)))) x (.ins C dx (wc al p ac b an))):=(Bx.of_same s45).trans .upd;have x4:upd (upd (upd H3 lz (.lst [.int 0])) an (.lst (aB (List.replicate nm 0)))) x (.ins C dx (wc al p ac b an)) x=some (.ins C dx (wc al p ac b an)):=af;have e4:upd (upd (upd H3 lz (.lst [.int 0])) an (.lst (aB (List.replicate nm 0)))) x (.ins C dx (wc al p ac b an)) an=some (.lst (aB (List.replicate nm 0))):=by rw[aq xan.symm,af]
 have nan3:H3 an=none:=ay s4 nan;generalize upd (upd (upd H3 lz (.lst [.int 0])) an (.lst (aB (List.replicate nm 0)))) x (.ins C dx (wc al p ac b an))=H4 at b4 x4 e4;refine⟨bQ rfl,fun ah nah=>?_⟩;have s6:=aj nah (.lst []);have xah:x≠ah:=cx x4 nah;refine⟨_,rfl,x,dx,_,rfl,s6 _ _ x4,by show 6 < 1000; decide,?_⟩;refine⟨_,rfl,x,dx,_,rfl,af,by show 7 < 1000; decide,?_⟩;refine⟨_,rfl,x,dx,_,rfl,af,by show 8 < 1000; decide,?_⟩;have fz:rN al p ac b 0 an ah 0 .non=bL "ended" .non (bL "done" (.int 0) (bL "heard" (.ref ah) (wc al p ac b an))):=rfl;rw[← fz];have b5:Bx x H4 (upd (upd (upd (upd H4 ah (.lst [])) x (.ins C dx (bL "heard" (.ref ah) (wc al p ac b an)))) x (.ins C dx (bL "done" (.int 0) (bL "heard" (.ref ah) (wc al p ac b an))))) x (.ins C dx (rN al p ac b 0 an ah 0 .non))):=
  (Bx.of_same s6).trans (Bx.upd.trans (Bx.upd.trans .upd))
 have e5:upd (upd (upd (upd H4 ah (.lst [])) x (.ins C dx (bL "heard" (.ref ah) (wc al p ac b an)))) x (.ins C dx (bL "done" (.int 0) (bL "heard" (.ref ah) (wc al p ac b an))))) x (.ins C dx (rN al p ac b 0 an ah 0 .non)) ah=some (.lst []):=by
  rw[aq xah.symm,aq xah.symm,aq xah.symm,af]
 have x5:upd (upd (upd (upd H4 ah (.lst [])) x (.ins C dx (bL "heard" (.ref ah) (wc al p ac b an)))) x (.ins C dx (bL "done" (.int 0) (bL "heard" (.ref ah) (wc al p ac b an))))) x (.ins C dx (rN al p ac b 0 an ah 0 .non)) x=some (.ins C dx (rN al p ac b 0 an ah 0 .non)):=af;generalize upd (upd (upd (upd H4 ah (.lst [])) x (.ins C dx (bL "heard" (.ref ah) (wc al p ac b an)))) x (.ins C dx (bL "done" (.int 0) (bL "heard" (.ref ah) (wc al p ac b an))))) x (.ins C dx (rN al p ac b 0 an ah 0 .non))=H5 at b5 e5 x5;have b24:=b3.trans b4;have b25:=b24.trans b5;have b05:=b2.trans b25;have al5:H5 al=some (.lst xs):=b25 _ _ eal2 xal.symm;have p5:H5 p=some (.lst (rs.map V.ref)):=b25 _ _ ra2.top xp.symm;have ac5:H5 ac=some (.lst (aB taken)):=(b4.trans b5) _ _ e3 xac.symm;have an5:H5 an=some (.lst (aB (List.replicate nm 0))):=b5 _ _ e4 xan.symm;have r5:∀ (i:Nat) c r,rs[i]?=some c→rows[i]?=some r→H5 c=some (.lst (aB r)):=fun i c r e g=>b25 _ _ (ra2.row i c r e g) (xrs c (gh e)).symm
 have nac0:H2 ac=none:=nac;have nan2:H2 an=none:=(b3.none x2 x3 nan3)
 have nah2:H2 ah=none:=(b24.none x2 x4 nah)
 have nah3:H3 ah=none:=(b4.none x3 x4 nah)
 have ralive:∀ c∈rs,∃ o,H2 c=some o:=fun c hc=>by
  obtain⟨i,hi⟩:=Fw.mp hc;have hil:i < rows.length:=by have:=(eQ.mp hi).1; have:=ra2.len; lia
  exact⟨_,ra2.row i c _ hi (cu hil)⟩
 refine q ⟨x,dx,al,p,ac,an,ah,rs⟩ H5 rfl rfl b05 (fun c hc=>?_) ⟨⟨.non,x5,rfl⟩,⟨xs,al5,il.mono (b05.aS hx)⟩,p5,ra2.len,r5,ac5,an5,e5,?_⟩
 ·simp only[dO]at hc;rcases hc with z | z | z | z | z | z
  ·rw[z]; exact nal
  ·rw[z]; exact np0
  ·rw[z]; exact b2.none hx x2 nac
  ·rw[z]; exact b2.none hx x2 nan2
  ·rw[z]; exact b2.none hx x2 nah2
  ·exact b1.none hx x1 (hf c z).1
 ·have k1:∀ {c:Addr} {o:HO},H2 c=some o→c≠ac∧c≠an∧c≠ah:=fun e=>⟨cx e nac0,cx e nan2,cx e nah2⟩
  obtain⟨g1,g2,g3⟩:=k1 eal2;obtain⟨g4,g5,g6⟩:=k1 ra2.top;have g7:al≠p:=cx eal np;have g8:ac≠an:=cx e3 nan3;have g9:ac≠ah:=cx e3 nah3;have g10:an≠ah:=cx e4 nah;have ndr:=vx.mp ra2.nd;simp only[vx,dO,not_or];refine⟨⟨g7,g1,g2,g3,fun m=>?_⟩,⟨g4,g5,g6,ndr.1⟩,⟨g8,g9,fun m=>?_⟩,⟨g10,fun m=>?_⟩,fun m=>?_,ndr.2⟩
  ·rw[(hf al m).1]at eal; cases eal
  ·obtain⟨o,e⟩:=ralive ac m; rw[nac0]at e; cases e
  ·obtain⟨o,e⟩:=ralive an m; rw[nan2]at e; cases e
  ·obtain⟨o,e⟩:=ralive ah m; rw[nah2]at e; cases e
abbrev tf:Stmt:=top 37
abbrev oK:Stmt:=top 38
abbrev wM:Stmt:=top 39
abbrev rS:Stmt:=top 40
abbrev js:Stmt:=top 56
theorem uL:aF ["_law_box","_law_many","_law_digit_here"] Ab (ao tf):=by walk_at "k"
theorem zo:aF qX qX (ao oK):=by walk_at "k"
theorem DQ:aF GK GK (ao wM):=by walk_at "k"
theorem tJ:aF ["_law_box","_law_names","_law_name"] qT (ao rS):=by walk_at "k"
theorem uY:aF qV qV (ao js):=by walk_at "k"
def eS(H:Hp)(p:Addr):Prop:=∃ c:Int,H p=some (.lst [.int c])
def eW(p:Addr)(H H':Hp):Prop:=(∀ b o,b≠p→H b=some o→H' b=some o)∧eS H' p
theorem eW.trans{H'':Hp}(a:eW p H H')(b:eW p H' H''):eW p H H'':=⟨fun c o ne e=>b.1 c o ne (a.1 c o ne e),b.2⟩
theorem eW.aS(h:eS H p)(a:eW p H H'):bu H H':=by
 obtain⟨c,e⟩:=h;exact⟨fun b zs q=>a.1 b _ (bh q e (by intro z; cases z)) q,fun b o u q=>a.1 b _ (bh q e (by intro z; cases z)) q⟩
theorem eW.same(s:aD H H1)(n:H p=none)(a:eW p H1 H2):aD H H2:=fun c o e=>a.1 c o (aH e n) (s c o e)
inductive dI(vs:List V)(H:Hp)(Q:VK)(E:XK):Prop|m(p:Addr)(m:Int)(_:vs=[.ref p,.int m])(_:eS H p)(_:0 < m)(_:m≤100000)(_:∀ (H':Hp) (d:Int),eW p H H'→0≤d→d < m→Q (.int d) H')
inductive oU(vs:List V)(H:Hp)(Q:VK)(E:XK):Prop|m(p:Addr)(_:vs=[.ref p])(_:eS H p)(_:∀ (H':Hp) (i:Int),eW p H H'→-1000≤i→i≤1000→Q (.int i) H')
inductive wN(vs:List V)(H:Hp)(Q:VK)(E:XK):Prop|m(p:Addr)(at_ many:Int)(_:vs=[.ref p,.int at_,.int many])(_:eS H p)(_:0≤at_)(_:0 < many)(_:many≤1000)(_:∀ (H':Hp) (i:Int),eW p H H'→0≤i→i < many→Q (.int i) H')
inductive x8(vs:List V)(H:Hp)(Q:VK)(E:XK):Prop|m(p:Addr)(n:Int)(_:vs=[.ref p,.int n])(_:eS H p)(_:0≤n)(_:n≤1000)(_:∀ (H':Hp) (v:V),eW p H H'→Av n v→Q v H')
inductive lq(vs:List V)(H:Hp)(Q:VK)(E:XK):Prop|m(c:Int)(_:vs=[.int c])(_:∀ (H':Hp) (i:Int),aD H H'→Q (.int i) H')
theorem Ba(F:cM K "_law_digit" "_law_digit" tf f fd)(m_divmod:mg "divmod" = none):bg P w K mg base cH (n + 1) f fd Ab dI:=by
 refine F.ok uL (by walk_at "l") (fun cdv A outer s H vs Q E hr h=>?_);obtain⟨p,m,rfl,⟨c,e⟩,m0,m1,q⟩:=h
 refine⟨_,(@ag _ _ _ _ _ (jM (bj tS rfl m_divmod PyProof.Rows.boot_divmod (aa (av aK (pv 0) ai) (aa (pv 1) ae))) (hJ rfl (bG (sD (pv 0) ai set_list) (bG (aU (i:=2) uL.nd rfl (Or.inl rfl)) eK))))
   (ak (az (pv 2)))),?_⟩
 refine⟨_,rfl,p,_,0,_,rfl,rfl,a7.of e,dW _ _,_,rfl,c,m,rfl,⟨m0,by lia⟩,fun t nt=>?_⟩;have np:p≠t:=aH e nt;refine⟨t,_,rfl,bY.of af,rfl,_,_,rfl,_,rfl,p,_,0,0,rfl,rfl,by rw[aq np]; exact e,rfl,_,_,rfl,rfl,?_⟩;refine⟨_,rfl,q _ _ ⟨fun b o ne e'=>?_,_,af⟩ (Int.emod_nonneg _ (by lia)) (Int.emod_lt_of_pos _ m0)⟩;rw[aq ne,aq (aH e' nt)];exact e'
theorem zz(F:cM K "_law_number" "_law_number" oK f fd)(c_law_digit:Cl P w K mg base "_law_digit" n Ab dI):bg P w K mg base cH (n + 1) f fd qX oU:=by
 refine F.ok zo (by walk_at "l") (fun cdv A outer s H vs Q E hr h=>?_);obtain⟨p,rfl,hb,q⟩:=h
 refine⟨_,(@ag _ _ _ _ _ (ba (aE bA (aC c_law_digit hr rfl (aa (pv 0) (aa ai ae))) ai) (ak (az (aR dD (aC c_law_digit hr rfl (aa (pv 0) (aa ai ae))) ai))) aN)
   (ak (az (aR dD (aC c_law_digit hr rfl (aa (pv 0) (aa ai ae))) ai)))),?_⟩
 refine⟨_,rfl,p,4,rfl,hb,by decide,by decide,fun H1 d b1 d0 d1=>⟨rfl,_,rfl,cT (fun _=>?_) (fun _=>?_)⟩⟩
 ·exact⟨_,rfl,p,2001,rfl,b1.2,by decide,by decide,fun H2 d2 b2 e0 e1=>⟨_,_,rfl,rfl,q _ _ (b1.trans b2) (by lia) (by lia)⟩⟩
 ·exact⟨_,rfl,p,7,rfl,b1.2,by decide,by decide,fun H2 d2 b2 e0 e1=>⟨_,_,rfl,rfl,q _ _ (b1.trans b2) (by lia) (by lia)⟩⟩
theorem CB(F:cM K "_law_goal" "_law_goal" wM f fd)(m_min:mg "min" = none)(c_law_digit:Cl P w K mg base "_law_digit" n Ab dI):bg P w K mg base cH (n + 1) f fd GK wN:=by
 refine F.ok DQ (by walk_at "l") (fun cdv A outer s H vs Q E hr h=>?_);obtain⟨p,a,m,rfl,hb,a0,m0,m1,q⟩:=h
 refine⟨_,(@ag _ _ _ _ _ (ba (aE kf (aC c_law_digit hr rfl (aa (pv 0) (aa ai ae))) ai) (ak (az (bj (yP rfl) rfl m_min PyProof.Rows.boot_min (aa (aR bK (pv 1) ai) (aa (aR dD (pv 2) ai) ae))))) aN)
   (ak (az (aC c_law_digit hr rfl (aa (pv 0) (aa (pv 2) ae)))))),?_⟩
 refine⟨_,rfl,p,3,rfl,hb,by decide,by decide,fun H1 d b1 d0 d1=>⟨_,_,rfl,rfl,_,rfl,cT (fun _=>?_) (fun _=>?_)⟩⟩
 ·exact⟨_,rfl,_,_,rfl,rfl,_,rfl,_,_,rfl,rfl,_,_,rfl,q _ _ b1 (by split <;> lia) (by split <;> lia)⟩
 ·exact⟨_,rfl,_,rfl,p,m,rfl,b1.2,m0,by lia,fun H2 d2 b2 e0 e1=>q _ _ (b1.trans b2) e0 e1⟩
theorem BS(F:cM K "_law_maybe" "_law_maybe" rS f fd)(c_law_digit:Cl P w K mg base "_law_digit" n Ab dI):bg P w K mg base cH (n + 1) f fd qT x8:=by
 refine F.ok tJ (by walk_at "l") (fun cdv A outer s H vs Q E hr h=>?_);obtain⟨p,m,rfl,hb,m0,m1,q⟩:=h
 refine⟨_,(@ag _ _ _ _ _ (aV (i:=2) tJ.nd (aC c_law_digit hr rfl (aa (pv 0) (aa (aR bK (pv 1) ai) ae))))
   (@ag _ _ _ _ _ (ba (aE bA (pv 2) (pv 1)) (ak (az cJ)) aN)
   (ak (az (pv 2))))),?_⟩
 refine⟨_,rfl,_,rfl,_,_,rfl,rfl,p,m + 1,rfl,hb,by lia,by lia,fun H1 d b1 d0 d1=>?_⟩;refine⟨_,rfl,_,rfl,rfl,_,rfl,cT (fun _=>q _ _ b1 (.inl rfl)) (fun cc=>⟨_,rfl,q _ _ b1 (.inr ⟨d,d0,?_,rfl⟩)⟩)⟩;have:d≠m:=fun z=>cc (ff (by rw[z]))
 lia
theorem vj(F:cM K "_law_worth_of" "_law_worth_of" js f fd)(m_int:mg "int" = none):bg P w K mg base cH (n + 1) f fd qV lq:=by
 refine F.ok uY (by walk_at "l") (fun cdv A outer s H vs Q E hr h=>?_);obtain⟨c,rfl,q⟩:=h;refine⟨_,(ak (az (av aK (bo (aa (aR dD (aR fu (aR ke (pv 0) ai) ai) ai) (aa (aR dD (aR fu (aR ke (pv 0) ai) (aR bK (aR eC ai (aR Aq ai ai)) ai)) (aR Aq ai ai)) ae))) (bw cP rfl m_int Ci (aa (bU bA (aR fu (pv 0) ai) ai) ae))))),?_⟩;obtain⟨z,ez,_⟩:=oF (x:=c / 3 % 9 - 2) (y:=c / 3 % (2 * 10 ^ (18:Int).toNat + 1) - 10 ^ (18:Int).toNat) (decide (V.int (c % 3)=V.int 0));refine⟨_,rfl,_,_,rfl,rfl,⟨by decide,by decide⟩,_,_,rfl,rfl,(by decide:(0:Int) < 9),_,_,rfl,rfl,_,rfl,_,_,rfl,rfl,⟨by decide,by decide⟩,_,_,rfl,rfl,⟨by decide,by decide,by decide⟩,_,_,rfl,rfl,.inl ⟨by decide,by decide⟩,_,_,rfl,rfl,_,_,rfl,rfl,(by decide:(0:Int) < 2 * 10 ^ (18:Int).toNat + 1),_,_,rfl,rfl,⟨by decide,by decide,by decide⟩,_,_,rfl,rfl,bQ rfl,fun t nt=>?_⟩;exact⟨_,rfl,_,_,rfl,rfl,(by decide:(0:Int) < 3),rfl,.inr ⟨_,rfl,t,_,_,_,rfl,rfl,a7.of af,ez,q _ _ (aj nt _)⟩⟩
abbrev m3:Stmt:=top 58
abbrev rH:Stmt:=top 57
abbrev m7:Stmt:=top 59
theorem oq:aF JA Cj (ao m3):=by walk_at "k"
theorem kL:aF qI qP (ao rH):=by walk_at "k"
theorem lu:aF ["_law_script","_law_many","_law_box","_law_budget_here"] qR (ao m7):=by walk_at "k"
inductive xZ(K:aW)(vs:List V)(H:Hp)(Q:VK)(E:XK):Prop|m(a:Addr)(ns:List Int)(_:vs=[.ref a])(_:a7 K H a (ns.map V.int))(_:ns.length≤63)(_:∀ H' p l,aD H H'→H' p=some (.lst (aB l))→H p=none→l.length≤100→Q (.ref p) H')
inductive A4(K:aW)(vs:List V)(H:Hp)(Q:VK)(E:XK):Prop|m(a tp al:Addr)(ns:List Int)(nm m:Nat)(_:vs=[.ref a,.ref tp])(_:a7 K H a (ns.map V.int))(_:ns.length≤63)(_:bY K H tp [.int (nm:Int),.int (m:Int),.ref al])(_:m≤3)(_:∀ H' p rs rows,aD H H'→fD H' p rs rows→(∀ b∈p::rs,H b=none)→rows.length=m→(∀ r∈rows,r.length≤100)→Q (.ref p) H')
inductive vp(K:aW)(vs:List V)(H:Hp)(Q:VK)(E:XK):Prop|m(a:Addr)(ns:List Int)(m:Int)(_:vs=[.ref a,.int m])(_:a7 K H a (ns.map V.int))(_:ns.length≤63)(_:∀ H' b,aD H H'→0≤b→b≤50→Q (.int b) H')
theorem xT{b:Bool}{x y:Int}(hx:0≤x∧x≤m)(hy:0≤y∧y≤m):∃ k:Nat,me [V.int x,.int y] (if b then 1 else 0)=some (.int (k:Int))∧k≤m:=by
 cases b with
 | true=>exact⟨y.toNat,by rw[Int.toNat_of_nonneg hy.1]; rfl,by lia⟩
 | false=>exact⟨x.toNat,by rw[Int.toNat_of_nonneg hx.1]; rfl,by lia⟩
theorem kY(c:Int):eS (upd H p (.lst [.int c])) p:=⟨c,af⟩
theorem iW(h:eS H p)(n:H t=none):eS (upd H t o) p:=by
 obtain⟨c,e⟩:=h;exact⟨c,by rw[aq (aH e n)]; exact e⟩
theorem B1(F:cM K "_law_taken" "_law_taken" m3 f fd)(m_range:mg "range" = none)(m_int:mg "int" = none)(c_law_draw:Cl P w K mg base "_law_draw" n Et (jw K))(c_law_digit:Cl P w K mg base "_law_digit" n Ab dI)(c_law_worth_of:Cl P w K mg base "_law_worth_of" n qV lq):bg P w K mg base cH (n + 1) f fd Cj (xZ K):=by
 refine F.ok oq (by walk_at "l") (fun cdv A outer s H vs Q E hr h=>?_);obtain⟨a,ns,rfl,hS,h63,q⟩:=h
 refine⟨_,(@ag _ _ _ _ _ (aV (i:=1) oq.nd (bo (aa (aC c_law_draw hr rfl (aa (pv 0) (aa ai ae))) ae)))
   (@ag _ _ _ _ _ (aV (i:=2) oq.nd (av aK (bo (aa (aC c_law_digit hr rfl (aa (pv 1) (aa ai ae))) (aa (aC c_law_digit hr rfl (aa (pv 1) (aa ai ae))) ae))) (bw cP rfl m_int Ci (aa (bU bA (aC c_law_digit hr rfl (aa (pv 1) (aa ai ae))) ai) ae))))
   (ak (az (cS ["_law_k"] rfl (cW (N:=JA) (so:=ao m3) rfl rfl (by decide +kernel)) (bO rfl m_range (aa (pv 2) ae)) (fun _ _ _ _ _ _=>(aU (i:=0) (show List.Nodup (α:=Str) ["_law_k","_law_script","_law_box","_law_many"] by decide +kernel) rfl (Or.inl rfl) (Or.inr rfl))) (fun _ _ _ _ _ _=>cf) (fun _ _ _ _ _ _=>(aC c_law_worth_of hr rfl (aa (aC c_law_draw hr rfl (aa (pv 1) (aa (aR bK ai (pv 0)) ae))) ae)))))))),?_⟩
 refine⟨_,rfl,a,ns,_,rfl,hS,h63,by decide,by decide,fun c=>⟨bQ rfl,fun pb npb=>?_⟩⟩;have s1:=aj npb (.lst [.int c]);have x1:eS (upd H pb (.lst [.int c])) pb:=kY c;generalize upd H pb (.lst [.int c])=H1 at s1 x1;refine⟨_,rfl,pb,12,rfl,x1,by decide,by decide,fun H2 d1 b2 d10 d11=>⟨_,rfl,pb,101,rfl,b2.2,by decide,by decide,fun H3 d2 b3 d20 d21=>⟨bQ rfl,fun l nl=>?_⟩⟩⟩;have s3:=eW.same s1 npb (b2.trans b3);have s4:=s3.trans (aj nl (.lst [.int d1,.int d2]));have x4:eS (upd H3 l (.lst [.int d1,.int d2])) pb:=iW b3.2 nl;have nlp:l≠pb:=fun z=>by obtain⟨_,e⟩:=b3.2; rw[z,e]at nl; cases nl
 have el:upd H3 l (.lst [.int d1,.int d2]) l=some (.lst [.int d1,.int d2]):=af;generalize upd H3 l (.lst [.int d1,.int d2])=H4 at s4 x4 el;refine⟨_,rfl,pb,8,rfl,x4,by decide,by decide,fun H5 d3 b5 d30 d31=>⟨rfl,.inr ⟨_,rfl,?_⟩⟩⟩;obtain⟨m,em,hm⟩:=xT (m:=100) (b:=decide (V.int d3=V.int 1)) (x:=d1) (y:=d2) (by lia) (by lia);refine⟨l,_,_,_,rfl,rfl,a7.of (b5.1 _ _ nlp el),em,?_⟩;have s2:=eW.same s4 npb b5;refine⟨_,rfl,_,rfl,by lia,by lia,fun p np=>?_⟩;rw[m8];refine eA (fun i H'=>aD H5 H'∧∃ acc:List Int,H' p=some (.lst (aB acc))∧acc.length=i) ⟨aj np _,[],af,rfl⟩ (fun i H' hi h=>?_) (fun H' h=>?_)
 ·obtain⟨sm,acc,ea,la⟩:=h;refine⟨⟨[some (.int (0 + (i:Int)))],rfl,rfl⟩,bP ?_⟩;refine⟨_,rfl,_,rfl,_,_,rfl,rfl,a,ns,_,rfl,(s2.trans sm).seq hS,h63,by lia,by lia,fun cc=>⟨cc,rfl,fun H6 z s6=>?_⟩⟩;exact⟨_,s6 _ _ ea,aO (by unfold aB; rw[cU]; lia),aD.new (sm.trans s6) np,acc++[z],by rw[af]; unfold aB; rw[je]; rfl,by simp[la]⟩
 ·obtain⟨sm,acc,ea,la⟩:=h;exact q H' p acc (s2.trans sm) ea (ay s2 np) (by lia)
theorem zY(F:cM K "_law_budget" "_law_budget" m7 f fd)(m_int:mg "int" = none)(c_law_draw:Cl P w K mg base "_law_draw" n Et (jw K))(c_law_digit:Cl P w K mg base "_law_digit" n Ab dI):bg P w K mg base cH (n + 1) f fd qR (vp K):=by
 refine F.ok lu (by walk_at "l") (fun cdv A outer s H vs Q E hr h=>?_);obtain⟨a,ns,m,rfl,hS,h63,q⟩:=h
 refine⟨_,(@ag _ _ _ _ _ (aV (i:=2) lu.nd (bo (aa (aC c_law_draw hr rfl (aa (pv 0) (aa ai ae))) ae)))
   (@ag _ _ _ _ _ (aV (i:=3) lu.nd (aC c_law_digit hr rfl (aa (pv 2) (aa (av aK (bo (di rfl)) (bw cP rfl m_int Ci (aa (bU lY (pv 1) ai) ae))) ae))))
   (@ag _ _ _ _ _ (ba (PW.pt (kU (aE kf (pv 1) ai) (mP (aE bA (aC c_law_digit hr rfl (aa (pv 2) (aa ai ae))) ai)))) (ak (az (aC c_law_digit hr rfl (aa (pv 2) (aa ai ae))))) aN)
   (ak (az (pv 3)))))),?_⟩
 refine⟨_,rfl,a,ns,_,rfl,hS,h63,by decide,by decide,fun c=>⟨bQ rfl,fun pb npb=>?_⟩⟩;have s1:=aj npb (.lst [.int c]);have x1:eS (upd H pb (.lst [.int c])) pb:=kY c;generalize upd H pb (.lst [.int c])=H1 at s1 x1;obtain⟨z,ez,hz⟩:=oF (x:=9) (y:=2) (decide (m > 20));refine⟨_,rfl,bQ rfl,fun l nl=>⟨_,rfl,_,_,rfl,rfl,.inr ⟨_,rfl,l,_,_,_,rfl,rfl,a7.of af,ez,?_⟩⟩⟩;have s2:=s1.trans (aj nl (.lst [.int 9,.int 2]));have x2:eS (upd H1 l (.lst [.int 9,.int 2])) pb:=iW x1 nl;refine⟨pb,z,rfl,x2,by lia,by lia,fun H3 d b3 d0 d1=>?_⟩;have s3:=eW.same s2 npb b3;refine⟨_,rfl,_,_,rfl,rfl,_,rfl,cT (fun _=>?_) (fun _=>bp ⟨_,rfl,q _ _ s3 d0 (by lia)⟩)⟩;refine⟨_,rfl,pb,32,rfl,b3.2,by decide,by decide,fun H4 e b4 e0 e1=>⟨rfl,_,rfl,cT (fun _=>?_) (fun _=>⟨_,rfl,q _ _ (eW.same s3 npb b4) d0 (by lia)⟩)⟩⟩;exact⟨_,rfl,pb,51,rfl,b4.2,by decide,by decide,fun H5 g b5 g0 g1=>q _ _ (eW.same s3 npb (b4.trans b5)) g0 (by lia)⟩
theorem C3(F:cM K "_law_rows" "_law_rows" rH f fd)(m_range:mg "range" = none)(m_int:mg "int" = none)(c_law_draw:Cl P w K mg base "_law_draw" n Et (jw K))(c_law_digit:Cl P w K mg base "_law_digit" n Ab dI)(c_law_worth_of:Cl P w K mg base "_law_worth_of" n qV lq):bg P w K mg base cH (n + 1) f fd qP (A4 K):=by
 refine F.ok kL (by walk_at "l") (fun cdv A outer s H vs Q E hr h=>?_);obtain⟨a,tp,al,ns,nm,m,rfl,hS,h63,hT,hm3,q⟩:=h
 refine⟨_,(@ag _ _ _ _ _ (aV (i:=2) kL.nd (bo ae))
   (@ag _ _ _ _ _ (cQ mO rfl (bO rfl m_range (aa (av aA (pv 1) ai) ae)) (aU (i:=3) kL.nd rfl (Or.inr rfl)) (@ag _ _ _ _ _ (aV (i:=4) kL.nd (bo (aa (aC c_law_draw hr rfl (aa (pv 0) (aa (aR bK ai (pv 3)) ae))) ae)))
   (@ag _ _ _ _ _ (aV (i:=5) kL.nd (av aK (bo (aa (aC c_law_digit hr rfl (aa (pv 4) (aa ai ae))) (aa (aC c_law_digit hr rfl (aa (pv 4) (aa ai ae))) ae))) (bw cP rfl m_int Ci (aa (bU bA (aC c_law_digit hr rfl (aa (pv 4) (aa ai ae))) ai) ae))))
   (ak (bZ (fJ v9 Cp Cv cE (pv 2) (aa (cS ["_law_k"] rfl (cW (N:=qI) (so:=ao rH) rfl rfl (by decide +kernel)) (bO rfl m_range (aa (pv 5) ae)) (fun _ _ _ _ _ _=>(aU (i:=0) (show List.Nodup (α:=Str) ["_law_k","_law_script","_law_program_here","_law_rows_here","_law_r","_law_box","_law_many"] by decide +kernel) rfl (Or.inl rfl) (Or.inr rfl))) (fun _ _ _ _ _ _=>cf) (fun _ _ _ _ _ _=>(aC c_law_worth_of hr rfl (aa (aC c_law_draw hr rfl (aa (pv 1) (aa (aR bK (aR bK ai (aR eC ai (pv 4))) (pv 0)) ae))) ae)))) ae)))))))
   (ak (az (pv 2))))),?_⟩
 refine⟨bQ rfl,fun pf npf=>?_⟩;refine⟨_,rfl,tp,_,1,_,rfl,rfl,(aj npf _).aS.sq hT,jO _ _ _,(m:Int),rfl,by lia,by lia,?_⟩;rw[m8];refine dh (n:=m) (fun i σ H'=>∃ y4 y5 y6 rs rows,σ=[some (.ref a),some (.ref tp),some (.ref pf),y4,y5,y6]∧aD H H'∧fD H' pf rs rows∧rows.length=i∧(∀ b∈rs,H b=none)∧∀ r∈rows,r.length≤100)
  ⟨_,_,_,[],[],rfl,aj npf _,⟨af,rfl,fun i b r h=>by simp at h,by simp⟩,rfl,fun b h=>by simp at h,fun r h=>by simp at h⟩ (fun i σ H' hi h=>?_) (fun σ H' h=>?_)
 ·obtain⟨y4,y5,y6,rs,rows,rfl,sm,ra,lr,hfr,hlr⟩:=h;refine⟨_,rfl,_,rfl,_,_,rfl,rfl,a,ns,_,rfl,sm.seq hS,h63,by lia,by lia,fun c=>⟨bQ rfl,fun pb npb=>?_⟩⟩;have s1:=aj npb (.lst [.int c]);have x1:eS (upd H' pb (.lst [.int c])) pb:=kY c;generalize upd H' pb (.lst [.int c])=H1 at s1 x1;refine⟨_,rfl,pb,7,rfl,x1,by decide,by decide,fun H2 d1 b2 d10 d11=>⟨_,rfl,pb,41,rfl,b2.2,by decide,by decide,fun H3 d2 b3 d20 d21=>⟨bQ rfl,fun l nl=>?_⟩⟩⟩;have s3:=eW.same s1 npb (b2.trans b3);have s4:=s3.trans (aj nl (.lst [.int d1,.int d2]));have x4:eS (upd H3 l (.lst [.int d1,.int d2])) pb:=iW b3.2 nl;have nlp:l≠pb:=fun z=>by obtain⟨_,e⟩:=b3.2; rw[z,e]at nl; cases nl
  have el:upd H3 l (.lst [.int d1,.int d2]) l=some (.lst [.int d1,.int d2]):=af;generalize upd H3 l (.lst [.int d1,.int d2])=H4 at s4 x4 el;refine⟨_,rfl,pb,8,rfl,x4,by decide,by decide,fun H5 d3 b5 d30 d31=>⟨rfl,.inr ⟨_,rfl,?_⟩⟩⟩;obtain⟨k,ek,hk⟩:=xT (m:=100) (b:=decide (V.int d3=V.int 1)) (x:=d1) (y:=d2) (by lia) (by lia);refine⟨l,_,_,_,rfl,rfl,a7.of (b5.1 _ _ nlp el),ek,?_⟩;have s2:=eW.same s4 npb b5;clear b5 el x4 s4 s3 b3 b2 x1 s1;have ra2:=ra.same s2;refine⟨_,rfl,.inl ⟨rfl,_,a7.of ra2.top⟩,?_⟩;refine⟨_,rfl,_,rfl,by lia,by lia,fun p np=>?_⟩;rw[m8];refine eA (fun i H'=>aD H5 H'∧∃ acc:List Int,H' p=some (.lst (aB acc))∧acc.length=i) ⟨aj np _,[],af,rfl⟩ (fun j H3 hj h=>?_) (fun H3 h=>?_)
  ·obtain⟨sm3,acc,ea,la⟩:=h;refine⟨⟨[some (.int (0 + (j:Int)))],rfl,rfl⟩,bP ?_⟩;refine⟨_,rfl,_,rfl,_,_,rfl,rfl,.inl ⟨by decide,by decide⟩,_,_,rfl,rfl,_,rfl,_,_,rfl,rfl,a,ns,_,rfl,(sm.trans (s2.trans sm3)).seq hS,h63,by lia,by lia,fun cc=>⟨cc,rfl,fun H4 z s4=>?_⟩⟩;have ea4:=s4 _ _ ea;exact⟨_,ea4,aO (by unfold aB; rw[cU]; lia),aD.new (sm3.trans s4) np,acc++[z],by rw[af]; unfold aB; rw[je]; rfl,by simp[la]⟩
  ·obtain⟨sm3,acc,ea,la⟩:=h;have ra3:=ra2.same sm3;have lrs:=ra.len;have hpp:pf≠p:=cx ra2.top np;have nprs:¬ p∈rs:=fun m=>by
    obtain⟨j,hj⟩:=Fw.mp m;have hjl:j < rows.length:=by have:=(eQ.mp hj).1; lia
    have:=ra2.row j p _ hj (cu hjl);rw[np]at this; cases this
   refine⟨pf,_,_,rfl,rfl,ra3.top,aO (by rw[cU]; lia),?_⟩;have ndp:=vx.mp ra.nd;refine⟨_,_,_,rs++[p],rows++[acc],rfl,?_,⟨by rw[af,je]; rfl,by simp[lrs],fun j b r hb hr=>?_,?_⟩,by simp[lr],fun b hb=>?_,fun r hr=>?_⟩
   ·exact aD.new (sm.trans (s2.trans sm3)) npf
   ·by_cases hj:j < rs.length
    ·rw[Ec hj]at hb;rw[Ec (by lia)]at hr;have hbm:=gh hb;rw[aq (fun (z:b=pf)=>ndp.1 (by rw[← z]; exact hbm))];exact ra3.row j b r hb hr
    ·rw[CG (by lia)]at hb hr;have:j=rs.length:=by
      have:=(eQ.mp hb).1;simp at this; lia
     subst this;simp at hb;simp[lrs]at hr;subst hb hr;rw[aq hpp.symm];exact ea
   ·have nds:=fN ndp.2 nprs;refine vx.mpr ⟨fun m=>?_,nds⟩;rcases fv.mp m with z | z
    ·exact ndp.1 z
    ·exact hpp (dU.mp z)
   ·rcases fv.mp hb with z | z
    ·exact hfr b z
    ·rw[dU.mp z]; exact ay (sm.trans s2) np
   ·rcases fv.mp hr with z | z
    ·exact hlr r z
    ·rw[dU.mp z]; lia
 ·obtain⟨y4,y5,y6,rs,rows,rfl,sm,ra,lr,hfr,hlr⟩:=h;refine⟨_,rfl,q H' pf rs rows sm ra (fun b hb=>?_) lr hlr⟩;rcases dO.mp hb with z | z
  ·rw[z]; exact npf
  ·exact hfr b z
abbrev m9:Stmt:=top 41
def Eg(names rows:Int)(d:D):Prop:=d=.tup [.str "zero"]∨(∃ k:Int,0≤k∧k < names∧d=.tup [.str "name",.int k,.int 0])∨∃ k:Int,0≤k∧k < rows∧d=.tup [.str "len",.int k]
theorem yl{rw:Nat}{d:D}(h:Eg (nm:Int) (rw:Int) d):∃ q:Nd,q.Ok nm rw∧d=q.D:=by
 rcases h with rfl | ⟨k,k0,k1,rfl⟩ | ⟨k,k0,k1,rfl⟩
 ·exact⟨.zero,trivial,rfl⟩
 ·obtain⟨i,rfl⟩:∃ i:Nat,k=(i:Int):=⟨k.toNat,by lia⟩
  exact⟨.name i,by show i < nm; lia,rfl⟩
 ·obtain⟨i,rfl⟩:∃ i:Nat,k=(i:Int):=⟨k.toNat,by lia⟩
  exact⟨.len i,by show i < rw; lia,rfl⟩
theorem lC{K:aW}(y:Option Nat):Is K H (sr y) (kT y):=by
 cases y with
 | none=>exact xg
 | some i=>exact a9
theorem qf(h:Av (nm:Int) v):∃ y,d6 nm y∧v=kT y:=by
 rcases h with rfl | ⟨i,i0,i1,rfl⟩
 ·exact⟨none,trivial,rfl⟩
 ·obtain⟨j,rfl⟩:∃ j:Nat,i=(j:Int):=⟨i.toNat,by lia⟩
  exact⟨some j,by show j < nm; lia,rfl⟩
theorem yJ:aF qJ qL (ao m9):=by walk_at "k"
inductive BL(K:aW)(vs:List V)(H:Hp)(Q:VK)(E:XK):Prop|m(p:Addr)(names rows:Int)(_:vs=[.ref p,.int names,.int rows])(_:eS H p)(_:0≤names)(_:names≤100)(_:0≤rows)(_:rows≤100)(_:∀ (d:D) (v:V) (H':Hp),Eg names rows d→eW p H H'→Is K H' d v→Q v H')
theorem DE(F:cM K "_law_node" "_law_node" m9 f fd)(m_len:mg "len" = none)(m_range:mg "range" = none)(c_law_digit:Cl P w K mg base "_law_digit" n Ab dI):bg P w K mg base cH (n + 1) f fd qL (BL K):=by
 refine F.ok yJ (by walk_at "l") (fun cdv A outer s H vs Q E hr h=>?_);obtain⟨p0,names,rows,rfl,x0,n0,n1,r0,r1,q⟩:=h
 refine⟨_,(@ag _ _ _ _ _ (aV (i:=3) yJ.nd (aR oa (aR oa (bo (aa (aY (aa aJ ae)) ae)) (cS ["_law_k"] rfl (cW (N:=qJ) (so:=ao m9) rfl rfl (by decide +kernel)) (bO rfl m_range (aa (pv 1) ae)) (fun _ _ _ _ _ _=>(aU (i:=0) (show List.Nodup (α:=Str) Js by decide +kernel) rfl (Or.inl rfl) (Or.inr rfl))) (fun _ _ _ _ _ _=>cf) (fun _ _ _ _ _ _=>(aY (aa aJ (aa (pv 0) (aa ai ae))))))) (cS ["_law_k"] rfl (cW (N:=qJ) (so:=ao m9) rfl rfl (by decide +kernel)) (bO rfl m_range (aa (pv 2) ae)) (fun _ _ _ _ _ _=>(aU (i:=0) (show List.Nodup (α:=Str) Js by decide +kernel) rfl (Or.inl rfl) (Or.inr rfl))) (fun _ _ _ _ _ _=>cf) (fun _ _ _ _ _ _=>(aY (aa aJ (aa (pv 0) ae)))))))
   (ak (az (av aK (pv 3) (aC c_law_digit hr rfl (aa (pv 0) (aa (bj a8 rfl m_len qi (aa (pv 3) ae)) ae))))))),?_⟩
 refine⟨bQ rfl,fun t ht=>⟨bQ rfl,fun l hl=>?_⟩⟩;refine⟨_,rfl,names,rfl,by lia,by lia,fun p hp=>?_⟩;have H1s:aD H (upd (upd H t (.tup [.str "zero"])) l (.lst [.ref t])):=(aj ht _).trans (aj hl _);generalize hH1:upd (upd H t (.tup [.str "zero"])) l (.lst [.ref t])=H1 at H1s hp;have e_l:H1 l=some (.lst [.ref t]):=by rw[← hH1]; exact af
 have e_t:H1 t=some (.tup [.str "zero"]):=by rw[← hH1,aq (cx (af) hl)]; exact af
 refine eA (fun i H'=>aD H1 H'∧∃ acc,H' p=some (.lst acc)∧IsL K H' ((List.range i).map fun (k:Nat)=>D.tup [.str "name",.int (k:Int),.int 0]) acc) ⟨aj hp _,[],af,aM⟩ (fun i H' hi h=>?_) (fun H' h=>?_)
 ·obtain⟨sm,acc,ea,il⟩:=h;refine⟨⟨[some (.int (0 + (i:Int)))],rfl,rfl⟩,?_⟩;refine bP ?_;refine⟨_,rfl,bQ rfl,fun t2 ht2=>?_⟩;have tn:=bu.new (o:=.tup [.str "name",.int (0 + (i:Int)),.int 0]) ht2;have ea2:upd H' t2 (.tup [.str "name",.int (0 + (i:Int)),.int 0]) p=some (.lst acc):=by rw[aq (cx ea ht2)]; exact ea
  have ln:=il.length;rw[cU,List.length_range]at ln;refine⟨acc,ea2,aO (by lia),?_,acc++[.ref t2],af,?_⟩
  ·exact aD.new (aD.new sm (ay sm ht2)) hp
  ·rw[List.range_succ,je];refine IsL.append ((il.mono tn).mono (bu.lst ea2)) (au ?_ aM);have et:upd (upd H' t2 (.tup [.str "name",.int (0 + (i:Int)),.int 0])) p (.lst (acc++[.ref t2])) t2=some (.tup [.str "name",.int (0 + (i:Int)),.int 0]):=by
    rw[aq (cx ea ht2).symm]; exact af
   refine cI (bY.of et) (au ee (au ?_ (au a9 aM)));rw[Co]; exact a9
 ·obtain⟨sm,acc,ea,il⟩:=h;have ln:=il.length;rw[cU,List.length_range]at ln;have e_l2:=sm _ _ e_l;refine⟨l,p,_,acc,rfl,rfl,e_l2,ea,small (by simp; lia),fun l3 hl3=>?_⟩;refine⟨_,rfl,rows,rfl,by lia,by lia,fun p4 hp4=>?_⟩;have t3:=bu.new (o:=.lst ([.ref t]++acc)) hl3;have s3:aD H1 (upd H' l3 (.lst ([.ref t]++acc))):=sm.trans (aj hl3 _);have il3:=il.mono t3;have e3:upd H' l3 (.lst ([.ref t]++acc)) l3=some (.lst ([.ref t]++acc)):=af;generalize upd H' l3 (.lst ([.ref t]++acc))=H3 at t3 s3 il3 e3 hp4;refine eA (fun i H'=>aD H3 H'∧∃ acc,H' p4=some (.lst acc)∧IsL K H' ((List.range i).map fun (k:Nat)=>D.tup [.str "len",.int (k:Int)]) acc) ⟨aj hp4 _,[],af,aM⟩ (fun i H' hi h=>?_) (fun H' h=>?_)
  ·obtain⟨sm,acc,ea,il⟩:=h;refine⟨⟨[some (.int (0 + (i:Int)))],rfl,rfl⟩,?_⟩;refine bP ?_;refine⟨_,rfl,bQ rfl,fun t2 ht2=>?_⟩;have tn:=bu.new (o:=.tup [.str "len",.int (0 + (i:Int))]) ht2;have ea2:upd H' t2 (.tup [.str "len",.int (0 + (i:Int))]) p4=some (.lst acc):=by rw[aq (cx ea ht2)]; exact ea
   have ln:=il.length;rw[cU,List.length_range]at ln;refine⟨acc,ea2,aO (by lia),?_,acc++[.ref t2],af,?_⟩
   ·exact aD.new (aD.new sm (ay sm ht2)) hp4
   ·rw[List.range_succ,je];refine IsL.append ((il.mono tn).mono (bu.lst ea2)) (au ?_ aM);have et:upd (upd H' t2 (.tup [.str "len",.int (0 + (i:Int))])) p4 (.lst (acc++[.ref t2])) t2=some (.tup [.str "len",.int (0 + (i:Int))]):=by
     rw[aq (cx ea ht2).symm]; exact af
    refine cI (bY.of et) (au ee (au ?_ aM));rw[Co]; exact a9
  ·obtain⟨sm5,acc5,ea5,il5⟩:=h;have ln5:=il5.length;rw[cU,List.length_range]at ln5;refine⟨l3,p4,_,acc5,rfl,rfl,sm5 _ _ e3,ea5,small (by simp; lia),fun l6 hl6=>?_⟩
   -- the whole list,by data
   have t6:=bu.new (o:=.lst (([.ref t]++acc)++acc5)) hl6;have it:Is K (upd H' l6 (.lst (([.ref t]++acc)++acc5))) (.tup [.str "zero"]) (.ref t):=(cI (bY.of (sm5 _ _ (s3 _ _ e_t))) (au ee aM)).mono t6;have all:=IsL.append (IsL.append (au it aM) ((il3.mono sm5.aS).mono t6)) (il5.mono t6);have e6:upd H' l6 (.lst (([.ref t]++acc)++acc5)) l6=some (.lst (([.ref t]++acc)++acc5)):=af;have s6:aD H (upd H' l6 (.lst (([.ref t]++acc)++acc5))):=H1s.trans (s3.trans (sm5.trans (aj hl6 _)));generalize upd H' l6 (.lst (([.ref t]++acc)++acc5))=H6 at e6 all s6;have x6:eS H6 p0:=by obtain⟨c,e⟩:=x0; exact⟨c,s6 _ _ e⟩
   have h60:H l6=none:=ay (H1s.trans (s3.trans sm5)) hl6;have n6:l6≠p0:=fun z=>by obtain⟨c,e⟩:=x0; rw[z,e]at h60; cases h60
   have tot:(([V.ref t]++acc)++acc5).length=1 + names.toNat + rows.toNat:=by simp; lia
   refine⟨_,rfl,_,rfl,_,rfl,l6,_,rfl,.inl (a7.of e6),p0,_,rfl,x6,by rw[tot]; lia,by rw[tot]; lia,fun H7 d7 b7 d0 d1=>?_⟩;obtain⟨j,rfl⟩:∃ j:Nat,d7=(j:Int):=⟨d7.toNat,by lia⟩
   have hj:j < (([V.ref t]++acc)++acc5).length:=by lia
   have ej:=cu hj;generalize (([V.ref t]++acc)++acc5)[j]=v at ej;refine⟨l6,_,_,v,rfl,rfl,a7.of (b7.1 _ _ n6 e6),bf ej,?_⟩;obtain⟨d,ed,isd⟩:=all.get' ej;refine q d v H7 ?_ ⟨fun b o ne e=>b7.1 b o ne (s6 b o e),b7.2⟩ (isd.mono (eW.aS x6 b7));have md:=gh ed;rcases fv.mp md with md | md
   ·rcases fv.mp md with md | md
    ·rw[dU.mp md]; exact .inl rfl
    ·obtain⟨k,hk,rfl⟩:=zM.mp md;have:=List.mem_range.mp hk;exact .inr (.inl ⟨k,by lia,by lia,rfl⟩)
   ·obtain⟨k,hk,rfl⟩:=zM.mp md;have:=List.mem_range.mp hk;exact .inr (.inr ⟨k,by lia,by lia,rfl⟩)
abbrev fg:Stmt:=top 42
theorem eM:aF ["_law_lines","_law_goal_here","_law_at","_law_due","_law_seen","_law_here"] qM (ao fg):=by walk_at "k"
def iK(ls:List Ln)(i j:Nat):Prop:=∃ bs k m,ls[i]?=some (.ask bs k m)∧(j=k∨j=m)
inductive kG (ls:List Ln):Nat→Nat→Prop
 | refl (i:Nat):kG ls i i
 | step {i j k:Nat}:iK ls i j→kG ls j k→kG ls i k
def CN(ls:List Ln)(a:Nat)(S W:List Nat)(j:Nat):Prop:=j∈W∨j∈S∨((∀ k,¬ iK ls j k)∧j≠a)
structure LB (ls:List Ln) (a g:Nat) (S W:List Nat):Prop where
 nd:S.Nodup
 lt:∀ i∈S,i < ls.length
 g0:CN ls a S W g
 c:∀ i∈S,∀ j,iK ls i j→CN ls a S W j
 ne:∀ i∈S,i≠a
theorem LB.done(h:LB ls a g S []):¬ kG ls g a:=by
 have key:∀ i k,kG ls i k→CN ls a S [] i→k≠a:=by
  intro i k hl
  induction hl with
  | refl i=>
   intro hi;rcases hi with hi | hi | hi
   ·cases hi
   ·exact h.ne i hi
   ·exact hi.2
  | @step i j k e _ ih=>
   intro hi;rcases hi with hi | hi | hi
   ·cases hi
   ·exact ih (h.c i hi j e)
   ·exact absurd e (hi.1 j)
 exact fun hl=>key _ _ hl h.g0 rfl
theorem CN.drop(hx:x∈S∨((∀ k,¬ iK ls x k)∧x≠a))(h:CN ls a S (W++[x]) j):CN ls a S W j:=by
 rcases h with h | h | h
 ·rcases fv.mp h with h | h
  ·exact .inl h
  ·rw[dU.mp h]; exact .inr hx
 ·exact .inr (.inl h)
 ·exact .inr (.inr h)
theorem LB.drop(h:LB ls a g S (W++[x]))(hx:x∈S∨((∀ k,¬ iK ls x k)∧x≠a)):LB ls a g S W:=
 ⟨h.nd,h.lt,h.g0.drop hx,fun i hi j e=>(h.c i hi j e).drop hx,h.ne⟩
theorem CN.new{k:Nat}(h:CN ls a S (W++[x]) j):CN ls a (S++[x]) (W++[k,m]) j:=by
 rcases h with h | h | h
 ·rcases fv.mp h with h | h
  ·exact .inl (tq _ h)
  ·exact .inr (.inl (vA _ h))
 ·exact .inr (.inl (tq _ h))
 ·exact .inr (.inr h)
theorem LB.new{k:Nat}{bs:List Bd}(h:LB ls a g S (W++[x]))(hx:x∉S)(hl:x < ls.length)(ha:x≠a)(e:ls[x]?=some (.ask bs k m)):LB ls a g (S++[x]) (W++[k,m]):=by
 refine⟨fN h.nd hx,fun i hi=>?_,h.g0.new,fun i hi j q=>?_,fun i hi=>?_⟩
 ·rcases fv.mp hi with hi | hi
  ·exact h.lt i hi
  ·rw[dU.mp hi]; exact hl
 ·rcases fv.mp hi with hi | hi
  ·exact (h.c i hi j q).new
  ·obtain⟨bs',k',m',e',hj⟩:=q;rw[dU.mp hi,e]at e';cases e';exact .inl (vA _ (by rcases hj with rfl | rfl <;> simp))
 ·rcases fv.mp hi with hi | hi
  ·exact h.ne i hi
  ·rw[dU.mp hi]; exact ha
inductive mq(K:aW)(vs:List V)(H:Hp)(Q:VK)(E:XK):Prop|m(al:Addr)(ls:List Ln)(xs:List V)(g a:Nat)(_:vs=[.ref al,.int (g:Int),.int (a:Int)])(_:H al=some (.lst xs))(_:IsL K H (ls.map Ln.D) xs)(_:ls.length≤100)(_:∀ (b:Bool) (H':Hp),aD H H'→(b=false→¬ kG ls g a)→Q (.bl b) H')
theorem pO(F:cM K "_law_leads_back" "_law_leads_back" fg f fd)(m_len:mg "len" = none)(m_list:mg "list" = none):bg P w K mg base cH (n + 1) f fd qM (mq K):=by
 refine F.ok eM (by walk_at "l") (fun cdv A outer s H vs Q E hr h=>?_);obtain⟨al,ls,xs,g,a,rfl,el,il,l100,q⟩:=h;have hu:(A.deeper (envOfC "_law_leads_back" (ao fg) s.heap.objs.size f cdv)).units + 1 < cLine:=by have:=hr.units; lia
 refine⟨_,(@ag _ _ _ _ _ (aV (i:=3) eM.nd (bo (aa (pv 1) ae)))
   (@ag _ _ _ _ _ (aV (i:=4) eM.nd B5)
   (@ag _ _ _ _ _ (gi mO (aE lY (bj a8 rfl m_len qi (aa (pv 3) ae)) ai) (@ag _ _ _ _ _ (aV (i:=5) eM.nd (AS v9 PySem.F.slot_list_pop PySem.F.type_list_pop Bp (pv 3)))
   (@ag _ _ _ _ _ (ba (aE bA (pv 5) (pv 2)) (ak (az dR)) aN)
   (ak (ba (PW.pt (kU (aE kf (pv 5) (bj a8 rfl m_len qi (aa (pv 0) ae))) (kU (aE bA (av aA (av aK (pv 0) (pv 5)) ai) aJ) (mP (sF (lH hu (pv 5) (pv 4))))))) (@ag _ _ _ _ _ (gI hu (pv 4) (pv 5) dR rfl)
   (ak (bZ (fJ v9 PySem.F.slot_list_extend PySem.F.type_list_extend pW (pv 3) (aa (bw dg rfl m_list C7 (aa (hU vE (av aK (pv 0) (pv 5)) (fH (nJ jG ai)) yy) ae)) ae))))) aN)))))
   (ak (az dR))))),?_⟩
 have lx:xs.length=ls.length:=by have:=il.length; rw[cU]at this; exact this.symm
 refine⟨_,rfl,bQ rfl,fun pw npw=>fun pd npd=>?_⟩;have s1:=aj npw (.lst [.int (g:Int)]);have ew:upd (upd H pw (.lst [.int (g:Int)])) pd (.dK []) pw=some (.lst (aX [g])):=(aj npd _) _ _ af;have ed:upd (upd H pw (.lst [.int (g:Int)])) pd (.dK []) pd=some (.dK (bz [] yes)):=af;have s2:=s1.trans (aj npd (.dK []));have npd0:=ay s1 npd;have hdw:pd≠pw:=fun z=>by rw[z,af]at npd; cases npd
 generalize upd (upd H pw (.lst [.int (g:Int)])) pd (.dK [])=H2 at ew ed s2;clear s1 npd
 refine⟨fun m σ H'=>∃ (S W:List Nat) (y5:Option V),aD H H'∧H' pd=some (.dK (bz S yes))∧H' pw=some (.lst (aX W))∧LB ls a g S W∧(m=3 * (ls.length - S.length) + W.length∧m≤3 * ls.length + 1)∧σ=[some (.ref al),some (.int (g:Int)),some (.int (a:Int)),some (.ref pw),some (.ref pd),y5],
  ⟨_,[],[g],_,s2,ed,ew,⟨List.nodup_nil,fun i h=>(nomatch h),.inl (dU.mpr rfl),fun i h=>(nomatch h),fun i h=>(nomatch h)⟩,⟨rfl,cq _⟩,rfl⟩,fun m σ H3 h=>?_⟩
 obtain⟨S,W,y5,s3,ed3,ew3,C,⟨rfl,hm0⟩,rfl⟩:=h;have hS:=cX C.nd C.lt;refine⟨_,rfl,pw,_,rfl,.inl (a7.of ew3),_,_,rfl,rfl,_,rfl,?_⟩;rcases List.eq_nil_or_concat W with rfl | ⟨W',x,rfl⟩
 ·exact bp (q false _ s3 fun _=>C.done)
 rw[List.concat_eq_append]at ew3 C hm0 ⊢;have ea:(aX (W'++[x]))=aX W'++[.int (x:Int)]:=by unfold aX; rw[je]; rfl
 have la:(W'++[x]).length=W'.length + 1:=by simp
 rw[la]at hm0;refine cT (fun _=>?_) (fun cc=>absurd (by rw[ea]; simp) cc);refine⟨fun σ' H'=>∃ m',m' < 3 * (ls.length - S.length) + (W'++[x]).length∧∃ (S W:List Nat) (y5:Option V),aD H H'∧H' pd=some (.dK (bz S yes))∧H' pw=some (.lst (aX W))∧LB ls a g S W∧(m'=3 * (ls.length - S.length) + W.length∧m'≤3 * ls.length + 1)∧σ'=[some (.ref al),some (.int (g:Int)),some (.int (a:Int)),some (.ref pw),some (.ref pd),y5],fun _ _ h=>h,?_⟩;refine⟨_,rfl,.inl ⟨rfl,_,a7.of ew3⟩,pw,_,.int (x:Int),rfl,rfl,ew3,by rw[ea]; simp,?_⟩;have ew4:upd H3 pw (.lst (aX (W'++[x])).dropLast) pw=some (.lst (aX W')):=by rw[af,ea,List.dropLast_concat]
 have ed4:upd H3 pw (.lst (aX (W'++[x])).dropLast) pd=some (.dK (bz S yes)):=by rw[aq hdw]; exact ed3
 have s4:aD H (upd H3 pw (.lst (aX (W'++[x])).dropLast)):=aD.new s3 npw;generalize upd H3 pw (.lst (aX (W'++[x])).dropLast)=H4 at ew4 ed4 s4;clear ew3 ed3 s3;refine⟨_,rfl,_,rfl,rfl,_,rfl,cT (fun _=>q true _ s4 fun z=>nomatch z) (fun ca=>?_)⟩;have hxa:x≠a:=fun z=>ca (ff (by rw[z]))
 have el4:=s4 _ _ el;have il4:=il.mono s4.aS
 -- the node is left aside
 have aside:∀ {H5:Hp},aD H H5→H5 pd=some (.dK (bz S yes))→H5 pw=some (.lst (aX W'))→(x∈S∨((∀ k,¬ iK ls x k)∧x≠a))→∃ m',m' < 3 * (ls.length - S.length) + (W'++[x]).length∧∃ (S W:List Nat) (y5:Option V),aD H H5∧H5 pd=some (.dK (bz S yes))∧H5 pw=some (.lst (aX W))∧LB ls a g S W∧(m'=3 * (ls.length - S.length) + W.length∧m'≤3 * ls.length + 1)∧[some (V.ref al),some (.int (g:Int)),some (.int (a:Int)),some (.ref pw),some (.ref pd),some (.int (x:Int))]=[some (.ref al),some (.int (g:Int)),some (.int (a:Int)),some (.ref pw),some (.ref pd),y5]:=
  fun s5 d5 w5 hx=>⟨_,by rw[la]; exact Nat.lt_succ_self _,S,W',_,s5,d5,w5,C.drop hx,⟨rfl,by lia⟩,rfl⟩
 refine⟨_,rfl,_,rfl,al,_,rfl,.inl (a7.of el4),_,_,rfl,rfl,_,rfl,cT (fun cb=>?_) (fun cb=>bp (aside s4 ed4 ew4 (.inr ⟨fun k e=>?_,hxa⟩)))⟩;rotate_left
 ·obtain⟨bs,k',m',e',_⟩:=e;have:=(eQ.mp e').1;exact cb (ff (by lia))
 have hx:x < ls.length:=by have:=pH cb; lia
 have eL:=cu hx;obtain⟨vl,evl,ivl⟩:=il4.get (j:=x) (d:=ls[x].D) (by rw[lK,eL]; rfl);generalize ls[x]=l at eL ivl;obtain⟨tl,vs',rfl,hq,iargs⟩:=dk ivl;refine⟨_,rfl,_,rfl,al,xs,_,_,rfl,rfl,a7.of el4,bf evl,tl,_,0,_,rfl,rfl,hq,dW _ _,rfl,_,rfl,cT (fun cc=>?_) (fun cc=>bp (aside s4 ed4 ew4 (.inr ⟨fun k e=>?_,hxa⟩)))⟩;rotate_left
 ·obtain⟨bs,k',m',e',_⟩:=e;rw[eL]at e';cases e';exact cc (ff rfl)
 obtain⟨bs,k,m,rfl⟩:=oV (gS cc);refine⟨_,rfl,_,rfl,pd,_,rfl,jt.k (k:=.inl (x:Int)) ed4,_,rfl,?_⟩;rw[fc];by_cases hxS:x∈S
 ·rw[if_pos hxS];exact bp (aside s4 ed4 ew4 (.inl hxS))
 rw[if_neg hxS];obtain⟨v1,r2,rfl,_,i3⟩:=mB iargs;obtain⟨r3,rfl,i4⟩:=bD i3;obtain⟨r4,rfl,i5⟩:=bD i4;cases i5.nil_inv;have C2:=C.new hxS hx hxa eL;have hl2:=cX C2.nd C2.lt;rw[iD,vm]at hl2;refine bI ⟨_,rfl,_,rfl,pd,_,rfl,nP.k (k:=.inl (x:Int)) ed4 (aO (by rw[gK]; lia)),?_⟩;have e7:putK (bz S yes) (Sum.inl (x:Int)) (.bl true)=bz (S++[x]) yes:=mJ (g:=yes) hxS;rw[e7];have ed7:upd H4 pd (.dK (bz (S++[x]) yes)) pd=some (.dK (bz (S++[x]) yes)):=af;have ew7:upd H4 pd (.dK (bz (S++[x]) yes)) pw=some (.lst (aX W')):=by rw[aq (Ne.symm hdw)]; exact ew4
 have s7:aD H (upd H4 pd (.dK (bz (S++[x]) yes))):=aD.new s4 npd0;have tp7:bu H4 (upd H4 pd (.dK (bz (S++[x]) yes))):=⟨fun b zs e=>by rw[aq (bh e ed4 (by intro z; cases z))]; exact e,fun b o u e=>by rw[aq (bh e ed4 (by intro z; cases z))]; exact e⟩
 have hq7:bY K (upd H4 pd (.dK (bz (S++[x]) yes))) tl [.str "ask",v1,.int (k:Int),.int (m:Int)]:=tp7.sq hq;generalize upd H4 pd (.dK (bz (S++[x]) yes))=H7 at ed7 ew7 s7 hq7 tp7;refine⟨_,rfl,.inl ⟨rfl,_,a7.of ew7⟩,_,rfl,_,rfl,al,xs,_,_,rfl,rfl,a7.of (s7 _ _ el),bf evl,_,rfl,_,rfl,tl,_,rfl,hq7,fun h=>absurd h.1 (show ¬ (HT.dC 4 0 (some (-2))=0) by decide),fun t ht=>⟨t,_,rfl,.inr (bY.of af),fun l nl=>?_⟩⟩;have u8:=aj ht (.tup (my [V.str "ask",v1,.int (k:Int),.int (m:Int)] (some (-2)) none));have u9:=u8.trans (aj nl (.lst (my [V.str "ask",v1,.int (k:Int),.int (m:Int)] (some (-2)) none)));refine⟨pw,l,_,_,rfl,rfl,u9 _ _ ew7,af,small (by rw[bJ]; show W'.length + 2≤1000; lia),?_⟩;refine⟨_,?_,S++[x],W'++[k,m],_,aD.new (s7.trans u9) npw,?_,?_,C2,⟨rfl,?_⟩,rfl⟩
 ·simp only[iD,tD,List.length_nil]; lia
 ·rw[aq hdw]; exact u9 _ _ ed7
 ·rw[af]; unfold aX; rw[je]; rfl
 ·simp only[iD,tD,List.length_nil]; lia
abbrev xY:Stmt:=top 43
theorem lN:aF ["_law_script","_law_box","_law_names","_law_rows_here","_law_at","_law_lines","_law_many","_law_bounds","_law_k","_law_goals","_law_other","_law_a","_law_b"] qD (ao xY):=by walk_at "k"
theorem eW.refl(x:eS H p):eW p H H:=⟨fun _ _ _ e=>e,x⟩
theorem eW.more(b:eW p H H1)(s:aD H1 H2):eW p H H2:=⟨fun c o ne e=>s c o (b.1 c o ne e),by obtain⟨c,e⟩:=b.2; exact⟨c,s _ _ e⟩⟩
theorem eW.put{l:Addr}(b:eW p H H1)(n:H l=none)(np:l≠p):eW p H (upd H1 l o):=⟨fun c u ne e=>by rw[aq (aH e n)]; exact b.1 c u ne e,by obtain⟨c,e⟩:=b.2; exact⟨c,by rw[aq np.symm]; exact e⟩⟩
def wj(ls:List Ln)(a:Nat)(l:Ln):Prop:=∀ bs k m,l=.ask bs k m→¬ kG ls k a∧¬ kG ls m a
inductive Er(K:aW)(vs:List V)(H:Hp)(Q:VK)(E:XK):Prop|m(a pb:Addr)(ns:List Int)(nm rw at_ many:Nat)(al:Addr)(ls:List Ln)(xs:List V)(_:vs=[.ref a,.ref pb,.int (nm:Int),.int (rw:Int),.int (at_:Int),.ref al,.int (many:Int)])(_:(∀ H',eW pb H H'→a7 K H' a (ns.map V.int)))(_:ns.length≤63)(_:eS H pb)(_:al≠pb)(_:H al=some (.lst xs))(_:IsL K H (ls.map Ln.D) xs)(_:ls.length≤100)(_:nm≤100)(_:rw≤100)(_:at_ < many)(_:many≤100)(_:∀ (l:Ln) (v:V) (H':Hp),l.Ok nm rw many→wj ls at_ l→eW pb H H'→Is K H' l.D v→Q v H')
theorem Fs(F:cM K "_law_ask" "_law_ask" xY f fd)(m_range:mg "range" = none)(m_tuple:mg "tuple" = none)(c_law_draw:Cl P w K mg base "_law_draw" n Et (jw K))(c_law_digit:Cl P w K mg base "_law_digit" n Ab dI)(c_law_number:Cl P w K mg base "_law_number" n qX oU)
  (c_law_node:Cl P w K mg base "_law_node" n qL (BL K)) (c_law_goal:Cl P w K mg base "_law_goal" n GK wN) (c_law_leads_back:Cl P w K mg base "_law_leads_back" n qM (mq K)):bg P w K mg base cH (n + 1) f fd qD (Er K):=by
 refine F.ok lN (by walk_at "l") (fun cdv A outer s H vs Q E hr h=>?_);obtain⟨a,pb,ns,nm,rw,at_,many,al,ls,xs,rfl,hS,h63,x0,nlb,el0,il0,l100,hnm,hrw,ha,hm,q⟩:=h
 refine⟨_,(@ag _ _ _ _ _ (aV (i:=7) lN.nd (bo ae))
   (@ag _ _ _ _ _ (cQ mO rfl (bO rfl m_range (aa (aR bK ai (aC c_law_digit hr rfl (aa (pv 1) (aa ai ae)))) ae)) (aU (i:=8) lN.nd rfl (Or.inl rfl)) (@ag _ _ _ _ _ (aV (i:=10) lN.nd (bo (aa (aC c_law_draw hr rfl (aa (pv 0) (aa (aR bK (aR bK ai (aR eC ai (pv 4))) (pv 8)) ae))) ae)))
   (@ag _ _ _ _ _ (aV (i:=11) lN.nd (aC c_law_node hr rfl (aa (pv 10) (aa (pv 2) (aa (pv 3) ae)))))
   (@ag _ _ _ _ _ (aV (i:=12) lN.nd (aC c_law_node hr rfl (aa (pv 10) (aa (pv 2) (aa (pv 3) ae)))))
   (ak (bZ (fJ v9 Cp Cv cE (pv 7) (aa (aY (aa (pv 11) (aa (pv 12) (aa (aC c_law_number hr rfl (aa (pv 10) ae)) ae)))) ae))))))))
   (@ag _ _ _ _ _ (zl (j:=8) (EC (j:=8) (y:="?") (jA (i:=9) ["_law_k"] rfl (cW (N:=Ju) (so:=ao xY) rfl rfl (by decide +kernel)) (show List.Nodup (α:=Str) Ju by decide +kernel) rfl (Or.inl rfl) (bO rfl m_range (aa ai ae)) (fun _ _ _ _ _ _=>(aU (i:=0) (show List.Nodup (α:=Str) ["_law_k","_law_script","_law_box","_law_names","_law_rows_here","_law_at","_law_lines","_law_many","_law_bounds","?","_law_goals","_law_other","_law_a","_law_b"] by decide +kernel) rfl (Or.inl rfl) (Or.inr rfl))) (fun _ _ _ _ _ _=>cf) (fun _ _ _ _ _ _=>(aC c_law_goal hr rfl (aa (pv 2) (aa (pv 5) (aa (pv 7) ae))))) rfl)))
   (@ag _ _ _ _ _ (ba (PW.pt (yt (dH (aC c_law_leads_back hr rfl (aa (pv 5) (aa (av aK (pv 9) ai) (aa (pv 4) ae))))) (sf (dH (aC c_law_leads_back hr rfl (aa (pv 5) (aa (av aK (pv 9) ai) (aa (pv 4) ae)))))))) (ak (az (aY (aa aJ ae)))) aN)
   (ak (az (aY (aa aJ (aa (bw jk rfl m_tuple PyProof.Rows.boot_tuple (aa (pv 7) ae)) (aa (av aK (pv 9) ai) (aa (av aK (pv 9) ai) ae))))))))))),?_⟩
 refine⟨bQ rfl,fun l hl=>?_⟩;have nlp:l≠pb:=fun z=>by obtain⟨c,e⟩:=x0; rw[z,e]at hl; cases hl
 have b1:eW pb H (upd H l (.lst [])):=(eW.refl x0).put hl nlp;have e1:upd H l (.lst []) l=some (.lst []):=af;generalize upd H l (.lst [])=H1 at b1 e1;refine⟨_,rfl,pb,4,rfl,b1.2,by decide,by decide,fun H2 d b2 d0 d1=>⟨_,_,rfl,rfl,_,rfl,by lia,by lia,?_⟩⟩;have b02:=b1.trans b2;have e2:=b2.1 _ _ nlp e1
 refine dh (fun j σ H'=>eW pb H H'∧∃ acc bs y8 y10 y11 y12,H' l=some (.lst acc)∧IsL K H' (bs.map Bd.D) acc∧bs.length=j∧(∀ b∈bs,Bd.Ok nm rw b)∧
   σ=[some (.ref a),some (.ref pb),some (.int (nm:Int)),some (.int (rw:Int)),some (.int (at_:Int)),some (.ref al),some (.int (many:Int)),some (.ref l),y8,none,y10,y11,y12]) ⟨b02,[],[],_,_,_,_,e2,aM,rfl,fun d hd=>by simp at hd,rfl⟩ (fun j σ H' hj h=>?_) (fun σ H' h=>?_)
 ·obtain⟨bm,acc,bs,y8,y10,y11,y12,el,il,ln,hb,rfl⟩:=h;have hj4:j < 4:=by lia
  refine⟨_,rfl,_,rfl,_,_,rfl,rfl,.inl ⟨by decide,by decide⟩,_,_,rfl,rfl,_,rfl,_,_,rfl,rfl,a,ns,_,rfl,hS _ bm,h63,by lia,by lia,fun c=>⟨bQ rfl,fun po npo=>?_⟩⟩;have s1:=aj npo (.lst [.int c]);have x1:eS (upd H' po (.lst [.int c])) po:=kY c;generalize upd H' po (.lst [.int c])=G1 at s1 x1;refine⟨_,rfl,_,rfl,_,rfl,po,(nm:Int),(rw:Int),rfl,x1,by lia,by lia,by lia,by lia,fun d1 v1 G2 nd1 g2 is1=>?_⟩;refine⟨_,rfl,_,rfl,_,rfl,po,(nm:Int),(rw:Int),rfl,g2.2,by lia,by lia,by lia,by lia,fun d2 v2 G3 nd2 g3 is2=>?_⟩;have g23:=g2.trans g3;have s3:=eW.same s1 npo g23;refine⟨_,rfl,.inl ⟨rfl,_,a7.of (s3 _ _ el)⟩,_,rfl,_,rfl,_,rfl,po,rfl,g3.2,fun G4 c3 g4 c30 c31=>⟨bQ rfl,fun t ht=>?_⟩⟩;obtain⟨q1,ok1,rfl⟩:=yl nd1;obtain⟨q2,ok2,rfl⟩:=yl nd2;have s4:=eW.same s1 npo (g23.trans g4);have is1':=is1.mono (eW.aS g2.2 (g3.trans g4));have is2':=is2.mono (eW.aS g3.2 g4);have el3:=s4 _ _ el;have tn:=bu.new (o:=.tup [v1,v2,.int c3]) ht;have el4:upd G4 t (.tup [v1,v2,.int c3]) l=some (.lst acc):=by rw[aq (cx el3 ht)]; exact el3
  have la:=il.length;rw[cU]at la;refine⟨l,acc,.ref t,rfl,rfl,el4,aO (by lia),?_,acc++[.ref t],bs++[⟨q1,q2,c3⟩],_,_,_,_,af,?_,by simp[ln],fun d hd=>?_,rfl⟩
  ·exact (bm.more (s4.trans (aj ht _))).put hl nlp
  ·have tl:=bu.lst (ys:=acc++[.ref t]) el4;rw[je];refine IsL.append ((((il.mono s4.aS).mono tn).mono tl)) (au ?_ aM);have et:upd (upd G4 t (.tup [v1,v2,.int c3])) l (.lst (acc++[.ref t])) t=some (.tup [v1,v2,.int c3]):=by rw[aq (cx el3 ht).symm]; exact af
   exact cI (bY.of et) (au ((is1'.mono tn).mono tl) (au ((is2'.mono tn).mono tl) (au a9 aM)))
  ·rcases fv.mp hd with hd | hd
   ·exact hb d hd
   ·rw[dU.mp hd];exact⟨ok1,ok2⟩
 ·obtain⟨bm,acc,bs,y8,y10,y11,y12,el,il,ln,hb,rfl⟩:=h;have hb4:0 < bs.length∧bs.length≤4:=by lia
  refine⟨rfl,2,rfl,by decide,by decide,fun lg hlg=>?_⟩;have nlg:H lg=none:=by
   cases e:H lg with
   | none=>rfl
   | some o=>
    by_cases z:lg=pb
    ·obtain⟨c,e'⟩:=bm.2;rw[z,e']at hlg; cases hlg
    ·rw[bm.1 _ _ z e]at hlg; cases hlg
  have ngp:lg≠pb:=fun z=>by obtain⟨c,e'⟩:=bm.2; rw[z,e']at hlg; cases hlg
  have ngl:lg≠l:=fun z=>by rw[z,el]at hlg; cases hlg
  refine eA (n:=2) (fun j G=>eW pb H G∧G l=some (.lst acc)∧IsL K G (bs.map Bd.D) acc∧∃ (gs:List Int),G lg=some (.lst (gs.map V.int))∧gs.length=j∧∀ g∈gs,0≤g∧g < (many:Int))
   ⟨bm.put nlg ngp,by rw[aq ngl.symm]; exact el,il.mono (bu.new hlg),[],af,rfl,fun g hg=>by simp at hg⟩ (fun j G hj h=>?_) (fun G h=>?_)
  ·obtain⟨b5,el5,il5,gs,eg,lgs,hg⟩:=h;refine⟨⟨[some (.int (0 + (j:Int)))],rfl,rfl⟩,bP ⟨_,rfl,_,rfl,_,rfl,pb,_,_,rfl,b5.2,by lia,by lia,by lia,fun G6 g b6 g0 g1=>?_⟩⟩;have eg6:=b6.1 _ _ ngp eg;refine⟨_,eg6,aO (by rw[cU]; lia),(b5.trans b6).put nlg ngp,by rw[aq ngl.symm]; exact b6.1 _ _ nlp el5,(il5.mono (eW.aS b5.2 b6)).mono (bu.lst eg6),gs++[g],by rw[je]; exact af,by simp[lgs],fun x hx=>?_⟩;rcases fv.mp hx with hx | hx
   ·exact hg x hx
   ·rw[dU.mp hx]; exact⟨g0,g1⟩
  obtain⟨b5,el5,il5,gs,eg,lgs,hg⟩:=h;obtain⟨g1,g2,rfl⟩:∃ g1 g2,gs=[g1,g2]:=by
   match gs,lgs with
   | [g1,g2],_=>exact⟨g1,g2,rfl⟩
  have h1:=hg g1 (oE ..);have h2:=hg g2 (tu _ (oE ..));obtain⟨k,rfl⟩:∃ i:Nat,g1=(i:Int):=⟨g1.toNat,by lia⟩
  obtain⟨m,rfl⟩:∃ i:Nat,g2=(i:Int):=⟨g2.toNat,by lia⟩
  have eal:=b5.1 _ _ nlb el0;have ial:=il0.mono (eW.aS x0 b5);have stop:∀ {G':Hp},aD G G'→∀ t,G' t=none→Q (.ref t) (upd G' t (.tup [.str "end"])):=fun s' t ht=>q .stop _ _ trivial (fun bs k m z=>nomatch z) (b5.more (s'.trans (aj ht _))) (cI (bY.of af) (au ee aM))
  refine⟨rfl,?_⟩;refine⟨_,rfl,_,rfl,lg,_,0,_,rfl,rfl,a7.of eg,dW _ _,_,rfl,al,ls,xs,k,at_,rfl,eal,ial,by lia,fun t1 G7 s7 h7=>?_⟩;cases t1 with
  | true=>exact⟨_,rfl,bI (bI ⟨bQ rfl,fun t ht=>stop s7 t ht⟩)⟩
  | false=>
   refine⟨_,rfl,bp ⟨_,rfl,_,rfl,lg,_,1,_,rfl,rfl,a7.of (s7 _ _ eg),jO _ _ _,_,rfl,al,ls,xs,m,at_,rfl,s7 _ _ eal,ial.mono s7.aS,by lia,fun t2 G8 s8 h8=>?_⟩⟩;have s58:=s7.trans s8;cases t2 with
   | true=>exact⟨_,rfl,bI ⟨bQ rfl,fun t ht=>stop s58 t ht⟩⟩
   | false=>
    refine⟨_,rfl,bp ?_⟩;refine⟨_,rfl,l,acc,rfl,.inl ⟨a7.of (s58 _ _ el5),fun t2 ht2=>?_⟩⟩;have u2:=aj ht2 (.tup acc);have eg2:=u2 _ _ (s58 _ _ eg);refine⟨_,rfl,lg,_,0,_,rfl,rfl,a7.of eg2,dW _ _,_,rfl,lg,_,1,_,rfl,rfl,a7.of eg2,jO _ _ _,bQ rfl,fun t3 ht3=>?_⟩;have u3:=aj ht3 (.tup [.str "ask",.ref t2,.int (k:Int),.int (m:Int)]);refine q (.ask bs k m) _ _ ⟨hb,⟨hb4.1,by lia⟩,by lia,by lia⟩ (fun bs' k' m' z=>by cases z; exact⟨h7 rfl,h8 rfl⟩) (b5.more (s58.trans (u2.trans u3))) ?_;exact cI (bY.of af) (au ee (au ((cI (bY.of af) ((il5.mono s58.aS).mono u2.aS)).mono u3.aS) (au a9 (au a9 aM))))
abbrev wL:Stmt:=top 44
theorem eI:aF ["_law_script","_law_names","_law_rows_here","_law_at","_law_lines","_law_many","_law_box","_law_some","_law_word","_law_goal_here","_law_y","_law_c","_law_x","_law_row"] Im (ao wL):=by walk_at "k"
theorem JD{x a b:Str}:vz (.str x) [.str a,.str b]=true↔x=a∨x=b:=by
 show (([V.str a,V.str b]).any fun y=>yE y (.str x))=true↔_;simp only[List.any_cons,List.any_nil,Bool.or_false,Bool.or_eq_true];show (a == x)=true∨(b == x)=true↔_;simp only[beq_iff_eq];constructor
 ·rintro (h | h); exact .inl h.symm; exact .inr h.symm
 ·rintro (h | h); exact .inl h.symm; exact .inr h.symm
theorem FU{i:Int}(h0:0≤i)(h1:i < (xs.length:Int)):∃ v,me xs i=some v∧v∈xs:=by
 obtain⟨j,rfl⟩:∃ j:Nat,i=(j:Int):=⟨i.toNat,by lia⟩
 have hj:j < xs.length:=by lia
 exact⟨xs[j],bf (cu hj),vB hj⟩
def gu(nm rw:Nat)(w:Str):Prop:=w = "test"∨w = "ask"∨w = "end"∨(0 < nm∧(w = "set"∨w = "sum"∨w = "take"∨w = "tell"))∨(0 < nm∧0 < rw∧(w = "len"∨w = "get"∨w = "put"))
def On(nm:Nat)(τ:Int):Prop:=(τ=0∧nm=0)∨(τ=1∧0 < nm)
def HM(nm rw:Nat)(τ:Int):Prop:=τ=0∨(τ=1∧0 < nm∧0 < rw)
theorem Gh(nm:Nat):∃ τ:Int,(if decide ((0:Int) < (nm:Int))=true then (1:Int) else 0)=τ∧On nm τ:=by
 by_cases h:(0:Int) < (nm:Int)
 ·exact⟨1,if_pos (ff h),.inr ⟨rfl,by lia⟩⟩
 ·exact⟨0,if_neg (fun z=>h (pH z)),.inl ⟨rfl,by lia⟩⟩
theorem DB{rw:Nat}(h:(0:Int) < (nm:Int) * (rw:Int)):0 < nm∧0 < rw:=by
 rcases Nat.eq_zero_or_pos nm with e | h1
 ·rw[e,show ((0:Nat):Int)=0 from rfl,Int.zero_mul]at h; lia
 rcases Nat.eq_zero_or_pos rw with e | h2
 ·rw[e,show ((0:Nat):Int)=0 from rfl,Int.mul_zero]at h; lia
 exact⟨h1,h2⟩
theorem Fx(nm rw:Nat):∃ τ:Int,(if decide ((0:Int) < (nm:Int) * (rw:Int))=true then (1:Int) else 0)=τ∧HM nm rw τ:=by
 by_cases h:(0:Int) < (nm:Int) * (rw:Int)
 ·exact⟨1,if_pos (ff h),.inr ⟨rfl,DB h⟩⟩
 ·exact⟨0,if_neg (fun z=>h (pH z)),.inl rfl⟩
theorem On.b{τ:Int}(h:On nm τ):0≤τ∧τ≤1:=by rcases h with ⟨rfl,_⟩ | ⟨rfl,_⟩ <;> decide
theorem HM.b{rw:Nat}{τ:Int}(h:HM nm rw τ):0≤τ∧τ≤1:=by rcases h with rfl | ⟨rfl,_⟩ <;> decide
theorem HC{τ:Int}(h:0≤τ∧τ≤1)(hx:xs.length≤10):-(2 ^ 63)≤τ∧τ < 2 ^ 63∧xs.length * τ.toNat≤sizeLine:=by
 refine⟨by lia,by lia,small (vJ (Nat.mul_le_mul_left _ (show τ.toNat≤1 by lia)) (by lia))⟩
theorem DH{τ:Int}(h:0≤τ∧τ≤1)(hx:xs.length≤10):(List.replicate τ.toNat xs).flatten.length≤10:=by
 rw[len_rep];exact vJ (Nat.mul_le_mul_right _ (show τ.toNat≤1 by lia)) (by lia)
theorem Df{τ:Int}(h:v∈(List.replicate τ.toNat xs).flatten):τ≠0∧v∈xs:=by
 obtain⟨l,hl,hv⟩:=List.mem_flatten.mp h;obtain⟨h1,h2⟩:=List.mem_replicate.mp hl;exact⟨fun e=>h1 (by rw[e]; rfl),h2 ▸ hv⟩
noncomputable abbrev wA:List V:=[.str "test",.str "ask",.str "end",.str "test",.str "ask",.str "test"]
noncomputable abbrev wB:List V:=[.str "set",.str "sum",.str "take",.str "tell",.str "set",.str "set"]
noncomputable abbrev wC:List V:=[.str "len",.str "get",.str "put",.str "get",.str "put",.str "get",.str "put",.str "len",.str "get"]
theorem Gv{rw:Nat}(h:v∈wA):∃ w,v=.str w∧gu nm rw w:=by
 simp only[wA,dO,o7,or_false]at h;rcases h with rfl | rfl | rfl | rfl | rfl | rfl
 ·exact⟨_,rfl,.inl rfl⟩
 ·exact⟨_,rfl,.inr (.inl rfl)⟩
 ·exact⟨_,rfl,.inr (.inr (.inl rfl))⟩
 ·exact⟨_,rfl,.inl rfl⟩
 ·exact⟨_,rfl,.inr (.inl rfl)⟩
 ·exact⟨_,rfl,.inl rfl⟩
theorem GJ{rw:Nat}(hn:0 < nm)(h:v∈wB):∃ w,v=.str w∧gu nm rw w:=by
 simp only[wB,dO,o7,or_false]at h;rcases h with rfl | rfl | rfl | rfl | rfl | rfl
 ·exact⟨_,rfl,.inr (.inr (.inr (.inl ⟨hn,.inl rfl⟩)))⟩
 ·exact⟨_,rfl,.inr (.inr (.inr (.inl ⟨hn,.inr (.inl rfl)⟩)))⟩
 ·exact⟨_,rfl,.inr (.inr (.inr (.inl ⟨hn,.inr (.inr (.inl rfl))⟩)))⟩
 ·exact⟨_,rfl,.inr (.inr (.inr (.inl ⟨hn,.inr (.inr (.inr rfl))⟩)))⟩
 ·exact⟨_,rfl,.inr (.inr (.inr (.inl ⟨hn,.inl rfl⟩)))⟩
 ·exact⟨_,rfl,.inr (.inr (.inr (.inl ⟨hn,.inl rfl⟩)))⟩
theorem GB{rw:Nat}(hn:0 < nm)(hr:0 < rw)(h:v∈wC):∃ w,v=.str w∧gu nm rw w:=by
 have L:∃ w,V.str "len" = .str w∧gu nm rw w:=⟨_,rfl,.inr (.inr (.inr (.inr ⟨hn,hr,.inl rfl⟩)))⟩
 have G:∃ w,V.str "get" = .str w∧gu nm rw w:=⟨_,rfl,.inr (.inr (.inr (.inr ⟨hn,hr,.inr (.inl rfl)⟩)))⟩
 have U:∃ w,V.str "put" = .str w∧gu nm rw w:=⟨_,rfl,.inr (.inr (.inr (.inr ⟨hn,hr,.inr (.inr rfl)⟩)))⟩
 simp only[wC,dO,o7,or_false]at h;rcases h with rfl | rfl | rfl | rfl | rfl | rfl | rfl | rfl | rfl
 ·exact L
 ·exact G
 ·exact U
 ·exact G
 ·exact U
 ·exact G
 ·exact U
 ·exact L
 ·exact G
theorem y9{τ1 τ2 d:Int}{rw:Nat}(h1:On nm τ1)(h2:HM nm rw τ2)(d0:0≤d)(d1:d < ((wA++(List.replicate τ1.toNat wB).flatten).length:Int) + 9 * τ2):∃ wd,me ((wA++(List.replicate τ1.toNat wB).flatten)++wC) d=some (.str wd)∧gu nm rw wd:=by
 have left:∀ v,v∈wA++(List.replicate τ1.toNat wB).flatten→∃ w,v=.str w∧gu nm rw w:=by
  intro v m;rcases fv.mp m with m | m
  ·exact Gv m
  ·obtain⟨t,m⟩:=Df m;rcases h1 with ⟨e,_⟩ | ⟨_,hn⟩
   ·exact absurd e t
   ·exact GJ hn m
 obtain⟨j,rfl⟩:∃ j:Nat,d=(j:Int):=⟨d.toNat,by lia⟩
 rcases h2 with rfl | ⟨rfl,hn,hr⟩
 ·have hj:j < (wA++(List.replicate τ1.toNat wB).flatten).length:=by lia
  obtain⟨w,e,hw⟩:=left _ (vB hj);refine⟨w,?_,hw⟩;rw[← e];exact bf (by rw[Ec hj]; exact cu hj)
 ·obtain⟨v,ev,mv⟩:=FU (xs:=(wA++(List.replicate τ1.toNat wB).flatten)++wC) d0 (by rw[iD]; have:wC.length=9:=rfl; lia);obtain⟨w,rfl,hw⟩:∃ w,v=.str w∧gu nm rw w:=by
   rcases fv.mp mv with m | m
   ·exact left _ m
   ·exact GB hn hr m
  exact⟨w,ev,hw⟩
inductive Bt(K:aW)(vs:List V)(H:Hp)(Q:VK)(E:XK):Prop|m(a:Addr)(ns:List Int)(nm rw at_ many:Nat)(al:Addr)(ls:List Ln)(xs:List V)(_:vs=[.ref a,.int (nm:Int),.int (rw:Int),.int (at_:Int),.ref al,.int (many:Int)])(_:a7 K H a (ns.map V.int))(_:ns.length≤63)(_:H al=some (.lst xs))(_:IsL K H (ls.map Ln.D) xs)(_:ls.length≤100)(_:nm≤100)(_:rw≤100)(_:at_ < many)(_:many≤100)(_:∀ (l:Ln) (v:V) (H':Hp),l.Ok nm rw many→wj ls at_ l→aD H H'→Is K H' l.D v→Q v H')
theorem gB{k:Nat}(e:H t=some (.tup (.str d.word::vs)))(h:IsL K H (d.args++[.int (k:Int)]) vs):Is K H (Ln.D (.deed d k)) (.ref t):=cI (bY.of e) (au ee h)
theorem CS(F:cM K "_law_line" "_law_line" wL f fd)(m_len:mg "len" = none)(m_int:mg "int" = none)(c_law_draw:Cl P w K mg base "_law_draw" n Et (jw K))(c_law_digit:Cl P w K mg base "_law_digit" n Ab dI)(c_law_number:Cl P w K mg base "_law_number" n qX oU)
  (c_law_goal:Cl P w K mg base "_law_goal" n GK wN) (c_law_maybe:Cl P w K mg base "_law_maybe" n qT x8) (c_law_ask:Cl P w K mg base "_law_ask" n qD (Er K)) :
  bg P w K mg base cH (n + 1) f fd Im (Bt K):=by
 refine F.ok eI (by walk_at "l") (fun cdv A outer s H vs Q E hr h=>?_);obtain⟨a,ns,nm,rw,at_,many,al,ls,xs,rfl,hS,h63,el0,il0,l100,hnm,hrw,ha,hm,q⟩:=h
 refine⟨_,(@ag _ _ _ _ _ (aV (i:=6) eI.nd (bo (aa (aC c_law_draw hr rfl (aa (pv 0) (aa (aR bK ai (pv 3)) ae))) ae)))
   (@ag _ _ _ _ _ (@iq _ _ (7) _ _ _ _ eI.nd rfl (Or.inl rfl) (@aR _ _ _ _ _ _ _ _ (@oa _) (@bo _ _ _ _ (@di _ _ _ rfl)) (@aR _ _ _ _ _ _ _ _ (@rE _) (@bo _ _ _ _ (@di _ _ _ rfl)) (@bw _ _ _ _ _ _ _ _ _ (@cP _) rfl m_int Ci (@aa _ _ _ _ _ (@bU _ _ _ _ _ _ _ _ (@lY _) (@pv _ 1 _ _ (by walk_at "q") (by walk_at "q") (by walk_at "q") (by walk_at "q")) (@ai _ _ _ _) (wI _)) (@ae _) (by walk_at "q")) (by walk_at "q") (by walk_at "q") (by walk_at "q") (by walk_at "q")))) (by walk_at "q") (by walk_at "q"))
   (@ag _ _ _ _ _ (aV (i:=8) eI.nd (aC c_law_digit hr rfl (aa (pv 6) (aa (aR bK (bj a8 rfl m_len qi (aa (pv 7) ae)) (aR eC ai (bw cP rfl m_int Ci (aa (bU lY (aR eC (pv 1) (pv 2)) ai) ae)))) ae))))
   (@ag _ _ _ _ _ (@iq _ _ (8) _ _ _ _ eI.nd rfl (Or.inl rfl) (@av _ _ _ _ _ _ _ (@aK _) (@aR _ _ _ _ _ _ _ _ (@oa _) (@pv _ 7 _ _ (by walk_at "q") (by walk_at "q") (by walk_at "q") (by walk_at "q")) (@bo _ _ _ _ (@di _ _ _ rfl))) (@pv _ 8 _ _ (by walk_at "q") (by walk_at "q") (by walk_at "q") (by walk_at "q")) (fun _ _=>rfl)) (by walk_at "q") (by walk_at "q"))
   (@ag _ _ _ _ _ (ba (aE bA (pv 8) aJ) (ak (az (aY (aa aJ ae)))) aN)
   (@ag _ _ _ _ _ (ba (aE bA (pv 8) aJ) (ak (az (aC c_law_ask hr rfl (aa (pv 0) (aa (pv 6) (aa (pv 1) (aa (pv 2) (aa (pv 3) (aa (pv 4) (aa (pv 5) ae)))))))))) aN)
   (@ag _ _ _ _ _ (aV (i:=9) eI.nd (aC c_law_goal hr rfl (aa (pv 6) (aa (pv 3) (aa (pv 5) ae)))))
   (@ag _ _ _ _ _ (aV (i:=10) eI.nd (aC c_law_maybe hr rfl (aa (pv 6) (aa (pv 1) ae))))
   (@ag _ _ _ _ _ (aV (i:=11) eI.nd (aC c_law_number hr rfl (aa (pv 6) ae)))
   (@ag _ _ _ _ _ (ba (aE bA (pv 8) aJ) (ak (az (aY (aa (pv 8) (aa (pv 10) (aa (aC c_law_maybe hr rfl (aa (pv 6) (aa (pv 1) ae))) (aa (pv 11) (aa (pv 9) (aa (aC c_law_goal hr rfl (aa (pv 6) (aa (pv 3) (aa (pv 5) ae)))) ae))))))))) aN)
   (@ag _ _ _ _ _ (aV (i:=12) eI.nd (aC c_law_digit hr rfl (aa (pv 6) (aa (pv 1) ae))))
   (@ag _ _ _ _ _ (ba (aE bA (pv 8) aJ) (ak (az (aY (aa (pv 8) (aa (pv 12) (aa (pv 10) (aa (pv 11) (aa (pv 9) ae)))))))) aN)
   (@ag _ _ _ _ _ (ba (aE bA (pv 8) aJ) (ak (az (aY (aa (pv 8) (aa (pv 12) (aa (aC c_law_digit hr rfl (aa (pv 6) (aa (pv 1) ae))) (aa (pv 10) (aa (pv 9) ae)))))))) aN)
   (@ag _ _ _ _ _ (ba (aE fk (pv 8) (aY (di rfl)) (by with_unfolding_all rfl)) (ak (az (aY (aa (pv 8) (aa (pv 12) (aa (pv 9) ae)))))) aN)
   (@ag _ _ _ _ _ (aV (i:=13) eI.nd (aC c_law_digit hr rfl (aa (pv 6) (aa (pv 2) ae))))
   (@ag _ _ _ _ _ (ba (aE bA (pv 8) aJ) (ak (az (aY (aa (pv 8) (aa (pv 12) (aa (pv 13) (aa (pv 9) ae))))))) aN)
   (@ag _ _ _ _ _ (ba (aE bA (pv 8) aJ) (ak (az (aY (aa (pv 8) (aa (pv 12) (aa (pv 13) (aa (pv 10) (aa (pv 11) (aa (pv 9) ae))))))))) aN)
   (ak (az (aY (aa (pv 8) (aa (pv 13) (aa (pv 10) (aa (pv 11) (aa (pv 12) (aa (pv 9) ae)))))))))))))))))))))))))),?_⟩
 refine⟨_,rfl,_,rfl,_,_,rfl,rfl,a,ns,_,rfl,hS,h63,by lia,by lia,fun c=>⟨bQ rfl,fun pb npb=>?_⟩⟩;have u0:=aj npb (.lst [.int c]);have x0:eS (upd H pb (.lst [.int c])) pb:=kY c;generalize upd H pb (.lst [.int c])=H0 at u0 x0;obtain⟨τ1,e1,o1⟩:=Gh nm;obtain⟨τ2,e2,o2⟩:=Fx nm rw;have r1:=HC o1.b (xs:=wB) (bQ rfl);have g1:=DH o1.b (xs:=wB) (bQ rfl);have b64:-(2 ^ 64:Int) < (nm:Int)∧(nm:Int) < (2 ^ 64:Int):=⟨by lia,by lia⟩
 refine⟨bQ rfl,fun l1 n1=>⟨bQ rfl,fun l2 n2=>?_⟩⟩;have u1:=aj n1 (.lst wA);have u2:=aj n2 (.lst wB);refine⟨_,rfl,_,_,rfl,rfl,.inr ⟨_,rfl,l2,τ1,wB,rfl,congrArg V.int e1,af,r1.1,r1.2.1,r1.2.2,fun p3 n3=>?_⟩⟩;have u3:=aj n3 (.lst (List.replicate τ1.toNat wB).flatten);refine⟨l1,p3,wA,_,rfl,rfl,u3 _ _ (u2 _ _ af),af,small (vJ (Nat.add_le_add_left g1 _) (bQ rfl)),fun p4 n4=>?_⟩;have u4:=aj n4 (.lst (wA++(List.replicate τ1.toNat wB).flatten));have s4:=u1.trans (u2.trans (u3.trans u4));have e4:upd (upd (upd (upd H0 l1 (.lst wA)) l2 (.lst wB)) p3 (.lst (List.replicate τ1.toNat wB).flatten)) p4 (.lst (wA++(List.replicate τ1.toNat wB).flatten)) p4=some (.lst (wA++(List.replicate τ1.toNat wB).flatten)):=af;generalize upd (upd (upd (upd H0 l1 (.lst wA)) l2 (.lst wB)) p3 (.lst (List.replicate τ1.toNat wB).flatten)) p4 (.lst (wA++(List.replicate τ1.toNat wB).flatten))=H4 at s4 e4;clear u1 u2 u3 u4 n1 n2 n3 n4;have x4:eS H4 pb:=by obtain⟨c,e⟩:=x0; exact⟨c,s4 _ _ e⟩
 have n4p:p4≠pb:=fun z=>by obtain⟨c,e⟩:=x4; rw[z,e]at e4; injection e4 with e4; injection e4 with e4; cases e4
 have ll:(wA++(List.replicate τ1.toNat wB).flatten).length≤16:=by rw[iD]; have:wA.length=6:=rfl; lia
 have lp:6≤(wA++(List.replicate τ1.toNat wB).flatten).length:=by rw[iD]; have:wA.length=6:=rfl; lia
 have o2b:=o2.b;refine⟨_,rfl,_,rfl,p4,_,rfl,.inl (a7.of e4),_,rfl,_,rfl,_,_,rfl,rfl,.inl b64,_,_,rfl,rfl,.inr ⟨_,rfl,_,τ2,rfl,congrArg V.int e2,.inl ⟨by decide,by decide⟩,_,_,rfl,rfl,pb,_,rfl,x4,by lia,by lia,fun H5 d b5 d0 d1=>?_⟩⟩;obtain⟨wd,ew,hw⟩:=y9 o1 o2 d0 d1;have e5:=b5.1 _ _ n4p e4;refine⟨_,rfl,bQ rfl,fun l9 n9=>⟨p4,l9,_,_,rfl,rfl,(aj n9 _) _ _ e5,af,small (by show _ + 9≤1000; lia),fun p10 n10=>⟨_,rfl,p10,_,_,_,rfl,rfl,a7.of af,ew,?_⟩⟩⟩;have s0:=(eW.same (u0.trans s4) npb b5).trans ((aj n9 (.lst wC)).trans (aj n10 (.lst ((wA++(List.replicate τ1.toNat wB).flatten)++wC))));have xx:eS (upd (upd H5 l9 (.lst wC)) p10 (.lst ((wA++(List.replicate τ1.toNat wB).flatten)++wC))) pb:=iW (iW b5.2 n9) n10;generalize upd (upd H5 l9 (.lst wC)) p10 (.lst ((wA++(List.replicate τ1.toNat wB).flatten)++wC))=G at s0 xx;clear b5 e5 n4p x4 e4 s4 ll lp n9 n10 ew;have nap:∀ {c:Addr} {o:HO},H c=some o→c≠pb:=fun e=>aH e npb
 -- what is told at last
 have fin:∀ (l:Ln) (t:Addr) (o:HO) {G':Hp},l.Ok nm rw many→(∀ bs k m,l≠.ask bs k m)→eW pb G G'→G' t=none→(∀ K':Unit,Is K (upd G' t o) l.D (.ref t))→Q (.ref t) (upd G' t o):=fun l t o G' ok na b' ht i'=>q l _ _ ok (fun bs k m z=>absurd z (na bs k m)) ((eW.same s0 npb b').trans (aj ht _)) (i' ())
 refine⟨_,rfl,rfl,_,rfl,cT (fun cc=>?_) (fun cc=>?_)⟩
 ·exact⟨bQ rfl,fun t ht=>fin .stop t _ trivial (fun _ _ _ z=>nomatch z) (eW.refl xx) ht fun _=>cI (bY.of af) (au ee aM)⟩
 have w2:=f7 cc;refine⟨_,rfl,rfl,_,rfl,cT (fun cc=>?_) (fun cc=>?_)⟩
 ·exact⟨_,rfl,_,rfl,_,rfl,_,rfl,_,rfl,_,rfl,_,rfl,a,pb,ns,nm,rw,at_,many,al,ls,xs,rfl,fun H' b=>(eW.same s0 npb b).seq hS,h63,xx,nap el0,s0 _ _ el0,il0.mono s0.aS,l100,hnm,hrw,ha,hm,fun l v H' ok nb b' i'=>q l v H' ok nb (eW.same s0 npb b') i'⟩
 have w1:=f7 cc;refine⟨_,rfl,_,rfl,_,rfl,pb,_,_,rfl,xx,by lia,by lia,by lia,fun G1 g b1 g0 g1=>?_⟩;obtain⟨gn,rfl⟩:∃ i:Nat,g=(i:Int):=⟨g.toNat,by lia⟩
 have hg:gn < many:=by lia
 refine⟨_,rfl,_,rfl,pb,_,rfl,b1.2,by lia,by lia,fun G2 y b2 hy=>?_⟩;obtain⟨yo,oy,rfl⟩:=qf hy;refine⟨_,rfl,pb,rfl,b2.2,fun G3 cn b3 cn0 cn1=>?_⟩;have b03:=(b1.trans b2).trans b3;refine⟨_,rfl,rfl,_,rfl,cT (fun cc=>?_) (fun cc=>?_)⟩
 ·obtain rfl:=gS cc;refine⟨_,rfl,_,rfl,_,rfl,_,rfl,pb,_,rfl,b3.2,by lia,by lia,fun G4 u b4 hu=>?_⟩;obtain⟨uo,ou,rfl⟩:=qf hu;refine⟨_,rfl,_,rfl,_,rfl,_,rfl,_,rfl,pb,_,_,rfl,b4.2,by lia,by lia,by lia,fun G5 m b5 m0 m1=>⟨bQ rfl,fun t ht=>?_⟩⟩;obtain⟨mn,rfl⟩:∃ i:Nat,m=(i:Int):=⟨m.toNat,by lia⟩
  exact fin (.test yo uo cn gn mn) t _ ⟨oy,ou,hg,by lia⟩ (fun _ _ _ z=>nomatch z) (b03.trans (b4.trans b5)) ht fun _=>cI (bY.of af) (au ee (au (lC _) (au (lC _) (au a9 (au a9 (au a9 aM))))))
 have w3:=f7 cc;have hn:0 < nm:=by
  rcases hw with e | e | e | e | e
  ·exact absurd e w3
  ·exact absurd e w1
  ·exact absurd e w2
  ·exact e.1
  ·exact e.1
 refine⟨_,rfl,_,rfl,pb,_,rfl,b3.2,by lia,by lia,fun G4 x b4 x0' x1'=>?_⟩;obtain⟨xn,rfl⟩:∃ i:Nat,x=(i:Int):=⟨x.toNat,by lia⟩
 have hx:xn < nm:=by lia
 have b04:=b03.trans b4;refine⟨_,rfl,rfl,_,rfl,cT (fun cc=>?_) (fun cc=>?_)⟩
 ·obtain rfl:=gS cc;refine⟨_,rfl,_,rfl,_,rfl,_,rfl,_,rfl,bQ rfl,fun t ht=>?_⟩;exact fin (.deed (.set xn yo cn) gn) t _ ⟨⟨hx,oy⟩,hg⟩ (fun _ _ _ z=>nomatch z) b04 ht fun _=>gB af (au a9 (au (lC _) (au a9 (au a9 aM))))
 have w4:=f7 cc;refine⟨_,rfl,rfl,_,rfl,cT (fun cc=>?_) (fun cc=>?_)⟩
 ·obtain rfl:=gS cc;refine⟨_,rfl,_,rfl,_,rfl,_,rfl,pb,_,rfl,b4.2,by lia,by lia,fun G5 z b5 z0 z1=>⟨_,rfl,_,rfl,bQ rfl,fun t ht=>?_⟩⟩;obtain⟨zn,rfl⟩:∃ i:Nat,z=(i:Int):=⟨z.toNat,by lia⟩
  exact fin (.deed (.sum xn zn yo) gn) t _ ⟨⟨hx,by lia,oy⟩,hg⟩ (fun _ _ _ z=>nomatch z) (b04.trans b5) ht fun _=>gB af (au a9 (au a9 (au (lC _) (au a9 aM))))
 have w5:=f7 cc;refine⟨_,rfl,bQ rfl,fun t2 ht2=>⟨t2,_,rfl,.inr (bY.of af),rfl,rfl,_,rfl,cT (fun cc=>?_) (fun cc=>?_)⟩⟩
 ·have cc':vz (.str wd) [.str "take",.str "tell"]=true:=cc;have b5:=b04.more (aj ht2 (.tup [.str "take",.str "tell"]));refine⟨_,rfl,_,rfl,_,rfl,bQ rfl,fun t ht=>?_⟩;rcases JD.mp cc' with rfl | rfl
  ·exact fin (.deed (.take xn) gn) t _ ⟨hx,hg⟩ (fun _ _ _ z=>nomatch z) b5 ht fun _=>gB af (au a9 (au a9 aM))
  ·exact fin (.deed (.tell xn) gn) t _ ⟨hx,hg⟩ (fun _ _ _ z=>nomatch z) b5 ht fun _=>gB af (au a9 (au a9 aM))
 have cc':¬ vz (.str wd) [.str "take",.str "tell"]=true:=cc;have w6:¬ (wd = "take"∨wd = "tell"):=fun e=>cc' (JD.mpr e)
 have b05:=b04.more (aj ht2 (.tup [.str "take",.str "tell"]));have hw':0 < rw∧(wd = "len"∨wd = "get"∨wd = "put"):=by
  rcases hw with e | e | e | ⟨_,e | e | e | e⟩ | e
  ·exact absurd e w3
  ·exact absurd e w1
  ·exact absurd e w2
  ·exact absurd e w4
  ·exact absurd e w5
  ·exact absurd (.inl e) w6
  ·exact absurd (.inr e) w6
  ·exact e.2
 have hr0:=hw'.1;refine⟨_,rfl,_,rfl,pb,_,rfl,b05.2,by lia,by lia,fun G6 r b6 r0 r1=>?_⟩;obtain⟨rn,rfl⟩:∃ i:Nat,r=(i:Int):=⟨r.toNat,by lia⟩
 have hrn:rn < rw:=by lia
 have b06:=b05.trans b6;refine⟨_,rfl,rfl,_,rfl,cT (fun cc=>?_) (fun cc=>?_)⟩
 ·obtain rfl:=gS cc;refine⟨_,rfl,_,rfl,_,rfl,_,rfl,bQ rfl,fun t ht=>?_⟩;exact fin (.deed (.len xn rn) gn) t _ ⟨⟨hx,hrn⟩,hg⟩ (fun _ _ _ z=>nomatch z) b06 ht fun _=>gB af (au a9 (au a9 (au a9 aM)))
 have w7:=f7 cc;refine⟨_,rfl,rfl,_,rfl,cT (fun cc=>?_) (fun cc=>?_)⟩
 ·obtain rfl:=gS cc;refine⟨_,rfl,_,rfl,_,rfl,_,rfl,_,rfl,_,rfl,bQ rfl,fun t ht=>?_⟩;exact fin (.deed (.get xn rn yo cn) gn) t _ ⟨⟨hx,hrn,oy⟩,hg⟩ (fun _ _ _ z=>nomatch z) b06 ht fun _=>gB af (au a9 (au a9 (au (lC _) (au a9 (au a9 aM)))))
 have w8:=f7 cc;obtain rfl:wd = "put":=by
  rcases hw'.2 with e | e | e
  ·exact absurd e w7
  ·exact absurd e w8
  ·exact e
 refine⟨_,rfl,_,rfl,_,rfl,_,rfl,_,rfl,_,rfl,bQ rfl,fun t ht=>?_⟩;exact fin (.deed (.put rn yo cn xn) gn) t _ ⟨⟨hrn,oy,hx⟩,hg⟩ (fun _ _ _ z=>nomatch z) b06 ht fun _=>gB af (au a9 (au (lC _) (au a9 (au a9 (au a9 aM)))))
abbrev lh:Stmt:=top 45
theorem dB:aF ["_law_script","_law_box","_law_names","_law_rows_here","_law_many","_law_lines","_law_at"] Cj (ao lh):=by walk_at "k"
def qr(ls:List Ln):Prop:=∀ i,Acc (fun j i=>iK ls i j) i
theorem jK(h:iK (ls++[l]) i j):iK ls i j∨(i=ls.length∧∃ bs k m,l=.ask bs k m∧(j=k∨j=m)):=by
 obtain⟨bs,k,m,e,hj⟩:=h;by_cases hi:i < ls.length
 ·rw[Ec hi]at e;exact .inl ⟨bs,k,m,e,hj⟩
 ·have h1:=(eQ.mp e).1;rw[iD,vm]at h1;have:i=ls.length:=by lia
  subst this;rw[CG (cq _),Nat.sub_self]at e;cases e;exact .inr ⟨rfl,bs,k,m,rfl,hj⟩
theorem qr.snoc(h:qr ls)(nb:wj ls ls.length l):qr (ls++[l]):=by
 have a1:∀ x,¬ kG ls x ls.length→Acc (fun j i=>iK (ls++[l]) i j) x:=by
  intro x
  induction h x with
  | intro x _ ih=>
   intro hx;refine⟨x,fun y hy=>?_⟩;rcases jK hy with e | ⟨e,_⟩
   ·exact ih y e fun z=>hx (.step e z)
   ·exact absurd (e ▸ .refl x) hx
 have a2:Acc (fun j i=>iK (ls++[l]) i j) ls.length:=by
  refine⟨_,fun y hy=>?_⟩;rcases jK hy with ⟨bs,k,m,e,_⟩ | ⟨_,bs,k,m,e,hj⟩
  ·have:=(eQ.mp e).1
   lia
  ·obtain⟨n1,n2⟩:=nb bs k m e;rcases hj with rfl | rfl
   ·exact a1 _ n1
   ·exact a1 _ n2
 intro x
 induction h x with
 | intro x _ ih=>
  refine⟨x,fun y hy=>?_⟩;rcases jK hy with e | ⟨e,_⟩
  ·exact ih y e
  ·subst e;exact a2.inv hy
inductive qZ(K:aW)(vs:List V)(H:Hp)(Q:VK)(E:XK):Prop|m(a:Addr)(ns:List Int)(_:vs=[.ref a])(_:a7 K H a (ns.map V.int))(_:ns.length≤63)(_:∀ (H':Hp) (tp al:Addr) (nm rw:Nat) (ls:List Ln),aD H H'→gX K H' tp al nm rw ls→qr ls→H tp=none→H al=none→(∃ xs,H' al=some (.lst xs))→Q (.ref tp) H')
theorem vM(F:cM K "_law_program" "_law_program" lh f fd)(m_range:mg "range" = none)(m_int:mg "int" = none)(c_law_draw:Cl P w K mg base "_law_draw" n Et (jw K))(c_law_digit:Cl P w K mg base "_law_digit" n Ab dI)(c_law_line:Cl P w K mg base "_law_line" n Im (Bt K)):bg P w K mg base cH (n + 1) f fd Cj (qZ K):=by
 refine F.ok dB (by walk_at "l") (fun cdv A outer s H vs Q E hr h=>?_);obtain⟨a,ns,rfl,hS,h63,q⟩:=h
 refine⟨_,(@ag _ _ _ _ _ (aV (i:=1) dB.nd (bo (aa (aC c_law_draw hr rfl (aa (pv 0) (aa ai ae))) ae)))
   (@ag _ _ _ _ _ (aV (i:=2) dB.nd (aC c_law_digit hr rfl (aa (pv 1) (aa ai ae))))
   (@ag _ _ _ _ _ (aV (i:=3) dB.nd (aC c_law_digit hr rfl (aa (pv 1) (aa ai ae))))
   (@ag _ _ _ _ _ (aV (i:=4) dB.nd (av aK (bo (aa (aR bK ai (aC c_law_digit hr rfl (aa (pv 1) (aa ai ae)))) (aa (aR bK ai (aC c_law_digit hr rfl (aa (pv 1) (aa ai ae)))) ae))) (bw cP rfl m_int Ci (aa (bU bA (aC c_law_digit hr rfl (aa (pv 1) (aa ai ae))) ai) ae))))
   (@ag _ _ _ _ _ (aV (i:=5) dB.nd (bo ae))
   (@ag _ _ _ _ _ (cQ mO rfl (bO rfl m_range (aa (pv 4) ae)) (aU (i:=6) dB.nd rfl (Or.inl rfl)) (ak (bZ (fJ v9 Cp Cv cE (pv 5) (aa (aC c_law_line hr rfl (aa (pv 0) (aa (pv 2) (aa (pv 3) (aa (pv 6) (aa (pv 5) (aa (pv 4) ae))))))) ae)))))
   (ak (az (aY (aa (pv 2) (aa (pv 3) (aa (pv 5) ae)))))))))))),?_⟩
 refine⟨_,rfl,a,ns,_,rfl,hS,h63,by decide,by decide,fun c=>⟨bQ rfl,fun pb npb=>?_⟩⟩;have u0:=aj npb (.lst [.int c]);have x0:eS (upd H pb (.lst [.int c])) pb:=kY c;generalize upd H pb (.lst [.int c])=H0 at u0 x0;refine⟨_,rfl,pb,7,rfl,x0,by decide,by decide,fun H1 nm b1 nm0 nm1=>?_⟩;obtain⟨nm,rfl⟩:∃ i:Nat,nm=(i:Int):=⟨nm.toNat,by lia⟩
 refine⟨_,rfl,pb,4,rfl,b1.2,by decide,by decide,fun H2 rw b2 rw0 rw1=>?_⟩;obtain⟨rw,rfl⟩:∃ i:Nat,rw=(i:Int):=⟨rw.toNat,by lia⟩
 refine⟨_,rfl,pb,10,rfl,b2.2,by decide,by decide,fun H3 d1 b3 d10 d11=>⟨_,_,rfl,rfl,_,rfl,pb,70,rfl,b3.2,by decide,by decide,fun H4 d2 b4 d20 d21=>⟨_,_,rfl,rfl,bQ rfl,fun l nl=>?_⟩⟩⟩;have b04:=(b1.trans b2).trans (b3.trans b4);have s4:=eW.same u0 npb b04;have s5:=s4.trans (aj nl (.lst [.int (1 + d1),.int (1 + d2)]));have x5:eS (upd H4 l (.lst [.int (1 + d1),.int (1 + d2)])) pb:=iW b4.2 nl;have nlp:l≠pb:=fun z=>by obtain⟨_,e⟩:=b4.2; rw[z,e]at nl; cases nl
 have e5:upd H4 l (.lst [.int (1 + d1),.int (1 + d2)]) l=some (.lst [.int (1 + d1),.int (1 + d2)]):=af;generalize upd H4 l (.lst [.int (1 + d1),.int (1 + d2)])=H5 at s5 x5 e5;refine⟨_,rfl,pb,16,rfl,x5,by decide,by decide,fun H6 d3 b6 d30 d31=>⟨rfl,.inr ⟨_,rfl,?_⟩⟩⟩;obtain⟨z,ez,hz⟩:=oF (x:=1 + d1) (y:=1 + d2) (decide (V.int d3=V.int 3));obtain⟨many,rfl,hm0,hm1⟩:∃ i:Nat,z=(i:Int)∧0 < i∧i≤70:=⟨z.toNat,by lia,by lia,by lia⟩
 refine⟨l,_,_,_,rfl,rfl,a7.of (b6.1 _ _ nlp e5),ez,?_⟩;have s6:=eW.same s5 npb b6;refine⟨bQ rfl,fun al nal=>?_⟩;have s7:=s6.trans (aj nal (.lst []));have e7:upd H6 al (.lst []) al=some (.lst []):=af;have nal0:=ay s6 nal;generalize upd H6 al (.lst [])=H7 at s7 e7;clear s6 b6 e5 x5 s5 s4 b04 b4 b3 b2 b1 x0 u0 nal;refine⟨_,rfl,_,rfl,by lia,by lia,?_⟩;rw[m8];refine dh (n:=many) (fun i σ H'=>∃ (ls:List Ln) (xs:List V) (y6:Option V),aD H H'∧H' al=some (.lst xs)∧IsL K H' (ls.map Ln.D) xs∧ls.length=i∧(∀ l∈ls,l.Ok nm rw many)∧qr ls∧σ=[some (.ref a),some (.ref pb),some (.int (nm:Int)),some (.int (rw:Int)),some (.int (many:Int)),some (.ref al),y6])
  ⟨[],[],_,s7,e7,aM,rfl,fun l h=>(nomatch h),fun i=>⟨i,fun j hp1=>by obtain⟨_,_,_,e,_⟩:=hp1; exact (nomatch e)⟩,rfl⟩ (fun i σ H' hi h=>?_) (fun σ H' h=>?_)
 ·obtain⟨ls,xs,y6,sm,el,il,ll,ok,wf,rfl⟩:=h;have lx:=il.length;rw[cU]at lx;refine⟨_,rfl,.inl ⟨rfl,_,a7.of el⟩,_,rfl,_,rfl,_,rfl,_,rfl,_,rfl,_,rfl,a,ns,nm,rw,i,many,al,ls,xs,by rw[Co],sm.seq hS,h63,el,il,by lia,by lia,by lia,hi,by lia,fun l v H2 lok nb s2 i2=>?_⟩;have el2:=s2 _ _ el;have tl:=bu.lst (ys:=xs++[v]) el2;refine⟨al,xs,v,rfl,rfl,el2,aO (by lia),ls++[l],xs++[v],_,aD.new (sm.trans s2) nal0,af,?_,by simp[ll],fun l' hl'=>?_,wf.snoc (by rw[ll]; exact nb),rfl⟩
  ·rw[je];exact IsL.append ((il.mono s2.aS).mono tl) (au (i2.mono tl) aM)
  ·rcases fv.mp hl' with h | h
   ·exact ok l' h
   ·rw[dU.mp h]; exact lok
 ·obtain⟨ls,xs,y6,sm,el,il,ll,ok,wf,rfl⟩:=h;refine⟨_,rfl,_,rfl,_,rfl,bQ rfl,fun t ht=>?_⟩;have ut:=aj ht (.tup [.int (nm:Int),.int (rw:Int),.ref al]);exact q _ t al nm rw ls (sm.trans ut) ⟨bY.of af,⟨xs,a7.of (ut _ _ el),il.mono ut.aS⟩,⟨by lia,by lia,by lia,by lia,by rw[ll]; exact ok⟩⟩ wf (ay sm ht) nal0 ⟨xs,ut _ _ el⟩
abbrev CM:Stmt:=top 49
theorem Gg:aF F1 F1 (ao CM):=by walk_at "k"
inductive mf:D→List Key→Prop
 | zero:mf (.tup [.str "zero"]) [.inr "zero"]
 | name (x v:Int):mf (.tup [.str "name",.int x,.int v]) [.inr "name",.inl x,.inl v]
 | len (r:Int):mf (.tup [.str "len",.int r]) [.inr "len",.inl r]
theorem mf.sq{K:aW}{d:D}{k:List Key}(h:mf d k)(i:Is K H d v):∃ b,v=.ref b∧bY K H b (k.map kV):=by
 cases h with
 | zero=>
  obtain⟨b,xs,rfl,hq,il⟩:=i.bB;obtain⟨v0,vs,rfl,i0,j1⟩:=il.cons_inv;cases i0.str_inv;cases j1.nil_inv;exact⟨b,rfl,hq⟩
 | name x v=>
  obtain⟨b,xs,rfl,hq,il⟩:=i.bB;obtain⟨v0,vs,rfl,i0,j1⟩:=il.cons_inv;cases i0.str_inv;obtain⟨r1,rfl,j2⟩:=bD j1;obtain⟨r2,rfl,j3⟩:=bD j2;cases j3.nil_inv;exact⟨b,rfl,hq⟩
 | len r=>
  obtain⟨b,xs,rfl,hq,il⟩:=i.bB;obtain⟨v0,vs,rfl,i0,j1⟩:=il.cons_inv;cases i0.str_inv;obtain⟨r1,rfl,j2⟩:=bD j1;cases j2.nil_inv;exact⟨b,rfl,hq⟩
inductive DG(K:aW)(vs:List V)(H:Hp)(Q:VK)(E:XK):Prop|m(v:V)(d:Addr)(g:Ft)(ka kb:List Key)(kv:List (List Key × V))(x y:Int)(_:vs=[v,.ref d])(_:Is K H g.D v)(_:mf g.a ka)(_:mf g.b kb)(_:DZ K H d kv)(_:cv kv ka=some (.int x))(_:cv kv kb=some (.int y))(_:Q (.bl (decide (x - y≤g.c))) H)
theorem HG(F:cM K "_law_so" "_law_so" CM f fd):bg P w K mg base cH (n + 1) f fd F1 (DG K):=by
 refine F.ok Gg (by walk_at "l") (fun cdv A outer s H vs Q E hr h=>?_);obtain⟨v,d,g,ka,kb,kv,x,y,rfl,i,na,nb,hd,ex,ey,q⟩:=h;have hu:(A.deeper (envOfC "_law_so" (ao CM) s.heap.objs.size f cdv)).units + 1 < cLine:=by have:=hr.units; omega
 refine⟨_,(ak (az (bU BJ (aR dD (uV hu (pv 1) (av aA (pv 0) ai)) (uV hu (pv 1) (av aA (pv 0) ai))) (av aA (pv 0) ai)))),?_⟩;obtain⟨t,xs,rfl,hq,il⟩:=i.bB;obtain⟨v1,r1,rfl,i1,j1⟩:=il.cons_inv;obtain⟨v2,r2,rfl,i2,j2⟩:=j1.cons_inv;obtain⟨v3,r3,rfl,i3,j3⟩:=j2.cons_inv;cases i3.int_inv;cases j3.nil_inv;obtain⟨b1,rfl,q1⟩:=na.sq i1;obtain⟨b2,rfl,q2⟩:=nb.sq i2;refine⟨_,rfl,_,rfl,t,_,0,_,rfl,rfl,hq,dW _ _,d,kv,b1,ka,_,rfl,rfl,hd,q1,ex,_,rfl,_,rfl,t,_,1,_,rfl,rfl,hq,jO _ _ _,d,kv,b2,kb,_,rfl,rfl,hd,q2,ey,_,_,rfl,rfl,_,rfl,t,_,2,_,rfl,rfl,hq,at2 _ _ _ _,_,_,rfl,rfl,q⟩
abbrev xk:Stmt:=top 48
theorem kI:aF ["_law_lines","_law_met_here","_law_found","_law_at","_law_which_here","_law_goal_here"] IZ (ao xk):=by walk_at "k"
inductive yH(K:aW)(vs:List V)(H:Hp)(Q:VK)(E:XK):Prop|m(al pm:Addr)(nm rw:Nat)(ls:List Ln)(rs:List Nat)(_:vs=[.ref al,.ref pm])(_:(∃ xs,a7 K H al xs∧IsL K H (ls.map Ln.D) xs))(_:Prog nm rw ls)(_:a7 K H pm (aX rs))(_:bM ls rs)(_:∀ (H':Hp) (d:Addr) (ks:List Nat) (pf:Nat→Addr),aD H H'→fF K H' d ks pf (lead ls rs)→(∀ k∈rs,k∈ks)→Q (.ref d) H')
theorem zR{k:Nat}(h:k∈ws):hits ws a k≠[]:=by
 obtain⟨j,hj,e⟩:=List.getElem_of_mem h;intro z;unfold hits at z;have h2:(k,j)∈ws.zipIdx:=by
  rw[List.mem_zipIdx_iff_getElem?];rw[cu hj,e]
 have:=(List.filterMap_eq_nil_iff.mp z) (k,j) h2;simp at this
theorem Bv(R:bM ls rs)(z:0∈ks)(out:∀ k,k∉ks→lead ls rs k=[]):∀ k∈rs,k∈ks:=by
 intro k hk;cases (R.mem k).mp hk with
 | zero=>exact z
 | @step i _ hi hj=>
  by_cases h:k∈ks
  ·exact h
  ·have e:=(List.append_eq_nil_iff.mp (out k h)).2;exact absurd (List.flatMap_eq_nil_iff.mp e i ((R.mem i).mpr hi)) (zR hj)
theorem zS{K:aW}{d:Addr}(L:fF K H d ks pf wf)(out:∀ k,k∉ks→wf k=[]){pe:Addr}(np:H pe=none) :
  upd H pe (.lst []) d=some (.dK (bz ks fun k=>.ref (pf k)))∧
  (∀ v,cv (bz ks fun k=>.ref (pf k)) (.inl (g:Int))=some v→v=.ref (pf g)∧g∈ks∧fF K (upd H pe (.lst [])) d ks pf wf)∧
  (cv (bz ks fun k=>.ref (pf k)) (.inl (g:Int))=none→g∉ks∧fF K (upd (upd H pe (.lst [])) d (.dK (bz ks (fun k=>.ref (pf k))++[(.inl (g:Int),.ref pe)]))) d (ks++[g]) (fun j=>if j=g then pe else pf j) wf):=by
 have s1:=aj np (.lst []);have L1:=L.same s1;refine⟨L1.d,fun v hv=>?_,fun hv=>?_⟩
 ·rw[fc]at hv;by_cases hg:g∈ks
  ·rw[if_pos hg]at hv;exact⟨(mW hv).symm,hg,L1⟩
  ·rw[if_neg hg]at hv; cases hv
 ·rw[fc]at hv;by_cases hg:g∈ks
  ·rw[if_pos hg]at hv; cases hv
  ·have hne:∀ j,j∈ks→j≠g:=fun j hj z=>hg (z ▸ hj)
   have e1:upd H pe (.lst []) pe=some (.lst []):=af;have dp:pe≠d:=(cx L.d np).symm;have tp:bu (upd H pe (.lst [])) (upd (upd H pe (.lst [])) d (.dK (bz ks (fun k=>.ref (pf k))++[(.inl (g:Int),.ref pe)]))):=
    ⟨fun b zs e=>by rw[aq (bh e L1.d (by intro z; cases z))]; exact e,fun b o' u e=>by rw[aq (bh e L1.d (by intro z; cases z))]; exact e⟩
   have nf:∀ j,j∈ks→pf j≠pe:=fun j hj z=>by
    obtain⟨ys,e,_⟩:=L.l j hj;rw[z,np]at e; cases e
   refine⟨hg,⟨?_,fun j hj=>?_,fun j hj j' hj' e=>?_⟩⟩
   ·rw[af];congr 2;unfold bz;rw[je];congr 1
    ·exact List.map_congr_left fun j hj=>by dsimp only; rw[if_neg (hne j hj)]
    ·simp
   ·rcases fv.mp hj with hj | hj
    ·obtain⟨ys,h1,h2⟩:=L1.l j hj;rw[if_neg (hne j hj)];exact⟨ys,by rw[aq (bh h1 L1.d (by intro z; cases z))]; exact h1,h2.mono tp⟩
    ·rw[dU.mp hj,if_pos rfl,out g hg];exact⟨[],by rw[aq dp]; exact e1,aM⟩
   ·rcases fv.mp hj with hj | hj
    ·rw[if_neg (hne j hj)]at e;rcases fv.mp hj' with hj' | hj'
     ·rw[if_neg (hne j' hj')]at e;exact L.i j hj j' hj' e
     ·rw[dU.mp hj',if_pos rfl]at e;exact absurd e (nf j hj)
    ·rw[dU.mp hj]at e ⊢;rw[if_pos rfl]at e;rcases fv.mp hj' with hj' | hj'
     ·rw[if_neg (hne j' hj')]at e;exact absurd e.symm (nf j' hj')
     ·exact (dU.mp hj').symm
structure Fd (K:aW) (H0 H:Hp) (nl:Nat) (d:Addr) (ks:List Nat) (pf:Nat→Addr) (wf:Nat→List Way):Prop where
 s:aD H0 H
 L:fF K H d ks pf wf
 nd:ks.Nodup
 z:0∈ks
 lt:∀ k∈ks,k < nl
 fr:∀ k∈ks,H0 (pf k)=none
 out:∀ k,k∉ks→wf k=[]
theorem DM(F:cM K "_law_into" "_law_into" xk f fd)(m_enumerate:mg "enumerate" = none)(c_law_ways:Cl P w K mg base "_law_ways" n qO (mS K)):bg P w K mg base cH (n + 1) f fd IZ (yH K):=by
 refine F.ok kI (by walk_at "l") (fun cdv A outer s H vs Q E hr h=>?_);obtain⟨al,pm,nm,rw,ls,rs,rfl,hL,hP,hm,R,q⟩:=h
 refine⟨_,(@ag _ _ _ _ _ (@iq _ _ 2 _ _ _ _ kI.nd rfl (Or.inl rfl) (@mT _ _ _ _ _ (@ki _ _ _ _ _ _ _ _ _ ai (bo (aa cJ ae)) mG) rfl rfl (fun z=>nomatch z) (by decide)) rfl (by first | exact .inl rfl | exact .inr rfl))
   (@ag _ _ _ _ _ (cQ mO rfl (du (pv 1)) (aU (i:=3) kI.nd rfl (Or.inl rfl)) (ak (cQ mO rfl (xC rfl m_enumerate (aa (aC c_law_ways hr rfl (aa (av aK (pv 0) (pv 3)) ae)) ae)) (hJ rfl (bG (aU (i:=4) kI.nd rfl (Or.inl rfl)) (bG (aU (i:=5) kI.nd rfl (Or.inl rfl)) eK))) (ak (bZ (fJ v9 Cp Cv cE (fJ PySem.F.plainAttrs_dict PySem.F.slot_dict_setdefault PySem.F.type_dict_setdefault o9 (pv 2) (aa (pv 5) (aa (bo ae) ae))) (aa (aY (aa (pv 3) (aa (pv 4) ae))) ae)))))))
   (ak (az (pv 2))))),?_⟩
 have l1:=hP.l1;have lr:rs.length≤ls.length:=cX R.nodup fun i hi=>((R.mem i).mp hi).lt hP
 intro pd npd;refine⟨bQ rfl,fun p0 np0=>?_⟩;have u0:=aj npd (.dK []);have np00:=ay u0 np0;have hd0:pd≠p0:=cx (af (H:=H) (a:=pd) (o:=.dK [])) np0;have ed0:upd (upd H pd (.dK [])) p0 (.lst [.non]) pd=some (.dK []):=by rw[aq hd0,af]
 refine⟨ed0,[(Sum.inl 0,.ref p0)],rfl,bQ rfl,?_⟩;have F0:Fd K H (upd (upd (upd H pd (.dK [])) p0 (.lst [.non])) pd (.dK (dS [] [(Sum.inl 0,.ref p0)]))) ls.length pd [0] (fun _=>p0) (lead ls (rs.take 0)):=by
  refine⟨aD.new (u0.trans (aj np0 _)) npd,⟨af,fun k hk=>?_,fun k hk k' hk' _=>by rw[dU.mp hk,dU.mp hk']⟩,by simp,by simp,fun k hk=>by rw[dU.mp hk]; exact hP.l0,fun _ _=>np00,fun k hk=>?_⟩
  ·rw[dU.mp hk];exact⟨_,by rw[aq hd0.symm]; exact af,au xg aM⟩
  ·unfold lead basis;rw[if_neg (fun z=>hk (by rw[z]; simp))]; simp
 generalize upd (upd (upd H pd (.dK [])) p0 (.lst [.non])) pd (.dK (dS [] [(Sum.inl 0,.ref p0)]))=H1 at F0;clear u0 np0 ed0;refine⟨_,rfl,pm,rfl,⟨_,F0.s.seq hm⟩,?_⟩;refine gj (xs:=aX rs) (fun i σ H'=>∃ (ks:List Nat) (pf:Nat→Addr) (y3 y4 y5:Option V),Fd K H H' ls.length pd ks pf (lead ls (rs.take i))∧σ=[some (.ref al),some (.ref pm),some (.ref pd),y3,y4,y5])
  ⟨_,_,_,_,_,F0,rfl⟩ (fun i σ H' _ h=>?_) (fun i x σ H5 ex h=>?_) (fun σ H5 h=>?_)
 ·obtain⟨ks,pf,y3,y4,y5,D,rfl⟩:=h;exact D.s.seq hm
 ·obtain⟨ks,pf,y3,y4,y5,D,rfl⟩:=h;have hi:i < rs.length:=by have:=(eQ.mp ex).1; rw[bJ]at this; exact this
  rw[fP hi]at ex;cases ex;have ea:=cu hi;generalize rs[i]=a at ea;have hra:=(R.mem a).mp (gh ea);have hla:=hra.lt hP;obtain⟨xs,v,hxs,hv,iv⟩:=eN (jE D.s hL) hla;have ewy:=kg hla;have okl:=hP.ok _ (vB hla);generalize ls[a]=l at iv ewy okl;refine⟨_,rfl,_,rfl,al,xs,_,_,rfl,rfl,hxs,hv,l,v,rfl,iv,fun H6 pl s6 el nl=>⟨pl,rfl,⟨_,a7.of el⟩,?_⟩⟩;have npl:∀ k∈ks,pf k≠pl:=fun k hk z=>by
   obtain⟨ys,e,_⟩:=D.L.l k hk;rw[z,nl]at e; cases e
  refine Au (xs:=aX l.wy) (fun j σ H'=>∃ (ks:List Nat) (pf:Nat→Addr) (y4 y5:Option V),H' pl=some (.lst (aX l.wy))∧(∀ k∈ks,pf k≠pl)∧Fd K H H' ls.length pd ks pf (fun k=>lead ls (rs.take i) k++hits ((ck ls a).take j) a k)∧σ=[some (.ref al),some (.ref pm),some (.ref pd),some (.int (a:Int)),y4,y5])
   ⟨ks,pf,_,_,el,npl,⟨D.s.trans s6,(D.L.same s6).congr fun k=>by simp[hits],D.nd,D.z,D.lt,D.fr,fun k hk=>by rw[D.out k hk]; simp[hits]⟩,rfl⟩ (fun j σ H' _ h=>?_) (fun j x σ H7 tt ex h ntt=>?_) (fun σ H7 h=>?_)
  ·obtain⟨ks,pf,y4,y5,e,_⟩:=h;exact a7.of e
  ·clear D npl el;obtain⟨ks,pf,y4,y5,el7,npl,D,rfl⟩:=h;have hj:j < l.wy.length:=by have:=(eQ.mp ex).1; rw[bJ]at this; exact this
   rw[fP hj]at ex;cases ex;have eg:(ck ls a)[j]?=some l.wy[j]:=by rw[ewy]; exact cu hj
   have hgl:l.wy[j] < ls.length:=Ey okl _ (vB hj);generalize l.wy[j]=g at eg hgl;have u8:=aj ntt (.tup [.int (j:Int),.int (g:Int)]);have L8:=D.L.same u8;have el8:=u8 _ _ el7;have ett:upd H7 tt (.tup [.int (j:Int),.int (g:Int)]) tt=some (.tup [.int (j:Int),.int (g:Int)]):=af;have s8:=D.s.trans u8;generalize upd H7 tt (.tup [.int (j:Int),.int (g:Int)])=H8 at L8 el8 ett s8;have lk:ks.length≤ls.length:=cX D.nd D.lt;have fin:∀ (H9:Hp) (ks':List Nat) (pf':Nat→Addr),Fd K H H9 ls.length pd ks' pf' (fun k=>lead ls (rs.take i) k++hits ((ck ls a).take j) a k)→H9 pl=some (.lst (aX l.wy))→(∀ k∈ks',pf' k≠pl)→g∈ks'→
     ∃ ys,H9 (pf' g)=some (.lst ys)∧∀ t9,H9 t9=none→upd H9 t9 (.tup [.int (a:Int),.int (j:Int)]) (pf' g)=some (.lst ys)∧ys.length < sizeLine∧
      upd (upd H9 t9 (.tup [.int (a:Int),.int (j:Int)])) (pf' g) (.lst (ys++[.ref t9])) pl=some (.lst (aX l.wy))∧
      Fd K H (upd (upd H9 t9 (.tup [.int (a:Int),.int (j:Int)])) (pf' g) (.lst (ys++[.ref t9]))) ls.length pd ks' pf' (fun k=>lead ls (rs.take i) k++hits ((ck ls a).take (j + 1)) a k):=by
    intro H9 ks' pf' D9 el9 npl9 hg;obtain⟨ys,ey,_,ly⟩:=D9.L.len hg;refine⟨ys,ey,fun t9 nt9=>?_⟩;have u9:=aj nt9 (.tup [.int (a:Int),.int (j:Int)]);have L9:=D9.L.same u9;have ey9:=u9 _ _ ey;have iv9:Is K (upd H9 t9 (.tup [.int (a:Int),.int (j:Int)])) (A5 (some (a,j))) (.ref t9):=cI (bY.of af) (au a9 (au a9 aM));have b1:=vd ls g (rs.take i);have b2:=nD ((ck ls a).take j) a g;have b3:=nq ls a;rw[qy]at b1 b2;rw[iD]at ly;refine⟨ey9,aO (by lia),?_,⟨aD.new (D9.s.trans u9) (D9.fr g hg),(L9.app hg ey9 iv9).congr fun k=>?_,D9.nd,D9.z,D9.lt,D9.fr,fun k hk=>?_⟩⟩
    ·rw[aq (npl9 g hg).symm]; exact u9 _ _ el9
    ·rw[lA eg,mE]
    ·rw[lA eg,← mE,D9.out k hk,if_neg (fun z:g=k=>hk (z ▸ hg))]; rfl
   refine⟨tt,_,rfl,bY.of ett,rfl,_,_,rfl,_,_,rfl,rfl,?_⟩;refine⟨_,rfl,.inr (.inr (.inl ⟨rfl,.inl ⟨_,L8.d⟩⟩)),_,rfl,bQ rfl,fun pe npe=>?_⟩;obtain⟨hd,q1,q2⟩:=zS L8 D.out (g:=g) npe;have ue:=aj npe (.lst []);have hpe:pe≠pl:=(cx el8 npe).symm;refine⟨pd,_,.inl (g:Int),.ref pe,rfl,rfl,hd,aO (by rw[gK]; lia),fun v hv=>?_,fun hv=>?_⟩
   ·obtain⟨rfl,hg,L9⟩:=q1 v hv;obtain⟨ys,ey,fn⟩:=fin _ ks pf ⟨s8.trans ue,L9,D.nd,D.z,D.lt,D.fr,D.out⟩ (ue _ _ el8) npl hg;refine⟨.inl ⟨rfl,_,a7.of ey⟩,_,rfl,_,rfl,bQ rfl,fun t9 nt9=>?_⟩;obtain⟨f1,f2,f3,f4⟩:=fn t9 nt9;exact⟨pf g,ys,_,rfl,rfl,f1,f2,ks,pf,_,_,f3,npl,f4,rfl⟩
   ·obtain⟨hg,L9⟩:=q2 hv;have hne:∀ j,j∈ks→j≠g:=fun j hj z=>hg (z ▸ hj)
    have b1:∀ k∈ks++[g],k < ls.length:=fun k hk=>by
     rcases fv.mp hk with hk | hk
     ·exact D.lt k hk
     ·rw[dU.mp hk]; exact hgl
    have b2:∀ k∈ks++[g],H (if k=g then pe else pf k)=none:=fun k hk=>by
     rcases fv.mp hk with hk | hk
     ·rw[if_neg (hne k hk)]; exact D.fr k hk
     ·rw[dU.mp hk,if_pos rfl]; exact ay s8 npe
    have b3:∀ k∈ks++[g],(if k=g then pe else pf k)≠pl:=fun k hk=>by
     rcases fv.mp hk with hk | hk
     ·rw[if_neg (hne k hk)]; exact npl k hk
     ·rw[dU.mp hk,if_pos rfl]; exact hpe
    obtain⟨ys,ey,fn⟩:=fin _ (ks++[g]) _ ⟨aD.new (s8.trans ue) npd,L9,fN D.nd hg,tq _ D.z,b1,b2,fun k hk=>D.out k fun z=>hk (tq _ z)⟩ (by rw[aq (bh (ue _ _ el8) hd (by intro z; cases z))]; exact ue _ _ el8) b3 (by simp);simp only[if_pos]at ey fn;refine⟨.inl ⟨rfl,_,a7.of ey⟩,_,rfl,_,rfl,bQ rfl,fun t9 nt9=>?_⟩;obtain⟨f1,f2,f3,f4⟩:=fn t9 nt9;exact⟨pe,ys,_,rfl,rfl,f1,f2,ks++[g],_,_,_,f3,b3,f4,rfl⟩
  ·obtain⟨ks,pf,y4,y5,el7,npl,D,rfl⟩:=h;have e:(ck ls a).take (aX l.wy).length=ck ls a:=Ez (by rw[ewy,bJ]; exact cq _);refine⟨ks,pf,_,_,_,⟨D.s,D.L.congr fun k=>?_,D.nd,D.z,D.lt,D.fr,fun k hk=>?_⟩,rfl⟩
   ·rw[kW ea,e]
   ·have:=D.out k hk;rw[e]at this;rw[kW ea]; exact this
 ·obtain⟨ks,pf,y3,y4,y5,D,rfl⟩:=h;rw[bJ,Ah]at D;exact⟨_,rfl,q _ pd ks pf D.s D.L (Bv R D.z D.out)⟩
abbrev rD:Stmt:=top 54
theorem yz:aF ["_law_program_here","_law_at","_law_which_here","_law_state","_law_line_here"] qE (ao rD):=by walk_at "k"
theorem CJ{K:aW}{a l:Addr}(ne:a≠l)(h:a7 K H a xs):a7 K (upd H l o) a xs:=by
 rcases h with (h | ⟨u,h⟩) | h
 ·exact .inl (.inl (by rw[aq ne]; exact h))
 ·exact .inl (.inr ⟨u,by rw[aq ne]; exact h⟩)
 ·exact .inr h
inductive wq(K:aW)(vs:List V)(H:Hp)(Q:VK)(E:XK):Prop|m(tp al ps l:Addr)(nm rw:Nat)(ls:List Ln)(ln:Ln)(at_ j g:Nat)(kvs:List (Key × V))(ys:List V)(_:vs=[.ref tp,.int (at_:Int),.int (j:Int),.ref ps])(_:gX K H tp al nm rw ls)(_:al≠l)(_:H ps=some (.dK kvs))(_:cv kvs (.inr "steps")=some (.ref l))(_:H l=some (.lst ys))(_:ys.length≤900)(_:ls[at_]?=some ln)(_:ln.wy[j]?=some g)(_:∀ (H':Hp) (t:Addr),H t=none→(∀ b o,b≠l→H b=some o→H' b=some o)→H' t=some (.tup [.int (at_:Int),.int (j:Int)])→H' l=some (.lst (ys++[.ref t]))→Q (.int (g:Int)) H')
theorem DT(F:cM K "_law_gone" "_law_gone" rD f fd)(c_law_ways:Cl P w K mg base "_law_ways" n qO (mS K)):bg P w K mg base cH (n + 1) f fd qE (wq K):=by
 refine F.ok yz (by walk_at "l") (fun cdv A outer s H vs Q E hr h=>?_);obtain⟨tp,al,ps,l,nm,rw,ls,ln,at_,j,g,kvs,ys,rfl,hP,nal,eps,ev,el,hy,eln,eg,q⟩:=h;have hu:(A.deeper (envOfC "_law_gone" (ao rD) s.heap.objs.size f cdv)).units + 1 < cLine:=by have:=hr.units; omega
 refine⟨_,(@ag _ _ _ _ _ (bZ (fJ v9 Cp Cv cE (bR hu (pv 3) aJ) (aa (aY (aa (pv 1) (aa (pv 2) ae))) ae)))
   (@ag _ _ _ _ _ (aV (i:=4) yz.nd (av aK (av aA (pv 0) ai) (pv 1)))
   (ak (az (av aK (aC c_law_ways hr rfl (aa (pv 4) ae)) (pv 2)))))),?_⟩
 refine⟨_,rfl,ps,.ref l,rfl,.inl ⟨kvs,.inr "steps",.inl eps,rfl,ev.symm⟩,.inl ⟨rfl,_,a7.of el⟩,_,rfl,_,rfl,bQ rfl,fun t nt=>?_⟩;have ut:=aj nt (.tup [.int (at_:Int),.int (j:Int)]);have el1:=ut _ _ el;refine⟨l,ys,.ref t,rfl,rfl,el1,aO (by omega),?_⟩;have P1:=hP.same ut;have ntl:t≠l:=fun z=>by rw[z,el]at nt; cases nt
 have et:upd H t (.tup [.int (at_:Int),.int (j:Int)]) t=some (.tup [.int (at_:Int),.int (j:Int)]):=af;generalize upd H t (.tup [.int (at_:Int),.int (j:Int)])=H1 at ut el1 P1 et;have tl:=bu.lst (ys:=ys++[.ref t]) el1;have k2:∀ b o,b≠l→H b=some o→upd H1 l (.lst (ys++[.ref t])) b=some o:=fun b o ne e=>by rw[aq ne]; exact ut _ _ e
 have et2:upd H1 l (.lst (ys++[.ref t])) t=some (.tup [.int (at_:Int),.int (j:Int)]):=by rw[aq ntl]; exact et
 have el2:upd H1 l (.lst (ys++[.ref t])) l=some (.lst (ys++[.ref t])):=af;have hT2:=tl.sq P1.t;have hL2:∃ xs,a7 K (upd H1 l (.lst (ys++[.ref t]))) al xs∧IsL K (upd H1 l (.lst (ys++[.ref t]))) (ls.map Ln.D) xs:=by
  obtain⟨xs,h1,h2⟩:=P1.l;exact⟨xs,CJ nal h1,h2.mono tl⟩
 generalize upd H1 l (.lst (ys++[.ref t]))=H2 at k2 et2 el2 hT2 hL2;have ha:at_ < ls.length:=(eQ.mp eln).1;obtain⟨xs,v,hxs,hv,iv⟩:=eN hL2 ha;have e':ls[at_]=ln:=by rw[cu ha]at eln; exact mW eln
 rw[e']at iv;refine⟨_,rfl,tp,_,2,_,rfl,rfl,hT2,at2 _ _ _ _,_,rfl,al,xs,_,_,rfl,rfl,hxs,hv,?_⟩;refine⟨_,rfl,ln,v,rfl,iv,fun H3 p s3 ep _=>?_⟩;refine⟨_,rfl,p,_,_,_,rfl,rfl,a7.of ep,bf (by unfold aX; rw[lK,eg]; rfl),?_⟩;exact q H3 t nt (fun b o ne e=>s3 _ _ (k2 b o ne e)) (s3 _ _ et2) (s3 _ _ el2)
noncomputable abbrev kz:List Key:=[.inr "zero"]
noncomputable abbrev kn(x:Nat)(v:Int):List Key:=[.inr "name",.inl (x:Int),.inl v]
noncomputable abbrev kl(r:Nat):List Key:=[.inr "len",.inl (r:Int)]
theorem uc{y:Nat}{v u:Int}(h:kn x v=kn y u):x=y∧v=u:=by
 injection h with _ h;injection h with h1 h;injection h with h2 _;have e:=Sum.inl.inj h1;exact⟨by lia,Sum.inl.inj h2⟩
theorem Hy{y:Nat}(h:kl x=kl y):x=y:=by
 injection h with _ h;injection h with h1 h;have e:=Sum.inl.inj h1
 lia
theorem Ay{v:Int}:kz≠kn x v:=fun h=>by injection h with _ h; cases h
theorem HA:kz≠kl r:=fun h=>by injection h with _ h; cases h
theorem xQ{v:Int}:kl r≠kn x v:=fun h=>by injection h with _ h; injection h with _ h; cases h
def f9(wk:List (List Key × V))(d:D)(i:Int):Prop:=∃ k,mf d k∧cv wk k=some (.int i)
def Ae(wk:List (List Key × V))(f:Ft):Prop:=∃ x y:Int,f9 wk f.a x∧f9 wk f.b y∧x - y≤f.c
theorem f9.put{d:D}{i:Int}{k:List Key}(h:f9 wk d i)(n:cv wk k=none):f9 (putK wk k v) d i:=by
 obtain⟨k',h1,h2⟩:=h;refine⟨k',h1,?_⟩;rw[bN,if_neg (fun z=>by rw[z,n]at h2; cases h2)];exact h2
noncomputable def fG(rows:List (List Int)):List Int:=rows.map fun r=>(r.length:Int)
theorem gx(rows:List (List Int)):(fG rows).length=rows.length:=cU ..
theorem BC{rows:List (List Int)}(h:r < rows.length):(fG rows)[r]?=some ((rows[r]?.getD []).length:Int):=by
 unfold fG;rw[lK,cu h]; rfl
structure Wk (wk:List (List Key × V)) (sz cn vals:List Int):Prop where
 z:cv wk kz=some (.int 0)
 l:∀ (r:Nat) (s:Int),sz[r]?=some s→cv wk (kl r)=some (.int s)
 n:∀ (x:Nat) (c v:Int),cn[x]?=some c→vals[x]?=some v→cv wk (kn x c)=some (.int v)
 f:∀ (x:Nat) (c u:Int),cn[x]?=some c→c < u→cv wk (kn x u)=none
 e:cn.length=vals.length
section
variable {sz:List Int}{rows:List (List Int)}
theorem Wk.zero(W:Wk wk sz cn vals):f9 wk oC 0:=⟨kz,.zero,W.z⟩
theorem Wk.name(W:Wk wk sz cn vals)(hx:x < cn.length):f9 wk (pT x (cn[x]?.getD 0)) (worth vals (some x)):=by
 have hv:x < vals.length:=by rw[← W.e]; exact hx
 refine⟨kn x (cn[x]?.getD 0),.name _ _,W.n x _ _ ?_ ?_⟩
 ·rw[cu hx]; rfl
 ·show vals[x]?=some (vals[x]?.getD 0);rw[cu hv]; rfl
theorem Wk.opt(W:Wk wk sz cn vals)(hy:d6 cn.length y):f9 wk (sC cn y) (worth vals y):=by
 cases y with
 | none=>exact W.zero
 | some x=>exact W.name hy
theorem Wk.len(W:Wk wk (fG rows) cn vals)(hr:r < rows.length):f9 wk (rJ r) ((rows[r]?.getD []).length:Int):=⟨kl r,.len _,W.l r _ (BC hr)⟩
theorem Wk.nd(W:Wk wk (fG rows) cn vals){q:Nd}(hq:q.Ok cn.length rows.length):f9 wk (q.now cn) (q.val vals rows):=by
 cases q with
 | zero=>exact W.zero
 | name x=>exact W.name hq
 | len r=>exact W.len hq
theorem Wk.give(W:Wk wk sz cn vals){c v:Int}(hx:cn[x]?=some c):Wk (putK wk (kn x (c + 1)) (.int v)) sz (cn.set x (c + 1)) (vals.set x v):=by
 have hl:=(eQ.mp hx).1;refine⟨?_,fun r s h=>?_,fun y c' v' h1 h2=>?_,fun y c' u h1 h2=>?_,by rw[xI,xI]; exact W.e⟩
 ·rw[bN,if_neg Ay]; exact W.z
 ·rw[bN,if_neg xQ]; exact W.l r s h
 ·by_cases e:x=y
  ·subst e;rw[yM hl]at h1;rw[yM (by rw[← W.e]; exact hl)]at h2;cases h1; cases h2;rw[bN,if_pos rfl]
  ·rw[Af e]at h1 h2;rw[bN,if_neg (fun z=>e (uc z).1.symm)];exact W.n y c' v' h1 h2
 ·by_cases e:x=y
  ·subst e;rw[yM hl]at h1;cases h1;rw[bN,if_neg (fun z=>by have:=(uc z).2; lia)];exact W.f x c u hx (by lia)
  ·rw[Af e]at h1;rw[bN,if_neg (fun z=>e (uc z).1.symm)];exact W.f y c' u h1 h2
theorem Wk.new(W:Wk wk sz cn vals){c:Int}(hx:cn[x]?=some c):cv wk (kn x (c + 1))=none:=W.f x c _ hx (by lia)
theorem j0{a b:D}{c i j:Int}(ha:f9 wk a i)(hb:f9 wk b j)(h:i - j≤c):Ae wk ⟨a,b,c⟩:=⟨i,j,ha,hb,h⟩
theorem Ae.keep(k:∀ d i,f9 wk d i→f9 wk' d i){f:Ft}(h:Ae wk f):Ae wk' f:=by
 obtain⟨x,y,h1,h2,h3⟩:=h;exact⟨x,y,k _ _ h1,k _ _ h2,h3⟩
theorem Hh(W:Wk wk (fG rows) cn vals){q:Bd}(hq:q.Ok cn.length rows.length)(h:q.so vals rows=true):Ae wk (q.now cn):=
 ⟨_,_,W.nd hq.1,W.nd hq.2,pH h⟩
theorem Fm(W:Wk wk (fG rows) cn vals){q:Bd}(hq:q.Ok cn.length rows.length)(h:q.so vals rows=false):Ae wk (q.now cn).turn:=by
 refine⟨_,_,W.nd hq.2,W.nd hq.1,?_⟩;have:=of_decide_eq_false h;show _≤-1 - q.c
 lia
theorem AR{m:Mem}(W:Wk wk (fG rows) cn m.nums)(ok:l.Ok cn.length rows.length nl)(hlk:l.look m.nums rows=none)(keep:∀ d i,f9 wk d i→f9 wk' d i)
  (new:∀ x,l.given=some x→f9 wk' (newD cn x) ((l.run rows m).nums[x]?.getD 0)):∀ f∈l.facts (if l.bit m.nums rows then 1 else 0) cn,Ae wk' f:=by
 intro f hf;have hm:∀ {x:Nat},x < cn.length→x < m.nums.length:=fun h=>by rw[← W.e]; exact h
 have place:∀ (d:bT) (s:Nat × Option Nat × Int),d.slot=some s→d.Ok cn.length rows.length→d.look m.nums rows=none→f∈[rQ cn s,iB cn s]→Ae wk' f:=by
  intro d s hs hd hk hf;obtain⟨p0,p1⟩:=si hs hk;obtain⟨o1,o2⟩:=j5 hs hd;rcases dO.mp hf with rfl | hf
  ·exact j0 (keep _ _ W.zero) (keep _ _ (W.opt o2)) (by lia)
  ·rw[dU.mp hf];exact j0 (keep _ _ (W.opt o2)) (keep _ _ (W.len o1)) (by lia)
 cases l with
 | stop=>cases hf
 | deed d k=>
  cases d with
  | set x y c=>
   have n1:=new x rfl;have e:((Ln.deed (.set x y c) k).run rows m).nums[x]?.getD 0=worth m.nums y + c:=by
    show (m.nums.set x _)[x]?.getD 0=_;rw[yM (hm ok.1.1)]; rfl
   rw[e]at n1;rcases dO.mp (show f∈nR (newD cn x) (sC cn y) c from hf) with rfl | hf
   ·exact j0 n1 (keep _ _ (W.opt ok.1.2)) (by lia)
   ·rw[dU.mp hf];exact j0 (keep _ _ (W.opt ok.1.2)) n1 (by lia)
  | len x r=>
   have n1:=new x rfl;have e:((Ln.deed (.len x r) k).run rows m).nums[x]?.getD 0=((rows[r]?.getD []).length:Int):=by
    show (m.nums.set x _)[x]?.getD 0=_;rw[yM (hm ok.1.1)]; rfl
   rw[e]at n1;rcases dO.mp (show f∈nR (newD cn x) (rJ r) 0 from hf) with rfl | hf
   ·exact j0 n1 (keep _ _ (W.len ok.1.2)) (by lia)
   ·rw[dU.mp hf];exact j0 (keep _ _ (W.len ok.1.2)) n1 (by lia)
  | get x r y c=>exact place _ _ rfl ok.1 hlk hf
  | put r y c z=>exact place _ _ rfl ok.1 hlk hf
  | sum x z y=>cases hf
  | take x=>cases hf
  | tell x=>cases hf
 | test y u c k2 m2=>
  have hf':f∈branch (if !decide (worth m.nums y - worth m.nums u≤c) then 1 else 0) [⟨sC cn y,sC cn u,c⟩]:=hf;by_cases h:worth m.nums y - worth m.nums u≤c
  ·rw[ff h]at hf';rw[dU.mp (show f∈[(⟨sC cn y,sC cn u,c⟩:Ft)] from hf')];exact j0 (keep _ _ (W.opt ok.1)) (keep _ _ (W.opt ok.2.1)) h
  ·rw[fK h]at hf';rw[dU.mp (show f∈[(⟨sC cn u,sC cn y,-1 - c⟩:Ft)] from hf')];exact j0 (keep _ _ (W.opt ok.2.1)) (keep _ _ (W.opt ok.1)) (by lia)
 | ask bs k2 m2=>
  have hf':f∈branch (if !bs.all (Bd.so m.nums rows) then 1 else 0) (bs.map (Bd.now cn)):=hf;cases h:bs.all (Bd.so m.nums rows) with
  | true=>
   rw[h]at hf';obtain⟨q,hq,rfl⟩:=zM.mp (show f∈bs.map (Bd.now cn) from hf');exact (Hh W (ok.1 q hq) (List.all_eq_true.mp h q hq)).keep keep
  | false=>
   rw[h]at hf';have h1:(if (!false)=true then 1 else 0)≠0:=by decide
   match bs,ok,h,hf' with
   | [],_,_,hf'=>cases hf'
   | [q],ok,h,hf'=>
    rw[dU.mp (show f∈[(q.now cn).turn] from hf')];exact (Fm W (ok.1 q oE) (by simpa using h)).keep keep
   | _::_::_,_,_,hf'=>cases hf'
end
theorem Dt(q:Bd):q.D=(q.now (List.replicate nm 0)).D:=by
 have e:∀ p:Nd,p.D=p.now (List.replicate nm 0):=fun p=>by
  cases p with
  | zero=>rfl
  | len r=>rfl
  | name x=>
   show D.tup _=D.tup [.str "name",.int (x:Int),.int ((List.replicate nm (0:Int))[x]?.getD 0)];have:(List.replicate nm (0:Int))[x]?.getD 0=0:=by
    rw[List.getElem?_replicate]; split <;> rfl
   rw[this]; rfl
 show D.tup [q.a.D,q.b.D,_]=D.tup [_,_,_];rw[e q.a,e q.b]; rfl
structure Wi (wk:List (List Key × V)) (sz vals:List Int) (i j:Nat):Prop where
 z:cv wk kz=some (.int 0)
 l:∀ (r:Nat) (s:Int),r < i→sz[r]?=some s→cv wk (kl r)=some (.int s)
 n:∀ (x:Nat) (v:Int),x < j→vals[x]?=some v→cv wk (kn x 0)=some (.int v)
 f:∀ (x:Nat) (u:Int),u≠0→cv wk (kn x u)=none
 len:wk.length≤1 + i + j
section
variable {sz:List Int}
theorem Wi.zero:Wi [(kz,.int 0)] sz vals 0 0:=
 ⟨cy rfl,fun r s h=>absurd h (Nat.not_lt_zero _),fun x v h=>absurd h (Nat.not_lt_zero _),fun x u _=>cA (p:=(kz,V.int 0)) Ay,cq _⟩
theorem Wi.Hq(h:Wi wk sz vals i j){s:Int}(e:sz[i]?=some s):Wi (putK wk (kl i) (.int s)) sz vals (i + 1) j:=by
 refine⟨?_,fun r s' hr e'=>?_,fun x v hx e'=>?_,fun x u hu=>?_,by have:=b9 wk (kl i) (.int s); have:=h.len; lia⟩
 ·rw[bN,if_neg HA]; exact h.z
 ·by_cases q:r=i
  ·subst q;rw[e]at e'; cases e';rw[bN,if_pos rfl]
  ·rw[bN,if_neg (fun z=>q (Hy z))];exact h.l r s' (by lia) e'
 ·rw[bN,if_neg (fun z=>xQ z.symm)]; exact h.n x v hx e'
 ·rw[bN,if_neg (fun z=>xQ z.symm)]; exact h.f x u hu
theorem Wi.names(h:Wi wk sz vals i j){v:Int}(e:vals[j]?=some v):Wi (putK wk (kn j 0) (.int v)) sz vals i (j + 1):=by
 refine⟨?_,fun r s' hr e'=>?_,fun x v' hx e'=>?_,fun x u hu=>?_,by have:=b9 wk (kn j 0) (.int v); have:=h.len; lia⟩
 ·rw[bN,if_neg Ay]; exact h.z
 ·rw[bN,if_neg xQ]; exact h.l r s' hr e'
 ·by_cases q:x=j
  ·subst q;rw[e]at e'; cases e';rw[bN,if_pos rfl]
  ·rw[bN,if_neg (fun z=>q (uc z).1)];exact h.n x v' (by lia) e'
 ·rw[bN,if_neg (fun z=>hu (uc z).2)]; exact h.f x u hu
theorem Al{c:Int}(h:(List.replicate m (0:Int))[x]?=some c):c=0:=by
 rw[List.getElem?_replicate]at h;split at h
 ·cases h; rfl
 ·cases h
theorem Wi.done(h:Wi wk sz vals sz.length vals.length):Wk wk sz (List.replicate vals.length 0) vals:=
 ⟨h.z,fun r s e=>h.l r s (eQ.mp e).1 e,fun x c v e e'=>by rw[Al e]; exact h.n x v (eQ.mp e').1 e',fun x c u e hu=>h.f x u (by have:=Al e; lia),Ac⟩
end
theorem Du{rows:List (List Int)}{rw:Nat}(h:l.Ok nm rw nl)(hs:l≠.stop):l.next nums rows < nl:=by
 cases l with
 | deed d k=>exact h.2
 | test y u c k m=>
  show (if _ then m else k) < nl;split
  ·exact h.2.2.2
  ·exact h.2.2.1
 | ask bs k m=>
  show (if _ then m else k) < nl;split
  ·exact h.2.2.2
  ·exact h.2.2.1
 | stop=>exact absurd rfl hs
theorem j4{rows:List (List Int)}(hs:l≠.stop):l.wy[if l.bit nums rows then 1 else 0]?=some (l.next nums rows):=by
 cases l with
 | deed d k=>rfl
 | test y u c k m=>
  show [k,m][_]?=some (if _ then m else k);cases (Ln.test y u c k m).bit nums rows <;> rfl
 | ask bs k m=>
  show [k,m][_]?=some (if _ then m else k);cases (Ln.ask bs k m).bit nums rows <;> rfl
 | stop=>exact absurd rfl hs
theorem C1{rows:List (List Int)}{rw:Nat}(ok:Am ls nm rw)(wf:qr ls):∀ i,i < ls.length→∃ n j l,Pass ls nums rows n i j∧ls[j]?=some l∧l.calm:=by
 intro i
 induction wf i with
 | intro i _ ih=>
  intro hi;have el:=cu hi;cases e:ls[i] with
  | ask bs k m=>
   rw[e]at el;have hg:(Ln.ask bs k m).next nums rows=k∨(Ln.ask bs k m).next nums rows=m:=by
    show (if _ then m else k)=k∨(if _ then m else k)=m;split
    ·exact .inr rfl
    ·exact .inl rfl
   obtain⟨n,j,l,h1,h2,h3⟩:=ih _ ⟨bs,k,m,el,hg⟩ (Du (nums:=nums) (rows:=rows) (ok _ (gh el)) (fun z=>by cases z));exact⟨n + 1,j,l,.go el h1,h2,h3⟩
  | deed d k=>rw[e]at el; exact⟨0,i,_,.here el trivial,el,trivial⟩
  | test y u c k m=>rw[e]at el; exact⟨0,i,_,.here el trivial,el,trivial⟩
  | stop=>rw[e]at el; exact⟨0,i,_,.here el trivial,el,trivial⟩
theorem Tr.snoc(t:Tr ls rs h st a)(e:lead ls rs c=[some (a,j)]):Tr ls rs h (st++[(a,j)]) c:=by
 induction t with
 | nil k=>exact .cons e (.nil c)
 | cons e' t ih=>exact .cons e' (ih e)
theorem zp(R:bM ls rs)(ha:a∈rs)(e:(ck ls a)[j]?=some c)(hc:d4 c (lead ls rs c)=false):lead ls rs c=[some (a,j)]:=by
 have hr:c∈rs:=(R.mem c).mpr (.step ((R.mem a).mp ha) (gh e));obtain⟨a',j',q⟩:=uM R hr hc;have:=sO ha e;rw[q]at this;rw[q,dU.mp this]
theorem rg(ls:List Ln)(nm rw:Nat)(st:List (Nat × Nat)):along ls nm rw st st.length=st.foldl (FV ls) (nV rw,List.replicate nm 0):=by
 unfold along; rw[Ah]
theorem vT{rw:Nat}{k:Nat}(h:ls[a]?=some l):along ls nm rw (st++[(a,k)]) (st++[(a,k)]).length=((along ls nm rw st st.length).1++l.facts k (along ls nm rw st st.length).2,l.behind (along ls nm rw st st.length).2):=by
 rw[rg,rg,List.foldl_append];show FV ls _ (a,k)=_;rw[ic (s:=(a,k)) h]
theorem yZ{rows:List (List Int)}{m:Mem}(h:l.given=some x):∃ v,(l.run rows m).nums=m.nums.set x v:=by
 cases l with
 | deed d k=>
  cases d with
  | set y z c=>cases h; exact⟨_,rfl⟩
  | sum y z c=>cases h; exact⟨_,rfl⟩
  | len y z=>cases h; exact⟨_,rfl⟩
  | take y=>cases h; exact⟨_,rfl⟩
  | get y r z c=>cases h; exact⟨_,rfl⟩
  | tell y=>cases h
  | put r y c z=>cases h
 | test y u c k m=>cases h
 | ask bs k m=>cases h
 | stop=>cases h
theorem AE{rows:List (List Int)}{m:Mem}(h:l.given=none):(l.run rows m).nums=m.nums:=by
 cases l with
 | deed d k=>
  cases d with
  | set y z c=>cases h
  | sum y z c=>cases h
  | len y z=>cases h
  | take y=>cases h
  | get y r z c=>cases h
  | tell y=>rfl
  | put r y c z=>rfl
 | test y u c k m=>rfl
 | ask bs k m=>rfl
 | stop=>rfl
theorem yA{rows:List (List Int)}{m:Mem}(l:Ln):fG (l.rows rows m)=fG rows:=by
 cases l with
 | deed d k=>
  cases d with
  | put r y c z=>
   show List.map _ (rows.set r _)=List.map _ rows;rw[List.map_set];refine List.ext_getElem? fun i=>?_
   by_cases e:r=i
   ·subst e;by_cases h:r < rows.length
    ·rw[yM (by rw[cU]; exact h),lK,cu h,xI]; rfl
    ·rw[ES (by rw[xI,cU]; lia),ES (by rw[cU]; lia)]
   ·rw[Af e]
  | _=>rfl
 | _=>rfl
theorem BU{rows:List (List Int)}{m:Mem}(l:Ln):(l.run rows m).nums.length=m.nums.length:=by
 cases l with
 | deed d k=>cases d <;> simp[Ln.run,bT.run]
 | _=>rfl
theorem zI{rows:List (List Int)}{m:Mem}(l:Ln):(l.run rows m).heard.length≤m.heard.length + 1:=by
 cases l with
 | deed d k=>cases d <;> simp[Ln.run,bT.run]
 | test y u c k m2=>exact zH _
 | ask bs k m2=>exact zH _
 | stop=>exact zH _
abbrev gM:Stmt:=top 50
theorem gf:aF Iw qH (ao gM):=by walk_at "k"
inductive nI(K:aW)(vs:List V)(H:Hp)(Q:VK)(E:XK):Prop|m(l:Ln)(v:V)(lv lz:Addr)(vals:List Int)(rows:List (List Int))(nl:Nat)(_:vs=[v,.ref lv,.ref lz])(_:Is K H l.D v)(_:l.Ok vals.length rows.length nl)(_:H lv=some (.lst (aB vals)))(_:H lz=some (.lst (aB (fG rows))))(_:vals.length≤100)(_:rows.length≤100)(_:∀ H',aD H H'→Q (.int (if l.bit vals rows then 1 else 0)) H')
theorem Ce{rows:List (List Int)}(h1:l.word≠"test")(h2:l.word≠"ask"):l.bit nums rows=false:=by
 cases l with
 | test y u c k m=>exact absurd rfl h1
 | ask bs k m=>exact absurd rfl h2
 | _=>rfl
theorem iV{a:Addr}{kvs:List (List Key × V)}(h:DW K H a kvs)(s:aD H H'):DW K H' a kvs:=let ⟨zs,e,c⟩:=h; ⟨zs,s _ _ e,c⟩
theorem BV(F:cM K "_law_which" "_law_which" gM f fd)(m_int:mg "int" = none)(m_all:mg "all" = none)(m_range:mg "range" = none)(m_len:mg "len" = none)(c_law_so:Cl P w K mg base "_law_so" n F1 (DG K)):bg P w K mg base cH (n + 1) f fd qH (nI K):=by
 refine F.ok gf (by walk_at "l") (fun cdv A outer s H vs Q E hr h=>?_);obtain⟨l,v,lv,lz,vals,rows,nl,rfl,hi,ok,elv,elz,v100,r100,q⟩:=h;have hu:(A.deeper (envOfC "_law_which" (ao gM) s.heap.objs.size f cdv)).units + 1 < cLine:=by have:=hr.units; lia
 have huz:(A.deeper (envOfC "_law_which" (ao gM) s.heap.objs.size f cdv)).units < cLine:=by lia
 refine⟨_,(@ag _ _ _ _ _ (ba (aE bA (av aA (pv 0) ai) aJ) (@ag _ _ _ _ _ (jM (cS ["_law_name"] rfl (cW (N:=Iw) (so:=ao gM) rfl rfl (by decide +kernel)) (oo (hU sd (pv 0) (fH ai) (fH ai))) (fun _ _ _ _ _ _=>(aU (i:=0) (show List.Nodup (α:=Str) ["_law_name","_law_line_here","_law_values","_law_sizes","_law_worths","_law_k","_law_a","_law_b"] by decide +kernel) rfl (Or.inl rfl) (Or.inr rfl))) (fun _ _ _ _ _ _=>cf) (fun _ _ _ _ _ _=>(av (AF (K:=K) rfl) (aR oa (bo (aa ai ae)) (pv 2)) (cC (aE gp (pv 0) cJ) (aR bK ai (pv 0)) ai)))) (FH rfl (bG (aU (i:=5) gf.nd rfl (Or.inl rfl)) (bG (aU (i:=6) gf.nd rfl (Or.inl rfl)) eK))))
   (ak (az (bw cP rfl m_int Ci (aa (bU lY (aR dD (pv 5) (pv 6)) (av aA (pv 0) ai)) ae))))) aN)
   (@ag _ _ _ _ _ (ba (aE bA (av aA (pv 0) ai) aJ) (@ag _ _ _ _ _ (@iq _ _ 3 _ _ _ _ gf.nd rfl (Or.inr rfl) (ur huz (aY (aa aJ ae)) ai) rfl (by first | exact .inl rfl | exact .inr rfl))
   (@ag _ _ _ _ _ (cQ mO rfl (bO rfl m_range (aa (bj a8 rfl m_len qi (aa (pv 1) ae)) ae)) (aU (i:=4) gf.nd rfl (Or.inl rfl)) (ak (jZ hu (pv 3) (aY (aa aJ (aa (pv 4) (aa ai ae)))) (av aK (pv 1) (pv 4)) rfl)))
   (@ag _ _ _ _ _ (cQ mO rfl (bO rfl m_range (aa (bj a8 rfl m_len qi (aa (pv 2) ae)) ae)) (aU (i:=4) gf.nd rfl (Or.inl rfl)) (ak (jZ hu (pv 3) (aY (aa aJ (aa (pv 4) ae))) (av aK (pv 2) (pv 4)) rfl)))
   (ak (az (bw cP rfl m_int Ci (aa (FK (bj (tI rfl) rfl m_all PyProof.Rows.boot_all (aa (cS ["_law_bound"] rfl (cW (N:=Iw) (so:=ao gM) rfl rfl (by decide +kernel)) (oo (av aA (pv 0) ai)) (fun _ _ _ _ _ _=>(aU (i:=0) (show List.Nodup (α:=Str) ["_law_bound","_law_line_here","_law_values","_law_sizes","_law_worths","_law_k","_law_a","_law_b"] by decide +kernel) rfl (Or.inl rfl) (Or.inr rfl))) (fun _ _ _ _ _ _=>cf) (fun _ _ _ _ _ _=>(aC c_law_so hr rfl (aa (pv 0) (aa (pv 4) ae))))) ae))) ae))))))) aN)
   (ak (az ai)))),?_⟩
 obtain⟨t,vs,rfl,hq,il⟩:=dk hi;refine⟨_,rfl,t,_,0,_,rfl,rfl,hq,dW _ _,rfl,_,rfl,cT (fun c=>?_) (fun c=>?_)⟩
 ·obtain⟨y,u,cc,m1,m2,rfl⟩:=rA (gS c);obtain⟨r1,rfl,i1⟩:=jf il;obtain⟨r2,rfl,i2⟩:=jf i1;obtain⟨r3,rfl,i3⟩:=bD i2;obtain⟨r4,rfl,i4⟩:=bD i3;obtain⟨r5,rfl,i5⟩:=bD i4;cases i5.nil_inv;refine⟨_,rfl,_,rfl,_,rfl,t,_,rfl,hq,fun t1 H1 s1 q1=>⟨t1,rfl,⟨_,q1⟩,fun p np=>?_⟩⟩;refine kc (xs:=[kT y,kT u]) (fun i H'=>aD H1 H'∧H' p=some (.lst (aB ([worth vals y,worth vals u].take i)))) ⟨aj np _,af⟩ (fun i H' _ h=>h.1.aS.sq q1) (fun i x H' ex h=>?_) (fun H' h=>?_)
  ·obtain⟨z,oz,rfl,ew⟩:∃ z:Option Nat,d6 vals.length z∧x=kT z∧[worth vals y,worth vals u][i]?=some (worth vals z):=by
    match i,ex with
    | 0,ex=>cases ex; exact⟨y,ok.1,rfl,rfl⟩
    | 1,ex=>cases ex; exact⟨u,ok.2.1,rfl,rfl⟩
   have Gm:i < 2:=(eQ.mp ew).1;have fin:∀ {H4:Hp},aD H' H4→∃ acc,H4 p=some (.lst acc)∧acc.length < sizeLine∧aD H1 (upd H4 p (.lst (acc++[.int (worth vals z)])))∧upd H4 p (.lst (acc++[.int (worth vals z)])) p=some (.lst (aB ([worth vals y,worth vals u].take (i + 1)))):=fun {H4} s4=>by
    refine⟨_,s4 _ _ h.2,aO (by rw[bC,qy]; lia),aD.new (h.1.trans s4) np,?_⟩;rw[af,List.take_succ,ew];unfold aB;rw[je]; rfl
   have elv':=(s1.trans h.1) _ _ elv;refine⟨⟨[some (kT z)],rfl,rfl⟩,bP ⟨bQ rfl,fun l1 n1=>⟨_,rfl,l1,lv,_,_,rfl,rfl,af,aj n1 _ _ _ elv',(by rw[bC]; show 1 + _≤_; rw[uF]; lia),fun p2 np2=>?_⟩⟩⟩;have s4:=(aj n1 (.lst [.int 0])).trans (aj np2 (.lst ([.int 0]++aB vals)));cases z with
   | none=>exact⟨_,rfl,rfl,_,rfl,bp ⟨p2,_,_,_,rfl,rfl,a7.of af,dW _ _,fin s4⟩⟩
   | some k=>
    have hk:k < vals.length:=oz;refine⟨_,rfl,rfl,_,rfl,bI ⟨_,rfl,_,_,rfl,rfl,p2,_,_,.int (worth vals (some k)),rfl,rfl,a7.of af,?_,fin s4⟩⟩;rw[show (1:Int) + (k:Int)=((k + 1:Nat):Int) by lia];exact bf (xs:=.int 0::aB vals) (j:=k + 1) (cD hk)
  ·refine⟨p,_,rfl,a7.of h.2,rfl,_,_,rfl,_,_,rfl,rfl,?_⟩;have sm:=s1.trans h.1;refine⟨_,rfl,_,rfl,_,_,rfl,rfl,_,rfl,t,_,3,_,rfl,rfl,sm.aS.sq hq,Ej _ _ _ _ _,_,_,rfl,rfl,.inr ⟨_,rfl,?_⟩⟩;have e:decide (cc < worth vals y - worth vals u)=(Ln.test y u cc m1 m2).bit vals rows:=by
    show _=!decide (worth vals y - worth vals u≤cc);by_cases z:worth vals y - worth vals u≤cc
    ·rw[ff z,fK (by lia)]; rfl
    ·rw[fK z,ff (by lia)]; rfl
   rw[e];exact q _ sm
 refine⟨_,rfl,t,_,0,_,rfl,rfl,hq,dW _ _,rfl,_,rfl,cT (fun c2=>?_) (fun c2=>?_)⟩
 ·obtain⟨bs,m1,m2,rfl⟩:=oV (gS c2);obtain⟨vb,r1,rfl,ib,i1⟩:=mB il;obtain⟨ab,yb,rfl,hqb,ilb⟩:=ib.bB;have ly:bs.length=yb.length:=by have:=ilb.length; rw[cU]at this; exact this
  intro pw npw;have ew6:upd H pw (.dZ [] []) pw=some (.dZ [] []):=af;refine⟨bQ rfl,fun tz ntz=>⟨tz,kz,rfl,(aj ntz _) _ _ ew6,.inl af,fun H2 h2 d2=>?_⟩⟩;have s2:aD H H2:=fun b o e=>by
   rw[h2 b (aH e npw)];exact ((aj npw (.dZ [] [])).trans (aj ntz (.tup [.str "zero"]))) _ _ e
  clear h2 ew6 ntz;refine⟨_,rfl,lv,_,rfl,.inl (a7.of (s2 _ _ elv)),_,rfl,by rw[bC]; lia,by rw[bC]; lia,?_⟩;rw[bC,m8];refine dh (n:=vals.length) (fun i σ H'=>∃ (wk:List (List Key × V)) (y4:Option V),aD H H'∧DW K H' pw wk∧Wi wk (fG rows) vals 0 i∧σ=[some (.ref t),some (.ref lv),some (.ref lz),some (.ref pw),y4,none,none])
   ⟨_,_,s2,d2,Wi.zero,rfl⟩ (fun i σ H' hi h=>?_) (fun σ H' h=>?_)
  ·obtain⟨wk,y4,sm,d,wi,rfl⟩:=h;rw[Co];have lw:=wi.len;refine⟨_,rfl,_,rfl,lv,_,_,_,rfl,rfl,a7.of (sm _ _ elv),bf (cD hi),_,rfl,_,rfl,bQ rfl,fun t3 n3=>⟨pw,wk,t3,kn i 0,rfl,rfl,iV d (aj n3 _),.inl af,aO (by lia),fun H9 _ h9 d9=>?_⟩⟩;exact⟨_,_,fun b o e=>by rw[h9 b (aH e npw)]; exact aj n3 _ _ _ (sm _ _ e),d9,wi.names (by rw[cu hi]; rfl),rfl⟩
  obtain⟨wk,y4,sm,d,wi,rfl⟩:=h;refine⟨_,rfl,lz,_,rfl,.inl (a7.of (sm _ _ elz)),_,rfl,by rw[bC]; lia,by rw[bC,gx]; lia,?_⟩;rw[bC,m8];refine dh (n:=(fG rows).length) (fun i σ H'=>∃ (wk:List (List Key × V)) (y4:Option V),aD H H'∧DW K H' pw wk∧Wi wk (fG rows) vals i vals.length∧σ=[some (.ref t),some (.ref lv),some (.ref lz),some (.ref pw),y4,none,none])
   ⟨_,_,sm,d,wi,rfl⟩ (fun i σ H' hi h=>?_) (fun σ H' h=>?_)
  ·clear sm d wi;obtain⟨wk,y4,sm,d,wi,rfl⟩:=h;rw[Co];have lw:=wi.len;have hz:=gx rows;refine⟨_,rfl,_,rfl,lz,_,_,_,rfl,rfl,a7.of (sm _ _ elz),bf (cD hi),_,rfl,_,rfl,bQ rfl,fun t3 n3=>⟨pw,wk,t3,kl i,rfl,rfl,iV d (aj n3 _),.inl af,aO (by lia),fun H9 _ h9 d9=>?_⟩⟩;exact⟨_,_,fun b o e=>by rw[h9 b (aH e npw)]; exact aj n3 _ _ _ (sm _ _ e),d9,wi.Hq (by rw[cu hi]; rfl),rfl⟩
  clear sm d wi;obtain⟨wk,y4,sm,d,wi,rfl⟩:=h;have W:=wi.done;refine⟨_,rfl,t,_,1,_,rfl,rfl,sm.aS.sq hq,jO _ _ _,ab,rfl,⟨_,sm.aS.sq hqb⟩,fun p np=>?_⟩;refine kc (xs:=yb) (fun i H2=>aD H' H2∧H2 p=some (.lst (((bs.take i).map (Bd.so vals rows)).map V.bl))) ⟨aj np _,af⟩ (fun i H2 _ h=>(sm.trans h.1).aS.sq hqb) (fun i y H2 ey h=>?_) (fun H2 h=>?_)
  ·have hil:i < bs.length:=by have:=(eQ.mp ey).1; lia
   have eb:=cu hil;obtain⟨y',ey',iy⟩:=ilb.get (j:=i) (d:=bs[i].D) (by rw[lK,eb]; rfl);rw[ey]at ey'; cases ey';have okb:=ok.1 _ (vB hil);generalize bs[i]=b at eb iy okb;have okb':b.Ok (List.replicate vals.length (0:Int)).length rows.length:=by rw[Ac]; exact okb
   obtain⟨ka,ha1,ha2⟩:=W.nd okb'.1;obtain⟨kb,hb1,hb2⟩:=W.nd okb'.2;rw[Dt (nm:=vals.length) b]at iy;refine⟨⟨[some y],rfl,rfl⟩,bP ⟨_,rfl,_,rfl,y,pw,b.now (List.replicate vals.length 0),ka,kb,wk,_,_,rfl,iy.mono (sm.trans h.1).aS,ha1,hb1,(iV d h.1).rd,ha2,hb2,_,h.2,aO ?_,aD.new h.1 np,?_⟩⟩
   ·rw[cU,cU,qy];have h4:=ok.2.1
    lia
   ·rw[af,List.take_succ,eb];simp only[Option.toList_some,je,mD,List.map_nil];rfl
  ·rw[← ly,Ah]at h;refine⟨p,_,rfl,a7.of h.2,_,rfl,.inr ⟨_,rfl,?_⟩⟩;rw[List.all_map];exact q _ (sm.trans h.1)
 ·have:=Ce (nums:=vals) (rows:=rows) (f7 c) (f7 c2);rw[this]at q;exact q H (aD.refl H)
abbrev kD:Stmt:=top 51
theorem nc:aF ["_law_state","_law_at","_law_values","_law_sizes","_law_k"] qG (ao kD):=by walk_at "k"
noncomputable abbrev stK(lc:Addr)(cut:Int)(l n w:Addr):List (Key × V):=[(.inr "cuts",.ref lc),(.inr "cut",.int cut),(.inr "steps",.ref l),(.inr "counts",.ref n),(.inr "worths",.ref w)]
structure fU (K:aW) (H:Hp) (ps lc l n w:Addr) (cut:Nat) (st:List (Nat × Nat)) (cn:List Int) (wk:List (List Key × V)):Prop where
 d:H ps=some (.dK (stK lc (cut:Int) l n w))
 s:∃ ys,H l=some (.lst ys)∧IsL K H (st.map dq) ys
 cnt:H n=some (.lst (aB cn))
 wth:DW K H w wk
 ln:l≠n
def Kp(ps:Addr)(H H':Hp):Prop:=∀ b o,b≠ps→H b=some o→H' b=some o
theorem Kp.trans(a:Kp ps H H1)(b:Kp ps H1 H2):Kp ps H H2:=fun c o n e=>b c o n (a c o n e)
theorem Kp.of(a:aD H H1):Kp ps H H1:=fun c o _ e=>a c o e
theorem Kp.upd:Kp ps H (upd H ps o):=fun c o n e=>by rw[aq n]; exact e
theorem Kp.aS(a:Kp ps H H1)(e:H ps=some (.dK kvs)):bu H H1:=⟨fun b zs h=>a _ _ (bh h e (by intro z; cases z)) h,fun b o u h=>a _ _ (bh h e (by intro z; cases z)) h⟩
theorem Kp.seq{K:aW}{b:Addr}(a:Kp ps H H1)(e:H ps=some (.dK kvs))(h:a7 K H b xs):a7 K H1 b xs:=by
 rcases h with (h | ⟨u,h⟩) | h
 ·exact .inl (.inl (a _ _ (bh h e (by intro z; cases z)) h))
 ·exact .inl (.inr ⟨u,a _ _ (bh h e (by intro z; cases z)) h⟩)
 ·exact .inr h
theorem Kp.lst{b:Addr}(a:Kp ps H H1)(e:H ps=some (.dK kvs))(h:H b=some (.lst xs)):H1 b=some (.lst xs):=a _ _ (bh h e (by intro z; cases z)) h
theorem Kp.free{c:Addr}(a:Kp ps H H1)(e:H1 ps=some o)(h:H1 c=none):H c=none:=by
 cases hc:H c with
 | none=>rfl
 | some o'=>
  have ne:c≠ps:=fun z=>by rw[z,e]at h; cases h
  rw[a c o' ne hc]at h; cases h
def Jv(lc:Addr)(kvs:List (Key × V)):Prop:=kvs=[(.inr "cuts",.ref lc)]∨∃ (c:Int) (l n w:Addr),kvs=stK lc c l n w
theorem Gw(h:Jv lc kvs)(c:Int)(l n w:Addr):kvs.length≤5∧putK (putK (putK (putK kvs (.inr "cut") (.int c)) (.inr "steps") (.ref l)) (.inr "counts") (.ref n)) (.inr "worths") (.ref w)=stK lc c l n w:=by
 rcases h with rfl | ⟨_,_,_,_,rfl⟩
 ·exact⟨bQ rfl,rfl⟩
 ·exact⟨bQ rfl,rfl⟩
inductive tj(K:aW)(vs:List V)(H:Hp)(Q:VK)(E:XK):Prop|m(ps lc lv lz:Addr)(at_:Nat)(kvs:List (Key × V))(vals sz:List Int)(_:vs=[.ref ps,.int (at_:Int),.ref lv,.ref lz])(_:H ps=some (.dK kvs))(_:Jv lc kvs)(_:H lv=some (.lst (aB vals)))(_:H lz=some (.lst (aB sz)))(_:vals.length≤100)(_:sz.length≤100)(_:∀ (H':Hp) (l n w:Addr) (wk:List (List Key × V)),Kp ps H H'→H l=none→H n=none→H w=none→fU K H' ps lc l n w at_ [] (List.replicate vals.length 0) wk→Wk wk sz (List.replicate vals.length 0) vals→wk.length≤300→Q .non H')
theorem Bi(F:cM K "_law_begun" "_law_begun" kD f fd)(m_range:mg "range" = none)(m_len:mg "len" = none):bg P w K mg base cH (n + 1) f fd qG (tj K):=by
 refine F.ok nc (by walk_at "l") (fun cdv A outer s H vs Q E hr h=>?_);obtain⟨ps,lc,lv,lz,at_,kvs,vals,sz,rfl,eps,k0,elv,elz,v100,z100,q⟩:=h;have hu:(A.deeper (envOfC "_law_begun" (ao kD) s.heap.objs.size f cdv)).units + 1 < cLine:=by have:=hr.units; lia
 have huz:(A.deeper (envOfC "_law_begun" (ao kD) s.heap.objs.size f cdv)).units < cLine:=by lia
 refine⟨_,(@ag _ _ _ _ _ (gI hu (pv 0) aJ (pv 1) rfl)
   (@ag _ _ _ _ _ (gI hu (pv 0) aJ (bo ae) rfl)
   (@ag _ _ _ _ _ (gI hu (pv 0) aJ (aR rE (bo (aa ai ae)) (bj a8 rfl m_len qi (aa (pv 2) ae))) rfl)
   (@ag _ _ _ _ _ (gI hu (pv 0) aJ (ur huz (aY (aa aJ ae)) ai) rfl)
   (@ag _ _ _ _ _ (cQ mO rfl (bO rfl m_range (aa (bj a8 rfl m_len qi (aa (pv 3) ae)) ae)) (aU (i:=4) nc.nd rfl (Or.inl rfl)) (ak (jZ hu (bR hu (pv 0) aJ) (aY (aa aJ (aa (pv 4) ae))) (av aK (pv 3) (pv 4)) rfl)))
   (ak (cQ mO rfl (bO rfl m_range (aa (bj a8 rfl m_len qi (aa (pv 2) ae)) ae)) (aU (i:=4) nc.nd rfl (Or.inl rfl)) (ak (jZ hu (bR hu (pv 0) aJ) (aY (aa aJ (aa (pv 4) (aa ai ae)))) (av aK (pv 2) (pv 4)) rfl))))))))),?_⟩
 have lk:=(Gw k0 0 0 0 0).1;refine⟨_,rfl,_,rfl,ps,_,rfl,nP.k (k:=.inr "cut") eps (aO (by lia)),?_⟩;have e1:upd H ps (.dK (putK kvs (.inr "cut") (.int (at_:Int)))) ps=some (.dK (putK kvs (.inr "cut") (.int (at_:Int)))):=af;have k1:Kp ps H (upd H ps (.dK (putK kvs (.inr "cut") (.int (at_:Int))))):=Kp.upd;generalize upd H ps (.dK (putK kvs (.inr "cut") (.int (at_:Int))))=H1 at e1 k1;have l1:=b9 kvs (.inr "cut") (.int (at_:Int));generalize hkv1:putK kvs (.inr "cut") (.int (at_:Int))=kv1 at e1 l1;refine⟨bQ rfl,fun l nl=>⟨_,rfl,ps,_,rfl,nP.k (k:=.inr "steps") (aj nl (.lst []) _ _ e1) (aO (by lia)),?_⟩⟩;have nl0:=k1.free e1 nl;have pl:l≠ps:=(cx e1 nl).symm;have e2:upd (upd H1 l (.lst [])) ps (.dK (putK kv1 (.inr "steps") (.ref l))) ps=some (.dK (putK kv1 (.inr "steps") (.ref l))):=af;have k2:Kp ps H (upd (upd H1 l (.lst [])) ps (.dK (putK kv1 (.inr "steps") (.ref l)))):=(k1.trans (Kp.of (aj nl _))).trans Kp.upd;have el2:upd (upd H1 l (.lst [])) ps (.dK (putK kv1 (.inr "steps") (.ref l))) l=some (.lst []):=by rw[aq pl,af]
 generalize upd (upd H1 l (.lst [])) ps (.dK (putK kv1 (.inr "steps") (.ref l)))=H2 at e2 k2 el2;have l2:=b9 kv1 (.inr "steps") (.ref l);generalize hkv2:putK kv1 (.inr "steps") (.ref l)=kv2 at e2 l2;refine⟨bQ rfl,fun lz' nlz'=>?_⟩;have s3:=aj nlz' (.lst [.int 0]);refine⟨_,rfl,lv,_,rfl,.inl (a7.of (s3 _ _ (k2.lst eps elv))),?_⟩;rw[bC];refine⟨lz',_,[.int 0],rfl,rfl,af,by lia,by lia,(by rw[uF,m8,vm]; lia),fun an nan=>?_⟩;rw[m8,vi];have s4:=aj nan (.lst (aB (List.replicate vals.length 0)));have s34:=s3.trans s4;have ean:upd (upd H2 lz' (.lst [.int 0])) an (.lst (aB (List.replicate vals.length 0))) an=some (.lst (aB (List.replicate vals.length 0))):=af;have nan2:=ay s3 nan;have nan0:=k2.free e2 nan2;generalize upd (upd H2 lz' (.lst [.int 0])) an (.lst (aB (List.replicate vals.length 0)))=H4 at s34 ean;clear s3 s4 nan nlz';have e4:=s34 _ _ e2;have el4:=s34 _ _ el2;have k4:=k2.trans (Kp.of (ps:=ps) s34);have lan:l≠an:=cx el2 nan2;refine⟨_,rfl,ps,_,rfl,nP.k (k:=.inr "counts") e4 (aO (by lia)),?_⟩;have pan:an≠ps:=(cx e2 nan2).symm;have e5:upd H4 ps (.dK (putK kv2 (.inr "counts") (.ref an))) ps=some (.dK (putK kv2 (.inr "counts") (.ref an))):=af;have k5:Kp ps H (upd H4 ps (.dK (putK kv2 (.inr "counts") (.ref an)))):=k4.trans Kp.upd;have el5:upd H4 ps (.dK (putK kv2 (.inr "counts") (.ref an))) l=some (.lst []):=by rw[aq pl]; exact el4
 have ean5:upd H4 ps (.dK (putK kv2 (.inr "counts") (.ref an))) an=some (.lst (aB (List.replicate vals.length 0))):=by rw[aq pan]; exact ean
 generalize upd H4 ps (.dK (putK kv2 (.inr "counts") (.ref an)))=H5 at e5 k5 el5 ean5;have l5:=b9 kv2 (.inr "counts") (.ref an);generalize hkv5:putK kv2 (.inr "counts") (.ref an)=kv5 at e5 l5;intro pw npw;have s6:=aj npw (.dZ [] []);have ew6:upd H5 pw (.dZ [] []) pw=some (.dZ [] []):=af;have npw0:=k5.free e5 npw;refine⟨bQ rfl,fun tz ntz=>⟨tz,kz,rfl,(aj ntz _) _ _ ew6,.inl af,fun H7 h7 d7=>?_⟩⟩;have s67:=s6.trans (aj ntz (.tup [.str "zero"]));have keep7:∀ b o,b≠pw→H5 b=some o→H7 b=some o:=fun b o ne e=>by rw[h7 b ne]; exact s67 _ _ e
 have pp:ps≠pw:=cx e5 npw;have lp:l≠pw:=cx el5 npw;have ap:an≠pw:=cx ean5 npw;have e7:=keep7 _ _ pp e5;have el7:=keep7 _ _ lp el5;have ean7:=keep7 _ _ ap ean5;have k7:Kp ps H H7:=fun b o ne e=>keep7 b o (aH e npw0) (k5 b o ne e)
 clear h7 keep7 s67 ntz ew6 s6;refine⟨_,rfl,ps,_,rfl,nP.k (k:=.inr "worths") e7 (aO (by lia)),?_⟩;have fin:=(Gw k0 (at_:Int) l an pw).2;rw[hkv1,hkv2,hkv5]at fin;rw[fin];obtain⟨zs,ew7,cz⟩:=d7;have e8:upd H7 ps (.dK (stK lc (at_:Int) l an pw)) ps=some (.dK (stK lc (at_:Int) l an pw)):=af;have k8:Kp ps H (upd H7 ps (.dK (stK lc (at_:Int) l an pw))):=k7.trans Kp.upd;have el8:upd H7 ps (.dK (stK lc (at_:Int) l an pw)) l=some (.lst []):=by rw[aq pl]; exact el7
 have ean8:upd H7 ps (.dK (stK lc (at_:Int) l an pw)) an=some (.lst (aB (List.replicate vals.length 0))):=by rw[aq pan]; exact ean7
 have d8:DW K (upd H7 ps (.dK (stK lc (at_:Int) l an pw))) pw [(kz,.int 0)]:=⟨zs,by rw[aq pp.symm]; exact ew7,cz⟩
 generalize upd H7 ps (.dK (stK lc (at_:Int) l an pw))=H8 at e8 k8 el8 ean8 d8;clear ew7 e7 el7 ean7 k7 e5 el5 ean5 k5 e4 el4 k4 e2 el2 k2 e1 k1 npw s34 ean nan2 nl
 -- lengths,then names
 have put:∀ {H':Hp} {wk:List (List Key × V)},Kp ps H H'→H' ps=some (.dK (stK lc (at_:Int) l an pw))→H' l=some (.lst [])→H' an=some (.lst (aB (List.replicate vals.length 0)))→DW K H' pw wk→∀ {H'':Hp} {t:Addr} {o:HO},H' t=none→(∀ c,c≠pw→H'' c=upd H' t o c)→
   Kp ps H H''∧H'' ps=some (.dK (stK lc (at_:Int) l an pw))∧H'' l=some (.lst [])∧H'' an=some (.lst (aB (List.replicate vals.length 0))):=by
  intro H' wk k e el ea d H'' t o nt h;have s:=aj nt o;exact⟨fun b o' ne e'=>by rw[h b (aH e' npw0)]; exact s _ _ (k b o' ne e'),by rw[h _ pp]; exact s _ _ e,by rw[h _ lp]; exact s _ _ el,by rw[h _ ap]; exact s _ _ ea⟩
 refine⟨_,rfl,lz,_,rfl,.inl (a7.of (k8.lst eps elz)),_,rfl,by rw[bC]; lia,by rw[bC]; lia,?_⟩;rw[bC,m8];refine dh (n:=sz.length) (fun i σ H'=>∃ (wk:List (List Key × V)) (y4:Option V),Kp ps H H'∧H' ps=some (.dK (stK lc (at_:Int) l an pw))∧H' l=some (.lst [])∧H' an=some (.lst (aB (List.replicate vals.length 0)))∧DW K H' pw wk∧Wi wk sz vals i 0∧σ=[some (.ref ps),some (.int (at_:Int)),some (.ref lv),some (.ref lz),y4])
  ⟨_,_,k8,e8,el8,ean8,d8,Wi.zero,rfl⟩ (fun i σ H' hi h=>?_) (fun σ H' h=>?_)
 ·obtain⟨wk,y4,k,e,el,ea,d,wi,rfl⟩:=h;rw[Co];refine⟨_,rfl,_,rfl,lz,_,_,_,rfl,rfl,a7.of (k.lst eps elz),bf (cD hi),_,rfl,ps,.ref pw,rfl,.inl ⟨_,.inr "worths",.inl e,rfl,rfl⟩,_,rfl,bQ rfl,fun t nt=>?_⟩;have lw:=wi.len;refine⟨pw,wk,t,kl i,rfl,rfl,iV d (aj nt _),.inl af,aO (by lia),fun H9 _ h9 d9=>?_⟩;obtain⟨k',e',el',ea'⟩:=put k e el ea d nt h9;exact⟨_,_,k',e',el',ea',d9,wi.Hq (by rw[cu hi]; rfl),rfl⟩
 ·obtain⟨wk,y4,k,e,el,ea,d,wi,rfl⟩:=h;refine⟨_,rfl,lv,_,rfl,.inl (a7.of (k.lst eps elv)),_,rfl,by rw[bC]; lia,by rw[bC]; lia,?_⟩;rw[bC,m8];refine dh (n:=vals.length) (fun i σ H'=>∃ (wk:List (List Key × V)) (y4:Option V),Kp ps H H'∧H' ps=some (.dK (stK lc (at_:Int) l an pw))∧H' l=some (.lst [])∧H' an=some (.lst (aB (List.replicate vals.length 0)))∧DW K H' pw wk∧Wi wk sz vals sz.length i∧σ=[some (.ref ps),some (.int (at_:Int)),some (.ref lv),some (.ref lz),y4])
   ⟨_,_,k,e,el,ea,d,wi,rfl⟩ (fun i σ H' hi h=>?_) (fun σ H' h=>?_)
  ·clear k e el ea d wi;obtain⟨wk,y4,k,e,el,ea,d,wi,rfl⟩:=h;rw[Co];refine⟨_,rfl,_,rfl,lv,_,_,_,rfl,rfl,a7.of (k.lst eps elv),bf (cD hi),_,rfl,ps,.ref pw,rfl,.inl ⟨_,.inr "worths",.inl e,rfl,rfl⟩,_,rfl,bQ rfl,fun t nt=>?_⟩;have lw:=wi.len;refine⟨pw,wk,t,kn i 0,rfl,rfl,iV d (aj nt _),.inl af,aO (by lia),fun H9 _ h9 d9=>?_⟩;obtain⟨k',e',el',ea'⟩:=put k e el ea d nt h9;exact⟨_,_,k',e',el',ea',d9,wi.names (by rw[cu hi]; rfl),rfl⟩
  ·clear k e el ea d wi;obtain⟨wk,y4,k,e,el,ea,d,wi,rfl⟩:=h;have lw:=wi.len;exact q H' l an pw wk k nl0 nan0 npw0 ⟨e,⟨[],el,aM⟩,ea,d,lan⟩ wi.done (by lia)
abbrev kF:Stmt:=top 52
theorem gg:aF ["_law_program_here","_law_at","_law_values","_law_sizes","_law_state","_law_line_here","_law_less","_law_place"] qA (ao kF):=by walk_at "k"
structure Good (ls:List Ln) (nm rw:Nat) (rs:List Nat) (at_ cut:Nat) (st:List (Nat × Nat)) (cn:List Int) (wk:List (List Key × V)) (sz vals:List Int):Prop where
 tr:xi ls rs at_ cut st
 vc:cn=(along ls nm rw st st.length).2
 so:∀ f∈(along ls nm rw st st.length).1,Ae wk f
 ww:Wk wk sz cn vals
 wl:wk.length≤300 + st.length
inductive tY(K:aW)(vs:List V)(H:Hp)(Q:VK)(E:XK):Prop|m(tp al lv lz ps lc l n w:Addr)(nm rw:Nat)(ls:List Ln)(rs:List Nat)(at_ cut:Nat)(st:List (Nat × Nat))(cn:List Int)(wk:List (List Key × V))(vals:List Int)(rows:List (List Int))(_:vs=[.ref tp,.int (at_:Int),.ref lv,.ref lz,.ref ps])(_:gX K H tp al nm rw ls)(_:bM ls rs)(_:fU K H ps lc l n w cut st cn wk)(_:Good ls nm rw rs at_ cut st cn wk (fG rows) vals)(_:vals.length=nm)(_:rows.length=rw)(_:H lv=some (.lst (aB vals)))(_:H lz=some (.lst (aB (fG rows))))(_:lF ls at_)(_:∀ H',aD H H'→Q (.bl true) H')
theorem D8{b:Bool}{A:Prop}(e:b=false)(h:B):if b=true then A else B:=by rw[e]; exact bp h
theorem zd(h:l.isPlace=false):vz (.str l.word) [.str "get",.str "put"]=false:=by
 cases l with
 | deed d k=>
  cases d with
  | get x r y c=>cases h
  | put r y c z=>cases h
  | _=>rfl
 | _=>rfl
theorem fU.same{l n w:Addr}(h:fU K H ps lc l n w cut st cn wk)(s:aD H H'):fU K H' ps lc l n w cut st cn wk:=by
 obtain⟨ys,h1,h2⟩:=h.s;exact⟨s _ _ h.d,⟨ys,s _ _ h1,h2.mono s.aS⟩,s _ _ h.cnt,iV h.wth s,h.ln⟩
theorem zi(F:cM K "_law_looked" "_law_looked" kF f fd)(m_int:mg "int" = none)(c_law_so:Cl P w K mg base "_law_so" n F1 (DG K))(c_needs:Cl P w K mg base "needs" n ["program","look"] (yK K)):bg P w K mg base cH (n + 1) f fd qA (tY K):=by
 refine F.ok gg (by walk_at "l") (fun cdv A outer s H vs Q E hr h=>?_);obtain⟨tp,al,lv,lz,ps,lc,l,n,w,nm,rw,ls,rs,at_,cut,st,cn,wk,vals,rows,rfl,hP,R,S,G,hnm,hrw,elv,elz,hat,q⟩:=h;have hu:(A.deeper (envOfC "_law_looked" (ao kF) s.heap.objs.size f cdv)).units + 1 < cLine:=by have:=hr.units; lia
 refine⟨_,(@ag _ _ _ _ _ (aV (i:=5) gg.nd (av aK (av aA (pv 0) ai) (pv 1)))
   (@ag _ _ _ _ _ (ba (aE rM (av aA (pv 5) ai) (aY (di rfl)) (by with_unfolding_all rfl)) (ak (az dR)) aN)
   (@ag _ _ _ _ _ (aV (i:=6) gg.nd (bw cP rfl m_int Ci (aa (bU bA (av aA (pv 5) ai) aJ) ae)))
   (@ag _ _ _ _ _ (aV (i:=7) gg.nd (av aA (pv 5) (aR dD ai (pv 6))))
   (@ag _ _ _ _ _ (ba (aE gp (av aA (pv 5) (aR dD ai (pv 6))) cJ) (ak (aV (i:=7) gg.nd (aR bK (pv 7) (av aK (pv 2) (av aA (pv 5) (aR dD ai (pv 6))))))) aN)
   (@ag _ _ _ _ _ (ba (aE B9 (aC c_law_so hr rfl (aa (aC c_needs hr rfl (aa (pv 0) (aa (aY (aa (pv 1) (aa aJ ae))) ae))) (aa (bR hu (pv 4) aJ) ae))) (bU BB (pv 7) ai)) (ak (az dR)) aN)
   (ak (az (bU bA (aC c_law_so hr rfl (aa (aC c_needs hr rfl (aa (pv 0) (aa (aY (aa (pv 1) (aa aJ ae))) ae))) (aa (bR hu (pv 4) aJ) ae))) (bU kf (pv 7) (av aK (pv 3) (av aA (pv 5) (aR dD ai (pv 6)))))))))))))),?_⟩
 have hla:=hat.lt hP.ok;obtain⟨xl,vl,hxl,hvl,ivl⟩:=eN hP.l hla;have el:=cu hla;have okl:=hP.ok.ok _ (vB hla);generalize ls[at_]=ln at ivl el okl;obtain⟨t,vs,rfl,hq,il⟩:=dk ivl;refine⟨_,rfl,tp,_,2,_,rfl,rfl,hP.t,at2 _ _ _ _,_,rfl,al,xl,_,_,rfl,rfl,hxl,hvl,?_⟩;refine⟨_,rfl,t,_,0,_,rfl,rfl,hq,dW _ _,bQ rfl,fun t2 n2=>⟨t2,_,rfl,.inr (bY.of af),rfl,rfl,_,rfl,?_⟩⟩;have s2:=aj n2 (.tup [.str "get",.str "put"]);cases hpl:ln.isPlace with
 | false=>
  dsimp only[if_pos];rw[zd hpl];exact bI (q _ s2)
 | true=>
  obtain⟨d,m,rfl⟩:∃ d m,ln=.deed d m:=by
   cases ln with
   | deed d m=>exact⟨d,m,rfl⟩
   | _=>cases hpl
  obtain⟨sl,hsl⟩:=oH hpl;have hso:=j5 hsl okl.1;have hw:vz (.str (Ln.deed d m).word) [.str "get",.str "put"]=true:=by
   cases d with
   | get x r y c=>rfl
   | put r y c z=>rfl
   | _=>cases hsl
  dsimp only[if_pos];rw[hw];refine bp ?_;have hq2:=s2.aS.sq hq;have lw:∃ k:Nat,(if decide (V.str (Ln.deed d m).word=V.str "put") then (1:Int) else 0)=(k:Int)∧k≤1∧me (.str (Ln.deed d m).word::vs) (4 - (k:Int))=some (.int sl.2.2)∧me (.str (Ln.deed d m).word::vs) (3 - (k:Int))=some (kT sl.2.1)∧me (.str (Ln.deed d m).word::vs) (2 - (k:Int))=some (.int (sl.1:Int)):=by
   cases d with
   | get x r y c=>
    cases hsl;obtain⟨r1,rfl,i1⟩:=bD il;obtain⟨r2,rfl,i2⟩:=bD i1;obtain⟨r3,rfl,i3⟩:=jf i2;obtain⟨r4,rfl,i4⟩:=bD i3;exact⟨0,rfl,fE _,Jq _ _ _ _ _ _,Ej _ _ _ _ _,at2 _ _ _ _⟩
   | put r y c z=>
    cases hsl;obtain⟨r2,rfl,i2⟩:=bD il;obtain⟨r3,rfl,i3⟩:=jf i2;obtain⟨r4,rfl,i4⟩:=bD i3;exact⟨1,rfl,cq _,Ej _ _ _ _ _,at2 _ _ _ _,jO _ _ _⟩
   | _=>cases hsl
  obtain⟨k,ek,hk,a4,a3,a2⟩:=lw;refine⟨_,rfl,t,_,0,_,rfl,rfl,hq2,dW _ _,rfl,.inr ⟨_,rfl,?_⟩⟩;rw[ek];refine⟨_,rfl,_,rfl,_,_,rfl,rfl,t,_,_,_,rfl,rfl,hq2,a4,?_⟩;have elv2:=s2 _ _ elv;have vl:(along ls nm rw st st.length).2.length=nm:=(eB (rw:=rw) hP.ok.ok G.tr.tr.uR (cq st.length)).n;dsimp only[kO,rR,qd];refine r9 (fun σ' H'=>σ'=[some (.ref tp),some (.int (at_:Int)),some (.ref lv),some (.ref lz),some (.ref ps),some (.ref t),some (.int (k:Int)),some (.int (worth vals sl.2.1 + sl.2.2))]∧aD H H') (fun σ' H' h=>?_) (fun D' kk=>?_);rotate_left
  ·refine⟨_,rfl,_,rfl,_,_,rfl,rfl,t,_,_,_,rfl,rfl,hq2,a3,rfl,_,rfl,?_⟩;have hy:=hso.2;generalize sl.2.1=y at a3 hy kk;cases y with
   | none=>
    refine bp (kk _ _ ⟨?_,s2⟩);show _=[_,_,_,_,_,_,_,some (V.int (0 + sl.2.2))]
    rw[Co]; rfl
   | some i=>
    have hi:i < vals.length:=by rw[hnm]; exact hy
    refine bI ⟨_,rfl,_,rfl,_,rfl,_,rfl,_,_,rfl,rfl,t,_,_,_,rfl,rfl,hq2,a3,lv,_,_,_,rfl,rfl,a7.of elv2,bf (cD hi),_,_,rfl,rfl,kk _ _ ⟨?_,s2⟩⟩;show _=[_,_,_,_,_,_,_,some (V.int (vals[i]?.getD 0 + sl.2.2))]
    rw[Int.add_comm]; rfl
  obtain⟨rfl,s3⟩:=h;have cn':=G.vc;have need:∀ {H' H'':Hp} {v':V} {hd:Nat} {st':List (Nat × Nat)} {rs':List Nat} {low:Bool},bM ls rs'→xi ls rs' at_ hd st'→Is K H'' (if low then (rQ (along ls nm rw st' st'.length).2 sl).D else (iB (along ls nm rw st' st'.length).2 sl).D) v'→Is K H'' (if low then rQ cn sl else iB cn sl).D v':=by
   intro H' H'' v' hd st' rs' low R' T' h;cases R.eq R';obtain⟨_,rfl⟩:=G.tr.uniq T';rw[cn'];cases low <;> exact h
  have oy:d6 cn.length sl.2.1:=by rw[cn',vl]; exact hso.2
  have or':sl.1 < rows.length:=by rw[hrw]; exact hso.1
  obtain⟨ky,hy1,hy2⟩:=G.ww.opt oy;obtain⟨kl',hl1,hl2⟩:=G.ww.len or';have S3:=S.same s3;refine⟨_,rfl,_,rfl,bQ rfl,fun t3 n3=>?_⟩;have s4:=s3.trans (aj n3 (.tup [.int (at_:Int),.str "low"]));refine⟨tp,al,nm,rw,ls,at_,.ref t3,d,m,sl,true,rfl,hP.same s4,hat,cI (bY.of af) (au a9 (au ee aM)),el,hsl,fun H5 v5 hd5 st5 rs5 s5 R5 T5 i5=>?_⟩;have s5':=s4.trans s5;have S5:=S.same s5';refine⟨_,rfl,ps,.ref w,rfl,.inl ⟨_,.inr "worths",.inl S5.d,rfl,rfl⟩,v5,w,rQ cn sl,kz,ky,wk,0,_,rfl,need (H':=H) R5 T5 i5,.zero,hy1,S5.wth.rd,G.ww.z,hy2,_,rfl,_,_,rfl,rfl,rfl,_,rfl,?_⟩;refine (D8 ?_ ?_)
  ·show (!decide (V.bl (decide (0 - worth vals sl.2.1≤sl.2.2))=V.bl (decide (0≤worth vals sl.2.1 + sl.2.2))))=false;rw[show decide (0 - worth vals sl.2.1≤sl.2.2)=decide (0≤worth vals sl.2.1 + sl.2.2) from decide_eq_decide.mpr (by lia),ff rfl]; rfl
  refine⟨_,rfl,_,rfl,bQ rfl,fun t6 n6=>?_⟩;have s6:=s5'.trans (aj n6 (.tup [.int (at_:Int),.str "high"]));refine⟨tp,al,nm,rw,ls,at_,.ref t6,d,m,sl,false,rfl,hP.same s6,hat,cI (bY.of af) (au a9 (au ee aM)),el,hsl,fun H7 v7 hd7 st7 rs7 s7 R7 T7 i7=>?_⟩;have s7':=s6.trans s7;have S7:=S.same s7';refine⟨_,rfl,ps,.ref w,rfl,.inl ⟨_,.inr "worths",.inl S7.d,rfl,rfl⟩,v7,w,iB cn sl,ky,kl',wk,_,_,rfl,need (H':=H) R7 T7 i7,hy1,hl1,S7.wth.rd,hy2,hl2,?_⟩;refine⟨_,rfl,_,rfl,_,rfl,_,rfl,_,_,rfl,rfl,t,_,_,_,rfl,rfl,s7'.aS.sq hq,a2,lz,_,_,_,rfl,rfl,a7.of (s7' _ _ elz),bf (cD (by rw[gx]; exact or')),_,_,rfl,rfl,rfl,?_⟩;rw[BC or'];have eb:decide (V.bl (decide (worth vals sl.2.1 - ((rows[sl.1]?.getD []).length:Int)≤(iB cn sl).c))=V.bl (decide (worth vals sl.2.1 + sl.2.2 < (some ((rows[sl.1]?.getD []).length:Int)).getD 0)))=true:=by
   refine ff ?_;rw[show decide (worth vals sl.2.1 - ((rows[sl.1]?.getD []).length:Int)≤(iB cn sl).c)=decide (worth vals sl.2.1 + sl.2.2 < (some ((rows[sl.1]?.getD []).length:Int)).getD 0) from decide_eq_decide.mpr (by show _ - _≤-1 - sl.2.2↔_ < ((rows[sl.1]?.getD []).length:Int); lia)]
  rw[eb];exact q _ s7'
abbrev nT:Stmt:=top 53
theorem yw:aF ["_law_program_here","_law_at","_law_values","_law_sizes","_law_state","_law_bound"] qA (ao nT):=by walk_at "k"
structure DY (ls:List Ln) (nm rw:Nat) (rs:List Nat) (at_ cut:Nat) (st:List (Nat × Nat)) (cn:List Int) (wk:List (List Key × V)) (sz vals:List Int):Prop where
 uR:∀ s∈st,lD ls s
 len:st.length≤100
 vc:cn=(along ls nm rw st st.length).2
 so:∀ f∈(along ls nm rw st st.length).1,Ae wk f
 ww:Wk wk sz cn vals
 wl:wk.length≤300 + st.length
 tr:d4 at_ (lead ls rs at_)=false→Tr ls rs cut st at_∧d4 cut (lead ls rs cut)=true
theorem iY(d:D)(ds:List D):D.cj (d::ds)=max d.dep (D.cj ds):=by conv=>lhs; unfold D.cj
theorem km(i:Int):(D.int i).dep=0:=by unfold D.dep; rfl
theorem CP(ds:List D):(D.tup ds).dep=1 + D.cj ds:=by conv=>lhs; unfold D.dep
theorem nM:∀ (l:List Int),D.cj (l.map D.int)=0
 | []=>by unfold D.cj; rfl
 | i::l=>by rw[mD,iY,km,nM l]; rfl
theorem ie{K:aW}{H:Hp}:∀ (l:List Int),IsL K H (l.map D.int) (aB l)
 | []=>aM
 | i::l=>au a9 (ie l)
theorem A8(s:Nat × Nat):(dq s).dep=1:=by
 unfold dq;rw[CP,iY,iY,km,km];unfold D.cj; rfl
theorem rh:∀ (st:List (Nat × Nat)),D.cj (st.map dq)≤1
 | []=>by unfold D.cj; exact fE _
 | s::st=>by
  rw[mD,iY,A8];have:=rh st
  lia
theorem rK{k:Nat}:∀ {l:List Nat},vz (.int (k:Int)) (aX l)=decide (k∈l)
 | []=>rfl
 | a::l=>by
  show (yE (.int (a:Int)) (.int (k:Int)) || vz (.int (k:Int)) (aX l))=_;rw[rK];by_cases e:a=k
  ·subst e;have:yE (.int (a:Int)) (.int (a:Int))=true:=by unfold yE; simp
   rw[this]; simp
  ·have:yE (.int (a:Int)) (.int (k:Int))=false:=by
    unfold yE;simp
    lia
   rw[this];simp[Ne.symm e]
theorem qc:∀ (l:List Nat),(aX l).all jo=true
 | []=>rfl
 | a::l=>qc l
inductive vC(K:aW)(vs:List V)(H:Hp)(Q:VK)(E:XK):Prop|m(tp al lv lz ps lc l n w:Addr)(nm rw:Nat)(ls:List Ln)(rs:List Nat)(at_ cut:Nat)(st:List (Nat × Nat))(cn:List Int)(wk:List (List Key × V))(vals:List Int)(rows:List (List Int))(_:vs=[.ref tp,.int (at_:Int),.ref lv,.ref lz,.ref ps])(_:gX K H tp al nm rw ls)(_:bM ls rs)(_:fU K H ps lc l n w cut st cn wk)(_:DY ls nm rw rs at_ cut st cn wk (fG rows) vals)(_:vals.length=nm)(_:rows.length=rw)(_:H lv=some (.lst (aB vals)))(_:H lz=some (.lst (aB (fG rows))))(_:H lc=some (.lst (aX (gR ls rs))))(_:lF ls at_)(_:∀ (H':Hp) (l' n' w':Addr) (cut':Nat) (st':List (Nat × Nat)) (cn':List Int) (wk':List (List Key × V)),Kp ps H H'→(l'=l∨H l'=none)→(n'=n∨H n'=none)→(w'=w∨H w'=none)→fU K H' ps lc l' n' w' cut' st' cn' wk'→Good ls nm rw rs at_ cut' st' cn' wk' (fG rows) vals→Q (.bl true) H')
theorem xD{rows:List (List Int)}(W:Wk wk (fG rows) cn vals):∀ f∈nV rows.length,Ae wk f:=by
 intro f hf;obtain⟨r,hr,rfl⟩:=zM.mp hf;exact j0 W.zero (W.len (List.mem_range.mp hr)) (by lia)
theorem yd{k:Nat}:k∈gR ls rs↔k∈rs∧d4 k (lead ls rs k)=true:=by unfold gR; exact List.mem_filter
theorem gX.kp{rw:Nat}(h:gX K H tp al nm rw ls)(k:Kp ps H H')(e:H ps=some (.dK kvs)):gX K H' tp al nm rw ls:=by
 obtain⟨h1,⟨xs,h2,h3⟩,h4⟩:=h;exact⟨(k.aS e).sq h1,⟨xs,k.seq e h2,h3.mono (k.aS e)⟩,h4⟩
theorem DD(F:cM K "_law_come" "_law_come" nT f fd)(c_versions:Cl P w K mg base "versions" n qK (jJ K))(c_facts_of:Cl P w K mg base "facts_of" n qK (ql K))(c_law_so:Cl P w K mg base "_law_so" n F1 (DG K))(c_law_begun:Cl P w K mg base "_law_begun" n qG (tj K))(c_trail:Cl P w K mg base "trail" n Ic (sH K))(c_law_looked:Cl P w K mg base "_law_looked" n qA (tY K)):bg P w K mg base cH (n + 1) f fd qA (vC K):=by
 refine F.ok yw (by walk_at "l") (fun cdv A outer s H vs Q E hr h=>?_);obtain⟨tp,al,lv,lz,ps,lc,l,n,w,nm,rw,ls,rs,at_,cut,st,cn,wk,vals,rows,rfl,hP,R,S,G,hnm,hrw,elv,elz,elc,hat,q⟩:=h;have hu:(A.deeper (envOfC "_law_come" (ao nT) s.heap.objs.size f cdv)).units + 1 < cLine:=by have:=hr.units; lia
 have hu2:∀ {n:Nat},n≤5→(A.deeper (envOfC "_law_come" (ao nT) s.heap.objs.size f cdv)).units + 1 + n < cLine:=fun h=>by have:=hr.units; lia
 refine⟨_,(@ag _ _ _ _ _ (ba (aE (DS (n:=1) (hu2 (by decide))) (aC c_versions hr rfl (aa (pv 0) (aa (bR hu (pv 4) aJ) ae))) (bR hu (pv 4) aJ)) (ak (az dR)) aN)
   (@ag _ _ _ _ _ (cQ mO rfl (du (aC c_facts_of hr rfl (aa (pv 0) (aa (bR hu (pv 4) aJ) ae)))) (aU (i:=5) yw.nd rfl (Or.inl rfl)) (ak (ba (nC (dH (aC c_law_so hr rfl (aa (pv 5) (aa (bR hu (pv 4) aJ) ae))))) (ak (az dR)) aN)))
   (@ag _ _ _ _ _ (ba (aE fk (pv 1) (bR hu (pv 4) aJ) (by with_unfolding_all rfl)) (ak (bZ (aC c_law_begun hr rfl (aa (pv 4) (aa (pv 1) (aa (pv 2) (aa (pv 3) ae))))))) aN)
   (ak (az (Fu (bU (BX (n:=5) (hu2 (by decide))) (aC c_trail hr rfl (aa (pv 0) (aa (pv 1) ae))) (aY (aa (bR hu (pv 4) aJ) (aa (bR hu (pv 4) aJ) ae)))) (Cc (aC c_law_looked hr rfl (aa (pv 0) (aa (pv 1) (aa (pv 2) (aa (pv 3) (aa (pv 4) ae))))))))))))),?_⟩
 obtain⟨ys,el,iy⟩:=S.s;have W0:=qm hP (a7.of el) iy G.uR G.len;refine⟨_,rfl,_,rfl,ps,.ref l,rfl,.inl ⟨_,.inr "steps",.inl S.d,rfl,rfl⟩,tp,l,nm,rw,ls,st,rfl,W0,fun H1 p1 s1 e1 n1=>?_⟩;have S1:=S.same s1;refine⟨_,rfl,ps,.ref n,rfl,.inl ⟨_,.inr "counts",.inl S1.d,rfl,rfl⟩,p1,n,_,_,_,_,rfl,rfl,a7.of e1,a7.of S1.cnt,ie _,ie _,by rw[nM]; decide,false,by rw[← G.vc,D.zD]; rfl,bp ?_⟩;refine⟨_,rfl,_,rfl,ps,.ref l,rfl,.inl ⟨_,.inr "steps",.inl S1.d,rfl,rfl⟩,tp,l,nm,rw,ls,st,rfl,W0.same s1,fun H2 pf fs s2 ef nf il=>?_⟩;have s12:=s1.trans s2;refine⟨pf,rfl,⟨_,a7.of ef⟩,?_⟩;refine gj (xs:=fs) (fun i σ H'=>∃ y5:Option V,aD H2 H'∧σ=[some (.ref tp),some (.int (at_:Int)),some (.ref lv),some (.ref lz),some (.ref ps),y5]) ⟨_,aD.refl _,rfl⟩ (fun i σ H' _ h=>?_) (fun i x σ H' ex h=>?_) (fun σ H' h=>?_)
 ·obtain⟨_,sm,_⟩:=h;exact a7.of (sm _ _ ef)
 ·obtain⟨y5,sm,rfl⟩:=h;obtain⟨d,ed,id⟩:=il.get' ex;rw[lK]at ed;obtain⟨g,eg,rfl⟩:=Ed.mp ed;obtain⟨x1,x2,⟨ka,ha1,ha2⟩,⟨kb,hb1,hb2⟩,hle⟩:=G.so g (gh eg);have S3:=S.same (s12.trans sm);refine⟨_,rfl,_,rfl,ps,.ref w,rfl,.inl ⟨_,.inr "worths",.inl S3.d,rfl,rfl⟩,x,w,g,ka,kb,wk,x1,x2,rfl,id.mono sm.aS,ha1,hb1,S3.wth.rd,ha2,hb2,_,rfl,?_⟩;rw[ff hle];exact bp ⟨_,sm,rfl⟩
 obtain⟨y5,sm,rfl⟩:=h;have s3:=s12.trans sm;have S3:=S.same s3;have hP3:=hP.same s3;dsimp only[kO,rR,qd];refine r9 (fun σ' H'=>∃ (l' n' w':Addr) (cut':Nat) (st':List (Nat × Nat)) (cn':List Int) (wk':List (List Key × V)),Kp ps H H'∧(l'=l∨H l'=none)∧(n'=n∨H n'=none)∧(w'=w∨H w'=none)∧fU K H' ps lc l' n' w' cut' st' cn' wk'∧(Tr ls rs cut' st' at_∧d4 cut' (lead ls rs cut')=true)∧cn'=(along ls nm rw st' st'.length).2∧(∀ f∈(along ls nm rw st' st'.length).1,Ae wk' f)∧Wk wk' (fG rows) cn' vals∧wk'.length≤300 + st'.length∧σ'=[some (.ref tp),some (.int (at_:Int)),some (.ref lv),some (.ref lz),some (.ref ps),y5]) (fun σ' H' h=>?_) (fun D' kk=>?_);rotate_left
 ·refine⟨_,rfl,_,rfl,ps,.ref lc,rfl,.inl ⟨_,.inr "cuts",.inl S3.d,rfl,rfl⟩,lc,_,rfl,.inl (a7.of (s3 _ _ elc)),rfl,qc _,_,rfl,?_⟩;have hm:at_∈rs:=(R.mem at_).mpr hat;cases hc:d4 at_ (lead ls rs at_) with
  | true=>
   have e:(if false=true then !vz (.int (at_:Int)) (aX (gR ls rs)) else vz (.int (at_:Int)) (aX (gR ls rs)))=true:=by rw[if_neg (by decide),rK]; exact ff (yd.mpr ⟨hm,hc⟩)
   rw[e];refine bI ⟨_,rfl,_,rfl,_,rfl,_,rfl,ps,lc,lv,lz,at_,_,vals,fG rows,rfl,S3.d,.inr ⟨_,_,_,_,rfl⟩,s3 _ _ elv,s3 _ _ elz,by have:=hP.ok.hn; lia,by rw[gx]; have:=hP.ok.hr; lia,fun H4 l4 n4 w4 wk4 k4 nl4 nn4 nw4 S4 W4 wl4=>?_⟩;refine kk _ _ ⟨l4,n4,w4,at_,[],_,wk4,(Kp.of s3).trans k4,.inr (ay s3 nl4),.inr (ay s3 nn4),.inr (ay s3 nw4),S4,⟨.nil _,hc⟩,by rw[hnm]; rfl,?_,W4,wl4,rfl⟩;have:(along ls nm rw [] ([]:List (Nat × Nat)).length).1=nV rows.length:=by rw[hrw]; rfl
   rw[this];exact xD W4
  | false=>
   have e:(if false=true then !vz (.int (at_:Int)) (aX (gR ls rs)) else vz (.int (at_:Int)) (aX (gR ls rs)))=false:=by rw[if_neg (by decide),rK]; exact fK fun z=>by rw[(yd.mp z).2]at hc; cases hc
   rw[e];exact bp (kk _ _ ⟨l,n,w,cut,st,cn,wk,Kp.of s3,.inl rfl,.inl rfl,.inl rfl,S3,G.tr hc,G.vc,G.so,G.ww,G.wl,rfl⟩)
 obtain⟨l4,n4,w4,cut4,st4,cn4,wk4,k4,fl,fn,fw,S4,⟨tr4,ct4⟩,c4,so4,W4,wl4,rfl⟩:=h;have hP4:=hP.kp k4 S.d;refine⟨_,rfl,_,rfl,tp,al,nm,rw,ls,at_,rfl,hP4,hat,fun H5 t5 p5 ys5 hd5 st5 rs5 s5 et5 ep5 np5 iy5 R5 T5=>?_⟩;cases R.eq R5;obtain⟨e1,e2⟩:=Tr.uniq st4.length (cq _) tr4 T5.tr ct4 T5.cut;subst e1 e2;have S5:=S4.same s5;refine⟨_,rfl,ps,.int (cut4:Int),rfl,.inl ⟨_,.inr "cut",.inl S5.d,rfl,rfl⟩,_,rfl,ps,.ref l4,rfl,.inl ⟨_,.inr "steps",.inl S5.d,rfl,rfl⟩,bQ rfl,fun t6 n6=>?_⟩;have s6:=aj n6 (.tup [.int (cut4:Int),.ref l4]);have S6:=S5.same s6;obtain⟨ys6,el6,iy6⟩:=S6.s;refine⟨[.d (.int (cut4:Int)),.lst ((st4.map dq).map T.d)],.inr ⟨mQ (bY.of (s6 _ _ et5)) (df (vt a9) (df (mI (a7.of (s6 _ _ ep5)) (jX (iy5.mono s6.aS))) iF)),mQ (bY.of af) (df (vt a9) (df (mI (a7.of el6) (jX iy6)) iF))⟩,?_,_,rfl,bI ?_⟩
 ·have h1:=rh st4;have e0:T.dep (.d (.int (cut4:Int)))=0:=by unfold T.dep; exact km _
  have e1:T.dep (.lst ((st4.map dq).map T.d))≤2:=by
   have:T.dep (.lst ((st4.map dq).map T.d))=1 + T.cj ((st4.map dq).map T.d):=by conv=>lhs; unfold T.dep
   rw[this,nY]; lia
  have e2:T.cj [.d (.int (cut4:Int)),.lst ((st4.map dq).map T.d)]=max (T.dep (.d (.int (cut4:Int)))) (max (T.dep (.lst ((st4.map dq).map T.d))) 0):=by
   conv=>lhs; unfold T.cj
   conv=>lhs; rhs; unfold T.cj
   conv=>lhs; rhs; rhs; unfold T.cj
  rw[e2]; lia
 have k6:Kp ps H _:=k4.trans (Kp.of (s5.trans s6));refine⟨_,rfl,_,rfl,_,rfl,_,rfl,_,rfl,tp,al,lv,lz,ps,lc,l4,n4,w4,nm,rw,ls,rs,at_,cut4,st4,cn4,wk4,vals,rows,rfl,hP4.same (s5.trans s6),R,S6,⟨T5,c4,so4,W4,wl4⟩,hnm,hrw,k6.lst S.d elv,k6.lst S.d elz,hat,fun H7 s7=>?_⟩;exact q H7 l4 n4 w4 cut4 st4 cn4 wk4 (k6.trans (Kp.of s7)) fl fn fw (S6.same s7) ⟨T5,c4,so4,W4,wl4⟩
abbrev kQ:Stmt:=top 55
theorem nN:aF qA qA (ao kQ):=by walk_at "k"
theorem Good.step{ls:List Ln}{nm rw:Nat}{rs:List Nat}{i cut:Nat}{st:List (Nat × Nat)}{cn vals':List Int}{wk wk':List (List Key × V)}{rows:List (List Int)}{m:Mem}{l:Ln}(G:Good ls nm rw rs i cut st cn wk (fG rows) m.nums)(hP:Prog nm rw ls)(R:bM ls rs)(hi:lF ls i)(el:ls[i]?=some l)(hs:l≠.stop)(hlk:l.look m.nums rows=none)(hrw:rows.length=rw)
  (keep:∀ d x,f9 wk d x→f9 wk' d x) (new:∀ x,l.given=some x→f9 wk' (newD cn x) ((l.run rows m).nums[x]?.getD 0)) (W':Wk wk' (fG rows) (l.behind cn) vals') (hwl:wk'.length≤wk.length + 1) :
  DY ls nm rw rs (l.next m.nums rows) cut (st++[(i,if l.bit m.nums rows then 1 else 0)]) (l.behind cn) wk' (fG rows) vals':=by
 have ewy:(ck ls i)[if l.bit m.nums rows then 1 else 0]?=some (l.next m.nums rows):=by
  unfold ck;rw[el];exact j4 hs
 have hc:cn.length=nm:=by rw[G.vc]; exact (eB (rw:=rw) hP.ok G.tr.tr.uR (cq st.length)).n
 have okl:l.Ok cn.length rows.length ls.length:=by rw[hc,hrw]; exact hP.ok l (gh el)
 have ea:=vT (nm:=nm) (rw:=rw) (st:=st) (k:=if l.bit m.nums rows then 1 else 0) el;rw[← G.vc]at ea;refine⟨fun s hs=>?_,?_,by rw[ea],fun f hf=>?_,W',by rw[iD,vm]; have:=G.wl; lia,fun hc=>⟨G.tr.tr.snoc (zp R ((R.mem i).mpr hi) ewy hc),G.tr.cut⟩⟩
 ·rcases fv.mp hs with h | h
  ·exact G.tr.tr.uR s h
  ·rw[dU.mp h]; exact step_at ewy
 ·rw[iD,vm];have:=G.tr.len;have:=hP.l1
  lia
 ·rw[ea]at hf;rcases fv.mp hf with h | h
  ·exact (G.so f h).keep keep
  ·exact AR G.ww okl hlk keep new f h
def Cw(ps l:Addr)(H H':Hp):Prop:=∀ b o,b≠ps→b≠l→H b=some o→H' b=some o
section
variable {l:Addr}
theorem Cw.aS(a:Cw ps l H H1)(e:H ps=some (.dK kvs))(el:H l=some (.lst ys)):bu H H1:=⟨fun b zs h=>a _ _ (bh h e (by intro z; cases z)) (bh h el (by intro z; cases z)) h,fun b o u h=>a _ _ (bh h e (by intro z; cases z)) (bh h el (by intro z; cases z)) h⟩
theorem Cw.lst(a:Cw ps l H H1)(e:H ps=some (.dK kvs)){b:Addr}(n:b≠l)(h:H b=some (.lst xs)):H1 b=some (.lst xs):=a _ _ (bh h e (by intro z; cases z)) n h
theorem Cw.pr{K:aW}{rw:Nat}(a:Cw ps l H H1)(e:H ps=some (.dK kvs))(el:H l=some (.lst ys))(n:al≠l)(h:gX K H tp al nm rw ls):gX K H1 tp al nm rw ls:=by
 obtain⟨h1,⟨xs,h2,h3⟩,h4⟩:=h;have t:=a.aS e el;refine⟨t.sq h1,⟨xs,?_,h3.mono t⟩,h4⟩;rcases h2 with (h | ⟨u,h⟩) | h
 ·exact .inl (.inl (a _ _ (bh h e (by intro z; cases z)) n h))
 ·exact .inl (.inr ⟨u,a _ _ (bh h e (by intro z; cases z)) n h⟩)
 ·exact .inr h
end
theorem fU.gone{K:aW}{l n w:Addr}(h:fU K H ps lc l n w cut st cn wk)(el:H l=some (.lst ys))(iy:IsL K H (st.map dq) ys)(k:∀ b o,b≠l→H b=some o→H' b=some o)(et:H' t=some (.tup [.int (i:Int),.int (j:Int)]))(el':H' l=some (.lst (ys++[.ref t]))) :
  fU K H' ps lc l n w cut (st++[(i,j)]) cn wk:=by
 have tp:bu H H':=⟨fun b zs e=>k _ _ (bh e el (by intro z; cases z)) e,fun b o u e=>k _ _ (bh e el (by intro z; cases z)) e⟩
 obtain⟨zs,e,c⟩:=h.wth;refine⟨k _ _ (bh h.d el (by intro z; cases z)) h.d,⟨_,el',?_⟩,k _ _ h.ln.symm h.cnt,⟨zs,k _ _ (bh e el (by intro z; cases z)) e,c⟩,h.ln⟩;rw[je];exact IsL.append (iy.mono tp) (au (cI (bY.of et) (au a9 (au a9 aM))) aM)
theorem xF(b:Bool):(if b=true then (1:Int) else 0)=((if b=true then 1 else 0:Nat):Int):=by cases b <;> rfl
inductive qp(K:aW)(vs:List V)(H:Hp)(Q:VK)(E:XK):Prop|m(tp al lv lz ps lc l n w:Addr)(nm rw:Nat)(ls:List Ln)(rs:List Nat)(at_ j k cut:Nat)(st:List (Nat × Nat))(cn:List Int)(wk:List (List Key × V))(vals:List Int)(rows:List (List Int))(_:vs=[.ref tp,.int (at_:Int),.ref lv,.ref lz,.ref ps])(_:gX K H tp al nm rw ls)(_:(∃ xl,H al=some (.lst xl)))(_:(al≠l∧lv≠l∧lz≠l∧lc≠l))(_:bM ls rs)(_:fU K H ps lc l n w cut st cn wk)(_:Good ls nm rw rs at_ cut st cn wk (fG rows) vals)(_:vals.length=nm)(_:rows.length=rw)(_:H lv=some (.lst (aB vals)))(_:H lz=some (.lst (aB (fG rows))))(_:H lc=some (.lst (aX (gR ls rs))))(_:lF ls at_)(_:Pass ls vals rows k at_ j)(_:∀ (H':Hp) (l' n' w':Addr) (cut':Nat) (st':List (Nat × Nat)) (cn':List Int) (wk':List (List Key × V)),Cw ps l H H'→(∀ c,H' c=none→H c=none)→(l'=l∨H l'=none)→(n'=n∨H n'=none)→(w'=w∨H w'=none)→fU K H' ps lc l' n' w' cut' st' cn' wk'→Good ls nm rw rs j cut' st' cn' wk' (fG rows) vals→lF ls j→Q (.int (j:Int)) H')
theorem wK(F:cM K "_law_through_asks" "_law_through_asks" kQ f fd)(c_law_gone:Cl P w K mg base "_law_gone" n qE (wq K))(c_law_which:Cl P w K mg base "_law_which" n qH (nI K))(c_law_come:Cl P w K mg base "_law_come" n qA (vC K)):bg P w K mg base cH (n + 1) f fd qA (qp K):=by
 refine F.ok nN (by walk_at "l") (fun cdv A outer s H vs Q E hr h=>?_);obtain⟨tp,al,lv,lz,ps,lc,l,n,w,nm,rw,ls,rs,at_,j,k,cut,st,cn,wk,vals,rows,rfl,hP,⟨xal,hal⟩,⟨nal,nlv,nlz,nlc⟩,R,S,G,hnm,hrw,elv,elz,elc,hat,hp,q⟩:=h
 refine⟨_,(@ag _ _ _ _ _ (gi mO (aE bA (av aA (av aK (av aA (pv 0) ai) (pv 1)) ai) aJ) (@ag _ _ _ _ _ (aV (i:=1) nN.nd (aC c_law_gone hr rfl (aa (pv 0) (aa (pv 1) (aa (aC c_law_which hr rfl (aa (av aK (av aA (pv 0) ai) (pv 1)) (aa (pv 2) (aa (pv 3) ae)))) (aa (pv 4) ae))))))
   (ak (ba (nC (dH (aC c_law_come hr rfl (aa (pv 0) (aa (pv 1) (aa (pv 2) (aa (pv 3) (aa (pv 4) ae)))))))) (ak (az cJ)) aN))))
   (ak (az (pv 1)))),?_⟩
 obtain⟨ys0,el0,_⟩:=S.s
 refine⟨fun m σ H'=>∃ (i:Nat) (l' n' w':Addr) (cut':Nat) (st':List (Nat × Nat)) (cn':List Int) (wk':List (List Key × V)),Pass ls vals rows m i j∧Cw ps l H H'∧(∀ c,H' c=none→H c=none)∧(l'=l∨H l'=none)∧(n'=n∨H n'=none)∧(w'=w∨H w'=none)∧fU K H' ps lc l' n' w' cut' st' cn' wk'∧Good ls nm rw rs i cut' st' cn' wk' (fG rows) vals∧lF ls i∧σ=[some (.ref tp),some (.int (i:Int)),some (.ref lv),some (.ref lz),some (.ref ps)],
  ⟨k,at_,l,n,w,cut,st,cn,wk,hp,fun b o _ _ e=>e,fun _ h=>h,.inl rfl,.inl rfl,.inl rfl,S,G,hat,rfl⟩,fun m σ H' h=>?_⟩
 obtain⟨i,l',n',w',cut',st',cn',wk',hp',k',gr',fl,fn,fw,S',G',hi,rfl⟩:=h;have hP':=k'.pr S.d el0 nal hP;have hli:=hi.lt hP.ok;obtain⟨xl,vl,hxl,hvl,ivl⟩:=eN hP'.l hli;have el:=cu hli;have okl:=hP.ok.ok _ (vB hli);generalize ls[i]=ln at ivl el okl;obtain⟨t,vs,rfl,hq,il⟩:=dk ivl;refine⟨_,rfl,tp,_,2,_,rfl,rfl,hP'.t,at2 _ _ _ _,_,rfl,al,xl,_,_,rfl,rfl,hxl,hvl,t,_,0,_,rfl,rfl,hq,dW _ _,rfl,_,rfl,?_⟩;have nz:∀ {b:Addr} {o:HO},H b=some o→b≠l→b≠l':=fun e ne z=>by
  rcases fl with y | y
  ·exact ne (z.trans y)
  ·rw[z,y]at e; cases e
 cases hp' with
 | here hl hc=>
  rw[el]at hl;cases hl;rw[fK (fun z=>rp hc (V.str.inj z))];exact bp ⟨_,rfl,q H' l' n' w' cut' st' cn' wk' k' gr' fl fn fw S' G' hi⟩
 | @go m2 _ _ bs k1 m1 hl hp2=>
  rw[el]at hl;cases hl;refine bI ⟨fun σ' H'=>∃ m',m' < m2 + 1∧∃ (i:Nat) (l' n' w':Addr) (cut':Nat) (st':List (Nat × Nat)) (cn':List Int) (wk':List (List Key × V)),Pass ls vals rows m' i j∧Cw ps l H H'∧(∀ c,H' c=none→H c=none)∧(l'=l∨H l'=none)∧(n'=n∨H n'=none)∧(w'=w∨H w'=none)∧fU K H' ps lc l' n' w' cut' st' cn' wk'∧Good ls nm rw rs i cut' st' cn' wk' (fG rows) vals∧lF ls i∧σ'=[some (.ref tp),some (.int (i:Int)),some (.ref lv),some (.ref lz),some (.ref ps)],fun _ _ h=>h,?_⟩;have elv':=k'.lst S.d nlv elv;have elz':=k'.lst S.d nlz elz;have elc':=k'.lst S.d nlc elc;have okl':(Ln.ask bs k1 m1).Ok vals.length rows.length ls.length:=by rw[hnm,hrw]; exact okl
  refine⟨_,rfl,_,rfl,_,rfl,tp,_,2,_,rfl,rfl,hP'.t,at2 _ _ _ _,_,rfl,al,xl,_,_,rfl,rfl,hxl,hvl,_,rfl,_,rfl,.ask bs k1 m1,.ref t,lv,lz,vals,rows,ls.length,rfl,ivl,okl',elv',elz',by have:=hP.ok.hn; lia,by have:=hP.ok.hr; lia,fun H2 s2=>?_⟩;rw[xF];have S2:=S'.same s2;obtain⟨ys2,el2,iy2⟩:=S2.s;have ly:ys2.length=st'.length:=by have:=iy2.length; rw[cU]at this; exact this.symm
  have hl1:=hP.ok.l1;have hl2:=G'.tr.len;refine⟨_,rfl,tp,al,ps,l',nm,rw,ls,.ask bs k1 m1,i,_,_,_,ys2,rfl,hP'.same s2,nz hal nal,S2.d,rfl,el2,by lia,el,j4 (nums:=vals) (rows:=rows) (by intro z; cases z),fun H3 t3 n3 k3 e3 el3=>?_⟩;have S3:=S2.gone el2 iy2 k3 e3 el3;have tp3:bu H2 H3:=⟨fun b zs e=>k3 _ _ (bh e el2 (by intro z; cases z)) e,fun b o u e=>k3 _ _ (bh e el2 (by intro z; cases z)) e⟩
  have k3':Cw ps l H H3:=fun b o n1 n2 e=>k3 b o (nz e n2) (s2 _ _ (k' b o n1 n2 e))
  have hg:lF ls ((Ln.ask bs k1 m1).next vals rows):=.step hi (by
   unfold ck;rw[el]
   exact gh (j4 (nums:=vals) (rows:=rows) (l:=.ask bs k1 m1) (by intro z; cases z)))
  have PG:=Good.step (m:=⟨vals,[],[]⟩) (wk':=wk') (vals':=vals) G' hP.ok R hi el (by intro z; cases z) rfl hrw (fun _ _ h=>h) (fun x h=>by cases h) G'.ww (zH _);refine⟨_,rfl,_,rfl,_,rfl,_,rfl,_,rfl,tp,al,lv,lz,ps,lc,l',n',w',nm,rw,ls,rs,_,cut',_,cn',wk',vals,rows,rfl,k3'.pr S.d el0 nal hP,R,S3,PG,hnm,hrw,k3'.lst S.d nlv elv,k3'.lst S.d nlz elz,k3'.lst S.d nlc elc,hg,fun H4 l4 n4 w4 cut4 st4 cn4 wk4 k4 fl4 fn4 fw4 S4 G4=>?_⟩;have fr:∀ c,H3 c=none→H c=none:=fun c h=>by
   refine gr' c (ay s2 ?_);cases e:H2 c with
   | none=>rfl
   | some o=>
    have n1:c≠l':=fun z=>by rw[z,el3]at h; cases h
    rw[k3 c o n1 e]at h; cases h
  refine⟨_,rfl,bp ?_⟩;have mix:∀ {c b b':Addr},(b=b'∨H b=none)→(c=b∨H3 c=none)→(c=b'∨H c=none):=fun h1 h2=>by
   rcases h2 with z | z
   ·rw[z]; exact h1
   ·exact .inr (fr _ z)
  exact⟨m2,Nat.lt_succ_self _,_,l4,n4,w4,cut4,st4,cn4,wk4,hp2,fun b o n1 n2 e=>k4 b o n1 (k3' b o n1 n2 e),fun c h=>fr c (k4.free S4.d h),mix fl fl4,mix fn fn4,mix fw fw4,S4,G4,hg,rfl⟩
abbrev nv:Stmt:=top 60
theorem cK:aF qB Cj (ao nv):=by walk_at "k"
inductive x9(K:aW)(vs:List V)(H:Hp)(Q:VK)(E:XK):Prop|m(a:Addr)(ns:List Int)(_:vs=[.ref a])(_:a7 K H a (ns.map V.int))(_:ns.length≤63)(_:∀ H',Q (.bl true) H')
theorem WalkAt.live{K:aW}{w:WS}(h:WalkAt K H C A w):∀ c∈A.all,∃ o,H c=some o:=by
 obtain⟨en,e1,_⟩:=h.ins;obtain⟨xs,l1,_⟩:=h.lines;intro c hc;simp only[WA.all,dO]at hc;rcases hc with rfl | rfl | rfl | rfl | rfl | rfl | hc
 ·exact⟨_,e1⟩
 ·exact⟨_,l1⟩
 ·exact⟨_,h.rows⟩
 ·exact⟨_,h.coming⟩
 ·exact⟨_,h.nums⟩
 ·exact⟨_,h.heard⟩
 ·obtain⟨i,hi⟩:=Fw.mp hc;have hl:i < w.rows.length:=by have:=(eQ.mp hi).1; have:=h.rlen; lia
  exact⟨_,h.row i c _ hi (cu hl)⟩
structure Dj (H0:Hp) (A:WA) (lc c:Addr):Prop where
 h:H0 c=none
 a:c∉A.all
 c:c≠lc
theorem Dj.new{K:aW}{H0:Hp}{w:WS}{c:Addr}(s:aD H0 H)(hw:WalkAt K H C A w)(el:H lc=some o)(n:H c=none):Dj H0 A lc c:=
 ⟨ay s n,(fun m=>by obtain⟨o,e⟩:=hw.live c m; rw[e]at n; cases n),(fun z=>by rw[z,el]at n; cases n)⟩
structure HQ (ls:List Ln) (nm rw b i:Nat) (sz:List Int) (w:WS):Prop where
 ds:w.ds=ls.map Ln.D
 rl:w.rows.length=rw
 sz:fG w.rows=sz
 nl:w.nums.length=nm
 hd:w.heard.length≤i
 bud:w.budget=(b:Int)
 done:w.done=(i:Int)
 en:w.ended=none
theorem iU{w:WS}(h:l.dM w=none):w.next j l={ w.oW (l.run w.rows w.mem) with rows:=l.rows w.rows w.mem,at_:=l.next w.nums w.rows,done:=w.done + 1 }:=by unfold WS.next; rw[h]
theorem qY{w:WS}(h:l.dM w=some z):w.next j l={ w with at_:=j,ended:=some (z,j) }:=by unfold WS.next; rw[h]
theorem HQ.next{rw b:Nat}{sz:List Int}{w:WS}(h:HQ ls nm rw b i sz w)(e:l.dM w=none):HQ ls nm rw b (i + 1) sz (w.next j l):=by
 rw[iU e];refine⟨h.ds,?_,?_,?_,?_,h.bud,?_,h.en⟩
 ·show (l.rows w.rows w.mem).length=rw;rw[← gx,yA,gx]; exact h.rl
 ·exact (yA l).trans h.sz
 ·exact (BU l).trans h.nl
 ·have h1:=zI (rows:=w.rows) (m:=w.mem) l;have h2:=h.hd;show (l.run w.rows w.mem).heard.length≤i + 1;have:w.mem.heard.length=w.heard.length:=rfl
  lia
 ·show w.done + 1=((i + 1:Nat):Int)
  rw[h.done]; lia
theorem AQ{w:WS}(h:l.dM w=none):l≠.stop∧l.look w.nums w.rows=none∧w.done < w.budget:=by
 have key:∀ o:Option Str,(match o with | some z=>some z | none=>if w.budget≤w.done then some ("spent":Str) else none)=none→o=none∧w.done < w.budget:=fun o h=>by
  cases o with
  | some z=>cases h
  | none=>
   refine⟨rfl,?_⟩;by_cases hb:w.budget≤w.done
   ·have h2:(if w.budget≤w.done then some ("spent":Str) else none)=none:=h;rw[if_pos hb]at h2; cases h2
   ·omega
 cases l with
 | stop=>cases h
 | deed d k=>exact⟨(fun z=>by cases z),(key _ h).1,(key _ h).2⟩
 | test y u c k m=>exact⟨(fun z=>by cases z),rfl,(key none h).2⟩
 | ask bs k m=>exact⟨(fun z=>by cases z),rfl,(key none h).2⟩
theorem Ds(l:Ln):vz (.str l.word) [.str "set",.str "sum",.str "len",.str "take",.str "get"]=l.given.isSome:=by
 cases l with
 | deed d k=>cases d <;> rfl
 | test y u c k m=>rfl
 | ask bs k m=>rfl
 | stop=>rfl
theorem zP{K:aW}(h:l.given=some x)(il:IsL K H l.args vs):∃ r,vs=.int (x:Int)::r:=by
 cases l with
 | deed d k=>
  cases d with
  | set x y c=>cases h; obtain⟨r,rfl,_⟩:=bD il; exact⟨r,rfl⟩
  | sum x z y=>cases h; obtain⟨r,rfl,_⟩:=bD il; exact⟨r,rfl⟩
  | len x r=>cases h; obtain⟨r,rfl,_⟩:=bD il; exact⟨r,rfl⟩
  | take x=>cases h; obtain⟨r,rfl,_⟩:=bD il; exact⟨r,rfl⟩
  | get x r y c=>cases h; obtain⟨r,rfl,_⟩:=bD il; exact⟨r,rfl⟩
  | tell x=>cases h
  | put r y c z=>cases h
 | test y u c k m=>cases h
 | ask bs k m=>cases h
 | stop=>cases h
theorem fU.keep{K:aW}{l n w:Addr}(h:fU K H ps lc l n w cut st cn wk)(k:∀ b o,b=ps∨b=l∨b=n∨b=w→H b=some o→H' b=some o)(t:bu H H'):fU K H' ps lc l n w cut st cn wk:=by
 obtain⟨ys,h1,h2⟩:=h.s;obtain⟨zs,e,c⟩:=h.wth;exact⟨k _ _ (.inl rfl) h.d,⟨ys,k _ _ (.inr (.inl rfl)) h1,h2.mono t⟩,k _ _ (.inr (.inr (.inl rfl))) h.cnt,⟨zs,k _ _ (.inr (.inr (.inr rfl))) e,c⟩,h.ln⟩
theorem AD(l:Ln):(if false=true then !vz (.str l.word) [.str "set",.str "sum",.str "len",.str "take",.str "get"] else vz (.str l.word) [.str "set",.str "sum",.str "len",.str "take",.str "get"])=l.given.isSome:=Ds l
structure Tn (K:aW) (C:Addr) (H0 H:Hp) (A:WA) (ls:List Ln) (nm rw b i:Nat) (rs:List Nat) (sz:List Int) (ps lc l n wd lv:Addr) (w:WS) (cut:Nat) (st:List (Nat × Nat)) (cn:List Int) (wk:List (List Key × V)):Prop where
 ok:HQ ls nm rw b i sz w
 wa:WalkAt K H C A w
 sm:aD H0 H
 s:fU K H ps lc l n wd cut st cn wk
 g:Good ls nm rw rs w.at_ cut st cn wk sz w.nums
 r:lF ls w.at_
 v:H lv=some (.lst (aB w.nums))
 c:H lc=some (.lst (aX (gR ls rs)))
 dl:Dj H0 A lc l
 dn:Dj H0 A lc n
 dw:Dj H0 A lc wd
 dv:Dj H0 A lc lv
 vl:lv≠l
 vn:lv≠n
theorem FR(F:cM K "law" "law" nv f fd)(W:WC K C)(m_range:mg "range" = none)(m_len:mg "len" = none)(c_law_program:Cl P w K mg base "_law_program" (n + 1) Cj (qZ K))(c_law_met:Cl P w K mg base "_law_met" (n + 1) ["_law_lines"] (D4 K))(c_law_into:Cl P w K mg base "_law_into" (n + 1) IZ (yH K))(c_law_rows:Cl P w K mg base "_law_rows" (n + 1) qP (A4 K))(c_law_budget:Cl P w K mg base "_law_budget" (n + 1) qR (vp K))(c_law_taken:Cl P w K mg base "_law_taken" (n + 1) Cj (xZ K))(c_Walk:Io P w K mg base "Walk" C n GH (Be K C))
  (c_Walk_frame:ju P w K mg base C "frame" (n + 1) vw (xX K C)) (c_Walk_step:ju P w K mg base C "step" (n + 1) vw (Aw K C)) (c_Walk_told:ju P w K mg base C "told" (n + 1) vw (Bc K C)) (c_law_begun:Cl P w K mg base "_law_begun" (n + 1) qG (tj K)) (c_law_come:Cl P w K mg base "_law_come" (n + 1) qA (vC K)) (c_law_through_asks:Cl P w K mg base "_law_through_asks" (n + 1) qA (qp K)) (c_law_which:Cl P w K mg base "_law_which" (n + 1) qH (nI K)) (c_law_gone:Cl P w K mg base "_law_gone" (n + 1) qE (wq K)):bg P w K mg base cH (n + 2) f fd Cj (x9 K):=by
 refine F.ok cK (by walk_at "l") (fun cdv A outer s H vs Q E hr h=>?_);have hu:(A.deeper (envOfC "law" (ao nv) s.heap.objs.size f cdv)).units + 1 < cLine:=by have:=hr.units; lia
 have hu2:(A.deeper (envOfC "law" (ao nv) s.heap.objs.size f cdv)).units + 1 + 5 < cLine:=by have:=hr.units; lia
 have hr1:=hr;obtain⟨a,ns,rfl,hS,h63,q⟩:=h
 refine⟨_,(@ag _ _ _ _ _ (aV (i:=1) cK.nd (aC c_law_program hr rfl (aa (pv 0) ae)))
   (@ag _ _ _ _ _ (aV (i:=2) cK.nd (av aA (pv 1) ai))
   (@ag _ _ _ _ _ (aV (i:=3) cK.nd (aC c_law_met hr rfl (aa (pv 2) ae)))
   (@ag _ _ _ _ _ (aV (i:=4) cK.nd (aC c_law_into hr rfl (aa (pv 2) (aa (pv 3) ae))))
   (@ag _ _ _ _ _ (aV (i:=5) cK.nd (aC c_law_rows hr rfl (aa (pv 0) (aa (pv 1) ae))))
   (@ag _ _ _ _ _ (jA (i:=6) ["_law_row"] rfl (cW (N:=qB) (so:=ao nv) rfl rfl (by decide +kernel)) cK.nd rfl (Or.inl rfl) (du (pv 5)) (fun _ _ _ _ _ _=>(aU (i:=0) (show List.Nodup (α:=Str) ["_law_row","_law_script","_law_program_here","_law_lines","_law_met_here","_law_some","_law_rows_here","_law_sizes","_law_budget_here","_law_walk","_law_state","_law_again","_law_at","_law_values","_law_which_here","_law_here","_law_name"] by decide +kernel) rfl (Or.inl rfl) (Or.inr rfl))) (fun _ _ _ _ _ _=>cf) (fun _ _ _ _ _ _=>(bj (jl (K:=K) rfl) rfl m_len qi (aa (pv 0) ae))) rfl)
   (@ag _ _ _ _ _ (aV (i:=7) cK.nd (aC c_law_budget hr rfl (aa (pv 0) (aa (bj a8 rfl m_len qi (aa (pv 2) ae)) ae))))
   (@ag _ _ _ _ _ (aV (i:=8) cK.nd (Gz c_Walk hr1 rfl (aa (pv 1) (aa (pv 5) (aa (aC c_law_taken hr rfl (aa (pv 0) ae)) (aa (pv 7) ae))))))
   (@ag _ _ _ _ _ (@iq _ _ 9 _ _ _ _ cK.nd rfl (Or.inl rfl) (@mT _ _ _ _ _ (@ki _ _ _ _ _ _ _ _ _ aJ (EM (j:=11) (y:="?") (cS ["_law_at"] rfl (cW (N:=["_law_script","_law_program_here","_law_lines","_law_met_here","_law_some","_law_rows_here","_law_sizes","_law_budget_here","_law_walk","_law_state","_law_again","?","_law_values","_law_which_here","_law_here","_law_name"]) (so:=ao nv) rfl rfl (by decide +kernel)) (du (pv 3)) (fun _ _ _ _ _ _=>(aU (i:=0) (show List.Nodup (α:=Str) ["_law_at","_law_script","_law_program_here","_law_lines","_law_met_here","_law_some","_law_rows_here","_law_sizes","_law_budget_here","_law_walk","_law_state","_law_again","?","_law_values","_law_which_here","_law_here","_law_name"] by decide +kernel) rfl (Or.inl rfl) (Or.inr rfl))) (fun _ _ _ _ _ _=>(uA (PW.pt (yt (aE bA (pv 0) ai) (sf (aE lY (bj (jl (K:=K) rfl) rfl m_len qi (aa (bR hu (pv 5) (pv 0)) ae)) ai)))))) (fun _ _ _ _ _ _=>(pv 0)))) mG) rfl rfl (fun z=>nomatch z) (by decide)) rfl (by first | exact .inl rfl | exact .inr rfl))
   (@ag _ _ _ _ _ (jM (iR (pv 8) c_Walk_frame hr) (hJ rfl (bG (aU (i:=11) cK.nd rfl (Or.inl rfl)) (bG (aU (i:=12) cK.nd rfl (Or.inl rfl)) eK))))
   (@ag _ _ _ _ _ (bZ (aC c_law_begun hr rfl (aa (pv 9) (aa (pv 11) (aa (pv 12) (aa (pv 6) ae))))))
   (@ag _ _ _ _ _ (ba (PW.pt (yt (aE B9 (pv 11) ai) (sf (nC (dH (aC c_law_come hr rfl (aa (pv 1) (aa (pv 11) (aa (pv 12) (aa (pv 6) (aa (pv 9) ae))))))))))) (ak (az dR)) aN)
   (@ag _ _ _ _ _ (cQ mO rfl (bO rfl m_range (aa (aR bK (pv 7) ai) ae)) (aU (i:=10) cK.nd rfl (Or.inl rfl)) (@ag _ _ _ _ _ (aV (i:=11) cK.nd (aC c_law_through_asks hr rfl (aa (pv 1) (aa (pv 11) (aa (pv 12) (aa (pv 6) (aa (pv 9) ae)))))))
   (@ag _ _ _ _ _ (ba (aE vP (pv 11) cJ) (ak (az dR)) aN)
   (@ag _ _ _ _ _ (bZ (iR (pv 8) c_Walk_step hr))
   (@ag _ _ _ _ _ (ba (aE gp (av aA (iR (pv 8) c_Walk_told hr) ai) cJ) (ak (az (bU (BX (n:=5) hu2) (iR (pv 8) c_Walk_frame hr) (aY (aa (pv 11) (aa (pv 12) ae)))))) aN)
   (@ag _ _ _ _ _ (aV (i:=13) cK.nd (aC c_law_which hr rfl (aa (av aK (pv 2) (pv 11)) (aa (pv 12) (aa (pv 6) ae)))))
   (@ag _ _ _ _ _ (jM (iR (pv 8) c_Walk_frame hr) (hJ rfl (bG (aU (i:=14) cK.nd rfl (Or.inl rfl)) (bG (aU (i:=12) cK.nd rfl (Or.inl rfl)) eK))))
   (@ag _ _ _ _ _ (ba (aE fk (av aA (av aK (pv 2) (pv 11)) ai) (aY (di rfl)) (by with_unfolding_all rfl)) (@ag _ _ _ _ _ (aV (i:=15) cK.nd (av aA (av aK (pv 2) (pv 11)) ai))
   (@ag _ _ _ _ _ (jM (aR bK (av aK (bR hu (pv 9) aJ) (pv 15)) ai) (sD (bR hu (pv 9) aJ) (pv 15) set_list))
   (ak (jZ hu (bR hu (pv 9) aJ) (aY (aa aJ (aa (pv 15) (aa (av aK (bR hu (pv 9) aJ) (pv 15)) ae)))) (av aK (pv 12) (pv 15)) rfl)))) aN)
   (@ag _ _ _ _ _ (aV (i:=11) cK.nd (aC c_law_gone hr rfl (aa (pv 1) (aa (pv 11) (aa (pv 13) (aa (pv 9) ae))))))
   (ak (ba (PW.pt (yt (aE B9 (pv 11) (pv 14)) (sf (nC (dH (aC c_law_come hr rfl (aa (pv 1) (aa (pv 11) (aa (pv 12) (aa (pv 6) (aa (pv 9) ae))))))))))) (ak (az dR)) aN)))))))))))
   (ak (az dR))))))))))))))),?_⟩
 refine⟨_,rfl,a,ns,rfl,hS,h63,fun H1 tp al nm rw ls s1 hP wf ntp nal hal=>?_⟩;refine⟨_,rfl,tp,_,2,_,rfl,rfl,hP.t,at2 _ _ _ _,?_⟩;have hn6:=hP.ok.hn;have hr3:=hP.ok.hr;have hl70:=hP.ok.l1;refine⟨_,rfl,al,nm,rw,ls,rfl,hP.l,hP.ok,fun H2 pm rs s2 epm npm R=>?_⟩;have hP2:=hP.same s2;refine⟨_,rfl,_,rfl,al,pm,nm,rw,ls,rs,rfl,hP2.l,hP.ok,a7.of epm,R,fun H3 pd ks pf s3 L hks=>?_⟩;have hP3:=hP2.same s3;have s13:=s1.trans (s2.trans s3);refine⟨_,rfl,_,rfl,a,tp,al,ns,nm,rw,rfl,s13.seq hS,h63,hP3.t,hr3,fun H4 p rsA rows s4 RA fr lr hlr=>?_⟩;have s14:=s13.trans s4;refine⟨_,rfl,p,rfl,⟨_,a7.of RA.top⟩,fun lz nlz=>?_⟩;refine fh (xs:=rsA.map V.ref) (fun i H'=>aD H4 H'∧H' lz=some (.lst (aB ((fG rows).take i)))) ⟨aj nlz _,af⟩ (fun i H' _ h=>a7.of (h.1 _ _ RA.top)) (fun i y H' ey h=>?_) (fun H5 h=>?_)
 ·rw[lK]at ey;obtain⟨b,hb,rfl⟩:=Ed.mp ey;have hil:i < rows.length:=by have:=(eQ.mp hb).1; have:=RA.len; lia
  have er:=cu hil;refine⟨⟨[some (.ref b)],rfl,rfl⟩,bP ⟨_,rfl,b,_,rfl,.inl (a7.of (h.1 _ _ (RA.row i b _ hb er))),_,h.2,aO (by rw[bC,qy]; have:=gx rows; lia),aD.new h.1 nlz,?_⟩⟩;rw[af,List.take_succ,BC hil,bC,er];unfold aB;rw[je]; rfl
 obtain⟨s5,elz⟩:=h;have hll:(rsA.map V.ref).length=(fG rows).length:=by rw[cU,gx]; exact RA.len
 rw[hll,Ah]at elz;have s15:=s14.trans s5;have hP5:=(hP3.same s4).same s5;obtain⟨xl5,hxl5,ixl5⟩:=hP5.l;refine⟨_,rfl,_,rfl,al,_,rfl,.inl hxl5,a,ns,_,rfl,s15.seq hS,h63,fun H6 b s6 b0 b1=>?_⟩;obtain⟨b,rfl⟩:∃ i:Nat,b=(i:Int):=⟨b.toNat,by lia⟩
 have b50:b≤50:=by lia
 have s16:=s15.trans s6;refine⟨_,rfl,_,rfl,_,rfl,a,ns,rfl,s16.seq hS,h63,fun H7 pt tk s7 ept npt ltk=>⟨_,rfl,fun x dx nx ndx ndx'=>?_⟩⟩;have u6:=aj ndx (.own x);have nx6:upd H7 dx (.own x) x=none:=by rw[aq ndx'.symm]; exact nx
 have u67:=u6.trans (aj nx6 (.ins C dx []));have s57:=s6.trans s7;have hP7:=hP5.same s57;have hPx:=hP7.same u67;obtain⟨xlx,hxlx,ixlx⟩:=hPx.l;have RA7:=(RA.same s5).same s57;have elz7:=s57 _ _ elz;have L7:=((L.same s4).same s5).same s57;have epm7:=s57 _ _ (s5 _ _ (s4 _ _ (s3 _ _ epm)));obtain⟨xal,hal⟩:=hal;have hal7:=s57 _ _ (s5 _ _ (s4 _ _ (s3 _ _ (s2 _ _ hal))));refine⟨x,dx,tp,al,p,pt,nm,rw,b,rows,tk,xlx,ls.map Ln.D,rfl,af,hPx.t,hxlx,ixlx,(RA7.same u67).src,by lia,a7.of (u67 _ _ ept),by lia,fun A W0 ex edx hk' hfr hw=>⟨rfl,?_⟩⟩;subst ex;have sW:aD H7 W0:=fun c o e=>hk' c o (u67 _ _ e) (cx e nx)
 have frA:∀ c∈A.all,H7 c=none:=fun c hc=>by
  unfold WA.all at hc;rcases dO.mp hc with y | y
  ·rw[y]; exact nx
  ·exact ay u67 (hfr c y)
 clear hk' hfr u67 hPx hxlx ixlx nx6 u6 ndx' ndx nx;have hPW:=hP7.same sW;have elzW:=sW _ _ elz7;have LW:=L7.same sW;have epmW:=sW _ _ epm7;intro ps nps;have u8:=aj nps (.dK []);have eps8:upd W0 ps (.dK []) ps=some (.dK []):=af;refine⟨rfl,_,rfl,pm,rfl,⟨_,a7.of (u8 _ _ epmW)⟩,fun lc nlc=>?_⟩;generalize upd W0 ps (.dK [])=H8 at u8 eps8 nlc;refine fh (xs:=aX rs) (fun i H'=>aD H8 H'∧H' lc=some (.lst (aX ((rs.take i).filter fun k=>d4 k (lead ls rs k))))) ⟨aj nlc _,af⟩ (fun i H' _ h=>a7.of (h.1 _ _ (u8 _ _ epmW))) (fun i y H' ey h=>?_) (fun H9 h=>?_)
 ·have hi:i < rs.length:=by have:=(eQ.mp ey).1; rw[bJ]at this; exact this
  rw[fP hi]at ey;cases ey;have ek:=cu hi;have hkm:rs[i]∈rs:=vB hi;generalize rs[i]=k at ek hkm;have lrs:rs.length≤ls.length:=cX R.nodup fun i hi=>((R.mem i).mp hi).lt hP.ok
  have nx:∀ bb:Bool,d4 k (lead ls rs k)=bb→if bb=true then ∃ v,[some (V.int (k:Int))][0]?=some (some v)∧∃ acc,H' lc=some (.lst acc)∧acc.length < sizeLine∧aD H8 (upd H' lc (.lst (acc++[v])))∧upd H' lc (.lst (acc++[v])) lc=some (.lst (aX ((rs.take (i + 1)).filter fun k=>d4 k (lead ls rs k)))) else aD H8 H'∧H' lc=some (.lst (aX ((rs.take (i + 1)).filter fun k=>d4 k (lead ls rs k)))):=by
   intro bb e;have ef:(rs.take (i + 1)).filter (fun k=>d4 k (lead ls rs k))=(rs.take i).filter (fun k=>d4 k (lead ls rs k))++(if bb=true then [k] else []):=by
    rw[List.take_succ,ek,List.filter_append];congr 1;show List.filter _ [k]=_;rw[List.filter_cons,e];cases bb <;> rfl
   cases bb with
   | true=>
    rw[if_pos rfl]at ef ⊢;refine⟨_,rfl,_,h.2,aO ?_,aD.new h.1 nlc,?_⟩
    ·rw[bJ];have:=List.length_filter_le (fun k=>d4 k (lead ls rs k)) (rs.take i);rw[qy]at this
     lia
    ·rw[af,ef];unfold aX;rw[je]; rfl
   | false=>
    rw[if_neg (by decide)]at ef ⊢;rw[ef,xE];exact h
  obtain⟨ys,ey,_,ly⟩:=(LW.same (u8.trans h.1)).len (hks k hkm);refine⟨⟨[some (.int (k:Int))],rfl,rfl⟩,?_⟩;refine⟨_,rfl,rfl,_,rfl,cT (fun c1=>?_) (fun c1=>?_)⟩
  ·have e0:k=0:=by have:=pH c1; injection this with z; lia
   have:=nx true (by unfold d4; rw[ff e0]; rfl);rw[if_pos rfl]at this;exact bI this
  ·have e0:k≠0:=fun z=>c1 (ff (by rw[z]; rfl))
   refine⟨_,rfl,_,rfl,pd,_,rfl,(LW.same (u8.trans h.1)).get (hks k hkm),pf k,ys,rfl,.inl (a7.of ey),_,_,rfl,rfl,_,rfl,?_⟩;have e1:decide ((1:Int) < (ys.length:Int))=d4 k (lead ls rs k):=by
    unfold d4;rw[fK e0,Bool.false_or];exact decide_eq_decide.mpr (by rw[← ly]; lia)
   have:=nx _ rfl;rw[← e1]at this;exact this
 obtain⟨s9,elc⟩:=h;rw[bJ,Ah]at elc;change H9 lc=some (.lst (aX (gR ls rs))) at elc;refine⟨s9 _ _ eps8,[(.inr "cuts",.ref lc)],rfl,bQ rfl,?_⟩;have k10:aD W0 (upd H9 ps (.dK [(.inr "cuts",.ref lc)])):=aD.new (u8.trans s9) nps;have e10:upd H9 ps (.dK [(.inr "cuts",.ref lc)]) ps=some (.dK [(.inr "cuts",.ref lc)]):=af;have elc10:upd H9 ps (.dK [(.inr "cuts",.ref lc)]) lc=some (.lst (aX (gR ls rs))):=by rw[aq (bh elc (s9 _ _ eps8) (by intro z; cases z))]; exact elc
 have dps:Dj H7 A lc ps:=⟨ay sW nps,(fun m=>by obtain⟨o,e⟩:=hw.live ps m; rw[e]at nps; cases nps),cx eps8 nlc⟩
 have dlc:lc∉A.all:=fun m=>by
  obtain⟨o,e⟩:=hw.live lc m;rw[ay u8 nlc]at e; cases e
 show rR _ _ _ _ (upd H9 ps (.dK [(.inr "cuts",.ref lc)]));generalize upd H9 ps (.dK [(.inr "cuts",.ref lc)])=H10 at k10 e10 elc10;have hw10:=hw.same k10;obtain⟨en10,ei10,_⟩:=hw10.ins;refine⟨_,rfl,A.x,A.dx,_,rfl,ei10,rfl,A,_,rfl,hw10,fun H11 t11 lv s11 et11 elv nlv=>⟨t11,_,rfl,bY.of et11,rfl,_,_,rfl,_,_,rfl,rfl,?_⟩⟩;have s011:=sW.trans (k10.trans s11);have elz11:=s011 _ _ elz7;have elc11:=s11 _ _ elc10;have hw11:=hw10.same s11;have dlv:Dj H7 A lc lv:=Dj.new (sW.trans k10) hw10 elc10 nlv;refine⟨_,rfl,_,rfl,_,rfl,_,rfl,ps,lc,lv,lz,0,_,List.replicate nm 0,fG rows,rfl,s11 _ _ e10,.inl rfl,elv,elz11,by rw[Ac]; lia,by rw[gx]; lia,fun H12 l n wd wk k12 nl nn nw S12 W12 wl12=>?_⟩;have eps11:=s11 _ _ e10;have keepW:∀ {H H':Hp} {w:WS},WalkAt K H C A w→Kp ps H H'→H ps=some (.dK (stK lc 0 l n wd))∨True→bu H H'→WalkAt K H' C A w:=fun hw k _ t=>hw.keep (fun b o hb e=>k b o (fun z=>dps.a (z ▸ hb)) e) t
 have hw12:=keepW hw11 k12 (.inr trivial) (k12.aS eps11);have s012:aD H7 H12:=fun b o e=>k12 b o (aH e dps.h) (s011 _ _ e)
 have dl:=Dj.new s011 hw11 elc11 nl;have dn:=Dj.new s011 hw11 elc11 nn;have dwd:=Dj.new s011 hw11 elc11 nw;have vl:lv≠l:=cx elv nl;have vn:lv≠n:=cx elv nn;rw[Ac]at S12 W12;have PG0:DY ls nm rw rs 0 0 [] (List.replicate nm 0) wk (fG rows) (List.replicate nm 0):=⟨fun s hs=>(nomatch hs),fE _,rfl,by have:=xD W12; rw[lr]at this; exact this,W12,wl12,fun h=>by unfold d4 at h; simp at h⟩
 refine⟨_,rfl,rfl,_,rfl,bp ⟨_,rfl,_,rfl,_,rfl,_,rfl,_,rfl,tp,al,lv,lz,ps,lc,l,n,wd,nm,rw,ls,rs,0,0,[],_,wk,_,rows,rfl,hP7.same s012,R,S12,PG0,Ac,lr,k12.lst eps11 elv,s012 _ _ elz7,k12.lst eps11 elc11,.zero,fun H13 l' n' w' cut' st' cn' wk' k13 fl fn fw S13 G13=>⟨_,rfl,bp ?_⟩⟩⟩;have s013:aD H7 H13:=fun b o e=>k13 b o (aH e dps.h) (s012 _ _ e)
 have elc12:=k12.lst eps11 elc11;have elv12:=k12.lst eps11 elv;have T0:Tn K C H7 H13 A ls nm rw b 0 rs (fG rows) ps lc l' n' w' lv ⟨ls.map Ln.D,rows,tk,(b:Int),0,List.replicate nm 0,[],0,none⟩ cut' st' cn' wk':=by
  have mix:∀ {c c':Addr},Dj H7 A lc c→(c'=c∨H12 c'=none)→Dj H7 A lc c':=fun d h=>by
   rcases h with z | z
   ·rw[z]; exact d
   ·exact Dj.new s012 hw12 elc12 z
  have mixv:∀ {c c':Addr},lv≠c→(c'=c∨H12 c'=none)→lv≠c':=fun d h=>by
   rcases h with z | z
   ·rw[z]; exact d
   ·exact cx elv12 z
  exact⟨⟨rfl,lr,rfl,Ac,cq _,rfl,rfl,rfl⟩,keepW hw12 k13 (.inr trivial) (k13.aS S12.d),s013,S13,G13,.zero,k13.lst S12.d elv12,k13.lst S12.d elc12,mix dl fl,mix dn fn,mix dwd fw,dlv,mixv vl fl,mixv vn fn⟩
 clear k13 fl fn fw S13 G13 s013 elv12 elc12 PG0 vl vn dl dn dwd hw12 s012 S12 W12 k12 nl nn nw eps11 dlv hw11 elc11 elz11 s011 hw10 ei10 nlv elv et11 s11 k10 e10 elc10;refine⟨_,rfl,_,_,rfl,rfl,_,rfl,by lia,by lia,?_⟩;rw[show ((b:Int) + 1).toNat=b + 1 by lia];refine dh (n:=b + 1) (fun i σ H'=>i≤b∧∃ (l n wd lv:Addr) (w:WS) (cut:Nat) (st:List (Nat × Nat)) (cn:List Int) (wk:List (List Key × V)) (y10 y13 y14 y15:Option V),Tn K C H7 H' A ls nm rw b i rs (fG rows) ps lc l n wd lv w cut st cn wk∧σ=[some (.ref a),some (.ref tp),some (.ref al),some (.ref pm),some (.ref pd),some (.ref p),some (.ref lz),some (.int (b:Int)),some (.ref A.x),some (.ref ps),y10,some (.int (w.at_:Int)),some (.ref lv),y13,y14,y15])
  ⟨fE _,l',n',w',lv,_,cut',st',cn',wk',_,_,_,_,T0,rfl⟩ (fun i σ H' hi h=>?_) (fun σ H' h=>absurd h.1 (by lia))
 clear T0;obtain⟨hib,l,n,wd,lv,w,cut,st,cn,wk,y10,y13,y14,y15,T,rfl⟩:=h;obtain⟨k,j,ln,hp,hl,hc⟩:=C1 (nums:=w.nums) (rows:=w.rows) (nm:=nm) (rw:=rw) hP.ok.ok wf w.at_ (T.r.lt hP.ok);have hsz:=T.ok.sz;have hrl:=T.ok.rl;have hnl:=T.ok.nl;have G:Good ls nm rw rs w.at_ cut st cn wk (fG w.rows) w.nums:=by rw[hsz]; exact T.g
 have elz':∀ {H'':Hp},aD H7 H''→H'' lz=some (.lst (aB (fG w.rows))):=fun s=>by rw[hsz]; exact s _ _ elz7
 refine⟨_,rfl,_,rfl,_,rfl,_,rfl,_,rfl,tp,al,lv,lz,ps,lc,l,n,wd,nm,rw,ls,rs,w.at_,j,k,cut,st,cn,wk,w.nums,w.rows,rfl,hP7.same T.sm,⟨xal,T.sm _ _ hal7⟩,⟨aH hal7 T.dl.h,T.vl,aH elz7 T.dl.h,T.dl.c.symm⟩,R,T.s,G,hnl,hrl,T.v,elz' T.sm,T.c,T.r,hp,fun H1 l1 n1 w1 wO st1 cn1 wk1 k1 gr1 fl fn fw S1 G1 hj=>?_⟩;obtain⟨ys0,el0,_⟩:=T.s.s;have t1:=k1.aS T.s.d el0;have hw1:WalkAt K H1 C A w:=T.wa.keep (fun b o hb e=>k1 b o (fun z=>dps.a (z ▸ hb)) (fun z=>T.dl.a (z ▸ hb)) e) t1;have sm1:aD H7 H1:=fun b o e=>k1 b o (aH e dps.h) (aH e T.dl.h) (T.sm _ _ e)
 have v1:=k1.lst T.s.d T.vl T.v;have c1:=k1.lst T.s.d T.dl.c.symm T.c;have mix:∀ {c c':Addr},Dj H7 A lc c→(c'=c∨H' c'=none)→Dj H7 A lc c':=fun d h=>by
  rcases h with z | z
  ·rw[z]; exact d
  ·exact Dj.new T.sm T.wa T.c z
 have dl:=mix T.dl fl;have dn:=mix T.dn fn;have dw:=mix T.dw fw;have dv:=T.dv;clear mix fl fn fw gr1 k1 el0 G;refine⟨_,rfl,rfl,_,rfl,bp ?_⟩;obtain⟨en1,ei1,_⟩:=hw1.ins;have sized:Em w:=by
  refine⟨by lia,fun r hr=>?_,by have:=T.ok.hd; lia,by lia⟩;have hm:(r.length:Int)∈fG w.rows:=zM.mpr ⟨r,hr,rfl⟩;rw[hsz]at hm;obtain⟨r0,hr0,e0⟩:=zM.mp hm;have:=hlr r0 hr0
  lia
 refine⟨_,rfl,A.x,A.dx,_,rfl,ei1,rfl,A,w,rfl,hw1,.inr ⟨ls,k,j,ln,T.ok.en,T.ok.ds,by rw[hnl,hrl]; exact hP.ok.ok,hp,hl,hc,sized,fun H2 b2 t2 hw2=>?_⟩⟩;have S2:fU K H2 ps lc l1 n1 w1 wO st1 cn1 wk1:=S1.keep (fun b o hb e=>b2 b o e (hb.elim (fun z=>z ▸ dps.a) fun h=>h.elim (fun z=>z ▸ dl.a) fun h=>h.elim (fun z=>z ▸ dn.a) fun z=>z ▸ dw.a)) t2;have sm2:aD H7 H2:=fun b o e=>b2 b o (sm1 _ _ e) (fun m=>by rw[frA b m]at e; cases e)
 have v2:=b2 _ _ v1 dv.a;have c2:=b2 _ _ c1 dlc;clear b2 t2 hw1 ei1 S1 sm1 v1 c1 t1 hp;obtain⟨en2,ei2,_⟩:=hw2.ins;have rl2:(w.next j ln).rows.length≤100:=by
  cases he:ln.dM w with
  | some z=>rw[qY he]; show w.rows.length≤100; lia
  | none=>have:=(T.ok.next (j:=j) he).rl; lia
 refine⟨_,rfl,A.x,A.dx,_,rfl,ei2,rfl,A,w.next j ln,rfl,hw2,rl2,fun H3 t3 l3 p3 rs3 en s3 et3 hen el3 ra3 fr3 nd3=>⟨t3,_,0,_,rfl,rfl,bY.of et3,dW _ _,rfl,_,rfl,?_⟩⟩;have hw3:=hw2.same s3;have ei3:=s3 _ _ ei2;have S3:=S2.same s3;have sm3:=sm2.trans s3;have v3:=s3 _ _ v2;have c3:=s3 _ _ c2;clear et3 el3 ra3 fr3 nd3 S2 sm2 v2 c2 hw2;cases he:ln.dM w with
 | some z=>
  rw[qY he]at hen hw3;obtain⟨te,rfl,_⟩:=hen;refine bI ⟨_,rfl,A.x,A.dx,_,rfl,ei3,rfl,A,_,rfl,hw3,fun H4 t4 l4 s4 et4 el4 nl4=>⟨_,rfl,_,rfl,bQ rfl,fun t5 n5=>?_⟩⟩;have s5:=aj n5 (.tup [.int (j:Int),.ref lv]);refine⟨[.d (.int (j:Int)),.lst ((w.nums.map D.int).map L2.T.d)],.inr ⟨mQ (bY.of (s5 _ _ et4)) (df (vt a9) (df (mI (a7.of (s5 _ _ el4)) (jX (ie _))) iF)),mQ (bY.of af) (df (vt a9) (df (mI (a7.of ((s4.trans s5) _ _ v3)) (jX (ie _))) iF))⟩,?_,q _⟩;have e0:L2.T.dep (.d (.int (j:Int)))=0:=by unfold L2.T.dep; exact km _
  have e1:L2.T.dep (.lst ((w.nums.map D.int).map L2.T.d))≤1:=by
   have:L2.T.dep (.lst ((w.nums.map D.int).map L2.T.d))=1 + L2.T.cj ((w.nums.map D.int).map L2.T.d):=by conv=>lhs; unfold L2.T.dep
   rw[this,nY,nM]; exact cq _
  have e2:L2.T.cj [.d (.int (j:Int)),.lst ((w.nums.map D.int).map L2.T.d)]=max (L2.T.dep (.d (.int (j:Int)))) (max (L2.T.dep (.lst ((w.nums.map D.int).map L2.T.d))) 0):=by
   conv=>lhs; unfold L2.T.cj
   conv=>lhs; rhs; unfold L2.T.cj
   conv=>lhs; rhs; rhs; unfold L2.T.cj
  rw[e2]; lia
 | none=>
  have hen':en=.non:=by rw[iU he]at hen; have h2:=T.ok.en; unfold eU at hen; rw[show ({ w.oW (ln.run w.rows w.mem) with rows:=ln.rows w.rows w.mem,at_:=ln.next w.nums w.rows,done:=w.done + 1 }:WS).ended=w.ended from rfl,h2]at hen; exact hen
  subst hen';refine bp ?_;obtain⟨hns,hlk,hdb⟩:=AQ he;have ok':=T.ok.next (j:=j) he;have hlj:=hj.lt hP.ok;have okl:ln.Ok w.nums.length w.rows.length ls.length:=by rw[hnl,hrl]; exact hP.ok.ok _ (gh hl)
  have lnj:ls[j]=ln:=by rw[cu hlj]at hl; exact mW hl
  obtain⟨xl,vl,hxl,hvl,ivl⟩:=eN (hP7.same sm3).l hlj;rw[lnj]at ivl;refine⟨_,rfl,_,rfl,al,xl,_,_,rfl,rfl,hxl,hvl,_,rfl,_,rfl,ln,vl,lv,lz,w.nums,w.rows,ls.length,rfl,ivl,okl,v3,elz' sm3,by lia,by lia,fun H4 s4=>?_⟩;rw[xF];have hw4:=hw3.same s4;obtain⟨en4,ei4,_⟩:=hw4.ins;refine⟨_,rfl,A.x,A.dx,_,rfl,ei4,rfl,A,w.next j ln,rfl,hw4,fun H5 t5 lv5 s5 et5 elv5 nlv5=>⟨t5,_,rfl,bY.of et5,rfl,_,_,rfl,_,_,rfl,rfl,?_⟩⟩;have s35:=s4.trans s5;have hw5:=hw4.same s5;have S5:=S3.same s35;have sm5:=sm3.trans s35;have c5:=s35 _ _ c3;have dv5:Dj H7 A lc lv5:=Dj.new (sm3.trans s4) hw4 (s4 _ _ c3) nlv5;obtain⟨ysl,ell,_⟩:=S3.s;have vl5:lv5≠l1:=(cx (s4 _ _ ell) nlv5).symm;have vn5:lv5≠n1:=(cx (s4 _ _ S3.cnt) nlv5).symm;clear hw4 ei4 hw3 ei3 S3 v3 c3 et5 hxl ivl;have ivl5:=(hP7.same sm5).l;obtain⟨xl,vl,hxl,hvl,ivl⟩:=eN ivl5 hlj;rw[lnj]at ivl;obtain⟨t,vs,rfl,hq,il⟩:=dk ivl;have tn:∀ {Hn:Hp} {t:Addr} {o:HO},Hn t=none→bu Hn (upd Hn t o):=fun h=>bu.new h
  have cl:cn1.length=nm:=by rw[G1.vc]; exact (eB (rw:=rw) hP.ok.ok G1.tr.tr.uR (cq st1.length)).n
  have hxn:∀ x,ln.given=some x→x < nm:=fun x h=>by have:=og (hP.ok.ok _ (gh hl)); rw[h]at this; exact this
  have G1':Good ls nm rw rs j wO st1 cn1 wk1 (fG w.rows) w.mem.nums:=G1;have nn:(w.next j ln).nums=(ln.run w.rows w.mem).nums:=by rw[iU he]; rfl
  have na:(w.next j ln).at_=ln.next w.nums w.rows:=by rw[iU he]
  dsimp only[kO,rR,qd];refine r9 (fun σ' H6=>∃ (wk6:List (List Key × V)) (y15:Option V),aD H7 H6∧WalkAt K H6 C A (w.next j ln)∧fU K H6 ps lc l1 n1 w1 wO st1 (ln.behind cn1) wk6∧DY ls nm rw rs (ln.next w.nums w.rows) wO (st1++[(j,if ln.bit w.nums w.rows then 1 else 0)]) (ln.behind cn1) wk6 (fG w.rows) (w.next j ln).nums∧H6 lv5=some (.lst (aB (w.next j ln).nums))∧H6 lc=some (.lst (aX (gR ls rs)))∧σ'=[some (.ref a),some (.ref tp),some (.ref al),some (.ref pm),some (.ref pd),some (.ref p),some (.ref lz),some (.int (b:Int)),some (.ref A.x),some (.ref ps),some (.int (0 + (i:Int))),some (.int (j:Int)),some (.ref lv5),some (.int ((if ln.bit w.nums w.rows=true then 1 else 0:Nat):Int)),some (.int ((w.next j ln).at_:Int)),y15]) (fun σ' H6 h=>?_) (fun D' kk=>?_);rotate_left
  ·refine⟨_,rfl,_,rfl,al,xl,_,_,rfl,rfl,hxl,hvl,t,_,0,_,rfl,rfl,hq,dW _ _,bQ rfl,fun t6 n6=>⟨t6,_,rfl,.inr (bY.of af),rfl,rfl,_,rfl,?_⟩⟩;rw[AD];have s6:=aj n6 (.tup [.str "set",.str "sum",.str "len",.str "take",.str "get"]);have hw6:=hw5.same s6;have S6:=S5.same s6;have sm6:=sm5.trans s6;have c6:=s6 _ _ c5;have v6:=s6 _ _ elv5;have hq6:=s6.aS.sq hq;have hxl6:=s6.seq hxl;generalize upd H5 t6 (.tup [.str "set",.str "sum",.str "len",.str "take",.str "get"])=H6 at s6 hw6 S6 sm6 c6 v6 hq6 hxl6;cases hgv:ln.given with
   | none=>
    refine bp (kk _ _ ⟨wk1,_,sm6,hw6,?_,?_,v6,c6,rfl⟩)
    ·rw[show ln.behind cn1=cn1 by unfold Ln.behind; rw[hgv]; rfl]; exact S6
    ·exact Good.step (m:=w.mem) G1' hP.ok R hj hl hns hlk hrl (fun _ _ h=>h) (fun x h=>by rw[hgv]at h; cases h) (by rw[show ln.behind cn1=cn1 by unfold Ln.behind; rw[hgv]; rfl,nn,AE hgv]; exact G1'.ww) (zH _)
   | some x=>
    have hx:x < cn1.length:=by rw[cl]; exact hxn x hgv
    have hxv:x < (w.next j ln).nums.length:=by rw[ok'.nl]; exact hxn x hgv
    have ex:cn1[x]?=some (cn1[x]?.getD 0):=by rw[cu hx]; rfl
    obtain⟨r,rfl⟩:=zP hgv il;refine bI ⟨_,rfl,_,rfl,al,xl,_,_,rfl,rfl,hxl6,hvl,t,_,1,_,rfl,rfl,hq6,jO _ _ _,?_⟩;refine⟨_,rfl,ps,.ref n1,rfl,.inl ⟨_,.inr "counts",.inl S6.d,rfl,rfl⟩,_,rfl,n1,_,_,_,rfl,rfl,a7.of S6.cnt,bf (cD hx),_,_,rfl,rfl,_,rfl,ps,.ref n1,rfl,.inl ⟨_,.inr "counts",.inl S6.d,rfl,rfl⟩,_,rfl,n1,_,_,x,rfl,rfl,S6.cnt,by rw[bC]; exact rG hx,?_⟩;rw[ints_set];have t7:=bu.lst (ys:=aB (cn1.set x (cn1[x]?.getD 0 + 1))) S6.cnt;have k7:∀ b o,b≠n1→H6 b=some o→upd H6 n1 (.lst (aB (cn1.set x (cn1[x]?.getD 0 + 1)))) b=some o:=fun b o ne e=>by rw[aq ne]; exact e
    have ec7:upd H6 n1 (.lst (aB (cn1.set x (cn1[x]?.getD 0 + 1)))) n1=some (.lst (aB (cn1.set x (cn1[x]?.getD 0 + 1)))):=af;generalize upd H6 n1 (.lst (aB (cn1.set x (cn1[x]?.getD 0 + 1))))=H8 at t7 k7 ec7;have hw8:WalkAt K H8 C A (w.next j ln):=hw6.keep (fun b o hb e=>k7 b o (fun z=>dn.a (z ▸ hb)) e) t7;have sm8:aD H7 H8:=fun b o e=>k7 b o (aH e dn.h) (sm6 _ _ e)
    have c8:=k7 _ _ dn.c.symm c6;have v8:=k7 _ _ vn5 v6;have ed8:=k7 _ _ (bh S6.d S6.cnt (by intro z; cases z)) S6.d;obtain⟨ys6,el6,iy6⟩:=S6.s;have el8:=k7 _ _ S6.ln el6;have iy8:=iy6.mono t7;obtain⟨zs6,ew6,cz6⟩:=S6.wth;have ew8:=k7 _ _ (bh ew6 S6.cnt (by intro z; cases z)) ew6;have lw:=G1.wl;have hst:=G1.tr.len;refine⟨_,rfl,_,rfl,lv5,_,_,_,rfl,rfl,a7.of v8,bf (cD hxv),_,rfl,ps,.ref w1,rfl,.inl ⟨_,.inr "worths",.inl ed8,rfl,rfl⟩,_,rfl,_,rfl,ps,.ref n1,rfl,.inl ⟨_,.inr "counts",.inl ed8,rfl,rfl⟩,_,rfl,n1,_,_,_,rfl,rfl,a7.of ec7,bf (cD (by rw[xI]; exact hx)),bQ rfl,fun t9 n9=>?_⟩;rw[yM hx];have s9':=aj n9 (.tup [.str "name",.int (x:Int),.int ((some (cn1[x]?.getD 0 + 1)).getD 0)]);refine⟨w1,wk1,t9,kn x (cn1[x]?.getD 0 + 1),rfl,rfl,⟨zs6,s9' _ _ ew8,cz6⟩,.inl af,aO (by lia),fun H10 k10 h10 d10=>?_⟩;have k9:∀ b o,b≠w1→H8 b=some o→H10 b=some o:=fun b o ne e=>k10 b o ne (s9' _ _ e)
    have t10:bu H8 H10:=⟨fun b zs e=>k9 _ _ (bh e ew8 (by intro z; cases z)) e,fun b o u e=>k9 _ _ (bh e ew8 (by intro z; cases z)) e⟩
    obtain⟨v',ev'⟩:=yZ (rows:=w.rows) (m:=w.mem) hgv;have wv:(w.next j ln).nums[x]?.getD 0=v':=by
     rw[nn,ev',yM (by rw[nn,ev',xI]at hxv; exact hxv)]; rfl
    have eb:ln.behind cn1=cn1.set x (cn1[x]?.getD 0 + 1):=by unfold Ln.behind; rw[hgv]; rfl
    have W':Wk (putK wk1 (kn x (cn1[x]?.getD 0 + 1)) (.int ((w.next j ln).nums[x]?.getD 0))) (fG w.rows) (ln.behind cn1) (w.next j ln).nums:=by
     rw[eb,wv,nn,ev'];exact G1'.ww.give ex
    refine kk _ _ ⟨_,_,fun b o e=>k9 b o (aH e dw.h) (sm8 _ _ e),hw8.keep (fun b o hb e=>k9 b o (fun z=>dw.a (z ▸ hb)) e) t10,⟨k9 _ _ (bh ed8 ew8 (by intro z; cases z)) ed8,⟨ys6,k9 _ _ (bh el8 ew8 (by intro z; cases z)) el8,iy8.mono t10⟩,?_,d10,S6.ln⟩,?_,k9 _ _ (bh v8 ew8 (by intro z; cases z)) v8,k9 _ _ (bh c8 ew8 (by intro z; cases z)) c8,rfl⟩
    ·rw[eb]; exact k9 _ _ (bh ec7 ew8 (by intro z; cases z)) ec7
    ·refine Good.step (m:=w.mem) G1' hP.ok R hj hl hns hlk hrl (fun d y h=>h.put (G1'.ww.new ex)) (fun y h=>?_) W' (b9 _ _ _);rw[hgv]at h;cases h;refine⟨kn x (cn1[x]?.getD 0 + 1),.name _ _,?_⟩;rw[bN,if_pos rfl,nn]
  obtain⟨wk6,y15',sm6,hw6,S6,PG,v6,c6,rfl⟩:=h;obtain⟨ys6,el6,iy6⟩:=S6.s;have ly:ys6.length=st1.length:=by have:=iy6.length; rw[cU]at this; exact this.symm
  have hst:=G1.tr.len;refine⟨_,rfl,_,rfl,_,rfl,_,rfl,tp,al,ps,l1,nm,rw,ls,ln,j,_,_,_,ys6,rfl,hP7.same sm6,aH hal7 dl.h,S6.d,rfl,el6,by lia,hl,j4 (nums:=w.nums) (rows:=w.rows) hns,fun H8 t8 n8 k8 e8 el8=>?_⟩;have S8:=S6.gone el6 iy6 k8 e8 el8;have t8':bu H6 H8:=⟨fun b zs e=>k8 _ _ (bh e el6 (by intro z; cases z)) e,fun b o u e=>k8 _ _ (bh e el6 (by intro z; cases z)) e⟩
  have sm8:aD H7 H8:=fun b o e=>k8 b o (aH e dl.h) (sm6 _ _ e)
  have hw8:WalkAt K H8 C A (w.next j ln):=hw6.keep (fun b o hb e=>k8 b o (fun z=>dl.a (z ▸ hb)) e) t8';have c8:=k8 _ _ dl.c.symm c6;have v8:=k8 _ _ vl5 v6
  have hg:lF ls (ln.next w.nums w.rows):=.step hj (by
   unfold ck;rw[hl]
   exact gh (j4 (nums:=w.nums) (rows:=w.rows) hns))
  have hrl':fG w.rows=fG (w.next j ln).rows:=by rw[ok'.sz]; exact hsz
  rw[hrl']at PG;refine⟨_,rfl,_,rfl,rfl,_,rfl,D8 ?_ ?_⟩
  ·rw[na];show (!decide (V.int _=V.int _))=false;rw[ff rfl]; rfl
  refine⟨_,rfl,_,rfl,_,rfl,_,rfl,_,rfl,tp,al,lv5,lz,ps,lc,l1,n1,w1,nm,rw,ls,rs,_,wO,_,ln.behind cn1,wk6,(w.next j ln).nums,(w.next j ln).rows,rfl,hP7.same sm8,R,S8,PG,ok'.nl,ok'.rl,v8,by rw[← hrl']; exact elz' sm8,c8,hg,fun H9 l9 n9 w9 cut9 st9 cn9 wk9 k9 fl9 fn9 fw9 S9 G9=>⟨_,rfl,bp ?_⟩⟩;have mix:∀ {c c':Addr},Dj H7 A lc c→(c'=c∨H8 c'=none)→Dj H7 A lc c':=fun d h=>by
   rcases h with z | z
   ·rw[z]; exact d
   ·exact Dj.new sm8 hw8 c8 z
  have mixv:∀ {c c':Addr},lv5≠c→(c'=c∨H8 c'=none)→lv5≠c':=fun d h=>by
   rcases h with z | z
   ·rw[z]; exact d
   ·exact cx v8 z
  refine⟨by have:=T.ok.bud; have:=T.ok.done; lia,l9,n9,w9,lv5,w.next j ln,cut9,st9,cn9,wk9,_,_,_,_,⟨ok',hw8.keep (fun b o hb e=>k9 b o (fun z=>dps.a (z ▸ hb)) e) (k9.aS S8.d),fun b o e=>k9 b o (aH e dps.h) (sm8 _ _ e),S9,?_,by rw[na]; exact hg,k9.lst S8.d v8,k9.lst S8.d c8,mix dl fl9,mix dn fn9,mix dw fw9,dv5,mixv vl5 fl9,mixv vn5 fn9⟩,by rw[na]; rfl⟩;rw[← ok'.sz,na];exact G9
def C9(w:World)(K:aW)(p:Str × List Str)(e:DictEntry):Prop:=e.hash=hashStr w p.1∧(∃ t,e.key=.str p.1 t)∧∃ (a:Addr) (o:Obj) (its:Array Value) (n:Nat),e.val=.ref a∧K.lookup a=some o∧o.cls=.type "tuple"∧o.data=.seq its n∧its.size≤sizeLine∧Vals (p.2.map V.str) its.toList
theorem EH{K:aW}{p:Str × List Str}{e:DictEntry}{t:Tok}{a:Addr}{o:Obj}{its:Array Value}(h1:e.hash=hashStr w p.1)(h2:e.key=.str p.1 t)(h3:e.val=.ref a)(h4:K.lookup a=some o)(h5:o.cls=.type "tuple")(h6:o.data=.seq its n)(h7:its.size≤sizeLine)
  (h8:Vals (p.2.map V.str) its.toList):C9 w K p e:=⟨h1,⟨t,h2⟩,a,o,its,n,h3,h4,h5,h6,h7,h8⟩
theorem EB{K:aW}{mg:Str→Option Value}(mp:mg "PARTS" = some (.ref aP))(lP:K.lookup aP=some oP)(xP:oP.ExactDict)(dP:oP.data=.dict es ep)(rP:Paired (C9 w K) hZ es.toList):Tab P w K mg aP:=by
 have go:∀ (l:List (Str × List Str)) (r:List DictEntry),Paired (C9 w K) l r→∃ kvs:List (Str × V),Paired (fun (p:Str × V) (e:DictEntry)=>e.hash=hashStr w p.1∧(∃ t,e.key=.str p.1 t)∧RelV p.2 e.val) kvs r∧kvs.map (·.1)=l.map (·.1)∧
   ∀ (x:Str) (ks:List Str),l.lookup x=some ks→∃ p,kvs.lookup x=some (.ref p)∧∀ H:Hp,bY K H p (ks.map V.str):=by
  intro l r h
  induction h with
  | nil=>exact⟨[],.nil,rfl,fun x ks h=>by simp at h⟩
  | @cons p e l1 l2 hd tl ih=>
   obtain⟨kvs,h1,h2,h3⟩:=ih;obtain⟨p1,p2⟩:=p;obtain⟨q1,q2,a,o,its,n,q3,q4,q5,q6,q7,q8⟩:=hd;refine⟨(p1,.ref a)::kvs,.cons ⟨q1,q2,q3⟩ h1,by simp[h2],fun x ks hx=>?_⟩;cases hb:x == p1 with
   | true=>
    simp only[Cu,hb]at hx ⊢;cases hx;exact⟨a,rfl,fun H=>.inr ⟨o,its,n,q4,q5,q6,q7,q8⟩⟩
   | false=>
    simp only[Cu,hb]at hx ⊢;exact h3 x ks hx
 obtain⟨kvs,h1,h2,h3⟩:=go _ _ rP;refine⟨mp,⟨kvs,KD.of lP xP dP h1 ?_,h3⟩⟩;rw[h2];decide +kernel
theorem CV{K:aW}{mg:Str→Option Value}(mv:mg "GIVING" = some (.ref aG))(lG:K.lookup aG=some oG)(cG:oG.cls=.type "tuple")(dG:oG.data=.seq iG nG)(zG:iG.size≤sizeLine)(vG:Vals (se.map V.str) iG.toList)
  (ml:mg "PLACING" = some (.ref aL)) (lL:K.lookup aL=some oL) (cL:oL.cls=.type "tuple") (dL:oL.data=.seq iL nL) (zL:iL.size≤sizeLine) (vL:Vals (nX.map V.str) iL.toList):Dv K mg aG aL:=
 ⟨mv,fun H=>.inr ⟨oG,iG,nG,lG,cG,dG,zG,vG⟩,ml,fun H=>.inr ⟨oL,iL,nL,lL,cL,dL,zL,vL⟩⟩
theorem DR{K:aW}{mg:Str→Option Value}(mz:mg "ZERO" = some (.ref aZ))(lZ:K.lookup aZ=some oZ)(cZ:oZ.cls=.type "tuple")(dZ:oZ.data=.seq iZ nZ)(zZ:iZ.size≤sizeLine)(vZ:Vals [.str "zero"] iZ.toList):wZ K mg aZ:=
 ⟨mz,fun H=>.inr ⟨oZ,iZ,nZ,lZ,cZ,dZ,zZ,vZ⟩⟩
theorem wW(hl:us.length=n + 1):∃ a t,us=a::t∧t.length=n:=by
 cases us with
 | nil=>cases hl
 | cons a t=>exact⟨a,t,rfl,Nat.succ.inj hl⟩
section
variable {h:Heap}{x qual:Str}{st:Stmt}{k:Nat}{ps:List Str}{sp:Sp}{oc:Value}{od an:Option Addr}{osl:Array (Option Value)}{kV doc pm cdv ct:Value}
def Dn(K:aW)(x:Str)(st:Stmt):Prop:=∃ f fd,cM K x x st f fd∧PySem.W.nsIn K mainGlobals x=some (some (.ref f))
def Mn(K:aW)(C:Addr)(x qual:Str)(st:Stmt):Prop:=∃ f fd,cM K x qual st f fd∧Meth K C x f
theorem GZ(a:PySem.W.nsIn K mainGlobals x=some (some (.ref f)))(l:K.lookup f=some ⟨oc,od,.func (PySem.W.fnOf x x (fQ st) (fb st) (ao st) .none kV doc pm an cdv ct),osl⟩)(c:PySem.W.codeIn K cdv x=true)(k:PySem.W.keepIn K (.ref f)=true):Dn K x st:=⟨f,_,Bs l c k,a⟩
theorem Hw(a:PySem.W.findIn K (.ref C) x=some (some (.ref f)))(l:K.lookup f=some ⟨oc,od,.func (PySem.W.fnOf x qual (fQ st) (fb st) (ao st) .none kV doc pm an cdv ct),osl⟩)(c:PySem.W.codeIn K cdv qual=true)(k:PySem.W.keepIn K (.ref f)=true)(i:PySem.W.isFn K (.ref f)=true):Mn K C x qual st:=⟨f,_,Bs l c k,⟨a,i,k⟩⟩
def Bn(x qual:Str)(st:Stmt)(ps:List Str):Prop:=∀ (kV doc pm:Value) (an:Option Addr) (cdv ct:Value) (us:List Value),us.length=ps.length→bindArgs (PySem.W.fnOf x qual (fQ st) (fb st) (ao st) .none kV doc pm an cdv ct) ⟨us,[]⟩=pure (ps.zip us)
def Ct(P:Program)(w:World)(K:aW)(mg:Str→Option Value)(base:Heap):Prop:=∃ h,K.In h∧h.Ns mainGlobals mg
theorem bq(B:Ct P w K mg base)(D:Dn K x st)(b:Bn x x st ps)(ok:∀ f fd,cM K x x st f fd→bg P w K mg base cH k f fd ps sp):Cl P w K mg base x k ps sp:=by
 obtain⟨f,fd,F,a⟩:=D;obtain⟨h,X,G⟩:=B;exact F.cl (ok f fd F) (PySem.W.mg_of X G a) b
theorem fC(B:Ct P w K mg base)(CL:vy K C)(D:Mn K C x qual st)(b:Bn x qual st ps)(ok:∀ f fd,cM K x qual st f fd→bg P w K mg base cH k f fd ps sp):ju P w K mg base C x k ps sp:=by
 obtain⟨f,fd,F,a⟩:=D;exact⟨f,fd,CL,a,ok f fd F,F.binds b⟩
theorem GY(m:PySem.W.makesIn K C=true)(kC:PySem.W.keepIn K (.ref C)=true)(D:Mn K C "__init__" qual st)(e:mg x=some (.ref C))(b:Bn "__init__" qual st ps)(ok:∀ f fd,cM K "__init__" qual st f fd→bg P w K mg base cH k f fd ps sp):Io P w K mg base x C k ps sp:=by
 obtain⟨f,fd,F,a⟩:=D;exact⟨f,fd,⟨m,a.1,a.2,kC⟩,ok f fd F,F.binds b,e⟩
theorem _root_.L2.Cl.up(c:Cl P w K mg base x j ps sp)(h:autoParam (j≤k) q_2):Cl P w K mg base x k ps sp:=c.mono h
theorem _root_.L2.ju.up(c:ju P w K mg base C x j ps sp)(h:autoParam (j≤k) q_2):ju P w K mg base C x k ps sp:=c.mono h
end
local macro_rules | `(tactic| walk_at "b")=>`(tactic| (intro _ _ _ _ _ _ us hl; (repeat (replace hl:=wW hl; obtain⟨_,us,e,hl⟩:=hl; subst e)); cases List.eq_nil_of_length_eq_zero hl; rfl))
theorem all_mk{l:PySem.W.OpenLaw}{K:aW}{h:Heap}{mg:Str→Option Value}{fa:Addr}(X:K.In h)(G:h.Ns mainGlobals mg)(hfa:mg "law" = some (.ref fa))
  
  (h1:Dn K "_law_draw" xb)
  (h2:Dn K "_law_digit" tf)
  (h3:Dn K "_law_number" oK)
  (h4:Dn K "_law_goal" wM)
  (h5:Dn K "_law_maybe" rS)
  (h6:Dn K "_law_node" m9)
  (h7:Dn K "_law_leads_back" fg)
  (h8:Dn K "_law_ask" xY)
  (h9:Dn K "_law_line" wL)
  (h10:Dn K "_law_program" lh)
  (h11:Dn K "_law_ways" jL)
  (h12:Dn K "_law_met" yu)
  (h13:Dn K "_law_into" xk)
  (h14:Dn K "_law_worth_of" js)
  (h15:Dn K "_law_rows" rH)
  (h16:Dn K "_law_budget" m7)
  (h17:Dn K "_law_taken" m3)
  (h18:Dn K "is_ask" nQ)
  (h19:Dn K "parts" rY)
  (h20:Dn K "ways" sR)
  (h21:Dn K "is_place" jr)
  (h22:Dn K "place_of" jB)
  (h23:Dn K "gives" sZ)
  (h24:Dn K "_law_begun" kD)
  (h25:Dn K "first_versions" eG)
  (h26:Dn K "versions_behind" cR)
  (h27:Dn K "versions" jv)
  (h28:Dn K "alike" sV)
  (h29:Dn K "value_node" gD)
  (h30:Dn K "given_node" gH)
  (h31:Dn K "low_bound" ij)
  (h32:Dn K "high_bound" gN)
  (h33:Dn K "against" kS)
  (h34:Dn K "branch_facts" fA)
  (h35:Dn K "node_now" jx)
  (h36:Dn K "bound_now" iH)
  (h37:Dn K "step_facts" eZ)
  (h38:Dn K "facts_of" gF)
  (h39:Dn K "_law_so" CM)
  (h40:Dn K "come_to" ja)
  (h41:Dn K "into_each" eP)
  (h42:Dn K "is_cut" oB)
  (h43:Dn K "trail" mH)
  (h44:Dn K "needs" rO)
  (h45:Dn K "_law_looked" kF)
  (h46:Dn K "_law_come" nT)
  (h47:Dn K "_law_gone" rD)
  (h48:Dn K "_law_which" gM)
  (h49:Dn K "_law_through_asks" kQ)
  (h50:Dn K "law" nv)
  (z_len:PySem.W.nsIn K mainGlobals "len" = some none)
  (z_divmod:PySem.W.nsIn K mainGlobals "divmod" = some none)
  (z_min:PySem.W.nsIn K mainGlobals "min" = some none)
  (z_range:PySem.W.nsIn K mainGlobals "range" = some none)
  (z_list:PySem.W.nsIn K mainGlobals "list" = some none)
  (z_tuple:PySem.W.nsIn K mainGlobals "tuple" = some none)
  (z_int:PySem.W.nsIn K mainGlobals "int" = some none)
  (z_sorted:PySem.W.nsIn K mainGlobals "sorted" = some none)
  (z_enumerate:PySem.W.nsIn K mainGlobals "enumerate" = some none)
  (z_zip:PySem.W.nsIn K mainGlobals "zip" = some none)
  (z_all:PySem.W.nsIn K mainGlobals "all" = some none)
  (z_dict:PySem.W.nsIn K mainGlobals "dict" = some none)
  (z_reversed:PySem.W.nsIn K mainGlobals "reversed" = some none)
  (gP:PySem.W.nsIn K mainGlobals "PARTS" = some (some (.ref aP)))
  (lP:K.lookup aP=some oP)
  (xP:oP.ExactDict)
  (dP:oP.data=.dict es ep)
  (rP:Paired (C9 w K) hZ es.toList)
  (gG:PySem.W.nsIn K mainGlobals "GIVING" = some (some (.ref aG)))
  (lG:K.lookup aG=some oG)
  (cG:oG.cls=.type "tuple")
  (dG:oG.data=.seq iG nG)
  (zG:iG.size≤sizeLine)
  (vG:Vals (se.map V.str) iG.toList)
  (gL:PySem.W.nsIn K mainGlobals "PLACING" = some (some (.ref aL)))
  (lL:K.lookup aL=some oL)
  (cL:oL.cls=.type "tuple")
  (dL:oL.data=.seq iL nL)
  (zL:iL.size≤sizeLine)
  (vL:Vals (nX.map V.str) iL.toList)
  (gZ:PySem.W.nsIn K mainGlobals "ZERO" = some (some (.ref aZ)))
  (lZ:K.lookup aZ=some oZ)
  (cZ:oZ.cls=.type "tuple")
  (dZ:oZ.data=.seq iZ nZ)
  (zZ:iZ.size≤sizeLine)
  (vZ:Vals [.str "zero"] iZ.toList)
  (gC:PySem.W.nsIn K mainGlobals "Walk" = some (some (.ref C)))
  (pg:PySem.W.plainGet K C Str.empty=true)
  (hd:PySem.W.hasDictIn K C=true)
  (po:PySem.W.plainOver K C=true)
  (sa:PySem.W.findIn K (.ref C) "__setattr__" = some (some (.builtin "object.__setattr__")))
  (mk:PySem.W.makesIn K C=true)
  (kC:PySem.W.keepIn K (.ref C)=true)
  (na_lines:PySem.W.findIn K (.ref C) "lines" = some none)
  (na_rows:PySem.W.findIn K (.ref C) "rows" = some none)
  (na_coming:PySem.W.findIn K (.ref C) "coming" = some none)
  (na_budget:PySem.W.findIn K (.ref C) "budget" = some none)
  (na_at:PySem.W.findIn K (.ref C) "at" = some none)
  (na_numbers:PySem.W.findIn K (.ref C) "numbers" = some none)
  (na_heard:PySem.W.findIn K (.ref C) "heard" = some none)
  (na_done:PySem.W.findIn K (.ref C) "done" = some none)
  (na_ended:PySem.W.findIn K (.ref C) "ended" = some none)
  (q_init:Mn K C "__init__" "Walk.__init__" fO)
  (q_frame:Mn K C "frame" "Walk.frame" gw)
  (q_worth:Mn K C "worth" "Walk.worth" gk)
  (q_node_worth:Mn K C "node_worth" "Walk.node_worth" dJ)
  (q_is_so:Mn K C "is_so" "Walk.is_so" gy)
  (q_which:Mn K C "which" "Walk.which" e9)
  (q_go_on:Mn K C "go_on" "Walk.go_on" gO)
  (q_pass_asks:Mn K C "pass_asks" "Walk.pass_asks" eD)
  (q_row:Mn K C "row" "Walk.row" jy)
  (q_place:Mn K C "place" "Walk.place" gQ)
  (q_failed_look:Mn K C "failed_look" "Walk.failed_look" dA)
  (q_ending:Mn K C "ending" "Walk.ending" fW)
  (q_result:Mn K C "result" "Walk.result" fV)
  (q_do:Mn K C "do" "Walk.do" lE)
  (q_step:Mn K C "step" "Walk.step" ig)
  (q_told:Mn K C "told" "Walk.told" fL) :
  ∃ fd:sE,(∀ (s:Shared) (v:Value),BindsTo s fd ⟨[v],[]⟩ [("_law_script",v)])∧∀ base:Heap,K.In base→base.Ns mainGlobals mg→bg l.prog w K mg base cH 20 fa fd Cj (x9 K):=by
 obtain⟨f,fd,F,a⟩:=h50;have e:=hfa.symm.trans (PySem.W.mg_of X G a);cases e;have m_len:=zh X G z_len;have m_divmod:=zh X G z_divmod;have m_min:=zh X G z_min;have m_range:=zh X G z_range;have m_list:=zh X G z_list;have m_tuple:=zh X G z_tuple;have m_int:=zh X G z_int;have m_sorted:=zh X G z_sorted;have m_enumerate:=zh X G z_enumerate;have m_zip:=zh X G z_zip;have m_all:=zh X G z_all;have m_dict:=zh X G z_dict;have m_reversed:=zh X G z_reversed;have T:Tab l.prog w K mg aP:=EB (PySem.W.mg_of X G gP) lP xP dP rP;have TG:Dv K mg aG aL:=CV (PySem.W.mg_of X G gG) lG cG dG zG vG (PySem.W.mg_of X G gL) lL cL dL zL vL;have TZ:wZ K mg aZ:=DR (PySem.W.mg_of X G gZ) lZ cZ dZ zZ vZ;have CL:vy K C:=⟨pg,hd,po,sa⟩
 have W:WC K C:=⟨CL,na_lines,na_rows,na_coming,na_budget,na_at,na_numbers,na_heard,na_done,na_ended⟩
 refine⟨fd,fun s v=>?_,fun base _ _=>?_⟩
 ·obtain⟨oc,od,kV,doc,pm,an,cdv,ct,osl,rfl,lk,hcd⟩:=F.ex;exact .of_eq rfl
 have B:Ct l.prog w K mg base:=⟨h,X,G⟩
 have c1:=bq B h1 (by walk_at "b") fun _ _ F=>DO (n:=0) F m_len
 have c2:=bq B h2 (by walk_at "b") fun _ _ F=>Ba (n:=0) F m_divmod
 have c3:=bq B h3 (by walk_at "b") fun _ _ F=>zz (n:=1) F c2
 have c4:=bq B h4 (by walk_at "b") fun _ _ F=>CB (n:=1) F m_min c2
 have c5:=bq B h5 (by walk_at "b") fun _ _ F=>BS (n:=1) F c2
 have c6:=bq B h6 (by walk_at "b") fun _ _ F=>DE (n:=1) F m_len m_range c2
 have c7:=bq B h7 (by walk_at "b") fun _ _ F=>pO (n:=0) F m_len m_list
 have c8:=bq B h8 (by walk_at "b") fun _ _ F=>Fs (n:=2) F m_range m_tuple c1.up c2.up c3 c6 c4 c7.up
 have c9:=bq B h9 (by walk_at "b") fun _ _ F=>CS (n:=3) F m_len m_int c1.up c2.up c3.up c4.up c5.up c8
 have c10:=bq B h10 (by walk_at "b") fun _ _ F=>vM (n:=4) F m_range m_int c1.up c2.up c9
 have c11:=bq B h11 (by walk_at "b") fun _ _ F=>uO (n:=0) F 
 have c12:=bq B h12 (by walk_at "b") fun _ _ F=>FC (n:=1) F m_sorted m_range m_len c11
 have c13:=bq B h13 (by walk_at "b") fun _ _ F=>DM (n:=1) F m_enumerate c11
 have c14:=bq B h14 (by walk_at "b") fun _ _ F=>vj (n:=0) F m_int
 have c15:=bq B h15 (by walk_at "b") fun _ _ F=>C3 (n:=1) F m_range m_int c1 c2 c14
 have c16:=bq B h16 (by walk_at "b") fun _ _ F=>zY (n:=1) F m_int c1 c2
 have c17:=bq B h17 (by walk_at "b") fun _ _ F=>B1 (n:=1) F m_range m_int c1 c2 c14
 have w_frame:=fC B CL q_frame (by walk_at "b") fun _ _ F=>pI (n:=0) F W m_list
 have c18:=bq B h18 (by walk_at "b") fun _ _ F=>yL (n:=0) F 
 have c19:=bq B h19 (by walk_at "b") fun _ _ F=>BQ (n:=0) F m_list m_zip T
 have c20:=bq B h20 (by walk_at "b") fun _ _ F=>DA (n:=1) F m_tuple c19
 have w_worth:=fC B CL q_worth (by walk_at "b") fun _ _ F=>pR (n:=0) F W
 have w_node_worth:=fC B CL q_node_worth (by walk_at "b") fun _ _ F=>jq (n:=0) F W m_len
 have w_is_so:=fC B CL q_is_so (by walk_at "b") fun _ _ F=>pk (n:=1) F W w_node_worth
 have w_which:=fC B CL q_which (by walk_at "b") fun _ _ F=>px (n:=2) F W m_all c18.up w_worth.up w_is_so
 have w_go_on:=fC B CL q_go_on (by walk_at "b") fun _ _ F=>pq (n:=3) F W c20.up w_which
 have w_pass_asks:=fC B CL q_pass_asks (by walk_at "b") fun _ _ F=>kH (n:=4) F W c18.up w_go_on
 have c21:=bq B h21 (by walk_at "b") fun _ _ F=>tG (n:=0) F TG
 have c22:=bq B h22 (by walk_at "b") fun _ _ F=>vg (n:=0) F 
 have w_row:=fC B CL q_row (by walk_at "b") fun _ _ F=>ui (n:=1) F W c22
 have w_place:=fC B CL q_place (by walk_at "b") fun _ _ F=>pC (n:=1) F W c22 w_worth
 have w_failed_look:=fC B CL q_failed_look (by walk_at "b") fun _ _ F=>ji (n:=2) F W m_len w_row w_place
 have w_ending:=fC B CL q_ending (by walk_at "b") fun _ _ F=>oN (n:=3) F W c21.up w_failed_look
 have c23:=bq B h23 (by walk_at "b") fun _ _ F=>AI (n:=0) F TG
 have w_result:=fC B CL q_result (by walk_at "b") fun _ _ F=>ni (n:=2) F W m_len w_worth.up w_row w_place
 have w_do:=fC B CL q_do (by walk_at "b") fun _ _ F=>vO (n:=3) F W c23.up w_result w_row.up w_place.up
 have w_step:=fC B CL q_step (by walk_at "b") fun _ _ F=>sL (n:=5) F W w_pass_asks w_ending.up w_do.up w_go_on.up
 have w_told:=fC B CL q_told (by walk_at "b") fun _ _ F=>rV (n:=0) F W m_list
 have c24:=bq B h24 (by walk_at "b") fun _ _ F=>Bi (n:=0) F m_range m_len
 have c25:=bq B h25 (by walk_at "b") fun _ _ F=>j6 (n:=0) F 
 have c26:=bq B h26 (by walk_at "b") fun _ _ F=>jI (n:=1) F m_enumerate c23
 have c27:=bq B h27 (by walk_at "b") fun _ _ F=>vh (n:=2) F c25.up c26
 have c28:=bq B h28 (by walk_at "b") fun _ _ F=>Ax (n:=0) F 
 have c29:=bq B h29 (by walk_at "b") fun _ _ F=>pL (n:=0) F TZ
 have c30:=bq B h30 (by walk_at "b") fun _ _ F=>pK (n:=2) F c23.up c29.up c26
 have c31:=bq B h31 (by walk_at "b") fun _ _ F=>sG (n:=1) F TZ c22 c29
 have c32:=bq B h32 (by walk_at "b") fun _ _ F=>pB (n:=1) F c22 c29
 have c33:=bq B h33 (by walk_at "b") fun _ _ F=>vY (n:=0) F 
 have c34:=bq B h34 (by walk_at "b") fun _ _ F=>mx (n:=1) F m_len c33
 have c35:=bq B h35 (by walk_at "b") fun _ _ F=>uh (n:=1) F m_len c29
 have c36:=bq B h36 (by walk_at "b") fun _ _ F=>sS (n:=2) F c35
 have c37:=bq B h37 (by walk_at "b") fun _ _ F=>pS (n:=3) F c28.up c30 c29.up c21.up c18.up c31.up c32.up c34.up c36
 have c38:=bq B h38 (by walk_at "b") fun _ _ F=>uN (n:=4) F TZ m_range c25.up c37 c26.up
 have c39:=bq B h39 (by walk_at "b") fun _ _ F=>HG (n:=0) F 
 have c40:=bq B h40 (by walk_at "b") fun _ _ F=>xh (n:=2) F m_sorted c20
 have c41:=bq B h41 (by walk_at "b") fun _ _ F=>sj (n:=3) F m_enumerate m_dict c20.up c40
 have c42:=bq B h42 (by walk_at "b") fun _ _ F=>yR (n:=0) F m_len
 have c43:=bq B h43 (by walk_at "b") fun _ _ F=>BF (n:=4) F m_list m_reversed c41 c42.up
 have c44:=bq B h44 (by walk_at "b") fun _ _ F=>B2 (n:=5) F c43 c27.up c31.up c32.up
 have c45:=bq B h45 (by walk_at "b") fun _ _ F=>zi (n:=6) F m_int c39.up c44
 have c46:=bq B h46 (by walk_at "b") fun _ _ F=>DD (n:=7) F c27.up c38.up c39.up c24.up c43.up c45
 have c47:=bq B h47 (by walk_at "b") fun _ _ F=>DT (n:=1) F c11
 have c48:=bq B h48 (by walk_at "b") fun _ _ F=>BV (n:=1) F m_int m_all m_range m_len c39
 have c49:=bq B h49 (by walk_at "b") fun _ _ F=>wK (n:=8) F c47.up c48.up c46
 exact FR (n:=18) F W m_range m_len c10.up c12.up c13.up c15.up c16.up c17.up (GY mk kC q_init (PySem.W.mg_of X G gC) (by walk_at "b") fun _ _ F=>rX (n:=17) F W m_list) w_frame.up w_step.up w_told.up c24.up c46.up c49.up c48.up c47.up
theorem walk{l:PySem.W.OpenLaw}{q:Program}{loose:List Str}{XP:(Str→Option Value)→Heap→Prop}{YP:World→Heap→Prop}{d:DefRec}{K:Params→aW}(hn:l.most=some 63)(hdf:d.params.defaults=[])
  (hY:∀ (w:World) (h:Heap),YP w h→(K w.params).In h)
  (F:∀ (w:World) (mg:Str→Option Value) (fa:Addr) (h:Heap),(K w.params).In h→h.Ns mainGlobals mg→mg d.name=some (.ref fa)→
   ∃ fd:sE,(∀ (s:Shared) (u:Value),BindsTo s fd ⟨[u],[]⟩ [("_law_script",u)])∧∀ base:Heap,(K w.params).In base→base.Ns mainGlobals mg→bg l.prog w (K w.params) mg base cH 20 fa fd Cj (x9 (K w.params))) :
  PySem.W.WalkO q loose XP YP l.row.toRowW d [] (fun f vs=>PySem.call f vs):=
 L2.yx (n:=63) (k:=20) (x:="_law_script") (CX:=fun _=>cH) (sp:=fun w=>x9 (K w.params)) hn (by decide) hdf ⟨rfl,by decide,by decide,rfl⟩ hY F (fun _ _ a ns hl _ hS=>⟨a,ns,rfl,hS,hl,fun _=>rfl⟩) fun _ _ _ _ _ z=>z
end K44
local macro_rules | `(tactic| walk_at "z")=>`(tactic| (refine' K44.GZ ?a ?l ?c ?k; (case a=>k_is); (case l=>k_is); (case c=>k_is); (case k=>k_is)))
local macro_rules | `(tactic| walk_at "y")=>`(tactic| (refine' K44.Hw ?a ?l ?c ?k ?i; (case a=>k_is); (case l=>k_is); (case c=>k_is); (case k=>k_is); (case i=>k_is)))
structure PySem.W.Fast:Prop where(tw15563659141914170987 tw15202142540478253325 tw8373829512159088929 tw1130759080095493576 tw2156221350614096381 tw2461300955612118028 tw3098513773184524822 tw11468426944410894313 tw4983669898052751197 tw65970508246778076 tw12942695102351358035 tw3772369108124336119 tw13837482194899900091 tw6374746411527378475 tw12141497375684707748 tw8789216098315931099 tw16841043433965572702 tw8317535741248245658 tw2441872976093712793 tw1785223103696344112 tw8722985484424252269 tw1216792058440244831 tw449936124933270732 tw12851461295491795693 tw5691040089897574539 tw12299534653099300358 tw7562127332463435987 tw14191204737423753410 tw724655063413372460 tw10849189348228775678 tw15305781764985461225 tw7255937565894697353 tw12660387126345068454 tw9098357119709078615 tw2313065535155521837 tw15839653808708447310 tw11215050867726653339 tw7800693294168912526 tw6550323414298451137 tw1246412826479703943 tw4254824348587700335 tw3476171476584693831 tw1411413548571389726 tw599262265649708800 tw8786514234449384321 tw5325121312206602089 tw11821901230793834984 tw6384957580053908236 tw14653131435516298472 tw2923651639150658283 tw16873032483386596255 tw12659263240304509818 tw6764265592637475589 tw430952361513355264 tw12054310882440078878 tw4396647787308659184 tw7660871910712970546 tw6866857761593284480 tw14950320084791485039 tw12092717854089498717 tw7818469953432047107 tw11821771770593401614 tw1736870911048551977 tw8883557729477773656 tw17308427454011067614 tw6510730726334158218 tw1853977046352067540 tw15491708468034275704 tw11242224201139963551 tw12636444268138490847 tw15758570642962581654 tw16796162945838034798 tw940099217540734863 tw6210110637007495942 tw7249118002151917182 tw5513840210346420943 tw13880841663954394378 tw13692216900049116934 tw18428347842093621474 tw876014232399423355 tw5196801229072267921 tw2864361243873427077 tw1993795543590282614 tw5813163116703454469 tw15249404399670521575 tw7061566191685807794 tw6570032049016394012 tw8396002696180276580 tw982173495507443084 tw7747320869199170378 tw4332598980239887474 tw7527804085905743442 tw11603361503106522659 tw2638606930961032883 tw3387586569693490238 tw13039214463417143192 tw15393488699206810510 tw2048076567634320383 tw17401507683657067833 tw18162418804411788926 tw7598116433506239085 tw12471293080120012647 tw13546073796129828348 tw4933700424116427538 tw2509727104531886836 tw2222445950772161519 tw1049655909702532504 tw4316806791890715923 tw9646523223063160783 tw3243012427352359146 tw3597916716685978816 tw12930357471393555660 tw10341795939104967389 tw1892441871303689277 tw5716703977937747975 tw10206315631753673955 tw788358115405332959 tw2600354321143506580 tw17300693344605760223 tw10519083660950526838 tw10843514912671287308 tw9110873272306674137 tw13446423721357280622 tw15763126653426364400 tw18027653149171582898 tw1628920330032463933 tw13975264481152161654 tw2348007952900576751 tw6109540287022896555 tw1623934029037241745 tw3114807849921532280 tw2824745554987012565 tw2408128608939143910 tw16119434339214718887 tw12715893853494594138 tw2512029462550522859 tw12556475198062203585 tw2708882912042799129 tw2619194934753672385 tw4995305732970163546 tw10345980779045878014 tw4194276832235474317 tw15638191472108451707 tw2171236226128792338 tw17586904858224672523 tw13652551212484054631 tw10030768855648026475 tw17471362101011147066 tw11406723129827356944 tw17387883822256556758 tw4625949866106720234 tw16359359363666958754 tw6907025760459324502 tw9122761059015134337 tw14740742721576764940 tw13279474758355451513 tw16690284882537939290 tw15513332131044416267 tw13382736168417686533 tw4940689602823435466 tw5073180957973926153 tw7046129404824576291 tw424363546604997097 tw9218099945855956299 tw6334798303849191668 tw13637726585853619747 tw18056825456845296277 tw6877581754621367947 tw862696615094340573 tw6487823686442641677 tw15899153681852327014 tw14989989027087323476 tw10375822964032969360 tw274479902941674976 tw7827177271497499366 tw4748172390118857066 tw9161695031732701640 tw9087538194552893200 tw17697010432622252120 tw1775321895893183138 tw18326807435525509991 tw15406492086253367758 tw17805368647391844721 tw15332587908681957729 tw7571742358977967022 tw9780893296342249849 tw15157135599167184827 tw16940019657209352622 tw10853669652364562688 tw7959842859678249733:True)
open PySem PySem.W PyProof.Rows
set_option maxRecDepth 100000 in
set_option maxHeartbeats 0 in
theorem PySem.Challenge.cw_lookspare_k44_whole_facts_are_so_in_runs_holds : PySem.Challenge.rw_lookspare_k44_whole_facts_are_so_in_runs.Holds := by
  w_on; o_law; k_head; (case hw => w_witness2)
  k_fill
  refine K44.walk (l := PySem.Challenge.rw_lookspare_k44_whole_facts_are_so_in_runs) rfl rfl (fun w h Y => PySem.W.kIn_of Y) ?F
  case F =>
    intro w mg fa h KX G hmg
    refine' K44.all_mk KX G hmg ?h1 ?h2 ?h3 ?h4 ?h5 ?h6 ?h7 ?h8 ?h9 ?h10 ?h11 ?h12 ?h13 ?h14 ?h15 ?h16 ?h17 ?h18 ?h19 ?h20 ?h21 ?h22 ?h23 ?h24 ?h25 ?h26 ?h27 ?h28 ?h29 ?h30 ?h31 ?h32 ?h33 ?h34 ?h35 ?h36 ?h37 ?h38 ?h39 ?h40 ?h41 ?h42 ?h43 ?h44 ?h45 ?h46 ?h47 ?h48 ?h49 ?h50 ?z_len ?z_divmod ?z_min ?z_range ?z_list ?z_tuple ?z_int ?z_sorted ?z_enumerate ?z_zip ?z_all ?z_dict ?z_reversed ?gP ?lP ?xP ?dP ?rP ?gG ?lG ?cG ?dG ?zG ?vG ?gL ?lL ?cL ?dL ?zL ?vL ?gZ ?lZ ?cZ ?dZ ?zZ ?vZ ?gC ?pg ?hd ?po ?sa ?mk ?kC ?na_lines ?na_rows ?na_coming ?na_budget ?na_at ?na_numbers ?na_heard ?na_done ?na_ended ?q_init ?q_frame ?q_worth ?q_node_worth ?q_is_so ?q_which ?q_go_on ?q_pass_asks ?q_row ?q_place ?q_failed_look ?q_ending ?q_result ?q_do ?q_step ?q_told
    (case h1 => walk_at "z")
    (case h2 => walk_at "z")
    (case h3 => walk_at "z")
    (case h4 => walk_at "z")
    (case h5 => walk_at "z")
    (case h6 => walk_at "z")
    (case h7 => walk_at "z")
    (case h8 => walk_at "z")
    (case h9 => walk_at "z")
    (case h10 => walk_at "z")
    (case h11 => walk_at "z")
    (case h12 => walk_at "z")
    (case h13 => walk_at "z")
    (case h14 => walk_at "z")
    (case h15 => walk_at "z")
    (case h16 => walk_at "z")
    (case h17 => walk_at "z")
    (case h18 => walk_at "z")
    (case h19 => walk_at "z")
    (case h20 => walk_at "z")
    (case h21 => walk_at "z")
    (case h22 => walk_at "z")
    (case h23 => walk_at "z")
    (case h24 => walk_at "z")
    (case h25 => walk_at "z")
    (case h26 => walk_at "z")
    (case h27 => walk_at "z")
    (case h28 => walk_at "z")
    (case h29 => walk_at "z")
    (case h30 => walk_at "z")
    (case h31 => walk_at "z")
    (case h32 => walk_at "z")
    (case h33 => walk_at "z")
    (case h34 => walk_at "z")
    (case h35 => walk_at "z")
    (case h36 => walk_at "z")
    (case h37 => walk_at "z")
    (case h38 => walk_at "z")
    (case h39 => walk_at "z")
    (case h40 => walk_at "z")
    (case h41 => walk_at "z")
    (case h42 => walk_at "z")
    (case h43 => walk_at "z")
    (case h44 => walk_at "z")
    (case h45 => walk_at "z")
    (case h46 => walk_at "z")
    (case h47 => walk_at "z")
    (case h48 => walk_at "z")
    (case h49 => walk_at "z")
    (case h50 => walk_at "z")
    (case z_len => k_is)
    (case z_divmod => k_is)
    (case z_min => k_is)
    (case z_range => k_is)
    (case z_list => k_is)
    (case z_tuple => k_is)
    (case z_int => k_is)
    (case z_sorted => k_is)
    (case z_enumerate => k_is)
    (case z_zip => k_is)
    (case z_all => k_is)
    (case z_dict => k_is)
    (case z_reversed => k_is)
    (case gP => k_is)
    (case lP => k_is)
    (case xP => exact ⟨rfl, rfl, rfl⟩)
    (case dP => exact rfl)
    (case rP => repeat' (first | exact .nil | (refine' .cons (K44.EH ?h1 ?h2 ?h3 ?h4 ?h5 ?h6 ?h7 ?h8) ?_; (case h1 => exact rfl); (case h2 => exact rfl); (case h3 => exact rfl); (case h4 => k_is); (case h5 => exact rfl); (case h6 => exact rfl); (case h7 => exact Nat.le_of_ble_eq_true rfl); (case h8 => repeat (first | exact .nil | refine .cons ⟨_, rfl⟩ ?_)))))
    (case gG => k_is)
    (case lG => k_is)
    (case cG => exact rfl)
    (case dG => exact rfl)
    (case zG => exact Nat.le_of_ble_eq_true rfl)
    (case vG => repeat (first | exact .nil | refine .cons ⟨_, rfl⟩ ?_))
    (case gL => k_is)
    (case lL => k_is)
    (case cL => exact rfl)
    (case dL => exact rfl)
    (case zL => exact Nat.le_of_ble_eq_true rfl)
    (case vL => repeat (first | exact .nil | refine .cons ⟨_, rfl⟩ ?_))
    (case gZ => k_is)
    (case lZ => k_is)
    (case cZ => exact rfl)
    (case dZ => exact rfl)
    (case zZ => exact Nat.le_of_ble_eq_true rfl)
    (case vZ => repeat (first | exact .nil | refine .cons ⟨_, rfl⟩ ?_))
    (case gC => k_is)
    (case pg => kernel_rfl)
    (case hd => k_is)
    (case po => kernel_rfl)
    (case sa => k_is)
    (case mk => kernel_rfl)
    (case kC => k_is)
    (case na_lines => k_is)
    (case na_rows => k_is)
    (case na_coming => k_is)
    (case na_budget => k_is)
    (case na_at => k_is)
    (case na_numbers => k_is)
    (case na_heard => k_is)
    (case na_done => k_is)
    (case na_ended => k_is)
    (case q_init => walk_at "y")
    (case q_frame => walk_at "y")
    (case q_worth => walk_at "y")
    (case q_node_worth => walk_at "y")
    (case q_is_so => walk_at "y")
    (case q_which => walk_at "y")
    (case q_go_on => walk_at "y")
    (case q_pass_asks => walk_at "y")
    (case q_row => walk_at "y")
    (case q_place => walk_at "y")
    (case q_failed_look => walk_at "y")
    (case q_ending => walk_at "y")
    (case q_result => walk_at "y")
    (case q_do => walk_at "y")
    (case q_step => walk_at "y")
    (case q_told => walk_at "y")
