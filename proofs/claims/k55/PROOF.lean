import PyProof.Rows.All
import Wide.All
import OpenK.AllK
import Wide.FinOn
import Lean
import PyProof.EqAt
import PyProof.EqKinds
import PyProof.TupleCall
import PyProof.NeKinds
import PySem.Challenge.RW_lookspare_k55_guesses
set_option Elab.async false
set_option linter.all false
set_option maxRecDepth 100000
set_option maxHeartbeats 4000000
noncomputable section
noncomputable section
def ar:=@PySem.wpAny_bind
def bJ:=@Nat.le_of_ble_eq_true
abbrev aL:=PySem.W.Frag
def cB:=@PySem.Heap.get?_push_of_some
def cL:=@List.getElem?_eq_getElem
def aO:=@PySem.wpAny_pure
def bL:=@List.length_map
def dJ:=@List.getElem?_eq_some_iff
def bH:=@Nat.le_refl
def dE:=@List.length_append
def dY:=@Array.length_toList
def eN:=@Bool.false_ne_true
def cG:=@PySem.Heap.lt_size
def iG:=@Array.getElem?_eq_getElem
def fB:=@PySem.Heap.get?_push_size
def cH:=@Nat.ne_of_lt
def dH:=@List.map_append
def ff:=@List.size_toArray
def fS:=@List.mem_singleton
def iI:=@Array.getElem?_toList
def gD:=@Bool.false_eq_true
def gC:=@List.mem_cons_self
def d0:=@List.mem_cons
def jd:=@List.mem_cons_of_mem
def bV:=@PyProof.Rows.wpS_bind
def gh:=@List.not_mem_nil
def gx:=@List.length_take
def fY:=@List.mem_append
def g6:=@List.getElem?_map
def iD:=@List.append_assoc
def dI:=@Nat.zero_le
def eW:=@List.mem_map
def cC:=@PyProof.Rows.wpS_pure
def nB:=@PySem.F.plainAttrs_list
def gp:=@decide_eq_true
def iK:=@decide_eq_false
def nv:=@List.length_singleton
def jV:=@of_decide_eq_true
def jU:=@List.length_cons
def kU:=@Nat.lt_of_lt_of_le
def jL:=@List.append_nil
def ue:=@List.getElem?_append_right
def iA:=@PySem.wpAny_holding
def oY:=@List.mem_of_getElem?
def kX:=@List.take_add_one
def kY:=@List.length_range
def tR:=@PySem.F.slot_list_append
def tS:=@PySem.F.type_list_append
def lD:=@PySem.wpAny_call_entry
def iU:=@List.map_cons
def mw:=@List.take_length
def xB:=@List.getElem?_append_left
def wJ:=@PySem.wpAny_callSpecial?_slot
def uD:=@List.mem_append_right
def vN:=@PySem.Heap.get?_update_other
def uj:=@List.mem_append_left
def zz:=@Array.getElem?_eq_some_iff
def qU:=@Int.toNat_natCast
def qV:=@PySem.wpAny_newObj_type
def wk:=@PySem.Around.under_plainId
def kC:=@Nat.le_trans
def xZ:=@PySem.Heap.get?_update_self
def pL:=@Option.some.inj
def yE:=@List.take_of_length_le
def uY:=@PySem.W.mg_none_of
def xo:=@List.pairwise_append
def Bx:=@Classical.byContradiction
def yD:=@List.getElem?_eq_none
def qW:=@PySem.PassesOwn.never
def x9:=@Array.toList_append
def fO:=@if_false
def yM:=@List.perm_append_comm
def Bp:=@List.length_filter_le
def yG:=@PySem.mem_of_lookup
def yB:=@PySem.Heap.SameBut.update
def mP:=@PySem.sizeLine_eq
def wN:=@List.getElem_mem
def yF:=@PySem.Obj.data_mapFields
def ug:=@PySem.codeAny_builtin
def tT:=@List.mem_range
def ny:=@PySem.wpAny_field
def tQ:=@PySem.boot_len
def Eu:=@PyProof.Rows.callWith_type1
def vT:=@List.nodup_cons
def FX:=@PyProof.Rows.slot_tuple_getitem
def Ar:=@Nat.lt_of_le_of_lt
def C4:=@List.take_append_drop
def BQ:=@List.mem_iff_getElem?
def BE:=@beq_eq_false_iff_ne
def xD:=@PySem.W.kia_one
def xq:=@List.length_nil
def tH:=@PyProof.Rows.wpS_forRange
def DT:=@PyProof.Rows.boot_int
def BD:=@PySem.wpAny_setState_of
def vm:=@Nat.le_of_lt
def vi:=@PySem.wpAny_typeOf
def CQ:=@List.pairwise_cons
def B1:=@Option.toList_some
def Ax:=@PySem.wpAny_specialOf
def yx:=@PySem.Heap.size_push
def FY:=@List.pairwise_iff_getElem
def BB:=@Nat.min_le_right
def BC:=@List.lookup_cons
def xJ:=@PySem.plainId_quiet
def BH:=@decide_eq_decide
def E3:=@PySem.builtinLookup_eq_fast
def AJ:=@PySem.wpAny_seqItems
def Dz:=@Array.forIn_toList
def DM:=@PySem.wpAny_setField_rec
def yz:=@PySem.wpAny_attempt
def DS:=@List.filter_append
def sT:=@PySem.wpAny_rule
def Cy:=@PySem.wpAny_isInstance
def F0:=@Array.getElem?_eq_none
def tU:=@PySem.wpAny_mono
def DK:=@PySem.wpAny_truthy_bool
def Eb:=@List.replicate_succ
def DX:=@Nat.lt_succ_of_lt
def EO:=@PySem.F.plain_extend_loop
def Al:=@Nat.lt_irrefl
def Bw:=@PySem.wpAny_setField
def BG:=@List.take_zero
def FW:=@List.length_replicate
def FV:=@PySem.Obj.isFreed_of_fields
def Ck:=@List.find?_cons
def yC:=@Int.le_of_lt
def E1:=@PySem.wpAny_Call_Name_kw
def Ee:=@List.getElem?_drop
def Fg:=@Array.size_extract
def DI:=@Bool.and_eq_true
def D0:=@beq_self_eq_true
def BA:=@Bool.not_true
def E5:=@PySem.wpAny_pyIter_slot
def Ep:=@Array.toList_push
def DQ:=@List.foldl_cons
def DZ:=@List.forIn_cons
def yA:=@Int.le_refl
def DO:=@PyProof.Rows.get?_update_seq
def pq:=@congrArg
def Fh:=@List.filter_cons
def F1:=@PySem.SeqAt.EqAt.int_int
def FQ:=@PySem.wpAny_pyIter_tuple
abbrev qT:=PySem.FuncData
def CV:=@PyProof.Rows.listUpdate_at
end
namespace L2
def IB.{u,v}{α:Sort u}{κ:Sort v}(Q:κ)(P:α->κ->Prop)(x:α):Prop:=P x Q
def aK.{u,v}{α:Sort u}{κ:Sort v}(Q:κ)(P:α->κ->Prop):Prop:=Exists (IB Q P)
open PySem PySem.Spec PyProof.Rows
variable {H H':Hp}{s s':Shared}{a b C f dx:Addr}{X:Cx}{pos p pos' apos:Pos}{σ:St}{h h' base:Heap}{pins:List (Addr × Obj)}{A:Around}{E Q:Value->Shared->Prop}{x qual name m:Str}{u v:Value}{w:World}{e tg c l:Expr}{P prog:Program}{o:HO}{t' i j n lev:Nat}{op:CmpOp}{es:List Expr}{ps N:List Str}{ta te tl:TE}{xs:List V}{us vs:List Value}{g:TG}{tb:TS}{CX:DJ}{ks y:List D}{d:D}{M:Model}{r:R2}{sp:Sp}{t:TA}{ch fp:List Addr}{body:List Stmt}{mA:Str->Option Value}{g':Array GenState}{d':Drawn}{tc:TT}{lo:Int}{scope:Scope}
abbrev Key:=Sum Int Str
def iQ:Key->Value->Bool
 | .inl k,v=>Value.isInt k v
 | .inr x,v=>Value.isStrOf x v
def CL(w:World):Key->Int
 | .inl k=>hashInt k
 | .inr x=>hashStr w x
theorem bO:∀ {k:Key} {v:Value},iQ k v=true->(∃ i t,k=Sum.inl i/\v=Value.int i t)\/(∃ x t,k=Sum.inr x/\v=Value.str x t)
 | .inl i,v,h=>by
  obtain⟨t,e⟩:=Value.isInt_shape (k:=i) (v:=v) h;exact .inl ⟨i,t,rfl,e⟩
 | .inr x,v,h=>by
  obtain⟨t,e⟩:=Value.isStrOf_shape (x:=x) (v:=v) h;exact .inr ⟨x,t,rfl,e⟩
theorem oN(i:Int)(t:Tok):iQ (.inl i) (.int i t)=true:=by simp[iQ,Value.isInt]
theorem oD(x:Str)(t:Tok):iQ (.inr x) (.str x t)=true:=by simp[iQ,Value.isStrOf]
theorem Eg(a b:Int):decide ((Sum.inl a:Key)=Sum.inl b)=(a == b):=by
 by_cases e:a=b
 ·subst e; simp
 ·have h:¬ (Sum.inl a:Key)=Sum.inl b:=fun q=>e (Sum.inl.inj q)
  rw[iK h];exact (BE.mpr e).symm
theorem Fw(a b:Str):decide ((Sum.inr a:Key)=Sum.inr b)=decide (a=b):=by
 by_cases e:a=b
 ·subst e; simp
 ·have h:¬ (Sum.inr a:Key)=Sum.inr b:=fun q=>e (Sum.inr.inj q)
  rw[iK h,iK e]
theorem D6(a:Int)(b:Str):decide ((Sum.inl a:Key)=Sum.inr b)=false:=iK (fun q=>nomatch q)
theorem FF(a:Str)(b:Int):decide ((Sum.inr a:Key)=Sum.inl b)=false:=iK (fun q=>nomatch q)
def bt(prog:Program)(w:World):PySem.KeyKind prog w Key where
 is:=iQ
 hash:=CL w
 inj:=fun v a b ha hb=>by
  rcases bO ha with ⟨i,t,rfl,rfl⟩ | ⟨x,t,rfl,rfl⟩
  ·rcases bO hb with ⟨j,u,rfl,e⟩ | ⟨y,u,rfl,e⟩
   ·injection e with e1 _; rw[e1]
   ·exact nomatch e
  ·rcases bO hb with ⟨j,u,rfl,e⟩ | ⟨y,u,rfl,e⟩
   ·exact nomatch e
   ·injection e with e1 _; rw[e1]
 byValue:=fun k v h=>by
  rcases bO h with ⟨i,t,rfl,rfl⟩ | ⟨x,t,rfl,rfl⟩ <;> rfl
 pyHash:=fun hv h=>by
  rcases bO hv with ⟨i,t,rfl,rfl⟩ | ⟨x,t,rfl,rfl⟩
  ·exact wpAny_pyHash_int h
  ·exact wpAny_pyHash_str h
 eqBool:=fun hu hv h=>by
  rcases bO hu with ⟨i,t,rfl,rfl⟩ | ⟨x,t,rfl,rfl⟩
  ·rcases bO hv with ⟨j,u,rfl,rfl⟩ | ⟨y,u,rfl,rfl⟩
   ·rw[Eg]at h; exact wpAny_eqBool_int h
   ·rw[D6]at h; exact SeqAt.EqAt.int_str i t y u _ _ _ _ h
  ·rcases bO hv with ⟨j,u,rfl,rfl⟩ | ⟨y,u,rfl,rfl⟩
   ·rw[FF]at h; exact SeqAt.EqAt.str_int x t j u _ _ _ _ h
   ·rw[Fw]at h; exact wpAny_eqBool_str h
 «strs»:=fun k x t v h=>by
  rcases bO h with ⟨i,u,rfl,e⟩ | ⟨y,u,rfl,e⟩
  ·exact nomatch e
  ·injection e with e1 _;subst e1;cases v <;> rfl
theorem sN(prog:Program)(w:World)(i:Int)(t:Tok):(bt prog w).is (.inl i) (.int i t)=true:=oN i t
theorem fC(prog:Program)(w:World)(x:Str)(t:Tok):(bt prog w).is (.inr x) (.str x t)=true:=oD x t
inductive D where
 | non | int (i:Int) | str (x:Str) | tup (ds:List D)
noncomputable instance Jn:DecidableEq D:=fun a b=>Classical.propDecidable (a=b)
structure cU (prog:Program) (w:World) (lev:Nat) where
 is:Heap->D->Value->Prop
 hash:D->Int
 draws:D->Nat
 inj:∀ {h:Heap} {v:Value} {x y:D},is h x v->is h y v->x=y
 keeps:∀ {h h':Heap} {k:D} {v:Value} {d:Addr} {o:Obj} {es ep},is h k v->h.get? d=some o->o.data=.dict es ep->Heap.SameBut d h h'->is h' k v
 pyHash:∀ {A:Around} {E:Value->Shared->Prop} {s:Shared} {k:D} {v:Value} {Q:Int->Shared->Prop},A.units + lev < cLine->is s.heap k v->Q (hash k) { s with toks:=s.toks + draws k }->wpAny (model prog w) A (PySem.pyHash v) Q E s
 eqAt:∀ {A:Around} {s:Shared} {x y:D} {u v:Value},A.units + lev < cLine->is s.heap x u->is s.heap y v->SeqAt.EqAt A s u v (decide (x=y))
 quiet:∀ {A:Around} {E:Value->Shared->Prop} {s:Shared} {k:D} {v:Value} {Q:Bool->Shared->Prop} (n:Nat),lev<=n->is s.heap k v->Q true s->wpAny (model prog w) A (eqIsQuiet n v) Q E s
section
variable (knd:cU prog w lev)
inductive bX (h:Heap):List D->List Value->Prop
 | nil:bX h [] []
 | cons {k:D} {v:Value} {ks:List D} {vs:List Value}:knd.is h k v->bX h ks vs->bX h (k::ks) (v::vs)
def cv(h:Heap)(ks:List D)(a:Addr):Prop:=∃ o items n,h.get? a=some o/\o.cls=.type "tuple"/\o.data=.seq items n/\bX knd h ks items.toList
def w8(ks:List D):Int:=reduceHash (Builtin.Tuple.tupleHashOf (ks.map knd.hash))
def pF(ks:List D):Nat:=(ks.map knd.draws).sum + 1
variable {knd}
theorem cv.typeIs(x:cv knd s.heap ks a):s.TypeIs (.ref a) "tuple":=let ⟨o,_,_,ho,hc,_⟩:=x; ⟨o,ho,hc⟩
theorem bX.inj{x:List D}(hx:bX knd h x vs)(hy:bX knd h y vs):x=y:=by
 induction hx generalizing y with
 | nil=>cases hy; rfl
 | cons h1 _ I=>
  cases hy with
  | cons h2 J=>rw[knd.inj h1 h2,I J]
theorem bX.length{x:List D}(hx:bX knd h x vs):x.length=vs.length:=by
 induction hx with
 | nil=>rfl
 | cons _ _ I=>simp[I]
theorem bX.get{x:List D}(hx:bX knd h x vs)(e:vs[j]?=some v):∃ k,x[j]?=some k/\knd.is h k v:=by
 induction hx generalizing j with
 | nil=>simp at e
 | @cons k u ks us h1 t I=>
  cases j with
  | zero=>cases (show some u=some v from e); exact⟨k,rfl,h1⟩
  | succ j=>exact I e
theorem bX.keeps{d:Addr}{o:Obj}{es ep}(ho:h.get? d=some o)(hd:o.data=.dict es ep)(hs:Heap.SameBut d h h'){x:List D}(hx:bX knd h x vs):bX knd h' x vs:=by
 induction hx with
 | nil=>exact .nil
 | cons h1 _ I=>exact .cons (knd.keeps h1 ho hd hs) I
theorem cv.inj{x:List D}(hx:cv knd h x a)(hy:cv knd h y a):x=y:=by
 obtain⟨o,items,n,Z,_,V,hi⟩:=hx;obtain⟨o',J,n',O,_,I,U⟩:=hy;obtain rfl:o=o':=pL (Z.symm.trans O);rw[V]at I;injection I with h1 _;subst h1;exact hi.inj U
theorem cv.keeps{d:Addr}{o:Obj}{es ep}(x:cv knd h ks a)(ho:h.get? d=some o)(hd:o.data=.dict es ep)(hs:Heap.SameBut d h h'):cv knd h' ks a:=by
 obtain⟨o',items,n,J,U,I,hi⟩:=x;have O:a≠d:=by
  rintro rfl
  obtain rfl:o'=o:=pL (J.symm.trans ho);rw[hd]at I; exact nomatch I
 exact⟨o',items,n,(hs.2 a O).trans J,U,I,hi.keeps ho hd hs⟩
theorem km{Q:Int->Shared->Prop}(hu:A.units + (lev + 1) < cLine)(hk:cv knd s.heap ks a)(h:Q (w8 knd ks) { s with toks:=s.toks + pF knd ks }) :
  wpAny (model prog w) A (PySem.pyHash (.ref a)) Q E s:=by
 have J:=hk.typeIs;obtain⟨o,items,n,V,_,U,hi⟩:=hk;unfold PySem.pyHash
 first | unfold pyHashByItsType | skip
 first | refine ar (wpAny_cRoomFor_or (.inr (by lia)) ?_) | skip
 refine ar (Ax J F.slot_tuple_hash.lookup ?_);show wpAny _ _ (if (some (Value.builtin "tuple.__hash__") == some Value.none)=true then _ else _) Q E s;rw[if_neg (by rw[beq_builtin_none]; exact eN)];refine ar (Ax J F.slot_tuple_hash.lookup ?_);show wpAny _ _ (callSpecialIfBoundUnlessNone? (.ref a) "__hash__" _ >>= _) Q E s;refine ar (wpAny_callSpecialIfBoundUnlessNone?_slot J F.slot_tuple_hash (lD F.slot_tuple_hash J F.entry_tuple_hash ?_ (F.args_tuple_hash_1 _)));show wpAny _ _ (Builtin.Tuple.tupleItemsOf (.ref a) >>= _) _ _ s;refine ar (wpAny_tupleItemsOf V U ?_);refine ar ?_;rw[<-Dz];refine wpAny_forIn_list _
  (fun rest (b:Array Int) s'=>∃ done left,ks=done++left/\bX knd s.heap left rest/\b.toList=done.map knd.hash/\s'={ s with toks:=s.toks + (done.map knd.draws).sum })
  _ ?_ ?_ _ _ ⟨[],ks,rfl,hi,rfl,rfl⟩
 ·rintro x rest b s' ⟨done,left,rfl,hl,hb,rfl⟩
  cases hl with
  | @cons k _ ks' _ h1 O=>
   refine ar (knd.pyHash (by show A.units + 1 + lev < cLine; lia) h1 ?_);exact aO ⟨done++[k],ks',by simp,O,by simp[hb],by simp[Nat.add_assoc]⟩
 ·rintro b s' ⟨done,left,rfl,hl,hb,rfl⟩
  cases hl;rw[jL]at h;show wpAny _ _ (retInt (Builtin.Tuple.tupleHashOf b.toList)) _ _ _;rw[hb];refine wpAny_ret_mkInt ?_;show wpAny _ _ (if (decide (-(2:Int) ^ 63<=Builtin.Tuple.tupleHashOf (done.map knd.hash)) && decide (Builtin.Tuple.tupleHashOf (done.map knd.hash) < 2 ^ 63))=true then _ else _) Q E _;unfold w8 pF reduceHash at h;by_cases I:(decide (-(2:Int) ^ 63<=Builtin.Tuple.tupleHashOf (done.map knd.hash)) && decide (Builtin.Tuple.tupleHashOf (done.map knd.hash) < 2 ^ 63))=true
  ·rw[if_pos I];rw[if_pos I]at h;exact aO (by simpa[Nat.add_assoc] using h)
  ·rw[if_neg I];rw[if_neg I]at h;exact ar (sT (aO (by simpa[Nat.add_assoc] using h)))
theorem oQ{x:List D}(hu:A.units + (lev + 1) < cLine)(hx:cv knd s.heap x a)(hy:cv knd s.heap y b):SeqAt.EqAt A s (.ref a) (.ref b) (decide (x=y)):=by
 by_cases O:a=b
 ·subst O;obtain rfl:=hx.inj hy;rw[gp rfl];exact SeqAt.EqAt.same _
 refine SeqAt.EqAt.of_refs O ?_;obtain⟨o,items,n,f,l,p,hi⟩:=hx;obtain⟨o',I,n',d,Z,c,U⟩:=hy;have R:=SeqAt.RcAt.tuples (A:=A) (s:=s) (e:=fun j=>decide (x[j]?=y[j]?)) (⟨o,f,l,n,p⟩:s.heap.IsTuple a items) (⟨o',d,Z,n',c⟩:s.heap.IsTuple b I) (by lia) (fun j h1 h2=>?_)
 ·have l1:x.length=items.size:=by have:=hi.length; simpa using this
  have l2:y.length=I.size:=by have:=U.length; simpa using this
  have e:((List.range (min items.size I.size)).all (fun j=>decide (x[j]?=y[j]?)) && items.size == I.size)=decide (x=y):=by
   by_cases J:x=y
   ·subst J;rw[gp rfl,DI];exact⟨List.all_eq_true.mpr fun j _=>gp rfl,by simp; lia⟩
   ·rw[iK J,Bool.and_eq_false_iff];by_cases hs:items.size=I.size
    ·refine .inl (Bool.eq_false_iff.mpr fun V=>J (List.ext_getElem? fun j=>?_));rcases Nat.lt_or_ge j items.size with q | q
     ·exact jV (List.all_eq_true.mp V j (tT.mpr (by lia)))
     ·rw[yD (by lia),yD (by lia)]
    ·exact .inr (by simpa using hs)
  rw[<-e];exact R
 ·obtain⟨k1,m,i1⟩:=hi.get (j:=j) (v:=items[j]) (by simp[h1]);obtain⟨k2,i,i2⟩:=U.get (j:=j) (v:=I[j]) (by simp[h2]);have k:=knd.eqAt (A:=A.in1) (by show A.units + 1 + lev < cLine; lia) i1 i2;have g:decide (x[j]?=y[j]?)=decide (k1=k2):=by
   rw[m,i];by_cases h:k1=k2
   ·rw[gp h,gp (by rw[h])]
   ·rw[iK h,iK (fun z=>h (pL z))]
  rw[g];exact k
theorem mY{Q:Bool->Shared->Prop}(n:Nat)(hn:lev<=n)(hk:cv knd s.heap ks a)(h:Q true s):wpAny (model prog w) A (eqIsQuiet (n + 1) (.ref a)) Q E s:=by
 have J:=hk.typeIs;obtain⟨o,items,n',U,_,O,hi⟩:=hk;unfold eqIsQuiet;refine ar (Ax J F.slot_tuple_eq.lookup ?_);show wpAny _ _ (isInstance (.ref a) (.type "tuple") >>= _) _ _ s;refine ar (Cy J isSubtype_tuple_tuple ?_);simp only[BA,gD,fO];refine ar (AJ U O ?_);refine ar ?_;show wpAny _ _ (forIn items _ _) _ _ s;rw[<-Dz];refine wpAny_forIn_list _ (fun rest r s'=>r.1=none/\s'=s/\∃ left,bX knd s.heap left rest) _ ?_ ?_ _ _ ⟨rfl,rfl,_,hi⟩
 ·rintro v rest r s' ⟨hr,rfl,left,hl⟩
  cases hl with
  | @cons k _ ks' _ h1 I=>
   refine ar (knd.quiet n hn h1 ?_);simp only[BA,gD,fO];exact aO ⟨rfl,rfl,_,I⟩
 ·rintro⟨r1,r2⟩ s' ⟨hr,rfl,_⟩
  simp only at hr;subst hr;exact aO h
end
section
variable (prog:Program)(w:World)
def nM:Key->D
 | .inl i=>.int i
 | .inr x=>.str x
def flatIs(d:D)(v:Value):Prop:=∃ k:Key,d=nM k/\iQ k v=true
theorem flatIs.shape(h:flatIs d v):(∃ i t,d=.int i/\v=.int i t)\/∃ x t,d=.str x/\v=.str x t:=by
 obtain⟨k,rfl,h⟩:=h;rcases bO h with ⟨i,t,rfl,rfl⟩ | ⟨x,t,rfl,rfl⟩
 ·exact .inl ⟨i,t,rfl,rfl⟩
 ·exact .inr ⟨x,t,rfl,rfl⟩
def rJ(w:World):D->Int
 | .int i=>CL w (.inl i)
 | .str x=>CL w (.inr x)
 | _=>0
theorem oW{Q:Int->Shared->Prop}(h:flatIs d v)(q:Q (rJ w d) { s with toks:=s.toks + 1 }):wpAny (model prog w) A (PySem.pyHash v) Q E s:=by
 obtain⟨k,rfl,h⟩:=h;have e:rJ w (nM k)=CL w k:=by cases k <;> rfl
 rw[e]at q;exact (bt prog w).pyHash h q
theorem wO{x y:D}(hx:flatIs x u)(hy:flatIs y v):SeqAt.EqAt A s u v (decide (x=y)):=by
 rcases hx.shape with ⟨i,t,rfl,rfl⟩ | ⟨i,t,rfl,rfl⟩ <;> rcases hy.shape with ⟨j,t',rfl,rfl⟩ | ⟨j,t',rfl,rfl⟩
 ·have e:decide (D.int i=D.int j)=decide (i=j):=by
   by_cases h:i=j
   ·rw[gp h,gp (by rw[h])]
   ·rw[iK h,iK (fun z=>h (by injection z))]
  rw[e];exact F1 _ _ _ _
 ·rw[iK (fun z=>nomatch z)];exact SeqAt.EqAt.int_str _ _ _ _
 ·rw[iK (fun z=>nomatch z)];exact SeqAt.EqAt.str_int _ _ _ _
 ·have e:decide (D.str i=D.str j)=decide (i=j):=by
   by_cases h:i=j
   ·rw[gp h,gp (by rw[h])]
   ·rw[iK h,iK (fun z=>h (by injection z))]
  rw[e];exact SeqAt.EqAt.str_str _ _ _ _
theorem sE{x y:D}(hx:flatIs x v)(hy:flatIs y v):x=y:=by
 rcases hx.shape with ⟨i,t,rfl,rfl⟩ | ⟨i,t,rfl,rfl⟩ <;> rcases hy.shape with ⟨j,t',rfl,e⟩ | ⟨j,t',rfl,e⟩
 ·injection e with e1 _; rw[e1]
 ·exact nomatch e
 ·exact nomatch e
 ·injection e with e1 _; rw[e1]
theorem jR(h:flatIs d v):carriedByValue v=true:=by
 rcases h.shape with ⟨i,t,rfl,rfl⟩ | ⟨i,t,rfl,rfl⟩ <;> rfl
def wQ:cU prog w 0 where
 is:=fun _ d v=>flatIs d v
 hash:=rJ w
 draws:=fun _=>1
 inj:=sE
 keeps:=fun h _ _ _=>h
 pyHash:=fun _ h q=>oW prog w h q
 eqAt:=fun _ hx hy=>wO hx hy
 quiet:=fun n _ h q=>by rw[eqIsQuiet_byValue n (jR h)]; exact aO q
variable {prog}{w}(knd:cU prog w lev)
def EM(h:Heap)(d:D)(v:Value):Prop:=flatIs d v\/∃ ds a,d=.tup ds/\v=.ref a/\cv knd h ds a
def DP:D->Int
 | .tup ds=>w8 knd ds
 | d=>rJ w d
def D2:D->Nat
 | .tup ds=>pF knd ds
 | _=>1
theorem uC(h:flatIs d v):DP knd d=rJ w d/\D2 knd d=1:=by
 rcases h.shape with ⟨i,t,rfl,rfl⟩ | ⟨i,t,rfl,rfl⟩ <;> exact⟨rfl,rfl⟩
theorem tup_is{ds:List D}(h:cv knd s.heap ds a):∃ items,s.heap.IsTuple a items:=let ⟨o,items,n,ho,hc,hd,_⟩:=h; ⟨items,o,ho,hc,n,hd⟩
def iP:cU prog w (lev + 1) where
 is:=EM knd
 hash:=DP knd
 draws:=D2 knd
 inj:=fun {h v x y} hx hy=>by
  rcases hx with hx | ⟨ds,a,rfl,rfl,hx⟩ <;> rcases hy with hy | ⟨es,b,rfl,e,hy⟩
  ·exact sE hx hy
  ·rcases hx.shape with ⟨i,t,rfl,rfl⟩ | ⟨i,t,rfl,rfl⟩ <;> exact nomatch e
  ·rcases hy.shape with ⟨i,t,rfl,e⟩ | ⟨i,t,rfl,e⟩ <;> exact nomatch e
  ·injection e with e;subst e;rw[hx.inj hy]
 keeps:=fun h ho hd hs=>h.imp id fun ⟨ds,a,e1,e2,h⟩=>⟨ds,a,e1,e2,h.keeps ho hd hs⟩
 pyHash:=fun {A E s k v Q} hu h q=>by
  rcases h with h | ⟨ds,a,rfl,rfl,h⟩
  ·obtain⟨e1,e2⟩:=uC knd h;rw[e1,e2]at q;exact oW prog w h q
  ·exact km hu h q
 eqAt:=fun {A s x y u v} hu hx hy=>by
  rcases hx with hx | ⟨ds,a,rfl,rfl,hx⟩ <;> rcases hy with hy | ⟨es,b,rfl,rfl,hy⟩
  ·exact wO hx hy
  ·obtain⟨items,p⟩:=tup_is knd hy;rcases hx.shape with ⟨i,t,rfl,rfl⟩ | ⟨i,t,rfl,rfl⟩
   ·rw[iK (fun z=>nomatch z)]; exact SeqAt.EqAt.int_tuple _ _ p (by lia)
   ·rw[iK (fun z=>nomatch z)]; exact SeqAt.EqAt.str_tuple _ _ p (by lia)
  ·obtain⟨items,p⟩:=tup_is knd hx;rcases hy.shape with ⟨i,t,rfl,rfl⟩ | ⟨i,t,rfl,rfl⟩
   ·rw[iK (fun z=>nomatch z)]; exact SeqAt.EqAt.tuple_int _ _ p (by lia)
   ·rw[iK (fun z=>nomatch z)]; exact SeqAt.EqAt.tuple_str _ _ p (by lia)
  ·have e:decide (D.tup ds=D.tup es)=decide (ds=es):=by
    by_cases h:ds=es
    ·rw[gp h,gp (by rw[h])]
    ·rw[iK h,iK (fun z=>h (by injection z))]
   rw[e];exact oQ hu hx hy
 quiet:=fun {A E s k v Q} n hn h q=>by
  rcases h with h | ⟨ds,a,rfl,rfl,h⟩
  ·rw[eqIsQuiet_byValue n (jR h)]; exact aO q
  ·obtain⟨m,rfl⟩:∃ m,n=m + 1:=⟨n - 1,by lia⟩
   exact mY m (by lia) h q
end
def vD(prog:Program)(w:World):cU prog w 3:=iP (iP (iP (wQ prog w)))
def aI(prog:Program)(w:World):HeapKind prog w (List D) where
 is:=cv (vD prog w)
 hash:=w8 (vD prog w)
 draws:=pF (vD prog w)
 room:=fun A=>A.units + 4 < cLine
 inj:=fun hx hy=>hx.inj hy
 keeps:=fun x ho hd hs=>x.keeps ho hd hs
 pyHash:=fun hu hk h=>km hu hk h
 eqBool:=fun {A E s x y a b Q} hu hx hy h=>by
  have:=oQ hu hx hy prog w E Q;have e:@decide (x=y) (instDecidableEqList x y)=@decide (x=y) _:=rfl;exact this (by first | exact h | (rw[e]at h; exact h))
 quiet:=fun hk h=>mY 7 (by decide) hk h
inductive V where
 | non | bl (b:Bool) | int (i:Int) | str (x:Str) | byt (b:Array UInt8) | flt (b:UInt64) | ref (a:Addr) | ty (n:String)
 deriving DecidableEq
def RelV:V->Value->Prop
 | .non,u=>u=Value.none
 | .bl b,u=>u=Value.bool b
 | .int i,u=>∃ t,u=Value.int i t
 | .str x,u=>∃ t,u=Value.str x t
 | .byt b,u=>∃ t,u=Value.bytes b t
 | .flt b,u=>∃ t,u=Value.float b t
 | .ref a,u=>u=Value.ref a
 | .ty n,u=>u=Value.type n
abbrev Vals:List V->List Value->Prop:=Paired RelV
theorem Vals.length(r:Vals xs us):xs.length=us.length:=Paired.length r
theorem Vals.get:∀ {xs:List V} {us:List Value} {i:Nat} {x:V},Vals xs us->xs[i]?=some x->∃ u,us[i]?=some u/\RelV x u
 | _,_,_,_,.nil,e=>by simp at e
 | _,_,0,_,.cons r _,e=>by simp at e; subst e; exact⟨_,rfl,r⟩
 | _,_,i + 1,x,.cons _ t,e=>by
  obtain⟨u,h1,h2⟩:=Vals.get (i:=i) (x:=x) t (by simpa using e);exact⟨u,by simpa using h1,h2⟩
theorem Vals.set{x:V}{u:Value}(r:RelV x u):∀ {xs:List V} {us:List Value} (i:Nat),Vals xs us->Vals (xs.set i x) (us.set i u)
 | _,_,_,.nil=>.nil
 | _,_,0,.cons _ t=>.cons r t
 | _,_,i + 1,.cons q t=>.cons q (Vals.set r i t)
theorem Vals.append:∀ {xs ys:List V} {us ws:List Value},Vals xs us->Vals ys ws->Vals (xs++ys) (us++ws)
 | _,_,_,_,.nil,s=>s
 | _,_,_,_,.cons r t,s=>.cons r (Vals.append t s)
theorem Vals.take:∀ {xs:List V} {us:List Value} (n:Nat),Vals xs us->Vals (xs.take n) (us.take n)
 | _,_,0,_=>.nil
 | _,_,_ + 1,.nil=>.nil
 | _,_,n + 1,.cons r t=>.cons r (Vals.take n t)
theorem Vals.drop:∀ {xs:List V} {us:List Value} (n:Nat),Vals xs us->Vals (xs.drop n) (us.drop n)
 | _,_,0,r=>r
 | _,_,_ + 1,.nil=>.nil
 | _,_,n + 1,.cons _ t=>Vals.drop n t
def kP:Option V->Option Value->Prop
 | some v,some u=>RelV v u
 | none,none=>True
 | _,_=>False
def KV{κ:Type}:List (κ × V)->List (κ × Value)->Prop:=Paired fun (p:κ × V) (q:κ × Value)=>p.1=q.1/\RelV p.2 q.2
def kV:Key->V
 | .inl i=>.int i
 | .inr x=>.str x
inductive HO where
  | lst (xs:List V)
  | tup (xs:List V)
  | dK (kvs:List (Key × V)) | dT (kvs:List (List Key × V)) | dZ (zs:List (Addr × List Key)) (kvs:List (List Key × V)) | dN (zs:List (Addr × List D)) (kvs:List (List D × V))
  | set (S:Int->Bool) (n:Nat)
  | ins (C dx:Addr) (fs:List (Str × V))
  | own (x:Addr)
  | xd (fs:List (Str × V))
  | met (f x:Addr)
  | rng (lo hi:Int)
  | frz (o:Obj) (u:HO)
  | tbl (ps:Array Value)
  | ext (φ:Heap->Prop)
abbrev Hp:=Addr->Option HO
def upd(H:Hp)(a:Addr)(o:HO):Hp:=fun b=>if b=a then some o else H b
theorem ae:upd H a o a=some o:=by unfold upd; rw[if_pos rfl]
theorem aw(h:b≠a):upd H a o b=H b:=by unfold upd; rw[if_neg h]
theorem CY{u:HO}:upd (upd H a o) a u=upd H a u:=by
 funext b; unfold upd; split <;> rfl
theorem fQ{u:HO}(h:H a=some o)(h':H b=some u)(d:o≠u):a≠b:=by
 intro e; subst e; rw[h]at h'; exact d (pL h')
theorem aM(h:H a=some o)(h':H b=none):a≠b:=by
 intro e; subst e; rw[h]at h'; cases h'
mutual
def eK(C:Addr->List D->Prop)(H:Hp):D->V->Prop
 | .non,_=>False
 | .int i,v=>v=.int i
 | .str x,v=>v=.str x
 | .tup ds,v=>∃ b,v=.ref b/\(C b ds\/∃ vs,H b=some (.tup vs)/\dO C H ds vs)
def dO(C:Addr->List D->Prop)(H:Hp):List D->List V->Prop
 | [],vs=>vs=[]
 | d::ds,vs=>∃ v r,vs=v::r/\eK C H d v/\dO C H ds r
end
mutual
theorem eK.mono{C C':Addr->List D->Prop}{H H':Hp}(hc:∀ b ds,C b ds->C' b ds)(ht:∀ b xs,H b=some (.tup xs)->H' b=some (.tup xs)):∀ {d:D} {v:V},eK C H d v->eK C' H' d v
 | .non,_,h=>by unfold eK at h; exact h.elim
 | .int _,_,h=>by unfold eK at h |-; exact h
 | .str _,_,h=>by unfold eK at h |-; exact h
 | .tup ds,_,h=>by
  unfold eK at h |-;obtain⟨b,e,h⟩:=h;refine⟨b,e,?_⟩;rcases h with h | ⟨vs,h1,h2⟩
  ·exact .inl (hc _ _ h)
  ·exact .inr ⟨vs,ht _ _ h1,dO.mono hc ht h2⟩
theorem dO.mono{C C':Addr->List D->Prop}{H H':Hp}(hc:∀ b ds,C b ds->C' b ds)(ht:∀ b xs,H b=some (.tup xs)->H' b=some (.tup xs)):∀ {ds:List D} {vs:List V},dO C H ds vs->dO C' H' ds vs
 | [],_,h=>by unfold dO at h |-; exact h
 | d::ds,_,h=>by
  unfold dO at h |-;obtain⟨v,r,e,p,q⟩:=h;exact⟨v,r,e,eK.mono hc ht p,dO.mono hc ht q⟩
end
def ER(zs:List (Addr × List D))(H:Hp)(ds:List D)(b:Addr):Prop:=eK (fun b ds=>(b,ds)∈zs) H (.tup ds) (.ref b)
section
variable (P:Program)(w:World)
def bW(H:Hp)(h:Heap)(a:Addr):HO->Prop
 | .lst xs=>xs.length<=sizeLine/\∃ (its:List Value) (n:Nat),Vals xs its/\h.get? a=some { cls:=.type "list",data:=.seq its.toArray n }
 | .tup xs=>xs.length<=sizeLine/\∃ its:List Value,Vals xs its/\IsTup h a its.toArray
 | .dK kvs=>kvs.length<=sizeLine/\(a == sysModules)=false/\∃ vs,KV kvs vs/\h.DictOf (bt P w) a vs
 | .dT kvs=>kvs.length<=sizeLine/\(a == sysModules)=false/\∃ xs:List (List Key × Addr × Value),
   Paired (fun (p:List Key × V) (q:List Key × Addr × Value)=>p.1=q.1/\H q.2.1=some (.tup (p.1.map kV))/\RelV p.2 q.2.2) kvs xs/\
   ∃ o es ep,h.get? a=some o/\o.ExactDict/\o.data=.dict es ep/\es.toList=xs.map (entryOfKey (tupleKind (bt P w)))/\(xs.map (·.1)).Nodup
 | .dZ zs kvs=>kvs.length<=sizeLine/\(a == sysModules)=false/\∃ xs:List (List Key × Addr × Value),
   Paired (fun (p:List Key × V) (q:List Key × Addr × Value)=>p.1=q.1/\(H q.2.1=some (.tup (p.1.map kV))\/(q.2.1,p.1)∈zs)/\RelV p.2 q.2.2) kvs xs/\
   ∃ o es ep,h.get? a=some o/\o.ExactDict/\o.data=.dict es ep/\es.toList=xs.map (entryOfKey (tupleKind (bt P w)))/\(xs.map (·.1)).Nodup
 | .dN zs kvs=>kvs.length<=sizeLine/\(a == sysModules)=false/\∃ xs:List (List D × Addr × Value),
   Paired (fun (p:List D × V) (q:List D × Addr × Value)=>p.1=q.1/\ER zs H p.1 q.2.1/\RelV p.2 q.2.2) kvs xs/\
   ∃ o es ep,h.get? a=some o/\o.ExactDict/\o.data=.dict es ep/\es.toList=xs.map (entryOfKey (aI P w))/\(xs.map (·.1)).Nodup
 | .set S n=>h.SetOf (intKind P w) a S n
 | .ins C dx fs=>H dx=some (.own a)/\fs.length<=1000/\dx≠a/\h.get? a=some (PySem.W.instObj C dx)/\
   ∃ mA,h.Ns1 dx mA/\(∀ f,kP (fs.lookup f) (mA f))/\PySem.Within mA (fs.map (·.1))
 | .own _=>∃ o,h.get? a=some o
 | .xd fs=>∃ mA,h.Ns1 a mA/\∀ f,kP (fs.lookup f) (mA f)
 | .rng lo hi=>∃ t u v,h.get? a=some { cls:=.type "range",data:=.fields #[.int lo t,.int hi u,.int 1 v] }
 | .frz o u=>h.get? a=some o/\bW H h a u
 | .tbl ps=>h.get? a=some { cls:=.none,data:=.fields ps }
 | .met f x=>h.get? a=some (PySem.W.methodObj (.ref f) (.ref x))
 | .ext φ=>φ h/\(∃ o,h.get? a=some o)/\∀ h1 h2:Heap,φ h1->(∀ o,h1.get? a=some o->h2.get? a=some o)->φ h2
def gR(H:Hp)(h:Heap):Prop:=∀ a o,H a=some o->bW P w H h a o
end
theorem bW.lt(x:bW P w H h a o):a < h.objs.size:=by
 cases o with
 | lst xs=>obtain⟨_,_,_,_,e⟩:=x; exact cG e
 | tup xs=>obtain⟨_,_,_,p⟩:=x; exact p.lt
 | dK kvs=>obtain⟨_,_,_,_,o,_,_,e,_⟩:=x; exact cG e
 | dT kvs=>obtain⟨_,_,_,_,o,_,_,e,_⟩:=x; exact cG e
 | dZ zs kvs=>obtain⟨_,_,_,_,o,_,_,e,_⟩:=x; exact cG e
 | dN zs kvs=>obtain⟨_,_,_,_,o,_,_,e,_⟩:=x; exact cG e
 | set S n=>obtain⟨o,_,_,_,e,_⟩:=x; exact cG e
 | ins C dx fs=>obtain⟨_,_,_,e,_⟩:=x; exact cG e
 | own y=>obtain⟨_,e⟩:=x; exact cG e
 | xd fs=>obtain⟨_,⟨_,_,_,e,_⟩,_⟩:=x; exact cG e
 | rng lo hi=>obtain⟨_,_,_,e⟩:=x; exact cG e
 | frz I u=>obtain⟨e,_⟩:=x; exact cG e
 | tbl ps=>exact cG (show h.get? a=some _ from x)
 | met f y=>exact cG (show h.get? a=some _ from x)
 | ext φ=>obtain⟨_,⟨_,e⟩,_⟩:=x; exact cG e
theorem Paired.kN{α β:Type}{F G:α->β->Prop}:∀ {l₁:List α} {l₂:List β},Paired F l₁ l₂->(∀ a b,F a b->G a b)->Paired G l₁ l₂
 | _,_,.nil,_=>.nil
 | _,_,.cons r t,f=>.cons (f _ _ r) (Paired.kN t f)
theorem bW.nI(x:bW P w H h a o)(k:∀ b u,(b=a\/H b=some (.own a))->h.get? b=some u->h'.get? b=some u)
  (ho:∀ b,H b=some (.own a)->H' b=some (.own a)) (ht:∀ b xs,H b=some (.tup xs)->H' b=some (.tup xs)):bW P w H' h' a o:=by
 induction o with
 | lst xs=>obtain⟨z,its,n,r,e⟩:=x; exact⟨z,its,n,r,k _ _ (.inl rfl) e⟩
 | tup xs=>obtain⟨z,its,r,I,e,c⟩:=x; exact⟨z,its,r,I,k _ _ (.inl rfl) e,c⟩
 | dK kvs=>obtain⟨z,y,vs,r,I,es,ep,e,c⟩:=x; exact⟨z,y,vs,r,I,es,ep,k _ _ (.inl rfl) e,c⟩
 | dT kvs=>
  obtain⟨z,y,xs,r,I,es,ep,e,c⟩:=x;exact⟨z,y,xs,Paired.kN r fun p q z=>⟨z.1,ht _ _ z.2.1,z.2.2⟩,I,es,ep,k _ _ (.inl rfl) e,c⟩
 | dZ zs kvs=>
  obtain⟨z,y,xs,r,I,es,ep,e,c⟩:=x;exact⟨z,y,xs,Paired.kN r fun p q z=>⟨z.1,z.2.1.imp (ht _ _) id,z.2.2⟩,I,es,ep,k _ _ (.inl rfl) e,c⟩
 | dN zs kvs=>
  obtain⟨z,y,xs,r,I,es,ep,e,c⟩:=x;exact⟨z,y,xs,Paired.kN r fun p q z=>⟨z.1,eK.mono (fun _ _ h=>h) ht z.2.1,z.2.2⟩,I,es,ep,k _ _ (.inl rfl) e,c⟩
 | set S n=>obtain⟨I,es,ep,t,e,c⟩:=x; exact⟨I,es,ep,t,k _ _ (.inl rfl) e,c⟩
 | ins C dx fs=>
  obtain⟨d,z,U,e,mA,⟨od,es,ep,J,c⟩,r⟩:=x;exact⟨ho _ d,z,U,k _ _ (.inl rfl) e,mA,⟨od,es,ep,k _ _ (.inr d) J,c⟩,r⟩
 | own y=>obtain⟨I,e⟩:=x; exact⟨I,k _ _ (.inl rfl) e⟩
 | xd fs=>obtain⟨mA,⟨od,es,ep,e,c⟩,r⟩:=x; exact⟨mA,⟨od,es,ep,k _ _ (.inl rfl) e,c⟩,r⟩
 | rng lo hi=>obtain⟨t,u,v,e⟩:=x; exact⟨t,u,v,k _ _ (.inl rfl) e⟩
 | frz I u O=>obtain⟨e,q⟩:=x; exact⟨k _ _ (.inl rfl) e,O q⟩
 | tbl ps=>
  have e:h.get? a=some { cls:=.none,data:=.fields ps }:=x;show h'.get? a=some { cls:=.none,data:=.fields ps };exact k a _ (.inl rfl) e
 | met f y=>
  have e:h.get? a=some (PySem.W.methodObj (.ref f) (.ref y)):=x;show h'.get? a=some (PySem.W.methodObj (.ref f) (.ref y));exact k a _ (.inl rfl) e
 | ext φ=>obtain⟨p,⟨o,e⟩,st⟩:=x; exact⟨st _ _ p fun o q=>k _ _ (.inl rfl) q,⟨o,k _ _ (.inl rfl) e⟩,st⟩
theorem gR.lt(x:gR P w H h)(e:H a=some o):a < h.objs.size:=(x a o e).lt
theorem gR.fresh(x:gR P w H h)(e:h.objs.size<=a):H a=none:=by
 cases q:H a with
 | none=>rfl
 | some u=>exact absurd (kU (x.lt q) e) (Al _)
theorem gR.kept(x:gR P w H h)(k:∀ b u,h.get? b=some u->h'.get? b=some u):gR P w H h':=fun a o e=>
 (x a o e).nI (fun b u _ q=>k b u q) (fun _ q=>q) fun _ _ q=>q
theorem gR.laid(x:gR P w H h)(k:∀ b u,h.get? b=some u->h'.get? b=some u)(hp:h.objs.size<=a)(new:bW P w (upd H a o) h' a o):gR P w (upd H a o) h':=fun b u e=>by
 have J:=x.fresh hp;by_cases I:b=a
 ·subst I; rw[ae]at e; cases e; exact new
 ·rw[aw I]at e;exact (x b u e).nI (fun c v _ q=>k c v q) (fun c q=>by rw[aw (aM q J)]; exact q) fun c xs q=>by rw[aw (aM q J)]; exact q
def Rd(H:Hp)(a:Addr)(u:HO):Prop:=H a=some u\/∃ o,H a=some (.frz o u)
theorem Rd.of{u:HO}(h:H a=some u):Rd H a u:=.inl h
theorem Rd.ok{u:HO}(r:Rd H a u)(x:gR P w H h):bW P w H h a u:=by
 rcases r with r | ⟨o,r⟩
 ·exact x a u r
 ·obtain⟨_,q⟩:=x a _ r;exact q
def Gq:Option HO->Prop
 | some (.lst _)=>True
 | some (.dK _)=>True
 | some (.dT _)=>True
 | some (.dZ _ _)=>True
 | some (.dN _ _)=>True
 | some (.set _ _)=>True
 | some (.ins _ _ _)=>True
 | some (.ext _)=>True
 | _=>False
section
variable {x e:Addr}{o':HO}
theorem gR.write(ok:gR P w H h)(mu:Gq (H x))(he:e=x\/H e=some (.own x))(k:∀ b u,b≠e->h.get? b=some u->h'.get? b=some u)(heo:∃ u,h'.get? e=some u)
  (new:bW P w (upd H x o') h' x o'):gR P w (upd H x o') h':=fun b u q=>by
 have J:∀ c y,H c=some (.own y)->c≠x:=fun c y r z=>by subst z; rw[r]at mu; exact mu
 have O:∀ c xs,H c=some (.tup xs)->c≠x:=fun c xs r z=>by subst z; rw[r]at mu; exact mu
 by_cases U:b=x
 ·subst U; rw[ae]at q; cases q; exact new
 ·rw[aw U]at q;by_cases I:b=e
  ·have Z:H b=some (.own x):=by
    rcases he with z | z
    ·exact absurd (I.trans z) U
    ·rw[I]; exact z
   rw[q]at Z; cases Z;obtain⟨v,a⟩:=heo;exact⟨v,by rw[I]; exact a⟩
  ·refine (ok b u q).nI (fun c v V r=>k c v ?_ r) (fun c r=>by rw[aw (J c b r)]; exact r) fun c xs r=>by rw[aw (O c xs r)]; exact r
   rcases V with rfl | V
   ·exact I
   ·rintro rfl
    rcases he with z | z
    ·exact J c b V z
    ·rw[V]at z; cases z; exact U rfl
end
structure Un (fs ex:List Addr) (H H':Hp) (h h':Heap):Prop where
 keep:∀ b o,h.get? b=some o->H b=none->b∉fs->b∉ex->h'.get? b=some o
 slot:∀ b o,h.get? b=some o->H b=none->b∈fs->b∉ex->∃ sl,h'.get? b=some { o with slots:=sl }
 free:∀ b o,h.get? b=some o->H b=none->b∉ex->H' b=none
 there:∀ b o,h.get? b=some o->b∉ex->∃ o',h'.get? b=some o'
 aA:∀ b xs,H b=some (.tup xs)->H' b=some (.tup xs)
 frzs:∀ b o u,H b=some (.frz o u)->H' b=some (.frz o u)
 tbls:∀ b ps,H b=some (.tbl ps)->∃ more,H' b=some (.tbl (ps++more))
section
variable {fs fs' ex ex':List Addr}{H1 H2:Hp}{h1 h2:Heap}{x e:Addr}
theorem Un.any(u:Un fs ex H H1 h h1){ob:Obj}(q:h.get? b=some ob)(n:H b=none)(hx:b∉ex):∃ sl,h1.get? b=some { ob with slots:=sl }:=by
 by_cases I:b∈fs
 ·exact u.slot b ob q n I hx
 ·exact⟨ob.slots,u.keep b ob q n I hx⟩
theorem Un.kept(k:∀ b u,h.get? b=some u->h'.get? b=some u):Un fs ex H H h h':=
 ⟨fun b I q _ _ _=>k b I q,fun b I q _ _ _=>⟨I.slots,k b I q⟩,fun _ _ _ n _=>n,fun b I q _=>⟨I,k b I q⟩,fun _ _ q=>q,fun _ _ _ q=>q,fun _ ps q=>⟨#[],by rw[q]; simp⟩⟩
theorem Un.refl:Un fs ex H H h h:=Un.kept fun _ _ q=>q
theorem Un.laid(k:∀ b u,h.get? b=some u->h'.get? b=some u)(hp:h.objs.size<=a)(hn:H a=none):Un fs ex H (upd H a o) h h' where
 keep:=fun b u q _ _ _=>k b u q
 slot:=fun b u q _ _ _=>⟨u.slots,k b u q⟩
 free:=fun b u q n _=>by rw[aw (cH (kU (cG q) hp))]; exact n
 there:=fun b u q _=>⟨u,k b u q⟩
 aA:=fun b xs q=>by rw[aw (aM q hn)]; exact q
 frzs:=fun b u xs q=>by rw[aw (aM q hn)]; exact q
 tbls:=fun b ps q=>⟨#[],by rw[aw (aM q hn),q]; simp⟩
theorem Un.write(mu:Gq (H x))(he:e=x\/H e=some (.own x))(k:∀ b u,b≠e->h.get? b=some u->h'.get? b=some u)(heo:∃ u,h'.get? e=some u):Un fs ex H (upd H x o) h h':=by
 have U:∀ b,H b=none->b≠x:=fun b n z=>by subst z; rw[n]at mu; exact mu
 have O:∀ b,H b=none->b≠e:=fun b n z=>by
  subst z;rcases he with r | r
  ·exact U b n r
  ·rw[n]at r; cases r
 have J:∀ b u,H b=some u->¬ Gq (some u)->b≠x:=fun b u q nm z=>by subst z; rw[q]at mu; exact nm mu
 refine⟨fun b u q n _ _=>k b u (O b n) q,fun b u q n _ _=>⟨u.slots,k b u (O b n) q⟩,fun b u q n _=>by rw[aw (U b n)]; exact n,fun b u q _=>?_,
  fun b xs q=>by rw[aw (J b _ q fun z=>z)]; exact q,fun b u xs q=>by rw[aw (J b _ q fun z=>z)]; exact q,fun b ps q=>⟨#[],by rw[aw (J b _ q fun z=>z),q]; simp⟩⟩
 by_cases I:b=e
 ·subst I; exact heo
 ·exact⟨u,k b u I q⟩
end
def Hz(h:Heap)(H:Hp):List Addr:=(List.range h.objs.size).filter fun a=>(H a).isSome
def pU(h:Heap)(H:Hp):Heap:=PySem.W.hideAll h (Hz h H)
theorem yg(h:Heap)(H:Hp):(pU h H).objs.size=h.objs.size:=PySem.W.hideAll_size _ _
theorem yI{o:Obj}(e:h.get? b=some o)(n:H b=none):(pU h H).get? b=some o:=
 PySem.W.hideAll_get _ e fun I=>by
  have q:(H b).isSome=true:=(List.mem_filter.mp I).2;rw[n]at q; simp at q
theorem Dd{o:Obj}(e:(pU h H).get? b=some o):h.get? b=some o/\H b=none:=by
 have I:h.get? b=some o:=PySem.W.of_hideAll (Hz h H) e;refine⟨I,?_⟩;cases q:H b with
 | none=>rfl
 | some x=>
  have J:b∈Hz h H:=List.mem_filter.mpr ⟨tT.mpr (cG I),by simp[q]⟩;have z:(pU h H).get? b=none:=PySem.W.hideAll_none (Hz h H) J;rw[z]at e; cases e
def CD(g h:Heap)(L:Addr):List (Addr × Obj):=(List.range h.objs.size).filterMap fun a=>if a=L\/(g.get? a).isSome=true then none else (h.get? a).map fun o=>(a,o)
def rest(g h:Heap)(L d:Addr):List (Addr × Obj):=(CD g h L).filter fun p=>decide (p.1≠d)
structure Mod (K:aL) (mg:Str->Option Value) (base:Heap):Prop where
 kin:K.In base
 glob:base.Ns mainGlobals mg
 blt:∃ mb,base.Ns builtinsNs mb/\∀ x:Str,x≠"__name__"->mb x=bootBuiltins x
 nolimit:base.NoLimit
structure Cx where
 prog:Program
 w:World
 K:aL
 mg:Str->Option Value
 base:Heap
 A:Around
 N:List Str
 s₀:Shared
 H₀:Hp
 env:Env
 outer:List Env
 stack:List Env
 ex:List Addr
 fn:Str->Bool
 calm:Bool
 pn:List (Addr × Obj)
 xe:Value->Shared->Prop
def w6(l:List Env):List Addr:=l.filterMap (·.frame)
abbrev Cx.fs(X:Cx):List Addr:=w6 X.outer
def HQ(sc:Scope)(x:Str):Prop:=sc.names.lookup x=some .local\/sc.names.lookup x=some .cell\/sc.names.lookup x=some .free
def Loc(sc:Scope)(x:Str):Prop:=sc.names.lookup x=some .local\/sc.names.lookup x=some .cell
def Look(env:Env)(h:Heap)(m:Str->Option Value)(x:Str)(u:Value):Prop:=
 (env.kindOf x=some .local/\m x=some u)\/((env.kindOf x=some .cell\/env.kindOf x=some .free)/\∃ c,env.cells.lookup x=some c/\h.IsCell c (some u))
structure Cx.Ok (X:Cx):Prop where
 mod:Mod X.K X.mg X.base
 kind:X.env.scope.kind=.function
 glob:X.env.globals=mainGlobals
 blt:X.env.builtins=builtinsNs
 above:X.s₀.heap.objs.size<=X.env.locals
 inj:∀ x y c,X.env.cells.lookup x=some c->X.env.cells.lookup y=some c->x=y
 has:∀ x,(X.env.kindOf x=some .cell\/X.env.kindOf x=some .free)->∃ c,X.env.cells.lookup x=some c
 cab:∀ x c,X.fn x=true->X.env.cells.lookup x=some c->X.s₀.heap.objs.size<=c
 hd:X.calm=true->X.A.handled=none
 frames:X.A.frames=some X.stack
 stk:X.stack=X.outer\/(X.stack=X.env::X.outer/\X.env.frame=some X.env.locals)
 exf:∀ b∈X.ex,b≠X.env.locals/\∀ x c,X.env.cells.lookup x=some c->c≠b
 bs:∀ b o,X.base.get? b=some o->X.s₀.heap.get? b=some o/\X.H₀ b=none
 bsz:X.base.objs.size<=X.s₀.heap.objs.size
 noex:∀ b o,X.base.get? b=some o->b∉X.ex
 exfs:∀ b∈X.ex,b∉X.fs
 kL:X.s₀.heap.FunFrames X.base X.outer
 frf:∀ b∈X.fs,X.H₀ b=none
structure Inv (X:Cx) (pins:List (Addr × Obj)) (σ:List (Option V)) (H:Hp) (s:Shared):Prop where
 ok:X.Ok
 os:s.os=X.s₀.os
 bare:AllBare s.gens
 base:Un X.fs X.ex X.H₀ H X.s₀.heap s.heap
 loc:∃ m,s.heap.Ns X.env.locals m/\∀ (i:Nat) (x:Str) (v:V),X.N[i]?=some x->σ[i]?=some (some v)->HQ X.env.scope x->∃ u,RelV v u/\Look X.env s.heap m x u
 cell:∀ x c,X.env.cells.lookup x=some c->∃ v,s.heap.IsCell c v
 free:H X.env.locals=none
 freeC:∀ x c,X.env.cells.lookup x=some c->H c=none
 pin:∀ p∈X.pn++pins,s.heap.get? p.1=some p.2/\H p.1=none/\p.1≠X.env.locals/\p.1∉X.fs/\∀ v,p.2.data≠.cell v
 hok:gR X.prog X.w H s.heap
 len:σ.length=X.N.length
section
variable {σ:List (Option V)}
theorem Cx.Ok.Il(ok:X.Ok){o:Obj}(e:X.base.get? b=some o):b∉X.fs:=fun I=>by
 have:=(ok.kL.mem I).1;rw[e]at this; cases this
theorem Inv.bs(I:Inv X pins σ H s):∀ b o,X.base.get? b=some o->s.heap.get? b=some o/\H b=none:=fun b o e=>
 ⟨I.base.keep b o (I.ok.bs b o e).1 (I.ok.bs b o e).2 (I.ok.Il e) (I.ok.noex b o e),I.base.free b o (I.ok.bs b o e).1 (I.ok.bs b o e).2 (I.ok.noex b o e)⟩
theorem Inv.bk(I:Inv X pins σ H s):∀ b o,X.base.get? b=some o->s.heap.get? b=some o:=fun b o e=>(I.bs b o e).1
theorem Inv.mod(I:Inv X pins σ H s):Mod X.K X.mg X.base:=I.ok.mod
theorem Inv.oS(I:Inv X pins σ H s):X.K.In s.heap:=I.ok.mod.kin.keeps I.bk
theorem Inv.fr(I:Inv X pins σ H s):∃ m,Fr X.base X.env.locals s.heap m:=
 let ⟨m,hn,_⟩:=I.loc
 ⟨m,hn,I.bk,kC I.ok.bsz I.ok.above⟩
theorem Inv.lt(I:Inv X pins σ H s):X.env.locals < s.heap.objs.size:=let ⟨_,hn,_⟩:=I.loc; hn.lt
theorem Inv.sz(I:Inv X pins σ H s):X.s₀.heap.objs.size<=s.heap.objs.size:=kC I.ok.above (vm I.lt)
theorem Inv.IK(I:Inv X pins σ H s)(h:s.heap.objs.size<=a):a∉X.fs:=fun O=>by
 obtain⟨_,o,J,_⟩:=I.ok.kL.mem O;exact absurd (kU (cG J) (kC I.sz h)) (Al _)
theorem Inv.EZ(I:Inv X pins σ H s):∀ x c,X.env.cells.lookup x=some c->c≠X.env.locals:=fun x c e z=>by
 obtain⟨v,o,V,U⟩:=I.cell x c e;obtain⟨m,⟨o',es,ep,J,O,_⟩,_⟩:=I.loc;rw[z,J]at V; cases V; rw[O]at U; cases U
theorem Inv.kL(I:Inv X pins σ H s):s.heap.FunFrames X.base X.outer:=by
 have all:∀ (l:List Env),(∀ b∈w6 l,b∈X.fs)->X.s₀.heap.FunFrames X.base l->s.heap.FunFrames X.base l:=by
  intro l
  induction l with
  | nil=>intro _ _; trivial
  | cons env r g=>
   intro hs f;obtain⟨a,⟨L,o,J,Z,V,d⟩,c⟩:=f;have U:L∈X.fs:=hs L (by unfold w6; rw[List.filterMap_cons,J]; exact gC);obtain⟨sl,e⟩:=I.base.slot L o V (I.ok.frf L U) U fun z=>I.ok.exfs L z U
   exact⟨a,⟨L,_,J,Z,e,d⟩,g (fun b O=>hs b (by unfold w6; rw[List.filterMap_cons,J]; exact jd _ O)) c⟩
 exact all X.outer (fun _ O=>O) I.ok.kL
theorem Inv.stack(I:Inv X pins σ H s):s.heap.FunFrames X.base X.stack:=by
 rcases I.ok.stk with e | ⟨e,J⟩
 ·rw[e]; exact I.kL
 ·rw[e];obtain⟨m,O,_⟩:=I.loc;refine .cons (by rw[I.ok.kind]; decide) J O ?_ I.kL;exact Heap.get?_none_of_le (kC I.ok.bsz I.ok.above)
theorem Inv.qd(I:Inv X pins σ H s):∀ b∈w6 X.stack,b∈X.env.locals::X.fs:=fun b J=>by
 rcases I.ok.stk with e | ⟨e,O⟩
 ·rw[e]at J; exact jd _ J
 ·rw[e]at J;unfold w6 at J;rw[List.filterMap_cons,O]at J;exact J
theorem Inv.vR(I:Inv X pins σ H s):∀ b∈w6 X.stack,H b=none:=fun b J=>by
 rcases d0.mp (I.qd b J) with e | J
 ·rw[e]; exact I.free
 ·obtain⟨_,o,O,_⟩:=I.ok.kL.mem J;exact I.base.free b o O (I.ok.frf b J) fun z=>I.ok.exfs b z J
theorem Inv.step(I:Inv X pins σ H s)
  (hch:∀ b∈ch,(b∈X.ex\/X.s₀.heap.objs.size<=b)/\b≠X.env.locals/\(∀ x c,X.env.cells.lookup x=some c->c≠b)/\∀ p∈X.pn++pins,p.1≠b)
  (keep:∀ b o,b≠X.env.locals->b∉X.fs->b∉ch->s.heap.get? b=some o->H b=none->h'.get? b=some o)
  (slot:∀ b o,b≠X.env.locals->b∈X.fs->b∉ch->s.heap.get? b=some o->H b=none->∃ sl,h'.get? b=some { o with slots:=sl }) (free:∀ b o,b∉ch->s.heap.get? b=some o->H b=none->H' b=none)
  (there:∀ b o,b∉ch->s.heap.get? b=some o->∃ o',h'.get? b=some o')
  (aA:∀ b xs,H b=some (.tup xs)->H' b=some (.tup xs)) (frzs:∀ b o u,H b=some (.frz o u)->H' b=some (.frz o u)) (tbls:∀ b ps,H b=some (.tbl ps)->∃ more,H' b=some (.tbl (ps++more)))
  (ns:∀ m,s.heap.Ns X.env.locals m->h'.Ns X.env.locals m) (hok:gR X.prog X.w H' h') (hg:AllBare g') :
  Inv X pins σ H' { s with heap:=h',gens:=g',drawn:=d',toks:=t' }:=by
 have h:∀ b o,X.s₀.heap.get? b=some o->b≠X.env.locals:=fun b o e=>cH (kU (cG e) I.ok.above)
 have V:∀ b o,X.s₀.heap.get? b=some o->b∉X.ex->b∉ch:=fun b o e J a=>by
  rcases (hch b a).1 with z | z
  ·exact J z
  ·exact absurd (kU (cG e) z) (Al _)
 have O:∀ x c,X.env.cells.lookup x=some c->∀ v,s.heap.IsCell c v->h'.IsCell c v:=fun x c e v ⟨o,f,j⟩=>by
  have U:c∉ch:=fun z=>(hch c z).2.2.1 x c e rfl
  by_cases B:c∈X.fs
  ·obtain⟨sl,q⟩:=slot c o (I.EZ x c e) B U f (I.freeC x c e);exact⟨_,q,j⟩
  ·exact⟨o,keep c o (I.EZ x c e) B U f (I.freeC x c e),j⟩
 refine⟨I.ok,I.os,hg,⟨fun b o e n a J=>?_,fun b o e n a J=>?_,fun b o e n J=>?_,fun b o e J=>?_,fun b xs e=>aA b xs (I.base.aA b xs e),fun b o xs e=>frzs b o xs (I.base.frzs b o xs e),fun b ps e=>?_⟩,?_,fun x c e=>?_,?_,fun x c e=>?_,fun p A=>?_,hok,I.len⟩
 ·exact keep b o (h b o e) a (V b o e J) (I.base.keep b o e n a J) (I.base.free b o e n J)
 ·obtain⟨sl,Z⟩:=I.base.slot b o e n a J;obtain⟨t,g⟩:=slot b _ (h b o e) a (V b o e J) Z (I.base.free b o e n J);exact⟨t,g⟩
 ·obtain⟨o',Z⟩:=I.base.there b o e J;exact free b o' (V b o e J) Z (I.base.free b o e n J)
 ·obtain⟨o',Z⟩:=I.base.there b o e J;exact there b o' (V b o e J) Z
 ·obtain⟨F,Z⟩:=I.base.tbls b ps e;obtain⟨L,g⟩:=tbls b _ Z;exact⟨F++L,by rw[g,Array.append_assoc]⟩
 ·obtain⟨m,E,G⟩:=I.loc;refine⟨m,ns m E,fun i x v Z g D=>?_⟩;obtain⟨u,r,l⟩:=G i x v Z g D;refine⟨u,r,?_⟩;rcases l with l | ⟨k,c,e,z⟩
  ·exact .inl l
  ·exact .inr ⟨k,c,e,O x c e _ z⟩
 ·obtain⟨v,z⟩:=I.cell x c e;exact⟨v,O x c e v z⟩
 ·obtain⟨m,⟨o,_,_,f,_⟩,_⟩:=I.loc;exact free _ o (fun z=>(hch _ z).2.1 rfl) f I.free
 ·obtain⟨v,o,f,j⟩:=I.cell x c e;exact free c o (fun z=>(hch c z).2.2.1 x c e rfl) f (I.freeC x c e)
 ·obtain⟨e,n,C,y,d⟩:=I.pin p A;have U:p.1∉ch:=fun z=>(hch p.1 z).2.2.2 p A rfl
  exact⟨keep p.1 p.2 C y U e n,free p.1 p.2 U e n,C,y,d⟩
theorem Inv.un(I:Inv X pins σ H s)(u:Un X.fs [] H H' s.heap h')(hok:gR X.prog X.w H' h'):Inv X pins σ H' { s with heap:=h',toks:=t' }:=by
 obtain⟨m,⟨o,es,ep,Z,r⟩,_⟩:=id I.loc;obtain⟨sl,d⟩:=u.any Z I.free (by simp)
 exact I.step (g':=s.gens) (d':=s.drawn) (ch:=[]) (fun _ z=>nomatch z) (fun b o _ V _ e n=>u.keep b o e n V (by simp)) (fun b o _ V _ e n=>u.slot b o e n V (by simp)) (fun b o _ e n=>u.free b o e n (by simp)) (fun b o _ e=>u.there b o e (by simp)) u.aA u.frzs u.tbls (fun f c=>by
  obtain⟨o',O,U,J,a⟩:=c;rw[Z]at J; cases J
  exact⟨_,O,U,d,a⟩) hok I.bare
theorem Inv.call(I:Inv X pins σ H s)(u:Un (w6 X.stack) ch H H' s.heap h')(hok:gR X.prog X.w H' h')(hg:AllBare g')
  (hch:∀ b∈ch,(b∈X.ex\/X.s₀.heap.objs.size<=b)/\b≠X.env.locals/\(∀ x c,X.env.cells.lookup x=some c->c≠b)/\∀ p∈X.pn++pins,p.1≠b) :
  Inv X pins σ H' { s with heap:=h',gens:=g',drawn:=d',toks:=t' }:=by
 obtain⟨m,⟨o,es,ep,a,r⟩,_⟩:=id I.loc;obtain⟨sl,Z⟩:=u.any a I.free fun z=>(hch _ z).2.1 rfl
 exact I.step (ch:=ch) hch (fun b o Z d J e n=>u.keep b o e n (fun z=>(d0.mp (I.qd b z)).elim Z d) J) (fun b o _ _ J e n=>u.any e n J) (fun b o J e n=>u.free b o e n J) (fun b o J e=>u.there b o e J) u.aA u.frzs u.tbls (fun h g=>by
  obtain⟨o',U,V,O,f⟩:=g;rw[a]at O; cases O
  exact⟨_,U,V,Z,f⟩) hok hg
theorem Inv.turned{it:Addr}(I:Inv X pins σ H s)(k:∀ b o,b≠it->s.heap.get? b=some o->h'.get? b=some o)(hn:H it=none)(hL:it≠X.env.locals)
  (h1:it∈X.ex\/X.s₀.heap.objs.size<=it) (h2:∀ x c,X.env.cells.lookup x=some c->c≠it) (h3:∀ p∈X.pn++pins,p.1≠it):Inv X pins σ H { s with heap:=h',toks:=t' }:=by
 have O:∀ b u,H b=some u->b≠it:=fun b u e z=>by rw[z,hn]at e; cases e
 refine I.step (g':=s.gens) (d':=s.drawn) (ch:=[it]) (fun b V=>?_) (fun b o _ _ J e _=>k b o (fun z=>J (by simp[z])) e) (fun b o _ _ J e _=>⟨o.slots,k b o (fun z=>J (by simp[z])) e⟩) (fun _ _ _ _ n=>n)
  (fun b o J e=>⟨o,k b o (fun z=>J (by simp[z])) e⟩) (fun _ _ e=>e) (fun _ _ _ e=>e) (fun b ps e=>⟨#[],by rw[e]; simp⟩) (fun m Z=>?_) (fun b u e=>?_) I.bare
 ·have e:b=it:=by simpa using V
  subst e;exact⟨h1,hL,h2,h3⟩
 ·obtain⟨o,es,ep,U,r⟩:=Z;exact⟨o,es,ep,k _ o (Ne.symm hL) U,r⟩
 ·refine (I.hok b u e).nI (fun c v J q=>k c v ?_ q) (fun _ q=>q) fun _ _ q=>q
  rcases J with z | z
  ·rw[z]; exact O b u e
  ·exact O c _ z
theorem Inv.tok(I:Inv X pins σ H s)(t:Nat):Inv X pins σ H { s with toks:=t }:=I.un (h':=s.heap) (t':=t) Un.refl I.hok
theorem Inv.kept(I:Inv X pins σ H s)(k:∀ b u,s.heap.get? b=some u->h'.get? b=some u):Inv X pins σ H { s with heap:=h',toks:=t' }:=I.un (Un.kept k) (I.hok.kept k)
theorem Inv.laid(I:Inv X pins σ H s)(k:∀ b u,s.heap.get? b=some u->h'.get? b=some u)(hp:s.heap.objs.size<=a)(new:bW X.prog X.w (upd H a o) h' a o) :
  Inv X pins σ (upd H a o) { s with heap:=h',toks:=t' }:=I.un (Un.laid k hp (I.hok.fresh hp)) (I.hok.laid k hp new)
theorem Inv.write{x e:Addr}(I:Inv X pins σ H s)(mu:Gq (H x))(he:e=x\/H e=some (.own x))(k:∀ b u,b≠e->s.heap.get? b=some u->h'.get? b=some u)(heo:∃ u,h'.get? e=some u)
  (new:bW X.prog X.w (upd H x o) h' x o):Inv X pins σ (upd H x o) { s with heap:=h',toks:=t' }:=I.un (Un.write mu he k heo) (I.hok.write mu he k heo new)
theorem Inv.weak{σ':List (Option V)}(I:Inv X pins σ H s)(hl:σ'.length=σ.length)(w:∀ (i:Nat) v,σ'[i]?=some (some v)->σ[i]?=some (some v)):Inv X pins σ' H s:=
 ⟨I.ok,I.os,I.bare,I.base,let ⟨m,hn,hl'⟩:=I.loc; ⟨m,hn,fun i x v J O U=>hl' i x v J (w i v O) U⟩,I.cell,I.free,I.freeC,I.pin,I.hok,hl.trans I.len⟩
theorem Inv.vB{pins':List (Addr × Obj)}(I:Inv X pins σ H s)(h:∀ p∈pins',s.heap.get? p.1=some p.2/\H p.1=none/\p.1≠X.env.locals/\p.1∉X.fs/\∀ v,p.2.data≠.cell v):Inv X pins' σ H s:=
 ⟨I.ok,I.os,I.bare,I.base,I.loc,I.cell,I.free,I.freeC,fun p J=>(fY.mp J).elim (fun z=>I.pin p (uj _ z)) (h p),I.hok,I.len⟩
theorem rF(hN:N.Nodup)(a:N[i]?=some x)(b:N[j]?=some x):i=j:=by
 obtain⟨h1,I⟩:=dJ.mp a;obtain⟨h2,J⟩:=dJ.mp b;exact (List.getElem_inj hN).mp (I.trans J.symm)
theorem oA{v:V}{Q:Unit->Shared->Prop}(I:Inv X pins σ H s)(hN:X.N.Nodup)(hi:X.N[i]?=some x)(hx:Loc X.env.scope x)(r:RelV v u)
  (h:∀ s',Inv X pins (σ.set i (some v)) H s'->(∃ a,Heap.SameBut a s.heap s'.heap/\(a=X.env.locals\/X.env.cells.lookup x=some a))->Q () s') (hf:X.fn x=true\/X.env.scope.names.lookup x=some .local:=by first | exact .inl rfl | exact .inr rfl | assumption):wpAny M A (storeName X.env x u) Q E s:=by
 obtain⟨m,hn,hl⟩:=id I.loc;have C:(X.env.scope.kind == .class || (X.env.scope.kind == .module && X.env.locals != X.env.globals))=false:=by rw[I.ok.kind]; rfl
 have D:i < σ.length:=by rw[I.len]; exact (dJ.mp hi).1
 have EZ:=I.EZ;have J:∀ {a:Addr} {h':Heap},(∃ o,s.heap.get? a=some o/\H a=none)->Heap.SameBut a s.heap h'->gR X.prog X.w H h':=fun {a h'} ha hs b ob e=>by
  obtain⟨_,_,Z⟩:=ha;refine (I.hok b ob e).nI (fun c R U q=>(hs.2 c ?_).trans q) (fun _ q=>q) fun _ _ q=>q
  rintro rfl
  rcases U with rfl | U
  ·rw[Z]at e; cases e
  ·rw[Z]at U; cases U
 rcases hx with g | g
 ·refine wpAny_storeName_local g hn (fun h' hn' hs=>?_) C;obtain⟨oL,_,_,hoL,_⟩:=id hn;refine h _ ⟨I.ok,I.os,I.bare,⟨fun b o e n t hx=>?_,fun b o e n t hx=>?_,I.base.free,fun b o e hx=>?_,I.base.aA,I.base.frzs,I.base.tbls⟩,⟨_,hn',fun j y v' O f Y=>?_⟩,fun y c e=>?_,I.free,I.freeC,fun p hp=>?_,J ⟨oL,hoL,I.free⟩ hs,by simpa using I.len⟩ ⟨_,hs,.inl rfl⟩
  ·exact (hs.2 b (cH (kU (cG e) I.ok.above))).trans (I.base.keep b o e n t hx)
  ·obtain⟨sl,O⟩:=I.base.slot b o e n t hx;exact⟨sl,(hs.2 b (cH (kU (cG e) I.ok.above))).trans O⟩
  ·obtain⟨o',O⟩:=I.base.there b o e hx;exact⟨o',(hs.2 b (cH (kU (cG e) I.ok.above))).trans O⟩
  ·by_cases B:j=i
   ·subst B;rw[hi]at O; cases O;rw[List.getElem?_set_self D]at f;cases f;exact⟨u,r,.inl ⟨g,by simp⟩⟩
   ·rw[List.getElem?_set_ne (Ne.symm B)]at f;obtain⟨W,r',q⟩:=hl j y v' O f Y;refine⟨W,r',?_⟩;rcases q with ⟨k,e⟩ | ⟨k,c,e,z⟩
    ·refine .inl ⟨k,?_⟩;have:y≠x:=fun e=>B (rF hN O (e ▸ hi))
     simp[this,e]
    ·exact .inr ⟨k,c,e,z.sameBut hs (EZ y c e)⟩
  ·obtain⟨R,z⟩:=I.cell y c e;exact⟨R,z.sameBut hs (EZ y c e)⟩
  ·obtain⟨e,n,T,nf,d⟩:=I.pin p hp;exact⟨(hs.2 p.1 T).trans e,n,T,nf,d⟩
 ·have l:X.fn x=true:=by
   rcases hf with z | z
   ·exact z
   ·rw[z]at g; cases g
  obtain⟨c,U⟩:=I.ok.has x (.inl g);obtain⟨R,z⟩:=I.cell x c U;refine wpAny_storeName_cell I.ok.kind g U z (fun h' G hs=>?_);obtain⟨oc,F,N⟩:=id z;refine h { s with heap:=h' } ⟨I.ok,I.os,I.bare,⟨fun b o e n t hx=>?_,fun b o e n t hx=>?_,I.base.free,fun b o e hx=>?_,I.base.aA,I.base.frzs,I.base.tbls⟩,⟨m,hn.sameBut hs (Ne.symm (EZ x c U)),fun j y v' O f Y=>?_⟩,fun y S e=>?_,I.free,I.freeC,fun p hp=>?_,J ⟨oc,F,I.freeC x c U⟩ hs,by simpa using I.len⟩ ⟨c,hs,.inr U⟩
  ·exact (hs.2 b (cH (kU (cG e) (I.ok.cab x c l U)))).trans (I.base.keep b o e n t hx)
  ·obtain⟨sl,O⟩:=I.base.slot b o e n t hx;exact⟨sl,(hs.2 b (cH (kU (cG e) (I.ok.cab x c l U)))).trans O⟩
  ·obtain⟨o',O⟩:=I.base.there b o e hx;exact⟨o',(hs.2 b (cH (kU (cG e) (I.ok.cab x c l U)))).trans O⟩
  ·by_cases B:j=i
   ·subst B;rw[hi]at O; cases O;rw[List.getElem?_set_self D]at f;cases f;exact⟨u,r,.inr ⟨.inl g,c,U,G⟩⟩
   ·rw[List.getElem?_set_ne (Ne.symm B)]at f;obtain⟨W,r',q⟩:=hl j y v' O f Y;refine⟨W,r',?_⟩;rcases q with q | ⟨k,S,e,z'⟩
    ·exact .inl q
    ·refine .inr ⟨k,S,e,z'.sameBut hs ?_⟩
     rintro rfl
     exact B (rF hN O (I.ok.inj _ _ _ e U ▸ hi))
  ·by_cases L:S=c
   ·subst L; exact⟨_,G⟩
   ·obtain⟨w2,z2⟩:=I.cell y S e;exact⟨w2,z2.sameBut hs L⟩
  ·obtain⟨e,n,T,nf,d⟩:=I.pin p hp;refine⟨(hs.2 p.1 ?_).trans e,n,T,nf,d⟩;intro q;rw[q,F]at e;have q':oc=p.2:=pL e;exact d R (by rw[<-q']; exact N)
theorem rN{v:V}{Q:Unit->Shared->Prop}(I:Inv X pins σ H s)(hN:X.N.Nodup)(hi:X.N[i]?=some x)(hx:Loc X.env.scope x)(r:RelV v u)
  (h:∀ s',Inv X pins (σ.set i (some v)) H s'->Q () s') (hf:X.fn x=true\/X.env.scope.names.lookup x=some .local:=by first | exact .inl rfl | exact .inr rfl | assumption):wpAny M A (storeName X.env x u) Q E s:=
 oA I hN hi hx r (fun s' J _=>h s' J) hf
theorem Inv.G3(I:Inv X pins σ H s)(ho:s'.os=s.os)(u:Un (w6 X.stack) ch H H' s.heap s'.heap)(hok:gR X.prog X.w H' s'.heap)(hg:AllBare s'.gens)
  (hch:∀ b∈ch,(b∈X.ex\/X.s₀.heap.objs.size<=b)/\b≠X.env.locals/\(∀ x c,X.env.cells.lookup x=some c->c≠b)/\∀ p∈X.pn++pins,p.1≠b):Inv X pins σ H' s':=by
 obtain⟨h',g',d',t',o'⟩:=s';have e:o'=s.os:=ho;subst e;exact I.call (g':=g') (t':=t') (d':=d') u hok hg hch
end
abbrev XK:=Value->Option Addr->Hp->Prop
abbrev St:=List (Option V)
abbrev VK:=V->Hp->Prop
abbrev TE:=St->Hp->VK->Prop
abbrev TT:=St->Hp->(Bool->Hp->Prop)->Prop
abbrev TA:=St->Hp->(List V->Hp->Prop)->Prop
structure Ends where
 nx:St->Hp->Prop
 rt:VK
 bk:St->Hp->Prop:=fun _ _=>False
 ct:St->Hp->Prop:=fun _ _=>False
abbrev TS:=Ends->St->Hp->Prop
def EP(X:Cx)(pins:List (Addr × Obj))(σ:St)(Q:VK)(u:Value)(s':Shared):Prop:=∃ v H',Inv X pins σ H' s'/\RelV v u/\Q v H'
def TP(X:Cx)(pins:List (Addr × Obj))(σ:St)(Q:Bool->Hp->Prop)(b:Bool)(s':Shared):Prop:=∃ H',Inv X pins σ H' s'/\Q b H'
def AP(X:Cx)(pins:List (Addr × Obj))(σ:St)(Q:List V->Hp->Prop)(us:List Value)(s':Shared):Prop:=∃ vs H',Inv X pins σ H' s'/\Vals vs us/\Q vs H'
def SP(X:Cx)(pins:List (Addr × Obj))(D:Ends)(f:Flow)(s':Shared):Prop:=
 match f with
 | .next=>∃ σ' H',Inv X pins σ' H' s'/\D.nx σ' H'
 | .brk=>∃ σ' H',Inv X pins σ' H' s'/\D.bk σ' H'
 | .cont=>∃ σ' H',Inv X pins σ' H' s'/\D.ct σ' H'
 | .ret u=>∃ v σ' H',Inv X pins σ' H' s'/\RelV v u/\D.rt v H'
def PE(X:Cx)(e:Expr)(t:TE):Prop:=
 ∀ (pins:List (Addr × Obj)) (s:Shared) (σ:St) (H:Hp) (Q:VK),Inv X pins σ H s->t σ H Q->wpAny (model X.prog X.w) X.A (eval e X.env) (EP X pins σ Q) X.xe s
def PT(X:Cx)(e:Expr)(t:TT):Prop:=
 ∀ (pins:List (Addr × Obj)) (s:Shared) (σ:St) (H:Hp) (Q:Bool->Hp->Prop),Inv X pins σ H s->t σ H Q->wpAny (model X.prog X.w) X.A (isTrue e X.env (eval e X.env)) (TP X pins σ Q) X.xe s
def PW(X:Cx)(e:Expr)(t:TT):Prop:=
 ∀ (whole:Sem Value) (pins:List (Addr × Obj)) (s:Shared) (σ:St) (H:Hp) (Q:Bool->Hp->Prop),Inv X pins σ H s->t σ H Q->wpAny (model X.prog X.w) X.A (isTrue e X.env whole) (TP X pins σ Q) X.xe s
theorem PW.pt{t:TT}(h:PW X e t):PT X e t:=h _
def PA(X:Cx)(es:List Expr)(t:TA):Prop:=
 ∀ (pos:Pos) (pins:List (Addr × Obj)) (s:Shared) (σ:St) (H:Hp) (Q:List V->Hp->Prop),Inv X pins σ H s->t σ H Q->wpAny (model X.prog X.w) X.A (spliced (backTo pos (starEach es X.env))) (AP X pins σ Q) X.xe s
def PS(X:Cx)(st:Stmt)(t:TS):Prop:=
 ∀ (pins:List (Addr × Obj)) (s:Shared) (σ:St) (H:Hp) (D:Ends),Inv X pins σ H s->t D σ H->wpAny (model X.prog X.w) X.A (exec st X.env) (SP X pins D) X.xe s
def xy(X:Cx)(st:List Stmt)(t:TS):Prop:=
 ∀ (pins:List (Addr × Obj)) (s:Shared) (σ:St) (H:Hp) (D:Ends),Inv X pins σ H s->t D σ H->wpAny (model X.prog X.w) X.A (execs st X.env) (SP X pins D) X.xe s
theorem cw{α:Type}{t:Sem α}{Q Q':α->Shared->Prop}(h:wpAny M A t Q E s)(hQ:∀ a s,Q a s->Q' a s):wpAny M A t Q' E s:=tU h hQ fun _ _ x=>x
section
inductive BN(i:Nat)(σ:St)(H:Hp)(Q:VK):Prop|m(v:_)(_:σ[i]?=some (some v))(_:Q v H)
def tC(v:V):TE:=fun _ H Q=>Q v H
theorem FH(hN:X.N[i]?=some x)(hv:HQ X.env.scope x)(hd:(x == ("__debug__":Str))=false:=by decide)(hcd:(x == ("__classdict__":Str))=false:=by decide):PE X (.Name x pos) (BN i):=by
 intro pins s σ H Q I h;obtain⟨v,e,h⟩:=h;obtain⟨m,Z,b⟩:=I.loc;obtain⟨u,r,l⟩:=b i x v hN e hv;have U:EP X pins σ Q u s:=⟨v,H,I,r,h⟩
 rcases l with ⟨O,a⟩ | ⟨O,c,V,J⟩
 ·exact wpAny_Name (wpAny_loadName_local I.ok.kind O Z a U) hd
 ·rcases O with O | O
  ·exact wpAny_Name (wpAny_loadName_cell I.ok.kind O V J U) hd
  ·exact wpAny_Name (wpAny_loadName_free I.ok.kind O V J U hcd) hd
theorem ag{i j pos}:PE X (.Constant (.int i) j pos) (tC (.int i)):=fun _ _ _ H _ I h=>wpAny_Constant_int ⟨.int i,H,I.tok _,⟨_,rfl⟩,h⟩
theorem qZ{b j pos}:PE X (.Constant (.bool b) j pos) (tC (.bl b)):=fun _ _ _ H _ I h=>Constant_bool ⟨.bl b,H,I,rfl,h⟩
theorem dR{j pos}:PE X (.Constant .none j pos) (tC .non):=fun _ _ _ H _ I h=>Constant_none ⟨.non,H,I,rfl,h⟩
theorem a8{x j pos}:PE X (.Constant (.str x) j pos) (tC (.str x)):=fun _ _ _ H _ I h=>Calls.Constant_str ⟨.str x,H,I.tok _,⟨_,rfl⟩,h⟩
def Gl(X:Cx)(x:Str):Prop:=X.env.kindOf x=some .globalImplicit
theorem xk(I:Inv X pins σ H s)(hg:Gl X x)(hm:X.mg x=some u)(h:Q u s)
  (hd:(x == ("__debug__":Str))=false:=by decide):wpAny (model X.prog X.w) X.A (eval (.Name x pos) X.env) Q E s:=
 Calls.Name_function_global I.ok.kind hg (Calls.loadGlobal_global (by rw[I.ok.glob]; exact I.mod.glob.keeps I.bk) hm h) hd
theorem fN(I:Inv X pins σ H s)(hg:Gl X x)(hm:X.mg x=none)(hv:bootBuiltins x=some u)(h:Q u s)
  (hn:x≠"__name__":=by decide) (hd:(x == ("__debug__":Str))=false:=by decide):wpAny (model X.prog X.w) X.A (eval (.Name x pos) X.env) Q E s:=by
 obtain⟨J,h1,h2⟩:=I.mod.blt;exact Calls.Name_function_global I.ok.kind hg (Calls.loadGlobal_builtin (by rw[I.ok.glob]; exact I.mod.glob.keeps I.bk) hm (by rw[I.ok.blt]; exact h1.keeps I.bk) ((h2 x hn).trans hv) h) hd
theorem ju{v:V}(hg:Gl X x)(hm:X.mg x=some u)(r:RelV v u)(hd:(x == ("__debug__":Str))=false:=by decide):PE X (.Name x pos) (tC v):=
 fun _ _ _ H _ I h=>xk I hg hm ⟨v,H,I,r,h⟩ hd
theorem Cq{v:V}(hg:Gl X x)(hm:X.mg x=none)(hv:bootBuiltins x=some u)(r:RelV v u)(hn:x≠"__name__":=by decide)(hd:(x == ("__debug__":Str))=false:=by decide):PE X (.Name x pos) (tC v):=
 fun _ _ _ H _ I h=>fN I hg hm hv ⟨v,H,I,r,h⟩ hn hd
variable {a b:Expr}{tb:TE}
def PC(X:Cx)(op:CmpOp)(a b:Expr)(t:TE):Prop:=
 ∀ (pins:List (Addr × Obj)) (s:Shared) (σ:St) (H:Hp) (Q:VK),Inv X pins σ H s->t σ H Q->
  wpAny (model X.prog X.w) X.A (eval a X.env) (fun v s₁=>wpAny (model X.prog X.w) X.A (eval b X.env) (fun u s₂=>wpAny (model X.prog X.w) X.A (compareOp op v u) (EP X pins σ Q) X.xe s₂) X.xe s₁) X.xe s
theorem zd(b:Expr)(h:op≠.In)(h2:op≠.NotIn):behindInMarks op b=false:=by
 have J:(op == CmpOp.In)=false:=by cases op <;> first | rfl | exact absurd rfl h
 have I:(op == CmpOp.NotIn)=false:=by cases op <;> first | rfl | exact absurd rfl h2
 cases b <;> simp[behindInMarks,J,I]
def tB(t:TE):TT:=fun σ H Q=>t σ H fun x H1=>aK Q (fun c Q=>x=.bl c/\Q c H1)
theorem tV{t:TE}(h:PC X op a b t)(h1:behindInMarks op b=false:=by first | exact zd _ (by decide) (by decide) | rfl):PT X (.Compare a [op] [b] pos) (tB t):=by
 intro pins s σ H Q I U;refine wpAny_isTrue_Compare1 (cw (h pins s σ H _ I U) fun v s1 h1=>cw h1 fun u s2 h2=>cw h2 fun c e J=>?_) h1;obtain⟨x,H1,V,Z,O⟩:=J;obtain⟨d,rfl,q⟩:=O;cases Z;exact DK ⟨H1,V,q⟩
theorem vq{t:TE}(h:PE X e t)(he:∀ whole,isTrue e X.env whole=(do let v <-whole; standAt e.pos; holding [v] (truthy v)):=by intro _; rfl):PT X e (tB t):=by
 intro pins s σ H Q I U;refine isTrue_plain (cw (h pins s σ H _ I U) fun v s1 J=>?_) (he _);obtain⟨x,H1,V,O,Z⟩:=J;obtain⟨d,rfl,q⟩:=Z;cases O;exact DK ⟨H1,V,q⟩
variable {tA tB':TT}{rest:List Expr}
def jl(t u:TT):TT:=fun σ H Q=>t σ H fun c H1=>if c=true then u σ H1 Q else Q false H1
def IF(t u:TT):TT:=fun σ H Q=>t σ H fun c H1=>if c=true then Q true H1 else u σ H1 Q
def IH(t:TT):TT:=fun σ H Q=>t σ H fun c H1=>Q (!c) H1
theorem du(ha:PT X a tA):PW X (.BoolOp .And [a] pos) tA:=by
 intro J pins s σ H Q I h;refine isTrue_and (cw (ha pins s σ H Q I h) fun c s1 e=>?_);cases c with
 | true=>exact isTrue_and_nil e
 | false=>exact e
theorem lN(ha:PT X a tA):PW X (.BoolOp .Or [a] pos) tA:=by
 intro J pins s σ H Q I h;refine isTrue_or (cw (ha pins s σ H Q I h) fun c s1 e=>?_);cases c with
 | false=>exact isTrue_or_nil e
 | true=>exact e
theorem eL(ha:PT X a tA)(hb:PW X (.BoolOp .And (b::rest) pos) tB'):PW X (.BoolOp .And (a::b::rest) pos) (jl tA tB'):=by
 intro V pins s σ H Q I h;refine isTrue_and (cw (ha pins s σ H _ I h) fun c s1 J=>?_);obtain⟨H1,O,U⟩:=J;cases c with
 | true=>exact hb V pins s1 σ H1 Q O U
 | false=>exact⟨H1,O,U⟩
theorem mT(ha:PT X a tA)(hb:PW X (.BoolOp .Or (b::rest) pos) tB'):PW X (.BoolOp .Or (a::b::rest) pos) (IF tA tB'):=by
 intro V pins s σ H Q I h;refine isTrue_or (cw (ha pins s σ H _ I h) fun c s1 J=>?_);obtain⟨H1,O,U⟩:=J;cases c with
 | true=>exact⟨H1,O,U⟩
 | false=>exact hb V pins s1 σ H1 Q O U
theorem Fm(ha:PT X a tA):PT X (.UnaryOp .Not a pos) (IH tA):=by
 intro pins s σ H Q I h;exact isTrue_not (ha pins s σ H (fun c H1=>Q (!c) H1) I h)
def zi(ta tb:TE):TE:=fun σ H Q=>ta σ H fun x H1=>aK Q (fun c Q=>x=.bl c/\if c=true then tb σ H1 Q else Q (.bl false) H1)
def IM(ta tb:TE):TE:=fun σ H Q=>ta σ H fun x H1=>aK Q (fun c Q=>x=.bl c/\if c=true then Q (.bl true) H1 else tb σ H1 Q)
theorem uI{op}{t:TE}(h:PE X a t):PE X (.BoolOp op [a] pos) t:=fun pins s σ H Q I J=>BoolOp_one (h pins s σ H Q I J)
theorem zV(ha:PE X a ta)(hb:PE X (.BoolOp .And (b::rest) pos) tb):PE X (.BoolOp .And (a::b::rest) pos) (zi ta tb):=by
 intro pins s σ H Q I h;refine BoolOp_and (cw (ha pins s σ H _ I h) fun v s1 J=>?_);obtain⟨x,H1,U,V,O⟩:=J;obtain⟨c,rfl,O⟩:=O;cases V;refine DK ?_;cases c with
 | true=>exact hb pins s1 σ H1 Q U O
 | false=>exact⟨.bl false,H1,U,rfl,O⟩
theorem GW(ha:PE X a ta)(hb:PE X (.BoolOp .Or (b::rest) pos) tb):PE X (.BoolOp .Or (a::b::rest) pos) (IM ta tb):=by
 intro pins s σ H Q I h;refine BoolOp_or (cw (ha pins s σ H _ I h) fun v s1 J=>?_);obtain⟨x,H1,U,V,O⟩:=J;obtain⟨c,rfl,O⟩:=O;cases V;refine DK ?_;cases c with
 | false=>exact hb pins s1 σ H1 Q U O
 | true=>exact⟨.bl true,H1,U,rfl,O⟩
def Jl(t:TT)(ta tb:TE):TE:=fun σ H Q=>t σ H fun c H1=>if c=true then ta σ H1 Q else tb σ H1 Q
theorem rW(hc:PT X c tA)(ha:PE X a ta)(hb:PE X b tb):PE X (.IfExp c a b pos) (Jl tA ta tb):=by
 intro pins s σ H Q I h;refine wpAny_IfExp (cw (hc pins s σ H _ I h) fun d s1 J=>?_);obtain⟨H1,O,U⟩:=J;cases d with
 | true=>exact ha pins s1 σ H1 Q O U
 | false=>exact hb pins s1 σ H1 Q O U
end
def bp(K:aL)(H:Hp)(a:Addr)(xs:List V):Prop:=
 Rd H a (.lst xs)\/
  ∃ (o:Obj) (its:Array Value) (n:Nat),K.lookup a=some o/\o.cls=.type "list"/\o.dict=none/\o.data=.seq its n/\its.size<=sizeLine/\Vals xs its.toList
def bu(K:aL)(H:Hp)(a:Addr)(xs:List V):Prop:=
 H a=some (.tup xs)\/
  ∃ (o:Obj) (its:Array Value) (n:Nat),K.lookup a=some o/\o.cls=.type "tuple"/\o.data=.seq its n/\its.size<=sizeLine/\Vals xs its.toList/\∀ c,V.ref c∉xs
def C6:Value->Option V
 | .none=>some .non
 | .bool b=>some (.bl b)
 | .int i _=>some (.int i)
 | .str x _=>some (.str x)
 | .bytes b _=>some (.byt b)
 | .float b _=>some (.flt b)
 | .ref a=>some (.ref a)
 | .type n=>some (.ty n)
 | _=>none
theorem RelV.abs{x:V}(r:RelV x u):C6 u=some x:=by
 cases x with
 | non=>cases r; rfl
 | bl _=>cases r; rfl
 | int _=>obtain⟨t,rfl⟩:=r; rfl
 | str _=>obtain⟨t,rfl⟩:=r; rfl
 | byt _=>obtain⟨t,rfl⟩:=r; rfl
 | flt _=>obtain⟨t,rfl⟩:=r; rfl
 | ref _=>cases r; rfl
 | ty _=>cases r; rfl
theorem RelV.inj{x y:V}(r:RelV x u)(q:RelV y u):x=y:=pL (r.abs.symm.trans q.abs)
theorem Vals.inj:∀ {xs ys:List V} {us:List Value},Vals xs us->Vals ys us->xs=ys
 | _,_,_,.nil,.nil=>rfl
 | _,_,_,.cons r t,.cons r' t'=>by rw[r.inj r',Vals.inj t t']
section
variable {ys:List V}
theorem bp.of{K:aL}(h:H a=some (.lst xs)):bp K H a xs:=.inl (.inl h)
theorem bu.of{K:aL}(h:H a=some (.tup xs)):bu K H a xs:=.inl h
theorem Inv.list(I:Inv X pins σ H s)(h:bp X.K H a xs):∃ its:List Value,Vals xs its/\PlainL s.heap a its.toArray/\xs.length<=sizeLine:=by
 rcases h with h | ⟨o,its,n,U,O,J,hs,V,r⟩
 ·obtain⟨z,its,n,r,e⟩:=h.ok I.hok;exact⟨its,r,⟨_,n,e,rfl,rfl,rfl⟩,z⟩
 ·refine⟨its.toList,r,⟨o,n,I.oS a o U,O,J,by simpa using hs⟩,?_⟩;have e:=r.length;simp only[dY]at e
  lia
theorem Inv.tuple(I:Inv X pins σ H s)(h:bu X.K H a xs):∃ its:List Value,Vals xs its/\IsTup s.heap a its.toArray/\xs.length<=sizeLine:=by
 rcases h with h | ⟨o,its,n,O,J,hs,U,r,_⟩
 ·obtain⟨z,its,r,p⟩:=(Rd.of h).ok I.hok;exact⟨its,r,p,z⟩
 ·refine⟨its.toList,r,⟨o,I.oS a o O,J,n,by simpa using hs⟩,?_⟩;have e:=r.length;simp only[dY]at e
  lia
theorem Inv.sF(I:Inv X pins σ H s)(h:bp X.K H a xs)(h':bp X.K H a ys):xs=ys:=by
 obtain⟨its,r,⟨o,n,e,_,_,d⟩,_⟩:=I.list h;obtain⟨its',O,⟨o',n',J,_,_,d'⟩,_⟩:=I.list h';rw[e]at J; cases J;rw[d]at d';injection d' with d1 _;have:its=its':=by simpa using pq Array.toList d1
 subst this;exact r.inj O
theorem Inv.hJ(I:Inv X pins σ H s)(h:bu X.K H a xs)(h':bu X.K H a ys):xs=ys:=by
 obtain⟨its,r,⟨o,e,_,n,d⟩,_⟩:=I.tuple h;obtain⟨its',O,⟨o',J,_,n',d'⟩,_⟩:=I.tuple h';rw[e]at J; cases J;rw[d]at d';injection d' with d1 _;have:its=its':=by simpa using pq Array.toList d1
 subst this;exact r.inj O
end
abbrev Cx.nC(X:Cx)(E:Value->Shared->Prop):Cx:={ X with xe:=E }
abbrev Cx.Hv(X:Cx):Cx:=X.nC fun _ _=>False
theorem Cx.Ok.nC(ok:X.Ok)(E:Value->Shared->Prop):(X.nC E).Ok:=
 ⟨ok.mod,ok.kind,ok.glob,ok.blt,ok.above,ok.inj,ok.has,ok.cab,ok.hd,ok.frames,ok.stk,ok.exf,ok.bs,ok.bsz,ok.noex,ok.exfs,ok.kL,ok.frf⟩
theorem Cx.Ok.gG(ok:(X.nC E).Ok):X.Ok:=
 ⟨ok.mod,ok.kind,ok.glob,ok.blt,ok.above,ok.inj,ok.has,ok.cab,ok.hd,ok.frames,ok.stk,ok.exf,ok.bs,ok.bsz,ok.noex,ok.exfs,ok.kL,ok.frf⟩
theorem Inv.nC(I:Inv X pins σ H s)(E:Value->Shared->Prop):Inv (X.nC E) pins σ H s:=⟨I.ok.nC E,I.os,I.bare,I.base,I.loc,I.cell,I.free,I.freeC,I.pin,I.hok,I.len⟩
theorem Inv.gG(I:Inv (X.nC E) pins σ H s):Inv X pins σ H s:=⟨I.ok.gG,I.os,I.bare,I.base,I.loc,I.cell,I.free,I.freeC,I.pin,I.hok,I.len⟩
theorem SP.gG{D:Ends}{f:Flow}(h:SP (X.nC E) pins D f s'):SP X pins D f s':=by
 cases f with
 | next=>obtain⟨σ',H',I,q⟩:=h; exact⟨σ',H',I.gG,q⟩
 | brk=>obtain⟨σ',H',I,q⟩:=h; exact⟨σ',H',I.gG,q⟩
 | cont=>obtain⟨σ',H',I,q⟩:=h; exact⟨σ',H',I.gG,q⟩
 | ret u=>obtain⟨v,σ',H',I,r,q⟩:=h; exact⟨v,σ',H',I.gG,r,q⟩
theorem xy.Hv{st:List Stmt}{t:TS}(h:xy X.Hv st t):xy X st t:=fun pins s σ H D I J=>
 tU (h pins s σ H D (I.nC _) J) (fun _ _ q=>q.gG) fun _ _ z=>False.elim z
section
variable {st:Stmt}{rest:List Stmt}{t u:TS}
def di:TS:=fun D σ H=>D.nx σ H
def de(t u:TS):TS:=fun D σ H=>t { D with nx:=u D } σ H
theorem bw:xy X [] di:=fun _ _ σ H _ I h=>wpAny_execs_nil ⟨σ,H,I,h⟩
theorem ak(h1:PS X st t)(h2:xy X rest u):xy X (st::rest) (de t u):=by
 intro pins s σ H D I h;refine wpAny_execs_cons (cw (h1 pins s σ H { D with nx:=u D } I h) fun f s1 q=>?_);cases f with
 | next=>
  obtain⟨σ',H',J,q⟩:=q;exact h2 pins s1 σ' H' D J q
 | ret v=>exact q
 | brk=>exact q
 | cont=>exact q
theorem au(h1:PS X st t):xy X [st] t:=by
 intro pins s σ H D I h;refine wpAny_execs_cons (cw (h1 pins s σ H D I h) fun f s1 q=>?_);cases f with
 | next=>exact wpAny_execs_nil q
 | ret v=>exact q
 | brk=>exact q
 | cont=>exact q
theorem Inv.quiet(I:Inv X pins σ H s):interactive X.env=false:=by simp[interactive,I.ok.kind]
def Gz(te:TE):TS:=fun D σ H=>te σ H fun _ H1=>D.nx σ H1
theorem bP(he:PE X e te)(hs:swapsWith e none pos.line X.env=pure false:=by rfl):PS X (.Expr e pos) (Gz te):=by
 intro pins s σ H D I h;exact wpAny_Expr_any (cw (he pins s σ H _ I h) fun v s1 J=>by obtain⟨x,H1,O,V,U⟩:=J; exact⟨σ,H1,O,U⟩) I.quiet hs
def HX(te:TE):TS:=fun D σ H=>te σ H D.rt
theorem aQ(he:PE X e te):PS X (.Return (some e) pos) (HX te):=by
 intro pins s σ H D I h;exact wpAny_Return_some (cw (he pins s σ H _ I h) fun v s1 J=>by obtain⟨x,H1,U,O,V⟩:=J; exact⟨x,σ,H1,U,O,V⟩)
def fh(c:TT)(t u:TS):TS:=fun D σ H=>c σ H fun b H1=>if b=true then t D σ H1 else u D σ H1
theorem ck{a b:List Stmt}(hc:PT X c tc)(ha:xy X a t)(hb:xy X b u):PS X (.If c a b pos) (fh tc t u):=by
 intro pins s σ H D I h;refine wpAny_If (cw (hc pins s σ H _ I h) fun d s1 J=>?_);obtain⟨H1,O,U⟩:=J;cases d with
 | true=>exact ha pins s1 σ H1 D O U
 | false=>exact hb pins s1 σ H1 D O U
end
abbrev TG:=V->St->Hp->(St->Hp->Prop)->Prop
abbrev BF:=List V->St->Hp->(St->Hp->Prop)->Prop
def PG(X:Cx)(target:Expr)(t:TG):Prop:=
 ∀ (pins:List (Addr × Obj)) (s:Shared) (σ:St) (H:Hp) (v:V) (u:Value) (Q:St->Hp->Prop),Inv X pins σ H s->RelV v u->t v σ H Q->
  wpAny (model X.prog X.w) X.A (assign target X.env u) (fun _ s'=>∃ σ' H',Inv X pins σ' H' s'/\Q σ' H') X.xe s
def FT(X:Cx)(ts:List Expr)(t:BF):Prop:=
 ∀ (pins:List (Addr × Obj)) (s:Shared) (σ:St) (H:Hp) (vs:List V) (us:List Value) (Q:St->Hp->Prop),Inv X pins σ H s->Vals vs us->t vs σ H Q->
  wpAny (model X.prog X.w) X.A (assignInOrder ((assignEach ts X.env).map (·.2)) us) (fun _ s'=>∃ σ' H',Inv X pins σ' H' s'/\Q σ' H') X.xe s
abbrev EX:=V->V->V->Hp->(Hp->Prop)->Prop
def Gh(X:Cx)(t:EX):Prop:=
 ∀ (pins:List (Addr × Obj)) (s:Shared) (σ:St) (H:Hp) (o i v:V) (ov iv u:Value) (Q:Hp->Prop),Inv X pins σ H s->RelV o ov->RelV i iv->RelV v u->t o i v H Q->
  wpAny (model X.prog X.w) X.A (setItem ov iv u) (fun _ s'=>∃ H',Inv X pins σ H' s'/\Q H') X.xe s
def fw(i:Nat):TG:=fun v σ H Q=>Q (σ.set i (some v)) H
theorem aG(hN:X.N.Nodup)(hi:X.N[i]?=some x)(hx:Loc X.env.scope x)(hf:X.fn x=true\/X.env.scope.names.lookup x=some .local:=by first | exact .inl rfl | exact .inr rfl | assumption):PG X (.Name x pos) (fw i):=by
 intro pins s σ H v u Q I r h;exact wpAny_assign_Name (rN I hN hi hx r (fun s' J=>⟨_,H,J,h⟩) hf)
def HU:BF:=fun vs σ H Q=>vs=[]/\Q σ H
def Gr(t:TG)(u:BF):BF:=fun vs σ H Q=>aK Q (fun v Q=>aK Q (fun r Q=>vs=v::r/\t v σ H fun σ' H'=>u r σ' H' Q))
theorem eP:FT X [] HU:=by
 intro pins s σ H vs us Q I r h;obtain⟨e,h⟩:=h;subst e;cases r;exact assignInOrder_nil ⟨σ,H,I,h⟩
theorem bG{t:TG}{u:BF}(h1:PG X e t)(h2:FT X es u)
  (hs:(assignEach (e::es) X.env).map (·.2)=assign e X.env::(assignEach es X.env).map (·.2):=by rfl):FT X (e::es) (Gr t u):=by
 intro pins s σ H vs us Q I r h;obtain⟨v,a,Z,h⟩:=h;subst Z;cases r with
 | cons r O=>
  rw[hs];refine assignInOrder_cons (cw (h1 pins s σ H _ _ _ I r h) fun _ s1 J=>?_);obtain⟨σ1,H1,V,U⟩:=J;exact h2 pins s1 σ1 H1 _ _ Q V O U
inductive GN(K:aL)(n:Nat)(t:BF)(v:V)(σ:St)(H:Hp)(Q:St->Hp->Prop):Prop|m(a xs:_)(_:v=.ref a)(_:bu K H a xs)(_:xs.length=n)(_:t xs σ H Q)
theorem jf{k:Nat}{t:BF}(hc:X.calm=true)(h:FT X es t)
  (hn:(assignEach es X.env).length=n:=by rfl) (hst:(assignEach es X.env).findIdx? (·.1)=none:=by rfl):PG X (.Tuple es k pos) (GN X.K n t):=by
 intro pins s σ H v u Q I r J;obtain⟨a,xs,c,V,f,J⟩:=J;subst c;cases r;obtain⟨its,O,Z,g⟩:=I.tuple V;refine assign_Tuple_tuple (I.ok.hd hc) Z (by simp[hn,<-f,O.length]) hst fun h' d=>?_
 have U:Inv X pins σ H { s with heap:=h' }:=I.kept (t':=s.toks) fun b o e=>d b o (cH (cG e)) e
 exact h pins _ σ H xs _ Q U (by simpa using O) J
def HN(to ti:TE)(t:EX):TG:=fun v σ H Q=>to σ H fun o H1=>ti σ H1 fun i H2=>t o i v H2 fun H3=>Q σ H3
theorem EB{o i:Expr}{to ti:TE}{t:EX}(ho:PE X o to)(hi:PE X i ti)(hs:Gh X t)
  (ha:∀ v,assign (.Subscript o i pos) X.env v=(do
   let ov <-holding [v] (eval o X.env)
   let iv <-holding [v,ov] (eval i X.env)
   standAt pos
   holding [v,ov,iv] (setItem ov iv v)
   release [v,ov,iv] []):=by intro _; rfl):PG X (.Subscript o i pos) (HN to ti t):=by
 intro pins s σ H v u Q I r h;rw[ha];refine ar (iA (cw (ho pins s σ H _ I h) fun ov s1 J=>?_));obtain⟨x,H1,a,d,V⟩:=J;refine ar (iA (cw (hi pins s1 σ H1 _ a V) fun iv s2 J=>?_));obtain⟨y,H2,O,U,Z⟩:=J;refine ar (wpAny_standAt (ar (iA (cw (hs pins s2 σ H2 x y v ov iv u _ O d U r Z) fun _ f J=>?_))));obtain⟨e,b,c⟩:=J;exact wpAny_release ⟨σ,e,b,c⟩
def Ed(te:TE)(g:TG):TS:=fun D σ H=>te σ H fun x H1=>g x σ H1 D.nx
theorem mO(he:PE X e te)(hg:PG X tg g)(hs:swapsWithSole [tg] e pos.line X.env=pure false:=by rfl)(hw:swappedStores [tg] e X.env=pure none:=by rfl)
  (h1:(assignEach [tg] X.env).map (·.2)=[assign tg X.env]:=by rfl):PS X (.Assign [tg] e pos) (Ed te g):=by
 intro pins s σ H D I h;refine wpAny_Assign_stores (cw (he pins s σ H _ I h) fun v s1 J=>?_) hs hw;obtain⟨x,H1,U,O,V⟩:=J;rw[h1];exact cw (hg pins s1 σ H1 x v _ U O V) fun _ s2 q=>q
theorem An{i:Nat}{x:Str}{e:Expr}{te:TE}{pos':Pos}(hN:X.N.Nodup)(hi:X.N[i]?=some x)(hx:Loc X.env.scope x)(he:PE X e te)(hs:swapsWith e (some (.Name x pos')) pos.line X.env=pure false:=by rfl)(hf:X.fn x=true\/X.env.scope.names.lookup x=some .local:=by first | exact .inl rfl | exact .inr rfl | assumption) :
  PS X (.Assign [.Name x pos'] e pos) (Ed te (fw i)):=by
 intro pins s σ H D I h;refine wpAny_Assign_Name (cw (he pins s σ H _ I h) fun v s1 J=>?_) hs;obtain⟨y,H1,V,U,Z⟩:=J;exact rN V hN hi hx U (fun s2 O=>⟨_,H1,O,Z⟩) hf
theorem ba(hN:X.N.Nodup)(he:PE X e te)(hi:X.N[i]?=some x:=by rfl)(hx:Loc X.env.scope x:=by first | exact .inl rfl | exact .inr rfl)(hs:swapsWith e (some (.Name x pos')) pos.line X.env=pure false:=by rfl)(hf:X.fn x=true\/X.env.scope.names.lookup x=some .local:=by first | exact .inl rfl | exact .inr rfl | assumption) :
  PS X (.Assign [.Name x pos'] e pos) (Ed te (fw i)):=An hN hi hx he hs hf
def Ff(c:TT)(tb:TS):TS:=fun D σ H=>∃ W:Nat->St->Hp->Prop,(∃ m,W m σ H)/\∀ m σ H,W m σ H->
 c σ H fun b H1=>if b=true then ∃ N:St->Hp->Prop,(∀ σ' H',N σ' H'->∃ m',m' < m/\W m' σ' H')/\tb { D with nx:=N,ct:=N,bk:=D.nx } σ H1 else D.nx σ H1
theorem rb(hp:PassesOwn (model X.prog X.w) X.A X.env X.xe)(hc:PT X c tc)(hb:xy X body tb):PS X (.While c body [] pos) (Ff tc tb):=by
 intro pins s σ H D I h;obtain⟨W,⟨l,k⟩,turn⟩:=h;refine wpAny_While (codeAny_whileLoop (fun n s'=>∃ σ' H',Inv X pins σ' H' s'/\W n σ' H') ?_ l ⟨σ,H,I,k⟩)
 rintro n s1 ⟨σ1,H1,I1,w1⟩
 refine wpAny_passesOwn hp (cw (hc pins s1 σ1 H1 _ I1 (turn n σ1 H1 w1)) fun b s2 J=>?_);obtain⟨H2,i,U⟩:=J;cases b with
 | true=>
  obtain⟨N,j,U⟩:=U;rw[if_pos rfl];refine wpAny_passesOwn hp (cw (hb pins s2 σ1 H2 _ i U) fun f m V=>?_);cases f with
  | next=>
   obtain⟨σ3,O,g,a⟩:=V;obtain⟨d,e,Z⟩:=j σ3 O a;exact⟨d,e,σ3,O,g,Z⟩
  | cont=>
   obtain⟨σ3,O,g,a⟩:=V;obtain⟨d,e,Z⟩:=j σ3 O a;exact⟨d,e,σ3,O,g,Z⟩
  | brk=>exact V
  | ret v=>exact V
 | false=>
  rw[if_neg eN];exact wpAny_execs_nil ⟨σ1,H2,i,U⟩
structure It where
 go:Nat->Hp->Prop
 yld:Nat->Hp->V->Hp->Prop
 stop:Nat->Hp->Prop
def mM(X:Cx)(pins:List (Addr × Obj))(H:Hp)(b:Addr):Prop:=
 H b=none/\b≠X.env.locals/\b∉X.fs/\(b∈X.ex\/X.s₀.heap.objs.size<=b)/\(∀ x c,X.env.cells.lookup x=some c->c≠b)/\∀ p∈X.pn++pins,p.1≠b
theorem Inv.tI(I:Inv X pins σ H s)(hb:s.heap.objs.size<=b)(hn:H' b=none):mM X pins H' b:=by
 refine⟨hn,Nat.ne_of_gt (kU I.lt hb),I.IK hb,.inr (kC I.sz hb),fun x c e z=>?_,fun p J z=>?_⟩
 ·obtain⟨v,q⟩:=I.cell x c e;exact absurd (kU q.lt (by rw[z]; exact hb)) (Al _)
 ·exact absurd (kU (cG (I.pin p J).1) (by rw[z]; exact hb)) (Al _)
structure Turn (P:Program) (w:World) (K:aL) (tg:Expr) (J:It) (fp:List Addr) (it:Addr) (tn:Nat->Heap->Prop):Prop where
 mem:it∈fp
 obj:∀ i h,tn i h->∀ b∈fp,∃ o,h.get? b=some o/\∀ v,o.data≠.cell v
 keep:∀ i h h',tn i h->(∀ b∈fp,∀ o,h.get? b=some o->h'.get? b=some o)->tn i h'
 item:∀ (X:Cx),X.prog=P->X.w=w->X.K=K->X.calm=true->∀ (i:Nat) (pins:List (Addr × Obj)) (s:Shared) (σ:St) (H:Hp) (E:Value->Shared->Prop),Inv X pins σ H s->(∀ b∈fp,mM X pins H b)->tn i s.heap->J.go i H->
  wpAny (model P w) X.A (pyNext (.ref it)) (fun r s1=>∃ u,r=some u/\
   wpAny (model P w) X.A (letOwnedTupleGo tg (.ref it) u) (fun _ s2=>∃ x H',Inv X pins σ H' s2/\RelV x u/\J.yld i H x H'/\tn (i + 1) s2.heap/\∀ b∈fp,H' b=none) E s1) E s
 done:∀ (X:Cx),X.prog=P->X.w=w->X.K=K->X.calm=true->∀ (i:Nat) (pins:List (Addr × Obj)) (s:Shared) (σ:St) (H:Hp) (E:Value->Shared->Prop),Inv X pins σ H s->(∀ b∈fp,mM X pins H b)->tn i s.heap->J.stop i H->
  wpAny (model P w) X.A (pyNext (.ref it)) (fun r s1=>r=none/\Inv X pins σ H s1) E s
 self:∀ (A:Around) (i:Nat) (s:Shared) (Q:Value->Shared->Prop) (E:Value->Shared->Prop),tn i s.heap->Q (.ref it) s->wpAny (model P w) A (pyIter (.ref it)) Q E s
abbrev TI:=St->Hp->(It->Hp->Prop)->Prop
def Ja(X:Cx)(pins:List (Addr × Obj))(σ:St)(tg:Expr)(R:It->Hp->Prop)(itv:Value)(s2:Shared):Prop:=
 ∃ (it:Addr) (fp:List Addr) (tn:Nat->Heap->Prop) (J:It) (H':Hp),itv=.ref it/\Inv X pins σ H' s2/\Turn X.prog X.w X.K tg J fp it tn/\tn 0 s2.heap/\(∀ b∈fp,mM X pins H' b)/\R J H'
def PI(X:Cx)(tg iter:Expr)(wi:TI):Prop:=
 ∀ (pins:List (Addr × Obj)) (s:Shared) (σ:St) (H:Hp) (R:It->Hp->Prop),Inv X pins σ H s->wi σ H R->
  wpAny (model X.prog X.w) X.A (eval iter X.env) (fun v s1=>wpAny (model X.prog X.w) X.A (pyIter v) (Ja X pins σ tg R) X.xe s1) X.xe s
theorem yQ{it:Addr}{o:Obj}{n:String}{vs:Array Value}{Q:Unit->Shared->Prop}(ho:s.heap.get? it=some o)(hc:o.cls=.type n)(hd:o.data=.fields vs)
  (hn:["enumerate","zip","dict_itemiterator","dict_reverseitemiterator","odict_iterator","itertools.zip_longest","itertools.pairwise"].contains n=false) (hQ:Q () s):wpAny M A (letOwnedTupleGo tg (.ref it) u) Q E s:=by
 unfold letOwnedTupleGo;cases tg <;> first
  | exact aO hQ
  | (cases u <;> first
    | exact aO hQ
    | (refine ar (wpAny_load ho ?_)
       rw[hc,hd];show wpAny M A (if (["enumerate","zip","dict_itemiterator","dict_reverseitemiterator","odict_iterator","itertools.zip_longest","itertools.pairwise"].contains n && vs[0]? == some (rawInt _))=true then _ else _) Q E s;rw[if_neg (by intro h; rw[hn,Bool.false_and]at h; cases h)]
       exact aO hQ))
def FZ(K:aL)(a:Addr):It:=
 ⟨fun i H=>∃ xs x,bp K H a xs/\xs[i]?=some x,fun i H x H'=>H'=H/\∀ xs,bp K H a xs->xs[i]?=some x,fun i H=>∃ xs,bp K H a xs/\xs.length<=i⟩
def F2(K:aL)(a:Addr):It:=
 ⟨fun i H=>∃ xs x,bu K H a xs/\xs[i]?=some x,fun i H x H'=>H'=H/\∀ xs,bu K H a xs->xs[i]?=some x,fun i H=>∃ xs,bu K H a xs/\xs.length<=i⟩
def EI(lo:Int)(n:Nat):It:=⟨fun i _=>i < n,fun i H x H'=>H'=H/\x=.int (lo + i),fun i _=>n<=i⟩
theorem xt{K:aL}(a it:Addr):Turn P w K tg (FZ K a) [it] it (fun i h=>h.IsListIter it a i) where
 mem:=by simp
 obj:=fun i h st b J=>by
  have e:b=it:=by simpa using J
  subst e;obtain⟨o,e,c,d⟩:=st;exact⟨o,e,fun v z=>by rw[d]at z; cases z⟩
 keep:=fun i h h' st k=>st.at fun o e=>k it (by simp) o e
 item:=by
  intro X q g t A i pins s σ H E I U st r;subst q g t;obtain⟨xs,x,V,n⟩:=r;obtain⟨its,y,p,F⟩:=I.list V;obtain⟨u,N,B⟩:=y.get n;obtain⟨m,l,D,j,f,Z⟩:=U it (by simp);refine wpAny_pyNext_list_item st p.isList (x:=u) (by simpa using N) fun h' O L=>?_
  have M:Inv X pins σ H { s with heap:=h' }:=I.turned (t':=s.toks) (fun b o J e=>(L.2 b J).trans e) m l j f Z;obtain⟨o,e,c,d⟩:=id O;exact⟨u,rfl,yQ (s:={ s with heap:=h' }) e c d (by decide) ⟨x,H,M,B,⟨rfl,fun ys G=>by rw[I.sF G V]; exact n⟩,O,fun b J=>(U b J).1⟩⟩
 done:=by
  intro X q g t A i pins s σ H E I U st r;subst q g t;obtain⟨xs,V,n⟩:=r;obtain⟨its,y,p,F⟩:=I.list V;obtain⟨m,l,D,j,f,Z⟩:=U it (by simp);have Q:=y.length;exact wpAny_pyNext_list_end (I.ok.hd A) st p.isList (by simp; lia) fun h' C=>⟨rfl,I.turned (t':=s.toks) (fun b o J e=>C b o J e) m l j f Z⟩
 self:=fun _ _ _ _ _ st h=>wpAny_pyIter_listiter st h
theorem t7{K:aL}(a it:Addr):Turn P w K tg (F2 K a) [it] it (fun i h=>h.IsTupleIter it a i) where
 mem:=by simp
 obj:=fun i h st b J=>by
  have e:b=it:=by simpa using J
  subst e;obtain⟨o,e,c,d⟩:=st;exact⟨o,e,fun v z=>by rw[d]at z; cases z⟩
 keep:=fun i h h' st k=>st.at fun o e=>k it (by simp) o e
 item:=by
  intro X q g t A i pins s σ H E I U st r;subst q g t;obtain⟨xs,x,V,n⟩:=r;obtain⟨its,y,p,F⟩:=I.tuple V;obtain⟨u,N,B⟩:=y.get n;obtain⟨m,l,D,j,f,Z⟩:=U it (by simp);refine wpAny_pyNext_tuple_item st (show s.heap.IsTuple a its.toArray from p) (x:=u) (by simpa using N) fun h' O L=>?_
  have M:Inv X pins σ H { s with heap:=h' }:=I.turned (t':=s.toks) (fun b o J e=>(L.2 b J).trans e) m l j f Z;obtain⟨o,e,c,d⟩:=id O;exact⟨u,rfl,yQ (s:={ s with heap:=h' }) e c d (by decide) ⟨x,H,M,B,⟨rfl,fun ys G=>by rw[I.hJ G V]; exact n⟩,O,fun b J=>(U b J).1⟩⟩
 done:=by
  intro X q g t A i pins s σ H E I U st r;subst q g t;obtain⟨xs,V,n⟩:=r;obtain⟨its,y,p,F⟩:=I.tuple V;obtain⟨m,l,D,j,f,Z⟩:=U it (by simp);have Q:=y.length;exact wpAny_pyNext_tuple_end (I.ok.hd A) st (show s.heap.IsTuple a its.toArray from p) (by simp; lia) fun h' C=>⟨rfl,I.turned (t':=s.toks) (fun b o J e=>C b o J e) m l j f Z⟩
 self:=fun _ _ _ _ _ st h=>wpAny_pyIter_tupleiter st h
theorem ua{K:aL}(it:Addr)(lo:Int)(n:Nat):Turn P w K tg (EI lo n) [it] it (fun i h=>IsRangeIter h it (lo + (i:Nat) * 1) ((n:Int) - (i:Nat)) 1) where
 mem:=by simp
 obj:=fun i h st b J=>by
  have e:b=it:=by simpa using J
  subst e
  exact⟨_,st,fun v z=>by
   have z':Data.fields _=Data.cell v:=z
   cases z'⟩
 keep:=fun i h h' st k=>k it (by simp) _ st
 item:=by
  intro X j a m d i pins s σ H E I U st l;subst j a m;obtain⟨g,f,q,c,Z,V⟩:=U it (by simp);have W:=Walks.range (prog:=X.prog) (w:=X.w) (I.ok.hd d) it lo 1 n;refine W.item i s _ _ l st fun v h' tk u O kk=>?_
  obtain⟨t,rfl⟩:=u;have r:Inv X pins σ H { s with heap:=h',toks:=tk }:=I.turned (fun b o J e=>kk b o (by simpa using J) e) g f c Z V;refine⟨_,rfl,yQ (s:={ s with heap:=h',toks:=tk }) (n:="range_iterator") O rfl rfl (by decide) ⟨.int (lo + i),H,r,⟨t,?_⟩,⟨rfl,rfl⟩,O,fun b J=>(U b J).1⟩⟩;rw[Int.mul_one]
 done:=by
  intro X j a m d i pins s σ H E I U st l;subst j a m;obtain⟨g,f,q,c,Z,V⟩:=U it (by simp);exact wpAny_pyNext_range_end (I.ok.hd d) st (by have:n<=i:=l; lia) fun h' p=>⟨rfl,I.turned (t':=s.toks) (fun b o J e=>p b o J e) g f c Z V⟩
 self:=fun _ _ _ _ _ st h=>wpAny_pyIter_rangeiter st h
def Hn(K:aL)(tl:TE):TI:=fun σ H R=>tl σ H fun x H1=>aK R (fun a R=>x=.ref a/\(∃ xs,bp K H1 a xs)/\R (FZ K a) H1)
def IU(K:aL)(tl:TE):TI:=fun σ H R=>tl σ H fun x H1=>aK R (fun a R=>x=.ref a/\(∃ xs,bu K H1 a xs)/\R (F2 K a) H1)
theorem cM(hl:PE X l tl):PI X tg l (Hn X.K tl):=by
 intro pins s σ H R I h;refine cw (hl pins s σ H _ I h) fun v s1 J=>?_
 obtain⟨x,H1,O,c,U⟩:=J;obtain⟨a,e,⟨xs,Z⟩,q⟩:=U;subst e;cases c;obtain⟨its,f,p,d⟩:=O.list Z;refine wpAny_pyIter_list p.isList ?_;refine⟨s1.heap.objs.size,[s1.heap.objs.size],_,_,H1,rfl,O.kept (t':=s1.toks) fun b o e=>cB _ e,xt a _,⟨_,fB _ rfl,rfl,rfl⟩,fun b V=>?_,q⟩;have e:b=s1.heap.objs.size:=by simpa using V
 subst e;exact O.tI (bH _) (O.hok.fresh (bH _))
theorem mQ(hl:PE X l tl):PI X tg l (IU X.K tl):=by
 intro pins s σ H R I h;refine cw (hl pins s σ H _ I h) fun v s1 J=>?_
 obtain⟨x,H1,O,c,U⟩:=J;obtain⟨a,e,⟨xs,Z⟩,q⟩:=U;subst e;cases c;obtain⟨its,f,p,d⟩:=O.tuple Z;refine FQ (show s1.heap.IsTuple a its.toArray from p) ?_;refine⟨s1.heap.objs.size,[s1.heap.objs.size],_,_,H1,rfl,O.kept (t':=s1.toks) fun b o e=>cB _ e,t7 a _,⟨_,fB _ rfl,rfl,rfl⟩,fun b V=>?_,q⟩;have e:b=s1.heap.objs.size:=by simpa using V
 subst e;exact O.tI (bH _) (O.hok.fresh (bH _))
theorem A0{R:It->Hp->Prop}{hi:Int}{t u v:Tok}{tk:Nat}(I:Inv X pins σ H s)(h1:-(2 ^ 62)<=lo)(h2:lo < 2 ^ 62)(h3:-(2 ^ 62)<=hi)(h4:hi < 2 ^ 62)
  (q:R (EI lo (hi - lo).toNat) H):wpAny (model X.prog X.w) X.A (pyIter (.ref s.heap.objs.size)) (Ja X pins σ tg R) E { s with heap:=s.heap.push { cls:=.type "range",data:=.fields #[.int lo t,.int hi u,.int 1 v] },toks:=tk }:=by
 refine wpAny_pyIter_range (IsRange.new ..) (small_one h1 h2 h3 h4) ?_;have J:Inv X pins σ H { s with heap:=s.heap.push { cls:=.type "range",data:=.fields #[.int lo t,.int hi u,.int 1 v] },toks:=tk }:=I.kept fun b o e=>cB _ e
 refine⟨(s.heap.push { cls:=.type "range",data:=.fields #[.int lo t,.int hi u,.int 1 v] }).objs.size,[(s.heap.push { cls:=.type "range",data:=.fields #[.int lo t,.int hi u,.int 1 v] }).objs.size],_,_,H,rfl,
  J.kept (t':=tk) fun b o e=>cB _ e,ua _ lo (hi - lo).toNat,?_,fun b O=>?_,q⟩
 ·have U:lo + ((0:Nat):Int) * 1=lo:=by simp
  have V:(((hi - lo).toNat:Nat):Int) - ((0:Nat):Int)=Builtin.Range.rangeSize lo hi 1:=by rw[rangeSize_one]; split <;> lia
  show IsRangeIter _ _ (lo + ((0:Nat):Int) * 1) ((((hi - lo).toNat:Nat):Int) - ((0:Nat):Int)) 1;rw[U,V];exact fB _ rfl
 ·have e:b=(s.heap.push { cls:=.type "range",data:=.fields #[.int lo t,.int hi u,.int 1 v] }).objs.size:=by simpa using O
  subst e;exact J.tI (bH _) (J.hok.fresh (bH _))
def GY(ta:TA):TI:=fun σ H R=>ta σ H fun vs H1=>aK R (fun (j:Int) R=>vs=[.int j]/\-(2 ^ 62)<=j/\j < 2 ^ 62/\R (EI 0 j.toNat) H1)
theorem cK{a:Expr}{ta:TA}(hg:Gl X "range")(hm:X.mg "range" = none)(ha:PA X [a] ta)(hs:starEach [a] X.env=[(false,eval a X.env)]:=by rfl):PI X tg (.Call (.Name "range" p) [a] [] pos) (GY ta):=by
 intro pins s σ H R I h;refine Call_ (fN I hg hm boot_range (Eu (cw (ha pos pins s σ H _ I h) fun us s1 J=>?_) hs rfl));obtain⟨vs,H1,Z,b,O⟩:=J;obtain⟨j,e,O,V,q⟩:=O;subst e;cases b with
 | cons r U=>
  cases U;obtain⟨t,rfl⟩:=r;exact call_range_1 (A0 Z (by lia) (by lia) O V (by simpa using q))
def HG(wi:TI)(g:TG)(tb:TS):TS:=fun D σ H=>wi σ H fun J H1=>∃ W:Nat->Nat->St->Hp->Prop,(∃ m,W 0 m σ H1)/\∀ i m σ H,W i m σ H->
 (J.stop i H/\D.nx σ H)\/(J.go i H/\∃ N:St->Hp->Prop,(∀ σ' H',N σ' H'->∃ m',m' < m/\W (i + 1) m' σ' H')/\∀ x H',J.yld i H x H'->g x σ H' fun σ2 H2=>tb { D with nx:=N,ct:=N,bk:=D.nx } σ2 H2)
def mC(fp:List Addr)(h:Heap):List (Addr × Obj):=fp.filterMap fun b=>(h.get? b).map fun o=>(b,o)
theorem gk{o:Obj}(hb:b∈fp)(e:h.get? b=some o):(b,o)∈mC fp h:=List.mem_filterMap.mpr ⟨b,hb,by rw[e]; rfl⟩
theorem yh{p:Addr × Obj}(hp:p∈mC fp h):p.1∈fp/\h.get? p.1=some p.2:=by
 obtain⟨b,I,e⟩:=List.mem_filterMap.mp hp;cases q:h.get? b with
 | none=>rw[q]at e; cases e
 | some o=>
  rw[q]at e;have J:(b,o)=p:=pL e;subst J;exact⟨I,q⟩
theorem Inv.pinned(I:Inv X pins σ H s)(hf:∀ b∈fp,mM X pins H b)(ho:∀ b∈fp,∃ o,s.heap.get? b=some o/\∀ v,o.data≠.cell v):Inv X (pins++mC fp s.heap) σ H s:=
 I.vB fun p U=>(fY.mp U).elim (fun z=>I.pin p (uD _ z)) fun z=>by
  obtain⟨J,e⟩:=yh z;obtain⟨V,a,Z,_⟩:=hf p.1 J;obtain⟨o,O,d⟩:=ho p.1 J;rw[e]at O; cases O;exact⟨e,V,a,Z,d⟩
theorem Inv.jH{pl:List (Addr × Obj)}(I:Inv X (pins++pl) σ H s):Inv X pins σ H s:=I.vB fun p J=>I.pin p (uD _ (uj _ J))
theorem dg{iter:Expr}{wi:TI}(hp:PassesOwn (model X.prog X.w) X.A X.env X.xe)(hc:X.calm=true)(hi:PI X tg iter wi)(hg:PG X tg g)(hb:xy X body tb)
  (hs:∀ x,foldedSetIterable iter X.env x=pure x:=by intro _; rfl):PS X (.For tg iter body [] pos) (HG wi g tb):=by
 intro pins s σ H D I h;refine wpAny_For (cw (hi pins s σ H _ I h) fun v s1 h1=>cw h1 fun M s2 h2=>?_) hs;obtain⟨it,fp,B,J,H2,e,F,T,p,z,W,⟨m0,w0⟩,turn⟩:=h2;subst e
 -- what stays true of the iterator's objects through the loop
 have V:∀ {H':Hp},(∀ b∈fp,H' b=none)->∀ b∈fp,mM X pins H' b:=fun hn b hb=>⟨hn b hb,(z b hb).2⟩
 refine codeAny_forLoop_any (fun n s'=>∃ i σ' H',Inv X pins σ' H' s'/\B i s'.heap/\(∀ b∈fp,H' b=none)/\W i n σ' H') ?_ m0 ⟨0,σ,H2,F,p,fun b hb=>(z b hb).1,w0⟩
 rintro n C ⟨i,σ3,H3,I3,st3,fr3,w3⟩
 rcases turn i n σ3 H3 w3 with ⟨stop,qn⟩ | ⟨go,N,L,step⟩
 ·refine wpAny_passesOwn hp (cw (T.done X rfl rfl rfl hc i pins C σ3 H3 X.xe I3 (V fr3) st3 stop) fun r s4 O=>?_);obtain⟨t,I4⟩:=O;subst t;exact wpAny_execs_nil ⟨σ3,H3,I4,qn⟩
 ·refine wpAny_passesOwn hp (cw (T.item X rfl rfl rfl hc i pins C σ3 H3 X.xe I3 (V fr3) st3 go) fun r s4 O=>?_);obtain⟨u,t,h4⟩:=O;subst t;refine wpAny_passesOwn hp (cw h4 fun _ E O=>?_);obtain⟨x,A,Q,Y,G,j,y⟩:=O;have q:=Q.pinned (V y) (T.obj _ _ j);refine wpAny_passesOwn hp (cw (hg _ E σ3 A x u _ q Y (step x A G)) fun _ s6 O=>?_);obtain⟨σ6,S,R,q6⟩:=O;refine wpAny_passesOwn hp (cw (hb _ s6 σ6 S _ R q6) fun f l c=>?_);have a:∀ {σ7:St} {Z:Hp},Inv X (pins++mC fp E.heap) σ7 Z l->N σ7 Z->∃ m,m < n/\∃ i σ' H',Inv X pins σ' H' l/\B i l.heap/\(∀ b∈fp,H' b=none)/\W i m σ' H':=fun {σ7 Z} U k=>by
   obtain⟨m',hm,w7⟩:=L σ7 Z k;refine⟨m',hm,i + 1,σ7,Z,U.jH,T.keep _ _ _ j fun b hb o e=>(U.pin (b,o) (uD _ (uD _ (gk hb e)))).1,fun b hb=>?_,w7⟩;obtain⟨o,e,d⟩:=T.obj _ _ j b hb;exact (U.pin (b,o) (uD _ (uD _ (gk hb e)))).2.1
  cases f with
  | next=>obtain⟨σ7,Z,U,k⟩:=c; exact a U k
  | cont=>obtain⟨σ7,Z,U,k⟩:=c; exact a U k
  | brk=>obtain⟨σ7,Z,U,c⟩:=c; exact⟨σ7,Z,U.jH,c⟩
  | ret v=>obtain⟨x7,σ7,Z,U,r7,c⟩:=c; exact⟨x7,σ7,Z,U.jH,r7,c⟩
theorem d9{K:aL}{D:Ends}(Pv:Nat->St->Hp->Prop)(h0:Pv 0 σ H)(hl:∀ i σ H,i<=xs.length->Pv i σ H->bp K H a xs)
  (hs:∀ i x σ H,xs[i]?=some x->Pv i σ H->g x σ H fun σ2 H2=>tb { D with nx:=Pv (i + 1),ct:=Pv (i + 1),bk:=D.nx } σ2 H2) (hd:∀ σ H,Pv xs.length σ H->D.nx σ H) :
  ∃ W:Nat->Nat->St->Hp->Prop,(∃ m,W 0 m σ H)/\∀ i m σ H,W i m σ H->
   ((FZ K a).stop i H/\D.nx σ H)\/((FZ K a).go i H/\∃ N:St->Hp->Prop,(∀ σ' H',N σ' H'->∃ m',m' < m/\W (i + 1) m' σ' H')/\∀ x H',(FZ K a).yld i H x H'->g x σ H' fun σ2 H2=>tb { D with nx:=N,ct:=N,bk:=D.nx } σ2 H2):=by
 refine⟨fun i m σ H=>m=xs.length - i/\i<=xs.length/\Pv i σ H,⟨xs.length,by simp,dI _,h0⟩,?_⟩
 rintro i m σ H ⟨rfl,hi,p⟩
 have q:=hl i σ H hi p;by_cases I:i < xs.length
 ·refine .inr ⟨⟨xs,xs[i],q,by simp[I]⟩,Pv (i + 1),fun σ' H' J=>⟨xs.length - (i + 1),by lia,rfl,I,J⟩,fun x H' y=>?_⟩;obtain⟨e,y⟩:=y;subst e;exact hs i x σ _ (y xs q) p
 ·have e:i=xs.length:=by lia
  subst e;exact .inl ⟨⟨xs,q,bH _⟩,hd σ H p⟩
theorem Cb{K:aL}{D:Ends}(Pv:Nat->St->Hp->Prop)(h0:Pv 0 σ H)(hl:∀ i σ H,i<=xs.length->Pv i σ H->bu K H a xs)
  (hs:∀ i x σ H,xs[i]?=some x->Pv i σ H->g x σ H fun σ2 H2=>tb { D with nx:=Pv (i + 1),ct:=Pv (i + 1),bk:=D.nx } σ2 H2) (hd:∀ σ H,Pv xs.length σ H->D.nx σ H) :
  ∃ W:Nat->Nat->St->Hp->Prop,(∃ m,W 0 m σ H)/\∀ i m σ H,W i m σ H->
   ((F2 K a).stop i H/\D.nx σ H)\/((F2 K a).go i H/\∃ N:St->Hp->Prop,(∀ σ' H',N σ' H'->∃ m',m' < m/\W (i + 1) m' σ' H')/\∀ x H',(F2 K a).yld i H x H'->g x σ H' fun σ2 H2=>tb { D with nx:=N,ct:=N,bk:=D.nx } σ2 H2):=by
 refine⟨fun i m σ H=>m=xs.length - i/\i<=xs.length/\Pv i σ H,⟨xs.length,by simp,dI _,h0⟩,?_⟩
 rintro i m σ H ⟨rfl,hi,p⟩
 have q:=hl i σ H hi p;by_cases I:i < xs.length
 ·refine .inr ⟨⟨xs,xs[i],q,by simp[I]⟩,Pv (i + 1),fun σ' H' J=>⟨xs.length - (i + 1),by lia,rfl,I,J⟩,fun x H' y=>?_⟩;obtain⟨e,y⟩:=y;subst e;exact hs i x σ _ (y xs q) p
 ·have e:i=xs.length:=by lia
  subst e;exact .inl ⟨⟨xs,q,bH _⟩,hd σ H p⟩
theorem hX{D:Ends}(Pv:Nat->St->Hp->Prop)(h0:Pv 0 σ H)
  (hs:∀ i σ H,i < n->Pv i σ H->g (.int (lo + i)) σ H fun σ2 H2=>tb { D with nx:=Pv (i + 1),ct:=Pv (i + 1),bk:=D.nx } σ2 H2) (hd:∀ σ H,Pv n σ H->D.nx σ H) :
  ∃ W:Nat->Nat->St->Hp->Prop,(∃ m,W 0 m σ H)/\∀ i m σ H,W i m σ H->
   ((EI lo n).stop i H/\D.nx σ H)\/((EI lo n).go i H/\∃ N:St->Hp->Prop,(∀ σ' H',N σ' H'->∃ m',m' < m/\W (i + 1) m' σ' H')/\∀ x H',(EI lo n).yld i H x H'->g x σ H' fun σ2 H2=>tb { D with nx:=N,ct:=N,bk:=D.nx } σ2 H2):=by
 refine⟨fun i m σ H=>m=n - i/\i<=n/\Pv i σ H,⟨n,by simp,dI _,h0⟩,?_⟩
 rintro i m σ H ⟨rfl,hi,p⟩
 by_cases I:i < n
 ·refine .inr ⟨I,Pv (i + 1),fun σ' H' J=>⟨n - (i + 1),by lia,rfl,I,J⟩,fun x H' y=>?_⟩;obtain⟨e,y⟩:=y;subst e y;exact hs i σ _ I p
 ·have e:i=n:=by lia
  subst e;exact .inl ⟨bH _,hd σ H p⟩
abbrev R2:=V->V->Hp->VK->Prop
def iL(X:Cx)(f:Value->Value->Sem Value)(r:R2):Prop:=
 ∀ (pins:List (Addr × Obj)) (s:Shared) (σ:St) (H:Hp) (x y:V) (v u:Value) (Q:VK),Inv X pins σ H s->RelV x v->RelV y u->r x y H Q->
  wpAny (model X.prog X.w) X.A (f v u) (EP X pins σ Q) X.xe s
def HI(X:Cx)(f:Value->Sem Value)(r:V->Hp->VK->Prop):Prop:=
 ∀ (pins:List (Addr × Obj)) (s:Shared) (σ:St) (H:Hp) (x:V) (v:Value) (Q:VK),Inv X pins σ H s->RelV x v->r x H Q->
  wpAny (model X.prog X.w) X.A (f v) (EP X pins σ Q) X.xe s
def d8(X:Cx)(f:Value)(r:List V->Hp->VK->Prop):Prop:=
 ∀ (pins:List (Addr × Obj)) (s:Shared) (σ:St) (H:Hp) (xs:List V) (us:List Value) (Q:VK),Inv X pins σ H s->Vals xs us->r xs H Q->
  wpAny (model X.prog X.w) X.A (call f us) (EP X pins σ Q) X.xe s
def IS(X:Cx)(r:V->Hp->(Bool->Hp->Prop)->Prop):Prop:=
 ∀ (pins:List (Addr × Obj)) (s:Shared) (σ:St) (H:Hp) (x:V) (v:Value) (Q:Bool->Hp->Prop),Inv X pins σ H s->RelV x v->r x H Q->
  wpAny (model X.prog X.w) X.A (truthy v) (TP X pins σ Q) X.xe s
def HC(r:R2)(ta tb:TE):TE:=fun σ H Q=>ta σ H fun x H1=>tb σ H1 fun y H2=>r x y H2 Q
def Jq(r:V->Hp->VK->Prop)(ta:TE):TE:=fun σ H Q=>ta σ H fun x H1=>r x H1 Q
inductive rI(C:Int->Int->Prop)(g:Int->Int->V)(x y:V)(H:Hp)(Q:VK):Prop|m(i j:_)(_:x=.int i)(_:y=.int j)(_:C i j)(_:Q (g i j) H)
inductive Bz(g:Int->Int->V)(x y:V)(H:Hp)(Q:VK):Prop|m(i j:_)(_:x=.int i)(_:y=.int j)(_:Q (g i j) H)
inductive rU(g:Int->V)(x:V)(H:Hp)(Q:VK):Prop|m(i:_)(_:x=.int i)(_:Q (g i) H)
section
variable {a b:Expr}{tb tc:TE}
theorem FE(ha:PE X a ta)(hb:PE X b tb){R:V->V->Hp->Prop}(I:Inv X pins σ H s)
  (h:ta σ H fun x H1=>tb σ H1 fun y H2=>R x y H2) {f:Value->Value->Sem Value}
  (hf:∀ v u s2 x y H2,Inv X pins σ H2 s2->RelV x v->RelV y u->R x y H2->wpAny (model X.prog X.w) X.A (f v u) Q X.xe s2) :
  wpAny (model X.prog X.w) X.A (eval a X.env) (fun v s₁=>wpAny (model X.prog X.w) X.A (eval b X.env) (fun u s₂=>wpAny (model X.prog X.w) X.A (f v u) Q X.xe s₂) X.xe s₁) X.xe s:=by
 refine cw (ha pins s σ H _ I h) fun v s1 J=>?_
 obtain⟨x,H1,d,U,e⟩:=J;refine cw (hb pins s1 σ H1 _ d e) fun u s2 J=>?_
 obtain⟨y,H2,Z,c,O⟩:=J;exact hf v u s2 x y H2 Z U c O
theorem ao{op:Operator}(ho:iL X (binaryOp op) r)(ha:PE X a ta)(hb:PE X b tb):PE X (.BinOp a op b pos) (HC r ta tb):=by
 intro pins s σ H Q I h;exact wpAny_BinOp (FE ha hb I h fun v u s2 x y H2 J O U q=>ho pins s2 σ H2 x y v u Q J O U q)
theorem gJ{op:UnaryOp}{r:V->Hp->VK->Prop}(ho:HI X (unaryOp op) r)(ha:PE X a ta):PE X (.UnaryOp op a pos) (Jq r ta):=by
 intro pins s σ H Q I h;exact UnaryOp_ (cw (ha pins s σ H _ I h) fun v s1 J=>by obtain⟨x,H1,U,O,Z⟩:=J; exact ho pins s1 σ H1 x v Q U O Z)
theorem FR{f:Value->Value->Sem Value}{C:Int->Int->Prop}{g:Int->Int->Int}
  (rule:∀ (i j:Int) (t u:Tok) (s:Shared) (Q:Value->Shared->Prop) (E:Value->Shared->Prop),C i j->Q (.int (g i j) s.toks) { s with toks:=s.toks + 1 }->wpAny (model X.prog X.w) X.A (f (.int i t) (.int j u)) Q E s) :
  iL X f (rI C fun i j=>.int (g i j)):=by
 intro pins s σ H x y v u Q I O U h;obtain⟨i,j,rfl,rfl,J,q⟩:=h;obtain⟨t,rfl⟩:=O;obtain⟨t',rfl⟩:=U;exact rule i j t t' s _ _ J ⟨.int (g i j),H,I.tok _,⟨_,rfl⟩,q⟩
theorem F4{f:Value->Value->Sem Value}{g:Int->Int->Int}
  (rule:∀ (i j:Int) (t u:Tok) (s:Shared) (Q:Value->Shared->Prop) (E:Value->Shared->Prop),Q (.int (g i j) s.toks) { s with toks:=s.toks + 1 }->wpAny (model X.prog X.w) X.A (f (.int i t) (.int j u)) Q E s) :
  iL X f (Bz fun i j=>.int (g i j)):=by
 intro pins s σ H x y v u Q I J O h;obtain⟨i,j,rfl,rfl,q⟩:=h;obtain⟨t,rfl⟩:=J;obtain⟨t',rfl⟩:=O;exact rule i j t t' s _ _ ⟨.int (g i j),H,I.tok _,⟨_,rfl⟩,q⟩
theorem BS{f:Value->Value->Sem Value}{g:Int->Int->Bool}
  (rule:∀ (i j:Int) (t u:Tok) (s:Shared) (Q:Value->Shared->Prop) (E:Value->Shared->Prop),Q (.bool (g i j)) s->wpAny (model X.prog X.w) X.A (f (.int i t) (.int j u)) Q E s) :
  iL X f (Bz fun i j=>.bl (g i j)):=by
 intro pins s σ H x y v u Q I J O h;obtain⟨i,j,rfl,rfl,q⟩:=h;obtain⟨t,rfl⟩:=J;obtain⟨t',rfl⟩:=O;exact rule i j t t' s _ _ ⟨.bl (g i j),H,I,rfl,q⟩
def Ih(i j:Int):Prop:=0 < j/\j < 1073741824
def Hs(i j:Int):Prop:=0<=j/\j<=1000000/\i.natAbs < 2 ^ 64
def FC(i j:Int):Prop:=(-(2 ^ 64) < i/\i < 2 ^ 64)\/(-(2 ^ 64) < j/\j < 2 ^ 64)
theorem FC.ok{i j:Int}(h:FC i j):IntMulOk i j:=by
 rcases h with ⟨h1,h2⟩ | ⟨h1,h2⟩
 ·exact .of_left (intBits_le_64 h1 h2)
 ·exact .of_right (intBits_le_64 h1 h2)
theorem bj:iL X (binaryOp .Add) (Bz fun i j=>.int (i + j)):=F4 fun _ _ _ _ _ _ _ q=>add_int q
theorem gg:iL X (binaryOp .Sub) (Bz fun i j=>.int (i - j)):=F4 fun _ _ _ _ _ _ _ q=>sub_int q
theorem gL:iL X (binaryOp .Mult) (rI FC fun i j=>.int (i * j)):=FR fun _ _ _ _ _ _ _ I q=>mul_int q I.ok
theorem aS:iL X (binaryOp .FloorDiv) (rI Ih fun i j=>.int (i / j)):=FR fun i j _ _ _ _ _ I q=>by
 have h1:(0:Int) < j:=I.1;have h2:j < 1073741824:=I.2;exact floordiv_int (by lia) (by rw[Int.fdiv_eq_ediv_of_nonneg i (by lia)]; exact q) (.inl (PyProof.noPylong_small (by lia)))
theorem aJ:iL X (binaryOp .Mod) (rI (fun _ j=>0 < j) fun i j=>.int (i % j)):=FR fun i j _ _ _ _ _ I q=>by
 have h1:(0:Int) < j:=I;exact mod_int' (by lia) (by rw[Int.fmod_eq_emod_of_nonneg i (by lia)]; exact q)
theorem Ea:iL X (binaryOp .Pow) (rI Hs fun i j=>.int (i ^ j.toNat)):=FR fun _ _ _ _ _ _ _ I q=>pow_int_small I.1 I.2.1 I.2.2 q
theorem Fv:iL X (binaryOp .LShift) (rI Hs fun i j=>.int (i * 2 ^ j.toNat)):=FR fun _ _ _ _ _ _ _ I q=>lshift_int_small I.1 I.2.1 I.2.2 q
theorem JA{f:Value->Sem Value}{g:Int->Int}
  (rule:∀ (i:Int) (t:Tok) (s:Shared) (Q:Value->Shared->Prop) (E:Value->Shared->Prop),Q (.int (g i) s.toks) { s with toks:=s.toks + 1 }->wpAny (model X.prog X.w) X.A (f (.int i t)) Q E s) :
  HI X f (rU fun i=>.int (g i)):=by
 intro pins s σ H x v Q I J h;obtain⟨i,rfl,q⟩:=h;obtain⟨t,rfl⟩:=J;exact rule i t s _ _ ⟨.int (g i),H,I.tok _,⟨_,rfl⟩,q⟩
theorem fv:HI X (unaryOp .USub) (rU fun i=>.int (-i)):=JA fun _ _ _ _ _ q=>neg_int q
end
def E8:V->V->Bool
 | .non,.non=>true | .non,.int _=>true | .int _,.non=>true | .non,.bl _=>true | .bl _,.non=>true | .non,.str _=>true | .str _,.non=>true
 | .int _,.int _=>true | .bl _,.bl _=>true | .str _,.str _=>true | .byt _,.byt _=>true
 | .int _,.str _=>true | .str _,.int _=>true | .bl _,.str _=>true | .str _,.bl _=>true
 | _,_=>false
def Jk:R2:=fun x y H Q=>E8 x y=true/\Q (.bl (decide (x=y))) H
def Jw:R2:=fun x y H Q=>E8 x y=true/\Q (.bl (!decide (x=y))) H
theorem vQ{i j:Int}:decide (V.int i=V.int j)=(i == j):=by
 rw[Bool.eq_iff_iff];simp
theorem Ap{i j:Bool}:decide (V.bl i=V.bl j)=(i == j):=by
 rw[Bool.eq_iff_iff];simp
theorem wF{i j:Str}:decide (V.str i=V.str j)=(i == j):=by
 rw[Bool.eq_iff_iff];simp
theorem vH{i j:Array UInt8}:decide (V.byt i=V.byt j)=(i.toList == j.toList):=by
 rw[Bool.eq_iff_iff];cases i;cases j;simp
section
variable {a b:Expr}{tb tc:TE}
theorem bD{Q:VK}{k k':Bool}(I:Inv X pins σ H s)(q:Q (.bl k) H)(e:k=k'):EP X pins σ Q (.bool k') s:=by
 subst e;exact⟨.bl k,H,I,rfl,q⟩
theorem cm:iL X (compareOp .Eq) Jk:=by
 intro pins s σ H x y v u Q I O J h;obtain⟨hs,q⟩:=h;cases x with
 | non=>
  cases O;cases y with
  | non=>cases J; exact PySem.EqNone.eq_none_none (bD I q (by simp))
  | bl j=>cases J; exact PySem.EqNone.eq_none_bool (bD I q (by simp))
  | int j=>obtain⟨t',rfl⟩:=J; exact PySem.EqNone.eq_none_int (bD I q (by simp))
  | str j=>obtain⟨t',rfl⟩:=J; exact PySem.EqNone.eq_none_str (bD I q (by simp))
  | _=>exact absurd (show false=true from hs) eN
 | bl i=>
  cases O;cases y with
  | non=>cases J; exact PySem.EqNone.eq_bool_none (bD I q (by simp))
  | bl j=>cases J; exact eq_bool (bD I q Ap)
  | str j=>obtain⟨t',rfl⟩:=J; exact PySem.EqMixed.eq_bool_str (bD I q (by simp))
  | _=>exact absurd (show false=true from hs) eN
 | int i=>
  obtain⟨t,rfl⟩:=O;cases y with
  | non=>cases J; exact PySem.EqNone.eq_int_none (bD I q (by simp))
  | int j=>obtain⟨t',rfl⟩:=J; exact eq_int (bD I q vQ)
  | str j=>obtain⟨t',rfl⟩:=J; exact PySem.EqMixed.eq_int_str (bD I q (by simp))
  | _=>exact absurd (show false=true from hs) eN
 | str i=>
  obtain⟨t,rfl⟩:=O;cases y with
  | non=>cases J; exact PySem.EqNone.eq_str_none (bD I q (by simp))
  | bl j=>cases J; exact PySem.EqMixed.eq_str_bool (bD I q (by simp))
  | int j=>obtain⟨t',rfl⟩:=J; exact PySem.EqMixed.eq_str_int (bD I q (by simp))
  | str j=>obtain⟨t',rfl⟩:=J; exact eq_str (bD I q wF)
  | _=>exact absurd (show false=true from hs) eN
 | byt i=>
  obtain⟨t,rfl⟩:=O;cases y with
  | byt j=>obtain⟨t',rfl⟩:=J; exact PySem.W.eq_bytes (bD I q vH)
  | _=>exact absurd (show false=true from hs) eN
 | _=>cases y <;> exact absurd (show false=true from hs) eN
theorem sJ:iL X (compareOp .NotEq) Jw:=by
 intro pins s σ H x y v u Q I O J h;obtain⟨hs,q⟩:=h;cases x with
 | non=>
  cases O;cases y with
  | non=>cases J; exact PySem.EqNone.ne_none_none (bD I q (by simp))
  | bl j=>cases J; exact PySem.EqNone.ne_none_bool (bD I q (by simp))
  | int j=>obtain⟨t',rfl⟩:=J; exact PySem.EqNone.ne_none_int (bD I q (by simp))
  | str j=>obtain⟨t',rfl⟩:=J; exact PySem.EqNone.ne_none_str (bD I q (by simp))
  | _=>exact absurd (show false=true from hs) eN
 | bl i=>
  cases O;cases y with
  | non=>cases J; exact PySem.EqNone.ne_bool_none (bD I q (by simp))
  | bl j=>cases J; exact ne_bool (bD I q (pq not Ap))
  | str j=>obtain⟨t',rfl⟩:=J; exact PySem.EqMixed.ne_bool_str (bD I q (by simp))
  | _=>exact absurd (show false=true from hs) eN
 | int i=>
  obtain⟨t,rfl⟩:=O;cases y with
  | non=>cases J; exact PySem.EqNone.ne_int_none (bD I q (by simp))
  | int j=>obtain⟨t',rfl⟩:=J; exact ne_int (bD I q (pq not vQ))
  | str j=>obtain⟨t',rfl⟩:=J; exact PySem.EqMixed.ne_int_str (bD I q (by simp))
  | _=>exact absurd (show false=true from hs) eN
 | str i=>
  obtain⟨t,rfl⟩:=O;cases y with
  | non=>cases J; exact PySem.EqNone.ne_str_none (bD I q (by simp))
  | bl j=>cases J; exact PySem.EqMixed.ne_str_bool (bD I q (by simp))
  | int j=>obtain⟨t',rfl⟩:=J; exact PySem.EqMixed.ne_str_int (bD I q (by simp))
  | str j=>obtain⟨t',rfl⟩:=J; exact ne_str (bD I q (pq not wF))
  | _=>exact absurd (show false=true from hs) eN
 | byt i=>
  obtain⟨t,rfl⟩:=O;cases y with
  | byt j=>obtain⟨t',rfl⟩:=J; exact PySem.W.ne_bytes (bD I q (pq not vH))
  | _=>exact absurd (show false=true from hs) eN
 | _=>cases y <;> exact absurd (show false=true from hs) eN
theorem tP:iL X (compareOp .Lt) (Bz fun i j=>.bl (decide (i < j))):=BS fun _ _ _ _ _ _ _ q=>lt_int q
theorem wj:iL X (compareOp .LtE) (Bz fun i j=>.bl (decide (i<=j))):=BS fun _ _ _ _ _ _ _ q=>le_int q
theorem gI:iL X (compareOp .Gt) (Bz fun i j=>.bl (decide (j < i))):=BS fun _ _ _ _ _ _ _ q=>gt_int q
theorem GC:iL X (compareOp .GtE) (Bz fun i j=>.bl (decide (j<=i))):=BS fun _ _ _ _ _ _ _ q=>ge_int q
theorem qe:iL X (compareOp .Is) (fun x y H Q=>y=.non/\Q (.bl (decide (x=.non))) H):=by
 intro pins s σ H x y v u Q I J O h;obtain⟨rfl,q⟩:=h;cases O;refine is_none_gen (bD I q ?_);cases x <;> first
  | (cases J; rfl)
  | (obtain⟨t,rfl⟩:=J; rfl)
theorem AA(b:Expr)(h:op≠.In:=by decide)(h2:op≠.NotIn:=by decide):behindInMarks op b=false:=by
 have J:(op == CmpOp.In)=false:=by cases op <;> first | rfl | exact absurd rfl h
 have I:(op == CmpOp.NotIn)=false:=by cases op <;> first | rfl | exact absurd rfl h2
 cases b <;> simp[behindInMarks,J,I]
theorem cN(ho:iL X (compareOp op) r)(ha:PE X a ta)(hb:PE X b tb)(hm:behindInMarks op b=false:=by exact AA _):PE X (.Compare a [op] [b] pos) (HC r ta tb):=by
 intro pins s σ H Q I h;exact wpAny_Compare1 (FE ha hb I h fun v u s2 x y H2 J O U q=>ho pins s2 σ H2 x y v u Q J O U q) hm
def Aa(t:TE):TT:=fun σ H Q=>t σ H fun x H'=>aK Q (fun k Q=>x=.bl k/\Q k H')
theorem aF(ho:iL X (compareOp op) r)(ha:PE X a ta)(hb:PE X b tb)(hm:behindInMarks op b=false:=by exact AA _):PT X (.Compare a [op] [b] pos) (Aa (HC r ta tb)):=by
 intro pins s σ H Q I h;refine wpAny_isTrue_Compare1 (cw (ha pins s σ H _ I h) fun v s1 J=>?_) hm;obtain⟨x,H1,f,j,V⟩:=J;refine cw (hb pins s1 σ H1 _ f V) fun u s2 J=>?_
 obtain⟨y,H2,O,U,d⟩:=J;refine cw (ho pins s2 σ H2 x y v u _ O j U d) fun c m J=>?_
 obtain⟨z,l,g,Z,k,e,i⟩:=J;subst e;cases Z;exact DK ⟨l,g,i⟩
def Bq(r r':R2)(ta tb tc:TE):TE:=fun σ H Q=>ta σ H fun x H1=>tb σ H1 fun y H2=>r x y H2 fun z H3=>aK Q (fun k Q=>z=.bl k/\
 (if k=true then tc σ H3 fun w' H4=>r' y w' H4 Q else Q (.bl false) H3))
theorem rl{op':CmpOp}{r':R2}(ho:iL X (compareOp op) r)(ho':iL X (compareOp op') r')(ha:PE X a ta)(hb:PE X b tb)(hc:PE X c tc)
  (hm:lastMarks [op,op'] [b,c]=false:=by with_unfolding_all rfl):PT X (.Compare a [op,op'] [b,c] pos) (Aa (Bq r r' ta tb tc)):=by
 intro pins s σ H Q I h;refine isTrue_chain (cw (ha pins s σ H _ I h) fun v s1 J=>?_) hm;obtain⟨x,H1,C,L,o⟩:=J;refine test_link (cw (hb pins s1 σ H1 _ C o) fun u s2 J=>?_);obtain⟨y,H2,f,O,t⟩:=J;refine cw (ho pins s2 σ H2 x y v u _ f L O t) fun d G J=>?_
 obtain⟨z,Z,U,p,k,e,V⟩:=J;subst e;cases p;refine DK ?_;cases k with
 | false=>
  obtain⟨k',g,D⟩:=V;cases g;exact ite_ff ⟨Z,U,D⟩
 | true=>
  refine ite_tt (test_last (cw (hc pins G σ Z _ U V) fun m F J=>?_));obtain⟨z',E,M,i,j⟩:=J;refine cw (ho' pins F σ E y z' u m _ M O i j) fun d' R J=>?_
  obtain⟨N,l,n,A,k2,B,q⟩:=J;subst B;cases A;exact DK ⟨l,n,q⟩
def Ge(K:aL)(x:V)(H:Hp)(k:Bool):Prop:=
 match x with
 | .non=>k=false
 | .bl b=>k=b
 | .int i=>k=(i != 0)
 | .str y=>y.length<=sizeLine/\k=((y.length:Int) != 0)
 | .byt y=>y.size<=sizeLine/\k=((y.size:Int) != 0)
 | .ref p=>(∃ xs,bp K H p xs/\k=!xs.isEmpty)\/(∃ xs,bu K H p xs/\k=!xs.isEmpty)\/∃ kvs,H p=some (.dK kvs)/\k=!kvs.isEmpty
 | _=>False
theorem uJ{κ:Type}{kvs:List (κ × V)}{vs:List (κ × Value)}(r:KV kvs vs):(!vs.isEmpty)=!kvs.isEmpty:=by
 cases r <;> rfl
theorem mj{its:List Value}(r:Vals xs its):(!its.toArray.isEmpty)=!xs.isEmpty:=by
 cases r <;> simp
theorem mq:(sizeLine:Nat) < 2 ^ 63:=by rw[mP]; decide
theorem EJ:IS X (fun x H Q=>∃ k,Ge X.K x H k/\Q k H):=by
 intro pins s σ H x v Q I U h;obtain⟨k,e,q⟩:=h;have d:=mq;have hs:sizeLine=16777216:=mP;cases x with
 | non=>
  cases U;have J:k=false:=e;subst J;exact truthy_none ⟨H,I,q⟩
 | bl b=>
  cases U;have J:k=b:=e;subst J;exact DK ⟨H,I,q⟩
 | int i=>
  obtain⟨t,rfl⟩:=U;have J:k=(i != 0):=e;subst J;exact PySem.P.truthy_int ⟨H,I,q⟩
 | str y=>
  obtain⟨t,rfl⟩:=U;obtain⟨a,J⟩:y.length<=sizeLine/\k=((y.length:Int) != 0):=e;subst J;exact PySem.P.truthy_str (by lia) ⟨H,I.tok _,q⟩
 | byt y=>
  obtain⟨t,rfl⟩:=U;obtain⟨a,J⟩:y.size<=sizeLine/\k=((y.size:Int) != 0):=e;subst J;exact PySem.W.truthy_bytes (by lia) ⟨H,I.tok _,q⟩
 | ref p=>
  cases U;have J:(∃ xs,bp X.K H p xs/\k=!xs.isEmpty)\/(∃ xs,bu X.K H p xs/\k=!xs.isEmpty)\/∃ kvs,H p=some (.dK kvs)/\k=!kvs.isEmpty:=e;rcases J with ⟨xs,V,J⟩ | ⟨xs,V,J⟩ | ⟨kvs,V,J⟩
  ·subst J;obtain⟨its,r,pl,Z⟩:=I.list V;have O:=r.length;exact wpAny_truthy_list pl.isList (by simp only[ff]; lia) ⟨H,I.tok _,by rw[mj r]; exact q⟩
  ·subst J;obtain⟨its,r,pl,Z⟩:=I.tuple V;have O:=r.length;exact truthy_tuple pl (by simp only[ff]; lia) ⟨H,I.tok _,by rw[mj r]; exact q⟩
  ·subst J;obtain⟨Z,c,vs,r,m⟩:kvs.length<=sizeLine/\(p == sysModules)=false/\∃ vs,KV kvs vs/\s.heap.DictOf (bt X.prog X.w) p vs:=I.hok p _ V;have O:kvs.length=vs.length:=Paired.length r;exact wpAny_truthy_dict c m (by lia) ⟨H,I.tok _,by rw[uJ r]; exact q⟩
 | _=>exact (show False from e).elim
theorem zN(ha:PE X a ta)(he:∀ whole,isTrue a X.env whole=(do let v <-whole; standAt a.pos; holding [v] (truthy v))) :
  PT X a (fun σ H Q=>ta σ H fun x H'=>∃ k,Ge X.K x H' k/\Q k H'):=by
 intro pins s σ H Q I h;exact isTrue_plain (cw (ha pins s σ H _ I h) fun v s1 J=>by obtain⟨x,H1,U,O,V⟩:=J; exact EJ pins s1 σ H1 x v Q U O V) (he _)
theorem vals1{x:V}(r:Vals [x] us):∃ u,us=[u]/\RelV x u:=by
 cases r with
 | cons I J=>cases J; exact⟨_,rfl,I⟩
theorem vals2{x y:V}(r:Vals [x,y] us):∃ u w',us=[u,w']/\RelV x u/\RelV y w':=by
 cases r with
 | cons O U=>
  cases U with
  | cons I J=>cases J; exact⟨_,_,rfl,O,I⟩
theorem gX(hc:X.calm=true):d8 X (.builtin "max") (fun xs H Q=>∃ i j,xs=[.int i,.int j]/\Q (.int (if j > i then j else i)) H):=by
 intro pins s σ H xs us Q I r h;obtain⟨i,j,rfl,q⟩:=h;obtain⟨u,O,rfl,⟨t,rfl⟩,⟨t',rfl⟩⟩:=vals2 r;refine max_two_ints (I.ok.hd hc) fun h' tk k=>⟨_,H,I.kept k,?_,q⟩
 by_cases J:j > i
 ·rw[if_pos J,if_pos J]; exact⟨_,rfl⟩
 ·rw[if_neg J,if_neg J]; exact⟨_,rfl⟩
theorem xT(hc:X.calm=true):d8 X (.builtin "min") (fun xs H Q=>∃ i j,xs=[.int i,.int j]/\Q (.int (if j < i then j else i)) H):=by
 intro pins s σ H xs us Q I r h;obtain⟨i,j,rfl,q⟩:=h;obtain⟨u,O,rfl,⟨t,rfl⟩,⟨t',rfl⟩⟩:=vals2 r;refine min_two_ints (I.ok.hd hc) fun h' tk k=>⟨_,H,I.kept k,?_,q⟩
 by_cases J:j < i
 ·rw[if_pos J,if_pos J]; exact⟨_,rfl⟩
 ·rw[if_neg J,if_neg J]; exact⟨_,rfl⟩
theorem dv:d8 X (.type "int") (fun xs H Q=>(∃ i,xs=[.int i]/\Q (.int i) H)\/∃ k,xs=[.bl k]/\Q (.int (if k then 1 else 0)) H):=by
 intro pins s σ H xs us Q I r h;rcases h with ⟨i,rfl,q⟩ | ⟨k,rfl,q⟩
 ·obtain⟨u,rfl,t,rfl⟩:=vals1 r;exact call_int_int ⟨.int i,H,I,⟨_,rfl⟩,q⟩
 ·obtain⟨u,rfl,J⟩:=vals1 r;cases J;exact call_int_bool ⟨.int (if k then 1 else 0),H,I.tok _,⟨_,rfl⟩,q⟩
end
structure Ey (h:Heap) (x dx C:Addr) (mA:Str->Option Value):Prop where
 obj:h.get? x=some (PySem.W.instObj C dx)
 ns:h.Ns1 dx mA
 ne:dx≠x
theorem yf(n:h.Ns1 dx mA):∃ od,h.get? dx=some od/\∀ name,PySem.W.lookIn name od=some (mA name):=by
 obtain⟨o,es,ep,Z,J,V,_,O⟩:=n;refine⟨o,Z,fun name=>?_⟩;have e:=O name;unfold nsFind findBy at e;rw[<-Array.find?_toList]at e;unfold PySem.W.lookIn;rw[J];dsimp only;split
 ·rename_i y q;rw[q]at e;exact pq some e
 ·rename_i q;rw[q]at e;have a:es.toList.any (·.refKey)=false:=by
   rw[List.any_eq_false];intro y U;obtain⟨z,t,I⟩:=V y (Array.mem_toList_iff.mp U);simp[DictEntry.refKey,I]
  have b:¬ es.toList.any (·.refKey)=true:=by rw[a]; exact eN
  rw[if_neg b];exact pq some e
theorem Ey.look{x:Addr}(I:Ey h x dx C mA):∃ od,PySem.W.InstAt h x (PySem.W.instObj C dx) C (some od)/\∀ name,PySem.W.lookIn name od=some (mA name):=
 let ⟨od,ho,hl⟩:=yf I.ns
 ⟨od,⟨I.obj,rfl,rfl,ho⟩,hl⟩
section
variable {K:aL}{x:Addr}
end
theorem kP.some_of{v:V}{o:Option Value}(r:kP (some v) o):∃ u,o=some u/\RelV v u:=by
 cases o with
 | none=>exact (show False from r).elim
 | some u=>exact⟨u,rfl,r⟩
section
variable {fs fs':List (Str × V)}
theorem kW(hok:gR P w H h)(e:H a=some (.ins C dx fs)):∃ mA,Ey h a dx C mA/\(∀ f,kP (fs.lookup f) (mA f))/\PySem.Within mA (fs.map (·.1))/\fs.length<=1000/\H dx=some (.own a):=by
 obtain⟨d,z,J,I,mA,n,r,q⟩:=(show bW P w H h a (.ins C dx fs) from hok a _ e)
 exact⟨mA,⟨I,n,J⟩,r,q,z,d⟩
end
structure Ii (K:aL) (C:Addr):Prop where
 pg:PySem.W.plainGet K C Str.empty=true
 hd:PySem.W.hasDictIn K C=true
 po:PySem.W.plainOver K C=true
 sa:PySem.W.findIn K (.ref C) "__setattr__" = some (some (.builtin "object.__setattr__"))
theorem Ii.get{K:aL}(c:Ii K C)(f:Str):PySem.W.plainGet K C f=true:=c.pg
structure JD (K:aL) (C:Addr) (f:Str) (v:V) (u:Value):Prop where
 at_:PySem.W.findIn K (.ref C) f=some (some u)
 rel:RelV v u
 get:PySem.W.specialIn K u "__get__" = some none
 cp:PySem.W.copiedNames.contains f=false
structure Meth (K:aL) (C:Addr) (m:Str) (f:Addr):Prop where
 at_:PySem.W.findIn K (.ref C) m=some (some (.ref f))
 fn:PySem.W.isFn K (.ref f)=true
 kp:PySem.W.keepIn K (.ref f)=true
section
variable {fs:List (Str × V)}{f:Str}{v:V}
end
section
variable {o value:Expr}{f:Str}{tpos:Pos}{tv:TE}
end
section
variable {c:Value}{b:Bool}
inductive iY (K:aL) (H:Hp):V->Value->Prop where
 | non:iY K H .non (.type "NoneType")
 | bl (x:Bool):iY K H (.bl x) (.type "bool")
 | int (i:Int):iY K H (.int i) (.type "int")
 | str (x:Str):iY K H (.str x) (.type "str")
 | flt (x:UInt64):iY K H (.flt x) (.type "float")
 | lst {a:Addr} {xs:List V} (e:H a=some (.lst xs)):iY K H (.ref a) (.type "list")
 | frz {a:Addr} {o:Obj} {xs:List V} (e:H a=some (.frz o (.lst xs))):iY K H (.ref a) (.type "list")
 | tup {a:Addr} {xs:List V} (e:H a=some (.tup xs)):iY K H (.ref a) (.type "tuple")
 | dK {a:Addr} {kvs:List (Key × V)} (e:H a=some (.dK kvs)):iY K H (.ref a) (.type "dict")
 | dT {a:Addr} {kvs:List (List Key × V)} (e:H a=some (.dT kvs)):iY K H (.ref a) (.type "dict")
 | dZ {a:Addr} {zs:List (Addr × List Key)} {kvs:List (List Key × V)} (e:H a=some (.dZ zs kvs)):iY K H (.ref a) (.type "dict")
 | dN {a:Addr} {zs:List (Addr × List D)} {kvs:List (List D × V)} (e:H a=some (.dN zs kvs)):iY K H (.ref a) (.type "dict")
 | ins {a C dx:Addr} {fs:List (Str × V)} (e:H a=some (.ins C dx fs)) (cl:Ii K C) (ha:PySem.W.findIn K (.ref C) "__class__" = some (some (.builtin "object.__class__")))
   (hn:PySem.W.specialIn K (.builtin "object.__class__") "__get__" = some (some (.builtin "getset_descriptor.__get__"))) (htk:PySem.W.takesIn K (.builtin "object.__class__")=some true)
   (hm:PySem.W.mroIn K C (.type "object")=some true):iY K H (.ref a) (.ref C)
theorem xu{x:V}{t:Value}(I:Inv X pins σ H s)(rx:RelV x u)(ty:iY X.K H x t)(e:PySem.W.kitOne X.K t c=some b)(h:∀ tk,Q (.bool b) { s with toks:=tk }) :
  wpAny (model X.prog X.w) A (call (.builtin "isinstance") [u,c]) Q E s:=by
 cases ty with
 | non=>cases (show u=Value.none from rx); exact xD PySem.W.kitx_none I.oS True.intro e (fun z=>nomatch z) h
 | bl y=>cases (show u=Value.bool y from rx); exact xD PySem.W.kitx_bool I.oS True.intro e (fun z=>nomatch z) h
 | int i=>obtain⟨t,q⟩:=(show ∃ t,u=Value.int i t from rx); cases q; exact xD PySem.W.kitx_int I.oS True.intro e (fun z=>nomatch z) h
 | str y=>obtain⟨t,q⟩:=(show ∃ t,u=Value.str y t from rx); cases q; exact xD PySem.W.kitx_str I.oS True.intro e (fun z=>nomatch z) h
 | flt y=>obtain⟨t,q⟩:=(show ∃ t,u=Value.float y t from rx); cases q; exact xD PySem.W.kitx_float I.oS True.intro e (fun z=>nomatch z) h
 | @lst a xs U=>
  cases (show u=Value.ref a from rx);obtain⟨_,_,n,_,h1⟩:=(show bW X.prog X.w H s.heap a (.lst xs) from I.hok a _ U)
  exact xD PySem.W.kitx_list I.oS ⟨_,h1,rfl⟩ e (fun z=>nomatch z) h
 | @frz a f xs U=>
  cases (show u=Value.ref a from rx);obtain⟨_,_,_,n,_,h1⟩:=(show bW X.prog X.w H s.heap a (.frz f (.lst xs)) from I.hok a _ U)
  exact xD PySem.W.kitx_list I.oS ⟨_,h1,rfl⟩ e (fun z=>nomatch z) h
 | @tup a xs U=>
  cases (show u=Value.ref a from rx);obtain⟨_,_,_,p⟩:=(show bW X.prog X.w H s.heap a (.tup xs) from I.hok a _ U)
  obtain⟨o,h1,h2,_⟩:=p;exact xD PySem.W.kitx_tuple I.oS ⟨o,h1,h2⟩ e (fun z=>nomatch z) h
 | @dK a kvs U=>
  cases (show u=Value.ref a from rx);obtain⟨_,_,vs,_,p⟩:=(show bW X.prog X.w H s.heap a (.dK kvs) from I.hok a _ U)
  obtain⟨o,es,ep,h1,h2,_⟩:=p;exact xD PySem.W.kitx_dict I.oS ⟨o,h1,h2.1⟩ e (fun z=>nomatch z) h
 | @dT a kvs U=>
  cases (show u=Value.ref a from rx);obtain⟨_,_,xs,_,o,es,ep,h1,h2,_⟩:=(show bW X.prog X.w H s.heap a (.dT kvs) from I.hok a _ U)
  exact xD PySem.W.kitx_dict I.oS ⟨o,h1,h2.1⟩ e (fun z=>nomatch z) h
 | @dZ a zs kvs U=>
  cases (show u=Value.ref a from rx);obtain⟨_,_,xs,_,o,es,ep,h1,h2,_⟩:=(show bW X.prog X.w H s.heap a (.dZ zs kvs) from I.hok a _ U)
  exact xD PySem.W.kitx_dict I.oS ⟨o,h1,h2.1⟩ e (fun z=>nomatch z) h
 | @dN a zs kvs U=>
  cases (show u=Value.ref a from rx);obtain⟨_,_,xs,_,o,es,ep,h1,h2,_⟩:=(show bW X.prog X.w H s.heap a (.dN zs kvs) from I.hok a _ U)
  exact xD PySem.W.kitx_dict I.oS ⟨o,h1,h2.1⟩ e (fun z=>nomatch z) h
 | @ins a C dx fs U cl g d Z j=>
  cases (show u=Value.ref a from rx);obtain⟨mA,O,_⟩:=kW I.hok U;obtain⟨od,J,_⟩:=O.look;exact xD (PySem.W.kitx_own (cl.get _) cl.hd g d Z j) I.oS J e (fun z=>nomatch z) h
end
structure gB (k:Nat) (A:Around):Prop where
 hd:A.handled=none
 dp:A.depth + 3 * k + 5 < recursionLimit
 un:A.units + 16 * k + 200 < cLine
 gd:A.guards=some []
theorem gB.mono{k:Nat}(r:gB k A)(h:j<=k):gB j A:=⟨r.hd,by have:=r.dp; lia,by have:=r.un; lia,r.gd⟩
theorem gB.deeper{k:Nat}(r:gB (k + 1) A)(env:Env):gB k (A.deeper env):=
 ⟨r.hd,by have:=r.dp; show A.depth + 1 + 3 * k + 5 < _; lia,by have:=r.un; show A.units + 3 + 16 * k + 200 < _; lia,r.gd⟩
theorem gB.depth{k:Nat}(r:gB k A):A.depth < recursionLimit:=by have:=r.dp; lia
theorem gB.units{k:Nat}(r:gB k A):A.units + 64 < cLine:=by have:=r.un; lia
def Im:TA:=fun _ H Q=>Q [] H
def GJ(ta:TE)(tr:TA):TA:=fun σ H Q=>ta σ H fun x H1=>tr σ H1 fun xs H2=>Q (x::xs) H2
theorem aj:PA X [] Im:=fun _ _ _ _ H Q I h=>Calls.spliced_nil ⟨[],H,I,.nil,h⟩
theorem aa(ha:PE X e te)(hr:PA X es t)(hs:starEach (e::es) X.env=(false,eval e X.env)::starEach es X.env:=by rfl):PA X (e::es) (GJ te t):=by
 intro pos pins s σ H Q I h;rw[hs];show wpAny _ _ (spliced ((false,eval e X.env)::backTo pos (starEach es X.env))) _ _ s;refine Calls.spliced_cons (cw (ha pins s σ H _ I h) fun u s1 J=>?_);obtain⟨x,H1,b,c,Z⟩:=J;exact cw (hr pos pins s1 σ H1 _ b Z) fun us s2 O=>by obtain⟨xs,H2,U,V,a⟩:=O; exact⟨x::xs,H2,U,.cons c V,a⟩
def HL(t:TA):TE:=fun σ H Q=>t σ H fun xs H1=>xs.length<=sizeLine/\∀ p,H1 p=none->Q (.ref p) (upd H1 p (.tup xs))
def Ij(t:TA):TE:=fun σ H Q=>t σ H fun xs H1=>xs.length<=sizeLine/\∀ p,H1 p=none->Q (.ref p) (upd H1 p (.lst xs))
theorem aE{x1}(h:PA X es t):PE X (.Tuple es x1 pos) (HL t):=by
 intro pins s σ H Q I U;refine wpAny_Tuple_spliced (cw (h pos pins s σ H _ I U) fun us s1 ⟨xs,H1,J,r,z,q⟩=>⟨by rw[<-r.length]; exact z,?_⟩);have O:H1 s1.heap.objs.size=none:=J.hok.fresh (bH _);refine⟨.ref s1.heap.objs.size,upd H1 s1.heap.objs.size (.tup xs),J.laid (t':=s1.toks) (fun b u e=>cB _ e) (bH _) ?_,rfl,q _ O⟩;exact⟨z,us,r,⟨_,fB _ rfl,rfl,_,rfl⟩⟩
theorem br(h:PA X es t):PE X (.List es pos) (Ij t):=by
 intro pins s σ H Q I U;refine wpAny_List_spliced (cw (h pos pins s σ H _ I U) fun us s1 ⟨xs,H1,J,r,z,q⟩=>⟨by rw[<-r.length]; exact z,?_⟩);have O:H1 s1.heap.objs.size=none:=J.hok.fresh (bH _);refine⟨.ref s1.heap.objs.size,upd H1 s1.heap.objs.size (.lst xs),J.laid (t':=s1.toks) (fun b u e=>cB _ e) (bH _) ?_,rfl,q _ O⟩;exact⟨z,us,0,r,fB _ rfl⟩
abbrev Sp:=List V->Hp->VK->XK->Prop
abbrev DJ:=List Env->Hp->Shared->XK->Value->Shared->Prop
structure CG (P:Program) (w:World) (K:aL) (mg:Str->Option Value) (base:Heap) (A:Around) (outer:List Env) (s:Shared) (H:Hp):Prop where
 frames:A.frames=some outer
 mod:Mod K mg base
 bs:∀ b o,base.get? b=some o->s.heap.get? b=some o/\H b=none
 bsz:base.objs.size<=s.heap.objs.size
 kL:s.heap.FunFrames base outer
 frf:∀ b∈w6 outer,H b=none
 hok:gR P w H s.heap
 bare:AllBare s.gens
def CE(outer:List Env)(P:Program)(w:World)(H:Hp)(s:Shared)(Q:VK)(u:Value)(s':Shared):Prop:=
 ∃ v H',s'.os=s.os/\AllBare s'.gens/\Un (w6 outer) [] H H' s.heap s'.heap/\gR P w H' s'.heap/\RelV v u/\Q v H'
def CR(CX:DJ)(outer:List Env)(P:Program)(w:World)(H:Hp)(s:Shared)(Q:VK)(E:XK)(r:Result)(s':Shared):Prop:=
 match r with
 | .ok (.ret u)=>CE outer P w H s Q u s'
 | .ok _=>False
 | .error e=>CX outer H s E e s'
structure b9 (P:Program) (w:World) (K:aL) (mg:Str->Option Value) (base:Heap) (CX:DJ) (k:Nat) (f:Addr) (fd:qT) (ps:List Str) (sp:Sp):Prop where
 len:∀ vs H Q E,sp vs H Q E->vs.length=ps.length
 run:∀ (A:Around) (outer:List Env) (s:Shared) (H:Hp) (args:Args) (us:List Value) (vs:List V) (Q:VK) (E:XK),gB k A->CG P w K mg base A outer s H->BindsTo s fd args (ps.zip us)->Vals vs us->sp vs H Q E->
  codeAny (model P w) A (.call (.ref f) args) (CR CX outer P w H s Q E) s
theorem b9.mono{K:aL}{mg:Str->Option Value}{k:Nat}{fd:qT}(F:b9 P w K mg base CX j f fd ps sp)(h:j<=k) :
  b9 P w K mg base CX k f fd ps sp:=⟨F.len,fun A outer s H args us vs Q E I=>F.run A outer s H args us vs Q E (I.mono h)⟩
theorem Inv.Ie(I:Inv X pins σ H s):CG X.prog X.w X.K X.mg X.base X.A X.stack s H:=
 ⟨I.ok.frames,I.ok.mod,I.bs,kC I.ok.bsz I.sz,I.stack,I.vR,I.hok,I.bare⟩
theorem Inv.after{Q:VK}(I:Inv X pins σ H s)(h:CE X.stack X.prog X.w H s Q u s'):EP X pins σ Q u s':=by
 obtain⟨v,H',os,J,un,U,r,q⟩:=h;obtain⟨V,g,d,t,O⟩:=s';obtain rfl:O=s.os:=os;exact⟨v,H',I.call (h':=V) (g':=g) (d':=d) (t':=t) (ch:=[]) un U J (fun b z=>absurd z (by simp)),r,q⟩
def AK(sp:Sp)(dvs:List V)(E:XK)(t:TA):TE:=fun σ H Q=>t σ H fun vs H1=>sp (vs++dvs) H1 Q E
def Binds(K:aL)(fd:qT)(ps:List Str)(ds:List Value):Prop:=
 ∀ (s:Shared) (us:List Value),K.In s.heap->(us++ds).length=ps.length->BindsTo s fd ⟨us,[]⟩ (ps.zip (us++ds))
theorem Binds.all{K:aL}{fd:qT}(h:∀ us:List Value,us.length=ps.length->bindArgs fd ⟨us,[]⟩=pure (ps.zip us)):Binds K fd ps []:=fun s us _ I=>by
 rw[jL]at I |-;exact .of_eq (h us I)
def Passes(CX:DJ)(X:Cx)(E:XK):Prop:=∀ (pins:List (Addr × Obj)) (σ:St) (H:Hp) (s:Shared) (e:Value) (s':Shared),Inv X pins σ H s->CX X.stack H s E e s'->X.xe e s'
section
variable {k:Nat}{fd:qT}{dvs:List V}{ds:List Value}{E:XK}{o:Expr}
theorem FO{Q:VK}{vs:List V}(F:b9 X.prog X.w X.K X.mg X.base CX k f fd ps sp)(hr:gB k X.A)(hb:Binds X.K fd ps ds)(hd:Vals dvs ds)(hx:Passes CX X E)
  (I:Inv X pins σ H s) (r:Vals vs us) (h:sp (vs++dvs) H Q E):wpAny (model X.prog X.w) X.A (call (.ref f) us) (EP X pins σ Q) X.xe s:=by
 have O:Vals (vs++dvs) (us++ds):=r.append hd;have U:(us++ds).length=ps.length:=by rw[<-O.length]; exact F.len _ _ _ _ h
 refine wpAny_call (codeAny_mono (F.run X.A X.stack s H ⟨us,[]⟩ (us++ds) (vs++dvs) Q E hr I.Ie (hb s us I.oS U) O h) fun r s' J=>?_);cases r with
 | error e=>exact hx pins σ H s e s' I J
 | ok fl=>
  cases fl with
  | ret u=>exact I.after J
  | next=>exact False.elim J
  | brk=>exact False.elim J
  | cont=>exact False.elim J
theorem Cp(F:b9 X.prog X.w X.K X.mg X.base CX k f fd ps sp)(hr:gB k X.A)(hg:Gl X x)(hm:X.mg x=some (.ref f))(hk:PySem.W.keepIn X.K (.ref f)=true)(hb:Binds X.K fd ps ds)(hd:Vals dvs ds)(hx:Passes CX X E)
  (ha:PA X (e::es) t) (hdb:(x == ("__debug__":Str))=false:=by decide) (he:starEach (e::es) X.env=(false,eval e X.env)::starEach es X.env:=by rfl) (hpl:(backTo pos (starEach es X.env)).any (·.1)=false:=by rfl) :
  PE X (.Call (.Name x p) (e::es) [] pos) (AK sp dvs E t):=by
 intro pins s σ H Q I h;refine E1 (xk I hg hm ?_ hdb);refine PySem.W.callWith_K (h₀:=X.base) I.ok.mod.kin hk (cw (ha pos pins s σ H _ I h) fun us s1 J=>?_) he hpl;obtain⟨vs,H1,O,r,q⟩:=J;refine⟨O.oS,?_⟩;exact FO F hr hb hd hx O r q
structure Mk (K:aL) (C f:Addr):Prop where
 makes:PySem.W.makesIn K C=true
 init:PySem.W.findIn K (.ref C) "__init__" = some (some (.ref f))
 fn:PySem.W.isFn K (.ref f)=true
 kp:PySem.W.keepIn K (.ref C)=true
end
section
variable {k:Nat}{fd:qT}{ks:List Str}{E:XK}{kpos:Pos}{o:Expr}{kws:List Keyword}{tk:TA}{nm:Option Str}
structure HZ (K:aL) (fd:qT) (ps ks:List Str) (g:List Value->List Value->List Value) (gV:List V->List V->List V):Prop where
 to:∀ (s:Shared) (us ws:List Value),K.In s.heap->(g us ws).length=ps.length->BindsTo s fd ⟨us,ks.zip ws⟩ (ps.zip (g us ws))
 rel:∀ {vs:List V} {us:List Value} {zs:List V} {ws:List Value},Vals vs us->Vals zs ws->Vals (gV vs zs) (g us ws)
variable {g:List Value->List Value->List Value}{gV:List V->List V->List V}
end
structure aW (N P:List Str) (sc:Scope):Prop where
 kind:sc.kind=.function
 co:sc.isCoroutine=false
 gen:sc.isGenerator=false
 nd:N.Nodup
 pre:N.take P.length=P
 par:∀ x∈P,sc.names.lookup x=some .local\/sc.names.lookup x=some .cell
 nofree:∀ y∈sc.names,y.2≠.free
theorem nO{kindOf:Str->Option NameKind}{x:Str}:∀ {binds:List (Str × Value)} {m:Str->Option Value},(∀ v,(x,v)∉binds)->bindL kindOf binds m x=m x
 | [],_,_=>rfl
 | (n,v)::r,m,h=>by
  unfold bindL;rw[nO fun w hw=>h w (jd _ hw)];split
  ·have:x≠n:=by rintro rfl; exact h v gC
   simp[this]
  ·rfl
theorem pe{kindOf:Str->Option NameKind}{x:Str}:∀ {binds:List (Str × Value)} {m:Str->Option Value},(∀ v,(x,v)∉binds)->bindC kindOf binds m x=m x
 | [],_,_=>rfl
 | (n,v)::r,m,h=>by
  unfold bindC;rw[pe fun w hw=>h w (jd _ hw)];split
  ·rfl
  ·have:x≠n:=by rintro rfl; exact h v gC
   simp[this]
theorem oF{kindOf:Str->Option NameKind}{x:Str}{v:Value}:∀ {P:List Str} {vs:List Value} {i:Nat} {m:Str->Option Value},P.Nodup->P[i]?=some x->vs[i]?=some v->kindOf x=some .local->
  bindL kindOf (P.zip vs) m x=some v
 | [],_,_,_,_,h,_,_=>by simp at h
 | _::_,[],_,_,_,_,h,_=>by simp at h
 | p::P,w::vs,0,m,nd,h1,h2,hk=>by
  simp at h1 h2; subst h1; subst h2;show bindL kindOf ((p,w)::P.zip vs) m p=_;unfold bindL;rw[nO fun v hv=>(vT.mp nd).1 (List.of_mem_zip hv).1,if_pos hk];simp
 | p::P,w::vs,i + 1,m,nd,h1,h2,hk=>by
  show bindL kindOf ((p,w)::P.zip vs) m x=_;unfold bindL;exact oF (i:=i) (vT.mp nd).2 (by simpa using h1) (by simpa using h2) hk
theorem nT{kindOf:Str->Option NameKind}{x:Str}{v:Value}:∀ {P:List Str} {vs:List Value} {i:Nat} {m:Str->Option Value},P.Nodup->P[i]?=some x->vs[i]?=some v->kindOf x≠some .local->
  bindC kindOf (P.zip vs) m x=some v
 | [],_,_,_,_,h,_,_=>by simp at h
 | _::_,[],_,_,_,_,h,_=>by simp at h
 | p::P,w::vs,0,m,nd,h1,h2,hk=>by
  simp at h1 h2; subst h1; subst h2;show bindC kindOf ((p,w)::P.zip vs) m p=_;unfold bindC;rw[pe fun v hv=>(vT.mp nd).1 (List.of_mem_zip hv).1,if_neg hk];simp
 | p::P,w::vs,i + 1,m,nd,h1,h2,hk=>by
  show bindC kindOf ((p,w)::P.zip vs) m x=_;unfold bindC;exact nT (i:=i) (vT.mp nd).2 (by simpa using h1) (by simpa using h2) hk
def start(N:List Str)(vs:List V):St:=vs.map some++List.replicate (N.length - vs.length) none
def xW(CX:DJ)(P:Program)(w:World)(K:aL)(mg:Str->Option Value)(base:Heap)(N:List Str)(qual:Str)(scope:Scope)(f:Addr)(cd:Value)(A:Around)(outer:List Env)(s:Shared)(H:Hp)(E:XK):Cx where
 prog:=P
 w:=w
 K:=K
 mg:=mg
 base:=base
 A:=A.deeper (envOfC qual scope s.heap.objs.size f cd)
 N:=N
 s₀:=s
 H₀:=H
 env:=envOfC qual scope s.heap.objs.size f cd
 outer:=outer
 stack:=envOfC qual scope s.heap.objs.size f cd::outer
 ex:=[]
 calm:=true
 fn:=fun _=>true
 pn:=[]
 xe:=fun e s'=>wpAny (model P w) (A.deeper (envOfC qual scope s.heap.objs.size f cd)) (leaving (envOfC qual scope s.heap.objs.size f cd) e) (fun _ s''=>CX outer H s E e s'') (fun e' s''=>CX outer H s E e' s'') s'
theorem qY{sc:Scope}(h:sc.names.lookup x=some .cell):∃ c,(cellsFrom n sc.names []).lookup x=some c:=by
 have q:=PySem.W.cellsFrom_some sc.names n [] (.inl h);exact Option.isSome_iff_exists.mp q
theorem yd{K:aL}{mg:Str->Option Value}{cd:Value}{outer:List Env}{s1:Shared}{E:XK}{vs:List V}
  (S:aW N ps scope) (hd:A.handled=none) (e0:CG P w K mg base A outer s H) (hl:vs.length=ps.length) (r:Vals vs us)
  (x:InCallC s s.heap.objs.size (bindL (envOfC qual scope s.heap.objs.size f cd).kindOf (ps.zip us) fun _=>none) (cellsFrom (s.heap.objs.size + 1) scope.names []) (bindC (envOfC qual scope s.heap.objs.size f cd).kindOf (ps.zip us) fun _=>none) s1) :
  Inv (xW CX P w K mg base N qual scope f cd A outer s H E) [] (start N vs) H s1:=by
 have j:ps.length<=N.length:=by have:=pq List.length S.pre; rw[gx]at this; lia
 obtain⟨h1,tk,rfl,d⟩:=x.done;have J:∀ b:Addr,b∉(xW CX P w K mg base N qual scope f cd A outer s H E).ex:=fun b z=>absurd (show b∈([]:List Addr) from z) (by simp)
 refine⟨⟨e0.mod,S.kind,rfl,rfl,bH _,fun y z c h1 h2=>?_,fun y I=>?_,fun y c _ h=>?_,fun _=>hd,Around.frames_deeper e0.frames,.inr ⟨rfl,rfl⟩,fun b z=>absurd z (J b),e0.bs,e0.bsz,fun b _ _=>J b,fun b z=>absurd z (J b),e0.kL,e0.frf⟩,
  rfl,e0.bare,Un.kept d,⟨_,x.toInCall.ns,fun i y v h1 h2 m=>?_⟩,fun y c h=>⟨_,x.cell y c h⟩,e0.hok.fresh (bH _),fun y c h=>?_,fun p U=>absurd (show p∈([]:List (Addr × Obj)) from U) (by simp),e0.hok.kept d,?_⟩
 ·exact name_of_addr x.apart (yG h1) (yG h2)
 ·have I:scope.names.lookup y=some .cell\/scope.names.lookup y=some .free:=I;rcases I with I | I
  ·exact qY I
  ·exact absurd rfl (S.nofree _ (yG I))
 ·exact vm (x.above y c (yG h))
 ·have hi:i < vs.length:=by
   unfold start at h2;by_cases hi:i < vs.length
   ·exact hi
   ·rw[ue (by simpa using hi)]at h2;rw[List.getElem?_replicate]at h2;split at h2 <;> cases h2
  have g:vs[i]?=some v:=by
   unfold start at h2;rw[xB (by simpa using hi),g6]at h2;cases e:vs[i]? with
   | none=>rw[e]at h2; cases h2
   | some a=>rw[e]at h2; cases h2; rfl
  obtain⟨u,Z,l⟩:=r.get g;have U:ps[i]?=some y:=by
   rw[<-S.pre,List.getElem?_take_of_lt (by lia)]; exact h1
  have O:ps.Nodup:=by rw[<-S.pre]; exact S.nd.sublist (List.take_sublist _ _)
  refine⟨u,l,?_⟩;rcases S.par y (oY U) with k | k
  ·exact .inl ⟨k,oF O U Z k⟩
  ·obtain⟨c,e⟩:=qY (n:=s.heap.objs.size + 1) k;refine .inr ⟨.inl k,c,e,?_⟩;have q:=x.cell y c e;rw[nT O U Z (by show scope.names.lookup y≠_; rw[k]; decide)]at q;exact q
 ·exact e0.hok.fresh (vm (x.above y c (yG h)))
 ·unfold start;show _=N.length;rw[dE,bL,FW]
  lia
theorem Hr{K:aL}{mg:Str->Option Value}{k:Nat}{params:Arguments}{dV kV doc pm cdv ct oc:Value}{an od:Option Addr}
  {osl:Array (Option Value)} (lk:K.lookup f=some ⟨oc,od,.func (PySem.W.fnOf name qual params body scope dV kV doc pm an cdv ct),osl⟩) (hcd:PySem.W.codeIn K cdv qual=true) (S:aW N ps scope)
  (len:∀ vs H Q E,sp vs H Q E->vs.length=ps.length)
  (hbody:∀ (A:Around) (outer:List Env) (s:Shared) (H:Hp) (vs:List V) (Q:VK) (E:XK),gB k (A.deeper (envOfC qual scope s.heap.objs.size f cdv))->sp vs H Q E->
   ∃ t,xy (xW CX P w K mg base N qual scope f cdv A outer s H E) body t/\t { nx:=fun _ H'=>Q .non H',rt:=Q } (start N vs) H) :
  b9 P w K mg base CX (k + 1) f (PySem.W.fnOf name qual params body scope dV kV doc pm an cdv ct) ps sp:=by
 refine⟨len,fun A outer s H args us vs Q E d Z j r U=>?_⟩;have z:=len _ _ _ _ U;have h:K.In s.heap:=Z.mod.kin.keeps fun b o e=>(Z.bs b o e).1
 have c:s.heap.NoLimit:=Z.mod.nolimit.keeps fun b o e=>(Z.bs b o e).1
 have O:∀ y∈ps.zip us,scope.names.lookup y.1=some .local\/(scope.names.lookup y.1=some .cell/\((cellsFrom (s.heap.objs.size + 1) scope.names []).lookup y.1).isSome=true):=fun ⟨n,v⟩ i=>by
  rcases S.par n (List.of_mem_zip i).1 with q | q
  ·exact .inl q
  ·exact .inr ⟨q,PySem.W.cellsFrom_some _ _ _ (.inl q)⟩
 refine codeAny_call_function d.depth (h _ _ lk) rfl S.co S.gen rfl (PySem.W.codeRec_of h hcd) (j _ _ _ _ ?_);refine wpAny_newFunctionEnv_cells S.kind O fun env p s1 x=>?_
 subst p;refine⟨c.keeps x.toInCall.keep,codeAny_func ?_⟩;obtain⟨t,m,l⟩:=hbody A outer s H vs Q E (d.deeper _) U;have I:Inv (xW CX P w K mg base N qual scope f cdv A outer s H E) [] (start N vs) H s1:=yd S d.hd Z z r x;refine tU (m [] s1 (start N vs) H _ I l) (fun fl s' hs=>?_) fun e s' hs=>hs
 have a:∀ {σ':St} {H':Hp} {v:V} {u:Value},Inv (xW CX P w K mg base N qual scope f cdv A outer s H E) [] σ' H' s'->RelV v u->Q v H'->CE outer P w H s Q u s':=
  fun {σ' H' v u} J g q=>⟨v,H',J.os,J.bare,J.base,J.hok,g,q⟩
 cases fl with
 | ret u=>
  obtain⟨v,σ',H',J,g,q⟩:=hs;exact a J g q
 | next=>
  obtain⟨σ',H',J,q⟩:=hs;exact a (v:=V.non) (u:=Value.none) J rfl q
 | brk=>
  obtain⟨_,_,_,q⟩:=hs;exact False.elim q
 | cont=>
  obtain⟨_,_,_,q⟩:=hs;exact False.elim q
section
variable {id T:String}{r:List V->Hp->VK->Prop}
def Jg(r:List V->Hp->VK->Prop)(t:TA):TE:=fun σ H Q=>t σ H fun vs H1=>r vs H1 Q
theorem bh(hc:d8 X (.builtin id) r)(hg:Gl X x)(hm:X.mg x=none)(hv:bootBuiltins x=some (.builtin id))(ha:PA X (e::es) t)(hn:x≠"__name__":=by decide)(hdb:(x == ("__debug__":Str))=false:=by decide)
  (he:starEach (e::es) X.env=(false,eval e X.env)::starEach es X.env:=by rfl) (hpl:(backTo pos (starEach es X.env)).any (·.1)=false:=by rfl):PE X (.Call (.Name x p) (e::es) [] pos) (Jg r t):=by
 intro pins s σ H Q I h;refine E1 (fN I hg hm hv ?_ hn hdb);exact PyProof.Rows.callWith_builtin1 (cw (ha pos pins s σ H _ I h) fun us s1 J=>by obtain⟨vs,H1,U,O,V⟩:=J; exact hc pins s1 σ H1 vs us Q U O V) he hpl
theorem bE(hc:d8 X (.type T) r)(hg:Gl X x)(hm:X.mg x=none)(hv:bootBuiltins x=some (.type T))(ha:PA X (e::es) t)(hn:x≠"__name__":=by decide)(hdb:(x == ("__debug__":Str))=false:=by decide)
  (he:starEach (e::es) X.env=(false,eval e X.env)::starEach es X.env:=by rfl) (hpl:(backTo pos (starEach es X.env)).any (·.1)=false:=by rfl):PE X (.Call (.Name x p) (e::es) [] pos) (Jg r t):=by
 intro pins s σ H Q I h;refine E1 (fN I hg hm hv ?_ hn hdb);exact Eu (cw (ha pos pins s σ H _ I h) fun us s1 J=>by obtain⟨vs,H1,U,O,V⟩:=J; exact hc pins s1 σ H1 vs us Q U O V) he hpl
end
end L2
namespace HT
open PySem PyProof.Rows
variable {t:Addr}{Q:Value->Shared->Prop}{vl vu:Value}{lo hi:Option Int}
theorem zW(A:Around)(s:Shared)(a:Int)(t:Tok)(c:Int)(u:Tok)(prog:Program)(w:World)(E:Value->Shared->Prop)(Q:Value->Shared->Prop)(h:Q (.bool (decide (a < c))) s) :
  wpAny (model prog w) A (richCompare .Lt (.int a t) (.int c u)) Q E s:=
 (PyProof.Rows.lt_int h:wpAny (model prog w) A (compareOp .Lt (.int a t) (.int c u)) Q E s)
section
open PySem.SeqAt
open PySem.AutoSeq1 (wpAny_loadPart')
open PySem.MeetsSeq PySem.MeetsSeq2 PySem.MeetsSeq3
end
section
variable {prog:Program}{w:World}{A:Around}{E:Value->Shared->Prop}{s:Shared}
theorem Dr{b:Addr}{vs ws:List Value}(ht:IsTup s.heap t vs.toArray)(hb:IsTup s.heap b ws.toArray)(hv:vs≠[])
  (h1:ws=[]->Q (.ref t) s) (h2:ws≠[]->Q (.ref s.heap.objs.size) { s with heap:=s.heap.push { cls:=.type "tuple",data:=.seq (vs++ws).toArray } })
  (hsz:vs.length + ws.length<=sizeLine):wpAny (model prog w) A (binaryOp .Add (.ref t) (.ref b)) Q E s:=by
 obtain⟨⟨cls,dd,data,sl⟩,a,f,n,d⟩:=id ht;obtain⟨⟨g,J,c,U⟩,I,O,n2,V⟩:=id hb;simp only at f d O V;subst f d O V;have e:vs.toArray++ws.toArray=(vs++ws).toArray:=by simp
 by_cases Z:ws=[]
 ·exact concat_meets ⟨_,a,rfl⟩ ⟨_,I,rfl⟩ noFill_tuple_add seq_tuple_add PySem.F.slot_tuple_add PySem.F.entry_tuple_add (PySem.F.args_tuple_add_2 _ _)
   (tuple_addW1 t b vs.toArray ws.toArray n n2 dd J sl U (by simpa using hv) (by simp[Z])) ⟨a,I,h1 Z⟩
 ·refine concat_meets ⟨_,a,rfl⟩ ⟨_,I,rfl⟩ noFill_tuple_add seq_tuple_add PySem.F.slot_tuple_add PySem.F.entry_tuple_add (PySem.F.args_tuple_add_2 _ _)
   (tuple_addW2 t b vs.toArray ws.toArray n n2 dd J sl U (by simpa using hv) (by simpa using Z) (by rw[ff,ff]; exact hsz)) ⟨a,I,?_⟩
  rw[e];exact h2 Z
def dm(n d:Nat):Option Int->Nat
 | none=>d
 | some v=>if v < 0 then (v + (n:Int)).toNat else min v.toNat n
theorem jD(n d:Nat):dm n d none=d:=rfl
theorem jT(n d k:Nat):dm n d (some (k:Int))=min k n:=by
 show (if (k:Int) < 0 then ((k:Int) + (n:Int)).toNat else min (k:Int).toNat n)=min k n;rw[if_neg (by lia),qU]
theorem FA(n d:Nat)(hd:d<=n)(o:Option Int):dm n d o<=n:=by
 cases o with
 | none=>exact hd
 | some v=>
  show (if v < 0 then (v + (n:Int)).toNat else min v.toNat n)<=n;by_cases I:v < 0
  ·rw[if_pos I]; lia
  ·rw[if_neg I]; exact BB _ _
theorem wC(v:Int)(n d:Nat):(if v < 0 then max (v + (n:Int)) 0 else min v (n:Int))=((dm n d (some v):Nat):Int):=by
 show (if v < 0 then max (v + (n:Int)) 0 else min v (n:Int))=(((if v < 0 then (v + (n:Int)).toNat else min v.toNat n):Nat):Int)
 by_cases I:v < 0
 ·simp only[if_pos I]; lia
 ·simp only[if_neg I]; lia
theorem uP(lo hi:Option Int)(n:Nat):Builtin.Slice.sliceAdjust lo hi 1 (n:Int)=(((dm n 0 lo:Nat):Int),((dm n n hi:Nat):Int)):=by
 have h1:¬ ((1:Int) < 0):=by lia
 unfold Builtin.Slice.sliceAdjust;simp only[h1,fO];refine Prod.ext ?_ ?_
 ·cases lo with
  | none=>rfl
  | some v=>exact wC v n 0
 ·cases hi with
  | none=>rfl
  | some v=>exact wC v n n
theorem vt(i j:Nat):Builtin.Slice.slicePlaces (i:Int) (j:Int) 1=j - i:=by
 unfold Builtin.Slice.slicePlaces;have h1:(1:Int) > 0:=by lia
 simp only[h1,if_true,Int.ediv_one];split <;> lia
theorem lW{v:Value}{o:Option Int}{Q:Option Int->Shared->Prop}(p:IsPart v o)(h:Q o s):wpAny (model prog w) A (Builtin.Slice.slicePartIndex v) Q E s:=by
 cases p with
 | none=>exact slicePart_none h
 | int i t=>exact slicePart_int h
theorem fU{sl:Addr}{n:Nat}{Q:Int × Int × Nat->Shared->Prop}(hs:s.heap.IsSliceOf sl vl vu .none)(pl:IsPart vl lo)(pu:IsPart vu hi)
  (h:Q (((dm n 0 lo:Nat):Int),1,dm n n hi - dm n 0 lo) s):wpAny (model prog w) A (Builtin.Slice.sliceApplied (.ref sl) (pure (n:Int))) Q E s:=by
 obtain⟨os,J,O,I⟩:=id hs;unfold Builtin.Slice.sliceApplied Builtin.Slice.sliceFields;refine ar (ar (ny J I (x:=vl) rfl (ar (ny J I (x:=vu) rfl (ar (ny J I (x:=.none) rfl (aO ?_)))))));refine ar (slicePart_none ?_);show wpAny _ _ (if ((1:Int) == 0)=true then _ else _) _ _ s;rw[if_neg (by decide)];refine ar (lW pl (ar (lW pu (ar (aO ?_)))));show wpAny _ _ (match Builtin.Slice.sliceAdjust lo hi 1 (n:Int) with | (lo,hi)=>pure (lo,(1:Int),Builtin.Slice.slicePlaces lo hi 1)) _ _ s;rw[uP lo hi n];show wpAny _ _ (pure (((dm n 0 lo:Nat):Int),(1:Int),Builtin.Slice.slicePlaces ((dm n 0 lo:Nat):Int) ((dm n n hi:Nat):Int) 1)) _ _ s;rw[vt];exact aO h
theorem Bb(xs:Array Value)(i k:Nat):((List.range k).filterMap fun (m:Nat)=>xs[((i:Int) + (m:Int) * 1).toNat]?).toArray=((xs.toList.drop i).take k).toArray:=by
 have e:(fun (m:Nat)=>xs[((i:Int) + (m:Int) * 1).toNat]?)=fun m=>xs[i + m]?:=by
  funext m
  have:((i:Int) + (m:Int) * 1).toNat=i + m:=by lia
  rw[this]
 rw[e];have:=pick_run xs i k;rw[List.filterMap_map]at this;have I:((fun x=>xs[x]?) ∘ fun x=>i + x)=fun m=>xs[i + m]?:=rfl
 rw[I]at this;rw[this]
theorem jq{sl:Addr}{items:Array Value}(ht:IsTup s.heap t items)(hs:s.heap.IsSliceOf sl vl vu .none)(pl:IsPart vl lo)(pu:IsPart vu hi)
  (hw:¬ (dm items.size 0 lo=0/\dm items.size items.size hi=items.size))
  (h:Q (.ref s.heap.objs.size) { s with heap:=s.heap.push { cls:=.type "tuple",data:=.seq ((items.toList.drop (dm items.size 0 lo)).take (dm items.size items.size hi - dm items.size 0 lo)).toArray } })
  (hsz:items.size<=sizeLine):wpAny (model prog w) A (getItem (.ref t) (.ref sl)) Q E s:=by
 have I:sizeOk (.seq ((items.toList.drop (dm items.size 0 lo)).take (dm items.size items.size hi - dm items.size 0 lo)).toArray):=by
  show ((items.toList.drop (dm items.size 0 lo)).take (dm items.size items.size hi - dm items.size 0 lo)).toArray.size<=sizeLine;rw[ff,gx,List.length_drop,dY];omega
 have b:dm items.size items.size hi<=items.size:=FA _ _ (bH _) hi;obtain⟨os,O,U,Z⟩:=id hs;have V:s.TypeIs (.ref sl) "slice":=⟨os,O,U⟩
 unfold getItem
 try with_reducible refine iA ?_
 first | refine ar (aO ?_) | skip
 refine ar (wpAny_sequenceKey ht.typeIs (by decide) ?_)
 refine ar (wJ (name:=Str.ofString "__getitem__") ht.typeIs FX
  (lD FX ht.typeIs entry_tuple_getitem ?_ (args_tuple_getitem _ _)))
 show wpAny _ _ (Builtin.Tuple.tupleItemsOf (.ref t) >>= _) _ _ s;refine ar (tupleItemsOf_ ht ?_);refine ar (vi V ?_);rw[if_pos (by decide)];refine ar (fU hs pl pu ?_);have J:¬ ((((dm items.size 0 lo:Nat):Int) == 0 && (1:Int) == 1 && (dm items.size items.size hi - dm items.size 0 lo) == items.size)=true):=by
  intro q;rw[DI,DI]at q;have c:((dm items.size 0 lo:Nat):Int)=0:=eq_of_beq q.1.1;have a:dm items.size items.size hi - dm items.size 0 lo=items.size:=eq_of_beq q.2;exact hw ⟨by omega,by omega⟩
 show wpAny _ _ (if (((dm items.size 0 lo:Nat):Int) == 0 && (1:Int) == 1 && (dm items.size items.size hi - dm items.size 0 lo) == items.size)=true then _ else _) _ _ s;rw[if_neg J,Bb]
 first
  | exact ar (m:=Builtin.Tuple.tupleExact _) (qV (aO ⟨_,rfl,aO h⟩) I)
  | exact ar (m:=Builtin.Tuple.tupleExact _) (qV (ar (aO (aO ⟨_,rfl,aO h⟩))) I)
  | exact ar (ar (m:=Builtin.Tuple.tupleExact _) (qV (aO (aO ⟨_,rfl,aO h⟩)) I))
  | exact ar (ar (m:=Builtin.Tuple.tupleExact _) (qV (aO ⟨_,rfl,aO h⟩) I))
end
end HT
namespace L2
open PySem PySem.Spec PyProof.Rows
variable {us its its':List Value}{x y:V}{xs ys:List V}{s:Shared}{X:Cx}{n j t':Nat}{pins:List (Addr × Obj)}{σ:St}{H:Hp}{i:Int}{A:Around}{u v:Value}{e:Expr}{pos:Pos}
abbrev TO:=St->Hp->(Option Int->Hp->Prop)->Prop
def PO(X:Cx)(e:Option Expr)(t:TO):Prop:=
 ∀ (pins:List (Addr × Obj)) (s:Shared) (σ:St) (H:Hp) (Q:Option Int->Hp->Prop),Inv X pins σ H s->t σ H Q->
  wpAny (model X.prog X.w) X.A (evalPart e X.env) (fun u s'=>∃ o H',Inv X pins σ H' s'/\IsPart u o/\Q o H') X.xe s
def Dt:TO:=fun _ H Q=>Q none H
def Gy(t:TE):TO:=fun σ H Q=>t σ H fun x H1=>aK Q (fun i Q=>x=.int i/\Q (some i) H1)
section
variable {te:TE}{lo hi:Option Expr}{tl th:TO}{p2:Pos}
theorem d6:PO X none Dt:=by
 intro pins s σ H Q I h;rw[evalPart_none];exact aO ⟨none,H,I,.none,h⟩
theorem cQ(h:PE X e te):PO X (some e) (Gy te):=by
 intro pins s σ H Q I U;rw[evalPart_some];refine cw (h pins s σ H _ I U) fun u s1 J=>?_
 obtain⟨x,H1,V,O,Z⟩:=J;obtain⟨i,rfl,q⟩:=Z;obtain⟨t,rfl⟩:=O;exact⟨some i,H1,V,.int i t,q⟩
def Hx(X:Cx)(r:V->Option Int->Option Int->Hp->VK->Prop):Prop:=
 ∀ (pins:List (Addr × Obj)) (s:Shared) (σ:St) (H:Hp) (x:V) (v vl vu:Value) (lo hi:Option Int) (sl:Addr) (Q:VK),Inv X pins σ H s->RelV x v->s.heap.IsSliceOf sl vl vu .none->IsPart vl lo->IsPart vu hi->r x lo hi H Q->
  ∃ T id,typeLookup (.type T) "__getitem__" = pure (some (.builtin id))/\s.TypeIs v T/\wpAny (model X.prog X.w) X.A (getItem v (.ref sl)) (EP X pins σ Q) X.xe s
def Jz(r:V->Option Int->Option Int->Hp->VK->Prop)(te:TE)(tl th:TO):TE:=fun σ H Q=>te σ H fun x H1=>tl σ H1 fun l H2=>th σ H2 fun u H3=>r x l u H3 Q
theorem cJ{r:V->Option Int->Option Int->Hp->VK->Prop}(hr:Hx X r)(he:PE X e te)(hl:PO X lo tl)(hu:PO X hi th):PE X (.Subscript e (.Slice lo hi none p2) pos) (Jz r te tl th):=by
 intro pins s σ H Q I h;refine Subscript_ (cw (he pins s σ H _ I h) fun v s1 J=>?_);obtain⟨x,H1,f,k,c⟩:=J;refine wpAny_Slice (cw (hl pins s1 σ H1 _ f c) fun vl s2 J=>?_);obtain⟨l,H2,Z,pl,d⟩:=J;refine cw (hu pins s2 σ H2 _ Z d) fun vu O J=>?_
 obtain⟨u,U,g,m,i⟩:=J;rw[evalPart_none];refine aO ?_;have o:Inv X pins σ U { O with heap:=O.heap.push { cls:=.type "slice",data:=.fields #[vl,vu,.none] } }:=g.kept (t':=O.toks) fun b p q=>cB _ q
 obtain⟨T,id,a,j,n⟩:=hr pins { O with heap:=O.heap.push { cls:=.type "slice",data:=.fields #[vl,vu,.none] } } σ U x v vl vu l u O.heap.objs.size Q o k (Heap.IsSliceOf.new ..) pl m i;show wpAny (model X.prog X.w) X.A (subscriptTail e (.Slice lo hi none p2) v (.ref O.heap.objs.size)) (EP X pins σ Q) X.xe { O with heap:=O.heap.push { cls:=.type "slice",data:=.fields #[vl,vu,.none] } };exact tail_any (ops:=[.ref O.heap.objs.size,v]) j a n (by with_unfolding_all rfl)
def dw(xs:List V)(lo hi:Option Int):List V:=(xs.drop (HT.dm xs.length 0 lo)).take (HT.dm xs.length xs.length hi - HT.dm xs.length 0 lo)
theorem kE(xs:List V)(lo hi:Option Int):(dw xs lo hi).length<=xs.length:=by
 unfold dw;rw[gx,List.length_drop]
 lia
inductive IL(K:aL)(x:V)(lo hi:Option Int)(H:Hp)(Q:VK):Prop|m(a xs:_)(_:x=.ref a)(_:bu K H a xs)(_:¬ (HT.dm xs.length 0 lo=0/\HT.dm xs.length xs.length hi=xs.length))(_:∀ p,H p=none->Q (.ref p) (upd H p (.tup (dw xs lo hi))))
theorem uR:Hx X (IL X.K):=by
 intro pins s σ H x v vl vu lo hi sl Q I Z hs pl c h;obtain⟨a,xs,rfl,d,V,q⟩:=h;cases Z;obtain⟨its,r,U,O⟩:=I.tuple d;have J:its.toArray.size=xs.length:=by rw[ff]; exact r.length.symm
 refine⟨"tuple",_,FX.lookup,U.typeIs,?_⟩;refine HT.jq U hs pl c (by rw[J]; exact V) ?_ (by rw[J]; exact O);rw[J];refine⟨.ref s.heap.objs.size,_,I.laid (t':=s.toks) (o:=.tup (dw xs lo hi)) (fun b e q=>cB _ q) (bH _) ?_,rfl,q _ (I.hok.fresh (bH _))⟩;exact⟨kC (kE xs lo hi) O,_,(r.drop (HT.dm xs.length 0 lo)).take (HT.dm xs.length xs.length hi - HT.dm xs.length 0 lo),IsTup.new _ _⟩
inductive Gm(K:aL)(x y:V)(H:Hp)(Q:VK):Prop|m(a b xs ys:_)(_:x=.ref a)(_:y=.ref b)(_:bu K H a xs)(_:bu K H b ys)(_:xs≠[])(_:xs.length + ys.length<=sizeLine)(_:(ys=[]->Q (.ref a) H))(_:(ys≠[]->∀ p,H p=none->Q (.ref p) (upd H p (.tup (xs++ys)))))
theorem Vals.lC(r:Vals xs us):us=[]↔xs=[]:=by
 cases r with
 | nil=>simp
 | cons _ _=>simp
theorem pO:iL X (binaryOp .Add) (Gm X.K):=by
 intro pins s σ H x y v u Q I f i h;obtain⟨a,b,xs,ys,rfl,rfl,d,e,g,U,Z,c⟩:=h;cases f;cases i;obtain⟨its,O,p1,_⟩:=I.tuple d;obtain⟨V,J,p2,_⟩:=I.tuple e;refine HT.Dr p1 p2 (fun z=>g (O.lC.mp z)) (fun z=>⟨.ref a,H,I,rfl,Z (J.lC.mp z)⟩) (fun z=>?_) (by rw[<-O.length,<-J.length]; exact U);refine⟨.ref s.heap.objs.size,_,I.laid (t':=s.toks) (o:=.tup (xs++ys)) (fun b j q=>cB _ q) (bH _) ?_,rfl,c (fun w=>z (J.lC.mpr w)) _ (I.hok.fresh (bH _))⟩;exact⟨by rw[dE]; exact U,_,O.append J,IsTup.new _ _⟩
end
def BK(n:Nat)(i:Int):Option Nat:=if 0<=i then (if i < n then some i.toNat else none) else if -(n:Int)<=i then some (i + n).toNat else none
def nz{α:Type}(xs:List α)(i:Int):Option α:=(BK xs.length i).bind fun j=>xs[j]?
theorem wW(h:BK n i=some j):seqIndex? i n=some j/\j < n/\-(n:Int)<=i/\i < n:=by
 unfold BK at h;by_cases I:0<=i
 ·rw[if_pos I]at h;by_cases h1:i < n
  ·rw[if_pos h1]at h;have e:i.toNat=j:=pL h;exact⟨by rw[seqIndex_of I h1,e],by lia,by lia,h1⟩
  ·rw[if_neg h1]at h; cases h
 ·rw[if_neg I]at h;by_cases h1:-(n:Int)<=i
  ·rw[if_pos h1]at h;have e:(i + n).toNat=j:=pL h;exact⟨by rw[seqIndex_neg (by lia) h1,e],by lia,h1,by lia⟩
  ·rw[if_neg h1]at h; cases h
theorem wM{α:Type}{xs:List α}{v:α}(h:nz xs i=some v):∃ j,seqIndex? i xs.length=some j/\xs[j]?=some v/\j < xs.length/\-(xs.length:Int)<=i/\i < xs.length:=by
 unfold nz at h;cases e:BK xs.length i with
 | none=>rw[e]at h; cases h
 | some j=>
  rw[e]at h;obtain⟨h1,h2,I,J⟩:=wW e;exact⟨j,h1,h,h2,I,J⟩
theorem eR{α:Type}{xs:List α}{v:α}(h:xs[j]?=some v):nz xs (j:Int)=some v:=by
 have I:j < xs.length:=(dJ.mp h).1;have e:BK xs.length (j:Int)=some j:=by
  unfold BK;rw[if_pos (by lia),if_pos (by lia)]; simp
 unfold nz; rw[e]; exact h
def Di(b:Expr):Prop:=∀ o i,subscripted b false o i=operate [o,i] (getItem o i)
def Hl(X:Cx)(r:R2):Prop:=
 ∀ (value slice:Expr) (pins:List (Addr × Obj)) (s:Shared) (σ:St) (H:Hp) (x y:V) (v u:Value) (Q:VK),Inv X pins σ H s->RelV x v->RelV y u->r x y H Q->
  subscripted slice false v u=operate [v,u] (getItem v u)->wpAny (model X.prog X.w) X.A (subscriptTail value slice v u) (EP X pins σ Q) X.xe s
def Iw(X:Cx)(id:String)(r:V->List V->Hp->VK->Prop):Prop:=
 ∀ (pins:List (Addr × Obj)) (s:Shared) (σ:St) (H:Hp) (x:V) (xs:List V) (v:Value) (us:List Value) (Q:VK),Inv X pins σ H s->RelV x v->Vals xs us->r x xs H Q->
  wpAny (model X.prog X.w) X.A (call (.builtin id) (v::us)) (EP X pins σ Q) X.xe s
section
variable {a b:Expr}{ta tb:TE}
theorem aU{r:R2}(hr:Hl X r)(ha:PE X a ta)(hb:PE X b tb)(hs:Di b:=by exact fun _ _=>rfl):PE X (.Subscript a b pos) (HC r ta tb):=by
 intro pins s σ H Q I h;exact Subscript_ (FE ha hb I h fun v u s2 x y H2 J O U q=>hr a b pins s2 σ H2 x y v u Q J O U q (hs _ _))
inductive Iy(K:aL)(x y:V)(H:Hp)(Q:VK):Prop|m(p xs i v:_)(_:x=.ref p)(_:y=.int i)(_:bp K H p xs)(_:nz xs i=some v)(_:Q v H)
inductive GF(K:aL)(x y:V)(H:Hp)(Q:VK):Prop|m(p xs i v:_)(_:x=.ref p)(_:y=.int i)(_:bu K H p xs)(_:nz xs i=some v)(_:Q v H)
theorem cu:Hl X (Iy X.K):=by
 intro value U pins s σ H x y v u Q I b k h hs;obtain⟨p,xs,i,z,rfl,rfl,c,f,q⟩:=h;cases b;obtain⟨t,rfl⟩:=k;obtain⟨its,r,pl,l⟩:=I.list c;obtain⟨j,h1,h2,n,d,e⟩:=wM f;obtain⟨w,Z,O⟩:=r.get h2;have g:=r.length;have m:=mq;have J:EP X pins σ Q w s:=⟨z,H,I,O,q⟩
 by_cases a:0<=i
 ·have V:i.toNat=j:=by
   rw[seqIndex_of a e]at h1;exact pL h1
  exact item_listR pl.isList a (by lia) (by rw[V]; simpa using Z) J hs
 ·have V:(i + (its.toArray.size:Int)).toNat=j:=by
   rw[seqIndex_neg (by lia) d]at h1;rw[ff,<-g];exact pL h1
  exact subscriptTail_builtinR (x:=w) pl.isList.typeIs slot_list_getitem.lookup
   (wpAny_getItem_list_neg (Q:=fun r s'=>r=w/\EP X pins σ Q r s') pl.isList (by lia) (by rw[ff] <;> lia) (by lia) (by rw[V]; simpa using Z) ⟨rfl,J⟩) hs
theorem a9:Hl X (GF X.K):=by
 intro value U pins s σ H x y v u Q I Z d h hs;obtain⟨p,xs,i,z,rfl,rfl,a,b,q⟩:=h;cases Z;obtain⟨t,rfl⟩:=d;obtain⟨its,r,pl,e⟩:=I.tuple a;obtain⟨j,h1,h2,g,k,l⟩:=wM b;obtain⟨w,V,J⟩:=r.get h2;have c:=r.length;have f:=mq;have O:EP X pins σ Q w s:=⟨z,H,I,J,q⟩
 exact subscriptTail_builtinR (x:=w) pl.typeIs slot_tuple_getitem.lookup
  (getItem_tuple (j:=j) (Q:=fun r s'=>r=w/\EP X pins σ Q r s') pl (by lia) (by lia) (by rw[ff,<-c]; exact h1) (by simpa using V) ⟨rfl,O⟩) hs
theorem uZ(its:List Value)(n j:Nat)(u:Value):Obj.mapSeq (·.setIfInBounds j u) { cls:=.type "list",data:=.seq its.toArray n }={ cls:=.type "list",data:=.seq (its.set j u).toArray n }:=by
 simp[Obj.mapSeq]
theorem Inv.lst{pins:List (Addr × Obj)}{σ:St}{H:Hp}{s:Shared}{p:Addr}{xs:List V}(I:Inv X pins σ H s)(h:H p=some (.lst xs)) :
  ∃ (its:List Value) (n:Nat),Vals xs its/\s.heap.get? p=some { cls:=.type "list",data:=.seq its.toArray n }/\xs.length<=sizeLine:=by
 obtain⟨z,its,n,r,e⟩:=I.hok p _ h;exact⟨its,n,r,e,z⟩
theorem Inv.ED{p:Addr}{n':Nat}{f:Obj->Obj}(I:Inv X pins σ H s)(h:H p=some (.lst xs))
  (ho:s.heap.get? p=some { cls:=.type "list",data:=.seq its.toArray n }) (hf:f { cls:=.type "list",data:=.seq its.toArray n }={ cls:=.type "list",data:=.seq its'.toArray n' }) (r:Vals ys its') (hz:ys.length<=sizeLine) (t:Nat) :
  Inv X pins σ (upd H p (.lst ys)) { s with heap:=s.heap.update p f,toks:=t }:=by
 have e:(s.heap.update p f).get? p=some { cls:=.type "list",data:=.seq its'.toArray n' }:=by
  rw[xZ f ho (by rw[hf] <;> rfl),hf]
 refine I.write (x:=p) (e:=p) (by rw[h]; trivial) (.inl rfl) (fun b u J q=>(vN _ _ (Ne.symm J)).trans q) ⟨_,e⟩ ?_;exact⟨hz,its',n',r,e⟩
inductive GH(o i v:V)(H:Hp)(Q:Hp->Prop):Prop|m(p xs k j:_)(_:o=.ref p)(_:i=.int k)(_:H p=some (.lst xs))(_:BK xs.length k=some j)(_:Q (upd H p (.lst (xs.set j v))))
theorem set_list:Gh X GH:=by
 intro pins s σ H o i v ov x u Q I f e l h;obtain⟨p,xs,k,j,rfl,rfl,Z,g,q⟩:=h;cases f;obtain⟨t,rfl⟩:=e;obtain⟨its,n,r,J,d⟩:=I.lst Z;obtain⟨h1,h2,V,b⟩:=wW g;have U:=r.length;have m:=mq;have c:Inv X pins σ (upd H p (.lst (xs.set j v))) { s with heap:=s.heap.update p (Obj.mapSeq (·.setIfInBounds j u)) }:=
  I.ED Z J (uZ its n j u) (r.set l j) (by rw[List.length_set]; exact d) s.toks
 by_cases a:0<=k
 ·have O:k.toNat=j:=by
   rw[seqIndex_of a b]at h1;exact pL h1
  exact PySem.W.ki_setAt J a (by lia) (by rw[ff,<-U]; exact b) (by rw[O]; exact⟨_,c,q⟩)
 ·have O:(k + (its.toArray.size:Int)).toNat=j:=by
   rw[seqIndex_neg (by lia) V]at h1;rw[ff,<-U];exact pL h1
  exact PySem.W.ki_setBack J (by lia) (by rw[ff,<-U]; exact V) (by lia) (by rw[O]; exact⟨_,c,q⟩)
theorem qj(lo hi:Option Int)(n:Nat):(sliceBounds lo hi none n).1=((HT.dm n 0 lo:Nat):Int)/\(sliceBounds lo hi none n).2.1=((HT.dm n n hi:Nat):Int)/\(sliceBounds lo hi none n).2.2=1:=by
 refine⟨?_,?_,rfl⟩
 ·cases lo with
  | none=>simp[sliceBounds,HT.dm]
  | some i=>
   simp only[sliceBounds,HT.dm,Option.getD_none,show (1:Int) > 0 by decide,if_true];by_cases h:i < 0
   ·simp only[h,if_true] <;> lia
   ·simp only[h,fO] <;> lia
 ·cases hi with
  | none=>simp[sliceBounds,HT.dm]
  | some i=>
   simp only[sliceBounds,HT.dm,Option.getD_none,show (1:Int) > 0 by decide,if_true];by_cases h:i < 0
   ·simp only[h,if_true] <;> lia
   ·simp only[h,fO] <;> lia
theorem nD(its:List Value)(lo hi:Option Int):slicePick its.toArray lo hi none=((its.drop (HT.dm its.length 0 lo)).take (HT.dm its.length its.length hi - HT.dm its.length 0 lo)).toArray:=by
 obtain⟨h1,h2,I⟩:=qj lo hi its.toArray.size;unfold slicePick;rw[h1,h2,I];simp only[sliceRange_one,pick_run,ff] <;> rfl
inductive IG(K:aL)(x:V)(lo hi:Option Int)(H:Hp)(Q:VK):Prop|m(a xs:_)(_:x=.ref a)(_:bp K H a xs)(_:∀ p,H p=none->Q (.ref p) (upd H p (.lst (dw xs lo hi))))
theorem jn:Hx X (IG X.K):=by
 intro pins s σ H x v vl vu lo hi sl Q I V hs pl Z h;obtain⟨a,xs,rfl,c,q⟩:=h;cases V;obtain⟨its,r,O,U⟩:=I.list c;have J:=r.length;refine⟨"list",_,slot_list_getitem.lookup,O.isList.typeIs,?_⟩;refine wpAny_getItem_list_slice O.isList hs pl Z .none (by simp) ?_ (by rw[ff] <;> lia);rw[nD,<-J];refine⟨.ref s.heap.objs.size,_,I.laid (t':=s.toks) (o:=.lst (dw xs lo hi)) (fun b d q=>cB _ q) (bH _) ?_,rfl,q _ (I.hok.fresh (bH _))⟩;exact⟨kC (kE xs lo hi) U,_,0,(r.drop (HT.dm xs.length 0 lo)).take (HT.dm xs.length xs.length hi - HT.dm xs.length 0 lo),fB _ rfl⟩
def kr:V->Bool
 | .non=>true
 | .bl _=>true
 | .int _=>true
 | .str _=>true
 | _=>false
def D3:V->V->Bool
 | .non,.non=>true
 | .bl a,.bl b=>a == b
 | .bl a,.int b=>(if a then 1 else 0) == b
 | .int a,.bl b=>a == (if b then 1 else 0)
 | .int a,.int b=>a == b
 | .str a,.str b=>a == b
 | _,_=>false
theorem Eh(ry:RelV y u)(rx:RelV x v)(fy:kr y=true)(fx:kr x=true):SeqAt.EqAt A s u v (D3 y x):=by
 cases y with
 | non=>
  cases ry;cases x with
  | non=>cases rx; exact SeqAt.EqAt.same _
  | bl b=>cases rx; exact SeqAt.EqAt.none_bool b
  | int b=>obtain⟨t,rfl⟩:=rx; exact SeqAt.EqAt.none_int b t
  | str b=>obtain⟨t,rfl⟩:=rx; exact SeqAt.EqAt.none_str b t
  | _=>exact absurd (show false=true from fx) eN
 | bl a=>
  cases ry;cases x with
  | non=>cases rx; exact SeqAt.EqAt.bool_none a
  | bl b=>cases rx; exact SeqAt.EqAt.bool_bool a b
  | int b=>obtain⟨t,rfl⟩:=rx; exact SeqAt.EqAt.bool_int a b t
  | str b=>obtain⟨t,rfl⟩:=rx; exact SeqAt.EqAt.bool_str a b t
  | _=>exact absurd (show false=true from fx) eN
 | int a=>
  obtain⟨t',rfl⟩:=ry;cases x with
  | non=>cases rx; exact SeqAt.EqAt.int_none a t'
  | bl b=>cases rx; exact SeqAt.EqAt.int_bool a t' b
  | int b=>obtain⟨t,rfl⟩:=rx; exact F1 a t' b t
  | str b=>obtain⟨t,rfl⟩:=rx; exact SeqAt.EqAt.int_str a t' b t
  | _=>exact absurd (show false=true from fx) eN
 | str a=>
  obtain⟨t',rfl⟩:=ry;cases x with
  | non=>cases rx; exact SeqAt.EqAt.str_none a t'
  | bl b=>cases rx; exact SeqAt.EqAt.str_bool a t' b
  | int b=>obtain⟨t,rfl⟩:=rx; exact SeqAt.EqAt.str_int a t' b t
  | str b=>obtain⟨t,rfl⟩:=rx; exact SeqAt.EqAt.str_str a t' b t
  | _=>exact absurd (show false=true from fx) eN
 | _=>exact absurd (show false=true from fy) eN
def B3(x:V)(u:Value):Bool:=match u with
 | .none=>D3 .non x
 | .bool b=>D3 (.bl b) x
 | .int i _=>D3 (.int i) x
 | .str z _=>D3 (.str z) x
 | _=>false
theorem Ab(r:RelV y u)(f:kr y=true):B3 x u=D3 y x:=by
 cases y with
 | non=>cases r; rfl
 | bl b=>cases r; rfl
 | int i=>obtain⟨t,rfl⟩:=r; rfl
 | str z=>obtain⟨t,rfl⟩:=r; rfl
 | _=>exact absurd (show false=true from f) eN
theorem qi{x:V}:∀ {xs:List V} {us:List Value},Vals xs us->xs.all kr=true->us.any (B3 x)=xs.any fun y=>D3 y x
 | _,_,.nil,_=>rfl
 | y::xs,u::us,.cons r t,f=>by
  rw[List.all_cons,DI]at f;rw[List.any_cons,List.any_cons,Ab r f.1,qi t f.2]
theorem nq{A:Around}{s:Shared}{x:V}{v:Value}(rx:RelV x v)(fx:kr x=true):∀ {xs:List V} {us:List Value},Vals xs us->xs.all kr=true->∀ u∈us,SeqAt.EqAt A s u v (B3 x u)
 | _,_,.nil,_=>fun u hu=>by cases hu
 | y::xs,u::us,.cons r t,f=>fun u' hu=>by
  rw[List.all_cons,DI]at f;rcases d0.mp hu with rfl | hu
  ·rw[Ab r f.1]; exact Eh r rx f.1 fx
  ·exact nq rx fx t f.2 u' hu
def By(x:V)(xs:List V):Bool:=xs.any fun y=>D3 y x
inductive Jt(K:aL)(neg:Bool)(x y:V)(H:Hp)(Q:VK):Prop|m(p xs:_)(_:y=.ref p)(_:(bp K H p xs\/bu K H p xs))(_:kr x=true)(_:xs.all kr=true)(_:Q (.bl (if neg then !By x xs else By x xs)) H)
theorem nV:iL X (compareOp .In) (Jt X.K false):=by
 intro pins s σ H x y v u Q I U a h;obtain⟨p,xs,rfl,J,V,fs,q⟩:=h;cases a;rcases J with J | J
 ·obtain⟨its,r,pl,Z⟩:=I.list J;refine SeqAt.in_listAt (B3 x) pl.isList (fun w O=>nq U V r fs w (by simpa using O)) ⟨.bl _,H,I,rfl,?_⟩;rw[show its.toArray.any (B3 x)=its.any (B3 x) by simp,qi r fs];exact q
 ·obtain⟨its,r,pl,Z⟩:=I.tuple J;refine SeqAt.in_tupleAt (B3 x) pl (fun w O=>nq U V r fs w (by simpa using O)) ⟨.bl _,H,I,rfl,?_⟩;rw[show its.toArray.any (B3 x)=its.any (B3 x) by simp,qi r fs];exact q
theorem bf:d8 X (.builtin "len") (fun xs H Q=>∃ p ys,xs=[.ref p]/\(bp X.K H p ys\/bu X.K H p ys)/\Q (.int ys.length) H):=by
 intro pins s σ H xs us Q I r h;obtain⟨p,ys,rfl,O,q⟩:=h;obtain⟨u,rfl,Z⟩:=vals1 r;cases Z;have a:=mq;rcases O with O | O
 ·obtain⟨its,U,pl,V⟩:=I.list O;have J:=U.length;exact Calls.call_len_list pl.isList (by simp only[ff] <;> lia) ⟨.int ys.length,H,I.tok _,⟨s.toks + 1,by rw[ff,J]⟩,q⟩
 ·obtain⟨its,U,pl,V⟩:=I.tuple O;have J:=U.length;exact len_tuple pl (by simp only[ff] <;> lia) ⟨.int ys.length,H,I.tok _,⟨s.toks + 1,by rw[ff,J]⟩,q⟩
theorem qx:d8 X (.type "list") (fun xs H Q=>∃ p ys,xs=[.ref p]/\(bp X.K H p ys\/bu X.K H p ys)/\∀ l,H l=none->Q (.ref l) (upd H l (.lst ys))):=by
 intro pins s σ H xs us Q I r h;obtain⟨p,ys,rfl,a,q⟩:=h;obtain⟨u,rfl,i⟩:=vals1 r;cases i;have c:∀ (its:List Value),Vals ys its->ys.length<=sizeLine->∀ (h':Heap) (O:Nat),(∀ b o',s.heap.get? b=some o'->h'.get? b=some o')->
   h'.get? s.heap.objs.size=some { cls:=.type "list",dict:=none,data:=.seq its.toArray O,slots:=#[] }->EP X pins σ Q (.ref s.heap.objs.size) { s with heap:=h' }:=fun its J V h' O U e=>
  ⟨.ref s.heap.objs.size,_,I.laid (t':=s.toks) U (bH _) (show bW X.prog X.w _ h' _ (.lst ys) from ⟨V,its,O,J,e⟩),rfl,q _ (I.hok.fresh (bH _))⟩
 rcases a with a | a
 ·obtain⟨its,J,pl,V⟩:=I.list a;have Z:=J.length;obtain⟨o,d,f,n,g⟩:=pl.isList;exact call_list_seq p (.inl rfl) d f g (fun h' O U e=>c its J V h' O U e) (by simp only[ff] <;> lia)
 ·obtain⟨its,J,pl,V⟩:=I.tuple a;have Z:=J.length;obtain⟨o,d,f,n,g⟩:=pl;exact call_list_seq p (.inr rfl) d f g (fun h' O U e=>c its J V h' O U e) (by simp only[ff] <;> lia)
theorem d5:d8 X (.type "tuple") (fun xs H Q=>∃ p ys,xs=[.ref p]/\((bp X.K H p ys/\∀ l,H l=none->Q (.ref l) (upd H l (.tup ys)))\/(bu X.K H p ys/\Q (.ref p) H))):=by
 intro pins s σ H xs us Q I r h;obtain⟨p,ys,rfl,h⟩:=h;obtain⟨u,rfl,d⟩:=vals1 r;cases d;rcases h with ⟨O,q⟩ | ⟨O,q⟩
 ·obtain⟨its,J,pl,U⟩:=I.list O;have Z:=J.length;refine call_tuple_list pl.isList (fun h' c=>?_) (by simp only[ff] <;> lia);have V:Inv X pins σ H { s with heap:=h' }:=I.kept (t':=s.toks) c;have a:Inv X pins σ (upd H h'.objs.size (.tup ys)) { s with heap:=h'.push { cls:=.type "tuple",data:=.seq its.toArray } }:=
   V.laid (t':=s.toks) (fun b o e=>cB _ e) (bH _) (show bW X.prog X.w _ _ _ (.tup ys) from ⟨U,its,J,IsTup.new _ _⟩)
  exact⟨.ref h'.objs.size,_,a,rfl,q _ (V.hok.fresh (bH _))⟩
 ·obtain⟨its,J,pl,U⟩:=I.tuple O;exact call_tuple_same pl ⟨.ref p,H,I,rfl,q⟩
def HJ(K:aL)(T:String)(x:V)(H:Hp):Prop:=match x with
 | .str _=>T = "str"
 | .int _=>T = "int"
 | .ref p=>(T = "list"/\∃ xs,bp K H p xs)\/(T = "tuple"/\∃ o,K.lookup p=some o/\o.cls=.type "tuple"/\o.dict=none)\/
   (T = "dict"/\((∃ kvs,H p=some (.dK kvs))\/(∃ kvs,H p=some (.dT kvs))\/(∃ zs kvs,H p=some (.dZ zs kvs))\/∃ zs kvs,H p=some (.dN zs kvs)))\/(T = "set"/\∃ S n,H p=some (.set S n))
 | _=>False
theorem zh{T:String}(I:Inv X pins σ H s)(r:RelV x v)(ty:HJ X.K T x H) :
  s.TypeIs v T/\∀ a,v=.ref a->∃ ob,s.heap.get? a=some ob/\ob.dict=none:=by
 cases x with
 | str z=>
  obtain⟨t,rfl⟩:=r;cases (show T = "str" from ty);exact⟨typeIs_str s z t,fun _ e=>nomatch e⟩
 | int i=>
  obtain⟨t,rfl⟩:=r;cases (show T = "int" from ty);exact⟨typeIs_int s i t,fun _ e=>nomatch e⟩
 | ref p=>
  cases r;rcases ty with ⟨rfl,xs,Z⟩ | ⟨rfl,o,J,V,U⟩ | ⟨rfl,J⟩ | ⟨rfl,S,n,J⟩
  ·obtain⟨its,_,pl,_⟩:=I.list Z;refine⟨pl.isList.typeIs,fun a e=>?_⟩;cases e;obtain⟨o,n,e,c,U,_⟩:=pl;exact⟨o,e,U⟩
  ·refine⟨⟨o,I.oS p o J,V⟩,fun a e=>?_⟩;cases e;exact⟨o,I.oS _ o J,U⟩
  ·have z:∃ o,s.heap.get? p=some o/\o.ExactDict:=by
    rcases J with ⟨kvs,J⟩ | ⟨kvs,J⟩ | ⟨zs,kvs,J⟩ | ⟨zs,kvs,J⟩
    ·obtain⟨_,_,_,_,o,_,_,e,ex,_⟩:=I.hok p _ J;exact⟨o,e,ex⟩
    ·obtain⟨_,_,_,_,o,_,_,e,ex,_⟩:=I.hok p _ J;exact⟨o,e,ex⟩
    ·obtain⟨_,_,_,_,o,_,_,e,ex,_⟩:=I.hok p _ J;exact⟨o,e,ex⟩
    ·obtain⟨_,_,_,_,o,_,_,e,ex,_⟩:=I.hok p _ J;exact⟨o,e,ex⟩
   obtain⟨o,e,ex⟩:=z;refine⟨⟨o,e,ex.1⟩,fun a O=>?_⟩;cases O;exact⟨o,e,ex.2.1⟩
  ·obtain⟨o,_,_,_,e,ex,_⟩:=I.hok p _ J;refine⟨⟨o,e,ex.1⟩,fun a O=>?_⟩;cases O;exact⟨o,e,ex.2.1⟩
 | _=>exact False.elim ty
def IQ(K:aL)(T:String)(r:V->List V->Hp->VK->Prop)(to:TE):TE:=fun σ H Q=>to σ H fun x H1=>HJ K T x H1/\r x [] H1 Q
def Jm(K:aL)(T:String)(r:V->List V->Hp->VK->Prop)(to:TE)(t:TA):TE:=fun σ H Q=>to σ H fun x H1=>HJ K T x H1/\t σ H1 fun xs H2=>r x xs H2 Q
variable {o:Expr}{es:List Expr}{to:TE}{t:TA}{name:Str}{apos cpos:Pos}{T id:String}{r:V->List V->Hp->VK->Prop}
theorem zp(pa:PlainAttrs T)(slot:Slot T name id)(hty:typeOf (.builtin id)=pure (.type "method_descriptor"))(hm:Iw X id r)(ho:PE X o to)
  (hbase:attributeBase o name X.env (eval o X.env)=eval o X.env:=by rfl) (hline:(apos.endLine == cpos.line)=true:=by rfl):PE X (.Call (.Attribute o name apos) [] [] cpos) (IQ X.K T r to):=by
 intro pins s σ H Q I h;refine wpAny_Call_method0_late hbase hline (cw (ho pins s σ H _ I h) fun v s1 J=>?_);obtain⟨x,H1,U,O,ty,V⟩:=J;obtain⟨h1,h2⟩:=zh U O ty;exact⟨T,id,pa,slot,hty,h1,h2,Calls.callWith_builtin rfl (PySem.evalArgs_none (hm pins s1 σ H1 x [] v [] Q U O .nil V))⟩
theorem dy(pa:PlainAttrs T)(slot:Slot T name id)(hty:typeOf (.builtin id)=pure (.type "method_descriptor"))(hm:Iw X id r)(ho:PE X o to)(ha:PA X (e::es) t)
  (hbase:attributeBase o name X.env (eval o X.env)=eval o X.env:=by rfl)
  (hfew:((backTo cpos (starEach (e::es) X.env)).all (fun x=>!x.1) && (backToKw cpos (keywordEach [] X.env)).all (fun x=>x.1.isSome)
   && decide ((e::es).length + ([]:List Keyword).length + (if ([]:List Keyword).isEmpty then 0 else 1) < 30))=true:=by rfl)
  (hline:(apos.endLine == cpos.line)=true:=by rfl) (hs:starEach (e::es) X.env=(false,eval e X.env)::starEach es X.env:=by rfl) (hplain:(backTo cpos (starEach es X.env)).any (·.1)=false:=by rfl) :
  PE X (.Call (.Attribute o name apos) (e::es) [] cpos) (Jm X.K T r to t):=by
 intro pins s σ H Q I h;refine wpAny_Call_method_late hbase hfew hline rfl (cw (ho pins s σ H _ I h) fun v s1 J=>?_);obtain⟨x,H1,V,Z,ty,d⟩:=J;obtain⟨h1,h2⟩:=zh V Z ty;refine⟨T,id,pa,slot,hty,h1,h2,?_⟩;have U:=ha cpos pins s1 σ H1 _ V d;rw[hs]at U |-;refine Calls.callWith_builtin (by show (false || (backTo cpos (starEach es X.env)).any (·.1))=false; rw[hplain] <;> rfl) (Calls.evalArgs_plain ?_);exact cw U fun us s2 O=>by obtain⟨vs,H2,b,c,f⟩:=O; exact hm pins s2 σ H2 x vs v us Q b Z c f
/- xs.append(e),list.index on a module's tuple .. are Iw facts of 06m -/
end
def Ia(X:Cx)(id:String)(r:V->List V->Hp->VK->Prop):Prop:=
 ∀ (pins:List (Addr × Obj)) (s:Shared) (σ:St) (H:Hp) (x:V) (xs:List V) (v:Value) (us:List Value) (Q:VK),Inv X pins σ H s->RelV x v->Vals xs us->r x xs H Q->
  wpAny (model X.prog X.w) X.A (call (.builtin id) (v::us)) (EP X pins σ Q) X.xe s
theorem Vals.zero(h:Vals [] us):us=[]:=by
 cases h;rfl
theorem Vals.oC(h:Vals (x::xs) us):∃ u r,us=u::r/\RelV x u/\Vals xs r:=by
 cases h with
 | cons r t=>exact⟨_,_,rfl,r,t⟩
theorem Vals.one(h:Vals [x] us):∃ u,us=[u]/\RelV x u:=by
 obtain⟨u,r,rfl,a,t⟩:=h.oC;obtain rfl:=t.zero;exact⟨u,rfl,a⟩
theorem Vals.two(h:Vals [x,y] us):∃ u v,us=[u,v]/\RelV x u/\RelV y v:=by
 obtain⟨u,r,rfl,a,t⟩:=h.oC;obtain⟨v,rfl,b⟩:=t.one;exact⟨u,v,rfl,a,b⟩
theorem Vals.dropLast(h:Vals xs us):Vals xs.dropLast us.dropLast:=by
 induction h with
 | nil=>exact .nil
 | cons r t I=>
  cases t with
  | nil=>exact .nil
  | cons q t'=>exact .cons r I
theorem Vals.rep{xs:List V}{us:List Value}(h:Vals xs us):∀ k:Nat,Vals (List.replicate k xs).flatten (List.replicate k us).flatten
 | 0=>.nil
 | k + 1=>by
  rw[Eb,Eb,List.flatten_cons,List.flatten_cons];exact Vals.append h (Vals.rep h k)
theorem vk{α:Type}(l:List α):l.eraseIdx (l.length - 1)=l.dropLast:=by
 induction l with
 | nil=>rfl
 | cons a r I=>
  cases r with
  | nil=>rfl
  | cons b r=>
   have e:(a::b::r).length - 1=((b::r).length - 1) + 1:=by
    have h1:(a::b::r).length=r.length + 2:=rfl;have h2:(b::r).length=r.length + 1:=rfl
    lia
   rw[e,List.eraseIdx_cons_succ,I]
   all_goals rfl
theorem foldl_rep(its:List Value):∀ (k:Nat) (acc:List Value),
  List.foldl (fun x1 x2=>x1++x2) acc.toArray (List.replicate k its.toArray)=(acc++(List.replicate k its).flatten).toArray
 | 0,acc=>by simp
 | k + 1,acc=>by
  have e:acc.toArray++its.toArray=(acc++its).toArray:=by simp
  have I:(acc++its)++(List.replicate k its).flatten=acc++(List.replicate (k + 1) its).flatten:=by
   rw[Eb,List.flatten_cons,iD]
  rw[<-I,<-foldl_rep its k (acc++its),<-e,Eb,DQ]
section
variable {l b:Addr}{zs:List V}
theorem Inv.EW{f:Array Value->Array Value}(I:Inv X pins σ H s)(hH:H l=some (.lst xs))
  (e:s.heap.get? l=some { cls:=.type "list",data:=.seq its.toArray n }) (hf:f its.toArray=its'.toArray) (hv:Vals ys its') (hz:ys.length<=sizeLine) :
  Inv X pins σ (upd H l (.lst ys)) { s with heap:=s.heap.update l (Obj.mapSeq f),toks:=t' }:=by
 have q:=PySem.IsL.update e f;rw[hf]at q;refine I.write (x:=l) (e:=l) (by rw[hH]; exact trivial) (.inl rfl) (fun U u J O=>(vN s.heap (Obj.mapSeq f) (Ne.symm J)).trans O) ⟨_,q⟩ ?_;exact⟨hz,its',_,hv,q⟩
theorem Inv.EV(I:Inv X pins σ H s)(hv:Vals ys its)(hz:ys.length<=sizeLine) :
  Inv X pins σ (upd H s.heap.objs.size (.lst ys)) { s with heap:=s.heap.push { cls:=.type "list",data:=.seq its.toArray },toks:=t' }:=
 I.laid (fun _ _ q=>cB _ q) (bH _) ⟨hz,its,0,hv,fB _ rfl⟩
theorem Inv.fresh(I:Inv X pins σ H s):H s.heap.objs.size=none:=I.hok.fresh (bH _)
theorem Inv.pZ(I:Inv X pins σ H s)(hH:H l=some (.lst xs)):xs.length<=sizeLine/\∃ (its:List Value) (n:Nat),Vals xs its/\xs.length=its.length/\s.heap.get? l=some { cls:=.type "list",data:=.seq its.toArray n }:=by
 obtain⟨z,its,n,r,e⟩:=I.hok l _ hH;exact⟨z,its,n,r,r.length,e⟩
theorem rB(h:n<=sizeLine):Builtin.List.listTooLong n=false:=by
 unfold Builtin.List.listTooLong;exact iK (by lia)
end
inductive De(x:V)(vs:List V)(H:Hp)(Q:VK):Prop|m(l xs y:_)(_:x=.ref l)(_:vs=[y])(_:H l=some (.lst xs))(_:xs.length < sizeLine)(_:Q .non (upd H l (.lst (xs++[y]))))
theorem bF:Ia X "list.append" De:=by
 intro pins s σ H x vs v us Q I U V h;obtain⟨l,xs,y,rfl,rfl,J,Z,q⟩:=h;cases U;obtain⟨u,rfl,O⟩:=V.one;obtain⟨z,its,n,r,a,e⟩:=I.pZ J;refine call_meets F.slot_list_append ⟨_,e,rfl⟩ F.entry_list_append (F.args_list_append_2 _ _) (PySem.list_append l its.toArray n u (by rw[ff]; lia)) ⟨e,?_⟩;refine⟨.non,_,I.EW (its':=its++[u]) J e (by simp) (r.append (.cons O .nil)) ?_,rfl,q⟩;rw[dE,nv]
 lia
inductive C0(x:V)(vs:List V)(H:Hp)(Q:VK):Prop|m(l b xs zs:_)(_:x=.ref l)(_:vs=[.ref b])(_:H l=some (.lst xs))(_:H b=some (.lst zs))(_:xs.length + zs.length<=sizeLine)(_:Q .non (upd H l (.lst (xs++zs))))
theorem j6:Ia X "list.extend" C0:=by
 intro pins s σ H x vs v us Q I f i h;obtain⟨l,b,xs,zs,rfl,rfl,V,d,j,q⟩:=h;cases f;obtain⟨u,rfl,Z⟩:=i.one;cases Z;obtain⟨z,its,n,r,m,e⟩:=I.pZ V;obtain⟨k,J,n2,a,g,c⟩:=I.pZ d;have U:its.toArray.size + J.toArray.size<=sizeLine:=by rw[ff,ff]; lia
 have O:¬ (!its.toArray.isEmpty && Builtin.List.listTooLong (its.toArray.size + J.toArray.size))=true:=by
  rw[rB U,Bool.and_false];exact eN
 refine call_meets F.slot_list_extend ⟨_,e,rfl⟩ F.entry_list_extend (F.args_list_extend_2 _ _)
  (AutoSeq1.list_extend_list_list_0 l its.toArray n b J.toArray n2 O (by rw[ff]; lia) (by lia)) ⟨e,c,?_⟩
 refine⟨.non,_,I.EW (its':=its++J) V e (by simp) (r.append a) ?_,rfl,q⟩;rw[dE]
 lia
inductive Iu(x:V)(vs:List V)(H:Hp)(Q:VK):Prop|m(l xs y:_)(_:x=.ref l)(_:vs=[])(_:H l=some (.lst xs))(_:xs[xs.length - 1]?=some y)(_:Q y (upd H l (.lst xs.dropLast)))
theorem AM:Ia X "list.pop" Iu:=by
 intro pins s σ H x vs v us Q I b d h;obtain⟨l,xs,y,rfl,rfl,U,Z,q⟩:=h;cases b;have J:=d.zero;subst J;obtain⟨z,its,n,r,c,e⟩:=I.pZ U;obtain⟨u,a,V⟩:=r.get Z;have O:its.toArray[its.toArray.size - 1]?=some u:=by
  show its.toArray[its.length - 1]?=some u;rw[<-iI,<-c];exact a
 refine call_meets F.slot_list_pop ⟨_,e,rfl⟩ F.entry_list_pop (F.args_list_pop_1 _) (MeetsSeq.list_pop_last l its.toArray n u O (by rw[ff]; lia)) ⟨e,?_⟩;refine⟨y,_,I.EW (its':=its.dropLast) U e ?_ r.dropLast ?_,V,q⟩
 ·show its.toArray.eraseIdxIfInBounds (its.toArray.size - 1)=its.dropLast.toArray;rw[ff,List.eraseIdxIfInBounds_toArray,vk]
 ·rw[List.length_dropLast]
  lia
inductive G8(x y:V)(H:Hp)(Q:VK):Prop|m(l b xs zs:_)(_:x=.ref l)(_:y=.ref b)(_:H l=some (.lst xs))(_:H b=some (.lst zs))(_:xs.length + zs.length<=sizeLine)(_:∀ p,H p=none->Q (.ref p) (upd H p (.lst (xs++zs))))
theorem eG:iL X (binaryOp .Add) G8:=by
 intro pins s σ H x y v u Q I a f h;obtain⟨l,b,xs,zs,rfl,rfl,d,Z,g,q⟩:=h;cases a;cases f;obtain⟨z,its,n,r,j,e⟩:=I.pZ d;obtain⟨i,J,n2,O,c,V⟩:=I.pZ Z;refine PySem.P.add_list e V ?_ (by rw[ff,ff]; lia);have U:its.toArray++J.toArray=(its++J).toArray:=by simp
 rw[U];exact⟨.ref _,_,I.EV (t':=s.toks) (r.append O) (by rw[dE]; lia),rfl,q _ I.fresh⟩
inductive HV(x y:V)(H:Hp)(Q:VK):Prop|m(l k xs:_)(_:x=.ref l)(_:y=.int k)(_:H l=some (.lst xs))(_:-(2 ^ 63)<=k)(_:k < 2 ^ 63)(_:xs.length * k.toNat<=sizeLine)(_:∀ p,H p=none->Q (.ref p) (upd H p (.lst (List.replicate k.toNat xs).flatten)))
theorem len_rep{α:Type}(xs:List α)(k:Nat):(List.replicate k xs).flatten.length=k * xs.length:=by
 induction k with
 | zero=>simp
 | succ k I=>rw[Eb,List.flatten_cons,dE,I,Nat.succ_mul,Nat.add_comm]
theorem Ez:iL X (binaryOp .Mult) HV:=by
 intro pins s σ H x y v u Q I g p h;obtain⟨l,k,xs,rfl,rfl,o,h1,h2,f,q⟩:=h;cases g;obtain⟨t,rfl⟩:=p;obtain⟨z,its,n,r,j,e⟩:=I.pZ o;have Z:its.toArray.size * k.toNat<=sizeLine:=by rw[ff,<-j]; exact f
 have b:¬ its.toArray.size * k.toNat > (2 ^ 63 - 1) / 8:=by
  have:(sizeLine:Nat)<=(2 ^ 63 - 1) / 8:=by decide
  lia
 have O:¬ (!Builtin.List.listFitsIndex k)=true:=by
  rw[fitsIndex_both h1 h2];exact eN
 have J:¬ Builtin.List.listTooLong (its.toArray.size * k.toNat)=true:=by
  rw[rB Z];exact eN
 have V:List.foldl (fun c d=>c++d) #[] (List.replicate (if its.toArray.isEmpty=true then 0 else k.toNat) its.toArray)=(List.replicate k.toNat its).flatten.toArray:=by
  have i:∀ m:Nat,List.foldl (fun c d=>c++d) #[] (List.replicate m its.toArray)=(List.replicate m its).flatten.toArray:=fun m=>by
   have:=foldl_rep its m [];rw[List.nil_append]at this;exact this
  rw[i];cases its with
  | nil=>simp
  | cons a A=>rw[if_neg (by simp)]
 refine wpAny_binaryOp_repeat_ref (T:="list") (U:="int") (by decide) ⟨_,e,rfl⟩ (fun s'=>typeIs_int s' k t) noFill_list_mul F.fills_int_mul F.slot_int_rmul repeat_list F.slot_int_index.lookup
  (call_meets F.slot_int_rmul (typeIs_int s k t) F.entry_int_rmul (F.args_int_rmul_2 _ _) (int___rmul___int_list k t l its.toArray n)
   ⟨e,rfl,⟨_,e,rfl⟩,call_meets F.slot_list_mul ⟨_,e,rfl⟩ F.entry_list_mul (F.args_list_mul_2 _ _) (AutoListH.list___mul___list_int_3 l its.toArray n k t O b J) ⟨e,?_⟩⟩)
 rw[V];exact⟨.ref _,_,I.EV (t':=s.toks) (r.rep k.toNat) (by rw[len_rep,Nat.mul_comm]; exact f),rfl,q _ I.fresh⟩
section
variable {prog:Program}{w:World}{E:Value->Shared->Prop} 
set_option maxRecDepth 100000 in
end
end L2
namespace Att
open PySem PySem.W PySem.Calls PyProof.Rows
variable {P:Params}{h:Heap}{l:OpenLaw}{n:Nat}
theorem kG:∀ (ns:List Int) (vs:List Value),WellAll P h vs (ns.map WData.int)->IntsAre vs ns:=by
 intro ns
 induction ns with
 | nil=>
  intro vs w;rw[List.map_nil]at w;cases w;exact .nil
 | cons n ns I=>
  intro vs w;rw[iU]at w;cases w with
  | cons a b=>
   cases a;exact .cons _ _ (I _ b)
theorem yl(hn:l.most=some n){args:List WData}{vals:List Value}
  (hpre:l.row.toRowW.claim.pre args=true) (hwl:WellAll P h vals args) :
  ∃ a vs ns,vals=[Value.ref a]/\args=[WData.list (ns.map WData.int)]/\h.get? a=some { cls:=.type "list",data:=.seq vs.toArray }/\IntsAre vs ns/\ns.length<=n:=by
 have V:WShape.hasAll [] args [.list .int]=true:=(pre_splitW hpre).1;have Z:l.pre.holds [] { args:=args }=true:=(pre_splitW hpre).2;obtain⟨d,r,rfl,h1,h2⟩:=hasAllW_cons V;obtain rfl:=hasAllW_nil h2;obtain⟨xs,rfl,c⟩:=hasW_list h1;obtain⟨ns,rfl⟩:=items_int c;have I:ns.length<=n:=by
  unfold OpenLaw.pre at Z;have O:(WTm.not (.lt (.lit (.int (n:Int))) (.len (.arg 0)))).holds [] { args:=[.list (ns.map .int)] }=true:=by
   have O:=(holds_andW Z).1;rw[hn]at O;exact O
  have U:=condW_of O (w_not (w_lt w_lit (w_len_list (w_arg rfl))));rw[bL]at U;refine Nat.le_of_not_lt fun q=>?_
  have f:(n:Int) < ((ns.length:Nat):Int):=by omega
  first
   | (rw[gp f]at U; exact absurd U (by decide))
   | (simp at U; omega)
 cases hwl with
 | cons e g=>
  cases g;cases e with
  | list b J=>exact⟨_,_,ns,rfl,rfl,b,kG ns _ J,I⟩
theorem xG(l:OpenLaw)(args:List WData):l.row.toRowW.claim.post args (.bool true) args=true:=
 postW_of (r:=l.row.toRowW) (X:=(true == true))
  (show WShape.has [] (.bool true) .bool=true by first | rfl | decide | simp[WShape.has,WShape.arms,WShape.armsAll])
  (show (WTm.eq .res (.lit (.bool true))).value [] { args:=args,res:=some (.bool true),after:=args }=some (.bool (true == true)) from w_eq_bool (w_res rfl) w_lit) rfl
theorem sG{q:Program}{loose:List Str}{XP:(Str->Option Value)->Heap->Prop}{YP:World->Heap->Prop}{d:DefRec}
  (hn:l.most=some n) (hdf:d.params.defaults=[])
  (call:∀ (w:World) (s₀ s₁:Shared) (mg mb:Str->Option Value) (fa:Addr) (o:Obj) (pm cd doc:Value) (a:Addr) (vs:List Value) (ns:List Int),
   Ground q loose [] XP w s₀ mg mb s₁.heap->YP w s₁.heap->
   s₁.heap.get? fa=some o->o.data=.func (docDef d.name d.params d.body d.scope pm cd doc)->s₁.heap.CodeRec cd d.name->mg d.name=some (.ref fa)->
   s₁.heap.get? a=some { cls:=.type "list",data:=.seq vs.toArray }->IntsAre vs ns->ns.length<=n->s₁.gens=#[]->
   codeAny (model l.prog w) callerA (.call (.ref fa) ⟨[.ref a],[]⟩) (fun r s'=>r=.ok (.ret (.bool true))/\OldK s₁.heap s'.heap/\s'.os=s₁.os/\AllBare s'.gens) s₁) :
  WalkO q loose XP YP l.row.toRowW d [] (fun f vs=>PySem.call f vs):=by
 intro w s₀ s₁ mg mb G Y fa o pm cd doc u kV g s Z c b t args vals v U e h V k;obtain rfl:u=.none:=Dflts.none c hdf;obtain rfl:kV=.none:=Dflts.noKw c;obtain⟨a,vs,ns,rfl,rfl,J,I,O⟩:=yl hn U V;refine enter_call (codeAny_mono (call w s₀ s₁ mg mb fa o pm cd doc a vs ns G Y g (fd_plain s) Z b J I O t) fun r s' m=>?_);obtain⟨rfl,h2,i,p⟩:=m;exact⟨.inl ⟨.bool true,.bool true,[],rfl,fun _=>rfl,.bool true,xG l _,fun _=>⟨List.Pairwise.nil,fun _ j=>(nomatch j)⟩⟩,h2,i,p⟩
section
variable {prog:Program}{w:World}{A:Around}{E:Value->Shared->Prop}{s:Shared}{K:Frag}
def ledger(h:Heap)(L d:Addr):List (Addr × Obj):=(List.range h.objs.size).filterMap fun a=>if a=L\/a=d then none else (h.get? a).map fun o=>(a,o)
end
end Att
namespace L2
open PySem PySem.Spec PyProof.Rows
variable {x:Str}
theorem oO:∀ {vs:List Value} {ns:List Int},IntsAre vs ns->Vals (ns.map V.int) vs
 | _,_,.nil=>.nil
 | _,_,.cons n t h=>.cons ⟨t,rfl⟩ (oO h)
def E4(H:Hp):Prop:=∀ b,H b=none\/∃ o xs,H b=some (.frz o (.lst xs))
theorem zI{P:Program}{w:World}{K:aL}{mg mb:Str->Option Value}{CX:DJ}{k:Nat}{fa a:Addr}{fd:qT}{sp:Sp}{s₁:Shared}{vs:List Value}{ns:List Int}
  (KX:K.In s₁.heap) (hns:s₁.heap.Ns mainGlobals mg) (hb:s₁.heap.Ns builtinsNs mb) (hbb:∀ x:Str,x≠"__name__"->mb x=bootBuiltins x) (hlim:s₁.heap.NoLimit) (hg:s₁.gens=#[])
  (ha:s₁.heap.get? a=some { cls:=.type "list",data:=.seq vs.toArray }) (hi:IntsAre vs ns) (hl:ns.length<=sizeLine) (hr:gB k callerA)
  (F:∀ base:Heap,K.In base->base.Ns mainGlobals mg->b9 P w K mg base CX k fa fd [x] sp) (hbind:∀ (s:Shared) (u:Value),BindsTo s fd ⟨[u],[]⟩ [(x,u)])
  (hsp:∀ H:Hp,E4 H->bp K H a (ns.map V.int)->sp [.ref a] H (fun v _=>v=.bl true) fun _ _ _=>False)
  (hCX:∀ H e s',CX [] H s₁ (fun _ _ _=>False) e s'->False) :
  codeAny (model P w) callerA (.call (.ref fa) ⟨[.ref a],[]⟩) (fun r s'=>r=.ok (.ret (.bool true))/\OldK s₁.heap s'.heap/\s'.os=s₁.os/\AllBare s'.gens) s₁:=by
 have B:=oO hi;have c:=hi.length
 -- from an abstract heap in which nothing but the script may be tracked
 have O:∀ H:Hp,E4 H->bp K H a (ns.map V.int)->gR P w H s₁.heap->(∀ b,H b≠none->b=a)->(H a≠none->K.lookup a=none)->
   codeAny (model P w) callerA (.call (.ref fa) ⟨[.ref a],[]⟩) (fun r s'=>r=.ok (.ret (.bool true))/\OldK s₁.heap s'.heap/\s'.os=s₁.os/\AllBare s'.gens) s₁:=by
  intro H A Q Z t R;have I:∀ {b:Addr} {o:Obj},s₁.heap.get? b=some o->H b=none->(pU s₁.heap H).get? b=some o:=fun e n=>yI e n
  have p:∀ {b:Addr} {o:Obj} {es:Array DictEntry} {ep:Nat},s₁.heap.get? b=some o->o.data=.dict es ep->H b=none:=fun {b o es ep} e d=>by
   cases q:H b with
   | none=>rfl
   | some u=>
    have i:b=a:=t b (by rw[q]; simp);subst i;rw[ha]at e; cases e;have d':Data.seq vs.toArray _=Data.dict es ep:=d;cases d'
  have J:∀ {b:Addr} {m:Str->Option Value},s₁.heap.Ns b m->(pU s₁.heap H).Ns b m:=fun {b m} j=>by obtain⟨o,es,ep,e,d,r⟩:=j; exact⟨o,es,ep,I e (p e d),d,r⟩
  have g:K.In (pU s₁.heap H):=fun b o e=>I (KX b o e) (by
   cases q:H b with
   | none=>rfl
   | some u=>
    have i:b=a:=t b (by rw[q]; simp);subst i
    rw[R (by rw[q]; simp)]at e; cases e)
  have N:Mod K mg (pU s₁.heap H):=⟨g,J hns,⟨mb,J hb,hbb⟩,let ⟨mc,h1,h2⟩:=hlim; ⟨mc,J h1,h2⟩⟩
  have M:CG P w K mg (pU s₁.heap H) callerA [] s₁ H:=⟨rfl,N,fun b o e=>Dd e,Nat.le_of_eq (yg _ _),trivial,fun b hb=>absurd (show b∈([]:List Addr) from hb) (by simp),Z,.of_eq hg⟩
  refine codeAny_mono ((F _ g (J hns)).run callerA [] s₁ H ⟨[.ref a],[]⟩ [.ref a] [.ref a] _ _ hr M (hbind s₁ (.ref a)) (.cons rfl .nil) (hsp H A Q)) fun r s' h=>?_
  cases r with
  | error e=>exact (hCX H e s' h).elim
  | ok fl=>
   cases fl with
   | next=>exact False.elim h
   | brk=>exact False.elim h
   | cont=>exact False.elim h
   | ret u=>
    obtain⟨v,H',os,U,un,f,L,q⟩:=h;have G:v=.bl true:=q;subst G;obtain rfl:u=Value.bool true:=L;refine⟨rfl,OldK.of_keep fun b o e=>?_,os,U⟩;cases q:H b with
    | none=>exact un.keep b o e q (by intro z; exact absurd (show b∈([]:List Addr) from z) (by simp)) (by simp)
    | some u=>
     rcases A b with z | ⟨D,xs,z⟩
     ·rw[q]at z; cases z
     ·have E:=un.frzs b D _ z;obtain⟨y,_⟩:=Z b _ z;obtain⟨C,_⟩:=f b _ E;rw[e]at y; cases y;exact C
 cases l:K.lookup a with
 | some o=>
  -- the script is one of the module's own objects
  have e:=KX a o l;rw[ha]at e;cases e;refine O (fun _=>none) (fun _=>.inl rfl) (.inr ⟨_,vs.toArray,_,l,rfl,rfl,rfl,by rw[ff,c]; exact hl,by simpa using B⟩) (fun b u z=>by have z':(none:Option HO)=some u:=z; cases z') (fun b z=>absurd rfl z) fun z=>absurd rfl z
 | none=>
  refine O (fun b=>if b=a then some (.frz { cls:=.type "list",data:=.seq vs.toArray } (.lst (ns.map V.int))) else none) (fun b=>?_) (.inl (.inr ⟨{ cls:=.type "list",data:=.seq vs.toArray },if_pos rfl⟩)) (fun b u z=>?_) (fun b z=>?_) fun _=>l
  ·by_cases hb:b=a
   ·exact .inr ⟨_,_,if_pos hb⟩
   ·exact .inl (if_neg hb)
  ·by_cases hb:b=a
   ·have z':=(if_pos hb).symm.trans z;cases z';subst hb;exact⟨ha,by rw[bL]; exact hl,vs,_,B,ha⟩
   ·have z':=(if_neg hb).symm.trans z;cases z'
  ·by_cases hb:b=a
   ·exact hb
   ·exact absurd (if_neg hb) z
abbrev Jd{K:aL}{h:Heap}(_:K.In h):aL:=K
theorem wH{l:PySem.W.OpenLaw}{n k:Nat}{q:Program}{loose:List Str}{XP:(Str->Option Value)->Heap->Prop}{YP:World->Heap->Prop}{d:DefRec}{K:Params->aL}{CX:World->DJ}{sp:World->Sp}
  (hn:l.most=some n) (hn2:n<=sizeLine) (hdf:d.params.defaults=[]) (hr:gB k callerA)
  (hY:∀ (w:World) (h:Heap),YP w h->(K w.params).In h)
  (F:∀ (w:World) (mg:Str->Option Value) (fa:Addr) (h:Heap),(K w.params).In h->h.Ns mainGlobals mg->mg d.name=some (.ref fa)->
   ∃ fd:qT,(∀ (s:Shared) (u:Value),BindsTo s fd ⟨[u],[]⟩ [(x,u)])/\
    ∀ base:Heap,(K w.params).In base->base.Ns mainGlobals mg->b9 l.prog w (K w.params) mg base (CX w) k fa fd [x] (sp w))
  (hsp:∀ (w:World) (H:Hp) (a:Addr) (ns:List Int),ns.length<=n->E4 H->bp (K w.params) H a (ns.map V.int)->sp w [.ref a] H (fun v _=>v=.bl true) fun _ _ _=>False)
  (hCX:∀ (w:World) (H:Hp) (s:Shared) (e:Value) (s':Shared),CX w [] H s (fun _ _ _=>False) e s'->False) :
  PySem.W.WalkO q loose XP YP l.row.toRowW d [] (fun f vs=>PySem.call f vs):=by
 refine Att.sG hn hdf fun w s₀ c mg A fa o pm cd doc a vs ns G Y y z j U O J I t=>?_
 have Z:=hY w _ Y;obtain⟨fd,i,m⟩:=F w mg fa _ Z G.T.g U;exact zI Z G.T.g G.T.b G.T.builtins G.T.nolimit t O J (kC I hn2) hr m i (fun H p r=>hsp w H a ns I p r) fun H e s'=>hCX w H c e s'
end L2
/- THE LAST THEOREM (shape; LID,My.* are yours):
   My.Adr: a structure of the addresses that your layer names (classes,functions); My.Txt K t: a structure (Prop) of the equations over K;
   My.txt_mk:{K} {implicit addresses ..} (e1:nsIn K mainGlobals "law" = some (some (.ref f))) (e2:K.lookup f=some ⟨oc,od,.func (fnOf "law" "law" params body scope dV kV doc pm an cdv ct),sl⟩) (e3:codeIn K cdv "law" = true) ..:∃ t,My.Txt K t
set_option maxRecDepth 100000 in
set_option maxHeartbeats 0 in
theorem PySem.Challenge.cw_LID_holds:PySem.Challenge.rw_LID.Holds:=by
 w_on; o_law; k_head; (case hw=>w_witness2)
 k_fill
 refine L2.wH (l:=PySem.Challenge.rw_LID) (n:=63) (k:=40) (x:="script") (CX:=fun w=>..) (sp:=fun _=>My.sp_law) rfl (by decide) rfl ⟨rfl,by decide,by decide⟩ (fun w h Y=>PySem.W.kIn_of Y) ?F ?S ?C
 case F=>
  intro w mg fa h O G I;have T:∃ t,My.Txt (L2.Jd O) t:=by
   dsimp only[L2.Jd]                          -- K must stand as «<heap const> w.params» for k_is
   refine' My.txt_mk ?e1 ?e2 ?e3 ..
   (case e1=>PySem.W.k_is)                    -- in the order: a name -> its address -> its object -> its parts
   (case e2=>PySem.W.k_is)
   ..
  obtain⟨t,T⟩:=T;have U:=I.symm.trans (PySem.W.mg_of O G T.law);cases U                                       -- fa is the law's own address
  exact⟨_,fun s u=>.of_eq rfl,fun base J nb=>My.law_fn T J nb⟩     -- if «.of_eq rfl» comes too early: refine'⟨_,?b,fun base J nb=>My.law_fn T J nb⟩; exact fun s u=>.of_eq rfl
 case S=>exact fun w H a ns V Z b=>..
 case C=>exact ..
(the tactic k_is has no namespace: write k_is) -/
namespace L2
open PySem PySem.Spec PyProof.Rows
variable {scope:Scope}{X:Cx}{g:TG}{tc:TT}{te:TE}{pos:Pos}{H H1 H':Hp}{σ:St}{x qual:Str}{elt iter tg:Expr}{ifs:List Expr}{f a p:Addr}{A B:Prop}{xs:List V}{vars N ps:List Str}{fp:List Addr}{s:Shared}{vn n:Nat}{Q:Hp->Prop}{env:Env}{pins:List (Addr × Obj)}{wi:TI}{w:World}
def fD(s:Stmt):Arguments:=match s with
 | .FunctionDef _ a _ _ _ _ _ _ _ _=>a
 | _=>{ posonlyargs:=[],args:=[],vararg:=none,kwonlyargs:=[],kw_defaults:=[],kwarg:=none,defaults:=[] }
def eS(s:Stmt):List Stmt:=match s with
 | .FunctionDef _ _ b _ _ _ _ _ _ _=>b
 | _=>[]
def av(s:Stmt):Scope:=match s with
 | .FunctionDef _ _ _ _ _ _ sc _ _ _=>sc
 | _=>{ kind:=.function,names:=[],isGenerator:=false,isCoroutine:=false }
abbrev fM:DJ:=fun _ _ _ _ _ _=>False
abbrev E0:XK:=fun _ _ _=>False
theorem GB:Passes fM X E0:=fun _ _ _ _ _ _ _ h=>h.elim
structure fL (K:aL) (x qual:Str) (st:Stmt) (f:Addr) (fd:qT):Prop where
 ex:∃ (oc:Value) (od:Option Addr) (kV doc pm:Value) (an:Option Addr) (cdv ct:Value) (osl:Array (Option Value)),
  fd=PySem.W.fnOf x qual (fD st) (eS st) (av st) .none kV doc pm an cdv ct/\K.lookup f=some ⟨oc,od,.func fd,osl⟩/\PySem.W.codeIn K cdv qual=true
 kp:PySem.W.keepIn K (.ref f)=true
section
variable {P:Program}{K:aL}{mg:Str->Option Value}{base:Heap}
theorem fL.ok{st:Stmt}{fd:qT}{k:Nat}{sp:Sp}(F:fL K x qual st f fd)(S:aW N ps (av st))(len:∀ vs H Q E,sp vs H Q E->vs.length=ps.length)
  (hbody:∀ (cdv:Value) (A:Around) (outer:List Env) (s:Shared) (H:Hp) (vs:List V) (Q:VK) (E:XK),gB k (A.deeper (envOfC qual (av st) s.heap.objs.size f cdv))->sp vs H Q E->
   ∃ t,xy (xW fM P w K mg base N qual (av st) f cdv A outer s H E).Hv (eS st) t/\t { nx:=fun _ H'=>Q .non H',rt:=Q } (start N vs) H):b9 P w K mg base fM (k + 1) f fd ps sp:=by
 obtain⟨oc,od,kV,doc,pm,an,cdv,ct,osl,rfl,O,J⟩:=F.ex;refine Hr O J S len fun A outer s H vs Q E U I=>?_
 obtain⟨t,h,q⟩:=hbody cdv A outer s H vs Q E U I;exact⟨t,h.Hv,q⟩
theorem fL.binds{st:Stmt}{fd:qT}(F:fL K x qual st f fd)
  (h:∀ (kV doc pm:Value) (an:Option Addr) (cdv ct:Value) (us:List Value),us.length=ps.length->bindArgs (PySem.W.fnOf x qual (fD st) (eS st) (av st) .none kV doc pm an cdv ct) ⟨us,[]⟩=pure (ps.zip us)):Binds K fd ps []:=by
 obtain⟨oc,od,kV,doc,pm,an,cdv,ct,osl,rfl,J,I⟩:=F.ex;exact .all (h kV doc pm an cdv ct)
theorem Bo{st:Stmt}{oc:Value}{od an:Option Addr}{osl:Array (Option Value)}{kV doc pm cdv ct:Value}(l:K.lookup f=some ⟨oc,od,.func (PySem.W.fnOf x qual (fD st) (eS st) (av st) .none kV doc pm an cdv ct),osl⟩)
  (c:PySem.W.codeIn K cdv qual=true) (k:PySem.W.keepIn K (.ref f)=true):fL K x qual st f (PySem.W.fnOf x qual (fD st) (eS st) (av st) .none kV doc pm an cdv ct):=⟨⟨oc,od,kV,doc,pm,an,cdv,ct,osl,rfl,l,c⟩,k⟩
end
theorem aN(h:n<=1000):n < sizeLine:=Ar h (by decide)
theorem pv(i:Nat)(hN:X.N[i]?=some x:=by rfl)(hv:HQ X.env.scope x:=by first | exact Or.inl rfl | exact Or.inr (Or.inl rfl) | exact Or.inr (Or.inr rfl))(hd:(x == ("__debug__":Str))=false:=by decide)
  (hcd:(x == ("__classdict__":Str))=false:=by decide):PE X (.Name x pos) (BN i):=FH hN hv hd hcd
theorem eI(h:B):if false=true then A else B:=by
 rw[if_neg eN];exact h
theorem lL(h:A):if true=true then A else B:=by
 rw[if_pos rfl];exact h
theorem cj{c:Prop}[Decidable c](h1:c->A)(h2:¬ c->B):if c then A else B:=by
 by_cases h:c
 ·rw[if_pos h];exact h1 h
 ·rw[if_neg h];exact h2 h
def aB(H H':Hp):Prop:=∀ b o,H b=some o->H' b=some o
theorem aB.refl(H:Hp):aB H H:=fun _ _ h=>h
theorem aB.trans{H2:Hp}(a:aB H H1)(b:aB H1 H2):aB H H2:=fun c o h=>b c o (a c o h)
theorem aB.free(e:aB H H'){l:Addr}(h:H' l=Option.none):H l=Option.none:=by
 cases q:H l with
 | none=>rfl
 | some o=>
  rw[e l o q]at h;cases h
theorem aB.seq{K:aL}(e:aB H H')(h:bp K H a xs):bp K H' a xs:=by
 rcases h with (h | ⟨o,h⟩) | h
 ·exact .inl (.inl (e _ _ h))
 ·exact .inl (.inr ⟨o,e _ _ h⟩)
 ·exact .inr h
abbrev Cx.cmp(X:Cx)(scope:Scope)(cl:List (Str × Addr))(vars:List Str)(C:Addr)(s:Shared)(H:Hp)(fp:List Addr)(pins:List (Addr × Obj)):Cx:=
 { X with N:=vars++X.N,s₀:=s,H₀:=H,env:=compEnvC scope cl C X.env,outer:=X.stack,stack:=X.stack,ex:=fp,fn:=fun _=>false,pn:=X.pn++pins,xe:=fun _ _=>False }
structure gE (X:Cx) (scope:Scope):Prop where
 kind:scope.kind=.function
 nocell:∀ y∈scope.names,y.2≠.cell
 names:∀ y∈scope.names,y.2=.local->scope.names.lookup y.1=some .local
 free:∀ y∈scope.names,y.2=.free->X.env.scope.names.lookup y.1=some .cell\/X.env.scope.names.lookup y.1=some .free
 locs:∀ x∈X.N,scope.names.lookup x≠some .local
def Hg(N:List Str)(so sc:Scope):Bool:=decide (sc.kind=.function) && sc.names.all (fun y=>decide (y.2≠.cell)) && sc.names.all (fun y=>decide (y.2=.local->sc.names.lookup y.1=some .local)) &&
 sc.names.all (fun y=>decide (y.2=.free->so.names.lookup y.1=some .cell\/so.names.lookup y.1=some .free)) && N.all (fun x=>decide (sc.names.lookup x≠some .local))
theorem cT{so:Scope}(hN:X.N=N)(hs:X.env.scope=so)(h:Hg N so scope=true):gE X scope:=by
 unfold Hg at h;simp only[DI,List.all_eq_true,decide_eq_true_eq]at h;obtain⟨⟨⟨⟨h1,h2⟩,I⟩,J⟩,O⟩:=h;subst hN hs;exact⟨h1,h2,I,J,O⟩
theorem vx{env:Env}:∀ (names:List (Str × NameKind)) (acc:List (Str × Addr)),(∀ y∈names,y.2=.free->∃ c,env.cells.lookup y.1=some c)->(∀ p∈acc,env.cells.lookup p.1=some p.2)->
  ∃ cl,(forIn names acc (fun x cs=>(match x with | (name,kind)=>if (kind == NameKind.free)=true then do let c <-cellOf env name; pure (ForInStep.yield ((name,c)::cs)) else pure (ForInStep.yield cs):Sem (ForInStep (List (Str × Addr))))))=pure cl/\
   (∀ p∈cl,env.cells.lookup p.1=some p.2)/\(∀ p∈acc,p∈cl)/\∀ y∈names,y.2=.free->∃ c,(y.1,c)∈cl:=by
 intro names
 induction names with
 | nil=>intro acc _ h; exact⟨acc,rfl,h,fun _ z=>z,fun y I=>by cases I⟩
 | cons y r d=>
  intro acc U a;obtain⟨n,k⟩:=y;by_cases Z:k=.free
  ·subst Z;obtain⟨c,b⟩:=U (n,.free) gC rfl
   obtain⟨cl,e,h1,h2,V⟩:=d ((n,c)::acc) (fun y I=>U y (jd _ I)) (fun p J=>by
    rcases d0.mp J with rfl | J
    ·exact b
    ·exact a p J)
   refine⟨cl,?_,h1,fun p J=>h2 p (jd _ J),fun y I O=>?_⟩
   ·rw[DZ];have g:cellOf env n=pure c:=by unfold cellOf; rw[b]
    simp only[D0,if_true];rw[g];exact e
   ·rcases d0.mp I with rfl | I
    ·exact⟨c,h2 _ gC⟩
    ·exact V y I O
  ·obtain⟨cl,e,h1,h2,V⟩:=d acc (fun y I=>U y (jd _ I)) a;refine⟨cl,?_,h1,h2,fun y I O=>?_⟩
   ·rw[DZ];have f:(k == NameKind.free)=false:=by simpa using Z
    simp only[f,gD,fO];exact e
   ·rcases d0.mp I with rfl | I
    ·exact absurd O Z
    ·exact V y I O
theorem mF(h:∀ y∈scope.names,y.2=.free->∃ c,env.cells.lookup y.1=some c) :
  ∃ cl,closureFor scope env=pure cl/\(∀ p∈cl,env.cells.lookup p.1=some p.2)/\∀ y∈scope.names,y.2=.free->∃ c,(y.1,c)∈cl:=by
 obtain⟨cl,e,h1,_,J⟩:=vx (env:=env) scope.names [] h (fun p I=>by cases I);refine⟨cl,?_,h1,J⟩;unfold closureFor;dsimp only;rw[e];rfl
theorem cq{env:Env}:∀ {names:List (Str × NameKind)} {x:Str} {k:NameKind},
  (names.map fun (n,k)=>if (k == NameKind.free && env.scope.kind == .function && env.kindOf n == some .cell) then (n,NameKind.cell) else (n,k)).lookup x=some k->
  names.lookup x=some k\/(k=.cell/\names.lookup x=some .free)
 | [],_,_,h=>by simp at h
 | (n,k0)::r,x,k,h=>by
  have ih:=@cq env r x k;change List.lookup x ((if (k0 == NameKind.free && env.scope.kind == .function && env.kindOf n == some .cell)=true then (n,NameKind.cell) else (n,k0))::_)=_ at h;by_cases J:(k0 == NameKind.free && env.scope.kind == .function && env.kindOf n == some .cell)=true
  ·rw[if_pos J]at h;cases I:x == n with
   | true=>
    simp only[BC,I]at h |-;have O:k0=.free:=by
     simp only[DI]at J
     simpa using J.1.1
    subst O;cases h;exact .inr ⟨rfl,rfl⟩
   | false=>
    simp only[BC,I]at h |-;exact ih h
  ·rw[if_neg J]at h;cases I:x == n with
   | true=>
    simp only[BC,I]at h |-;exact .inl h
   | false=>
    simp only[BC,I]at h |-;exact ih h
theorem lookup_mem{α β:Type}[BEq α][LawfulBEq α]:∀ {l:List (α × β)} {x:α} {b:β},(x,b)∈l->∃ c,l.lookup x=some c
 | (y,c)::r,x,b,h=>by
  cases hx:x == y with
  | true=>exact⟨c,by simp only[BC,hx]⟩
  | false=>
   have hr:(x,b)∈r:=by
    rcases d0.mp h with e | e
    ·cases e; simp at hx
    ·exact e
   obtain⟨I,e⟩:=lookup_mem hr;exact⟨I,by simp only[BC,hx]; exact e⟩
theorem BO{cl:List (Str × Addr)}{h1:Heap}{t1:Nat}(hc:X.calm=true)(S:gE X scope)(I:Inv X pins σ H s)
  (c1:∀ p∈cl,X.env.cells.lookup p.1=some p.2) (c2:∀ y∈scope.names,y.2=.free->∃ c,(y.1,c)∈cl) (hns:h1.Ns s.heap.objs.size (fun _=>none)) (hk:∀ b o,s.heap.get? b=some o->h1.get? b=some o)
  (f:∀ b∈fp,mM X pins H b) (fo:∀ b∈fp,b < s.heap.objs.size) :
  Inv (X.cmp scope cl vars s.heap.objs.size s H fp pins) [] (List.replicate vars.length none++σ) H { s with heap:=h1,toks:=t1 }:=by
 have O:∀ x c,cl.lookup x=some c->X.env.cells.lookup x=some c:=fun x c e=>c1 (x,c) (yG e)
 have U:∀ b∈w6 X.stack,b∈X.env.locals::X.fs:=I.qd
 refine⟨⟨I.ok.mod,S.kind,I.ok.glob,I.ok.blt,bH _,fun x y c h1 h2=>I.ok.inj x y c (O x c h1) (O y c h2),fun x F=>?_,fun x c B=>absurd B (by simp),I.ok.hd,I.ok.frames,.inl rfl,
   fun b Z=>⟨cH (fo b Z),fun x c e=>(f b Z).2.2.2.2.1 x c (O x c e)⟩,I.bs,kC I.ok.bsz I.sz,fun b o e Z=>?_,fun b Z a=>?_,I.stack,I.vR⟩,
  rfl,I.bare,Un.kept hk,⟨_,hns,fun i x v E j A=>?_⟩,fun x c e=>?_,I.hok.fresh (bH _),fun x c e=>I.freeC x c (O x c e),fun p C=>?_,I.hok.kept hk,?_⟩
 ·-- has
  have l:(relabel scope X.env).names.lookup x=some .cell\/(relabel scope X.env).names.lookup x=some .free:=F;have J:scope.names.lookup x=some .free:=by
   rcases l with q | q
   ·rcases cq q with z | ⟨_,z⟩
    ·exact absurd rfl (S.nocell _ (yG z))
    ·exact z
   ·rcases cq q with z | ⟨z,_⟩
    ·exact z
    ·cases z
  obtain⟨c,a⟩:=c2 _ (yG J) rfl;exact lookup_mem a
 ·-- noex
  rcases (f b Z).2.2.2.1 with z | z
  ·exact I.ok.noex b o e z
  ·exact absurd (kU (cG (I.ok.bs b o e).1) z) (Al _)
 ·-- exfs
  rcases d0.mp (U b a) with z | z
  ·exact (f b Z).2.1 z
  ·exact (f b Z).2.2.1 z
 ·-- loc
  have hi:vars.length<=i:=by
   by_cases hi:i < vars.length
   ·rw[xB (by simpa using hi),List.getElem?_replicate,if_pos hi]at j;cases j
   ·lia
  rw[ue (by simpa using hi),FW]at j;have g:X.N[i - vars.length]?=some x:=by
   rw[<-ue hi]; exact E
  have J:scope.names.lookup x=some .free:=by
   rcases A with q | q | q
   ·rcases cq q with z | ⟨z,_⟩
    ·exact absurd z (S.locs x (oY g))
    ·cases z
   ·rcases cq q with z | ⟨_,z⟩
    ·exact absurd rfl (S.nocell _ (yG z))
    ·exact z
   ·rcases cq q with z | ⟨z,_⟩
    ·exact z
    ·cases z
  have V:=S.free _ (yG J) rfl;obtain⟨m,Q,G⟩:=I.loc;obtain⟨u,r,D⟩:=G _ x v g j (by rcases V with z | z; exact .inr (.inl z); exact .inr (.inr z));refine⟨u,r,.inr ⟨?_,?_⟩⟩
  ·rcases A with q | q | q
   ·rcases cq q with z | ⟨z,_⟩
    ·exact absurd z (S.locs x (oY g))
    ·cases z
   ·exact .inl q
   ·exact .inr q
  ·obtain⟨T,a⟩:=c2 _ (yG J) rfl;obtain⟨c,h⟩:=lookup_mem a;refine⟨c,h,?_⟩;rcases D with ⟨z,_⟩ | ⟨_,R,t,z⟩
   ·have z':X.env.scope.names.lookup x=some .local:=z;rcases V with y | y
    ·rw[y]at z'; cases z'
    ·rw[y]at z'; cases z'
   ·rw[O x c h]at t; cases t;exact z.keeps hk
 ·-- cell
  obtain⟨v,z⟩:=I.cell x c (O x c e);exact⟨v,z.keeps hk⟩
 ·-- pins
  have k:p∈X.pn++pins:=by simpa using C
  obtain⟨e,n,M,L,d⟩:=I.pin p k;refine⟨hk _ _ e,n,cH (cG e),fun a=>?_,d⟩;rcases d0.mp (U p.1 a) with z | z
  ·exact M z
  ·exact L z
 ·show (List.replicate vars.length none++σ).length=(vars++X.N).length;rw[dE,dE,FW,I.len]
theorem rK{cl:List (Str × Addr)}{σ':St}{s':Shared}{h':Heap}(I:Inv X pins σ H s)
  (f:∀ b∈fp,mM X pins H b) (J:Inv (X.cmp scope cl vars s.heap.objs.size s H fp pins) [] σ' H' s') (hs:Heap.SameBut s.heap.objs.size s'.heap h'):Inv X pins σ H' { s' with heap:=h' }:=by
 have u:Un (w6 X.stack) fp H H' s.heap s'.heap:=J.base;have V:∀ b o,s.heap.get? b=some o->b≠s.heap.objs.size:=fun b o e=>cH (cG e)
 have a:Un (w6 X.stack) fp H H' s.heap h':=⟨fun b o e n O U=>(hs.2 b (V b o e)).trans (u.keep b o e n O U),fun b o e n O U=>by
   obtain⟨sl,z⟩:=u.slot b o e n O U;exact⟨sl,(hs.2 b (V b o e)).trans z⟩,u.free,fun b o e U=>by
   obtain⟨o',z⟩:=u.there b o e U
   exact⟨o',(hs.2 b (V b o e)).trans z⟩,u.aA,u.frzs,u.tbls⟩
 have Z:H' s.heap.objs.size=none:=J.free;have ok:gR X.prog X.w H' h':=fun b o e=>by
  refine (J.hok b o e).nI (fun c v d q=>(hs.2 c ?_).trans q) (fun _ q=>q) fun _ _ q=>q
  rintro rfl
  rcases d with z | z
  ·rw[<-z,Z]at e; cases e
  ·rw[Z]at z; cases z
 exact I.G3 (s':={ s' with heap:=h' }) (ch:=fp) J.os a ok J.bare fun b O=>⟨(f b O).2.2.2.1,(f b O).2.1,(f b O).2.2.2.2.1,(f b O).2.2.2.2.2⟩
section
variable {prog:Program}{A:Around}{R:Result->Shared->Prop}
theorem iH{target:Expr}{it acc:Value}(I:Nat->Shared->Prop)
  (turn:∀ n s,I n s->wpAny (model prog w) A (pyNext it) (fun r s₁=>match r with
   | none=>R (.ok .next) s₁
   | some v=>wpAny (model prog w) A (letOwnedTupleGo target it v) (fun _ s₂=>wpAny (model prog w) A (assign target env v) (fun _ s₂=>
     wpAny (model prog w) A (forIn ifs true fun c r=>if r=true then do let ok <-isTrue c env (eval c env); pure (ForInStep.yield ok) else pure (ForInStep.yield r)) (fun ok s₃=>
      if ok=true then wpAny (model prog w) A (eval elt env) (fun x s₄=>
       wpAny (model prog w) A (call (.builtin "list.append") [acc,x]) (fun _ s₅=>∃ m,m < n/\I m s₅) (fun _ _=>False) s₄) (fun _ _=>False) s₃
      else ∃ m,m < n/\I m s₃) (fun _ _=>False) s₂) (fun _ _=>False) s₂) (fun _ _=>False) s₁) (fun _ _=>False) s)
  (n:Nat) (h:I n s):codeAny (model prog w) A (.compLoop (.ListComp elt [⟨target,iter,ifs,0⟩] scope pos) 0 it acc env) R s:=by
 refine codeAny_loop rfl I (fun n s V=>?_) n h;show wpAny _ A ((compTurn (.ListComp elt [⟨target,iter,ifs,0⟩] scope pos) 0 it acc env).onRaise (fun x=>do noteFrame x env; theTreesLotGoes x)) _ _ s;refine wpAny_noted ?_;rw[compTurn_list];have no:∀ {E:Value->Shared->Prop} (e:Value) (s:Shared),False->E e s:=fun _ _ h=>h.elim
 refine ar (wpAny_standAt (ar (tU (turn n s V) (fun r s₁ O=>?_) no)));cases r with
 | none=>exact aO O
 | some v=>
  refine ar (tU O (fun _ s₂ J=>?_) no);refine ar (tU J (fun _ s₂ J=>ar (tU J (fun ok s₃ U=>?_) no)) no);cases ok with
  | false=>exact aO ⟨rfl,U⟩
  | true=>
   exact ar (ar (tU U (fun x s₄ a=>ar (tU a (fun _ s₅ Z=>aO (aO ⟨rfl,Z⟩)) no)) no))
end
def yN(X:Cx)(ifs:List Expr)(t:TT):Prop:=
 ∀ (pins:List (Addr × Obj)) (s:Shared) (σ:St) (H:Hp) (Q:Bool->Hp->Prop),Inv X pins σ H s->t σ H Q->
  wpAny (model X.prog X.w) X.A (forIn ifs true fun c r=>if r=true then do let ok <-isTrue c X.env (eval c X.env); pure (ForInStep.yield ok) else pure (ForInStep.yield r)) (TP X pins σ Q) X.xe s
def DD:TT:=fun _ H Q=>Q true H
theorem cD:yN X [] DD:=fun pins s σ H Q I h=>wpAny_tests_nil ⟨H,I,h⟩
theorem jI{c:Expr}{t:TT}(h:PT X c t):yN X [c] t:=fun pins s σ H Q I q=>wpAny_tests_one (h pins s σ H Q I q)
def jW(J:It)(vn:Nat)(g:TG)(tc:TT)(te:TE)(σ:St)(p:Addr)(H1:Hp)(Q:Hp->Prop):Prop:=
 ∃ W:Nat->Nat->Hp->Prop,(∃ m,W 0 m (upd H1 p (.lst [])))/\∀ i m H,W i m H->
  (J.stop i H/\Q H)\/(J.go i H/\∃ N:Hp->Prop,(∀ H',N H'->∃ m',m' < m/\W (i + 1) m' H')/\∀ x H',J.yld i H x H'->g x (List.replicate vn none++σ) H' fun σ2 H2=>(∃ τ:St,σ2=τ++σ/\τ.length=vn)/\tc σ2 H2 fun b H3=>
   if b=true then te σ2 H3 fun v H4=>∃ acc,H4 p=some (.lst acc)/\acc.length < sizeLine/\N (upd H4 p (.lst (acc++[v]))) else N H3)
def DW(wi:TI)(vn:Nat)(g:TG)(tc:TT)(te:TE):TE:=fun σ H Q=>wi σ H fun J H1=>∀ p,H1 p=none->jW J vn g tc te σ p H1 (Q (.ref p))
theorem lX{cl:List (Str × Addr)}(hc:X.calm=true)(S:gE X scope)
  (hg:∀ cl C s H fp pins,PG (X.cmp scope cl vars C s H fp pins) tg g) (ht:∀ cl C s H fp pins,yN (X.cmp scope cl vars C s H fp pins) ifs tc) (he:∀ cl C s H fp pins,PE (X.cmp scope cl vars C s H fp pins) elt te)
  (c1:∀ p∈cl,X.env.cells.lookup p.1=some p.2) (c2:∀ y∈scope.names,y.2=.free->∃ c,(y.1,c)∈cl)
  {it:Addr} {tn:Nat->Heap->Prop} {J:It} {E:Value->Shared->Prop} (I:Inv X pins σ H s) (T:Turn X.prog X.w X.K tg J fp it tn) (st:tn 0 s.heap) (f:∀ b∈fp,mM X pins H b)
  {Q:Addr->Hp->Prop} (q:∀ p,H p=none->jW J vars.length g tc te σ p H (Q p)) {RR:Value->Addr->Result->Shared->Prop}
  (hRR:∀ (p C:Addr) (s':Shared) (H':Hp) (m:Str->Option Value),s'.heap.Ns C m->H' C=none->C≠X.env.locals->(∀ x c,X.env.cells.lookup x=some c->c≠C)->(∀ p∈X.pn++pins,p.1≠C)->X.s₀.heap.objs.size<=C->
   (∀ h',Heap.SameBut C s'.heap h'->Inv X pins σ H' { s' with heap:=h' })->Q p H'->RR (.ref p) C (.ok .next) s') :
  wpAny (model X.prog X.w) X.A (newList []) (fun acc s₃=>wpAny (model X.prog X.w) X.A (newFunctionEnv scope X.env.globals cl [] X.env.qual none .none (some X.env)) (fun cenv s₄=>
   codeAny (model X.prog X.w) X.A (.compStart (.ListComp elt [⟨tg,iter,ifs,0⟩] scope pos) 0 (.ref it) acc { cenv with scope:=relabel scope X.env }) (RR acc cenv.locals) s₄) E s₃) E s:=by
 refine qV (wpAny_newFunctionEnv S.nocell (by intro y hy; simp at hy) (fun l h B=>?_) S.kind);dsimp only at h B |-;have a:Inv X pins σ (upd H s.heap.objs.size (.lst [])) { s with heap:=s.heap.push { cls:=.type "list",data:=.seq ([]:List Value).toArray },toks:=s.toks }:=I.EV (its:=[]) .nil (dI _);generalize hs3:({ s with heap:=s.heap.push { cls:=.type "list",data:=.seq ([]:List Value).toArray },toks:=s.toks }:Shared)=s3 at a;have R:H s.heap.objs.size=none:=I.fresh;have eh:s3.heap=s.heap.push { cls:=.type "list",data:=.seq ([]:List Value).toArray }:=by rw[<-hs3]
 have sz3:s3.heap.objs.size=s.heap.objs.size + 1:=by rw[eh,yx]
 rw[<-eh]at h B;have fo:∀ b∈fp,b < s.heap.objs.size:=fun b U=>by
  obtain⟨o,e,_⟩:=T.obj _ _ st b U;exact cG e
 have f3:∀ b∈fp,mM X pins (upd H s.heap.objs.size (.lst [])) b:=fun b U=>by
  refine⟨?_,(f b U).2⟩;rw[aw (cH (fo b U))]; exact (f b U).1
 have Y:∀ b∈fp,b < s3.heap.objs.size:=fun b U=>by rw[sz3]; exact DX (fo b U)
 have up:∀ b o,s3.heap.get? b=some o->l.get? b=some o:=fun b o e=>B.extBut b o (cH (cG e)) (cB _ e)
 have st1:tn 0 l:=T.keep 0 _ _ st fun b U o e=>up b o (by rw[eh]; exact cB _ e)
 have I4:Inv (X.cmp scope cl vars s3.heap.objs.size s3 (upd H s.heap.objs.size (.lst [])) fp pins) [] (List.replicate vars.length none++σ) (upd H s.heap.objs.size (.lst [])) { s3 with heap:=l,toks:=s3.toks + ([]:List (Str × Value)).length }:=
  BO hc S a c1 c2 h up f3 Y
 obtain⟨W,⟨m0,w0⟩,turn⟩:=q _ R;have es:({ s3 with heap:=l,toks:=s3.toks + ([]:List (Str × Value)).length }:Shared)={ s with heap:=l,toks:=s.toks + ([]:List (Str × Value)).length }:=by rw[<-hs3]
 -- what stays true of the iterator's objects
 have V:∀ {H':Hp},(∀ b∈fp,H' b=none)->∀ b∈fp,mM (X.cmp scope cl vars s3.heap.objs.size s3 (upd H s.heap.objs.size (.lst [])) fp pins) [] H' b:=fun hn b U=>by
  refine⟨hn b U,cH (Y b U),fun t=>?_,.inl U,fun x c e=>(f b U).2.2.2.2.1 x c (c1 (x,c) (yG e)),fun p R=>(f b U).2.2.2.2.2 p (by simpa using R)⟩;rcases d0.mp (a.qd b t) with z | z
  ·exact (f b U).2.1 z
  ·exact (f b U).2.2.1 z
 have loop:∀ s₄:Shared,s₄={ s3 with heap:=l,toks:=s3.toks + ([]:List (Str × Value)).length }->
   codeAny (model X.prog X.w) X.A (.compLoop (.ListComp elt [⟨tg,iter,ifs,0⟩] scope pos) 0 (.ref it) (.ref s.heap.objs.size) (compEnvC scope cl s3.heap.objs.size X.env)) (RR (.ref s.heap.objs.size) s3.heap.objs.size) s₄:=by
  rintro s₄ rfl
  refine iH (fun n s'=>∃ i H',Inv (X.cmp scope cl vars s3.heap.objs.size s3 (upd H s.heap.objs.size (.lst [])) fp pins) [] (List.replicate vars.length none++σ) H' s'/\tn i s'.heap/\(∀ b∈fp,H' b=none)/\W i n H') ?_ m0
   ⟨0,_,I4,st1,fun b U=>(f3 b U).1,w0⟩
  rintro n s5 ⟨i,H5,I5,st5,fr5,w5⟩
  rcases turn i n H5 w5 with ⟨stop,qn⟩ | ⟨go,N,hN,step⟩
  ·refine cw (T.done (X.cmp scope cl vars s3.heap.objs.size s3 (upd H s.heap.objs.size (.lst [])) fp pins) rfl rfl rfl hc i [] s5 _ H5 _ I5 (V fr5) st5 stop) fun r s6 O=>?_
   obtain⟨hr,I6⟩:=O;subst hr;obtain⟨m,hn,_⟩:=id I6.loc;refine hRR _ _ s6 H5 m hn I6.free ?_ ?_ ?_ ?_ (fun h' hs'=>rK a f3 I6 hs') qn
   ·exact Nat.ne_of_gt a.lt
   ·intro x c e z;obtain⟨v,hv⟩:=a.cell x c e;exact absurd hv.lt (by rw[z]; exact Al _)
   ·intro p R z;obtain⟨e,_⟩:=a.pin p R;exact absurd (cG e) (by rw[z]; exact Al _)
   ·exact a.sz
  ·refine cw (T.item (X.cmp scope cl vars s3.heap.objs.size s3 (upd H s.heap.objs.size (.lst [])) fp pins) rfl rfl rfl hc i [] s5 _ H5 _ I5 (V fr5) st5 go) fun r s6 O=>?_
   obtain⟨u,hr,h6⟩:=O;subst hr;refine cw h6 fun _ s7 O=>?_
   obtain⟨x,H7,I7,r7,y7,k,fr7⟩:=O;have I7':=I7.pinned (V fr7) (T.obj _ _ k);refine cw (hg _ _ _ _ _ _ _ s7 _ H7 x u _ I7' r7 (step x H7 y7)) fun _ s8 O=>?_
   obtain⟨σ8,H8,I8,⟨τ,e8,l8⟩,q8⟩:=O;have Z:∀ {D:Hp} {L:Shared} {G:Nat},Inv (X.cmp scope cl vars s3.heap.objs.size s3 (upd H s.heap.objs.size (.lst [])) fp pins) ([]++mC fp s7.heap) σ8 D L->G < n->W (i + 1) G D->
     ∃ m,m < n/\∃ i H',Inv (X.cmp scope cl vars s3.heap.objs.size s3 (upd H s.heap.objs.size (.lst [])) fp pins) [] (List.replicate vars.length none++σ) H' L/\tn i L.heap/\(∀ b∈fp,H' b=none)/\W i m H':=by
    intro D L G F t w9;refine⟨G,t,i + 1,D,(F.jH (pins:=[])).weak ?_ ?_,T.keep _ _ _ k fun b U o e=>(F.pin (b,o) (uD _ (uD _ (gk U e)))).1,fun b U=>?_,w9⟩
    ·rw[e8,dE,dE,FW,l8]
    ·intro j v ej;by_cases hj:j < vars.length
     ·rw[xB (by simpa using hj),List.getElem?_replicate,if_pos hj]at ej;cases ej
     ·rw[ue (by simpa using hj),FW]at ej;rw[e8,ue (by lia),l8];exact ej
    ·obtain⟨o,e,d⟩:=T.obj _ _ k b U;exact (F.pin (b,o) (uD _ (uD _ (gk U e)))).2.1
   refine cw (ht _ _ _ _ _ _ _ s8 σ8 H8 _ I8 q8) fun b L O=>?_
   obtain⟨D,F,q9⟩:=O;cases b with
   | false=>
    rw[if_neg eN]at q9 |-;obtain⟨G,t,w9⟩:=hN _ q9;exact Z F t w9
   | true=>
    rw[if_pos rfl]at q9 |-;refine cw (he _ _ _ _ _ _ _ L σ8 D _ F q9) fun y s10 O=>?_
    obtain⟨v,H10,I10,r10,acc,a10,z10,w10⟩:=O;refine cw (bF _ s10 σ8 H10 (.ref s.heap.objs.size) [v] (.ref s.heap.objs.size) [y] (fun _ M=>N M) I10 rfl (.cons r10 .nil) ⟨_,acc,v,rfl,rfl,a10,z10,w10⟩) fun _ s11 O=>?_
    obtain⟨_,M,I11,_,w11⟩:=O;obtain⟨G,t,w12⟩:=hN _ w11;exact Z I11 t w12
 have fin:=codeAny_compStart_list (loop _ rfl) (T.self X.A 0 { s3 with heap:=l,toks:=s3.toks + ([]:List (Str × Value)).length } _ _ st1 (loop _ rfl));subst hs3;exact fin
theorem cA(vars:List Str)(hc:X.calm=true)(S:gE X scope)(hi:PI X tg iter wi)
  (hg:∀ cl C s H fp pins,PG (X.cmp scope cl vars C s H fp pins) tg g) (ht:∀ cl C s H fp pins,yN (X.cmp scope cl vars C s H fp pins) ifs tc) (he:∀ cl C s H fp pins,PE (X.cmp scope cl vars C s H fp pins) elt te)
  (hs:∀ x,foldedSetIterable iter X.env x=pure x:=by intro _; rfl):PE X (.ListComp elt [⟨tg,iter,ifs,0⟩] scope pos) (DW wi vars.length g tc te):=by
 intro pins s σ H Q I h;obtain⟨cl,U,j,d⟩:=mF (scope:=scope) (env:=X.env) fun y l b=>I.ok.has y.1 (by rcases S.free y l b with z | z; exact .inl z; exact .inr z)
 rw[eval_ListComp];refine wpAny_comprehension_free (use:=none) rfl hs U S.kind S.names (cw (hi pins s σ H _ I h) fun v s1 h1=>cw h1 fun i s2 h2=>?_);obtain⟨it,fp,o,J,H2,e,c,T,V,f,q⟩:=h2;subst e;refine lX (vars:=vars) (Q:=fun p=>Q (.ref p)) hc S hg ht he j d c T V f q (RR:=fun Z C=>compPost (model X.prog X.w) X.A X.xe none (EP X pins σ Q) Z C) ?_;intro p C s' H' m k _ _ _ _ _ O n;exact⟨m,k,fun h' a=>⟨.ref p,H',O h' a,rfl,n⟩⟩
def Ao(i:Nat)(wi:TI)(vn:Nat)(g:TG)(tc:TT)(te:TE):TS:=fun D σ H=>DW wi vn g tc te σ H fun v H1=>D.nx (σ.set i (some v)) H1
theorem uG{spos py:Pos}{i:Nat}{y:Str}(vars:List Str)(hc:X.calm=true)(S:gE X scope)
  (hN:X.N.Nodup) (hy:X.N[i]?=some y) (hl:Loc X.env.scope y) (hi:PI X tg iter wi)
  (hg:∀ cl C s H fp pins,PG (X.cmp scope cl vars C s H fp pins) tg g) (ht:∀ cl C s H fp pins,yN (X.cmp scope cl vars C s H fp pins) ifs tc) (he:∀ cl C s H fp pins,PE (X.cmp scope cl vars C s H fp pins) elt te)
  (hsw:swapsWith (.ListComp elt [⟨tg,iter,ifs,0⟩] scope pos) (some (.Name y py)) spos.line X.env=pure true)
  (hf:X.fn y=true\/X.env.scope.names.lookup y=some .local:=by first | exact .inl rfl | exact .inr rfl | assumption)
  (hs:∀ x,foldedSetIterable iter X.env x=pure x:=by intro _; rfl) :
  PS X (.Assign [.Name y py] (.ListComp elt [⟨tg,iter,ifs,0⟩] scope pos) spos) (Ao i wi vars.length g tc te):=by
 intro pins s σ H D I h;obtain⟨cl,j,N,G⟩:=mF (scope:=scope) (env:=X.env) fun y hy hf=>I.ok.has y.1 (by rcases S.free y hy hf with z | z; exact .inl z; exact .inr z)
 rw[exec_Assign_Name_used _ _ _ _ hsw];refine ar (wpAny_standAt (ar ?_));show wpAny _ X.A (do let _ <-comprehension (.ListComp elt [⟨tg,iter,ifs,0⟩] scope pos) scope X.env _ (newList []) false (eval iter X.env) (some (assign (.Name y py) X.env))) _ _ s
 refine ar (tU (wpAny_comprehension_free (use:=some (assign (.Name y py) X.env)) (Q:=fun _ s'=>SP X pins D .next s') rfl hs j S.kind S.names
  (cw (hi pins s σ H _ I h) fun v s1 h1=>cw h1 fun M s2 h2=>?_)) (fun _ s' l=>aO (aO l)) fun _ _ e=>e)
 obtain⟨it,fp,tn,J,H2,e,E,T,k,L,q⟩:=h2;subst e;refine lX (vars:=vars) (Q:=fun p H1=>D.nx (σ.set i (some (.ref p))) H1) hc S hg ht he N G E T k L q (RR:=fun r C=>compPost (model X.prog X.w) X.A X.xe (some (assign (.Name y py) X.env)) (fun _ s'=>SP X pins D .next s') r C) ?_;intro p C s' H' m R F B O U d Z l;have I':Inv X pins σ H' s':=by have:=Z s'.heap (.refl ..); exact this
 show wpAny _ X.A (assign (.Name y py) X.env (.ref p)) _ _ _;refine wpAny_assign_Name (oA I' hN hy hl (v:=.ref p) (u:=.ref p) rfl (fun n f V=>?_) hf);obtain⟨a,W,Y⟩:=V;have c:C≠a:=by
  rcases Y with z | z
  ·rw[z]; exact B
  ·exact fun w=>O _ _ z w.symm
 refine⟨m,R.sameBut W c,fun h' t=>⟨_,H',f.turned (t':=n.toks) (it:=C) (fun b o hb e=>(t.2 b hb).trans e) F B (.inr d) O U,l⟩⟩
theorem dW{lo:Int}(Pv:Nat->Hp->Prop)(h0:Pv 0 (upd H1 p (.lst [])))
  (hs:∀ i H,i < n->Pv i H->g (.int (lo + i)) (List.replicate vn none++σ) H fun σ2 H2=>(∃ τ:St,σ2=τ++σ/\τ.length=vn)/\tc σ2 H2 fun b H3=>
   if b=true then te σ2 H3 fun v H4=>∃ acc,H4 p=some (.lst acc)/\acc.length < sizeLine/\Pv (i + 1) (upd H4 p (.lst (acc++[v]))) else Pv (i + 1) H3) (hd:∀ H,Pv n H->Q H):jW (EI lo n) vn g tc te σ p H1 Q:=by
 refine⟨fun i m H=>i<=n/\m=n - i/\Pv i H,⟨n,dI _,rfl,h0⟩,fun i m H Z=>?_⟩;obtain⟨hi,rfl,I⟩:=Z;by_cases J:i < n
 ·refine .inr ⟨J,Pv (i + 1),fun H' h'=>⟨n - (i + 1),by lia,by lia,rfl,h'⟩,fun x H' U=>?_⟩;obtain⟨O,V⟩:=U;subst O V;exact hs i _ J I
 ·have e:i=n:=by lia
  subst e;exact .inl ⟨bH _,hd H I⟩
theorem eU{K:aL}(Pv:Nat->Hp->Prop)(h0:Pv 0 (upd H1 p (.lst [])))(hl:∀ i H,i<=xs.length->Pv i H->bp K H a xs)
  (hs:∀ i x H,xs[i]?=some x->Pv i H->g x (List.replicate vn none++σ) H fun σ2 H2=>(∃ τ:St,σ2=τ++σ/\τ.length=vn)/\tc σ2 H2 fun b H3=>
   if b=true then te σ2 H3 fun v H4=>∃ acc,H4 p=some (.lst acc)/\acc.length < sizeLine/\Pv (i + 1) (upd H4 p (.lst (acc++[v]))) else Pv (i + 1) H3) (hd:∀ H,Pv xs.length H->Q H):jW (FZ K a) vn g tc te σ p H1 Q:=by
 refine⟨fun i m H=>i<=xs.length/\m=xs.length - i/\Pv i H,⟨xs.length,dI _,rfl,h0⟩,fun i m H c=>?_⟩;obtain⟨hi,rfl,I⟩:=c;have J:=hl i H hi I;by_cases O:i < xs.length
 ·refine .inr ⟨⟨xs,xs[i],J,cL O⟩,Pv (i + 1),fun H' h'=>⟨xs.length - (i + 1),by lia,by lia,rfl,h'⟩,fun x H' V=>?_⟩;obtain⟨U,Z⟩:=V;subst U;exact hs i x _ (Z xs J) I
 ·have e:i=xs.length:=by lia
  subst e;exact .inl ⟨⟨xs,J,bH _⟩,hd H I⟩
theorem fR{K:aL}(Pv:Nat->Hp->Prop)(h0:Pv 0 (upd H1 p (.lst [])))(hl:∀ i H,i<=xs.length->Pv i H->bu K H a xs)
  (hs:∀ i x H,xs[i]?=some x->Pv i H->g x (List.replicate vn none++σ) H fun σ2 H2=>(∃ τ:St,σ2=τ++σ/\τ.length=vn)/\tc σ2 H2 fun b H3=>
   if b=true then te σ2 H3 fun v H4=>∃ acc,H4 p=some (.lst acc)/\acc.length < sizeLine/\Pv (i + 1) (upd H4 p (.lst (acc++[v]))) else Pv (i + 1) H3) (hd:∀ H,Pv xs.length H->Q H):jW (F2 K a) vn g tc te σ p H1 Q:=by
 refine⟨fun i m H=>i<=xs.length/\m=xs.length - i/\Pv i H,⟨xs.length,dI _,rfl,h0⟩,fun i m H c=>?_⟩;obtain⟨hi,rfl,I⟩:=c;have J:=hl i H hi I;by_cases O:i < xs.length
 ·refine .inr ⟨⟨xs,xs[i],J,cL O⟩,Pv (i + 1),fun H' h'=>⟨xs.length - (i + 1),by lia,by lia,rfl,h'⟩,fun x H' V=>?_⟩;obtain⟨U,Z⟩:=V;subst U;exact hs i x _ (Z xs J) I
 ·have e:i=xs.length:=by lia
  subst e;exact .inl ⟨⟨xs,J,bH _⟩,hd H I⟩
end L2
namespace ZT
open PySem PySem.Spec PyProof.Rows
variable {l1 l2 z i1 i2 t S:Addr}{xs ys items:Array Value}{Q E:Value->Shared->Prop}{x y res:Value}{i:Nat}{f:Bool}{R:Result->Shared->Prop}{prog:Program}{w:World}{A:Around}{s:Shared}
theorem next_item{it:Addr}(hit:s.heap.IsTupleIter it t i)(ht:s.heap.IsTuple t items)(hx:items[i]?=some x)
  (hQ:∀ h',h'.IsTupleIter it t (i + 1)->Heap.SameBut it s.heap h'->Q x { s with heap:=h' }):wpAny (model prog w) A (Builtin.SmallTypes.nextOf (.ref it)) Q E s:=by
 obtain⟨o,J,V,I⟩:=id hit;obtain⟨Z,O,_,nl,U⟩:=ht;unfold Builtin.SmallTypes.nextOf;refine ar (wJ (name:=Str.ofString "__next__") hit.typeIs F.slot_tuple_iterator_next (lD F.slot_tuple_iterator_next hit.typeIs F.entry_tuple_iterator_next ?_ (F.args_tuple_iterator_next_1 _)));change wpAny _ _ (field (.ref it) 0 >>= _) _ _ s;refine ar (ny J I (x:=.ref t) rfl ?_);change wpAny _ _ (if (Value.ref t == Value.none)=true then _ else _) _ _ s;rw[if_neg (show ¬ ((Value.ref t == Value.none)=true) from eN)];change wpAny _ _ (field (.ref it) 1 >>= _) _ _ s;refine ar (ny J I (x:=.int i 0) rfl ?_);change wpAny _ _ (seqItems? (.ref t) >>= _) _ _ s;refine ar (AJ O U ?_);simp only[qU,hx];refine ar (Bw J I (by simp) (aO ⟨x,rfl,aO (hQ _ ?_ (yB ..))⟩));exact⟨_,xZ _ J (FV (yF I _)),(Obj.cls_mapFields ..).trans V,by rw[yF I]; simp[rawInt]⟩
theorem next_end{it:Addr}(hh:A.handled=none)(hit:s.heap.IsTupleIter it t i)(ht:s.heap.IsTuple t items)(hx:items[i]?=none)
  (hE:∀ h' e,Heap.ExtBut it s.heap h'->(∃ o,h'.get? e=some o/\o.cls=.type "StopIteration")->E (.ref e) { s with heap:=h' }):wpAny (model prog w) A (Builtin.SmallTypes.nextOf (.ref it)) Q E s:=by
 obtain⟨o,O,V,I⟩:=id hit;obtain⟨Z,J,_,nl,U⟩:=ht;unfold Builtin.SmallTypes.nextOf;refine ar (wJ (name:=Str.ofString "__next__") hit.typeIs F.slot_tuple_iterator_next (lD F.slot_tuple_iterator_next hit.typeIs F.entry_tuple_iterator_next ?_ (F.args_tuple_iterator_next_1 _)));change wpAny _ _ (field (.ref it) 0 >>= _) _ _ s;refine ar (ny O I (x:=.ref t) rfl ?_);change wpAny _ _ (if (Value.ref t == Value.none)=true then _ else _) _ _ s;rw[if_neg (show ¬ ((Value.ref t == Value.none)=true) from eN)];change wpAny _ _ (field (.ref it) 1 >>= _) _ _ s;refine ar (ny O I (x:=.int i 0) rfl ?_);change wpAny _ _ (seqItems? (.ref t) >>= _) _ _ s;refine ar (AJ J U ?_);simp only[qU,hx];refine ar (sT (ar (Bw O I (by simp) ?_)));change wpAny _ _ (newExc (.type "StopIteration") [] >>= _) _ _ _;refine ar ?_;simp only[newExc,newTuple];refine ar (qV ?_ (by size_fits));refine ar (m:=firstArgMember _ _) (wpAny_of_eq (a:=Value.none) (by first | rfl | (simp only[firstArgMember]; rfl)) ?_);refine qV ?_ (by size_fits);simp only[raiseNew];refine ar (wpAny_handled ?_)
 first | rw[show A.in1.handled=none from hh] | rw[hh]
 refine ar (aO (wpAny_throw ?_));exact hE _ _ (((yB ..).extBut.push _).push _) ⟨_,fB _ rfl,rfl⟩
abbrev nE(h:Heap)(z TI TO:Addr)(f0 f1:Value):Prop:=h.get? z=some { cls:=.type "zip",dict:=none,data:=.fields #[f0,f1,.bool false,.ref TI,.ref TO],slots:=#[] }
structure Zt (h:Heap) (z TI TO i1 i2 l1 l2:Addr) (xs ys:Array Value) (k:Nat):Prop where
 ti:IsPair h TI (.ref i1) (.ref i2)
 to:∃ a b,IsPair h TO a b
 n1:h.IsTupleIter i1 l1 k
 n2:h.IsTupleIter i2 l2 k
 t1:h.IsTuple l1 xs
 t2:h.IsTuple l2 ys
theorem dk{h h':Heap}{a:Addr}(x:h.IsTuple a items)(k:∀ o,h.get? a=some o->h'.get? a=some o):h'.IsTuple a items:=let ⟨o,e,r⟩:=x; ⟨o,k o e,r⟩
theorem vw{TI TO:Addr}{k:Nat}(D:ZipApart z TI TO i1 i2 l1 l2)(hz:nE s.heap z TI TO .none (.bool false))(Z:Zt s.heap z TI TO i1 i2 l1 l2 xs ys k)
  (hx:xs[k]?=some x) (hy:ys[k]?=some y)
  (hQ:∀ h',nE h' z TI TO (rawInt s.heap.objs.size) (.bool false)->Zt h' z TI TO i1 i2 l1 l2 xs ys (k + 1)->IsPair h' s.heap.objs.size x y->
   (∀ c o,c≠z->c≠TO->c≠i1->c≠i2->s.heap.get? c=some o->h'.get? c=some o)->Q (.ref s.heap.objs.size) { s with heap:=h' }) :
  wpAny (model prog w) A (Builtin.«zip.__next__» ⟨[.ref z],[]⟩) (fun fin s'=>∃ v,fin=.done (.ret v)/\Q v s') E s:=by
 obtain⟨i,⟨a,b,F⟩,h1,h2,j,m⟩:=Z;change wpAny _ _ (field (.ref z) 2 >>= _) _ _ _;refine ar (ny hz rfl (x:=.bool false) rfl ?_);change wpAny _ _ (field (.ref z) 3 >>= _) _ _ _;refine ar (ny hz rfl (x:=.ref TI) rfl ?_);refine ar (AJ i rfl ?_);change wpAny _ _ (Builtin.SmallTypes.ownedTupleIsFree (.ref z) >>= _) _ _ _;refine ar ?_;unfold Builtin.SmallTypes.ownedTupleIsFree;refine ar (ny hz rfl (x:=.none) rfl (aO ?_));simp only[if_true];refine ar (sT ?_);refine ar (ny hz rfl (x:=.ref TO) rfl ?_);refine ar (DM hz (by simp) fun g1 u O=>?_);replace u:nE g1 z TI TO .ellipsis (.bool false):=u;refine ar ?_;simp only[List.zipIdx_cons,List.zipIdx_nil,DZ,List.forIn_nil];refine ar (ar (wpAny_onRaise ?_));change wpAny _ _ (Builtin.SmallTypes.nextOf (.ref i1) >>= _) _ _ _;refine ar (next_item (h1.extBut O.extBut D.i1z) (j.extBut O.extBut D.l1z) hx fun g2 n2 U=>aO ?_);have R:IsPair g2 TO a b:=U.extBut _ _ D.TOi1 (O.extBut _ _ D.TOz F);refine ar (AJ R rfl ?_);refine ar (wpAny_updateSeq_pair R fun g3 B V=>?_);replace B:IsPair g3 TO x b:=B;refine ar (wpAny_letGo (aO ?_));refine ar (ar (wpAny_onRaise ?_));change wpAny _ _ (Builtin.SmallTypes.nextOf (.ref i2) >>= _) _ _ _;refine ar (next_item (((h2.extBut O.extBut D.i2z).extBut U.extBut D.i12.symm).extBut V.extBut D.TOi2.symm) (((m.extBut O.extBut D.l2z).extBut U.extBut D.l2i1).extBut V.extBut D.l2TO) hy fun g4 Y g=>aO ?_);have H:IsPair g4 TO x b:=g.extBut _ _ D.TOi2 B;refine ar (AJ H rfl ?_);refine ar (wpAny_updateSeq_pair H fun I q h=>?_);replace q:IsPair I TO x y:=q;refine ar (wpAny_letGo (aO (aO ?_)));refine ar (AJ q rfl ?_);refine ar (wpAny_newTuple ?_);have f:I.objs.size=s.heap.objs.size:=by rw[h.1,g.1,V.1,U.1,O.1]
 have N:nE I z TI TO .ellipsis (.bool false):=h.extBut _ _ D.TOz.symm (g.extBut _ _ D.i2z.symm (V.extBut _ _ D.TOz.symm (U.extBut _ _ D.i1z.symm u)));have k5:∀ c o,c≠z->c≠TO->c≠i1->c≠i2->s.heap.get? c=some o->I.get? c=some o:=fun c o J n C r e=>
  h.extBut _ _ n (g.extBut _ _ r (V.extBut _ _ n (U.extBut _ _ C (O.extBut _ _ J e))))
 have W:I.IsTupleIter i1 l1 (k + 1):=((n2.extBut V.extBut D.TOi1.symm).extBut g.extBut D.i12).extBut h.extBut D.TOi1.symm;have m2:I.IsTupleIter i2 l2 (k + 1):=Y.extBut h.extBut D.TOi2.symm;have l:z < I.objs.size:=cG N;change wpAny _ _ (Builtin.SmallTypes.ownedTupleHandOut (.ref z) (.ref I.objs.size) >>= _) _ _ _;refine ar ?_;unfold Builtin.SmallTypes.ownedTupleHandOut;have T:nE (I.push { cls:=.type "tuple",data:=.seq #[x,y] }) z TI TO .ellipsis (.bool false):=cB _ N;refine ar (DM T (by simp) fun S t M=>?_);replace t:nE S z TI TO (rawInt I.objs.size) (.bool false):=t;refine DM t (by simp) fun d p L=>?_
 replace p:nE d z TI TO (rawInt I.objs.size) (.bool false):=p;have up:∀ c o,c≠z->I.get? c=some o->d.get? c=some o:=fun c o J e=>L.extBut _ _ J (M.extBut _ _ J (cB _ e))
 have G:IsPair d I.objs.size x y:=L.extBut _ _ (Nat.ne_of_gt l) (M.extBut _ _ (Nat.ne_of_gt l) (fB _ rfl));rw[f]at p G;refine aO ⟨_,rfl,?_⟩;change Q (.ref I.objs.size) _;rw[f];have all:∀ c o,c≠z->c≠TO->c≠i1->c≠i2->s.heap.get? c=some o->d.get? c=some o:=fun c o J n C r e=>up c o J (k5 c o J n C r e)
 exact hQ d p ⟨all _ _ D.TIz D.TITO D.TIi1 D.TIi2 i,⟨x,y,up _ _ D.TOz q⟩,W.at fun o e=>up _ o D.i1z e,m2.at fun o e=>up _ o D.i2z e,dk j fun o e=>all _ o D.l1z D.l1TO D.l1i1 D.l1i2 e,
  dk m fun o e=>all _ o D.l2z D.l2TO D.l2i1 D.l2i2 e⟩ G all
theorem xH{TI TO T:Addr}{k:Nat}{oT:Obj}(D:ZipApart z TI TO i1 i2 l1 l2)(hz:nE s.heap z TI TO (rawInt T) (.bool f))(hT:s.heap.get? T=some oT)
  (Z:Zt s.heap z TI TO i1 i2 l1 l2 xs ys k) (hx:xs[k]?=some x) (hy:ys[k]?=some y)
  (hQ:∀ h',nE h' z TI TO (rawInt T) (.bool true)->Zt h' z TI TO i1 i2 l1 l2 xs ys (k + 1)->IsPair h' s.heap.objs.size x y->
   (∀ c o,c≠z->c≠TO->c≠i1->c≠i2->s.heap.get? c=some o->h'.get? c=some o)->Q (.ref s.heap.objs.size) { s with heap:=h' }) :
  wpAny (model prog w) A (Builtin.«zip.__next__» ⟨[.ref z],[]⟩) (fun fin s'=>∃ v,fin=.done (.ret v)/\Q v s') E s:=by
 obtain⟨j,⟨a,b,q⟩,h1,h2,g,h⟩:=Z;change wpAny _ _ (field (.ref z) 2 >>= _) _ _ _;refine ar (ny hz rfl (x:=.bool false) rfl ?_);change wpAny _ _ (field (.ref z) 3 >>= _) _ _ _;refine ar (ny hz rfl (x:=.ref TI) rfl ?_);refine ar (AJ j rfl ?_);change wpAny _ _ (Builtin.SmallTypes.ownedTupleIsFree (.ref z) >>= _) _ _ _;refine ar ?_;unfold Builtin.SmallTypes.ownedTupleIsFree;refine ar (ny hz rfl (x:=rawInt T) rfl ?_);change wpAny _ _ (loadIfAlive ((T:Int).toNat) >>= _) _ _ _;rw[qU];refine ar (PySem.W.kdx_alive hT ?_);simp only[Option.isNone_some,gD,fO];refine ar (ny hz rfl (x:=.bool f) rfl ?_);have I:∀ d:Heap,nE d z TI TO (rawInt T) (.bool true)->Heap.SameBut z s.heap d->∀ {i:Heap},i.IsTupleIter i1 l1 (k + 1)->Heap.SameBut i1 d i->∀ {J:Heap},J.IsTupleIter i2 l2 (k + 1)->Heap.SameBut i2 i J->
   Q (.ref J.objs.size) { s with heap:=J.push { cls:=.type "tuple",data:=.seq #[x,y] } }:=by
  intro d m V i n2 O J l U;have hsz:J.objs.size=s.heap.objs.size:=by rw[U.1,O.1,V.1]
  have k3:∀ c o,c≠z->c≠i1->c≠i2->s.heap.get? c=some o->(J.push { cls:=.type "tuple",data:=.seq #[x,y] }).get? c=some o:=fun c o n r p e=>
   cB _ (U.extBut _ _ p (O.extBut _ _ r (V.extBut _ _ n e)))
  have u:nE (J.push { cls:=.type "tuple",data:=.seq #[x,y] }) z TI TO (rawInt T) (.bool true):=cB _ (U.extBut _ _ D.i2z.symm (O.extBut _ _ D.i1z.symm m));have p3:IsPair (J.push { cls:=.type "tuple",data:=.seq #[x,y] }) J.objs.size x y:=fB _ rfl;rw[hsz]at p3 |-
  refine hQ _ u ⟨k3 _ _ D.TIz D.TIi1 D.TIi2 j,⟨a,b,k3 _ _ D.TOz D.TOi1 D.TOi2 q⟩,(n2.extBut U.extBut D.i12).at fun o e=>cB _ e,l.at fun o e=>cB _ e,
   dk g fun o e=>k3 _ o D.l1z D.l1i1 D.l1i2 e,dk h fun o e=>k3 _ o D.l2z D.l2i1 D.l2i2 e⟩ p3 fun c o n _ p t e=>k3 c o n p t e
 cases f with
 | true=>
  rw[if_neg (show ¬ ((Value.bool true != Value.bool true)=true) from eN)];refine aO ?_;simp only[gD,fO,<-Dz,DZ,List.forIn_nil];refine ar (ar (ar (iA ?_)));change wpAny _ _ (Builtin.SmallTypes.nextOf (.ref i1) >>= _) _ _ _;refine ar (next_item h1 g hx fun i n2 O=>aO (aO ?_));refine ar (ar (iA ?_));change wpAny _ _ (Builtin.SmallTypes.nextOf (.ref i2) >>= _) _ _ _;refine ar (next_item (h2.extBut O.extBut D.i12.symm) (h.extBut O.extBut D.l2i1) hy fun J l U=>aO (aO (aO ?_)));refine ar (wpAny_newTuple (hsz:=by show 2<=sizeLine; decide) (aO ⟨_,rfl,?_⟩));exact I s.heap hz (.refl ..) n2 O l U
 | false=>
  rw[if_pos (show (Value.bool false != Value.bool true)=true from rfl)];refine ar (DM hz (by simp) fun d m V=>?_);replace m:nE d z TI TO (rawInt T) (.bool true):=m;refine aO ?_;simp only[gD,fO,<-Dz,DZ,List.forIn_nil];refine ar (ar (ar (iA ?_)));change wpAny _ _ (Builtin.SmallTypes.nextOf (.ref i1) >>= _) _ _ _;refine ar (next_item (h1.extBut V.extBut D.i1z) (g.extBut V.extBut D.l1z) hx fun i n2 O=>aO (aO ?_));refine ar (ar (iA ?_));change wpAny _ _ (Builtin.SmallTypes.nextOf (.ref i2) >>= _) _ _ _;refine ar (next_item ((h2.extBut V.extBut D.i2z).extBut O.extBut D.i12.symm) ((h.extBut V.extBut D.l2z).extBut O.extBut D.l2i1) hy fun J l U=>aO (aO (aO ?_)));refine ar (wpAny_newTuple (hsz:=by show 2<=sizeLine; decide) (aO ⟨_,rfl,?_⟩));exact I d m V n2 O l U
theorem Dp{TI TO:Addr}{k:Nat}{f0:Value}{Q:Fin->Shared->Prop}(hh:A.handled=none)(D:ZipApart z TI TO i1 i2 l1 l2)(hz:nE s.heap z TI TO f0 (.bool f))
  (hf:f0=.none\/∃ T oT,f0=rawInt ((T:Nat):Int)/\s.heap.get? T=some oT) (Z:Zt s.heap z TI TO i1 i2 l1 l2 xs ys k) (hend:xs[k]?=none\/ys[k]?=none)
  (hE:∀ h' e,(∀ c o,c≠z->c≠TO->c≠i1->c≠i2->s.heap.get? c=some o->h'.get? c=some o)->(∃ o,h'.get? e=some o/\o.cls=.type "StopIteration")->E (.ref e) { s with heap:=h' }) :
  wpAny (model prog w) A (Builtin.«zip.__next__» ⟨[.ref z],[]⟩) Q E s:=by
 obtain⟨B,⟨a,b,F⟩,h1,h2,g,t⟩:=Z;change wpAny _ _ (field (.ref z) 2 >>= _) _ _ _;refine ar (ny hz rfl (x:=.bool false) rfl ?_);change wpAny _ _ (field (.ref z) 3 >>= _) _ _ _;refine ar (ny hz rfl (x:=.ref TI) rfl ?_);refine ar (AJ B rfl ?_);change wpAny _ _ (Builtin.SmallTypes.ownedTupleIsFree (.ref z) >>= _) _ _ _;refine ar ?_;unfold Builtin.SmallTypes.ownedTupleIsFree;rcases hf with rfl | ⟨T,oT,rfl,S⟩
 ·refine ar (ny hz rfl (x:=.none) rfl (aO ?_));simp only[if_true];refine ar (sT ?_);refine ar (ny hz rfl (x:=.ref TO) rfl ?_);refine ar (DM hz (by simp) fun n v J=>?_);replace v:nE n z TI TO .ellipsis (.bool f):=v;refine ar ?_;simp only[List.zipIdx_cons,List.zipIdx_nil,DZ,List.forIn_nil];refine ar (ar (wpAny_onRaise ?_));change wpAny _ _ (Builtin.SmallTypes.nextOf (.ref i1) >>= _) _ _ _;cases i:xs[k]? with
  | none=>
   refine ar (next_end hh (h1.extBut J.extBut D.i1z) (g.extBut J.extBut D.l1z) i fun O e I V=>?_);obtain⟨y,U,j⟩:=V;have L:nE O z TI TO .ellipsis (.bool f):=I _ _ D.i1z.symm v;have q:e≠z:=fun x=>by subst x; rw[L]at U; cases U; simp at j
   exact DM L (by simp) fun l _ d=>hE l e (fun c o m _ r _ x=>d.extBut _ _ m (I _ _ r (J.extBut _ _ m x))) ⟨y,d.extBut _ _ q U,j⟩
  | some x=>
   have u:ys[k]?=none:=by rcases hend with h | h; rw[i]at h; cases h; exact h
   refine ar (next_item (h1.extBut J.extBut D.i1z) (g.extBut J.extBut D.l1z) i fun O n2 I=>aO ?_);have N:IsPair O TO a b:=I.extBut _ _ D.TOi1 (J.extBut _ _ D.TOz F);refine ar (AJ N rfl ?_);refine ar (wpAny_updateSeq_pair N fun l o3 d=>?_);refine ar (wpAny_letGo (aO ?_));refine ar (ar (wpAny_onRaise ?_));change wpAny _ _ (Builtin.SmallTypes.nextOf (.ref i2) >>= _) _ _ _;refine ar (next_end hh (((h2.extBut J.extBut D.i2z).extBut I.extBut D.i12.symm).extBut d.extBut D.TOi2.symm) (((t.extBut J.extBut D.l2z).extBut I.extBut D.l2i1).extBut d.extBut D.l2TO) u fun g4 e G V=>?_);obtain⟨y,U,j⟩:=V;have M:nE g4 z TI TO .ellipsis (.bool f):=G _ _ D.i2z.symm (d.extBut _ _ D.TOz.symm (I.extBut _ _ D.i1z.symm v));have q:e≠z:=fun x=>by subst x; rw[M]at U; cases U; simp at j
   exact DM M (by simp) fun Y _ H=>hE Y e (fun c o m R r C x=>H.extBut _ _ m (G _ _ C (d.extBut _ _ R (I.extBut _ _ r (J.extBut _ _ m x))))) ⟨y,H.extBut _ _ q U,j⟩
 ·refine ar (ny hz rfl (x:=rawInt T) rfl ?_);change wpAny _ _ (loadIfAlive ((T:Int).toNat) >>= _) _ _ _;rw[qU];refine ar (PySem.W.kdx_alive S ?_);simp only[Option.isNone_some,gD,fO];refine ar (ny hz rfl (x:=.bool f) rfl ?_);have p:∀ n:Heap,Heap.SameBut z s.heap n->(xs[k]?=none->∀ {O:Heap} {e:Addr},Heap.ExtBut i1 n O->(∃ o,O.get? e=some o/\o.cls=.type "StopIteration")->E (.ref e) { s with heap:=O })/\
    (∀ {O l:Heap} {e:Addr},Heap.SameBut i1 n O->Heap.ExtBut i2 O l->(∃ o,l.get? e=some o/\o.cls=.type "StopIteration")->E (.ref e) { s with heap:=l }):=fun n J=>
   ⟨fun _ {O e} I V=>hE O e (fun c o m _ r _ x=>I _ _ r (J.extBut _ _ m x)) V,fun {O l e} I d V=>hE l e (fun c o m _ r C x=>d _ _ C (I.extBut _ _ r (J.extBut _ _ m x))) V⟩
  cases f with
  | true=>
   rw[if_neg (show ¬ ((Value.bool true != Value.bool true)=true) from eN)];refine aO ?_;simp only[gD,fO,<-Dz,DZ,List.forIn_nil];refine ar (ar (ar (iA ?_)));change wpAny _ _ (Builtin.SmallTypes.nextOf (.ref i1) >>= _) _ _ _;cases i:xs[k]? with
   | none=>exact ar (next_end hh h1 g i fun O e I V=>(p s.heap (.refl ..)).1 i I V)
   | some x=>
    have u:ys[k]?=none:=by rcases hend with h | h; rw[i]at h; cases h; exact h
    refine ar (next_item h1 g i fun O n2 I=>aO (aO ?_));refine ar (ar (iA ?_));change wpAny _ _ (Builtin.SmallTypes.nextOf (.ref i2) >>= _) _ _ _;exact ar (next_end hh (h2.extBut I.extBut D.i12.symm) (t.extBut I.extBut D.l2i1) u fun l e d V=>(p s.heap (.refl ..)).2 I d V)
  | false=>
   rw[if_pos (show (Value.bool false != Value.bool true)=true from rfl)];refine ar (DM hz (by simp) fun n v J=>?_);refine aO ?_;simp only[gD,fO,<-Dz,DZ,List.forIn_nil];refine ar (ar (ar (iA ?_)));change wpAny _ _ (Builtin.SmallTypes.nextOf (.ref i1) >>= _) _ _ _;cases i:xs[k]? with
   | none=>exact ar (next_end hh (h1.extBut J.extBut D.i1z) (g.extBut J.extBut D.l1z) i fun O e I V=>(p n J).1 i I V)
   | some x=>
    have u:ys[k]?=none:=by rcases hend with h | h; rw[i]at h; cases h; exact h
    refine ar (next_item (h1.extBut J.extBut D.i1z) (g.extBut J.extBut D.l1z) i fun O n2 I=>aO (aO ?_));refine ar (ar (iA ?_));change wpAny _ _ (Builtin.SmallTypes.nextOf (.ref i2) >>= _) _ _ _;exact ar (next_end hh ((h2.extBut J.extBut D.i2z).extBut I.extBut D.i12.symm) ((t.extBut J.extBut D.l2z).extBut I.extBut D.l2i1) u fun l e d V=>(p n J).2 I d V)
theorem uc:typeLookup (.type "zip") "__len__" = pure none:=by rw[typeLookup_type,E3]; kernel_rfl
theorem rf:typeLookup (.type "zip") "__length_hint__" = pure none:=by rw[typeLookup_type,E3]; kernel_rfl
def Pairs(h:Heap)(S:Addr)(xs ys:Array Value)(acc:Array Value):Prop:=∀ (j:Nat) (v:Value),acc[j]?=some v->∃ T x y,v=.ref T/\xs[j]?=some x/\ys[j]?=some y/\S < T/\IsPair h T x y
theorem loop{TI TO:Addr}(hh:A.handled=none)(D:ZipApart z TI TO i1 i2 l1 l2)(hS1:∀ b∈[z,TI,TO,i1,i2,l1,l2],S≠b)(hn:min xs.size ys.size<=sizeLine) :
  ∀ (r k:Nat) (s:Shared) (acc:Array Value) (c:Nat) (f0:Value) (f:Bool),min xs.size ys.size - k=r->k<=min xs.size ys.size->Zt s.heap z TI TO i1 i2 l1 l2 xs ys k->nE s.heap z TI TO f0 (.bool f)->
   ((f0=.none/\f=false)\/∃ T oT,f0=rawInt ((T:Nat):Int)/\s.heap.get? T=some oT/\∀ b∈[z,TO,i1,i2,S],T≠b)->
   s.heap.get? S=some { cls:=.type "list",dict:=none,data:=.seq acc c,slots:=#[] }->acc.size=k->Pairs s.heap S xs ys acc->(∀ (j:Nat) (T:Addr),acc[j]?=some (.ref T)->∀ b∈[z,TO,i1,i2,S],T≠b)->
   (∀ h' acc' c',(∀ b o,b≠S->b≠z->b≠TO->b≠i1->b≠i2->s.heap.get? b=some o->h'.get? b=some o)->h'.get? S=some { cls:=.type "list",dict:=none,data:=.seq acc' c',slots:=#[] }->
    acc'.size=min xs.size ys.size->Pairs h' S xs ys acc'->R (.ok (.ret res)) { s with heap:=h' })->
   codeAny (model prog w) A (.builtin "list.extend.loop" ⟨[.ref S,.ref z,res],[]⟩) R s:=by
 intro r;have Sz:S≠z:=hS1 z (by simp);have C:S≠TO:=hS1 TO (by simp);have H:S≠i1:=hS1 i1 (by simp);have E:S≠i2:=hS1 i2 (by simp)
 induction r with
 | zero=>
  intro k s acc c f0 f hr hk Z m hf u t hp a hR;have G:k=min xs.size ys.size:=by omega
  refine ug F.entry_extend_loop ?_;rw[wk EO _];change wpAny _ A.in1 (pyNext (.ref z) >>= _) _ _ s;have i:s.TypeIs (.ref z) "zip":=⟨_,m,rfl⟩
  have M:xs[k]?=none\/ys[k]?=none:=by
   rcases Nat.le_total xs.size ys.size with h | h
   ·exact .inl (F0 (by rw[G,Nat.min_eq_left h]; exact bH _))
   ·exact .inr (F0 (by rw[G,Nat.min_eq_right h]; exact bH _))
  refine ar ?_;unfold pyNext
  refine ar (yz (wJ (name:=Str.ofString "__next__") i F.slot_zip_next (lD F.slot_zip_next i F.entry_zip_next
   (Dp hh D m (by rcases hf with ⟨e,_⟩ | ⟨T,oT,e,eT,_⟩; exact .inl e; exact .inr ⟨T,oT,e,eT⟩) Z M fun h' e O he=>?_) (F.args_zip_next_1 _))))
  obtain⟨o,ho,hc⟩:=he;refine ar (Cy (T:="StopIteration") (b:=true) ⟨o,ho,hc⟩ isSubtype_stop ?_);refine aO (aO ?_);refine hR h' acc c (fun b o _ Q W Y b4 e=>O b o Q W Y b4 e) (O _ _ Sz C H E u) (by omega) (fun j v e=>?_);obtain⟨T,x,y,rfl,ex,ey,lt,d⟩:=hp j v e;have q:=a j T e;exact⟨T,x,y,rfl,ex,ey,lt,O _ _ (q z (by simp)) (q TO (by simp)) (q i1 (by simp)) (q i2 (by simp)) d⟩
 | succ r ih=>
  intro k s acc c f0 f hr hk Z m hf u t hp a hR;have g:k < xs.size:=by omega
  have l:k < ys.size:=by omega
  refine ug F.entry_extend_loop ?_;rw[wk EO _];change wpAny _ A.in1 (pyNext (.ref z) >>= _) _ _ s;have i:s.TypeIs (.ref z) "zip":=⟨_,m,rfl⟩
  have V:∀ {b:Addr} {o:Obj},s.heap.get? b=some o->s.heap.objs.size≠b:=fun e=>Nat.ne_of_gt (cG e)
  obtain⟨o1,e1,_⟩:=id Z.n1;obtain⟨o2,e2,_⟩:=id Z.n2;obtain⟨a0,b0,e3⟩:=id Z.to;have J:∀ b∈[z,TO,i1,i2,S],s.heap.objs.size≠b:=by
   intro b n;simp only[d0,gh,or_false]at n;rcases n with rfl | rfl | rfl | rfl | rfl
   ·exact V m
   ·exact V e3
   ·exact V e1
   ·exact V e2
   ·exact V u
  -- what follows when the pair has come
  have next:∀ (h':Heap) (U:Value) (N:Bool),nE h' z TI TO U (.bool N)->((U=.none/\N=false)\/∃ T oT,U=rawInt ((T:Nat):Int)/\h'.get? T=some oT/\∀ b∈[z,TO,i1,i2,S],T≠b)->
    Zt h' z TI TO i1 i2 l1 l2 xs ys (k + 1)->IsPair h' s.heap.objs.size xs[k] ys[k]->(∀ c o,c≠z->c≠TO->c≠i1->c≠i2->s.heap.get? c=some o->h'.get? c=some o)->
    wpAny (model prog w) A.in1 (updateSeq S (·.push (.ref s.heap.objs.size)) >>= fun _=>again (.builtin "list.extend.loop" ⟨[.ref S,.ref z,res],[]⟩))
     (fun fin s'=>match fin with | .done f=>R (.ok f) s' | .again c'=>c'.quiet=true/\codeAny (model prog w) A c' R s') (fun e s'=>R (.error e) s') { s with heap:=h' }:=by
   intro h' U N z' hf' B d O;have S':h'.get? S=some { cls:=.type "list",dict:=none,data:=.seq acc c,slots:=#[] }:=O _ _ Sz C H E u;refine ar (wpAny_updateSeq S' rfl (aO ⟨xJ EO _,?_⟩) (by rw[t]; omega) (by show (acc.push _).size<=sizeLine + 1; rw[Array.size_push,t]; omega));have I:∀ b o,b≠S->h'.get? b=some o->(h'.update S (Obj.mapSeq (·.push (Value.ref s.heap.objs.size)))).get? b=some o:=fun b o n e=>(vN _ _ (Ne.symm n)).trans e
   have p:∀ b∈[z,TI,TO,i1,i2,l1,l2],b≠S:=fun b n=>(hS1 b n).symm
   refine ih (k + 1) _ (acc.push (.ref s.heap.objs.size)) _ U N (by omega) (by omega) ?_ (I _ _ Sz.symm z') ?_ (xZ _ S' rfl) (by rw[Array.size_push,t]) ?_ ?_ ?_
   ·obtain⟨q1,⟨qa,qb,q2⟩,q3,q4,q5,q6⟩:=B;exact⟨I _ _ (p TI (by simp)) q1,⟨qa,qb,I _ _ (p TO (by simp)) q2⟩,q3.at fun o e=>I _ o (p i1 (by simp)) e,q4.at fun o e=>I _ o (p i2 (by simp)) e,dk q5 fun o e=>I _ o (p l1 (by simp)) e,dk q6 fun o e=>I _ o (p l2 (by simp)) e⟩
   ·rcases hf' with q | ⟨T,oT,q1,q2,q3⟩
    ·exact .inl q
    ·exact .inr ⟨T,oT,q1,I _ _ (q3 S (by simp)) q2,q3⟩
   ·intro j v e;rw[Array.getElem?_push]at e;split at e
    ·rename_i ej;cases e;rw[t]at ej;subst ej;exact⟨_,xs[j],ys[j],rfl,iG g,iG l,cG u,I _ _ (J S (by simp)) d⟩
    ·obtain⟨T,x,y,rfl,ex,ey,lt0,pr0⟩:=hp j v e;have q:=a j T e;exact⟨T,x,y,rfl,ex,ey,lt0,I _ _ (q S (by simp)) (O _ _ (q z (by simp)) (q TO (by simp)) (q i1 (by simp)) (q i2 (by simp)) pr0)⟩
   ·intro j T e;rw[Array.getElem?_push]at e;split at e
    ·cases e; exact J
    ·exact a j T e
   ·intro h'' acc' c' kp2 g1 g2 g3;exact hR h'' acc' c' (fun b o b0 Q W Y b4 e=>kp2 b o b0 Q W Y b4 (I _ _ b0 (O _ _ Q W Y b4 e))) g1 g2 g3
  refine ar ?_;unfold pyNext;rcases hf with ⟨rfl,rfl⟩ | ⟨T,oT,rfl,eT,L⟩
  ·refine ar (yz (wJ (name:=Str.ofString "__next__") i F.slot_zip_next (lD F.slot_zip_next i F.entry_zip_next
    (vw D m Z (iG g) (iG l) fun h' z' B d O=>aO ?_) (F.args_zip_next_1 _))))
   exact next h' _ false z' (.inr ⟨_,_,rfl,d,J⟩) B d O
  ·refine ar (yz (wJ (name:=Str.ofString "__next__") i F.slot_zip_next (lD F.slot_zip_next i F.entry_zip_next
    (xH D m eT Z (iG g) (iG l) fun h' z' B d O=>aO ?_) (F.args_zip_next_1 _))))
   exact next h' _ true z' (.inr ⟨T,oT,rfl,O _ _ (L z (by simp)) (L TO (by simp)) (L i1 (by simp)) (L i2 (by simp)) eT,L⟩) B d O
theorem extend{TI TO:Addr}{c₀:Nat}(hh:A.handled=none)(D:ZipApart z TI TO i1 i2 l1 l2)(hS1:∀ b∈[z,TI,TO,i1,i2,l1,l2],S≠b)(hn:min xs.size ys.size<=sizeLine)
  (Z:Zt s.heap z TI TO i1 i2 l1 l2 xs ys 0) (hz:nE s.heap z TI TO .none (.bool false)) (hS:s.heap.get? S=some { cls:=.type "list",data:=.seq #[] c₀ })
  (hR:∀ h' acc' c',(∀ b o,b≠S->b≠z->b≠TO->b≠i1->b≠i2->s.heap.get? b=some o->h'.get? b=some o)->h'.get? S=some { cls:=.type "list",dict:=none,data:=.seq acc' c',slots:=#[] }->
   acc'.size=min xs.size ys.size->Pairs h' S xs ys acc'->R (.ok (.ret res)) { s with heap:=h' }) :
  wpAny (model prog w) A.in1 (Builtin.List.listExtendWith (.ref S) (.ref z) res)
   (fun fin s'=>match fin with | .done f=>R (.ok f) s' | .again c'=>c'.quiet=true/\codeAny (model prog w) A c' R s') (fun e s'=>R (.error e) s') s:=by
 have O:s.TypeIs (.ref z) "zip":=⟨_,hz,rfl⟩
 have c:S≠z:=hS1 z (by simp);unfold Builtin.List.listExtendWith;refine ar (vi O ?_);have l:Builtin.List.listSameRef (.ref S) (.ref z)=false:=by simp[Builtin.List.listSameRef,c]
 have m:(Value.type "zip" == Value.type "list")=false:=by decide
 have r:(Value.type "zip" == Value.type "tuple")=false:=by decide
 simp only[l,m,r,Bool.or_false,gD,fO];refine ar (E5 O F.slot_zip_iter (lD F.slot_zip_iter O F.entry_zip_iter (aO ⟨_,rfl, "zip",_,O,F.slot_zip_next.lookup,?_⟩) (F.args_zip_iter_1 _)));refine ar (iA ?_);unfold Builtin.List.listLengthHint;refine ar (Ax O uc ?_);change wpAny _ A.in1 (specialOf (Value.ref z) (Str.ofString "__length_hint__") >>= _) _ _ _;refine ar (Ax O rf ?_);refine aO ?_;change wpAny _ A.in1 (rule "list.extend.makes-room" >>= fun _=>Builtin.List.listTouch (.ref S) >>= fun _=>again (.builtin "list.extend.loop" ⟨[.ref S,.ref z,res],[]⟩)) _ _ _;refine ar (sT (ar ?_));change wpAny _ A.in1 (updateSeq S (·.push .none) >>= fun _=>updateSeq S (·.pop)) _ _ _;refine ar (wpAny_updateSeq hS rfl ?_);have V:=xZ (Obj.mapSeq (·.push Value.none)) hS rfl;refine wpAny_updateSeq (hz:=by seq_fits) V rfl ?_;have g:=xZ (Obj.mapSeq (·.pop)) V rfl;have I:∀ b o,b≠S->s.heap.get? b=some o->((s.heap.update S (Obj.mapSeq (·.push Value.none))).update S (Obj.mapSeq (·.pop))).get? b=some o:=
  fun b o U e=>(vN _ _ (Ne.symm U)).trans ((vN _ _ (Ne.symm U)).trans e)
 have J:∀ b∈[z,TI,TO,i1,i2,l1,l2],b≠S:=fun b U=>(hS1 b U).symm
 obtain⟨p1,⟨y,x,p2⟩,p3,B,n,h⟩:=Z
 refine aO ⟨xJ EO _,loop hh D hS1 hn _ 0 _ _ _ .none false rfl (dI _)
  ⟨I _ _ (J TI (by simp)) p1,⟨y,x,I _ _ (J TO (by simp)) p2⟩,p3.at fun o e=>I _ o (J i1 (by simp)) e,B.at fun o e=>I _ o (J i2 (by simp)) e,dk n fun o e=>I _ o (J l1 (by simp)) e,dk h fun o e=>I _ o (J l2 (by simp)) e⟩
  (I _ _ c.symm hz) (.inl ⟨rfl,rfl⟩) g rfl (fun j v e=>by simp at e) (fun j T e=>by simp at e) fun h' acc' c' d p C q=>?_⟩
 exact hR h' acc' c' (fun b o a u i t k e=>d b o a u i t k (I _ _ a e)) p C q
theorem yi{TI TO:Addr}(hh:A.handled=none)(D:ZipApart z TI TO i1 i2 l1 l2)(hn:min xs.size ys.size<=sizeLine)
  (Z:Zt s.heap z TI TO i1 i2 l1 l2 xs ys 0) (hz:nE s.heap z TI TO .none (.bool false)) (lt:∀ b∈[z,TI,TO,i1,i2,l1,l2],b < s.heap.objs.size)
  (hQ:∀ h' acc' c',(∀ b o,b≠z->b≠TO->b≠i1->b≠i2->s.heap.get? b=some o->h'.get? b=some o)->h'.get? s.heap.objs.size=some { cls:=.type "list",dict:=none,data:=.seq acc' c',slots:=#[] }->
   acc'.size=min xs.size ys.size->Pairs h' s.heap.objs.size xs ys acc'->Q (.ref s.heap.objs.size) { s with heap:=h' }):wpAny (model prog w) A (call (.type "list") [.ref z]) Q E s:=by
 refine callType_codes (Q₁:=fun O a=>O=.ref s.heap.objs.size/\a={ s with heap:=s.heap.push { cls:=.type "list",data:=.seq #[] } }) F.called_list (F.typeCall_list_1 _) F.entry_list_init (code_list_new _ ⟨rfl,rfl⟩) fun O a i=>?_
 obtain⟨rfl,rfl⟩:=i;have V:(s.heap.push { cls:=.type "list",data:=.seq #[] }).get? s.heap.objs.size=some { cls:=.type "list",data:=.seq #[] }:=fB _ rfl;refine⟨⟨_,V,rfl⟩,F.args_list_init_2 _ _,?_⟩;change wpAny _ A.in1.in1 (do let old <-Builtin.List.listItems (.ref s.heap.objs.size); Builtin.List.listUpdate (.ref s.heap.objs.size) (fun _=>#[]); letGo old.toList.reverse; Builtin.List.listExtendWith (.ref s.heap.objs.size) (.ref z) .none) _ _ _;refine ar ?_;unfold Builtin.List.listItems;refine ar (AJ V rfl (aO ?_));change wpAny _ A.in1.in1 (updateSeq s.heap.objs.size (fun _=>#[]) >>= fun _=>letGo (#[]:Array Value).toList.reverse >>= fun _=>Builtin.List.listExtendWith (.ref s.heap.objs.size) (.ref z) .none) _ _ _;refine ar (wpAny_updateSeq V rfl ?_);have c:=xZ (Obj.mapSeq (fun _=>(#[]:Array Value))) V rfl;have I:∀ b o,b≠s.heap.objs.size->s.heap.get? b=some o->((s.heap.push { cls:=.type "list",data:=.seq #[] }).update s.heap.objs.size (Obj.mapSeq (fun _=>(#[]:Array Value)))).get? b=some o:=
  fun b o U e=>(vN _ _ (Ne.symm U)).trans (cB _ e)
 refine ar (wpAny_letGo ?_);have J:∀ b∈[z,TI,TO,i1,i2,l1,l2],b≠s.heap.objs.size:=fun b U=>cH (lt b U)
 obtain⟨p1,⟨q,p,p2⟩,p3,r,j,f⟩:=Z
 refine extend hh D (fun b U=>(J b U).symm) hn ⟨I _ _ (J TI (by simp)) p1,⟨q,p,I _ _ (J TO (by simp)) p2⟩,p3.at fun o e=>I _ o (J i1 (by simp)) e,r.at fun o e=>I _ o (J i2 (by simp)) e,
  dk j fun o e=>I _ o (J l1 (by simp)) e,dk f fun o e=>I _ o (J l2 (by simp)) e⟩ (I _ _ (J z (by simp)) hz) c fun h' acc' c' d k t l=>?_
 refine⟨rfl,hQ h' acc' c' (fun b o n g m h e=>d b o (cH (cG e)) n g m h (I _ _ (cH (cG e)) e)) k t l⟩
abbrev k1(h:Heap)(l1:Addr):Heap:=h.push { cls:=.type "tuple_iterator",data:=.fields #[.ref l1,.int 0 0] }
abbrev k2(h:Heap)(l1 l2:Addr):Heap:=(k1 h l1).push { cls:=.type "tuple_iterator",data:=.fields #[.ref l2,.int 0 0] }
abbrev k3(h:Heap)(l1 l2:Addr):Heap:=(k2 h l1 l2).push { cls:=.type "tuple",data:=.seq #[.ref h.objs.size,.ref (k1 h l1).objs.size] }
abbrev k4(h:Heap)(l1 l2:Addr):Heap:=(k3 h l1 l2).push { cls:=.type "tuple",data:=.seq #[.none,.none] }
abbrev k5(h:Heap)(l1 l2:Addr):Heap:=(k4 h l1 l2).push { cls:=.type "zip",data:=.fields #[.none,.bool false,.bool false,.ref (k2 h l1 l2).objs.size,.ref (k3 h l1 l2).objs.size] }
theorem xv(l1 l2:Addr)(xs ys:Array Value) :
  Meets (Builtin.«zip.__new__» ⟨[.type "zip",.ref l1,.ref l2],[]⟩) (fun _ R s=>s.heap.IsTuple l1 xs/\s.heap.IsTuple l2 ys/\R (.ok (.ret (.ref (k4 s.heap l1 l2).objs.size))) { s with heap:=k5 s.heap l1 l2 }):=
 .of_wp fun prog w A R s h=>by
  obtain⟨O,g,d,tk,os⟩:=s; obtain⟨I,J,h⟩:=h;have U:=sub_zip;have V:Heap.IsTuple (Shared.heap ⟨O,g,d,tk,os⟩) l1 xs:=I;have Z:Heap.IsTuple (Shared.heap ⟨O.push { cls:=.type "tuple_iterator",data:=.fields #[.ref l1,.int 0 0] },g,d,tk,os⟩) l2 ys:=Heap.IsTuple.push J _
  wp_walk using FQ V,FQ Z
  exact⟨_,rfl,h⟩
theorem zv(hl1:s.heap.IsTuple l1 xs)(hl2:s.heap.IsTuple l2 ys)
  (h:∀ h',nE h' (s.heap.objs.size + 4) (s.heap.objs.size + 2) (s.heap.objs.size + 3) .none (.bool false)->Zt h' (s.heap.objs.size + 4) (s.heap.objs.size + 2) (s.heap.objs.size + 3) s.heap.objs.size (s.heap.objs.size + 1) l1 l2 xs ys 0->
   h'.objs.size=s.heap.objs.size + 5->(∀ c o,s.heap.get? c=some o->h'.get? c=some o)->Q (.ref (s.heap.objs.size + 4)) { s with heap:=h' }) :
  wpAny (model prog w) A (call (.type "zip") [.ref l1,.ref l2]) Q E s:=by
 refine callType_new F.called_zip (by decide) (F.typeCall_zip_2 _ _) (F.newCall_zip_2 _ _) (fun O=>F.args_object_init_3 O _ _) F.entry_zip_new (xv l1 l2 xs ys) ⟨hl1,hl2,?_⟩;have a:(k1 s.heap l1).objs.size=s.heap.objs.size + 1:=yx ..;have V:(k2 s.heap l1 l2).objs.size=s.heap.objs.size + 2:=by rw[yx,a]
 have U:(k3 s.heap l1 l2).objs.size=s.heap.objs.size + 3:=by rw[yx,V]
 have Z:(k4 s.heap l1 l2).objs.size=s.heap.objs.size + 4:=by rw[yx,U]
 have i:(k5 s.heap l1 l2).objs.size=s.heap.objs.size + 5:=by rw[yx,Z]
 have I:(k5 s.heap l1 l2).get? (k4 s.heap l1 l2).objs.size=some _:=fB _ rfl;have b:(k5 s.heap l1 l2).get? (k3 s.heap l1 l2).objs.size=some _:=cB _ (fB _ rfl);have d:(k5 s.heap l1 l2).get? (k2 s.heap l1 l2).objs.size=some _:=cB _ (cB _ (fB _ rfl));have f:(k5 s.heap l1 l2).get? (k1 s.heap l1).objs.size=some _:=cB _ (cB _ (cB _ (fB _ rfl)));have g:(k5 s.heap l1 l2).get? s.heap.objs.size=some _:=cB _ (cB _ (cB _ (cB _ (fB _ rfl))));have J:∀ c o,s.heap.get? c=some o->(k5 s.heap l1 l2).get? c=some o:=fun c o x=>cB _ (cB _ (cB _ (cB _ (cB _ x))))
 show _/\_;rw[V,U,Z]at I;rw[a,V]at d;rw[U]at b;rw[a]at f;rw[Z];exact⟨⟨_,I,rfl⟩,h _ I ⟨d,⟨_,_,b⟩,⟨_,g,rfl,rfl⟩,⟨_,f,rfl,rfl⟩,dk hl1 fun o e=>J _ o e,dk hl2 fun o e=>J _ o e⟩ i J⟩
end ZT
namespace L2
open PySem PySem.Spec PyProof.Rows
variable {H H':Hp}{X:Cx}{v:V}{ds:List D}{a b:Addr}{pos p:Pos}{n j:Nat}{es:List Expr}{xs vs:List V}{x:Str}{P:Program}{w:World}{σ:St}{ps:List Str}{sp:Sp}{e:Expr}{pins:List (Addr × Obj)}{s:Shared}{ta:TA}{i:Int}{d:D}{A:Around}{base:Heap}{kvs:List (Str × V)}
theorem rq:∀ {u:Value} {x:V},C6 u=some x->RelV x u
 | .none,_,h=>by cases h; rfl
 | .bool _,_,h=>by cases h; rfl
 | .int _ t,_,h=>by cases h; exact⟨t,rfl⟩
 | .str _ t,_,h=>by cases h; exact⟨t,rfl⟩
 | .bytes _ t,_,h=>by cases h; exact⟨t,rfl⟩
 | .float _ t,_,h=>by cases h; exact⟨t,rfl⟩
 | .ref _,_,h=>by cases h; rfl
 | .type _,_,h=>by cases h; rfl
 | .notImplemented,_,h=>by cases h
 | .ellipsis,_,h=>by cases h
 | .builtin _,_,h=>by cases h
def iF(h:Heap)(b:Addr):Option HO:=match h.get? b with
 | some o=>match o.cls,o.data with
  | .type "tuple",.seq its _=>match its.toList with
   | [u,v]=>match C6 u,C6 v with
    | some x,some y=>some (.tup [x,y])
    | _,_=>none
   | _=>none
  | _,_=>none
 | none=>none
theorem Inv.grow{h':Heap}{t':Nat}(I:Inv X pins σ H s)(k:∀ b o,s.heap.get? b=some o->h'.get? b=some o)(same:∀ b,b < s.heap.objs.size->H' b=H b)(hok:gR X.prog X.w H' h'):Inv X pins σ H' { s with heap:=h',toks:=t' }:=by
 have old:∀ b u,H b=some u->H' b=some u:=fun b u e=>by rw[same b (I.hok.lt e)]; exact e
 exact I.un ⟨fun b o e _ _ _=>k b o e,fun b o e _ _ _=>⟨o.slots,k b o e⟩,fun b o e n _=>by rw[same b (cG e)]; exact n,fun b o e _=>⟨o,k b o e⟩,fun b xs e=>old b _ e,fun b o u e=>old b _ e,
  fun b ps e=>⟨#[],by rw[old b _ e]; simp⟩⟩ hok
def As(K:aL)(ta:TA):TE:=fun σ H Q=>ta σ H fun vs H1=>aK Q (fun l1 Q=>aK Q (fun l2 Q=>aK Q (fun xs Q=>aK Q (fun ys Q=>vs=[.ref l1,.ref l2]/\bu K H1 l1 xs/\bu K H1 l2 ys/\
 ∀ (H2:Hp) (l:Addr) (ps:List V),aB H1 H2->H2 l=some (.lst ps)->H1 l=none->ps.length=min xs.length ys.length->
  (∀ (j:Nat) (x y:V),xs[j]?=some x->ys[j]?=some y->∃ t,ps[j]?=some (.ref t)/\H2 t=some (.tup [x,y]))->Q (.ref l) H2))))
theorem Js(n l1 l2:Nat)(h1:l1 < n)(h2:l2 < n):∀ b∈[n + 4,n + 2,n + 3,n,n + 1,l1,l2],b < n + 5:=by
 intro b I;simp only[d0,gh,or_false]at I;omega
theorem Jv(n b:Nat)(h:b < n):b≠n + 4/\b≠n + 3/\b≠n/\b≠n + 1:=by omega
theorem uy{a b:Expr}{p2 pos2:Pos}(hc:X.calm=true)(gl:Gl X "list")(ml:X.mg "list" = none)(gz:Gl X "zip")(mz:X.mg "zip" = none)(ha:PA X [a,b] ta)
  (h1:starEach [.Call (.Name "zip" p2) [a,b] [] pos2] X.env=(false,eval (.Call (.Name "zip" p2) [a,b] [] pos2) X.env)::starEach [] X.env:=by rfl) (h2:(backTo pos (starEach [] X.env)).any (·.1)=false:=by rfl)
  (h3:starEach [a,b] X.env=(false,eval a X.env)::starEach [b] X.env:=by rfl) (h4:(backTo pos2 (starEach [b] X.env)).any (·.1)=false:=by rfl) :
  PE X (.Call (.Name "list" p) [.Call (.Name "zip" p2) [a,b] [] pos2] [] pos) (As X.K ta):=by
 intro pins s σ H Q I h;refine E1 (fN I gl ml PyProof.Rows.boot_list ?_);refine Eu ?_ h1 h2;rw[h1];change wpAny _ _ (spliced ((false,eval (.Call (.Name "zip" p2) [a,b] [] pos2) X.env)::backTo pos (starEach [] X.env))) _ _ s;refine Calls.spliced_cons ?_;refine E1 (fN I gz mz PyProof.Rows.boot_zip ?_);refine Eu (cw (ha pos2 pins s σ H _ I h) fun us s1 n=>?_) h3 h4;obtain⟨vs,H1,f,r1,q1⟩:=n;obtain⟨l1,l2,xs,ys,rfl,t1,t2,q⟩:=q1;obtain⟨u1,u2,rfl,e1,e2⟩:=r1.two;cases e1; cases e2;obtain⟨U,B,p1,z1⟩:=f.tuple t1;obtain⟨O,A,p2,z2⟩:=f.tuple t2;have C:l1 < s1.heap.objs.size:=p1.lt;have E:l2 < s1.heap.objs.size:=p2.lt;refine ZT.zv (xs:=U.toArray) (ys:=O.toArray) p1 p2 fun h' hz Z S kp=>?_
 refine Calls.spliced_nil ?_;have ln1:=B.length;have ln2:=A.length;have hn:min U.toArray.size O.toArray.size<=sizeLine:=by
  simp only[ff]; omega
 refine ZT.yi (s:={ s1 with heap:=h' }) (f.ok.hd hc) (zipApart_new C E) hn Z hz (fun b m=>?_) fun h2 d c kp2 hl ha2 hp=>?_
 ·show b < h'.objs.size;rw[S];exact Js _ _ _ C E b m
 ·have old:∀ b o,s1.heap.get? b=some o->h2.get? b=some o:=fun b o e=>by
   obtain⟨n1,n2,n3,n4⟩:=Jv _ _ (cG e);exact kp2 b o n1 n2 n3 n4 (kp b o e)
  have N:s1.heap.objs.size<=h'.objs.size:=by omega
  -- the addresses of the pairs
  obtain⟨ts,g⟩:∃ ts:List Addr,d.toList=ts.map Value.ref:=by
   have go:∀ l:List Value,(∀ v∈l,∃ T,v=.ref T)->∃ ts:List Addr,l=ts.map Value.ref:=by
    intro l
    induction l with
    | nil=>intro _; exact⟨[],rfl⟩
    | cons v r ih=>
     intro F;obtain⟨T,rfl⟩:=F v gC;obtain⟨ts,rfl⟩:=ih fun w hw=>F w (jd _ hw)
     exact⟨T::ts,rfl⟩
   refine go _ fun v F=>?_
   obtain⟨j,G⟩:=List.getElem?_of_mem F;obtain⟨T,_,_,e,_,_,_⟩:=hp j v (by simpa using G);exact⟨T,e⟩
  have k:ts.length=min xs.length ys.length:=by
   have e:=pq List.length g;rw[bL,dY,ha2]at e;simp only[ff]at e;omega
  let H2:Hp:=fun b=>if b < s1.heap.objs.size then H1 b else if b=h'.objs.size then some (.lst (ts.map V.ref)) else iF h2 b
  have ht:∀ (j:Nat) (x y:V),xs[j]?=some x->ys[j]?=some y->∃ t,(ts.map V.ref)[j]?=some (.ref t)/\H2 t=some (.tup [x,y]):=by
   intro j x y ex ey;have G:j < ts.length:=by
    rw[k];have:=(dJ.mp ex).1;have:=(dJ.mp ey).1;omega
   have ej:d[j]?=some (.ref ts[j]):=by
    have:d.toList[j]?=some (.ref ts[j]):=by rw[g,g6,cL G]; rfl
    simpa using this
   obtain⟨T,u,v,e,eu,ev,lT,pr⟩:=hp j _ ej;cases e;refine⟨ts[j],by rw[g6,cL G]; rfl,?_⟩;obtain⟨u',R,ru⟩:=B.get ex;obtain⟨v',M,rv⟩:=A.get ey;have qu:u=u':=by
    have z:U[j]?=some u:=by simpa using eu
    rw[R]at z; cases z; rfl
   have qv:v=v':=by
    have z:O[j]?=some v:=by simpa using ev
    rw[M]at z; cases z; rfl
   subst qu qv;have D:h'.objs.size < ts[j]:=lT;have W:¬ ts[j] < s1.heap.objs.size:=Nat.not_lt.mpr (vm (Ar N D));have hne:ts[j]≠h'.objs.size:=Nat.ne_of_gt D;show (if ts[j] < s1.heap.objs.size then H1 ts[j] else if ts[j]=h'.objs.size then some (.lst (ts.map V.ref)) else iF h2 ts[j])=_;rw[if_neg W,if_neg hne];unfold iF;have L:h2.get? ts[j]=some { cls:=.type "tuple",data:=.seq #[u,v] }:=pr;rw[L];simp only[ru.abs,rv.abs]
  have lz:(ts.map V.ref).length<=sizeLine:=by rw[bL,k]; simp only[ff]at hn; omega
  have I2:Inv X pins σ H2 { s1 with heap:=h2,toks:=s1.toks }:=by
   refine f.grow old (fun b m=>if_pos m) fun b o e=>?_
   have J:(if b < s1.heap.objs.size then H1 b else if b=h'.objs.size then some (.lst (ts.map V.ref)) else iF h2 b)=some o:=e;by_cases m:b < s1.heap.objs.size
   ·rw[if_pos m]at J;refine (f.hok b o J).nI (fun c v _ q=>old c v q) (fun c q=>?_) fun c zs q=>?_
    ·show (if c < s1.heap.objs.size then H1 c else _)=_;rw[if_pos (f.hok.lt q)]; exact q
    ·show (if c < s1.heap.objs.size then H1 c else _)=_;rw[if_pos (f.hok.lt q)]; exact q
   ·rw[if_neg m]at J;by_cases i:b=h'.objs.size
    ·rw[if_pos i]at J;cases J;subst i;refine⟨lz,d.toList,c,?_,?_⟩
     ·rw[g];have:∀ l:List Addr,Vals (l.map V.ref) (l.map Value.ref):=fun l=>by
       induction l with
       | nil=>exact .nil
       | cons a r ih=>exact .cons rfl ih
      exact this ts
     ·have Y:h2.get? h'.objs.size=some { cls:=.type "list",dict:=none,data:=.seq d c,slots:=#[] }:=hl;rw[Y,Array.toArray_toList]
    ·rw[if_neg i]at J;unfold iF at J;cases eo:h2.get? b with
     | none=>rw[eo]at J; cases J
     | some ob=>
      rw[eo]at J;obtain⟨cls,dct,dta,sl⟩:=ob;dsimp only at J;split at J
      ·rename_i its nn;split at J
       ·rename_i u v hl2;split at J
        ·rename_i x y hx hy;cases J;refine⟨by show 2<=sizeLine; decide,[u,v],.cons (rq hx) (.cons (rq hy) .nil),_,eo,rfl,nn,?_⟩;show Data.seq its nn=Data.seq [u,v].toArray nn;rw[<-hl2,Array.toArray_toList]
        ·cases J
       ·cases J
      ·cases J
  have fl:H1 h'.objs.size=none:=by
   cases e:H1 h'.objs.size with
   | none=>rfl
   | some o=>exact absurd (f.hok.lt e) (Nat.not_lt.mpr N)
  refine⟨.ref h'.objs.size,H2,I2,rfl,q H2 h'.objs.size (ts.map V.ref) (fun b o e=>?_) ?_ fl (by rw[bL,k]) ht⟩
  ·show (if b < s1.heap.objs.size then H1 b else _)=_;rw[if_pos (f.hok.lt e)]; exact e
  ·show (if h'.objs.size < s1.heap.objs.size then H1 h'.objs.size else if h'.objs.size=h'.objs.size then some (.lst (ts.map V.ref)) else iF h2 h'.objs.size)=_;rw[if_neg (Nat.not_lt.mpr N),if_pos rfl]
mutual
def Is(K:aL)(H:Hp):D->V->Prop
 | .non,v=>v=.non
 | .int i,v=>v=.int i
 | .str x,v=>v=.str x
 | .tup ds,v=>∃ a xs,v=.ref a/\bu K H a xs/\IsL K H ds xs
def IsL(K:aL)(H:Hp):List D->List V->Prop
 | [],vs=>vs=[]
 | d::ds,vs=>∃ v r,vs=v::r/\Is K H d v/\IsL K H ds r
end
def bK(H H':Hp):Prop:=(∀ b xs,H b=some (.tup xs)->H' b=some (.tup xs))/\∀ b o u,H b=some (.frz o u)->H' b=some (.frz o u)
theorem aB.aA(h:aB H H'):bK H H':=⟨fun b xs e=>h b _ e,fun b o u e=>h b _ e⟩
theorem bK.trans{H1 H2:Hp}(a:bK H H1)(b:bK H1 H2):bK H H2:=⟨fun c xs e=>b.1 c xs (a.1 c xs e),fun c o u e=>b.2 c o u (a.2 c o u e)⟩
theorem bK.sq{K:aL}(t:bK H H')(h:bu K H a xs):bu K H' a xs:=by
 rcases h with h | h
 ·exact .inl (t.1 _ _ h)
 ·exact .inr h
mutual
theorem Is.mono{K:aL}{H H':Hp}(t:bK H H'):∀ {d:D} {v:V},Is K H d v->Is K H' d v
 | .non,_,h=>by unfold Is at h |-; exact h
 | .int _,_,h=>by unfold Is at h |-; exact h
 | .str _,_,h=>by unfold Is at h |-; exact h
 | .tup ds,_,h=>by
  unfold Is at h |-;obtain⟨a,xs,e,q,l⟩:=h;exact⟨a,xs,e,t.sq q,IsL.mono t l⟩
theorem IsL.mono{K:aL}{H H':Hp}(t:bK H H'):∀ {ds:List D} {vs:List V},IsL K H ds vs->IsL K H' ds vs
 | [],_,h=>by unfold IsL at h |-; exact h
 | d::ds,_,h=>by
  unfold IsL at h |-;obtain⟨v,r,e,p,q⟩:=h;exact⟨v,r,e,Is.mono t p,IsL.mono t q⟩
end
theorem kj{K:aL}:Is K H .non .non:=by unfold Is; rfl
theorem aH{K:aL}:Is K H (.int i) (.int i):=by unfold Is; rfl
theorem bq{K:aL}:Is K H (.str x) (.str x):=by unfold Is; rfl
theorem aX{K:aL}(h:bu K H a xs)(l:IsL K H ds xs):Is K H (.tup ds) (.ref a):=by unfold Is; exact⟨a,xs,rfl,h,l⟩
theorem aq{K:aL}:IsL K H [] []:=by unfold IsL; rfl
theorem af{K:aL}(h:Is K H d v)(l:IsL K H ds vs):IsL K H (d::ds) (v::vs):=by unfold IsL; exact⟨v,vs,rfl,h,l⟩
theorem Is.int_inv{K:aL}(h:Is K H (.int i) v):v=.int i:=by unfold Is at h; exact h
theorem Is.str_inv{K:aL}{i:Str}(h:Is K H (.str i) v):v=.str i:=by unfold Is at h; exact h
theorem Is.dG{K:aL}(h:Is K H .non v):v=.non:=by unfold Is at h; exact h
theorem Is.bo{K:aL}(h:Is K H (.tup ds) v):∃ a xs,v=.ref a/\bu K H a xs/\IsL K H ds xs:=by unfold Is at h; exact h
theorem IsL.nil_inv{K:aL}(h:IsL K H [] vs):vs=[]:=by unfold IsL at h; exact h
theorem IsL.cons_inv{K:aL}(h:IsL K H (d::ds) vs):∃ v r,vs=v::r/\Is K H d v/\IsL K H ds r:=by unfold IsL at h; exact h
theorem IsL.length{K:aL}{H:Hp}:∀ {ds:List D} {vs:List V},IsL K H ds vs->ds.length=vs.length
 | [],_,h=>by rw[h.nil_inv]; rfl
 | d::ds,_,h=>by
  obtain⟨v,r,rfl,_,q⟩:=h.cons_inv;simp[IsL.length q]
theorem IsL.get{K:aL}{H:Hp}:∀ {ds:List D} {vs:List V} {j:Nat} {d:D},IsL K H ds vs->ds[j]?=some d->∃ v,vs[j]?=some v/\Is K H d v
 | [],_,_,_,_,e=>by simp at e
 | d::ds,_,0,_,h,e=>by
  obtain⟨v,r,rfl,p,_⟩:=h.cons_inv;simp at e; subst e;exact⟨v,rfl,p⟩
 | d::ds,_,j + 1,_,h,e=>by
  obtain⟨v,r,rfl,_,q⟩:=h.cons_inv;obtain⟨J,I,O⟩:=IsL.get (j:=j) q (by simpa using e);exact⟨J,by simpa using I,O⟩
theorem IsL.get'{K:aL}(h:IsL K H ds vs)(e:vs[j]?=some v):∃ d,ds[j]?=some d/\Is K H d v:=by
 have I:j < ds.length:=by rw[h.length]; exact (dJ.mp e).1
 obtain⟨O,J,p⟩:=h.get (cL I);rw[e]at J; cases J;exact⟨_,cL I,p⟩
theorem IsL.append{K:aL}{H:Hp}:∀ {ds es:List D} {vs ws:List V},IsL K H ds vs->IsL K H es ws->IsL K H (ds++es) (vs++ws)
 | [],_,_,_,h,q=>by rw[h.nil_inv]; exact q
 | d::ds,_,_,_,h,q=>by
  obtain⟨v,r,rfl,p,t⟩:=h.cons_inv;exact af p (IsL.append t q)
mutual
def D.dep:D->Nat
 | .tup ds=>1 + D.cy ds
 | _=>0
def D.cy:List D->Nat
 | []=>0
 | d::ds=>max d.dep (D.cy ds)
end
mutual
def D.beq:D->D->Bool
 | .non,.non=>true
 | .int i,.int j=>i == j
 | .str x,.str y=>x == y
 | .tup ds,.tup es=>D.eZ ds es
 | _,_=>false
def D.eZ:List D->List D->Bool
 | [],[]=>true
 | d::ds,e::es=>D.beq d e && D.eZ ds es
 | _,_=>false
end
mutual
theorem D.beq_iff:∀ (d e:D),D.beq d e=true↔d=e
 | .non,e=>by cases e <;> simp[D.beq]
 | .int i,e=>by cases e <;> simp[D.beq]
 | .str i,e=>by cases e <;> simp[D.beq]
 | .tup ds,e=>by
  cases e with
  | tup es=>simp[D.beq,D.fW ds es]
  | _=>simp[D.beq]
theorem D.fW:∀ (ds es:List D),D.eZ ds es=true↔ds=es
 | [],es=>by cases es <;> simp[D.eZ]
 | d::ds,es=>by
  cases es with
  | nil=>simp[D.eZ]
  | cons e es=>simp[D.eZ,D.beq_iff d e,D.fW ds es]
end
theorem D.rM(d:D):D.beq d d=true:=(D.beq_iff d d).mpr rfl
theorem D.oX(d:List D):D.eZ d d=true:=(D.fW d d).mpr rfl
theorem D.si:∀ (ds es:List D),D.eZ ds es=true->ds.length=es.length:=fun ds es h=>by rw[(D.fW ds es).mp h]
theorem D.pA:∀ {ds:List D} {d:D},d∈ds->d.dep<=D.cy ds
 | e::ds,d,h=>by
  rcases d0.mp h with rfl | h
  ·unfold D.cy; exact Nat.le_max_left ..
  ·unfold D.cy; exact kC (D.pA h) (Nat.le_max_right ..)
theorem D.mn:∀ (ds es:List D),((List.range (min ds.length es.length)).all (fun j=>match ds[j]?,es[j]? with | some d,some e=>D.beq d e | _,_=>true) && ds.length == es.length)=D.eZ ds es:=by
 intro ds es;by_cases O:ds.length=es.length
 ·rw[Bool.eq_iff_iff,DI,List.all_eq_true,D.fW];constructor
  ·rintro⟨h,_⟩
   refine List.ext_getElem? fun j=>?_
   by_cases J:j < ds.length
   ·have I:j < es.length:=by omega
    have q:=h j (tT.mpr (by omega));rw[cL J,cL I]at q;rw[cL J,cL I,(D.beq_iff _ _).mp q]
   ·rw[yD (by omega),yD (by omega)]
  ·rintro rfl
   refine⟨fun j J=>?_,by simp⟩;have I:j < ds.length:=by have:=tT.mp J; omega
   rw[cL I];exact D.rM _
 ·have U:(ds.length == es.length)=false:=by simpa using O
  have V:D.eZ ds es=false:=by
   cases h:D.eZ ds es with
   | false=>rfl
   | true=>exact absurd (D.si ds es h) O
  rw[U,V,Bool.and_false]
mutual
theorem Is.inj(I:Inv X pins σ H s):∀ {d e:D} {v:V},Is X.K H d v->Is X.K H e v->d=e
 | .non,e,_,h,k=>by
  have:=h.dG; subst this;cases e with
  | non=>rfl
  | int i=>cases k.int_inv
  | str i=>cases k.str_inv
  | tup es=>obtain⟨_,_,q,_⟩:=k.bo; cases q
 | .int i,e,_,h,k=>by
  have:=h.int_inv; subst this;cases e with
  | non=>cases k.dG
  | int j=>cases k.int_inv; rfl
  | str i=>cases k.str_inv
  | tup es=>obtain⟨_,_,q,_⟩:=k.bo; cases q
 | .str i,e,_,h,k=>by
  have:=h.str_inv; subst this;cases e with
  | non=>cases k.dG
  | int j=>cases k.int_inv
  | str i=>cases k.str_inv; rfl
  | tup es=>obtain⟨_,_,q,_⟩:=k.bo; cases q
 | .tup ds,e,_,h,k=>by
  obtain⟨a,xs,rfl,q,l⟩:=h.bo;cases e with
  | non=>cases k.dG
  | int j=>cases k.int_inv
  | str i=>cases k.str_inv
  | tup es=>
   obtain⟨b,ys,J,U,O⟩:=k.bo;cases J;have:=I.hJ q U;subst this;rw[IsL.inj I l O]
theorem IsL.inj(I:Inv X pins σ H s):∀ {ds es:List D} {vs:List V},IsL X.K H ds vs->IsL X.K H es vs->ds=es
 | [],es,_,h,k=>by
  have:=h.nil_inv; subst this;have:=k.length;simp at this; rw[this]
 | d::ds,es,_,h,k=>by
  obtain⟨v,r,rfl,p,q⟩:=h.cons_inv;cases es with
  | nil=>cases k.nil_inv
  | cons e es=>
   obtain⟨a,Z,J,O,U⟩:=k.cons_inv;cases J;rw[Is.inj I p O,IsL.inj I q U]
end
theorem in1_units(A:Around):A.in1.units=A.units + 1:=rfl
mutual
theorem pR(I:Inv X pins σ H s):∀ (d:D) (e:D) {A:Around} {v v':V} {u u':Value},Is X.K H d v->Is X.K H e v'->RelV v u->RelV v' u'->A.units + d.dep < cLine->SeqAt.EqAt A s u u' (D.beq d e)
 | .non,e,A,v,v',u,u',h,k,r,r',hu=>by
  have:=h.dG; subst this;have J:u=.none:=r;subst J;cases e with
  | non=>have:=k.dG; subst this; have J:u'=.none:=r'; subst J; exact SeqAt.EqAt.same _
  | int i=>have:=k.int_inv; subst this; obtain⟨t,rfl⟩:=r'; exact SeqAt.EqAt.none_int _ _
  | str i=>have:=k.str_inv; subst this; obtain⟨t,rfl⟩:=r'; exact SeqAt.EqAt.none_str _ _
  | tup es=>
   obtain⟨a,xs,rfl,q,l⟩:=k.bo;have J:u'=.ref a:=r';subst J;obtain⟨its,Z,p,z⟩:=I.tuple q
   exact SeqAt.EqAt.none_tuple p (by have:D.dep .non=0:=by unfold D.dep; rfl
                                     lia)
 | .int i,e,A,v,v',u,u',h,k,r,r',hu=>by
  have:=h.int_inv; subst this;obtain⟨t,rfl⟩:=r;cases e with
  | non=>have:=k.dG; subst this; have J:u'=.none:=r'; subst J; exact SeqAt.EqAt.int_none _ _
  | int j=>have:=k.int_inv; subst this; obtain⟨t',rfl⟩:=r'; exact F1 _ _ _ _
  | str j=>have:=k.str_inv; subst this; obtain⟨t',rfl⟩:=r'; exact SeqAt.EqAt.int_str _ _ _ _
  | tup es=>
   obtain⟨a,xs,rfl,q,l⟩:=k.bo;have J:u'=.ref a:=r';subst J;obtain⟨its,Z,p,z⟩:=I.tuple q;exact SeqAt.EqAt.int_tuple _ _ p (by lia)
 | .str i,e,A,v,v',u,u',h,k,r,r',hu=>by
  have:=h.str_inv; subst this;obtain⟨t,rfl⟩:=r;cases e with
  | non=>have:=k.dG; subst this; have J:u'=.none:=r'; subst J; exact SeqAt.EqAt.str_none _ _
  | int j=>have:=k.int_inv; subst this; obtain⟨t',rfl⟩:=r'; exact SeqAt.EqAt.str_int _ _ _ _
  | str j=>have:=k.str_inv; subst this; obtain⟨t',rfl⟩:=r'; exact SeqAt.EqAt.str_str _ _ _ _
  | tup es=>
   obtain⟨a,xs,rfl,q,l⟩:=k.bo;have J:u'=.ref a:=r';subst J;obtain⟨its,Z,p,z⟩:=I.tuple q;exact SeqAt.EqAt.str_tuple _ _ p (by lia)
 | .tup ds,e,A,v,v',u,u',h,k,r,r',hu=>by
  obtain⟨a,xs,rfl,q,l⟩:=h.bo;have J:u=.ref a:=r;subst J;obtain⟨its,Z,p,z⟩:=I.tuple q;have hd:D.dep (.tup ds)=1 + D.cy ds:=by conv=>lhs; unfold D.dep
  cases e with
  | non=>have:=k.dG; subst this; have J:u'=.none:=r'; subst J; exact SeqAt.EqAt.tuple_none p (by lia)
  | int j=>have:=k.int_inv; subst this; obtain⟨t',rfl⟩:=r'; exact SeqAt.EqAt.tuple_int _ _ p (by lia)
  | str j=>have:=k.str_inv; subst this; obtain⟨t',rfl⟩:=r'; exact SeqAt.EqAt.tuple_str _ _ p (by lia)
  | tup es=>
   obtain⟨b,ys,rfl,C,o⟩:=k.bo;have J:u'=.ref b:=r';subst J;by_cases U:a=b
   ·subst U;have e:=I.hJ q C;subst e;have e:=IsL.inj I l o;subst e;rw[D.rM];exact SeqAt.EqAt.same _
   ·refine SeqAt.EqAt.of_refs U ?_;obtain⟨its',O,S,z'⟩:=I.tuple C;have ln:=l.length;have T:=o.length;have lr:=Z.length;have L:=O.length;have R:=SeqAt.RcAt.tuples (A:=A) (s:=s) (e:=fun j=>match ds[j]?,es[j]? with | some d,some e=>D.beq d e | _,_=>true) p S (by lia) (fun j h1 h2=>?_)
    ·have e1:its.toArray.size=ds.length:=by rw[ff]; lia
     have Q:its'.toArray.size=es.length:=by rw[ff]; lia
     rw[e1,Q,D.mn]at R;have M:D.beq (.tup ds) (.tup es)=D.eZ ds es:=by conv=>lhs; unfold D.beq
     rw[M];exact R
    ·have c:j < ds.length:=by rw[ff]at h1; lia
     have E:j < es.length:=by rw[ff]at h2; lia
     obtain⟨x,ex,ix⟩:=l.get (cL c);obtain⟨y,N,W⟩:=o.get (cL E);obtain⟨B,g,m⟩:=Z.get ex;obtain⟨F,n,f⟩:=O.get N;have Y:its.toArray[j]=B:=by
      have:its.toArray[j]?=some B:=by simpa using g
      exact (zz.mp this).2
     have G:its'.toArray[j]=F:=by
      have:its'.toArray[j]?=some F:=by simpa using n
      exact (zz.mp this).2
     rw[Y,G]
     try dsimp only
     rw[cL c,cL E];have dl:(ds[j]).dep<=D.cy ds:=D.pA (wN c);exact AX I ds j ds[j] (cL c) es[j] ix W m f (by rw[in1_units]; lia)
theorem AX(I:Inv X pins σ H s):∀ (ds:List D) (j:Nat) (d:D),ds[j]?=some d->∀ (e:D) {A:Around} {v v':V} {u u':Value},Is X.K H d v->Is X.K H e v'->RelV v u->RelV v' u'->A.units + d.dep < cLine->SeqAt.EqAt A s u u' (D.beq d e)
 | [],_,_,h=>by simp at h
 | d::ds,0,_,h=>by
  simp at h; subst h;exact fun e {A v v' u u'}=>pR I d e
 | d::ds,j + 1,_,h=>by
  exact AX I ds j _ (by simpa using h)
end
inductive ES(K:aL)(n:Nat)(neg:Bool)(x y:V)(H:Hp)(Q:VK):Prop|m(ds es:_)(_:Is K H (.tup ds) x)(_:Is K H (.tup es) y)(_:D.cy ds < n)(_:Q (.bl (if neg then !D.eZ ds es else D.eZ ds es)) H)
theorem GR(I:Inv X pins σ H s){es:List D}(h:Is X.K H (.tup ds) (.ref a))(k:Is X.K H (.tup es) (.ref b))(hu:A.units + 1 + D.cy ds < cLine) :
  SeqAt.RcAt A s (.ref a) (.ref b) (D.eZ ds es)/\SeqAt.RcNeAt A s (.ref a) (.ref b) (!D.eZ ds es):=by
 obtain⟨_,xs,e,q,l⟩:=h.bo;cases e;obtain⟨_,ys,e,E,n⟩:=k.bo;cases e;obtain⟨its,t,p,z⟩:=I.tuple q;obtain⟨its',J,g,z'⟩:=I.tuple E;have Q:=l.length;have F:=n.length;have S:=t.length;have v:=J.length;have N:its.toArray.size=ds.length:=by rw[ff]; lia
 have C:its'.toArray.size=es.length:=by rw[ff]; lia
 have m:∀ j (h1:j < its.toArray.size) (h2:j < its'.toArray.size),SeqAt.EqAt A.in1 s its.toArray[j] its'.toArray[j] ((fun j=>match ds[j]?,es[j]? with | some d,some e=>D.beq d e | _,_=>true) j):=fun j h1 h2=>by
  have V:j < ds.length:=by lia
  have i:j < es.length:=by lia
  obtain⟨x,ex,M⟩:=l.get (cL V);obtain⟨y,B,G⟩:=n.get (cL i);obtain⟨f,U,Z⟩:=t.get ex;obtain⟨r,c,O⟩:=J.get B;have L:its.toArray[j]=f:=by
   have:its.toArray[j]?=some f:=by simpa using U
   exact (zz.mp this).2
  have u:its'.toArray[j]=r:=by
   have:its'.toArray[j]?=some r:=by simpa using c
   exact (zz.mp this).2
  rw[L,u]
  try dsimp only
  rw[cL V,cL i];have R:(ds[j]).dep<=D.cy ds:=D.pA (wN V);exact pR I _ _ M G Z O (by rw[in1_units]; lia)
 have o:=SeqAt.RcAt.tuples p g (by lia) m;have R2:=SeqAt.RcNeAt.tuples p g (by lia) m;rw[N,C,D.mn]at o R2;exact⟨o,R2⟩
theorem IC(hu:X.A.units + 1 + n < cLine):iL X (compareOp .Eq) (ES X.K n false):=by
 intro pins s σ H x y v u Q I J O h;obtain⟨ds,es,h1,h2,U,q⟩:=h;obtain⟨a,_,rfl,_⟩:=h1.bo;obtain⟨b,_,rfl,_⟩:=h2.bo;cases J; cases O;exact (GR I h1 h2 (by lia)).1 X.prog X.w X.xe _ ⟨.bl _,H,I,rfl,q⟩
theorem EL(hu:X.A.units + 1 + n < cLine):iL X (compareOp .NotEq) (ES X.K n true):=by
 intro pins s σ H x y v u Q I J O h;obtain⟨ds,es,h1,h2,U,q⟩:=h;obtain⟨a,_,rfl,_⟩:=h1.bo;obtain⟨b,_,rfl,_⟩:=h2.bo;cases J; cases O;exact (GR I h1 h2 (by lia)).2 X.prog X.w X.xe _ ⟨.bl _,H,I,rfl,q⟩
inductive Io(K:aL)(xs:List V)(H:Hp)(Q:VK):Prop|m(x T t b:_)(_:xs=[x,.ty T])(_:iY K H x t)(_:PySem.W.kitOne K t (.type T)=some b)(_:Q (.bl b) H)
theorem Bk:d8 X (.builtin "isinstance") (Io X.K):=by
 intro pins s σ H xs us Q I r h;obtain⟨x,T,t,b,rfl,ty,k,q⟩:=h;obtain⟨u,J,rfl,U,O⟩:=r.two;have e:J=.type T:=O;subst e;exact xu I U ty k fun tk=>⟨.bl b,H,I.tok tk,rfl,q⟩
def Cl(P:Program)(w:World)(K:aL)(mg:Str->Option Value)(base:Heap)(x:Str)(k:Nat)(ps:List Str)(sp:Sp):Prop:=
 ∃ f fd,b9 P w K mg base fM k f fd ps sp/\Binds K fd ps []/\PySem.W.keepIn K (.ref f)=true/\mg x=some (.ref f)
theorem Cl.mono{K:aL}{mg:Str->Option Value}{k:Nat}(c:Cl P w K mg base x j ps sp)(h:j<=k):Cl P w K mg base x k ps sp:=
 let ⟨f,fd,F,b,kp,m⟩:=c; ⟨f,fd,F.mono h,b,kp,m⟩
theorem fL.cl{K:aL}{mg:Str->Option Value}{st:Stmt}{f:Addr}{fd:qT}{k:Nat}(F:fL K x x st f fd)(ok:b9 P w K mg base fM k f fd ps sp)(m:mg x=some (.ref f))
  (h:∀ (kV doc pm:Value) (an:Option Addr) (cdv ct:Value) (us:List Value),us.length=ps.length->bindArgs (PySem.W.fnOf x x (fD st) (eS st) (av st) .none kV doc pm an cdv ct) ⟨us,[]⟩=pure (ps.zip us)):Cl P w K mg base x k ps sp:=
 ⟨f,fd,ok,F.binds h,F.kp,m⟩
def HW(sp:Sp)(t:TA):TE:=fun σ H Q=>t σ H fun vs H1=>sp vs H1 Q E0
section
variable {k:Nat}{t:TA}
theorem aY(c:Cl X.prog X.w X.K X.mg X.base x k ps sp)(hr:gB k X.A)(hg:Gl X x)(ha:PA X (e::es) t)(hdb:(x == ("__debug__":Str))=false:=by decide)
  (he:starEach (e::es) X.env=(false,eval e X.env)::starEach es X.env:=by rfl) (hpl:(backTo pos (starEach es X.env)).any (·.1)=false:=by rfl):PE X (.Call (.Name x p) (e::es) [] pos) (HW sp t):=by
 obtain⟨f,fd,F,b,J,m⟩:=c;have h:=Cp (E:=E0) (pos:=pos) (p:=p) F hr hg m J b .nil GB ha hdb he hpl;have I:AK sp [] E0 t=HW sp t:=by
  funext σ H Q
  unfold AK HW;simp only[jL]
 rw[I]at h;exact h
end
def KD(P:Program)(w:World)(K:aL)(a:Addr)(kvs:List (Str × V)):Prop:=
 ∀ h:Heap,K.In h->∃ vs,KV (kvs.map fun p=>((Sum.inr p.1:Key),p.2)) vs/\h.DictOf (bt P w) a vs
inductive He(P:Program)(w:World)(K:aL)(x y:V)(H:Hp)(Q:VK):Prop|m(p kvs z v:_)(_:x=.ref p)(_:y=.str z)(_:KD P w K p kvs)(_:kvs.lookup z=some v)(_:Q v H)
theorem G0:∀ {vs:List (Key × Value)} {z:Str} {v:V},KV (kvs.map fun p=>((Sum.inr p.1:Key),p.2)) vs->kvs.lookup z=some v->∃ u,PySem.valueAt vs (Sum.inr z:Key)=some u/\RelV v u:=by
 induction kvs with
 | nil=>intro vs z v _ h; simp at h
 | cons p r a=>
  intro vs z v c h;obtain⟨x,y⟩:=p;cases c with
  | cons d tl=>
   rename_i q l2;obtain⟨g,f⟩:=q;obtain⟨U,O⟩:=d;dsimp only at U O;subst U;by_cases I:z=x
   ·subst I;simp only[BC,D0]at h;cases h;refine⟨f,?_,O⟩;unfold PySem.valueAt;simp
   ·have b:(z == x)=false:=by simpa using I
    simp only[BC,b]at h;obtain⟨u,e,Z⟩:=a tl h;refine⟨u,?_,Z⟩;unfold PySem.valueAt at e |-;have J:¬ ((Sum.inr x:Key)=Sum.inr z):=fun q=>I (Sum.inr.inj q).symm
    simp only[Ck,iK J];exact e
theorem Gg:Hl X (He X.prog X.w X.K):=by
 intro value U pins s σ H x y v u Q I d g h hs;obtain⟨p,kvs,z,a,rfl,rfl,c,f,q⟩:=h;cases d;obtain⟨t,rfl⟩:=g;obtain⟨vs,J,dd⟩:=c s.heap I.oS;obtain⟨r,b,Z⟩:=G0 J f;have O:∀ s',Inv X pins σ H s'->EP X pins σ Q r s':=fun s' e=>⟨a,H,e,Z,q⟩
 have V:=dd.mapOf;exact subscriptTail_builtinR (x:=r) V.typeIs slot_dict_getitem.lookup (wpAny_getItem_of (k:=(Sum.inr z:Key)) (fC _ _ z t) V b ⟨rfl,O _ (I.tok _)⟩) hs
theorem KD.of{K:aL}{o:Obj}{es:Array DictEntry}{ep:Nat}(l:K.lookup a=some o)(hx:o.ExactDict)(hd:o.data=.dict es ep)
  (hp:Paired (fun (p:Str × V) (e:DictEntry)=>e.hash=hashStr w p.1/\(∃ t,e.key=.str p.1 t)/\RelV p.2 e.val) kvs es.toList) (hn:(kvs.map (·.1)).Nodup):KD P w K a kvs:=by
 intro h i;have g:∀ (kvs:List (Str × V)) (l:List DictEntry),Paired (fun (p:Str × V) (e:DictEntry)=>e.hash=hashStr w p.1/\(∃ t,e.key=.str p.1 t)/\RelV p.2 e.val) kvs l->
   ∃ vs:List (Key × Value),KV (kvs.map fun p=>((Sum.inr p.1:Key),p.2)) vs/\(∀ e∈l,∃ k,(bt P w).is k e.key=true/\e.hash=(bt P w).hash k)/\PySem.Pairs (bt P w) l vs/\vs.map (·.1)=kvs.map fun p=>(Sum.inr p.1:Key):=by
  intro kvs l hp
  induction hp with
  | nil=>exact⟨[],.nil,fun e Z=>(nomatch Z),.nil,rfl⟩
  | @cons p e l1 l2 hd tl m=>
   obtain⟨vs,h1,h2,J,U⟩:=m;obtain⟨f,⟨t,c⟩,j⟩:=hd;refine⟨(Sum.inr p.1,e.val)::vs,.cons ⟨rfl,j⟩ h1,fun d I=>?_,?_,?_⟩
   ·rcases d0.mp I with rfl | I
    ·exact⟨Sum.inr p.1,by rw[c]; exact fC _ _ _ _,f⟩
    ·exact h2 d I
   ·exact .cons (by rw[c]; exact fC _ _ _ _) rfl J
   ·simp[U]
 obtain⟨vs,h1,h2,J,U⟩:=g kvs es.toList hp;refine⟨vs,h1,o,es,ep,i a o l,hx,hd,fun e Z=>h2 e (by simpa using Z),J,?_⟩;rw[U];have:(kvs.map fun p=>(Sum.inr p.1:Key))=(kvs.map (·.1)).map Sum.inr:=by simp
 rw[this];exact List.Pairwise.map _ (fun a b O q=>O (Sum.inr.inj q)) hn
def mU:Expr->Option V
 | .Constant (.int i) _ _=>some (.int i)
 | .Constant (.str x) _ _=>some (.str x)
 | .Constant .none _ _=>some .non
 | .Constant (.bool b) _ _=>some (.bl b)
 | _=>none
def pQ:List Expr->Option (List V)
 | []=>some []
 | e::es=>match mU e,pQ es with
  | some v,some vs=>some (v::vs)
  | _,_=>none
def Jj(vs:List V):TA:=fun _ H Q=>Q vs H
theorem ur(h:mU e=some v):starEach (e::es) X.env=(false,eval e X.env)::starEach es X.env:=by
 unfold mU at h;split at h
 ·rfl
 ·rfl
 ·rfl
 ·rfl
 ·cases h
theorem Be(h:mU e=some v):PE X e (tC v):=by
 unfold mU at h;split at h
 ·cases h; exact ag
 ·cases h; exact a8
 ·cases h; exact dR
 ·cases h; exact qZ
 ·cases h
theorem eV{X:Cx}:∀ {es:List Expr} {vs:List V},pQ es=some vs->PA X es (Jj vs)
 | [],vs,h=>by
  cases h;exact aj
 | e::es,vs,h=>by
  unfold pQ at h;split at h
  ·rename_i v ws h1 h2;cases h;exact aa (Be h1) (eV h2) (ur h1)
  ·cases h
section
variable {K:aL}
theorem lj(h:X.K=K):Hl X (GF K):=h ▸ a9
theorem we{k:Nat}{t:BF}(hK:X.K=K)(hc:X.calm=true)(h:FT X es t)
  (hn:(assignEach es X.env).length=n:=by rfl) (hst:(assignEach es X.env).findIdx? (·.1)=none:=by rfl):PG X (.Tuple es k pos) (GN K n t):=hK ▸ jf hc h hn hst
end
def GV(K:aL)(a:Addr):It:=
 ⟨fun i H=>∃ xs x,bp K H a xs/\xs[i]?=some x,fun i H x H'=>∃ t,H t=none/\x=.ref t/\∀ xs,bp K H a xs->∃ v,xs[i]?=some v/\H'=upd H t (.tup [.int i,v]),fun i H=>∃ xs,bp K H a xs/\xs.length<=i⟩
theorem ye{K:aL}{k:Nat}(a e it:Addr)(hne:e≠it) :
  Turn P w K (.Tuple es k pos) (GV K a) [e,it] e (fun i h=>(∃ old,IsEnum h e it (i:Int) old)/\h.IsListIter it a i) where
 mem:=by simp
 obj:=fun i h st b V=>by
  obtain⟨⟨old,O⟩,o,e2,c,d⟩:=st;simp only[d0,gh,or_false]at V;rcases V with rfl | rfl
  ·exact⟨_,O,fun v z=>by cases z⟩
  ·exact⟨o,e2,fun v z=>by rw[d]at z; cases z⟩
 keep:=fun i h h' st Y=>⟨let ⟨old,z⟩:=st.1; ⟨old,Y e (by simp) _ z⟩,st.2.at fun o q=>Y it (by simp) o q⟩
 item:=by
  intro X L N S U i pins s σ H E I t st B;subst L N S;obtain⟨xs,x,y,R⟩:=B;obtain⟨its,C,p,hz⟩:=I.list y;obtain⟨u,hu,ru⟩:=C.get R;obtain⟨⟨old,O⟩,Z⟩:=st;refine wpAny_pyNext_enum_item O Z p.isList (x:=u) (by simpa using hu) hne fun h1 o1 l1 t1 z1 k1=>?_
  refine⟨_,rfl,wpAny_letOwnedTupleGo_enum o1 fun h2 o2 G=>?_⟩;have J:H s.heap.objs.size=none:=I.fresh;have l:e < s.heap.objs.size:=cG O;have k2:∀ b o,b≠e->b≠it->s.heap.get? b=some o->h2.get? b=some o:=fun b o W T q=>G.extBut b o W (k1 b o W T q)
  have t2:h2.get? s.heap.objs.size=some { cls:=.type "tuple",data:=.seq #[.int i s.toks,u] }:=G.extBut _ _ (Nat.ne_of_gt l) t1;have j:=t e (by simp);have g:=t it (by simp);have f:∀ b o,H b=some o->b≠e/\b≠it:=fun b o q=>⟨fun z=>by (rw[z,j.1]at q; cases q),fun z=>by (rw[z,g.1]at q; cases q)⟩
  have I2:Inv X pins σ (upd H s.heap.objs.size (.tup [.int i,x])) { s with heap:=h2,gens:=s.gens,drawn:=s.drawn,toks:=s.toks + 1 }:=by
   refine I.step (ch:=[e,it]) (fun b V=>?_) (fun b o _ _ U q _=>k2 b o (fun z=>U (by simp[z])) (fun z=>U (by simp[z])) q) (fun b o _ _ U q _=>⟨o.slots,k2 b o (fun z=>U (by simp[z])) (fun z=>U (by simp[z])) q⟩)
    (fun b o _ q n=>by rw[aw (cH (cG q))]; exact n) (fun b o U q=>⟨o,k2 b o (fun z=>U (by simp[z])) (fun z=>U (by simp[z])) q⟩)
    (fun b zs q=>by rw[aw (aM q J)]; exact q) (fun b o v q=>by rw[aw (aM q J)]; exact q) (fun b ps q=>⟨#[],by rw[aw (aM q J),q]; simp⟩) (fun m hm=>?_) (fun b o q=>?_) I.bare
   ·simp only[d0,gh,or_false]at V;rcases V with rfl | rfl
    ·exact⟨j.2.2.2.1,j.2.1,j.2.2.2.2.1,j.2.2.2.2.2⟩
    ·exact⟨g.2.2.2.1,g.2.1,g.2.2.2.2.1,g.2.2.2.2.2⟩
   ·obtain⟨o,D,ep,ho,r⟩:=hm;exact⟨o,D,ep,k2 _ o (Ne.symm j.2.1) (Ne.symm g.2.1) ho,r⟩
   ·by_cases V:b=s.heap.objs.size
    ·subst V;rw[ae]at q;cases q;exact⟨by show 2<=sizeLine; decide,[.int i s.toks,u],.cons ⟨_,rfl⟩ (.cons ru .nil),_,t2,rfl,_,rfl⟩
    ·rw[aw V]at q;refine (I.hok b o q).nI (fun c v U z=>k2 c v ?_ ?_ z) (fun c z=>by rw[aw (aM z J)]; exact z) fun c zs z=>by rw[aw (aM z J)]; exact z
     ·rcases U with z' | z'
      ·rw[z']; exact (f b o q).1
      ·exact (f c _ z').1
     ·rcases U with z' | z'
      ·rw[z']; exact (f b o q).2
      ·exact (f c _ z').2
  refine⟨.ref s.heap.objs.size,_,I2,rfl,⟨_,J,rfl,fun ys hy=>⟨x,by rw[I.sF hy y]; exact R,rfl⟩⟩,⟨⟨u,?_⟩,l1.extBut G.extBut (Ne.symm hne)⟩,fun b V=>?_⟩
  ·have:((i:Int) + 1)=((i + 1:Nat):Int):=by lia
   rw[<-this]; exact o2
  ·simp only[d0,gh,or_false]at V;rcases V with rfl | rfl
   ·rw[aw (cH l)]; exact j.1
   ·obtain⟨oi,ei,_⟩:=Z;rw[aw (cH (cG ei))]; exact g.1
 done:=by
  intro X L N S U i pins s σ H E I t st B;subst L N S;obtain⟨xs,y,R⟩:=B;obtain⟨its,C,p,hz⟩:=I.list y;obtain⟨⟨old,O⟩,Z⟩:=st;obtain⟨f0,f1,f2,f3,f4,f5⟩:=t it (by simp);have hl:=C.length;exact wpAny_pyNext_enum_end (I.ok.hd U) O Z p.isList (by simp; lia) fun h' eb=>⟨rfl,I.turned (t':=s.toks) (fun b o V e=>eb b o V e) f0 f1 f3 f4 f5⟩
 self:=fun A i s Q E st h=>by
  obtain⟨old,O⟩:=st.1;have M:s.TypeIs (.ref e) "enumerate":=⟨_,O,rfl⟩
  exact E5 M F.slot_enumerate_iter (lD F.slot_enumerate_iter M F.entry_enumerate_iter (aO ⟨_,rfl, "enumerate",_,M,F.slot_enumerate_next.lookup,h⟩) (F.args_enumerate_iter_1 _))
def Gx(K:aL)(ta:TA):TI:=fun σ H R=>ta σ H fun vs H1=>aK R (fun a R=>vs=[.ref a]/\(∃ xs,bp K H1 a xs)/\R (GV K a) H1)
theorem vX{k:Nat}{post:Pos}{a:Expr}(hg:Gl X "enumerate")(hm:X.mg "enumerate" = none)(ha:PA X [a] ta)(hs:starEach [a] X.env=[(false,eval a X.env)]:=by rfl) :
  PI X (.Tuple es k post) (.Call (.Name "enumerate" p) [a] [] pos) (Gx X.K ta):=by
 intro pins s σ H R I h;refine Call_ (fN I hg hm PyProof.Rows.boot_enumerate (Eu (cw (ha pos pins s σ H _ I h) fun us s1 O=>?_) hs rfl));obtain⟨vs,H1,J,g,d⟩:=O;obtain⟨l,rfl,⟨xs,f⟩,q⟩:=d;obtain⟨u,rfl,V⟩:=g.one;cases V;obtain⟨its,j,pl,i⟩:=J.list f;refine call_enumerate_list pl.isList fun h' e it sz c=>?_
 have T:=ye (P:=X.prog) (w:=X.w) (K:=X.K) (es:=es) (k:=k) (pos:=post) l (s1.heap.objs.size + 1) s1.heap.objs.size (Nat.succ_ne_self _);have st:(∃ old,IsEnum h' (s1.heap.objs.size + 1) s1.heap.objs.size (((0:Nat)):Int) old)/\h'.IsListIter s1.heap.objs.size l 0:=⟨⟨_,e⟩,it⟩
 have Z:Inv X pins σ H1 { s1 with heap:=h' }:=J.kept (t':=s1.toks) c;refine T.self X.A 0 { s1 with heap:=h' } _ _ st ?_;refine⟨_,_,_,_,H1,rfl,Z,T,st,fun b U=>?_,q⟩;simp only[d0,gh,or_false]at U;rcases U with rfl | rfl
 ·exact J.tI (Nat.le_succ _) (J.hok.fresh (Nat.le_succ _))
 ·exact J.tI (bH _) (J.hok.fresh (bH _))
theorem sU{K:aL}{g:TG}{tb:TS}{D:Ends}(Pv:Nat->St->Hp->Prop)(h0:Pv 0 σ H)(hl:∀ i σ H,i<=xs.length->Pv i σ H->bp K H a xs)
  (hs:∀ i x σ H t,xs[i]?=some x->Pv i σ H->H t=none->g (.ref t) σ (upd H t (.tup [.int (i:Int),x])) fun σ2 H2=>tb { D with nx:=Pv (i + 1),ct:=Pv (i + 1),bk:=D.nx } σ2 H2) (hd:∀ σ H,Pv xs.length σ H->D.nx σ H) :
  ∃ W:Nat->Nat->St->Hp->Prop,(∃ m,W 0 m σ H)/\∀ i m σ H,W i m σ H->
   ((GV K a).stop i H/\D.nx σ H)\/((GV K a).go i H/\∃ N:St->Hp->Prop,(∀ σ' H',N σ' H'->∃ m',m' < m/\W (i + 1) m' σ' H')/\∀ x H',(GV K a).yld i H x H'->g x σ H' fun σ2 H2=>tb { D with nx:=N,ct:=N,bk:=D.nx } σ2 H2):=by
 refine⟨fun i m σ H=>i<=xs.length/\m=xs.length - i/\Pv i σ H,⟨xs.length,dI _,rfl,h0⟩,fun i m σ H Z=>?_⟩;obtain⟨hi,rfl,I⟩:=Z;have J:=hl i σ H hi I;by_cases O:i < xs.length
 ·refine .inr ⟨⟨xs,xs[i],J,cL O⟩,Pv (i + 1),fun σ' H' h'=>⟨xs.length - (i + 1),by lia,by lia,rfl,h'⟩,fun x H' V=>?_⟩;obtain⟨t,U,rfl,b⟩:=V;obtain⟨v,c,rfl⟩:=b xs J;exact hs i v σ H t c I U
 ·have e:i=xs.length:=by lia
  subst e;exact .inl ⟨⟨xs,J,bH _⟩,hd σ H I⟩
inductive DR(K:aL)(n:Nat)(neg:Bool)(x y:V)(H:Hp)(Q:VK):Prop|m(a b xs ys ds es:_)(_:x=.ref a)(_:y=.ref b)(_:bp K H a xs)(_:bp K H b ys)(_:IsL K H ds xs)(_:IsL K H es ys)(_:D.cy ds < n)(_:Q (.bl (if neg then !D.eZ ds es else D.eZ ds es)) H)
theorem DH(I:Inv X pins σ H s){es:List D}{ys:List V}(q:bp X.K H a xs)(q':bp X.K H b ys)(l:IsL X.K H ds xs)(l':IsL X.K H es ys)(hu:A.units + 1 + D.cy ds < cLine) :
  SeqAt.RcAt A s (.ref a) (.ref b) (D.eZ ds es)/\SeqAt.RcNeAt A s (.ref a) (.ref b) (!D.eZ ds es):=by
 obtain⟨its,v,p,z⟩:=I.list q;obtain⟨its',O,U,z'⟩:=I.list q';have Q:=l.length;have G:=l'.length;have S:=v.length;have C:=O.length;have r:its.toArray.size=ds.length:=by rw[ff]; lia
 have F:its'.toArray.size=es.length:=by rw[ff]; lia
 by_cases k:ds.length=es.length
 ·have o:∀ j (h1:j < its.toArray.size) (h2:j < its'.toArray.size),SeqAt.EqAt A.in1 s its.toArray[j] its'.toArray[j] ((fun j=>match ds[j]?,es[j]? with | some d,some e=>D.beq d e | _,_=>true) j):=fun j h1 h2=>by
   have f:j < ds.length:=by lia
   have n:j < es.length:=by lia
   obtain⟨x,ex,N⟩:=l.get (cL f);obtain⟨y,E,L⟩:=l'.get (cL n);obtain⟨m,c,g⟩:=v.get ex;obtain⟨u,i,Z⟩:=O.get E;have M:its.toArray[j]=m:=by
    have:its.toArray[j]?=some m:=by simpa using c
    exact (zz.mp this).2
   have B:its'.toArray[j]=u:=by
    have:its'.toArray[j]?=some u:=by simpa using i
    exact (zz.mp this).2
   rw[M,B]
   try dsimp only
   rw[cL f,cL n];have R:(ds[j]).dep<=D.cy ds:=D.pA (wN f);exact pR I _ _ N L g Z (by rw[in1_units]; lia)
  have t:=SeqAt.RcAt.lists p.isList U.isList (by lia) (by lia) o;have R2:=SeqAt.RcNeAt.lists p.isList U.isList (by lia) (by lia) o;have J:=D.mn ds es;rw[show (ds.length == es.length)=true from by simpa using k,Bool.and_true,Nat.min_eq_left (by lia)]at J;rw[r]at t R2;exact⟨by rw[<-J]; exact t,by rw[<-J]; exact R2⟩
 ·have J:D.eZ ds es=false:=by
   cases h:D.eZ ds es with
   | false=>rfl
   | true=>exact absurd (D.si ds es h) k
  rw[J];have hs:(its.toArray.size != its'.toArray.size)=true:=by rw[r,F]; simpa using k
  exact⟨SeqAt.RcAt.lists_lengths p.isList U.isList hs (by lia),SeqAt.RcNeAt.lists_lengths p.isList U.isList hs (by lia)⟩
theorem Cd(hu:X.A.units + 1 + n < cLine):iL X (compareOp .Eq) (DR X.K n false):=by
 intro pins s σ H x y v u Q I U V h;obtain⟨a,b,xs,ys,ds,es,rfl,rfl,J,O,l1,l2,Z,q⟩:=h;cases U; cases V;exact (DH I J O l1 l2 (by lia)).1 X.prog X.w X.xe _ ⟨.bl _,H,I,rfl,q⟩
theorem CN(hu:X.A.units + 1 + n < cLine):iL X (compareOp .NotEq) (DR X.K n true):=by
 intro pins s σ H x y v u Q I U V h;obtain⟨a,b,xs,ys,ds,es,rfl,rfl,J,O,l1,l2,Z,q⟩:=h;cases U; cases V;exact (DH I J O l1 l2 (by lia)).2 X.prog X.w X.xe _ ⟨.bl _,H,I,rfl,q⟩
end L2
namespace L2
open PySem PySem.Spec PyProof.Rows PySem.W
variable {C N e:Addr}{A:Around}{E:Value->Shared->Prop}{X:Cx}{w:World}{s:Shared}{pos np:Pos}{prog:Program}{h:Heap}{nm q x:Str}{bm sub:List Value}{hdct ab:Bool}{sn:List Str}{col:Option Bool}{dd od:Option Addr}{k0:Option Value}{newId:String}{vs:Array Value}{M:Model}{env:Env}{H:Hp}
section
variable {g:Array GenState}{d:Drawn}{t:Nat}{os:OsState}
variable {bs bmB:List Value}{k1 k2 k3 k5:Option Value}{B initId:String}
end
def D1:List Value->Bool
 | .ref _::r=>D1 r
 | l=>l == [.type "ValueError",.type "Exception",.type "BaseException",.type "object"]
def GD(K:aL)(C:Addr):Bool:=(PySem.W.clsIn K C).any fun c=>D1 c.mro
section
variable {K:aL}
variable {x:Addr}{name:Str}{v:Value}{sl:Array (Option Value)}
end
section
variable {base:Heap}{outer l:List Env}{L:Addr}{c fl head:Value}{sl:Array (Option Value)}{hadNext:Bool}{lo:Nat}{Q:Unit->Shared->Prop}
end
def G9(e C:Addr)(od:Option Addr):HO:=.ext fun h=>∃ t,h.get? e=some ⟨.ref C,od,.fields #[.ref t,.none,.none,.none,.bool false,.none],#[]⟩
section
variable {P:Program}{t:Addr}
end
structure JC (K:aL) (C:Addr):Prop where
 sa:PySem.W.findIn K (.ref C) "__setattr__" = some (some (.builtin "object.__setattr__"))
 po:GD K C=true
 hd:PySem.W.hasDictIn K C=true
structure Jo (K:aL) (C f:Addr):Prop where
 ex:∃ nm q N bs bm hdct sn sub ab col dd k0 k1 k2 k3 k5 newId B initId bmB,K.lookup C=some (excClassObj nm q C N bs bm hdct sn sub ab col dd k0 k1 k2 k3 k5 newId)/\ExcBaseFacts B newId initId bmB/\
  bm.contains (.type "BaseException")=true/\(∀ h,K.In h->OwnTail h bmB bm)/\(∀ h,K.In h->∃ mN,h.Ns N mN/\mN "__init__" = some (.ref f))
 fn:∃ oI,K.lookup f=some oI/\oI.cls=.type "function"
 kp:PySem.W.keepIn K (.ref C)=true
section
variable {o value:Expr}{f:Str}{pos':Pos}{ta tv:TE}
end
section
variable {bs:List Value}{k1 k2 k3 k5:Option Value}
end
section
variable {k:Nat}{f:Addr}{fd:qT}{ps:List Str}{sp:Sp}{cpos:Pos}{e:Expr}{es:List Expr}{t:TA}{R:Addr->Addr->Hp->Prop}
end
section
variable {pins pins':List (Addr × Obj)}{σ:St}{E:XK}{a:Addr}
end
section
variable {E:XK}{i:Nat}{n:Str}{S:Addr}{b₀:Stmt}{body suite:List Stmt}{hpos:Pos}{tb th:TS}
end
end L2
namespace L2
open PySem PySem.Spec PyProof.Rows PySem.W
variable {X:Cx}{s s₀:Shared}{H H' H₀:Hp}{A:Around}{w:World}{E Q:Value->Shared->Prop}{a C dx fa:Addr}{pos cpos apos p pos' tpos:Pos}{pins:List (Addr × Obj)}{e o value tg:Expr}{prog P:Program}{σ:St}{u fl cd r:Value}{y v:V}{kvs:List (Key × V)}{es:List Expr}{t:TA}{x name qual f:Str}{ps N:List Str}{xs:List (List Key × Addr × Value)}{sp:Sp}{td tv ta:TE}{env:Env}{items:Array Value}{ts:List T}{base h':Heap}{scope:Scope}{outer:List Env}{j:Nat}{ox:Obj}{M:Model}
section
variable {K:aL}{x D:Addr}{odo:Option Obj}{v:Value}
end
structure Jr (K:aL) (C:Addr):Prop where
 ga:PySem.W.findIn K (.ref C) "__getattribute__" = some (some (.builtin "BaseException.__getattribute__"))
 gn:PySem.W.findIn K (.ref C) "__getattr__" = some none
 mb:PySem.W.mroIn K C (.type "BaseException")=some true
 hd:PySem.W.hasDictIn K C=true
 cl:PySem.W.findIn K (.ref C) "__class__" = some (some (.builtin "object.__class__"))
 cg:PySem.W.specialIn K (.builtin "object.__class__") "__get__" = some (some (.builtin "getset_descriptor.__get__"))
 ct:PySem.W.takesIn K (.builtin "object.__class__")=some true
 mo:PySem.W.mroIn K C (.type "object")=some true
section
variable {K:aL}{x:Addr}{od:Obj}{v:Value}
end
section
variable {fs:List (Str × V)}
end
section
variable {k:Nat}{E:XK}
end
inductive Co(C:Addr)(f:Str)(vs:List V)(H:Hp)(Q:VK)(E:XK):Prop|m(a v:_)(_:vs=[.ref a,v])(_:H a=some (G9 a C none))(_:∀ dx,H dx=none->dx≠a->Q .non (upd (upd H dx (.xd [(f,v)])) a (G9 a C (some dx))))
structure Jy (P:Program) (w:World) (K:aL) (mg:Str->Option Value) (base:Heap) (x:Str) (k:Nat) (ps:List Str) (C:Addr) (f:Str):Prop where
 ex:∃ fI fd,Jo K C fI/\b9 P w K mg base fM k fI fd ps (Co C f)/\Binds K fd ps []
 mg:mg x=some (.ref C)
 len:ps.length<=sizeLine
section
variable {K:aL}{mg:Str->Option Value}{E:XK}
variable {k:Nat}{np:Pos}
end
section
variable {κ:Type} [DecidableEq κ]
def dh(kvs:List (κ × V))(k:κ):Option V:=(kvs.find? fun kv=>decide (kv.1=k)).map (·.2)
def putK(kvs:List (κ × V))(k:κ)(v:V):List (κ × V):=
 if (kvs.any fun kv=>decide (kv.1=k))=true then kvs.map (fun kv=>if kv.1=k then (kv.1,v) else kv) else kvs++[(k,v)]
theorem cF{p:κ × V}{r:List (κ × V)}{k:κ}(e:p.1=k):dh (p::r) k=some p.2:=by simp[dh,Ck,e]
theorem cE{p:κ × V}{r:List (κ × V)}{k:κ}(e:¬ p.1=k):dh (p::r) k=dh r k:=by simp[dh,Ck,e]
theorem fg(k:κ):∀ kvs:List (κ × V),(kvs.any fun kv=>decide (kv.1=k))=(dh kvs k).isSome
 | []=>rfl
 | p::r=>by
  rw[List.any_cons];by_cases e:p.1=k
  ·simp only[cF e,gp e,Bool.true_or,Option.isSome_some]
  ·rw[cE e,iK e,Bool.false_or]; exact fg k r
theorem rL(k j:κ)(y:V):∀ kvs:List (κ × V),dh (kvs.map fun kv=>if kv.1=k then (kv.1,y) else kv) j=(dh kvs j).map fun x=>if j=k then y else x
 | []=>rfl
 | p::r=>by
  have ih:=rL k j y r;rw[iU];by_cases h:p.1=k
  ·rw[if_pos h];by_cases e:p.1=j
   ·rw[cF (p:=(p.1,y)) e,cF e,Option.map_some,if_pos (e.symm.trans h)]
   ·rw[cE (p:=(p.1,y)) e,cE e,ih]
  ·rw[if_neg h];by_cases e:p.1=j
   ·rw[cF (p:=p) e,cF e,Option.map_some,if_neg (fun z=>h (e.trans z))]
   ·rw[cE (p:=p) e,cE e,ih]
theorem oz(k j:κ)(y:V):∀ kvs:List (κ × V),dh kvs k=none->dh (kvs++[(k,y)]) j=if j=k then some y else dh kvs j
 | [],_=>by
  by_cases e:k=j
  ·rw[if_pos e.symm]; exact cF (p:=(k,y)) e
  ·rw[if_neg (fun z=>e z.symm)]; exact cE (p:=(k,y)) e
 | p::r,hn=>by
  rw[List.cons_append];have hk:¬ p.1=k:=fun z=>by rw[cF z]at hn; cases hn
  rw[cE hk]at hn;have I:=oz k j y r hn;by_cases e:p.1=j
  ·rw[cF e,cF e,if_neg (fun z=>hk (e.trans z))]
  ·rw[cE e,cE e,I]
theorem zL(kvs:List (κ × V))(k j:κ)(y:V):dh (putK kvs k y) j=if j=k then some y else dh kvs j:=by
 unfold putK;by_cases a:(kvs.any fun J=>decide (J.1=k))=true
 ·rw[if_pos a,rL];rw[fg]at a;by_cases e:j=k
  ·obtain⟨x,I⟩:=Option.isSome_iff_exists.mp a;rw[if_pos e,e,I,Option.map_some,if_pos rfl]
  ·rw[if_neg e];cases dh kvs j with
   | none=>rfl
   | some x=>rw[Option.map_some,if_neg e]
 ·rw[if_neg a];refine oz k j y kvs ?_;rw[fg]at a;cases q:dh kvs k with
  | none=>rfl
  | some x=>rw[q]at a; exact (a rfl).elim
theorem fE(kvs:List (κ × V))(k:κ)(v:V):(putK kvs k v).length<=kvs.length + 1:=by
 unfold putK;split
 ·rw[bL]; omega
 ·rw[dE,jU,xq]; omega
theorem rz{kvs:List (κ × V)}{k:κ}(v:V)(h:dh kvs k=none):putK kvs k v=kvs++[(k,v)]:=by
 unfold putK;rw[fg,h];exact if_neg (by decide)
theorem kP.ir{o:Option V}{u:Option Value}(r:kP o u):o.isSome=u.isSome:=by
 cases o with
 | none=>cases u with
  | none=>rfl
  | some _=>exact (show False from r).elim
 | some _=>cases u with
  | none=>exact (show False from r).elim
  | some _=>rfl
theorem KV.val{kvs:List (κ × V)}{vs:List (κ × Value)}(r:KV kvs vs)(k:κ):kP (dh kvs k) (valueAt vs k):=by
 unfold KV at r
 induction r with
 | nil=>exact True.intro
 | @cons p q ps J h t O=>
  obtain⟨h1,h2⟩:=h;by_cases e:p.1=k
  ·have I:q.1=k:=h1.symm.trans e;have b:valueAt (q::J) k=some q.2:=by simp[valueAt,Ck,I]
   rw[cF e,b]; exact h2
  ·have I:¬ q.1=k:=fun z=>e (h1.trans z)
   have b:valueAt (q::J) k=valueAt J k:=by simp[valueAt,Ck,I]
   rw[cE e,b]; exact O
theorem KV.any{kvs:List (κ × V)}{vs:List (κ × Value)}(r:KV kvs vs)(k:κ):(kvs.any fun kv=>decide (kv.1=k))=vs.any fun kv=>decide (kv.1=k):=by
 unfold KV at r
 induction r with
 | nil=>rfl
 | cons h t I=>rw[List.any_cons,List.any_cons,I,h.1]
theorem KV.Ei{kvs:List (κ × V)}{vs:List (κ × Value)}(r:KV kvs vs)(k:κ)(ry:RelV y u) :
  KV (kvs.map fun kv=>if kv.1=k then (kv.1,y) else kv) (vs.map fun kv=>if kv.1=k then (kv.1,u) else kv):=by
 unfold KV at r |-
 induction r with
 | nil=>exact .nil
 | @cons p q ps J h t I=>
  rw[iU,iU];refine .cons ?_ I;obtain⟨h1,h2⟩:=h;by_cases e:p.1=k
  ·rw[if_pos e,if_pos (h1.symm.trans e)]; exact⟨h1,ry⟩
  ·rw[if_neg e,if_neg (fun z=>e (h1.trans z))]; exact⟨h1,h2⟩
theorem KV.put{kvs:List (κ × V)}{vs:List (κ × Value)}(r:KV kvs vs)(k:κ)(ry:RelV y u):KV (putK kvs k y) (stored vs k u):=by
 unfold putK stored;rw[r.any k];by_cases e:(vs.any fun I=>decide (I.1=k))=true
 ·rw[if_pos e,if_pos e]; exact r.Ei k ry
 ·rw[if_neg e,if_neg e]; exact Paired.snoc r ⟨rfl,ry⟩
theorem KV.keys{kvs:List (κ × V)}{vs:List (κ × Value)}(r:KV kvs vs):kvs.map (·.1)=vs.map (·.1):=by
 unfold KV at r
 induction r with
 | nil=>rfl
 | cons h t I=>rw[iU,iU,I,h.1]
theorem KV.length{kvs:List (κ × V)}{vs:List (κ × Value)}(r:KV kvs vs):kvs.length=vs.length:=Paired.length r
end
theorem om{k:Key}(r:RelV (kV k) u):(bt P w).is k u=true:=by
 cases k with
 | inl i=>obtain⟨t,e⟩:=(show ∃ t,u=Value.int i t from r); subst e; exact sN P w i t
 | inr x=>obtain⟨t,e⟩:=(show ∃ t,u=Value.str x t from r); subst e; exact fC P w x t
theorem nN{P:Program}{w:World}:∀ {ks:List Key} {us:List Value},Vals (ks.map kV) us->ItemsAre (bt P w) ks us
 | [],_,r=>by rw[List.map_nil]at r; cases r; exact .nil
 | k::ks,_,r=>by
  rw[iU]at r;cases r with
  | cons h t=>exact .cons (om h) (nN t)
abbrev KT(H:Hp):List (List Key × V)->List (List Key × Addr × Value)->Prop:=Paired fun p q=>p.1=q.1/\H q.2.1=some (.tup (p.1.map kV))/\RelV p.2 q.2.2
theorem KT.val{kvs:List (List Key × V)}(r:KT H kvs xs)(k:List Key):kP (dh kvs k) ((atKey xs k).map (·.2)):=by
 induction r with
 | nil=>exact True.intro
 | @cons p q ps J h t O=>
  obtain⟨h1,_,h2⟩:=h;by_cases e:p.1=k
  ·have I:q.1=k:=h1.symm.trans e;have b:atKey (q::J) k=some q.2:=by simp[atKey,Ck,I]
   rw[cF e,b]; exact h2
  ·have I:¬ q.1=k:=fun z=>e (h1.trans z)
   have b:atKey (q::J) k=atKey J k:=by simp[atKey,Ck,I]
   rw[cE e,b]; exact O
theorem KT.Ei{kvs:List (List Key × V)}(r:KT H kvs xs)(k:List Key)(ry:RelV y u) :
  KT H (kvs.map fun kv=>if kv.1=k then (kv.1,y) else kv) (xs.map (putAt k u)):=by
 induction r with
 | nil=>exact .nil
 | @cons p q ps O h t J=>
  rw[iU,iU];refine .cons ?_ J;obtain⟨h1,h2,I⟩:=h;unfold putAt;by_cases e:p.1=k
  ·rw[if_pos e,if_pos (h1.symm.trans e)]; exact⟨h1,h2,ry⟩
  ·rw[if_neg e,if_neg (fun z=>e (h1.trans z))]; exact⟨h1,h2,I⟩
theorem KT.put{kvs:List (List Key × V)}(r:KT H kvs xs)(k:List Key){b:Addr}(hb:H b=some (.tup (k.map kV)))(ry:RelV y u) :
  KT H (putK kvs k y) (storedH xs k b u):=by
 have e:(kvs.any fun I=>decide (I.1=k))=(atKey xs k).isSome:=by
  rw[fg,(r.val k).ir,Option.isSome_map]
 unfold putK storedH;rw[e];by_cases q:(atKey xs k).isSome=true
 ·rw[if_pos q,if_pos q]; exact r.Ei k ry
 ·rw[if_neg q,if_neg q]; exact Paired.snoc r ⟨rfl,hb,ry⟩
theorem KT.keeps{kvs:List (List Key × V)}(r:KT H kvs xs)(ht:∀ b ys,H b=some (.tup ys)->H' b=some (.tup ys)):KT H' kvs xs:=
 Paired.kN r fun _ _ z=>⟨z.1,ht _ _ z.2.1,z.2.2⟩
section
variable {h:Heap}
theorem AR{u:HO}(ok:gR P w H h)(e:Rd H a u):bW P w H h a u:=e.ok ok
theorem wK(ok:gR P w H h)(e:Rd H a (.dK kvs)):kvs.length<=sizeLine/\(a == sysModules)=false/\∃ vs,KV kvs vs/\h.DictOf (bt P w) a vs:=
 show bW P w H h a (.dK kvs) from AR ok e
theorem sW(ok:gR P w H h)(e:H a=some (.dK kvs)):kvs.length<=sizeLine/\(a == sysModules)=false/\∃ vs,KV kvs vs/\h.DictOf (bt P w) a vs:=wK ok (.inl e)
theorem pC{ks:List Key}(ok:gR P w H h)(e:H a=some (.tup (ks.map kV))):(tupleKind (bt P w)).is h ks a:=by
 obtain⟨_,its,r,o,h1,h2,n,I⟩:=(show bW P w H h a (.tup (ks.map kV)) from ok a _ e)
 exact⟨o,its.toArray,n,h1,h2,I,by simpa using nN r⟩
theorem wL{kvs:List (List Key × V)}(ok:gR P w H h)(e:Rd H a (.dT kvs)):kvs.length<=sizeLine/\(a == sysModules)=false/\
  ∃ xs,KT H kvs xs/\h.DictOfH (tupleKind (bt P w)) a xs:=by
 obtain⟨z,y,xs,r,o,es,ep,h1,h2,O,U,Z⟩:=(show bW P w H h a (.dT kvs) from AR ok e)
 refine⟨z,y,xs,r,o,es,ep,h1,h2,O,U,fun x I=>?_,Z⟩;have all:∀ {l:List (List Key × V)} {m:List (List Key × Addr × Value)},KT H l m->∀ x∈m,(tupleKind (bt P w)).is h x.1 x.2.1:=by
  intro l m q
  induction q with
  | nil=>intro x I; exact nomatch I
  | @cons p q ps c J t b=>
   intro x I;rcases d0.mp I with e | I
   ·subst e;exact pC ok (by rw[<-J.1]; exact J.2.1)
   ·exact b x I
 exact all r x I
theorem Hj{kvs:List (List Key × V)}(ok:gR P w H h)(e:H a=some (.dT kvs)):kvs.length<=sizeLine/\(a == sysModules)=false/\
  ∃ xs,KT H kvs xs/\h.DictOfH (tupleKind (bt P w)) a xs:=wL ok (.inl e)
end
def nA(H:Hp)(a:Addr)(y:V)(r:Option V):Prop:=
 (∃ kvs k,Rd H a (.dK kvs)/\y=kV k/\r=dh kvs k)\/∃ kvs k b,Rd H a (.dT kvs)/\y=.ref b/\H b=some (.tup (k.map kV))/\r=dh kvs k
def zF(H:Hp)(a:Addr)(y v:V)(H':Hp):Prop:=
 (∃ kvs k,H a=some (.dK kvs)/\y=kV k/\kvs.length < sizeLine/\H'=upd H a (.dK (putK kvs k v)))\/
 ∃ kvs k b,H a=some (.dT kvs)/\y=.ref b/\H b=some (.tup (k.map kV))/\kvs.length < sizeLine/\H'=upd H a (.dT (putK kvs k v))
theorem nA.k{k:Key}(e:H a=some (.dK kvs)):nA H a (kV k) (dh kvs k):=.inl ⟨kvs,k,.inl e,rfl,rfl⟩
theorem zF.k{k:Key}(e:H a=some (.dK kvs))(hl:kvs.length < sizeLine):zF H a (kV k) v (upd H a (.dK (putK kvs k v))):=.inl ⟨kvs,k,e,rfl,hl,rfl⟩
section
variable {o:Option V}
theorem Inv.big(I:Inv X pins σ H s):sysModules < s.heap.objs.size:=by
 have h:mainGlobals < s.heap.objs.size:=(I.mod.glob.keeps I.bk).lt;exact Nat.lt_trans (by decide) h
theorem xK(hu:A.units + 1 < cLine)(I:Inv X pins σ H s)(g:nA H a y (some v))(ry:RelV y u)(h:∀ w' s',Inv X pins σ H s'->RelV v w'->Q w' s') :
  wpAny (model X.prog X.w) A (getItem (.ref a) u) Q E s:=by
 rcases g with ⟨kvs,k,e,U,l⟩ | ⟨kvs,k,b,e,U,c,l⟩
 ·subst U;obtain⟨z,f,vs,J,dd⟩:=wK I.hok e;obtain⟨w',V,O⟩:=kP.some_of (v:=v) (o:=valueAt vs k) (by rw[l]; exact J.val k);exact wpAny_getItem_of (om ry) dd.mapOf V (h w' _ (I.tok _) O)
 ·subst U;cases (show u=Value.ref b from ry);obtain⟨z,f,xs,J,dd⟩:=wL I.hok e;obtain⟨w',V,O⟩:=kP.some_of (v:=v) (o:=(atKey xs k).map (·.2)) (by rw[l]; exact J.val k);obtain⟨p,d,Z⟩:=Option.map_eq_some_iff.mp V;refine wpAny_getItem_heap (tupleKind_room_in1 hu) (pC I.hok c) dd d ?_;rw[Z];exact h w' _ (I.tok _) O
theorem C5(hu:A.units + 1 < cLine)(I:Inv X pins σ H s)(g:nA H a y o)(ry:RelV y u)(h:∀ s',Inv X pins σ H s'->Q (.bool (!o.isSome)) s') :
  wpAny (model X.prog X.w) A (compareOp .NotIn u (.ref a)) Q E s:=by
 rcases g with ⟨kvs,k,e,U,l⟩ | ⟨kvs,k,b,e,U,V,l⟩
 ·subst U;obtain⟨z,O,vs,J,dd⟩:=wK I.hok e;refine wpAny_notIn_of (om ry) O dd.mapOf ?_;rw[<-(J.val k).ir,<-l];exact h _ (I.tok _)
 ·subst U;cases (show u=Value.ref b from ry);obtain⟨z,O,xs,J,dd⟩:=wL I.hok e;refine wpAny_notIn_heap (tupleKind_room_in1 hu) (pC I.hok V) O dd ?_;have q:=(J.val k).ir;rw[Option.isSome_map]at q;rw[<-q,<-l];exact h _ (I.tok _)
theorem pI{t':Nat}{ob:HO}(I:Inv X pins σ H s)(mu:Gq (H a))(hs:Heap.SameBut a s.heap h')(he:∃ q,h'.get? a=some q)(new:bW X.prog X.w (upd H a ob) h' a ob) :
  Inv X pins σ (upd H a ob) { s with heap:=h',toks:=t' }:=
 I.write (x:=a) (e:=a) mu (.inl rfl) (fun b q J z=>(hs.2 b J).trans z) he new
theorem zO{vs:List (Key × Value)}(z:kvs.length<=sizeLine)(hd:(a == sysModules)=false)(rel:KV kvs vs)(dd:h'.DictOf (bt P w) a vs) :
  bW P w H' h' a (.dK kvs):=⟨z,hd,vs,rel,dd⟩
theorem x4{Q:Unit->Shared->Prop}(hu:A.units + 1 < cLine)(I:Inv X pins σ H s)(g:zF H a y v H')(ry:RelV y u)(rv:RelV v r)(h:∀ s',Inv X pins σ H' s'->Q () s') :
  wpAny (model X.prog X.w) A (setItem (.ref a) u r) Q E s:=by
 rcases g with ⟨kvs,k,e,d,l,V⟩ | ⟨kvs,k,b,e,d,j,l,V⟩
 ·subst d V;obtain⟨z,f,vs,J,dd⟩:=sW I.hok e;have Z:vs.length<=sizeLine:=by rw[<-J.length]; exact z
  have i:(putK kvs k v).length<=sizeLine:=by have:=fE kvs k v; omega
  refine wpAny_setItem_pairs (hsz:=Z) (om ry) dd fun h' O hs=>h _ ?_
  have t:∃ q,h'.get? a=some q:=let ⟨q,_,_,U,_⟩:=O; ⟨q,U⟩
  exact pI I (by rw[e]; exact True.intro) hs t (zO i f (J.put k rv) O)
 ·subst d V;cases (show u=Value.ref b from ry);obtain⟨z,f,xs,J,dd⟩:=Hj I.hok e;have Z:xs.length<=sizeLine:=by rw[<-Paired.length J]; exact z
  have i:(putK kvs k v).length<=sizeLine:=by have:=fE kvs k v; omega
  refine wpAny_setItem_heap (hsz:=Z) (tupleKind_room_in1 hu) (pC I.hok j) dd fun h' O hs=>h _ ?_
  obtain⟨q,es,ep,U,h2,n,o,_,p⟩:=O;refine pI I (by rw[e]; exact True.intro) hs ⟨q,U⟩ ⟨i,f,_,(J.put k j rv).keeps fun c ys m=>?_,q,es,ep,U,h2,n,o,p⟩;rw[aw (fQ m e (fun z=>nomatch z))];exact m
end
section
variable {k:Key}
end
def G5(i:Expr):Prop:=∀ ov iv,subscripted i false ov iv=operate [ov,iv] (getItem ov iv)
theorem BJ{slice:Expr}{T id:String}
  (hl:typeLookup (.type T) "__getitem__" = pure (some (.builtin id))) (hs:G5 slice)
  (h:wpAny (model prog w) A (eval value env) (fun o s₁=>wpAny (model prog w) A (eval slice env) (fun i s₂=>s₂.TypeIs o T/\wpAny (model prog w) A (getItem o i) Q E s₂) E s₁) E s) :
  wpAny (model prog w) A (eval (.Subscript value slice pos) env) Q E s:=by
 refine Subscript_ (tU h (fun o s₁ Z=>tU Z (fun i s₂ J=>?_) fun _ _ x=>x) fun _ _ x=>x);obtain⟨U,J⟩:=J;unfold subscriptTail;refine ar ?_;rw[getitemInPython_of_ne U.not_modules];refine ar (Ax U hl ?_);have I:wpAny (model prog w) A (subscripted slice false o i) (fun r O=>wpAny (model prog w) A (letTemporaryGo value o r >>= fun _=>pure r) Q E O) E s₂:=by
  rw[hs o i];exact wpAny_operating (tU J (fun r O V=>ar (wpAny_letTemporaryGo (aO V))) fun _ _ x=>x)
 first
  | exact aO (ar I)
  | exact ar (aO (ar I))
  | exact ar I
theorem sQ{o:Option V}(I:Inv X pins σ H s)(g:nA H a y o):s.TypeIs (.ref a) "dict":=by
 rcases g with ⟨kvs,k,e,_,_⟩ | ⟨kvs,k,b,e,_,_,_⟩
 ·obtain⟨_,_,vs,_,dd⟩:=wK I.hok e;exact dd.typeIs
 ·obtain⟨_,_,xs,_,dd⟩:=wL I.hok e;exact dd.typeIs
def Ga(td ty:TE):TE:=fun σ H Q=>td σ H fun x H1=>ty σ H1 fun y H2=>aK Q (fun a Q=>aK Q (fun v Q=>x=.ref a/\nA H2 a y (some v)/\Q v H2))
def B5(ty td:TE):TE:=fun σ H Q=>ty σ H fun y H1=>td σ H1 fun x H2=>aK Q (fun a Q=>aK Q (fun o Q=>x=.ref a/\nA H2 a y o/\Q (.bl (!o.isSome)) H2))
def Hi(td ty tv:TE):TS:=fun D σ H=>tv σ H fun v H1=>td σ H1 fun x H2=>ty σ H2 fun y H3=>aK D (fun a D=>aK D (fun H4 D=>x=.ref a/\zF H3 a y v H4/\D.nx σ H4))
section
variable {i:Expr}{ty:TE}
theorem v9(hu:X.A.units + 1 < cLine)(ho:PE X o td)(hi:PE X i ty)(hs:G5 i:=by exact fun _ _=>rfl):PE X (.Subscript o i pos) (Ga td ty):=by
 intro pins s σ H Q I h;refine BJ PySem.F.slot_dict_getitem.lookup hs (cw (ho pins s σ H _ I h) fun u s1 J=>?_);obtain⟨x,H1,b,d,V⟩:=J;refine cw (hi pins s1 σ H1 _ b V) fun k s2 J=>?_
 obtain⟨y,H2,U,e,a,v,ex,g,Z⟩:=J;subst ex;obtain rfl:u=Value.ref a:=d;exact⟨sQ U g,xK hu U g e fun f j c O=>⟨v,H2,c,O,Z⟩⟩
theorem ym(hu:X.A.units + 1 < cLine)(hi:PE X i ty)(ho:PE X o td):PC X .NotIn i o (B5 ty td):=by
 intro pins s σ H Q I h;refine cw (hi pins s σ H _ I h) fun f s1 J=>?_
 obtain⟨y,H1,Z,d,U⟩:=J;refine cw (ho pins s1 σ H1 _ Z U) fun u s2 J=>?_
 obtain⟨x,H2,O,c,a,ov,ex,g,V⟩:=J;subst ex;obtain rfl:u=Value.ref a:=c;exact C5 hu O g d fun e b=>⟨.bl (!ov.isSome),H2,b,rfl,V⟩
theorem BP(hu:X.A.units + 1 < cLine)(ho:PE X o td)(hi:PE X i ty)(hv:PE X value tv)(hs:swapsWith value (some (.Subscript o i pos')) pos.line X.env=pure false) :
  PS X (.Assign [.Subscript o i pos'] value pos) (Hi td ty tv):=by
 intro pins s σ H D I h;refine wpAny_Assign_Subscript (cw (hv pins s σ H _ I h) fun r s1 J=>?_) hs;obtain⟨v,H1,Z,j,U⟩:=J;refine cw (ho pins s1 σ H1 _ Z U) fun u s2 J=>?_
 obtain⟨x,H2,O,d,V⟩:=J;refine cw (hi pins s2 σ H2 _ O V) fun n m J=>?_
 obtain⟨y,p,c,k,a,b,ex,g,e⟩:=J;subst ex;obtain rfl:u=Value.ref a:=d;exact x4 hu c g k j fun l f=>⟨σ,b,f,e⟩
end
theorem zC(h:Heap)(hb:sysModules < h.objs.size):bW P w H (h.push { cls:=.type "dict",data:=.dict #[] }) h.objs.size (.dK []):=
 ⟨dI _,BE.mpr (Ne.symm (cH hb)),[],.nil,Heap.DictOf.new h⟩
def uU:List (TE × TE)->St->Hp->(List (V × V)->Hp->Prop)->Prop
 | [],_,H,Q=>Q [] H
 | (tk,tv)::r,σ,H,Q=>tk σ H fun x H1=>tv σ H1 fun y H2=>uU r σ H2 fun ps H3=>Q ((x,y)::ps) H3
abbrev VV:List (V × V)->List (Value × Value)->Prop:=Paired fun p q=>RelV p.1 q.1/\RelV p.2 q.2
def Hw(X:Cx)(pos:Pos)(keys:List (Option Expr))(values:List Expr)(trs:List (TE × TE)):Prop:=
 ∀ (pins:List (Addr × Obj)) (s:Shared) (σ:St) (H:Hp) (Q:List (V × V)->Hp->Prop),Inv X pins σ H s->uU trs σ H Q->
  wpAny (model X.prog X.w) X.A (evalPairs (pairTrees keys values X.env pos)) (fun vs s'=>∃ ps H',Inv X pins σ H' s'/\VV ps vs/\Q ps H') X.xe s
theorem Dv:Hw X pos [] [] []:=fun pins s σ H Q I h=>pairTrees_nil_walk ⟨[],H,I,.nil,h⟩
theorem AQ{X:Cx}{pos:Pos}{k v:Expr}{ks:List (Option Expr)}{vs:List Expr}{tk tv:TE}{trs:List (TE × TE)}(hk:PE X k tk)(hv:PE X v tv)(hr:Hw X pos ks vs trs) :
  Hw X pos (some k::ks) (v::vs) ((tk,tv)::trs):=fun pins s σ H Q I h=>
 pairTrees_cons_walk (cw (hk pins s σ H _ I h) fun u s1 ⟨x,H1,a,c,V⟩=>cw (hv pins s1 σ H1 _ a V) fun j s2 ⟨y,H2,U,f,Z⟩=>
  cw (hr pins s2 σ H2 _ U Z) fun i g O=>by obtain⟨ps,e,b,J,d⟩:=O; exact⟨(x,y)::ps,e,b,.cons ⟨c,f⟩ J,d⟩)
def eJ(kvs more:List (Key × V)):List (Key × V):=more.foldl (fun acc kv=>putK acc kv.1 kv.2) kvs
theorem KV.merge:∀ {more:List (Key × V)} {rs:List (Key × Value)} {kvs:List (Key × V)} {vs:List (Key × Value)},KV more rs->KV kvs vs->KV (eJ kvs more) (merged vs rs):=by
 intro more rs kvs vs r;unfold KV at r
 induction r generalizing kvs vs with
 | nil=>intro q; exact q
 | @cons p q ps O h t J=>
  intro I;have e:KV (putK kvs p.1 p.2) (stored vs q.1 q.2):=by
   have:=I.put p.1 h.2;rw[<-h.1]; exact this
  exact J e
theorem fK:∀ (more kvs:List (Key × V)),(eJ kvs more).length<=kvs.length + more.length
 | [],kvs=>by show kvs.length<=kvs.length + 0; omega
 | p::r,kvs=>by
  have h1:=fK r (putK kvs p.1 p.2);have h2:=fE kvs p.1 p.2;show (eJ (putK kvs p.1 p.2) r).length<=_;rw[jU]; omega
theorem lE{P:Program}{w:World}:∀ {kvs:List (Key × V)} {ws:List (Value × Value)},VV (kvs.map fun kv=>(kV kv.1,kv.2)) ws->∃ rs,Carries (bt P w) ws rs/\KV kvs rs
 | [],_,r=>by rw[List.map_nil]at r; cases r; exact⟨[],True.intro,.nil⟩
 | p::kvs,_,r=>by
  rw[iU]at r;cases r with
  | @cons a b as bs h t=>
   obtain⟨rs,c,q⟩:=lE (P:=P) (w:=w) t;obtain⟨J,I⟩:=b;exact⟨(p.1,I)::rs,⟨om h.1,rfl,c⟩,.cons ⟨rfl,h.2⟩ q⟩
def Hk(trs:List (TE × TE)):TE:=fun σ H Q=>∀ p,H p=none->uU trs σ (upd H p (.dK [])) fun ps H2=>H2 p=some (.dK [])/\∃ kvs:List (Key × V),ps=kvs.map (fun kv=>(kV kv.1,kv.2))/\kvs.length<=15/\Q (.ref p) (upd H2 p (.dK (eJ [] kvs)))
theorem CH{X:Cx}{pos:Pos}{keys:List (Option Expr)}{values:List Expr}{trs:List (TE × TE)}(h:Hw X pos keys values trs)(hall:keys.all (·.isSome)=true)(hl:keys.length=values.length)(h0:keys≠[])
  (h15:keys.length<=15):PE X (.Dict keys values pos) (Hk trs):=by
 intro pins s σ H Q I q;have d:=I.hok.fresh (bH s.heap.objs.size);have i:=I.laid (a:=s.heap.objs.size) (o:=.dK []) (h':=s.heap.push { cls:=.type "dict",data:=.dict #[] }) (t':=s.toks) (fun _ _ q=>cB _ q) (bH _) (zC s.heap I.big);refine wpAny_Dict_walk (knd:=bt X.prog X.w) hall hl h0 h15 (cw (h pins _ σ _ _ i (q _ d)) fun n s2 J=>?_);obtain⟨ps,H2,V,U,e,kvs,ep,m,b⟩:=J;subst ep;obtain⟨rs,c,f⟩:=lE (P:=X.prog) (w:=X.w) U;obtain⟨z,l,g,j,dd⟩:=sW V.hok e;cases j;refine⟨rs,c,dd,fun h' O hs=>⟨.ref s.heap.objs.size,_,?_,rfl,b⟩⟩;have Z:(eJ [] kvs).length<=sizeLine:=by
  have h1:=fK kvs [];rw[xq]at h1;rw[mP]; omega
 have k:∃ q,h'.get? s.heap.objs.size=some q:=let ⟨q,_,_,hq,_⟩:=O; ⟨q,hq⟩
 exact pI V (by rw[e]; exact True.intro) hs k (zO Z l (f.merge .nil) O)
structure M1 (X:Cx) (o:Expr) (m:Str) (apos:Pos) (e:Expr) (cpos:Pos):Prop where
 base:attributeBase o m X.env (eval o X.env)=eval o X.env
 few:((backTo cpos (starEach [e] X.env)).all (fun x=>!x.1) && (backToKw cpos (keywordEach [] X.env)).all (fun x=>x.1.isSome)
  && decide (([e]:List Expr).length + ([]:List Keyword).length + (if ([]:List Keyword).isEmpty then 0 else 1) < 30))=true
 line:(apos.endLine == cpos.line)=true
 trees:backTo cpos (starEach [e] X.env)=[(false,eval e X.env)]
structure M2 (X:Cx) (o:Expr) (m:Str) (apos:Pos) (e f:Expr) (cpos:Pos):Prop where
 base:attributeBase o m X.env (eval o X.env)=eval o X.env
 few:((backTo cpos (starEach [e,f] X.env)).all (fun x=>!x.1) && (backToKw cpos (keywordEach [] X.env)).all (fun x=>x.1.isSome)
  && decide (([e,f]:List Expr).length + ([]:List Keyword).length + (if ([]:List Keyword).isEmpty then 0 else 1) < 30))=true
 line:(apos.endLine == cpos.line)=true
 trees:backTo cpos (starEach [e,f] X.env)=[(false,eval e X.env),(false,eval f X.env)]
section
variable {d:V}{o:Option V}
end
section
variable {f:Expr}{ty tx:TE}
end
section
variable {κ:Type} [DecidableEq κ]
theorem vU:∀ {l:List κ} {k:κ},l.Nodup->¬ k∈l->(l++[k]).Nodup
 | [],k,_,_=>by simp
 | a::r,k,h,hk=>by
  obtain⟨h1,h2⟩:=vT.mp h;show (a::(r++[k])).Nodup;refine vT.mpr ⟨fun m=>?_,vU h2 fun m=>hk (d0.mpr (Or.inr m))⟩;rcases fY.mp m with q | q
  ·exact h1 q
  ·exact hk (d0.mpr (Or.inl (fS.mp q).symm))
end
theorem oJ{p:Addr}(h:H p=none)(o:HO):aB H (upd H p o):=fun b u q=>by rw[aw (aM q h)]; exact q
inductive Gp(K:aL)(x y:V)(H:Hp)(Q:VK):Prop|m(a b xs ys:_)(_:x=.ref a)(_:y=.ref b)(_:bu K H a xs)(_:bu K H b ys)(_:xs.length + ys.length<=sizeLine)(_:∀ p H',aB H H'->bu K H' p (xs++ys)->Q (.ref p) H')
theorem CS:iL X (binaryOp .Add) (Gp X.K):=by
 intro pins s σ H x y v u Q I g k h;obtain⟨a,b,xs,ys,rfl,rfl,c,d,m,q⟩:=h;by_cases j:xs=[]
 ·subst j;cases g;cases k;obtain⟨its,o,p1,_⟩:=I.tuple c;obtain⟨Z,z,p2,_⟩:=I.tuple d;have n:its=[]:=o.lC.mpr rfl;subst n;obtain⟨⟨A,r,C,l1⟩,f,O,n1,V⟩:=id p1;obtain⟨⟨t,l,B,l2⟩,i,U,n2,J⟩:=id p2;simp only at O V U J; subst O V U J;refine concat_meets ⟨_,f,rfl⟩ ⟨_,i,rfl⟩ noFill_tuple_add seq_tuple_add PySem.F.slot_tuple_add PySem.F.entry_tuple_add (PySem.F.args_tuple_add_2 _ _) (tuple_addW0 a b (List.toArray []) Z.toArray n1 n2 r l l1 l2 rfl) ⟨f,i,?_⟩;exact⟨.ref b,H,I,rfl,q b H (aB.refl H) d⟩
 ·refine pO pins s σ H _ _ v u Q I g k ⟨a,b,xs,ys,rfl,rfl,c,d,j,m,fun e=>?_,fun e p np=>?_⟩
  ·subst e; exact q a H (aB.refl H) (by rw[jL]; exact c)
  ·exact q p _ (oJ np _) (bu.of ae)
inductive Ik(K:aL)(x:V)(lo hi:Option Int)(H:Hp)(Q:VK):Prop|m(a xs:_)(_:x=.ref a)(_:bu K H a xs)(_:∀ p H',aB H H'->bu K H' p (dw xs lo hi)->Q (.ref p) H')
theorem xp{t sl:Addr}{vl vu:Value}{lo hi:Option Int}(ht:IsTup s.heap t items)(hs:s.heap.IsSliceOf sl vl vu .none)
  (pl:IsPart vl lo) (pu:IsPart vu hi) (hw:HT.dm items.size 0 lo=0/\HT.dm items.size items.size hi=items.size) (h:Q (.ref t) s):wpAny (model prog w) A (getItem (.ref t) (.ref sl)) Q E s:=by
 obtain⟨os,I,J,U⟩:=id hs;have O:s.TypeIs (.ref sl) "slice":=⟨os,I,J⟩
 unfold getItem
 try with_reducible refine iA ?_
 first | refine ar (aO ?_) | skip
 refine ar (wpAny_sequenceKey ht.typeIs (by decide) ?_); refine ar (wJ (name:=Str.ofString "__getitem__") ht.typeIs FX (lD FX ht.typeIs entry_tuple_getitem ?_ (args_tuple_getitem _ _)));show wpAny _ _ (Builtin.Tuple.tupleItemsOf (.ref t) >>= _) _ _ s; refine ar (tupleItemsOf_ ht ?_); refine ar (vi O ?_);rw[if_pos (by decide)];refine ar (HT.fU hs pl pu ?_);show wpAny _ _ (if (((HT.dm items.size 0 lo:Nat):Int) == 0 && (1:Int) == 1 && (HT.dm items.size items.size hi - HT.dm items.size 0 lo) == items.size)=true then _ else _) _ _ s;rw[if_pos (by rw[hw.1,hw.2]; simp)];unfold Builtin.Tuple.tupleIsExact;refine ar (ar (vi ht.typeIs (aO ?_)));rw[if_pos (by decide)];exact ar (sT (aO ⟨_,rfl,aO h⟩))
theorem jy:Hx X (Ik X.K):=by
 intro pins s σ H x v vl vu lo hi sl Q I V hs pl b h;obtain⟨a,xs,rfl,U,q⟩:=h;by_cases O:HT.dm xs.length 0 lo=0/\HT.dm xs.length xs.length hi=xs.length
 ·cases V;obtain⟨its,r,Z,c⟩:=I.tuple U;have J:its.toArray.size=xs.length:=by rw[ff]; exact r.length.symm
  refine⟨"tuple",_,FX.lookup,Z.typeIs,xp Z hs pl b (by rw[J]; exact O) ⟨.ref a,H,I,rfl,q a H (aB.refl H) ?_⟩⟩;unfold dw;rw[O.1,O.2,List.drop_zero,Nat.sub_zero,mw];exact U
 ·exact uR pins s σ H _ v vl vu lo hi sl Q I V hs pl b ⟨a,xs,rfl,U,O,fun p np=>q p _ (oJ np _) (bu.of ae)⟩
inductive T where
 | d (d:D) | lst (ts:List T) | tup (ts:List T)
mutual
def IsT(K:aL)(H:Hp):T->V->Prop
 | .d d,v=>Is K H d v
 | .lst ts,v=>∃ a xs,v=.ref a/\bp K H a xs/\jE K H ts xs
 | .tup ts,v=>∃ a xs,v=.ref a/\bu K H a xs/\jE K H ts xs
def jE(K:aL)(H:Hp):List T->List V->Prop
 | [],vs=>vs=[]
 | t::ts,vs=>∃ v r,vs=v::r/\IsT K H t v/\jE K H ts r
end
section
variable {K:aL}
theorem zB{d:D}(h:Is K H d v):IsT K H (.d d) v:=by unfold IsT; exact h
theorem CM{xs:List V}(q:bp K H a xs)(l:jE K H ts xs):IsT K H (.lst ts) (.ref a):=by unfold IsT; exact⟨a,xs,rfl,q,l⟩
theorem Ci{xs:List V}(q:bu K H a xs)(l:jE K H ts xs):IsT K H (.tup ts) (.ref a):=by unfold IsT; exact⟨a,xs,rfl,q,l⟩
theorem sV:jE K H [] []:=by unfold jE; rfl
theorem g9{t:T}{vs:List V}(h:IsT K H t v)(l:jE K H ts vs):jE K H (t::ts) (v::vs):=by unfold jE; exact⟨v,vs,rfl,h,l⟩
theorem wx:∀ {ds:List D} {vs:List V},IsL K H ds vs->jE K H (ds.map T.d) vs
 | [],vs,h=>by rw[h.nil_inv]; exact sV
 | d::ds,vs,h=>by
  obtain⟨v,r,rfl,a,b⟩:=h.cons_inv;exact g9 (zB a) (wx b)
end
section
variable {m:Str}{k:Nat}
end
section
variable {K:aL}
theorem nF(h:X.K=K):d8 X (.builtin "len") (fun xs H Q=>∃ p ys,xs=[.ref p]/\(bp K H p ys\/bu K H p ys)/\Q (.int ys.length) H):=h ▸ bf
end
section
variable {σ:List (Option V)}
theorem v5{N1 N2:List Str}(I:Inv { X with N:=N1 } pins σ H s)(hl:N2.length=N1.length)(hs:∀ k,k≠j->N2[k]?=N1[k]?)(hj:σ[j]?=some none):Inv { X with N:=N2 } pins σ H s:=by
 obtain⟨m,V,U⟩:=I.loc
 exact⟨⟨I.ok.mod,I.ok.kind,I.ok.glob,I.ok.blt,I.ok.above,I.ok.inj,I.ok.has,I.ok.cab,I.ok.hd,I.ok.frames,I.ok.stk,I.ok.exf,I.ok.bs,I.ok.bsz,I.ok.noex,I.ok.exfs,I.ok.kL,I.ok.frf⟩,I.os,I.bare,I.base,
  ⟨m,V,fun i x v O J Z=>U i x v ((hs i (fun z=>by rw[z,hj]at J; cases J)) ▸ O) J Z⟩,I.cell,I.free,I.freeC,I.pin,I.hok,by rw[I.len]; exact hl.symm⟩
def Ip(j:Nat)(t:TE):TE:=fun σ H Q=>σ[j]?=some none/\t σ H Q
theorem D8{t:TE}{y:Str}(he:PE { X with N:=X.N.set j y } e t):PE X e (Ip j t):=by
 intro pins s σ H Q I h;obtain⟨O,h⟩:=h;refine tU (he pins s σ H Q (v5 (N1:=X.N) (j:=j) I List.length_set (fun k J=>List.getElem?_set_ne (Ne.symm J)) O) h) (fun u s' U=>?_) (fun _ _ z=>z);obtain⟨v,H',V,r,q⟩:=U;exact⟨v,H',v5 (N1:=X.N.set j y) (N2:=X.N) (j:=j) V List.length_set.symm (fun k J=>(List.getElem?_set_ne (Ne.symm J)).symm) O,r,q⟩
end
theorem lQ{it t:Addr}{items:Array Value}(hne:t≠it):∀ (n i:Nat) (s:Shared) (Q:List Value->Shared->Prop),s.heap.IsListIter it t i->s.heap.IsList t items->i + n<=items.size->
  (∀ h',Heap.IsListIter h' it t (i + n)->Heap.SameBut it s.heap h'->Q ((items.toList.drop i).take n) { s with heap:=h' })->wpAny (model prog w) A (draw (.ref it) n) Q E s
 | 0,i,s,Q,hit,_,_,hQ=>by
  show wpAny _ _ (pure []) Q E s;exact aO (by simpa using hQ s.heap hit (Heap.SameBut.refl ..))
 | n + 1,i,s,Q,hit,ht,hle,hQ=>by
  have hlt:i < items.size:=by omega
  show wpAny _ _ (pyNext (.ref it) >>= _) Q E s;refine ar (wpAny_pyNext_list_item hit ht (x:=items[i]) (by simp[hlt]) fun a O I=>?_);refine ar (iA (lQ hne n (i + 1) _ _ O (ht.extBut I.extBut hne) (by omega) fun Z J U=>aO ?_));have V:items.toList.drop i=items[i]::items.toList.drop (i + 1):=by simp[List.drop_eq_getElem_cons,hlt]
  have:=hQ Z (by rw[show i + (n + 1)=i + 1 + n by omega]; exact J) (I.trans U);rw[V,List.take_succ_cons]at this;exact this
theorem jC{t:Addr}{Q:List Value->Shared->Prop}(hh:A.handled=none)(ht:s.heap.IsList t items)
  (hQ:∀ h',Heap.ExtBut s.heap.objs.size s.heap h'->Q items.toList { s with heap:=h' }):wpAny (model prog w) A (unpackItems (.ref t) items.size none) Q E s:=by
 have U:t≠s.heap.objs.size:=by obtain⟨o,f,_⟩:=ht; exact cH (cG f)
 unfold unpackItems;refine ar ?_
 ·unfold notIterableAtAll;refine ar (Ax ht.typeIs PySem.slot_list_iter.lookup ?_);refine aO ?_;simp only[gD,fO];refine ar (iA (wpAny_pyIter_list ht ?_));refine ar (iA (lQ U items.size 0 _ _ ⟨_,fB _ rfl,rfl,rfl⟩ (ht.push _) (by omega) fun d J I=>?_));have O:List.take items.size (List.drop 0 items.toList)=items.toList:=by
   rw[List.drop_zero]; exact yE (by simp)
  rw[O];rw[if_neg (by simp)];have Z:Heap.IsList d t items:=(ht.push _).extBut I.extBut U;refine ar (iA (wpAny_pyNext_list_end hh J Z (by simp) fun c V=>?_));simp only[Option.isSome_none,gD,fO];refine aO (hQ c fun b o a e=>V b o a (I.extBut b o a (cB _ e)))
theorem iV{elts:List Expr}{x1}{t:Addr}{Q:Unit->Shared->Prop}(hh:A.handled=none)(ht:s.heap.IsList t items)
  (hn:(assignEach elts env).length=items.size) (hstar:(assignEach elts env).findIdx? (·.1)=none)
  (h:∀ h',Heap.ExtBut s.heap.objs.size s.heap h'->wpAny (model prog w) A (assignInOrder ((assignEach elts env).map (·.2)) items.toList) Q E { s with heap:=h' }) :
  wpAny (model prog w) A (assign (.Tuple elts x1 pos) env (.ref t)) Q E s:=by
 rw[assign_Tuple];refine ar (wpAny_standAt ?_);unfold unpack;rw[hn,hstar];exact ar (iA (jC hh ht h))
inductive Ir(K:aL)(n:Nat)(t:BF)(v:V)(σ:St)(H:Hp)(Q:St->Hp->Prop):Prop|m(a xs:_)(_:v=.ref a)(_:bp K H a xs)(_:xs.length=n)(_:t xs σ H Q)
theorem Ej{k:Nat}{t:BF}{n:Nat}(hc:X.calm=true)(h:FT X es t)
  (hn:(assignEach es X.env).length=n:=by rfl) (hst:(assignEach es X.env).findIdx? (·.1)=none:=by rfl):PG X (.Tuple es k pos) (Ir X.K n t):=by
 intro pins s σ H v u Q I r J;obtain⟨a,xs,c,V,f,J⟩:=J;subst c;cases r;obtain⟨its,O,Z,g⟩:=I.list V;refine iV (I.ok.hd hc) Z.isList (by simp[hn,<-f,O.length]) hst fun h' d=>?_
 have U:Inv X pins σ H { s with heap:=h' }:=I.kept (t':=s.toks) fun b o e=>d b o (cH (cG e)) e
 exact h pins _ σ H xs _ Q U (by simpa using O) J
def G1(x:Str):It:=⟨fun i _=>i < x.cps.size,fun i H v H'=>H'=H/\∃ c,x.cps[i]?=some c/\v=.str ⟨#[c]⟩,fun i _=>x.cps.size<=i⟩
section
variable {ty:TE}
end
structure Sub (P:Program) (w:World) (it:Addr) (src:List Addr) (St:Nat->Heap->Prop) (Vl:Nat->Value->Prop) (n:Nat):Prop where
 keep:∀ k h h',St k h->(∀ b,(b=it\/b∈src)->∀ o,h.get? b=some o->h'.get? b=some o)->St k h'
 obj:∀ k h,St k h->∃ o,h.get? it=some o/\∀ v,o.data≠.cell v
 item:∀ (A:Around) (E:Value->Shared->Prop) (s:Shared) (Q:Value->Shared->Prop) (k:Nat),St k s.heap->k < n->(∀ g x tk,Vl k x->St (k + 1) g->Heap.SameBut it s.heap g->Q x { s with heap:=g,toks:=tk })->wpAny (model P w) A (Builtin.SmallTypes.nextOf (.ref it)) Q E s
 stop:∀ (A:Around) (E:Value->Shared->Prop) (s:Shared) (Q:Value->Shared->Prop) (k:Nat),A.handled=none->St k s.heap->n<=k->(∀ g e,Heap.ExtBut it s.heap g->(∃ o,g.get? e=some o/\o.cls=.type "StopIteration")->E (.ref e) { s with heap:=g })->wpAny (model P w) A (Builtin.SmallTypes.nextOf (.ref it)) Q E s
structure Apart (z TI TO i1 i2:Addr) (s1 s2:List Addr):Prop where
 TIz:TI≠z
 TOz:TO≠z
 i1z:i1≠z
 i2z:i2≠z
 TITO:TI≠TO
 TIi1:TI≠i1
 TIi2:TI≠i2
 TOi1:TO≠i1
 TOi2:TO≠i2
 i12:i1≠i2
 a1:∀ b∈s1,b≠z/\b≠TO/\b≠i1/\b≠i2
 a2:∀ b∈s2,b≠z/\b≠TO/\b≠i1/\b≠i2
section
variable {z TI TO i1 i2:Addr}{s1 s2:List Addr}{St1 St2:Nat->Heap->Prop}{V1 V2:Nat->Value->Prop}{n1 n2 k:Nat}
end
structure Src where
 rd:aL->Hp->List V->Prop
 itr:Heap->Addr->Nat->Prop
 src:List Addr
structure Jh (S:Src):Prop where
 keepI:∀ h h' it k,S.itr h it k->(∀ o,h.get? it=some o->h'.get? it=some o)->S.itr h' it k
 objI:∀ h it k,S.itr h it k->∃ o,h.get? it=some o/\∀ v,o.data≠.cell v
 inj:∀ (X:Cx) pins σ H s xs ys,Inv X pins σ H s->S.rd X.K H xs->S.rd X.K H ys->xs=ys
 sub:∀ (X:Cx) pins σ H s xs it,Inv X pins σ H s->S.rd X.K H xs->(∀ b∈S.src,b≠it)->∃ (St:Nat->Heap->Prop) (Vl:Nat->Value->Prop),Sub X.prog X.w it S.src St Vl xs.length/\(∀ k,S.itr s.heap it k->St k s.heap)/\(∀ k h,St k h->S.itr h it k)/\∀ k v u,xs[k]?=some u->Vl k v->RelV u v
section
variable {l:List Env}{L e:Addr}{c:Value}{od:Option Addr}{lo:Nat}{Q:Unit->Shared->Prop}
end
section
variable {K:aL}{mg:Str->Option Value}{E:XK}
variable {k:Nat}
end
section
variable {E:XK}{cl:List (Str × Addr)}{vars:List Str}{Cm:Addr}{sm:Shared}{Hm:Hp}{fp:List Addr}{pm:List (Addr × Obj)}
variable {k:Nat}
end
section
variable {R:Result->Shared->Prop}
end
section
variable {ty:TE}
end
section
variable {to:TE}{T id:String}{r:V->List V->Hp->VK->Prop}
end
end L2
namespace Gs
open PySem PyProof.Rows
variable {i n j lo nrem pw ia ib na nb ac bc c n1 n2 pw':Nat}{p q:Keyed}{xs a₀ a b arr Y:Array Keyed}{prog:Program}{w:World}{A:Around}{E:Value->Shared->Prop}{s:Shared}{Q:Option Nat->SortSt->Prop}{ys M B out:List Keyed}{vs:List Value}{ns:List Int}{P:Array (Nat × Nat × Nat)}
class Rk where
 nk:Keyed->Int
 nQ:Keyed->Prop
 kind:SortKind
def nk[R:Rk](p:Keyed):Int:=R.nk p
def nQ[R:Rk](p:Keyed):Prop:=R.nQ p
class f6 [Rk] (prog:Program) (w:World) (A:Around) (E:Value->Shared->Prop) (s:Shared):Prop where
 ok:∀ {x y:Keyed} {st:SortSt} {Q:Option Bool->SortSt->Prop},kindOf st=Rk.kind->nQ x->nQ y->Q (some (decide (nk x < nk y))) st->wpS (model prog w) A E s (lt' x y) Q st
section
variable [Rk]
def K(xs:Array Keyed)(i:Nat):Int:=match xs[i]? with
 | some p=>nk p
 | none=>0
theorem Bj(h:xs[i]?=some p):K xs i=nk p:=by unfold K; rw[h]
theorem K_eq(hi:i < xs.size):K xs i=nk xs[i]:=Bj (iG hi)
theorem K_congr{ys:Array Keyed}(h:xs[i]?=ys[j]?):K xs i=K ys j:=by unfold K; rw[h]
def IntKeys(xs:Array Keyed):Prop:=∀ p∈xs.toList,nQ p
structure SBase (a₀:Array Keyed) (st:SortSt):Prop where
 perm:(arrOf st).Perm a₀
 kind:kindOf st=Rk.kind
 failed:failedOf st=none
 pend:pendingOf st=#[]
theorem SBase.size{st:SortSt}(h:SBase a₀ st):(arrOf st).size=a₀.size:=h.perm.size_eq
def SortedTo(xs:Array Keyed)(k:Nat):Prop:=∀ i j,i<=j->j < k->K xs i<=K xs j
theorem A5(hp:xs.Perm a₀)(h0:IntKeys a₀)(hi:i < a₀.size):∃ p,xs[i]?=some p/\nQ p/\nk p=K xs i:=by
 have I:i < xs.size:=by rw[hp.size_eq]; exact hi
 refine⟨xs[i],iG I,h0 _ ?_,(K_eq I).symm⟩;have:xs[i]∈xs:=Array.getElem_mem I;exact Array.mem_toList_iff.mpr ((hp.mem_iff).mp this)
section
variable [f6 prog w A E s]
theorem wpS_ltAt{st:SortSt}{Q:Option Bool->SortSt->Prop}(hk:kindOf st=Rk.kind)(hi:(arrOf st)[i]?=some p)(hj:(arrOf st)[j]?=some q)(kp:nQ p)(kq:nQ q)(h:Q (some (decide (nk p < nk q))) st):wpS (model prog w) A E s (ltAt' i j) Q st:=by
 rw[ltAt'_eq];refine bV (wpS_get ?_);dsimp only;rw[elem'_eq,hi];refine bV (cC ?_);rw[elem'_eq,hj];exact bV (cC (f6.ok hk kp kq h))
end
theorem K_mirror(h:j<=xs.size)(k:Nat):K (mirror xs i j ((j - i) / 2)) k=if i<=k/\k < j then K xs (i + j - 1 - k) else K xs k:=by
 have:=getElem?_mirror_all (xs:=xs) (i:=i) (j:=j) h k;by_cases I:i<=k/\k < j
 ·rw[if_pos I]at this |-;exact K_congr this
 ·rw[if_neg I]at this |-;exact K_congr this
theorem K_bubble{src d:Nat}(hs:src < xs.size)(hd:d<=src)(k:Nat):K (bubble xs src d) k=if k=src - d then K xs src else if src - d < k/\k<=src then K xs (k - 1) else K xs k:=by
 have:=getElem?_bubble hs d hd k;by_cases h1:k=src - d
 ·rw[if_pos h1]at this |-;exact K_congr this
 ·rw[if_neg h1]at this |-;by_cases h2:src - d < k/\k<=src
  ·rw[if_pos h2]at this |-;exact K_congr this
  ·rw[if_neg h2]at this |-;exact K_congr this
theorem K_mirror_equal(h:j<=xs.size)(e:∀ k,i<=k->k < j->K xs k=K xs (j - 1))(k:Nat):K (mirror xs i j ((j - i) / 2)) k=K xs k:=by
 rw[K_mirror h];by_cases I:i<=k/\k < j
 ·rw[if_pos I,e _ (by omega) (by omega),e k I.1 I.2]
 ·rw[if_neg I]
end
section
variable [Rk]
abbrev SM(α:Type):=StateT SortSt Sem α
def fG:Bool->Keyed->Array Keyed->Nat->Nat->Nat->SM (Option Nat):=sortPriv% PySem.Builtin.gallop
section
variable [f6 prog w A E s] {st:SortSt}
theorem pW{x y:Keyed}{Q:Option Bool->SortSt->Prop}(hk:kindOf st=Rk.kind)(hx:nQ x)(hy:nQ y)(h:Q (some (decide (nk x < nk y))) st):wpS (model prog w) A E s (lt' x y) Q st:=f6.ok hk hx hy h
theorem bC{Q:Keyed->SortSt->Prop}(hp:arr[i]?=some p)(h:Q p st):wpS (model prog w) A E s (elem' arr i) Q st:=by
 rw[elem'_eq,hp];exact cC h
abbrev Hf(left:Bool)(key:Keyed)(arr:Array Keyed)(j:Nat):SM (Option Bool):=do
 let x <-elem' arr j
 if left=true then lt' x key else do
  let r <-lt' key x
  pure (Option.map (fun x=>!x) r)
abbrev Sr:Type:=Option (Option Nat) × Nat × Nat
def Ji(left:Bool)(key:Keyed)(arr:Array Keyed)(base hint m:Nat)(r:Sr):SM (ForInStep Sr):=
 if r.2.2 ≥ m then pure (ForInStep.done (none,r.2.1,r.2.2))
 else do
  let some x <-Hf left key arr (base + (hint + r.2.2)) | pure (ForInStep.done (some none,r.2.1,r.2.2))
  if (!x)=true then pure (ForInStep.done (none,r.2.1,r.2.2))
  else pure (ForInStep.yield (none,r.2.2,2 * r.2.2 + 1))
def Je(left:Bool)(key:Keyed)(arr:Array Keyed)(base hint m:Nat)(r:Sr):SM (ForInStep Sr):=
 if r.2.2 ≥ m then pure (ForInStep.done (none,r.2.1,r.2.2))
 else do
  let some x <-Hf left key arr (base + (hint - r.2.2)) | pure (ForInStep.done (some none,r.2.1,r.2.2))
  if x=true then pure (ForInStep.done (none,r.2.1,r.2.2))
  else pure (ForInStep.yield (none,r.2.2,2 * r.2.2 + 1))
def DU(left:Bool)(key:Keyed)(arr:Array Keyed)(base:Nat)(r:Sr):SM (ForInStep Sr):=
 if r.2.1 ≥ r.2.2 then pure (ForInStep.done (none,r.2.1,r.2.2))
 else do
  let some x <-Hf left key arr (base + (r.2.1 + (r.2.2 - r.2.1) / 2)) | pure (ForInStep.done (some none,r.2.1,r.2.2))
  if x=true then pure (ForInStep.yield (none,r.2.1 + (r.2.2 - r.2.1) / 2 + 1,r.2.2))
  else pure (ForInStep.yield (none,r.2.1,r.2.1 + (r.2.2 - r.2.1) / 2))
def Fs(left:Bool)(key:Keyed)(arr:Array Keyed)(base n lo hi:Nat):SM (Option Nat):=do
 let r <-forIn [:n] ((none:Option (Option Nat)),lo,hi) fun _ r=>DU left key arr base r
 match r.1 with
 | some x=>pure x
 | none=>pure (some r.2.2)
theorem xQ(left:Bool)(key:Keyed)(arr:Array Keyed)(base n hint:Nat):fG left key arr base n hint=(do
  let some x <-Hf left key arr (base + hint) | pure none
  if x=true then do
   let r <-forIn [:n] ((none:Option (Option Nat)),0,1) fun _ r=>Ji left key arr base hint (n - hint) r
   match r.1 with
   | some x=>pure x
   | none=>Fs left key arr base n (hint + r.2.1 + 1) (hint + min r.2.2 (n - hint))
  else do
   let r <-forIn [:n] ((none:Option (Option Nat)),0,1) fun _ r=>Je left key arr base hint (hint + 1) r
   match r.1 with
   | some x=>pure x
   | none=>Fs left key arr base n (hint + 1 - min r.2.2 (hint + 1)) (hint - r.2.1)):=by kernel_rfl
structure qh (left:Bool) (key:Keyed) (arr:Array Keyed) (base n:Nat) (B:Nat->Bool):Prop where
 kk:nQ key
 at_:∀ i,i < n->∃ p,arr[base + i]?=some p/\nQ p/\B i=(if left=true then decide (nk p < nk key) else !decide (nk key < nk p))
 mono:∀ i j,i<=j->j < n->B j=true->B i=true
variable {left:Bool}{key:Keyed}{base:Nat}{B:Nat->Bool}
theorem kZ{Q:Option Bool->SortSt->Prop}(hk:kindOf st=Rk.kind)(G:qh left key arr base n B)(hi:i < n)(h:Q (some (B i)) st):wpS (model prog w) A E s (Hf left key arr (base + i)) Q st:=by
 obtain⟨p,ep,J,I⟩:=G.at_ i hi;refine bV (bC ep ?_);cases left with
 | true=>
  rw[if_pos rfl]at I |-;exact pW hk J G.kk (by rw[<-I]; exact h)
 | false=>
  rw[if_neg eN]at I |-;exact bV (pW hk G.kk J (cC (by show Q (some (!decide (nk key < nk p))) st; rw[<-I]; exact h)))
theorem rH{l0 h0:Nat}(hk:kindOf st=Rk.kind)(G:qh left key arr base n B)(c1:l0<=h0)(c2:h0<=n)(c3:∀ i,i < l0->B i=true)(c4:∀ i,h0<=i->i < n->B i=false)
  (q:∀ k,k<=n->(∀ i,i < k->B i=true)->(∀ i,k<=i->i < n->B i=false)->Q (some k) st):wpS (model prog w) A E s (Fs left key arr base n l0 h0) Q st:=by
 refine bV (wpS_mono (tH (I:=fun i r J=>J=st/\∃ l h,r=(none,l,h)/\l<=h/\h<=n/\h - l<=n - i/\(∀ i,i < l->B i=true)/\∀ i,h<=i->i < n->B i=false)
  (Q:=fun r J=>J=st/\∃ l,r=(none,l,l)/\l<=n/\(∀ i,i < l->B i=true)/\∀ i,l<=i->i < n->B i=false) ?stepT ?finT ⟨rfl,l0,h0,rfl,c1,c2,by lia,c3,c4⟩) ?postT)
 case finT=>
  rintro r J ⟨rfl,l,h,rfl,b1,b2,b3,b4,b5⟩
  have e:l=h:=by lia
  subst e;exact⟨rfl,l,rfl,b2,b4,b5⟩
 case stepT=>
  rintro i r J _ DV ⟨rfl,l,h,rfl,b1,b2,b3,b4,b5⟩
  unfold DU;dsimp only;by_cases O:l ≥ h
  ·rw[if_pos O];have e:l=h:=by lia
   subst e;exact cC ⟨rfl,l,rfl,b2,b4,b5⟩
  ·rw[if_neg O];refine bV (kZ hk G (by lia) ?_);dsimp only;cases U:B (l + (h - l) / 2) with
   | true=>
    rw[if_pos rfl];exact cC ⟨rfl,_,h,rfl,by lia,b2,by lia,fun j V=>G.mono j _ (by lia) (by lia) U,b5⟩
   | false=>
    rw[if_neg eN];refine cC ⟨rfl,l,_,rfl,by lia,by lia,by lia,b4,fun j V Z=>?_⟩;cases a:B j with
    | false=>rfl
    | true=>rw[G.mono _ j V Z a]at U; cases U
 case postT=>
  rintro r J ⟨rfl,l,rfl,b2,b4,b5⟩
  exact cC (q l b2 b4 b5)
theorem dU{hint:Nat}(hk:kindOf st=Rk.kind)(G:qh left key arr base n B)(hh:hint < n)
  (q:∀ k,k<=n->(∀ i,i < k->B i=true)->(∀ i,k<=i->i < n->B i=false)->Q (some k) st):wpS (model prog w) A E s (fG left key arr base n hint) Q st:=by
 rw[xQ];refine bV (kZ hk G hh ?_);dsimp only;cases e:B hint with
 | true=>
  rw[if_pos rfl]
  refine bV (wpS_mono (tH (I:=fun i r J=>J=st/\∃ l o,r=(none,l,o)/\l < o/\l < n - hint/\i + 1<=o/\B (hint + l)=true)
   (Q:=fun r J=>J=st/\∃ l o,r=(none,l,o)/\l < o/\l < n - hint/\B (hint + l)=true/\(n - hint<=o\/(o < n - hint/\B (hint + o)=false))) ?step ?fin ⟨rfl,0,1,rfl,by omega,by omega,by omega,e⟩) ?post)
  case fin=>
   rintro r J ⟨rfl,l,o,rfl,a1,a2,a3,a4⟩
   exact⟨rfl,l,o,rfl,a1,a2,a4,.inl (by omega)⟩
  case step=>
   rintro i r J _ d ⟨rfl,l,o,rfl,a1,a2,a3,a4⟩
   unfold Ji;dsimp only;by_cases U:o ≥ n - hint
   ·rw[if_pos U];exact cC ⟨rfl,l,o,rfl,a1,a2,a4,.inl U⟩
   ·rw[if_neg U];refine bV (kZ hk G (by omega) ?_);dsimp only;cases V:B (hint + o) with
    | true=>
     rw[if_neg (by decide)];exact cC ⟨rfl,o,2 * o + 1,rfl,by omega,by omega,by omega,V⟩
    | false=>
     rw[if_pos (show (!false)=true from rfl)];exact cC ⟨rfl,l,o,rfl,a1,a2,a4,.inr ⟨by omega,V⟩⟩
  case post=>
   rintro r J ⟨rfl,l,o,rfl,a1,a2,a4,O⟩
   dsimp only;refine rH hk G (by omega) (by omega) (fun j a=>G.mono j _ (by omega) (by omega) a4) (fun j a b=>?_) q;rcases O with O | ⟨O,Z⟩
   ·omega
   ·cases c:B j with
    | false=>rfl
    | true=>rw[G.mono _ j (by omega) b c]at Z; cases Z
 | false=>
  rw[if_neg eN]
  refine bV (wpS_mono (tH (I:=fun i r J=>J=st/\∃ l o,r=(none,l,o)/\l < o/\l < hint + 1/\i + 1<=o/\B (hint - l)=false)
   (Q:=fun r J=>J=st/\∃ l o,r=(none,l,o)/\l < o/\l < hint + 1/\B (hint - l)=false/\(hint + 1<=o\/(o < hint + 1/\B (hint - o)=true))) ?step2 ?fin2 ⟨rfl,0,1,rfl,by omega,by omega,by omega,e⟩) ?post2)
  case fin2=>
   rintro r J ⟨rfl,l,o,rfl,a1,a2,a3,a4⟩
   exact⟨rfl,l,o,rfl,a1,a2,a4,.inl (by omega)⟩
  case step2=>
   rintro i r J _ d ⟨rfl,l,o,rfl,a1,a2,a3,a4⟩
   unfold Je;dsimp only;by_cases U:o ≥ hint + 1
   ·rw[if_pos U];exact cC ⟨rfl,l,o,rfl,a1,a2,a4,.inl U⟩
   ·rw[if_neg U];refine bV (kZ hk G (by omega) ?_);dsimp only;cases V:B (hint - o) with
    | true=>
     rw[if_pos rfl];exact cC ⟨rfl,l,o,rfl,a1,a2,a4,.inr ⟨by omega,V⟩⟩
    | false=>
     rw[if_neg eN];exact cC ⟨rfl,o,2 * o + 1,rfl,by omega,by omega,by omega,V⟩
  case post2=>
   rintro r J ⟨rfl,l,o,rfl,a1,a2,a4,O⟩
   dsimp only;refine rH hk G (by omega) (by omega) (fun j a=>?_) (fun j a b=>?_) q
   ·rcases O with O | ⟨O,Z⟩
    ·omega
    ·exact G.mono j _ (by omega) (by omega) Z
   ·cases c:B j with
    | false=>rfl
    | true=>rw[G.mono _ j a b c]at a4; cases a4
end
end
section
variable [Rk]
def Le(p q:Keyed):Prop:=nk p<=nk q
theorem Le.trans{r:Keyed}(h1:Le p q)(h2:Le q r):Le p r:=Int.le_trans h1 h2
abbrev So(l:List Keyed):Prop:=l.Pairwise Le
theorem dc{xs:List Keyed}(h:xs[i]?=some p):xs.drop i=p::xs.drop (i + 1):=by
 obtain⟨hi,e⟩:=dJ.mp h;rw[List.drop_eq_getElem_cons hi,e]
theorem So.drop{xs:List Keyed}(h:So xs)(i:Nat):So (xs.drop i):=h.sublist (List.drop_sublist i xs)
theorem So.take{xs:List Keyed}(h:So xs)(i:Nat):So (xs.take i):=h.sublist (List.take_sublist i xs)
theorem So.head{xs:List Keyed}(h:So xs)(e:xs[i]?=some p):∀ q∈xs.drop (i + 1),Le p q:=by
 have:=h.drop i;rw[dc e]at this;exact (CQ.mp this).1
theorem So.from{xs:List Keyed}(h:So xs){b:Keyed}(e:xs[i]?=some p)(hb:Le b p):∀ q∈xs.drop i,Le b q:=fun q I=>by
 rw[dc e]at I;rcases d0.mp I with rfl | I
 ·exact hb
 ·exact hb.trans (h.head e q I)
structure MI (xs ys out:List Keyed) (ia ib:Nat):Prop where
 la:ia<=xs.length
 lb:ib<=ys.length
 pm:out.Perm (xs.take ia++ys.take ib)
 so:So out
 ax:∀ o∈out,∀ p∈xs.drop ia,Le o p
 bx:∀ o∈out,∀ p∈ys.drop ib,Le o p
def cx(xs ys r:List Keyed):Prop:=r.Perm (xs++ys)/\So r
section
variable {xs:List Keyed}
theorem MI.swap(h:MI xs ys out ia ib):MI ys xs out ib ia:=⟨h.lb,h.la,h.pm.trans yM,h.so,h.bx,h.ax⟩
theorem MI.nil:MI xs ys [] 0 0:=⟨dI _,dI _,List.Perm.refl _,List.Pairwise.nil,fun _ h=>by simp at h,fun _ h=>by simp at h⟩
theorem MI.mR(h:MI xs ys out ia ib)(sy:So ys)(hp:ys[ib]?=some p)(hx:∀ q∈xs.drop ia,Le p q):MI xs ys (out++[p]) ia (ib + 1):=by
 have U:ib < ys.length:=(dJ.mp hp).1;have V:p∈ys.drop ib:=by rw[dc hp]; exact gC
 refine⟨h.la,U,?_,?_,fun o I q J=>?_,fun o I q J=>?_⟩
 ·rw[kX,hp,<-iD];exact h.pm.append_right _
 ·exact xo.mpr ⟨h.so,List.pairwise_singleton _ _,fun a Z b O=>by rw[fS.mp O]; exact h.bx a Z p V⟩
 ·rcases fY.mp I with I | I
  ·exact h.ax o I q J
  ·rw[fS.mp I]; exact hx q J
 ·rcases fY.mp I with I | I
  ·exact h.bx o I q (by rw[dc hp]; exact jd _ J)
  ·rw[fS.mp I]; exact sy.head hp q J
theorem MI.jP(h:MI xs ys out ia ib)(sx:So xs)(hp:xs[ia]?=some p)(hy:∀ q∈ys.drop ib,Le p q):MI xs ys (out++[p]) (ia + 1) ib:=(h.swap.mR sx hp hy).swap
theorem MI.mv(h:MI xs ys out ia ib)(sx:So xs):∀ (k:Nat),ia + k<=xs.length->(∀ i p,ia<=i->i < ia + k->xs[i]?=some p->∀ q∈ys.drop ib,Le p q)->MI xs ys (out++(xs.drop ia).take k) (ia + k) ib
 | 0,_,_=>by rw[BG,jL]; exact h
 | k + 1,hk,hle=>by
  have hr:=h.mv sx k (by lia) fun i p h1 h2=>hle i p h1 (by lia)
  have I:xs[ia + k]?=some xs[ia + k]:=cL (by lia);have:=hr.jP sx I (hle _ _ (by lia) (by lia) I);rw[kX,Ee,I,<-iD];exact this
theorem MI.Bs(h:MI xs ys out ia ib)(sy:So ys)(k:Nat)(hk:ib + k<=ys.length)(hle:∀ i p,ib<=i->i < ib + k->ys[i]?=some p->∀ q∈xs.drop ia,Le p q):MI xs ys (out++(ys.drop ib).take k) ia (ib + k):=(h.swap.mv sy k hk hle).swap
theorem MI.mL(h:MI xs ys out ia ib)(sx:So xs)(e:ib=ys.length):cx xs ys (out++xs.drop ia++ys.drop ib):=by
 subst e;rw[List.drop_length,jL];refine⟨?_,xo.mpr ⟨h.so,sx.drop ia,h.ax⟩⟩;have:=h.pm;rw[mw]at this;refine (this.append_right _).trans ?_;rw[iD];refine (yM.append_left _).trans ?_;rw[<-iD,C4]
theorem MI.lI(h:MI xs ys out ia ib)(sy:So ys)(e:ia=xs.length):cx xs ys (out++xs.drop ia++ys.drop ib):=by
 have:=h.swap.mL sy e;refine⟨?_,?_⟩
 ·refine List.Perm.trans ?_ (this.1.trans yM);rw[iD,iD];exact yM.append_left _
 ·subst e;have:=this.2;rw[List.drop_length,jL]at this |-;exact this
theorem MI.last(h:MI xs ys out ia ib)(sx:So xs)(sy:So ys)(hl:∀ q∈ys.drop ib,∀ p∈xs.drop ia,Le q p):cx xs ys (out++ys.drop ib++xs.drop ia):=by
 refine⟨?_,?_⟩
 ·have O:(out++ys.drop ib++xs.drop ia).Perm (xs.take ia++ys.take ib++ys.drop ib++xs.drop ia):=(h.pm.append_right _).append_right _;refine O.trans ?_;rw[iD (xs.take ia),C4,iD];refine (yM.append_left _).trans ?_;rw[<-iD,C4]
 ·refine xo.mpr ⟨xo.mpr ⟨h.so,sy.drop ib,h.bx⟩,sx.drop ia,fun a I b J=>?_⟩;rcases fY.mp I with I | I
  ·exact h.ax a I b J
  ·exact hl a I b J
end
structure MH (xs ys out:List Keyed) (na nb:Nat):Prop where
 la:na<=xs.length
 lb:nb<=ys.length
 pm:out.Perm (xs.drop na++ys.drop nb)
 so:So out
 ax:∀ o∈out,∀ p∈xs.take na,Le p o
 bx:∀ o∈out,∀ p∈ys.take nb,Le p o
section
variable {xs:List Keyed}
theorem take_snoc{xs:List Keyed}(h:xs[i]?=some p):xs.take (i + 1)=xs.take i++[p]:=by rw[kX,h]; rfl
theorem So.last{xs:List Keyed}(h:So xs)(e:xs[i]?=some p):∀ q∈xs.take i,Le q p:=fun q I=>by
 have:=h.take (i + 1);rw[take_snoc e]at this;exact (xo.mp this).2.2 q I p (fS.mpr rfl)
theorem So.Dl{xs:List Keyed}(h:So xs){b:Keyed}(e:xs[i]?=some p)(hb:Le p b):∀ q∈xs.take (i + 1),Le q b:=fun q I=>by
 rw[take_snoc e]at I;rcases fY.mp I with I | I
 ·exact (h.last e q I).trans hb
 ·rw[fS.mp I]; exact hb
theorem MH.swap(h:MH xs ys out na nb):MH ys xs out nb na:=⟨h.lb,h.la,h.pm.trans yM,h.so,h.bx,h.ax⟩
theorem MH.nil:MH xs ys [] xs.length ys.length:=⟨bH _,bH _,by rw[List.drop_length,List.drop_length]; exact List.Perm.refl _,List.Pairwise.nil,fun _ h=>by simp at h,fun _ h=>by simp at h⟩
theorem MH.jP(h:MH xs ys out (na + 1) nb)(sx:So xs)(hp:xs[na]?=some p)(hy:∀ q∈ys.take nb,Le q p):MH xs ys (p::out) na nb:=by
 have U:na < xs.length:=(dJ.mp hp).1;have O:p∈xs.take (na + 1):=by rw[take_snoc hp]; simp
 refine⟨by lia,h.lb,?_,CQ.mpr ⟨fun o I=>h.ax o I p O,h.so⟩,fun o I q J=>?_,fun o I q J=>?_⟩
 ·rw[dc hp]; exact h.pm.cons p
 ·rcases d0.mp I with rfl | I
  ·exact sx.last hp q J
  ·exact h.ax o I q (by rw[take_snoc hp]; exact uj _ J)
 ·rcases d0.mp I with rfl | I
  ·exact hy q J
  ·exact h.bx o I q J
theorem MH.mR(h:MH xs ys out na (nb + 1))(sy:So ys)(hp:ys[nb]?=some p)(hx:∀ q∈xs.take na,Le q p):MH xs ys (p::out) na nb:=(h.swap.jP sy hp hx).swap
theorem MH.mv(sx:So xs):∀ (k:Nat) {na:Nat} {out:List Keyed},MH xs ys out (na + k) nb->(∀ i p,na<=i->i < na + k->xs[i]?=some p->∀ q∈ys.take nb,Le q p)->MH xs ys ((xs.drop na).take k++out) na nb
 | 0,_,_,h,_=>by rw[BG]; exact h
 | k + 1,na,out,h,hle=>by
  have hl:na + (k + 1)<=xs.length:=h.la;have I:xs[na + k]?=some xs[na + k]:=cL (by lia);have h1:=MH.jP (na:=na + k) h sx I (hle _ _ (by lia) (by lia) I);have:=MH.mv sx k h1 fun i p J O=>hle i p J (by lia)
  rw[kX,Ee,I,iD];exact this
theorem MH.Bs(sy:So ys)(k:Nat)(h:MH xs ys out na (nb + k))(hle:∀ i p,nb<=i->i < nb + k->ys[i]?=some p->∀ q∈xs.take na,Le q p):MH xs ys ((ys.drop nb).take k++out) na nb:=(MH.mv sy k h.swap hle).swap
theorem MH.lI(h:MH xs ys out na nb)(sy:So ys)(e:na=0):cx xs ys (xs.take na++ys.take nb++out):=by
 subst e;rw[BG,List.nil_append];refine⟨?_,xo.mpr ⟨sy.take nb,h.so,fun a J b I=>h.bx b I a J⟩⟩;have:=h.pm;rw[List.drop_zero]at this;refine (this.append_left _).trans ?_;rw[<-iD];refine (yM.append_right _).trans ?_;rw[iD,C4]
theorem MH.mL(h:MH xs ys out na nb)(sx:So xs)(e:nb=0):cx xs ys (xs.take na++ys.take nb++out):=by
 have:=h.swap.lI sx e;refine⟨?_,?_⟩
 ·exact (yM.append_right _).trans (this.1.trans yM)
 ·subst e;have:=this.2;rw[BG,List.nil_append]at this;rw[BG,jL];exact this
theorem MH.first(h:MH xs ys out na nb)(sx:So xs)(sy:So ys)(hl:∀ q∈ys.take nb,∀ p∈xs.take na,Le q p):cx xs ys (ys.take nb++xs.take na++out):=by
 refine⟨?_,?_⟩
 ·refine (h.pm.append_left _).trans ?_;rw[iD,<-iD (xs.take na),C4];refine yM.trans ?_;rw[iD];refine (yM.append_left _).trans ?_;rw[C4]
 ·refine xo.mpr ⟨xo.mpr ⟨sy.take nb,sx.take na,fun a I b J=>hl a I b J⟩,h.so,fun a I b J=>?_⟩;rcases fY.mp I with I | I
  ·exact h.bx b J a I
  ·exact h.ax b J a I
end
end
section
variable [Rk]
def mJ:Array Keyed->Array Keyed->SM (Array Keyed):=sortPriv% PySem.Builtin.mergeLo
abbrev setG(st:SortSt)(g:Nat):SortSt:=SortSt.mk' (kindOf st) (arrOf st) (pendingOf st) g (failedOf st)
def gc:Nat->SM Unit:=sortPriv% PySem.Builtin.setMinGallop
theorem jk(g:Nat):gc g=modify fun s=>setG s g:=rfl
abbrev yp:Type:=Option (Array Keyed) × Array Keyed × Nat × Nat × Nat × Nat × Nat
abbrev Gb:Type:=Option (Array Keyed) × Array Keyed × Nat × Nat × Nat × Nat
section
variable (a b:Array Keyed)
abbrev jN(out:Array Keyed)(ia ib:Nat):Array Keyed:=out++a.extract ia++b.extract ib
abbrev ke(out:Array Keyed)(ia ib:Nat):Array Keyed:=out++b.extract ib++a.extract ia
def HY(out:Array Keyed)(ia ib mg ac bc:Nat):SM (ForInStep yp):=do
 let ea <-elem' a ia
 if (ia + 1 + 1 == a.size)=true then pure (ForInStep.done (some (ke a b (out.push ea) (ia + 1) ib),out.push ea,ia + 1,ib,mg,ac,bc))
 else if (decide (ac < 7) && decide (bc < 7))=true then pure (ForInStep.done (none,out.push ea,ia + 1,ib,mg,ac,bc))
 else pure (ForInStep.yield (none,out.push ea,ia + 1,ib,mg,ac,bc))
def I0(out:Array Keyed)(ia ib mg ac bc:Nat):SM (ForInStep yp):=do
 let ea <-elem' a ia
 let some k <-fG true ea b ib (b.size - ib) 0 | pure (ForInStep.done (some (jN a b out ia ib),out,ia,ib,mg,ac,bc))
 if k > 0 then
  if (ib + k == b.size)=true then pure (ForInStep.done (some (jN a b (out++b.extract ib (ib + k)) ia (ib + k)),out++b.extract ib (ib + k),ia,ib + k,mg,ac,k))
  else HY a b (out++b.extract ib (ib + k)) ia (ib + k) mg ac k
 else HY a b out ia ib mg ac k
def HR(out:Array Keyed)(ia ib mg ac bc:Nat):SM (ForInStep yp):=do
 let eb <-elem' b ib
 if (ib + 1 == b.size)=true then pure (ForInStep.done (some (jN a b (out.push eb) ia (ib + 1)),out.push eb,ia,ib + 1,mg,ac,bc))
 else I0 a b (out.push eb) ia (ib + 1) mg ac bc
def lo1(out:Array Keyed)(ia ib mg ac bc:Nat):SM (ForInStep yp):=do
 let eb <-elem' b ib
 let some k <-fG false eb a ia (a.size - ia) 0 | pure (ForInStep.done (some (jN a b out ia ib),out,ia,ib,mg,ac,bc))
 if k > 0 then
  if (ia + k + 1 == a.size)=true then pure (ForInStep.done (some (ke a b (out++a.extract ia (ia + k)) (ia + k) ib),out++a.extract ia (ia + k),ia + k,ib,mg,k,bc))
  else if (ia + k == a.size)=true then pure (ForInStep.done (some (jN a b (out++a.extract ia (ia + k)) (ia + k) ib),out++a.extract ia (ia + k),ia + k,ib,mg,k,bc))
  else HR a b (out++a.extract ia (ia + k)) (ia + k) ib mg k bc
 else HR a b out ia ib mg k bc
def IZ(r:yp):SM (ForInStep yp):=
 if r.2.2.2.2.1 > 1 then do
  gc (r.2.2.2.2.1 - 1)
  lo1 a b r.2.1 r.2.2.1 r.2.2.2.1 (r.2.2.2.2.1 - 1) r.2.2.2.2.2.1 r.2.2.2.2.2.2
 else do
  gc r.2.2.2.2.1
  lo1 a b r.2.1 r.2.2.1 r.2.2.2.1 r.2.2.2.2.1 r.2.2.2.2.2.1 r.2.2.2.2.2.2
def II(mg:Nat)(r:Gb):SM (ForInStep Gb):=do
 let eb <-elem' b r.2.2.2.1
 let ea <-elem' a r.2.2.1
 let some wins <-lt' eb ea | pure (ForInStep.done (some (jN a b r.2.1 r.2.2.1 r.2.2.2.1),r.2.1,r.2.2.1,r.2.2.2.1,r.2.2.2.2.1,r.2.2.2.2.2))
 if wins=true then do
  let eb <-elem' b r.2.2.2.1
  if (r.2.2.2.1 + 1 == b.size)=true then pure (ForInStep.done (some (jN a b (r.2.1.push eb) r.2.2.1 (r.2.2.2.1 + 1)),r.2.1.push eb,r.2.2.1,r.2.2.2.1 + 1,0,r.2.2.2.2.2 + 1))
  else if r.2.2.2.2.2 + 1 ≥ mg then pure (ForInStep.done (none,r.2.1.push eb,r.2.2.1,r.2.2.2.1 + 1,0,r.2.2.2.2.2 + 1))
  else pure (ForInStep.yield (none,r.2.1.push eb,r.2.2.1,r.2.2.2.1 + 1,0,r.2.2.2.2.2 + 1))
 else do
  let ea <-elem' a r.2.2.1
  if (r.2.2.1 + 1 + 1 == a.size)=true then pure (ForInStep.done (some (ke a b (r.2.1.push ea) (r.2.2.1 + 1) r.2.2.2.1),r.2.1.push ea,r.2.2.1 + 1,r.2.2.2.1,r.2.2.2.2.1 + 1,0))
  else if r.2.2.2.2.1 + 1 ≥ mg then pure (ForInStep.done (none,r.2.1.push ea,r.2.2.1 + 1,r.2.2.2.1,r.2.2.2.2.1 + 1,0))
  else pure (ForInStep.yield (none,r.2.1.push ea,r.2.2.1 + 1,r.2.2.2.1,r.2.2.2.2.1 + 1,0))
end
theorem vg(a b:Array Keyed):mJ a b=(do
  liftM (rule "list.sort.merge-lo")
  let e0 <-elem' b 0
  if (1 == b.size)=true then pure (jN a b #[e0] 0 1)
  else if (0 + 1 == a.size)=true then pure (ke a b #[e0] 0 1)
  else do
   let g <-get
   let r <-forIn [:a.size + b.size] ((none:Option (Array Keyed)),#[e0],0,1,gallopOf g) fun _ r=>do
    let r1 <-forIn [:a.size + b.size] ((none:Option (Array Keyed)),r.2.1,r.2.2.1,r.2.2.2.1,0,0) fun _ r1=>II a b r.2.2.2.2 r1
    match r1.1 with
    | some x=>pure (ForInStep.done (some x,r1.2.1,r1.2.2.1,r1.2.2.2.1,r.2.2.2.2))
    | none=>do
     liftM (rule "list.sort.gallop")
     let r2 <-forIn [:a.size + b.size] ((none:Option (Array Keyed)),r1.2.1,r1.2.2.1,r1.2.2.2.1,r.2.2.2.2 + 1,r1.2.2.2.2.1,r1.2.2.2.2.2) fun _ r2=>IZ a b r2
     match r2.1 with
     | some x=>pure (ForInStep.done (some x,r2.2.1,r2.2.2.1,r2.2.2.2.1,r2.2.2.2.2.1))
     | none=>do
      gc (r2.2.2.2.2.1 + 1)
      pure (ForInStep.yield (none,r2.2.1,r2.2.2.1,r2.2.2.2.1,r2.2.2.2.2.1 + 1))
   match r.1 with
   | some x=>pure x
   | none=>unsupported "internal:list.sort.merge-bound"):=by kernel_rfl
structure MC (a b:Array Keyed):Prop where
 ka:∀ p∈a.toList,nQ p
 kb:∀ p∈b.toList,nQ p
 sa:So a.toList
 sb:So b.toList
 hl:∀ q∈b.toList,∀ p,a.toList[a.size - 1]?=some p->Le q p
 hf:∀ q,b.toList[0]?=some q->∀ p∈a.toList,Le q p
theorem iE(a:Array Keyed)(i:Nat):(a.extract i).toList=a.toList.drop i:=by
 rw[Array.toList_extract];show (a.toList.drop i).take (a.size - i)=_;exact yE (by rw[List.length_drop,dY]; exact bH _)
theorem kS(a:Array Keyed)(i k:Nat):(a.extract i (i + k)).toList=(a.toList.drop i).take k:=by
 rw[Array.toList_extract];show (a.toList.drop i).take (i + k - i)=_;rw[Nat.add_sub_cancel_left]
theorem ay(h:i < a.size):a[i]?=some a[i]/\a.toList[i]?=some a[i]:=⟨getElem?_pos a i h,by rw[iI]; exact getElem?_pos a i h⟩
theorem dM(h:i < a.size):a[i]∈a.toList:=by simp
structure J (a b out:Array Keyed) (ia ib:Nat):Prop where
 mi:MI a.toList b.toList out.toList ia ib
 ha:ia + 1 < a.size
 hb:ib < b.size
def GP(a b:Array Keyed)(c:Nat):ForInStep yp->Prop
 | .done r=>(∃ x,r.1=some x/\cx a.toList b.toList x.toList)\/(r.1=none/\J a b r.2.1 r.2.2.1 r.2.2.2.1/\c<=r.2.2.1 + r.2.2.2.1)
 | .yield r=>r.1=none/\J a b r.2.1 r.2.2.1 r.2.2.2.1/\c<=r.2.2.1 + r.2.2.2.1
def Jp(a b:Array Keyed)(c:Nat):ForInStep Gb->Prop
 | .done r=>(∃ x,r.1=some x/\cx a.toList b.toList x.toList)\/(r.1=none/\J a b r.2.1 r.2.2.1 r.2.2.2.1/\c<=r.2.2.1 + r.2.2.2.1)
 | .yield r=>r.1=none/\J a b r.2.1 r.2.2.1 r.2.2.2.1/\c<=r.2.2.1 + r.2.2.2.1
section
variable [f6 prog w A E s] {st:SortSt}{out:Array Keyed}{mg:Nat}
theorem gM(h:cx a.toList b.toList (out.toList++a.toList.drop ia++b.toList.drop ib)):cx a.toList b.toList (jN a b out ia ib).toList:=by
 rw[x9,x9,iE,iE]; exact h
theorem xx(h:cx a.toList b.toList (out.toList++b.toList.drop ib++a.toList.drop ia)):cx a.toList b.toList (ke a b out ia ib).toList:=by
 rw[x9,x9,iE,iE]; exact h
theorem MC.last(C:MC a b)(h:MI a.toList b.toList out.toList ia ib)(e:ia + 1=a.size):cx a.toList b.toList (ke a b out ia ib).toList:=by
 refine xx (h.last C.sa C.sb fun q J p I=>?_);have hi:ia < a.size:=by lia
 rw[dc (ay hi).2,e,List.drop_of_length_le (by rw[dY]; exact bH _)]at I;rw[fS.mp I];exact C.hl q (List.mem_of_mem_drop J) _ (by rw[show a.size - 1=ia by lia]; exact (ay hi).2)
theorem MI.jM{xs:List Keyed}(h:MI xs ys (out.toList++[p]) ia ib):MI xs ys (out.push p).toList ia ib:=by rw[Ep]; exact h
theorem A4{Q:ForInStep yp->SortSt->Prop}(C:MC a b)(h:MI a.toList b.toList out.toList ia ib)(ha:ia + 1 < a.size)(hb:ib < b.size)(hle:∀ q∈b.toList.drop ib,Le a[ia] q)(hc:c<=ia + ib + 1)
  (q:∀ r,GP a b c r->Q r st):wpS (model prog w) A E s (HY a b out ia ib mg ac bc) Q st:=by
 have hi:ia < a.size:=by lia
 have h1:=(h.jP C.sa (ay hi).2 hle).jM;refine bV (bC (ay hi).1 ?_);by_cases e:ia + 1 + 1=a.size
 ·rw[if_pos (by simpa using e)];exact cC (q _ (.inl ⟨_,rfl,C.last h1 e⟩))
 ·rw[if_neg (by simpa using e)];have O:J a b (out.push a[ia]) (ia + 1) ib:=⟨h1,by lia,hb⟩
  by_cases I:(decide (ac < 7) && decide (bc < 7))=true
  ·rw[if_pos I];exact cC (q _ (.inr ⟨rfl,O,by show c<=ia + 1 + ib; lia⟩))
  ·rw[if_neg I];exact cC (q _ ⟨rfl,O,by show c<=ia + 1 + ib; lia⟩)
theorem EA{Q:ForInStep yp->SortSt->Prop}(hk:kindOf st=Rk.kind)(C:MC a b)(h:MI a.toList b.toList out.toList ia ib)(ha:ia + 1 < a.size)(hb:ib < b.size)(hc:c<=ia + ib + 1)
  (q:∀ r,GP a b c r->Q r st):wpS (model prog w) A E s (I0 a b out ia ib mg ac bc) Q st:=by
 have hi:ia < a.size:=by lia
 have d:=dY (xs:=b);have G:qh true a[ia] b ib (b.size - ib) (fun i=>if hi:ib + i < b.size then decide (nk b[ib + i] < nk a[ia]) else false):=by
  refine⟨C.ka _ (dM hi),fun i l=>?_,fun i j U m V=>?_⟩
  ·have I:ib + i < b.size:=by lia
   exact⟨b[ib + i],(ay I).1,C.kb _ (dM I),by rw[dif_pos I]; rfl⟩
  ·have I:ib + j < b.size:=by lia
   have Z:ib + i < b.size:=by lia
   rw[dif_pos I]at V;rw[dif_pos Z];have V:=jV V;have:Le b[ib + i] b[ib + j]:=by
    rcases Nat.eq_or_lt_of_le U with e | e
    ·subst e; exact yA _
    ·refine C.sb.head (ay Z).2 _ ?_;exact oY (i:=j - i - 1) (by rw[Ee,show ib + i + 1 + (j - i - 1)=ib + j by lia]; exact (ay I).2)
   unfold Le at this;exact gp (by lia)
 refine bV (bC (ay hi).1 ?_);refine bV (dU hk G (by lia) fun k k1 k2 k3=>?_);dsimp only;have g:∀ i p,ib<=i->i < ib + k->b.toList[i]?=some p->∀ q∈a.toList.drop ia,Le p q:=fun i p h1 h2 f=>by
  obtain⟨j,rfl⟩:∃ j,i=ib + j:=⟨i - ib,by lia⟩
  have I:ib + j < b.size:=by lia
  have:=k2 j (by lia);rw[dif_pos I]at this;have e:p=b[ib + j]:=by
   have:=(ay I).2;rw[f]at this;exact pL this
  refine C.sa.from (ay hi).2 ?_;rw[e];exact yC (jV this)
 have h1:=h.Bs C.sb k (by lia) g;have O:ib + k < b.size->∀ q∈b.toList.drop (ib + k),Le a[ia] q:=fun I=>by
  have:=k3 k (bH _) (by lia);rw[dif_pos I]at this;refine C.sb.from (ay I).2 ?_;have:=of_decide_eq_false this;unfold Le
  lia
 by_cases J:k > 0
 ·rw[if_pos J];have h2:MI a.toList b.toList (out++b.extract ib (ib + k)).toList ia (ib + k):=by rw[x9,kS]; exact h1
  by_cases e:ib + k=b.size
  ·rw[if_pos (by simpa using e)];exact cC (q _ (.inl ⟨_,rfl,gM (h2.mL C.sa (by rw[d]; exact e))⟩))
  ·rw[if_neg (by simpa using e)];exact A4 C h2 ha (by lia) (O (by lia)) (by lia) q
 ·rw[if_neg J];have e:k=0:=by lia
  subst e;exact A4 C h ha hb (O hb) hc q
theorem zR{Q:ForInStep yp->SortSt->Prop}(hk:kindOf st=Rk.kind)(C:MC a b)(h:MI a.toList b.toList out.toList ia ib)(ha:ia + 1 < a.size)(hb:ib < b.size)(hle:∀ q∈a.toList.drop ia,Le b[ib] q)(hc:c<=ia + ib + 1)
  (q:∀ r,GP a b c r->Q r st):wpS (model prog w) A E s (HR a b out ia ib mg ac bc) Q st:=by
 have h1:=(h.mR C.sb (ay hb).2 hle).jM;refine bV (bC (ay hb).1 ?_);by_cases e:ib + 1=b.size
 ·rw[if_pos (by simpa using e)];exact cC (q _ (.inl ⟨_,rfl,gM (h1.mL C.sa (by rw[dY]; exact e))⟩))
 ·rw[if_neg (by simpa using e)];exact EA hk C h1 ha (by lia) (by lia) q
theorem Eo{Q:ForInStep yp->SortSt->Prop}(hk:kindOf st=Rk.kind)(C:MC a b)(h:J a b out ia ib)(hc:c<=ia + ib + 1)
  (q:∀ r,GP a b c r->Q r st):wpS (model prog w) A E s (lo1 a b out ia ib mg ac bc) Q st:=by
 obtain⟨h,l,U⟩:=h;have o:=dY (xs:=a);have hi:ia < a.size:=by lia
 have G:qh false b[ib] a ia (a.size - ia) (fun i=>if hi:ia + i < a.size then !decide (nk b[ib] < nk a[ia + i]) else false):=by
  refine⟨C.kb _ (dM U),fun i t=>?_,fun i j Z u f=>?_⟩
  ·have I:ia + i < a.size:=by lia
   exact⟨a[ia + i],(ay I).1,C.ka _ (dM I),by rw[dif_pos I]; rfl⟩
  ·have I:ia + j < a.size:=by lia
   have g:ia + i < a.size:=by lia
   rw[dif_pos I]at f;rw[dif_pos g];have f:¬ nk b[ib] < nk a[ia + j]:=by simpa using f
   have:Le a[ia + i] a[ia + j]:=by
    rcases Nat.eq_or_lt_of_le Z with e | e
    ·subst e; exact yA _
    ·refine C.sa.head (ay g).2 _ ?_;exact oY (i:=j - i - 1) (by rw[Ee,show ia + i + 1 + (j - i - 1)=ia + j by lia]; exact (ay I).2)
   unfold Le at this;have:¬ nk b[ib] < nk a[ia + i]:=by lia
   simpa using this
 refine bV (bC (ay U).1 ?_);refine bV (dU hk G (by lia) fun k k1 k2 k3=>?_);dsimp only;have n:∀ i p,ia<=i->i < ia + k->a.toList[i]?=some p->∀ q∈b.toList.drop ib,Le p q:=fun i p h1 h2 m=>by
  obtain⟨j,rfl⟩:∃ j,i=ia + j:=⟨i - ia,by lia⟩
  have I:ia + j < a.size:=by lia
  have:=k2 j (by lia);rw[dif_pos I]at this;have this:¬ nk b[ib] < nk a[ia + j]:=by simpa using this
  have e:p=a[ia + j]:=by
   have:=(ay I).2;rw[m]at this;exact pL this
  refine C.sb.from (ay U).2 ?_;rw[e];unfold Le
  lia
 have h1:=h.mv C.sa k (by lia) n;have V:ia + k < a.size->∀ q∈a.toList.drop (ia + k),Le b[ib] q:=fun I=>by
  have:=k3 k (bH _) (by lia);rw[dif_pos I]at this;have this:nk b[ib] < nk a[ia + k]:=by simpa using this
  refine C.sa.from (ay I).2 ?_;unfold Le
  lia
 by_cases O:k > 0
 ·rw[if_pos O];have h2:MI a.toList b.toList (out++a.extract ia (ia + k)).toList (ia + k) ib:=by rw[x9,kS]; exact h1
  by_cases e:ia + k + 1=a.size
  ·rw[if_pos (by simpa using e)];exact cC (q _ (.inl ⟨_,rfl,C.last h2 e⟩))
  ·rw[if_neg (by simpa using e)];by_cases d:ia + k=a.size
   ·rw[if_pos (by simpa using d)];exact cC (q _ (.inl ⟨_,rfl,gM (h2.lI C.sb (by rw[o]; exact d))⟩))
   ·rw[if_neg (by simpa using d)];exact zR hk C h2 (by lia) U (V (by lia)) (by lia) q
 ·rw[if_neg O];have e:k=0:=by lia
  subst e;exact zR hk C h l U (V hi) hc q
theorem FD{Q:ForInStep Gb->SortSt->Prop}(hk:kindOf st=Rk.kind)(C:MC a b){r:Gb}(h:J a b r.2.1 r.2.2.1 r.2.2.2.1)(hc:c<=r.2.2.1 + r.2.2.2.1 + 1)
  (q:∀ x,Jp a b c x->Q x st):wpS (model prog w) A E s (II a b mg r) Q st:=by
 obtain⟨d,out,ia,ib,ac,bc⟩:=r;obtain⟨h,Z,I⟩:=h;have h:MI a.toList b.toList out.toList ia ib:=h;have Z:ia + 1 < a.size:=Z;have I:ib < b.size:=I;have hc:c<=ia + ib + 1:=hc;have hi:ia < a.size:=by lia
 unfold II;dsimp only;refine bV (bC (ay I).1 (bV (bC (ay hi).1 (bV (pW hk (C.kb _ (dM I)) (C.ka _ (dM hi)) ?_)))));dsimp only;by_cases V:nk b[ib] < nk a[ia]
 ·rw[if_pos (gp V)];have h1:=(h.mR C.sb (ay I).2 (C.sa.from (ay hi).2 (yC V))).jM;refine bV (bC (ay I).1 ?_);by_cases e:ib + 1=b.size
  ·rw[if_pos (by simpa using e)];exact cC (q _ (.inl ⟨_,rfl,gM (h1.mL C.sa (by rw[dY]; exact e))⟩))
  ·rw[if_neg (by simpa using e)];have U:J a b (out.push b[ib]) ia (ib + 1):=⟨h1,Z,by lia⟩
   by_cases O:bc + 1 ≥ mg
   ·rw[if_pos O];exact cC (q _ (.inr ⟨rfl,U,by show c<=ia + (ib + 1); lia⟩))
   ·rw[if_neg O];exact cC (q _ ⟨rfl,U,by show c<=ia + (ib + 1); lia⟩)
 ·rw[if_neg (by simpa using V)];have h1:=(h.jP C.sa (ay hi).2 (C.sb.from (ay I).2 (by unfold Le; lia))).jM;refine bV (bC (ay hi).1 ?_);by_cases e:ia + 1 + 1=a.size
  ·rw[if_pos (by simpa using e)];exact cC (q _ (.inl ⟨_,rfl,C.last h1 e⟩))
  ·rw[if_neg (by simpa using e)];have U:J a b (out.push a[ia]) (ia + 1) ib:=⟨h1,by lia,I⟩
   by_cases O:ac + 1 ≥ mg
   ·rw[if_pos O];exact cC (q _ (.inr ⟨rfl,U,by show c<=ia + 1 + ib; lia⟩))
   ·rw[if_neg O];exact cC (q _ ⟨rfl,U,by show c<=ia + 1 + ib; lia⟩)
end
end
section
variable [Rk]
section
variable [f6 prog w A E s] {st:SortSt}
theorem rA{Q:Array Keyed->SortSt->Prop}(hk:kindOf st=Rk.kind)(C:MC a b)(ha:0 < a.size)(hb:0 < b.size)(q:∀ r g,cx a.toList b.toList r.toList->Q r (setG st g)):wpS (model prog w) A E s (mJ a b) Q st:=by
 rw[vg];have y:st=setG st (gallopOf st):=rfl;have Y:=dY (xs:=a);have S:=dY (xs:=b);have F:MI a.toList b.toList (#[b[0]]:Array Keyed).toList 0 1:=MI.nil.mR C.sb (ay hb).2 fun q W=>C.hf _ (ay hb).2 q W
 refine bV (wpS_lift (sT ⟨rfl,?_⟩));refine bV (bC (ay hb).1 ?_);by_cases H:1=b.size
 ·rw[if_pos (by simpa using H),y];exact cC (q _ _ (gM (F.mL C.sa (by rw[S]; exact H))))
 rw[if_neg (by simpa using H)];by_cases B:0 + 1=a.size
 ·rw[if_pos (by simpa using B),y];exact cC (q _ _ (C.last F B))
 rw[if_neg (by simpa using B)];refine bV (wpS_get ?_)
 refine bV (wpS_mono (tH (I:=fun i r O=>(∃ g,O=setG st g)/\r.1=none/\J a b r.2.1 r.2.2.1 r.2.2.2.1/\i<=r.2.2.1 + r.2.2.2.1)
  (Q:=fun r O=>(∃ g,O=setG st g)/\∃ x,r.1=some x/\cx a.toList b.toList x.toList) ?step ?fin ⟨⟨_,y⟩,rfl,⟨F,by show 0 + 1 < a.size; lia,by show 1 < b.size; lia⟩,dI _⟩) ?post)
 case fin=>
  rintro r O ⟨_,_,p,hi⟩
  have:=p.ha;have:=p.hb
  lia
 case post=>
  rintro⟨r0,r⟩ O ⟨⟨g,rfl⟩,x,e,v⟩
  have e:r0=some x:=e;subst e;exact cC (q _ _ v)
 case step=>
  rintro i ⟨r0,out,ia,ib,mg⟩ O _ hi ⟨⟨g,rfl⟩,er,p,R⟩
  have p:J a b out ia ib:=p;have R:i<=ia + ib:=R;dsimp only
  refine bV (wpS_mono (tH (I:=fun j r O=>O=setG st g/\r.1=none/\J a b r.2.1 r.2.2.1 r.2.2.2.1/\j<=r.2.2.1 + r.2.2.2.1/\(j=0->ia + ib<=r.2.2.1 + r.2.2.2.1)/\(0 < j->ia + ib + 1<=r.2.2.1 + r.2.2.2.1))
   (Q:=fun r O=>O=setG st g/\((∃ x,r.1=some x/\cx a.toList b.toList x.toList)\/(r.1=none/\J a b r.2.1 r.2.2.1 r.2.2.2.1/\ia + ib + 1<=r.2.2.1 + r.2.2.2.1))) ?step1 ?fin1 ⟨rfl,rfl,p,dI _,fun _=>bH _,fun z=>absurd z (Al _)⟩) ?post1)
  case fin1=>
   rintro r O ⟨_,_,hj',hi',_⟩
   have:=hj'.ha;have:=hj'.hb
   lia
  case step1=>
   rintro j r O _ f ⟨rfl,er1,Z,o,hj0,hjp⟩
   refine FD (c:=max (j + 1) (ia + ib + 1)) (by exact hk) C Z ?_ fun x V=>?_
   ·rcases Nat.eq_zero_or_pos j with z | z
    ·have:=hj0 z; lia
    ·have:=hjp z; lia
   ·cases x with
    | done D=>
     refine⟨rfl,?_⟩;rcases V with V | ⟨l,n,G⟩
     ·exact .inl V
     ·exact .inr ⟨l,n,by lia⟩
    | yield D=>
     obtain⟨l,n,G⟩:=V;exact⟨rfl,l,n,by lia,fun z=>by lia,fun _=>by lia⟩
  case post1=>
   rintro⟨q0,out1,ia1,ib1,ac1,bc1⟩ O ⟨rfl,h⟩
   rcases h with ⟨x,e,v⟩ | ⟨e,f,k⟩
   ·have e:q0=some x:=e;subst e;exact cC ⟨⟨_,rfl⟩,x,rfl,v⟩
   ·have e:q0=none:=e;subst e;have f:J a b out1 ia1 ib1:=f;have k:ia + ib + 1<=ia1 + ib1:=k;dsimp only;refine bV (wpS_lift (sT ⟨rfl,?_⟩))
    refine bV (wpS_mono (tH (I:=fun j r O=>(∃ g,O=setG st g)/\r.1=none/\J a b r.2.1 r.2.2.1 r.2.2.2.1/\j<=r.2.2.1 + r.2.2.2.1/\ia + ib + 1<=r.2.2.1 + r.2.2.2.1)
     (Q:=fun r O=>(∃ g,O=setG st g)/\((∃ x,r.1=some x/\cx a.toList b.toList x.toList)\/(r.1=none/\J a b r.2.1 r.2.2.1 r.2.2.2.1/\ia + ib + 1<=r.2.2.1 + r.2.2.2.1))) ?step2 ?fin2 ⟨⟨_,rfl⟩,rfl,f,dI _,k⟩) ?post2)
    case fin2=>
     rintro r O ⟨_,_,hj',hi',_⟩
     have:=hj'.ha;have:=hj'.hb
     lia
    case step2=>
     rintro j ⟨p0,out2,ia2,ib2,mg2,ac2,bc2⟩ O _ d ⟨⟨g2,rfl⟩,er2,Z,o,u⟩
     have Z:J a b out2 ia2 ib2:=Z;have o:j<=ia2 + ib2:=o;have u:ia + ib + 1<=ia2 + ib2:=u;have M:∀ (m:Nat) (L:ForInStep yp->SortSt->Prop),(∀ r g,GP a b (max (j + 1) (ia + ib + 1)) r->L r (setG st g))->wpS (model prog w) A E s (gc m >>= fun _=>lo1 a b out2 ia2 ib2 m ac2 bc2) L (setG st g2):=fun m L T=>by
      rw[jk];refine bV (wpS_modify ?_);exact Eo (by exact hk) C Z (by lia) fun x V=>T x m V
     have fin:∀ (x:ForInStep yp) (g:Nat),GP a b (max (j + 1) (ia + ib + 1)) x->(match x with | .done U=>(∃ g',setG st g=setG st g')/\((∃ x,U.1=some x/\cx a.toList b.toList x.toList)\/(U.1=none/\J a b U.2.1 U.2.2.1 U.2.2.2.1/\ia + ib + 1<=U.2.2.1 + U.2.2.2.1)) | .yield U=>(∃ g',setG st g=setG st g')/\U.1=none/\J a b U.2.1 U.2.2.1 U.2.2.2.1/\j + 1<=U.2.2.1 + U.2.2.2.1/\ia + ib + 1<=U.2.2.1 + U.2.2.2.1):=fun x m V=>by
      cases x with
      | done D=>
       refine⟨⟨m,rfl⟩,?_⟩;rcases V with V | ⟨l,n,G⟩
       ·exact .inl V
       ·exact .inr ⟨l,n,by lia⟩
      | yield D=>
       obtain⟨l,n,G⟩:=V;exact⟨⟨m,rfl⟩,l,n,by lia,by lia⟩
     unfold IZ;dsimp only;by_cases N:mg2 > 1
     ·rw[if_pos N];refine M _ _ fun x m V=>?_
      have:=fin x m V;cases x <;> exact this
     ·rw[if_neg N];refine M _ _ fun x m V=>?_
      have:=fin x m V;cases x <;> exact this
    case post2=>
     rintro⟨q2,out2,ia2,ib2,mg2,ac2,bc2⟩ O ⟨⟨g2,rfl⟩,h⟩
     rcases h with ⟨x,e,v⟩ | ⟨e,d,t⟩
     ·have e:q2=some x:=e;subst e;exact cC ⟨⟨_,rfl⟩,x,rfl,v⟩
     ·have e:q2=none:=e;subst e;have d:J a b out2 ia2 ib2:=d;have t:ia + ib + 1<=ia2 + ib2:=t;dsimp only;rw[jk];refine bV (wpS_modify (cC ⟨⟨_,rfl⟩,rfl,d,?_⟩));show i + 1<=ia2 + ib2
      lia
end
end
section
variable [Rk]
def mW:Array Keyed->Array Keyed->SM (Array Keyed):=sortPriv% PySem.Builtin.mergeHi
abbrev yc:Type:=Option (Array Keyed) × Nat × Nat × Array Keyed × Nat × Nat × Nat
abbrev Gu:Type:=Option (Array Keyed) × Nat × Nat × Array Keyed × Nat × Nat
section
variable (a b:Array Keyed)
abbrev jx(out:Array Keyed)(na nb:Nat):Array Keyed:=a.extract 0 na++b.extract 0 nb++out.reverse
abbrev jG(out:Array Keyed)(na nb:Nat):Array Keyed:=b.extract 0 nb++a.extract 0 na++out.reverse
def Iq(out:Array Keyed)(na nb mg ac bc:Nat):SM (ForInStep yc):=do
 let ea <-elem' a (na - 1)
 if (na - 1 == 0)=true then pure (ForInStep.done (some (jx a b (out.push ea) (na - 1) nb),na - 1,nb,out.push ea,mg,ac,bc))
 else if (decide (ac < 7) && decide (bc < 7))=true then pure (ForInStep.done (none,na - 1,nb,out.push ea,mg,ac,bc))
 else pure (ForInStep.yield (none,na - 1,nb,out.push ea,mg,ac,bc))
def HB(out:Array Keyed)(na nb mg ac bc:Nat):SM (ForInStep yc):=do
 let ea <-elem' a (na - 1)
 let some t <-fG true ea b 0 nb (nb - 1) | pure (ForInStep.done (some (jx a b out na nb),na,nb,out,mg,ac,bc))
 if nb - t > 0 then
  if (t == 1)=true then pure (ForInStep.done (some (jG a b (out++(b.extract t nb).reverse) na t),na,t,out++(b.extract t nb).reverse,mg,ac,nb - t))
  else if (t == 0)=true then pure (ForInStep.done (some (jx a b (out++(b.extract t nb).reverse) na t),na,t,out++(b.extract t nb).reverse,mg,ac,nb - t))
  else Iq a b (out++(b.extract t nb).reverse) na t mg ac (nb - t)
 else Iq a b out na nb mg ac (nb - t)
def DV(out:Array Keyed)(na nb mg ac bc:Nat):SM (ForInStep yc):=do
 let eb <-elem' b (nb - 1)
 if (nb - 1 == 1)=true then pure (ForInStep.done (some (jG a b (out.push eb) na (nb - 1)),na,nb - 1,out.push eb,mg,ac,bc))
 else HB a b (out.push eb) na (nb - 1) mg ac bc
def FU(out:Array Keyed)(na nb mg ac bc:Nat):SM (ForInStep yc):=do
 let eb <-elem' b (nb - 1)
 let some t <-fG false eb a 0 na (na - 1) | pure (ForInStep.done (some (jx a b out na nb),na,nb,out,mg,ac,bc))
 if na - t > 0 then
  if (t == 0)=true then pure (ForInStep.done (some (jx a b (out++(a.extract t na).reverse) t nb),t,nb,out++(a.extract t na).reverse,mg,na - t,bc))
  else DV a b (out++(a.extract t na).reverse) t nb mg (na - t) bc
 else DV a b out na nb mg (na - t) bc
def IX(r:yc):SM (ForInStep yc):=
 if r.2.2.2.2.1 > 1 then do
  gc (r.2.2.2.2.1 - 1)
  FU a b r.2.2.2.1 r.2.1 r.2.2.1 (r.2.2.2.2.1 - 1) r.2.2.2.2.2.1 r.2.2.2.2.2.2
 else do
  gc r.2.2.2.2.1
  FU a b r.2.2.2.1 r.2.1 r.2.2.1 r.2.2.2.2.1 r.2.2.2.2.2.1 r.2.2.2.2.2.2
def Cu(mg:Nat)(r:Gu):SM (ForInStep Gu):=do
 let eb <-elem' b (r.2.2.1 - 1)
 let ea <-elem' a (r.2.1 - 1)
 let some wins <-lt' eb ea | pure (ForInStep.done (some (jx a b r.2.2.2.1 r.2.1 r.2.2.1),r.2.1,r.2.2.1,r.2.2.2.1,r.2.2.2.2.1,r.2.2.2.2.2))
 if wins=true then do
  let ea <-elem' a (r.2.1 - 1)
  if (r.2.1 - 1 == 0)=true then pure (ForInStep.done (some (jx a b (r.2.2.2.1.push ea) (r.2.1 - 1) r.2.2.1),r.2.1 - 1,r.2.2.1,r.2.2.2.1.push ea,r.2.2.2.2.1 + 1,0))
  else if r.2.2.2.2.1 + 1 ≥ mg then pure (ForInStep.done (none,r.2.1 - 1,r.2.2.1,r.2.2.2.1.push ea,r.2.2.2.2.1 + 1,0))
  else pure (ForInStep.yield (none,r.2.1 - 1,r.2.2.1,r.2.2.2.1.push ea,r.2.2.2.2.1 + 1,0))
 else do
  let eb <-elem' b (r.2.2.1 - 1)
  if (r.2.2.1 - 1 == 1)=true then pure (ForInStep.done (some (jG a b (r.2.2.2.1.push eb) r.2.1 (r.2.2.1 - 1)),r.2.1,r.2.2.1 - 1,r.2.2.2.1.push eb,0,r.2.2.2.2.2 + 1))
  else if r.2.2.2.2.2 + 1 ≥ mg then pure (ForInStep.done (none,r.2.1,r.2.2.1 - 1,r.2.2.2.1.push eb,0,r.2.2.2.2.2 + 1))
  else pure (ForInStep.yield (none,r.2.1,r.2.2.1 - 1,r.2.2.2.1.push eb,0,r.2.2.2.2.2 + 1))
end
theorem uE(a b:Array Keyed):mW a b=(do
  liftM (rule "list.sort.merge-hi")
  let e0 <-elem' a (a.size - 1)
  if (a.size - 1 == 0)=true then pure (jx a b #[e0] (a.size - 1) b.size)
  else if (b.size == 1)=true then pure (jG a b #[e0] (a.size - 1) b.size)
  else do
   let g <-get
   let r <-forIn [:a.size + b.size] ((none:Option (Array Keyed)),a.size - 1,b.size,#[e0],gallopOf g) fun _ r=>do
    let r1 <-forIn [:a.size + b.size] ((none:Option (Array Keyed)),r.2.1,r.2.2.1,r.2.2.2.1,0,0) fun _ r1=>Cu a b r.2.2.2.2 r1
    match r1.1 with
    | some x=>pure (ForInStep.done (some x,r1.2.1,r1.2.2.1,r1.2.2.2.1,r.2.2.2.2))
    | none=>do
     liftM (rule "list.sort.gallop")
     let r2 <-forIn [:a.size + b.size] ((none:Option (Array Keyed)),r1.2.1,r1.2.2.1,r1.2.2.2.1,r.2.2.2.2 + 1,r1.2.2.2.2.1,r1.2.2.2.2.2) fun _ r2=>IX a b r2
     match r2.1 with
     | some x=>pure (ForInStep.done (some x,r2.2.1,r2.2.2.1,r2.2.2.2.1,r2.2.2.2.2.1))
     | none=>do
      gc (r2.2.2.2.2.1 + 1)
      pure (ForInStep.yield (none,r2.2.1,r2.2.2.1,r2.2.2.2.1,r2.2.2.2.2.1 + 1))
   match r.1 with
   | some x=>pure x
   | none=>unsupported "internal:list.sort.merge-bound"):=by kernel_rfl
structure JH (a b out:Array Keyed) (na nb:Nat):Prop where
 mh:MH a.toList b.toList out.reverse.toList na nb
 ha:1<=na
 hb:2<=nb
def HP(a b:Array Keyed)(c:Nat):ForInStep yc->Prop
 | .done r=>(∃ x,r.1=some x/\cx a.toList b.toList x.toList)\/(r.1=none/\JH a b r.2.2.2.1 r.2.1 r.2.2.1/\r.2.1 + r.2.2.1<=c)
 | .yield r=>r.1=none/\JH a b r.2.2.2.1 r.2.1 r.2.2.1/\r.2.1 + r.2.2.1<=c
def JB(a b:Array Keyed)(c:Nat):ForInStep Gu->Prop
 | .done r=>(∃ x,r.1=some x/\cx a.toList b.toList x.toList)\/(r.1=none/\JH a b r.2.2.2.1 r.2.1 r.2.2.1/\r.2.1 + r.2.2.1<=c)
 | .yield r=>r.1=none/\JH a b r.2.2.2.1 r.2.1 r.2.2.1/\r.2.1 + r.2.2.1<=c
theorem kg(a:Array Keyed)(i:Nat):(a.extract 0 i).toList=a.toList.take i:=by
 rw[Array.toList_extract];show (a.toList.drop 0).take (i - 0)=_;rw[List.drop_zero,Nat.sub_zero]
section
variable [f6 prog w A E s] {st:SortSt}{out:Array Keyed}{mg:Nat}
theorem jw(h:cx a.toList b.toList (a.toList.take na++b.toList.take nb++out.reverse.toList)):cx a.toList b.toList (jx a b out na nb).toList:=by
 rw[x9,x9,kg,kg]; exact h
theorem MC.first(C:MC a b)(h:MH a.toList b.toList out.reverse.toList na 1):cx a.toList b.toList (jG a b out na 1).toList:=by
 rw[x9,x9,kg,kg];refine h.first C.sa C.sb fun q J p O=>?_
 have I:0 < b.size:=by have:=h.lb; rw[dY]at this; lia
 rw[take_snoc (i:=0) (ay I).2,BG,List.nil_append,fS]at J;rw[J];exact C.hf _ (ay I).2 p (List.mem_of_mem_take O)
theorem MH.jM{xs:List Keyed}(h:MH xs ys (p::out.reverse.toList) na nb):MH xs ys (out.push p).reverse.toList na nb:=by
 rw[Array.reverse_push,x9]; exact h
theorem MH.many1{l:Array Keyed}{xs:List Keyed}(h:MH xs ys (l.toList++out.reverse.toList) na nb):MH xs ys (out++l.reverse).reverse.toList na nb:=by
 rw[Array.reverse_append,Array.reverse_reverse,x9]; exact h
theorem DC(h:So xs.toList)(hij:i<=j)(hj:j < xs.size):Le (xs[i]'(by lia)) xs[j]:=by
 have hi:i < xs.size:=by lia
 rcases Nat.eq_or_lt_of_le hij with e | e
 ·subst e; exact yA _
 ·refine h.head (ay hi).2 _ ?_;exact oY (i:=j - i - 1) (by rw[Ee,show i + 1 + (j - i - 1)=j by lia]; exact (ay hj).2)
theorem yX{Q:ForInStep yc->SortSt->Prop}(C:MC a b)(h:MH a.toList b.toList out.reverse.toList na nb)(ha:1<=na)(hb:2<=nb)(hla:na - 1 < a.size)(hle:∀ q∈b.toList.take nb,Le q a[na - 1])(hc:na + nb<=c + 1)
  (q:∀ r,HP a b c r->Q r st):wpS (model prog w) A E s (Iq a b out na nb mg ac bc) Q st:=by
 obtain⟨m,rfl⟩:∃ m,na=m + 1:=⟨na - 1,by lia⟩
 have hla:m < a.size:=hla;have h1:=(MH.jP h C.sa (ay hla).2 hle).jM;refine bV (bC (ay hla).1 ?_);by_cases e:m=0
 ·rw[if_pos (by simpa using e)];exact cC (q _ (.inl ⟨_,rfl,jw (h1.lI C.sb e)⟩))
 ·rw[if_neg (by simpa using e)];have J:JH a b (out.push a[m]) m nb:=⟨h1,by lia,hb⟩
  by_cases I:(decide (ac < 7) && decide (bc < 7))=true
  ·rw[if_pos I];exact cC (q _ (.inr ⟨rfl,J,by show m + nb<=c; lia⟩))
  ·rw[if_neg I];exact cC (q _ ⟨rfl,J,by show m + nb<=c; lia⟩)
theorem Fz{Q:ForInStep yc->SortSt->Prop}(hk:kindOf st=Rk.kind)(C:MC a b)(h:MH a.toList b.toList out.reverse.toList na nb)(ha:1<=na)(hb:2<=nb)(hc:na + nb<=c + 1)
  (q:∀ r,HP a b c r->Q r st):wpS (model prog w) A E s (HB a b out na nb mg ac bc) Q st:=by
 have o:=h.la;have g:=h.lb;rw[dY]at o g;have hi:na - 1 < a.size:=by lia
 have G:qh true a[na - 1] b 0 nb (fun i=>if hi:i < b.size then decide (nk b[i] < nk a[na - 1]) else false):=by
  refine⟨C.ka _ (dM hi),fun i u=>?_,fun i j V f Z=>?_⟩
  ·have I:i < b.size:=by lia
   exact⟨b[i],by rw[Nat.zero_add]; exact (ay I).1,C.kb _ (dM I),by rw[dif_pos I]; rfl⟩
  ·have I:j < b.size:=by lia
   have k:i < b.size:=by lia
   rw[dif_pos I]at Z;rw[dif_pos k];have Z:=jV Z;have:=DC C.sb V I;unfold Le at this;exact gp (by lia)
 refine bV (bC (ay hi).1 ?_);refine bV (dU hk G (by lia) fun t k1 k2 k3=>?_);dsimp only;have O:∀ q∈b.toList.take t,Le q a[na - 1]:=fun q n=>by
  obtain⟨j,U⟩:=BQ.mp n;have f:j < t:=by have:=(dJ.mp U).1; rw[gx]at this; lia
  rw[List.getElem?_take,if_pos f]at U;have I:j < b.size:=by lia
  rw[(ay I).2]at U;cases U;have:=k2 j f;rw[dif_pos I]at this;exact yC (jV this)
 have h1:MH a.toList b.toList ((b.toList.drop t).take (nb - t)++out.reverse.toList) na t:=by
  refine MH.Bs C.sb (nb - t) (by rw[show t + (nb - t)=nb by lia]; exact h) fun i p l v ep=>?_
  have I:i < b.size:=by lia
  rw[(ay I).2]at ep;cases ep;have:=k3 i l (by lia);rw[dif_pos I]at this;have this:=of_decide_eq_false this;obtain⟨m,rfl⟩:∃ m,na=m + 1:=⟨na - 1,by lia⟩
  refine C.sa.Dl (ay (show m < a.size from hi)).2 ?_;unfold Le;have this:¬ nk b[i] < nk a[m]:=this
  lia
 by_cases J:nb - t > 0
 ·rw[if_pos J];have h2:MH a.toList b.toList (out++(b.extract t nb).reverse).reverse.toList na t:=by
   refine MH.many1 ?_;have:=kS b t (nb - t);rw[show t + (nb - t)=nb by lia]at this;rw[this];exact h1
  by_cases e:t=1
  ·rw[if_pos (by simpa using e)];subst e;exact cC (q _ (.inl ⟨_,rfl,C.first h2⟩))
  ·rw[if_neg (by simpa using e)];by_cases d:t=0
   ·rw[if_pos (by simpa using d)];exact cC (q _ (.inl ⟨_,rfl,jw (h2.mL C.sa d)⟩))
   ·rw[if_neg (by simpa using d)];exact yX C h2 ha (by lia) hi O (by lia) q
 ·rw[if_neg J];have e:t=nb:=by lia
  subst e;exact yX C h ha hb hi O hc q
theorem AS{Q:ForInStep yc->SortSt->Prop}(hk:kindOf st=Rk.kind)(C:MC a b)(h:MH a.toList b.toList out.reverse.toList na nb)(ha:1<=na)(hb:2<=nb)(hlb:nb - 1 < b.size)(hle:∀ q∈a.toList.take na,Le q b[nb - 1])(hc:na + nb<=c + 1)
  (q:∀ r,HP a b c r->Q r st):wpS (model prog w) A E s (DV a b out na nb mg ac bc) Q st:=by
 obtain⟨m,rfl⟩:∃ m,nb=m + 1:=⟨nb - 1,by lia⟩
 have hlb:m < b.size:=hlb;have h1:=(MH.mR h C.sb (ay hlb).2 hle).jM;refine bV (bC (ay hlb).1 ?_);by_cases e:m=1
 ·rw[if_pos (by simpa using e)];subst e;exact cC (q _ (.inl ⟨_,rfl,C.first h1⟩))
 ·rw[if_neg (by simpa using e)];exact Fz hk C h1 ha (show 2<=m by lia) (show na + m<=c + 1 by lia) q
theorem Ew{Q:ForInStep yc->SortSt->Prop}(hk:kindOf st=Rk.kind)(C:MC a b)(h:JH a b out na nb)(hc:na + nb<=c + 1)
  (q:∀ r,HP a b c r->Q r st):wpS (model prog w) A E s (FU a b out na nb mg ac bc) Q st:=by
 obtain⟨h,n,g⟩:=h;have v:=h.la;have k:=h.lb;rw[dY]at v k;have hi:nb - 1 < b.size:=by lia
 have G:qh false b[nb - 1] a 0 na (fun i=>if hi:i < a.size then !decide (nk b[nb - 1] < nk a[i]) else false):=by
  refine⟨C.kb _ (dM hi),fun i x=>?_,fun i j V f Z=>?_⟩
  ·have I:i < a.size:=by lia
   exact⟨a[i],by rw[Nat.zero_add]; exact (ay I).1,C.ka _ (dM I),by rw[dif_pos I]; rfl⟩
  ·have I:j < a.size:=by lia
   have l:i < a.size:=by lia
   rw[dif_pos I]at Z;rw[dif_pos l];have Z:¬ nk b[nb - 1] < nk a[j]:=by simpa using Z
   have:=DC C.sa V I;unfold Le at this;have:¬ nk b[nb - 1] < nk a[i]:=by lia
   simpa using this
 refine bV (bC (ay hi).1 ?_);refine bV (dU hk G (by lia) fun t k1 k2 k3=>?_);dsimp only;have O:∀ q∈a.toList.take t,Le q b[nb - 1]:=fun q u=>by
  obtain⟨j,U⟩:=BQ.mp u;have f:j < t:=by have:=(dJ.mp U).1; rw[gx]at this; lia
  rw[List.getElem?_take,if_pos f]at U;have I:j < a.size:=by lia
  rw[(ay I).2]at U;cases U;have:=k2 j f;rw[dif_pos I]at this;have this:¬ nk b[nb - 1] < nk a[j]:=by simpa using this
  unfold Le
  lia
 have h1:MH a.toList b.toList ((a.toList.drop t).take (na - t)++out.reverse.toList) t nb:=by
  refine MH.mv C.sa (na - t) (by rw[show t + (na - t)=na by lia]; exact h) fun i p o y ep=>?_
  have I:i < a.size:=by lia
  rw[(ay I).2]at ep;cases ep;have:=k3 i o (by lia);rw[dif_pos I]at this;have this:nk b[nb - 1] < nk a[i]:=by simpa using this
  obtain⟨m,rfl⟩:∃ m,nb=m + 1:=⟨nb - 1,by lia⟩
  refine C.sb.Dl (ay (show m < b.size from hi)).2 ?_;unfold Le;have this:nk b[m] < nk a[i]:=this
  lia
 by_cases J:na - t > 0
 ·rw[if_pos J];have h2:MH a.toList b.toList (out++(a.extract t na).reverse).reverse.toList t nb:=by
   refine MH.many1 ?_;have:=kS a t (na - t);rw[show t + (na - t)=na by lia]at this;rw[this];exact h1
  by_cases d:t=0
  ·rw[if_pos (by simpa using d)];exact cC (q _ (.inl ⟨_,rfl,jw (h2.lI C.sb d)⟩))
  ·rw[if_neg (by simpa using d)];exact AS hk C h2 (by lia) g hi O (by lia) q
 ·rw[if_neg J];have e:t=na:=by lia
  subst e;exact AS hk C h n g hi O hc q
theorem En{Q:ForInStep Gu->SortSt->Prop}(hk:kindOf st=Rk.kind)(C:MC a b){r:Gu}(h:JH a b r.2.2.2.1 r.2.1 r.2.2.1)(hc:r.2.1 + r.2.2.1<=c + 1)
  (q:∀ x,JB a b c x->Q x st):wpS (model prog w) A E s (Cu a b mg r) Q st:=by
 obtain⟨g,na,nb,out,ac,bc⟩:=r;obtain⟨h,Z,V⟩:=h;have h:MH a.toList b.toList out.reverse.toList na nb:=h;have Z:1<=na:=Z;have V:2<=nb:=V;have hc:na + nb<=c + 1:=hc;have f:=h.la;have d:=h.lb;rw[dY]at f d;obtain⟨i,rfl⟩:∃ i,na=i + 1:=⟨na - 1,by lia⟩
 obtain⟨j,rfl⟩:∃ j,nb=j + 1:=⟨nb - 1,by lia⟩
 have hi:i < a.size:=by lia
 have O:j < b.size:=by lia
 unfold Cu;dsimp only;simp only[Nat.add_sub_cancel];refine bV (bC (ay O).1 (bV (bC (ay hi).1 (bV (pW hk (C.kb _ (dM O)) (C.ka _ (dM hi)) ?_)))));dsimp only;by_cases U:nk b[j] < nk a[i]
 ·rw[if_pos (gp U)];have h1:=(MH.jP h C.sa (ay hi).2 (C.sb.Dl (ay O).2 (yC U))).jM;refine bV (bC (ay hi).1 ?_);by_cases e:i=0
  ·rw[if_pos (by simpa using e)];exact cC (q _ (.inl ⟨_,rfl,jw (h1.lI C.sb e)⟩))
  ·rw[if_neg (by simpa using e)];have I:JH a b (out.push a[i]) i (j + 1):=⟨h1,by lia,V⟩
   by_cases J:ac + 1 ≥ mg
   ·rw[if_pos J];exact cC (q _ (.inr ⟨rfl,I,by show i + (j + 1)<=c; lia⟩))
   ·rw[if_neg J];exact cC (q _ ⟨rfl,I,by show i + (j + 1)<=c; lia⟩)
 ·rw[if_neg (by simpa using U)];have h1:=(MH.mR h C.sb (ay O).2 (C.sa.Dl (ay hi).2 (by unfold Le; lia))).jM;refine bV (bC (ay O).1 ?_);by_cases e:j=1
  ·rw[if_pos (by simpa using e)];subst e;exact cC (q _ (.inl ⟨_,rfl,C.first h1⟩))
  ·rw[if_neg (by simpa using e)];have I:JH a b (out.push b[j]) (i + 1) j:=⟨h1,by lia,by lia⟩
   by_cases J:bc + 1 ≥ mg
   ·rw[if_pos J];exact cC (q _ (.inr ⟨rfl,I,by show i + 1 + j<=c; lia⟩))
   ·rw[if_neg J];exact cC (q _ ⟨rfl,I,by show i + 1 + j<=c; lia⟩)
end
end
section
variable [Rk]
section
variable [f6 prog w A E s] {st:SortSt}
theorem qX{Q:Array Keyed->SortSt->Prop}(hk:kindOf st=Rk.kind)(C:MC a b)(ha:0 < a.size)(hb:0 < b.size)(q:∀ r g,cx a.toList b.toList r.toList->Q r (setG st g)):wpS (model prog w) A E s (mW a b) Q st:=by
 rw[uE];have D:st=setG st (gallopOf st):=rfl;have Y:=dY (xs:=a);have R:=dY (xs:=b);have l:a.size - 1 < a.size:=by lia
 have y:MH a.toList b.toList (#[a[a.size - 1]]:Array Keyed).reverse.toList (a.size - 1) b.size:=by
  have h1:MH a.toList b.toList [] (a.size - 1 + 1) b.size:=by
   have:=MH.nil (xs:=a.toList) (ys:=b.toList);rw[Y,R]at this;rw[show a.size - 1 + 1=a.size by lia];exact this
  exact h1.jP C.sa (ay l).2 fun q hq=>C.hl q (List.mem_of_mem_take hq) _ (ay l).2
 refine bV (wpS_lift (sT ⟨rfl,?_⟩));refine bV (bC (ay l).1 ?_);by_cases M:a.size - 1=0
 ·rw[if_pos (by simpa using M),D];exact cC (q _ _ (jw (y.lI C.sb M)))
 rw[if_neg (by simpa using M)];by_cases G:b.size=1
 ·rw[if_pos (by simpa using G),D];rw[G]at y |-;exact cC (q _ _ (C.first y))
 rw[if_neg (by simpa using G)];refine bV (wpS_get ?_)
 refine bV (wpS_mono (tH (I:=fun i r J=>(∃ g,J=setG st g)/\r.1=none/\JH a b r.2.2.2.1 r.2.1 r.2.2.1/\i + (r.2.1 + r.2.2.1)<=a.size + b.size)
  (Q:=fun r J=>(∃ g,J=setG st g)/\∃ x,r.1=some x/\cx a.toList b.toList x.toList) ?step ?fin ⟨⟨_,D⟩,rfl,⟨y,by show 1<=a.size - 1; lia,by show 2<=b.size; lia⟩,by show 0 + (a.size - 1 + b.size)<=a.size + b.size; lia⟩) ?post)
 case fin=>
  rintro r J ⟨_,_,Z,hi⟩
  have:=Z.ha;have:=Z.hb
  lia
 case post=>
  rintro⟨r0,r⟩ J ⟨⟨g,rfl⟩,x,e,v⟩
  have e:r0=some x:=e;subst e;exact cC (q _ _ v)
 case step=>
  rintro i ⟨r0,ia,ib,out,mg⟩ J _ hi ⟨⟨g,rfl⟩,er,Z,W⟩
  have Z:JH a b out ia ib:=Z;have W:i + (ia + ib)<=a.size + b.size:=W;have hx3:1<=ia:=Z.ha;have hx4:2<=ib:=Z.hb;have F:=Z.mh.la;have B:=Z.mh.lb;rw[Y]at F;rw[R]at B;dsimp only
  refine bV (wpS_mono (tH (I:=fun j r J=>J=setG st g/\r.1=none/\JH a b r.2.2.2.1 r.2.1 r.2.2.1/\j + (r.2.1 + r.2.2.1)<=a.size + b.size/\(j=0->r.2.1 + r.2.2.1<=ia + ib)/\(0 < j->r.2.1 + r.2.2.1 + 1<=ia + ib))
   (Q:=fun r J=>J=setG st g/\((∃ x,r.1=some x/\cx a.toList b.toList x.toList)\/(r.1=none/\JH a b r.2.2.2.1 r.2.1 r.2.2.1/\r.2.1 + r.2.2.1 + 1<=ia + ib))) ?step1 ?fin1 ⟨rfl,rfl,Z,by show 0 + (ia + ib)<=_; lia,fun _=>bH _,fun z=>absurd z (Al _)⟩) ?post1)
  case fin1=>
   rintro r J ⟨_,_,hj',hi',_⟩
   have:=hj'.ha;have:=hj'.hb
   lia
  case step1=>
   rintro j r J _ f ⟨rfl,er1,V,p,hj0,hjp⟩
   refine En (c:=min (a.size + b.size - (j + 1)) (ia + ib - 1)) (by exact hk) C V ?_ fun x U=>?_
   ·rcases Nat.eq_zero_or_pos j with z | z
    ·have:=hj0 z; lia
    ·have:=hjp z; lia
   ·cases x with
    | done H=>
     refine⟨rfl,?_⟩;rcases U with U | ⟨n,o,L⟩
     ·exact .inl U
     ·exact .inr ⟨n,o,by lia⟩
    | yield H=>
     obtain⟨n,o,L⟩:=U;exact⟨rfl,n,o,by lia,fun z=>by lia,fun _=>by lia⟩
  case post1=>
   rintro⟨q0,ia1,ib1,out1,ac1,bc1⟩ J ⟨rfl,h⟩
   rcases h with ⟨x,e,v⟩ | ⟨e,f,k⟩
   ·have e:q0=some x:=e;subst e;exact cC ⟨⟨_,rfl⟩,x,rfl,v⟩
   ·have e:q0=none:=e;subst e;have f:JH a b out1 ia1 ib1:=f;have k:ia1 + ib1 + 1<=ia + ib:=k;dsimp only;refine bV (wpS_lift (sT ⟨rfl,?_⟩))
    refine bV (wpS_mono (tH (I:=fun j r J=>(∃ g,J=setG st g)/\r.1=none/\JH a b r.2.2.2.1 r.2.1 r.2.2.1/\j + (r.2.1 + r.2.2.1)<=a.size + b.size/\r.2.1 + r.2.2.1 + 1<=ia + ib)
     (Q:=fun r J=>(∃ g,J=setG st g)/\((∃ x,r.1=some x/\cx a.toList b.toList x.toList)\/(r.1=none/\JH a b r.2.2.2.1 r.2.1 r.2.2.1/\r.2.1 + r.2.2.1 + 1<=ia + ib))) ?step2 ?fin2 ⟨⟨_,rfl⟩,rfl,f,by show 0 + (ia1 + ib1)<=_; lia,k⟩) ?post2)
    case fin2=>
     rintro r J ⟨_,_,hj',hi',_⟩
     have:=hj'.ha;have:=hj'.hb
     lia
    case step2=>
     rintro j ⟨p0,ia2,ib2,out2,mg2,ac2,bc2⟩ J _ d ⟨⟨g2,rfl⟩,er2,V,p,u⟩
     have V:JH a b out2 ia2 ib2:=V;have p:j + (ia2 + ib2)<=a.size + b.size:=p;have u:ia2 + ib2 + 1<=ia + ib:=u;have S:∀ (m:Nat) (N:ForInStep yc->SortSt->Prop),(∀ r g,HP a b (min (a.size + b.size - (j + 1)) (ia + ib - 1)) r->N r (setG st g))->wpS (model prog w) A E s (gc m >>= fun _=>FU a b out2 ia2 ib2 m ac2 bc2) N (setG st g2):=fun m N hQ=>by
      rw[jk];refine bV (wpS_modify ?_);exact Ew (by exact hk) C V (by lia) fun x U=>hQ x m U
     have fin:∀ (x:ForInStep yc) (g:Nat),HP a b (min (a.size + b.size - (j + 1)) (ia + ib - 1)) x->(match x with | .done O=>(∃ g',setG st g=setG st g')/\((∃ x,O.1=some x/\cx a.toList b.toList x.toList)\/(O.1=none/\JH a b O.2.2.2.1 O.2.1 O.2.2.1/\O.2.1 + O.2.2.1 + 1<=ia + ib)) | .yield O=>(∃ g',setG st g=setG st g')/\O.1=none/\JH a b O.2.2.2.1 O.2.1 O.2.2.1/\j + 1 + (O.2.1 + O.2.2.1)<=a.size + b.size/\O.2.1 + O.2.2.1 + 1<=ia + ib):=fun x m U=>by
      cases x with
      | done H=>
       refine⟨⟨m,rfl⟩,?_⟩;rcases U with U | ⟨n,o,L⟩
       ·exact .inl U
       ·exact .inr ⟨n,o,by lia⟩
      | yield H=>
       obtain⟨n,o,L⟩:=U;exact⟨⟨m,rfl⟩,n,o,by lia,by lia⟩
     unfold IX;dsimp only;by_cases T:mg2 > 1
     ·rw[if_pos T];refine S _ _ fun x m U=>?_
      have:=fin x m U;cases x <;> exact this
     ·rw[if_neg T];refine S _ _ fun x m U=>?_
      have:=fin x m U;cases x <;> exact this
    case post2=>
     rintro⟨q2,ia2,ib2,out2,mg2,ac2,bc2⟩ J ⟨⟨g2,rfl⟩,h⟩
     rcases h with ⟨x,e,v⟩ | ⟨e,d,t⟩
     ·have e:q2=some x:=e;subst e;exact cC ⟨⟨_,rfl⟩,x,rfl,v⟩
     ·have e:q2=none:=e;subst e;have d:JH a b out2 ia2 ib2:=d;have t:ia2 + ib2 + 1<=ia + ib:=t;dsimp only;rw[jk];refine bV (wpS_modify (cC ⟨⟨_,rfl⟩,rfl,d,?_⟩));show i + 1 + (ia2 + ib2)<=a.size + b.size
      lia
end
end
section
variable [Rk]
def Seg(xs:Array Keyed)(lo n:Nat):Prop:=∀ i j,lo<=i->i<=j->j < lo + n->K xs i<=K xs j
def Dec(xs:Array Keyed)(lo n:Nat):Prop:=∀ i j,lo<=i->i<=j->j < lo + n->K xs j<=K xs i
structure SB (a₀:Array Keyed) (P:Array (Nat × Nat × Nat)) (xs:Array Keyed) (lo:Nat) (st:SortSt):Prop where
 perm:(arrOf st).Perm a₀
 kind:kindOf st=Rk.kind
 failed:failedOf st=none
 pend:pendingOf st=P
 low:∀ i,i < lo->K (arrOf st) i=K xs i
section
variable [f6 prog w A E s] {st:SortSt}
theorem SB.size(h:SB a₀ P xs lo st):(arrOf st).size=a₀.size:=h.perm.size_eq
theorem SB.set(h:SB a₀ P xs lo st){ys:Array Keyed}(hp:ys.Perm (arrOf st))(hl:∀ i,i < lo->K ys i=K (arrOf st) i):SB a₀ P xs lo (setArr st ys):=
 ⟨hp.trans h.perm,h.kind,h.failed,h.pend,fun i hi=>(hl i hi).trans (h.low i hi)⟩
theorem SB.lt(h:SB a₀ P xs lo st)(h0:IntKeys a₀){Q:Option Bool->SortSt->Prop}(hi:i < a₀.size)(hj:j < a₀.size)
  (q:Q (some (decide (K (arrOf st) i < K (arrOf st) j))) st):wpS (model prog w) A E s (ltAt' i j) Q st:=by
 obtain⟨p,I,k1,n1⟩:=A5 h.perm h0 hi;obtain⟨r,J,k2,n2⟩:=A5 h.perm h0 hj;exact wpS_ltAt h.kind I J k1 k2 (by rw[n1,n2]; exact q)
theorem SB.Hy(h:SB a₀ P xs lo st)(hi:lo<=i)(hj:j<=a₀.size):SB a₀ P xs lo (setArr st (mirror (arrOf st) i j ((j - i) / 2))):=
 h.set (mirror_perm _ _ _ _) fun k I=>by rw[K_mirror (by rw[h.size]; exact hj),if_neg (by lia)]
theorem Seg.one:Seg xs lo 1:=fun i j h1 h2 I=>by
 have:i=j:=by lia
 subst this; exact yA _
theorem Seg.more(h:Seg xs lo n)(hn:1<=n)(hl:¬ K xs (lo + n) < K xs (lo + n - 1)):Seg xs lo (n + 1):=fun i j h1 h2 J=>by
 by_cases I:j < lo + n
 ·exact h i j h1 h2 I
 ·have e:j=lo + n:=by lia
  subst e;by_cases hi:i=lo + n
  ·subst hi; exact yA _
  ·exact Int.le_trans (h i (lo + n - 1) h1 (by lia) (by lia)) (Int.not_lt.mp hl)
theorem Dec.more(h:Dec xs lo n)(hn:1<=n)(hl:K xs (lo + n)<=K xs (lo + n - 1)):Dec xs lo (n + 1):=fun i j h1 h2 J=>by
 by_cases I:j < lo + n
 ·exact h i j h1 h2 I
 ·have e:j=lo + n:=by lia
  subst e;by_cases hi:i=lo + n
  ·subst hi; exact yA _
  ·exact Int.le_trans hl (h i (lo + n - 1) h1 (by lia) (by lia))
theorem Dec.same{ys:Array Keyed}(h:Dec xs lo n)(e:∀ k,K ys k=K xs k):Dec ys lo n:=fun i j h1 h2 I=>by rw[e,e]; exact h i j h1 h2 I
def EG(lo a nrem:Nat):SM AscSt:=forIn [a:nrem] ((none,a):AscSt) fun _ r=>do
 let some x <-ltAt' (lo + r.2) (lo + r.2 - 1) | pure (ForInStep.done (some none,r.2))
 if x=true then pure (ForInStep.done (none,r.2)) else pure (ForInStep.yield (none,r.2 + 1))
def Ac(lo n nrem:Nat):SM (Option Nat):=do
 reverseSlice' lo (lo + n)
 let r <-EG lo n nrem
 match r.1 with
 | some x=>pure x
 | none=>pure (some r.2)
def GG(lo n nrem:Nat):SM DescSt:=forIn [n:nrem] ((none,n,0):DescSt) fun _ r=>do
 let some x <-ltAt' (lo + r.2.1) (lo + r.2.1 - 1) | pure (ForInStep.done (some none,r.2.1,r.2.2))
 if x=true then
  if r.2.2 > 0 then do
   reverseSlice' (lo + r.2.1 - (r.2.2 + 1)) (lo + r.2.1)
   pure (ForInStep.yield (none,r.2.1 + 1,0))
  else pure (ForInStep.yield (none,r.2.1 + 1,0))
 else do
  let some y <-ltAt' (lo + r.2.1 - 1) (lo + r.2.1) | pure (ForInStep.done (some none,r.2.1,r.2.2))
  if y=true then pure (ForInStep.done (none,r.2.1,r.2.2)) else pure (ForInStep.yield (none,r.2.1 + 1,r.2.2 + 1))
def Fq(lo n nrem:Nat):SM (Option Nat):=do
 liftM (rule "list.sort.descending-run")
 let r <-GG lo (n + 1) nrem
 match r.1 with
 | some x=>pure x
 | none=>
  if r.2.2 > 0 then do
   reverseSlice' (lo + r.2.1 - (r.2.2 + 1)) (lo + r.2.1)
   Ac lo r.2.1 nrem
  else Ac lo r.2.1 nrem
theorem tE(lo nrem:Nat):countRun' lo nrem=(do
  let r <-EG lo 1 nrem
  match r.1 with
  | some x=>pure x
  | none=>
   if (r.2 == nrem)=true then pure (some r.2)
   else if r.2 > 1 then do
    let some rose <-ltAt' lo (lo + r.2 - 1) | pure none
    if rose=true then pure (some r.2) else do
     reverseSlice' lo (lo + r.2)
     Fq lo r.2 nrem
   else Fq lo r.2 nrem):=by kernel_rfl
theorem vC{a:Nat}{Q:AscSt->SortSt->Prop}(h0:IntKeys a₀)(hn:lo + nrem<=a₀.size)(ha:1<=a)(han:a<=nrem)(hB:SB a₀ P xs lo st)(hs:Seg (arrOf st) lo a)
  (q:∀ n,a<=n->n<=nrem->Seg (arrOf st) lo n->(n=nrem\/K (arrOf st) (lo + n) < K (arrOf st) (lo + n - 1))->Q (none,n) st):wpS (model prog w) A E s (EG lo a nrem) Q st:=by
 refine tH (I:=fun x c J=>J=st/\c=(none,x)/\Seg (arrOf st) lo x) ?step ?fin ⟨rfl,rfl,hs⟩
 case fin=>
  rintro c J ⟨rfl,rfl,hs'⟩
  rw[show max a nrem=nrem by lia]at hs' |-;exact q nrem han (bH _) hs' (.inl rfl)
 case step=>
  rintro x c J U V ⟨rfl,rfl,hs'⟩
  dsimp only;refine bV (hB.lt h0 (by lia) (by lia) ?_);by_cases O:K (arrOf J) (lo + x) < K (arrOf J) (lo + x - 1)
  ·simp only[O,decide_true,if_true];exact cC (q x U (by lia) hs' (.inr O))
  ·simp only[O,decide_false,gD,fO];exact cC ⟨rfl,rfl,hs'.more (by lia) O⟩
theorem rC(h0:IntKeys a₀)(hn:lo + nrem<=a₀.size)(h1:1<=n)(hnn:n<=nrem)(hB:SB a₀ P xs lo st)(hs:Dec (arrOf st) lo n)
  (q:∀ m st',SB a₀ P xs lo st'->1<=m->m<=nrem->Seg (arrOf st') lo m->Q (some m) st'):wpS (model prog w) A E s (Ac lo n nrem) Q st:=by
 have J:lo + n<=(arrOf st).size:=by rw[hB.size]; lia
 have I:=hB.Hy (bH lo) (show lo + n<=a₀.size by lia);refine bV (wpS_reverse ?_);refine bV (vC h0 hn h1 hnn I ?_ fun m V U O _=>cC (q m _ I (by lia) U O));intro i j h1 h2 Z;show K (mirror (arrOf st) lo (lo + n) ((lo + n - lo) / 2)) i<=K (mirror (arrOf st) lo (lo + n) ((lo + n - lo) / 2)) j;rw[K_mirror J,K_mirror J,if_pos (by lia),if_pos (by lia)];exact hs _ _ (by lia) (by lia) (by lia)
theorem CK{Q:DescSt->SortSt->Prop}(h0:IntKeys a₀)(hn:lo + nrem<=a₀.size)(h1:1<=n)(hnn:n<=nrem)(hB:SB a₀ P xs lo st)(hs:Dec (arrOf st) lo n)
  (q:∀ m e st',SB a₀ P xs lo st'->n<=m->m<=nrem->Dec (arrOf st') lo m->e + 1<=m->(∀ i,lo + m - (e + 1)<=i->i < lo + m->K (arrOf st') i=K (arrOf st') (lo + m - 1))->Q (none,m,e) st') :
  wpS (model prog w) A E s (GG lo n nrem) Q st:=by
 refine tH (I:=fun x c st'=>∃ e,c=(none,x,e)/\SB a₀ P xs lo st'/\Dec (arrOf st') lo x/\e + 1<=x/\
   (∀ i,lo + x - (e + 1)<=i->i < lo + x->K (arrOf st') i=K (arrOf st') (lo + x - 1))) ?step ?fin ⟨0,rfl,hB,hs,by lia,fun i h1 h2=>by congr 1; lia⟩
 case fin=>
  rintro c st' ⟨e,rfl,hB',hs',hq,he⟩
  rw[show max n nrem=nrem by lia]at hs' hq he |-;exact q nrem e st' hB' hnn (bH _) hs' hq he
 case step=>
  rintro x c st' J b ⟨e,rfl,hB',hs',hq,he⟩
  dsimp only;have U:lo + x<=(arrOf st').size:=by rw[hB'.size]; lia
  refine bV (hB'.lt h0 (by lia) (by lia) ?_);by_cases O:K (arrOf st') (lo + x) < K (arrOf st') (lo + x - 1)
  ·simp only[O,decide_true,if_true];have Z:=hs'.more (by lia) (yC O);by_cases V:e > 0
   ·rw[if_pos V];exact bV (wpS_reverse (cC ⟨0,rfl,hB'.Hy (by lia) (by lia),Z.same (K_mirror_equal U he),by lia,fun i h1 h2=>by congr 1; lia⟩))
   ·rw[if_neg V];exact cC ⟨0,rfl,hB',Z,by lia,fun i h1 h2=>by congr 1; lia⟩
  ·simp only[O,decide_false,gD,fO];refine bV (hB'.lt h0 (by lia) (by lia) ?_);by_cases a:K (arrOf st') (lo + x - 1) < K (arrOf st') (lo + x)
   ·simp only[a,decide_true,if_true];exact cC (q x e st' hB' J (by lia) hs' hq he)
   ·simp only[a,decide_false,gD,fO];have ex:K (arrOf st') (lo + x)=K (arrOf st') (lo + x - 1):=by lia
    refine cC ⟨e + 1,rfl,hB',hs'.more (by lia) (by lia),by lia,fun i h1 h2=>?_⟩;rw[show lo + (x + 1) - 1=lo + x by lia];by_cases hi:i=lo + x
    ·subst hi; rfl
    ·rw[ex]; exact he i (by lia) (by lia)
theorem wY(h0:IntKeys a₀)(hn:lo + nrem<=a₀.size)(hnn:n + 1<=nrem)(hB:SB a₀ P xs lo st)(hs:Dec (arrOf st) lo (n + 1))
  (q:∀ m st',SB a₀ P xs lo st'->1<=m->m<=nrem->Seg (arrOf st') lo m->Q (some m) st'):wpS (model prog w) A E s (Fq lo n nrem) Q st:=by
 refine bV (wpS_lift (sT ⟨rfl,?_⟩));refine bV (CK h0 hn (by lia) hnn hB hs fun m e st' I a O J b Z=>?_);dsimp only;have U:lo + m<=(arrOf st').size:=by rw[I.size]; lia
 by_cases V:e > 0
 ·rw[if_pos V];exact bV (wpS_reverse (rC h0 hn (by lia) O (I.Hy (by lia) (by lia)) (J.same (K_mirror_equal U Z)) q))
 ·rw[if_neg V];exact rC h0 hn (by lia) O I J q
theorem C8(h0:IntKeys a₀)(hn:lo + nrem<=a₀.size)(h1:1<=nrem)(hB:SB a₀ P xs lo st)
  (q:∀ m st',SB a₀ P xs lo st'->1<=m->m<=nrem->Seg (arrOf st') lo m->Q (some m) st'):wpS (model prog w) A E s (countRun' lo nrem) Q st:=by
 rw[tE];refine bV (vC h0 hn (bH 1) h1 hB Seg.one fun n J U I c=>?_);dsimp only;by_cases O:n=nrem
 ·rw[if_pos (by simpa using O)];exact cC (q n st hB J U I)
 rw[if_neg (by simpa using O)];have Z:=c.resolve_left O;by_cases V:n > 1
 ·rw[if_pos V];refine bV (hB.lt h0 (by lia) (by lia) ?_);by_cases f:K (arrOf st) lo < K (arrOf st) (lo + n - 1)
  ·simp only[f,decide_true,if_true];exact cC (q n st hB J U I)
  ·simp only[f,decide_false,gD,fO];have a:lo + n<=(arrOf st).size:=by rw[hB.size]; lia
   have b:∀ k,lo<=k->k < lo + n->K (arrOf st) k=K (arrOf st) (lo + n - 1):=fun k k1 k2=>by
    have h:=I lo k (bH _) k1 k2;have l:=I k (lo + n - 1) k1 (by lia) (by lia)
    lia
   have g:Dec (arrOf st) lo n:=fun i j i1 i2 d=>by rw[b i i1 (by lia),b j (by lia) d]; exact yA _
   exact bV (wpS_reverse (wY h0 hn (by lia) (hB.Hy (bH _) (by lia)) ((g.more J (yC Z)).same (K_mirror_equal a b)) q))
 ·rw[if_neg V];have e:n=1:=by lia
  subst e;refine wY h0 hn (by lia) hB (Dec.more (fun i j i1 i2 d=>?_) (bH 1) (yC Z)) q;have:i=j:=by lia
  subst this; exact yA _
end
end
section
variable [Rk]
def GK(lo k:Nat)(r:Option Bool × Nat × Nat):SM (ForInStep (Option Bool × Nat × Nat)):=
 if r.2.1 ≥ r.2.2 then pure (ForInStep.done (none,r.2.1,r.2.2))
 else do
  let some x <-ltAt' (lo + k) (lo + (r.2.1 + r.2.2) / 2) | pure (ForInStep.done (some false,r.2.1,r.2.2))
  if x=true then pure (ForInStep.yield (none,r.2.1,(r.2.1 + r.2.2) / 2)) else pure (ForInStep.yield (none,(r.2.1 + r.2.2) / 2 + 1,r.2.2))
theorem nJ(lo n ok:Nat):binarySort' lo n ok=(do
  let r <-forIn [max ok 1:n] ((none:Option Bool),()) fun k _=>do
   let r <-forIn [:k] ((none:Option Bool),0,k) fun _ r=>GK lo k r
   match r.1 with
   | some x=>pure (ForInStep.done (some x,()))
   | none=>do
    moveDown' (lo + k) (lo + r.2.1)
    pure (ForInStep.yield (none,()))
  match r.1 with
  | some x=>pure x
  | none=>pure true):=by kernel_rfl
section
variable [f6 prog w A E s] {st:SortSt}
theorem Cf{ok:Nat}{Q:Bool->SortSt->Prop}(h0:IntKeys a₀)(hn:lo + n<=a₀.size)(hok:ok<=n)(hB:SB a₀ P xs lo st)(hs:Seg (arrOf st) lo ok)
  (q:∀ st',SB a₀ P xs lo st'->Seg (arrOf st') lo n->Q true st'):wpS (model prog w) A E s (binarySort' lo n ok) Q st:=by
 rw[nJ]
 refine bV (wpS_mono (tH (I:=fun k c st'=>c=(none,())/\SB a₀ P xs lo st'/\Seg (arrOf st') lo (min k n))
  (Q:=fun c st'=>c=(none,())/\SB a₀ P xs lo st'/\Seg (arrOf st') lo n) ?step ?fin ?init) ?post)
 case post=>
  rintro c st' ⟨rfl,hB',hs'⟩
  exact cC (q st' hB' hs')
 case init=>
  refine⟨rfl,hB,fun i j h1 h2 b=>?_⟩;by_cases e:ok=0
  ·have:i=j:=by lia
   subst this; exact yA _
  ·exact hs i j h1 h2 (by lia)
 case fin=>
  rintro c st' ⟨hc,hB',hs'⟩
  refine⟨hc,hB',?_⟩
  rwa [show min (max (max ok 1) n) n=n by lia]at hs'
 case step=>
  rintro k c st' g d ⟨rfl,hB',hs'⟩
  rw[show min k n=k by lia]at hs';have a:lo + k < a₀.size:=by lia
  refine bV (wpS_mono (tH (I:=fun x c J=>J=st'/\∃ l r,c=(none,l,r)/\l<=r/\r<=k/\r - l<=k - x/\
    (∀ i,lo<=i->i < lo + l->K (arrOf st') i<=K (arrOf st') (lo + k))/\(∀ i,lo + r<=i->i < lo + k->K (arrOf st') (lo + k) < K (arrOf st') i))
   (Q:=fun c J=>J=st'/\∃ l r,c=(none,l,r)/\l<=k/\
    (∀ i,lo<=i->i < lo + l->K (arrOf st') i<=K (arrOf st') (lo + k))/\(∀ i,lo + l<=i->i < lo + k->K (arrOf st') (lo + k) < K (arrOf st') i)) ?istep ?ifin ?iinit) ?ipost)
  case iinit=>exact⟨rfl,0,k,rfl,by lia,by lia,by lia,fun i h1 h2=>by lia,fun i h1 h2=>by lia⟩
  case ifin=>
   rintro c J ⟨rfl,l,r,rfl,hlr,hrk,hm,hlo,hhi⟩
   have:l=r:=by lia
   subst this;exact⟨rfl,l,l,rfl,hrk,hlo,hhi⟩
  case istep=>
   rintro x c J _ f ⟨rfl,l,r,rfl,hlr,hrk,hm,hlo,hhi⟩
   unfold GK;dsimp only;by_cases U:l ≥ r
   ·rw[if_pos U];have:l=r:=by lia
    subst this;exact cC ⟨rfl,l,l,rfl,hrk,hlo,hhi⟩
   ·rw[if_neg U];refine bV (hB'.lt h0 a (by lia) ?_);by_cases V:K (arrOf J) (lo + k) < K (arrOf J) (lo + (l + r) / 2)
    ·simp only[V,decide_true,if_true];refine cC ⟨rfl,l,(l + r) / 2,rfl,by lia,by lia,by lia,hlo,fun i h1 h2=>?_⟩;exact Int.lt_of_lt_of_le V (hs' _ _ (by lia) h1 h2)
    ·simp only[V,decide_false,gD,fO];refine cC ⟨rfl,(l + r) / 2 + 1,r,rfl,by lia,by lia,by lia,fun i h1 h2=>?_,hhi⟩;exact Int.le_trans (hs' i (lo + (l + r) / 2) h1 (by lia) (by lia)) (Int.not_lt.mp V)
  case ipost=>
   rintro c J ⟨rfl,l,r,rfl,hlk,hlo,hhi⟩
   dsimp only;rw[moveDown'_eq];have O:lo + k < (arrOf J).size:=by rw[hB'.size]; exact a
   have Z:lo + k - (lo + l)<=lo + k:=by lia
   refine bV (wpS_modify (cC ⟨rfl,hB'.set (bubble_perm _ _ _) fun i hi=>?_,?_⟩))
   ·show K (bubble (arrOf J) (lo + k) (lo + k - (lo + l))) i=_;rw[K_bubble O Z,if_neg (by lia),if_neg (by lia)]
   rw[show min (k + 1) n=k + 1 by lia];intro i j h1 h2 b;show K (bubble (arrOf J) (lo + k) (lo + k - (lo + l))) i<=K (bubble (arrOf J) (lo + k) (lo + k - (lo + l))) j;rw[K_bubble O Z,K_bubble O Z,show lo + k - (lo + k - (lo + l))=lo + l by lia]
   repeat' split
   all_goals first
    | (exfalso; lia)
    | exact yA _
    | exact hlo _ (by lia) (by lia)
    | exact yC (hhi _ (by lia) (by lia))
    | exact hs' _ _ (by lia) (by lia) (by lia)
end
end
section
variable [Rk]
def D4(b:Nat)(m:Array Keyed)(xs:Array Keyed):Array Keyed:=m.toList.zipIdx.foldl (fun a (p,j)=>a.setIfInBounds (b + j) p) xs
def mg(i:Nat)(st:SortSt)(sa na pw sb nb:Nat):SM Bool:=do
 set (setPending st (((pendingOf st).setIfInBounds i (sa,na + nb,pw)).eraseIdxIfInBounds (i + 1)))
 let e <-elem' (arrOf st) sb
 let some k <-fG false e (arrOf st) sa na 0 | pure false
 if (na - k == 0)=true then pure true else do
  let e <-elem' (arrOf st) (sa + k + (na - k) - 1)
  let some t <-fG true e (arrOf st) sb nb (nb - 1) | pure false
  if (t == 0)=true then pure true else do
   let m <-if na - k<=t then mJ ((arrOf st).extract (sa + k) sb) ((arrOf st).extract sb (sb + t)) else mW ((arrOf st).extract (sa + k) sb) ((arrOf st).extract sb (sb + t))
   modify fun s=>setArr s (D4 (sa + k) m (arrOf s))
   let s <-get
   pure (failedOf s).isNone
theorem tW(i:Nat):mergeAt' i=(do
  let s <-get
  match ((pendingOf s)[i]?,(pendingOf s)[i + 1]?) with
  | (some (sa,na,pw),some (sb,nb,_))=>mg i s sa na pw sb nb
  | _=>unsupported "internal:list.sort.pending"):=by kernel_rfl
theorem sk(b:Nat):∀ (l:List Keyed) (n:Nat) (xs:Array Keyed),b + n + l.length<=xs.size->
  ((l.zipIdx n).foldl (fun a (p,j)=>a.setIfInBounds (b + j) p) xs).toList=xs.toList.take (b + n)++l++xs.toList.drop (b + n + l.length)
 | [],n,xs,h=>by
  show xs.toList=xs.toList.take (b + n)++[]++xs.toList.drop (b + n);rw[jL,C4]
 | p::l,n,xs,h=>by
  have h':b + n + (l.length + 1)<=xs.size:=h;rw[List.zipIdx_cons,DQ,sk b l (n + 1) _ (by rw[Array.size_setIfInBounds]; lia)];have I:b + n < xs.toList.length:=by rw[dY]; lia
  rw[Array.toList_setIfInBounds,jU];rw[show b + (n + 1)=b + n + 1 by lia,List.drop_set_of_lt (by lia),List.take_set,kX,cL I,B1,List.set_append_right _ _ (by rw[gx]; lia),gx,show b + n - min (b + n) xs.toList.length=0 by lia];rw[List.set_cons_zero,show b + n + 1 + l.length=b + n + (l.length + 1) by lia,iD,iD,iD];rfl
theorem Em{b:Nat}{m:Array Keyed}(h:b + m.size<=xs.size):(D4 b m xs).toList=xs.toList.take b++m.toList++xs.toList.drop (b + m.size):=by
 have:=sk b m.toList 0 xs (by rw[dY]; exact h);rw[dY]at this;exact this
theorem tM(h:i < xs.size):K xs i=nk xs[i]:=K_eq h
theorem AO(h:Seg xs lo n)(hn:lo + n<=xs.size):So (xs.extract lo (lo + n)).toList:=by
 refine FY.mpr fun i j hi V J=>?_
 have U:j < n:=by have:=V; rw[dY,Fg]at this; lia
 have I:lo + i < xs.size:=by lia
 have O:lo + j < xs.size:=by lia
 have:=h (lo + i) (lo + j) (by lia) (by lia) (by lia);rw[tM I,tM O]at this;rw[Array.getElem_toList,Array.getElem_toList,Array.getElem_extract,Array.getElem_extract];exact this
theorem k7(h:p∈(xs.extract i j).toList):∃ k,i<=k/\k < j/\∃ hk:k < xs.size,p=xs[k]:=by
 obtain⟨n,J,e⟩:=List.mem_iff_getElem.mp h;have I:n < (xs.extract i j).size:=by rw[<-dY]; exact J
 have hs:=I;rw[Fg]at hs;refine⟨i + n,by lia,by lia,by lia,?_⟩;rw[<-e,Array.getElem_toList,Array.getElem_extract]
theorem eC(xs:Array Keyed){k:Nat}(hij:i<=j)(hjk:j<=k):(xs.extract i j).toList++(xs.extract j k).toList=(xs.extract i k).toList:=by
 rw[<-x9,Array.extract_append_extract,Nat.min_eq_left hij,Nat.max_eq_right hjk]
section
variable [f6 prog w A E s] {st:SortSt}
end
end
section
variable [Rk]
theorem Ek{A:List Keyed}(e:Y.toList=A++M++B)(h:So M):Seg Y A.length M.length:=by
 have at_:∀ k,k < M.length->∃ p,M[k]?=some p/\K Y (A.length + k)=nk p:=fun k J=>by
  refine⟨M[k],cL J,Bj ?_⟩;rw[<-iI,e,iD,ue (by lia),Nat.add_sub_cancel_left,xB J];exact cL J
 intro i j h1 h2 c;obtain⟨u,rfl⟩:∃ u,i=A.length + u:=⟨i - A.length,by lia⟩
 obtain⟨v,rfl⟩:∃ v,j=A.length + v:=⟨j - A.length,by lia⟩
 obtain⟨p,ep,np⟩:=at_ u (by lia);obtain⟨r,I,a⟩:=at_ v (by lia);rw[np,a];by_cases O:u=v
 ·subst O;rw[ep]at I;cases I;exact yA _
 ·obtain⟨U,V⟩:=dJ.mp ep;obtain⟨Z,b⟩:=dJ.mp I;have:=FY.mp h u v U Z (by lia);rw[V,b]at this;exact this
theorem GU{X:Array Keyed}{A M':List Keyed}(e:X.toList=A++M++B)(e':Y.toList=A++M'++B)(hl:M'.length=M.length){k:Nat}(hk:k < A.length\/A.length + M.length<=k):K Y k=K X k:=by
 refine K_congr ?_;rw[<-iI,<-iI,e,e',iD,iD];rcases hk with hk | hk
 ·rw[xB hk,xB hk]
 ·rw[ue (by lia),ue (by lia),ue (by lia),ue (by lia),hl]
section
variable [f6 prog w A E s] {st:SortSt}{sa b:Nat}
theorem yr{Q:Bool->SortSt->Prop}(h0:IntKeys a₀)(hp:(arrOf st).Perm a₀)(hk:kindOf st=Rk.kind)(hf:failedOf st=none)(e1:(pendingOf st)[i]?=some (sa,n1,pw))(e2:(pendingOf st)[i + 1]?=some (b,n2,pw'))(eb:sa + n1=b)
  (h1:1<=n1) (h2:1<=n2) (hn:b + n2<=a₀.size) (g1:Seg (arrOf st) sa n1) (g2:Seg (arrOf st) b n2)
  (q:∀ st',(arrOf st').Perm a₀->kindOf st'=Rk.kind->failedOf st'=none->pendingOf st'=((pendingOf st).setIfInBounds i (sa,n1 + n2,pw)).eraseIdxIfInBounds (i + 1)->Seg (arrOf st') sa (n1 + n2)->(∀ k,k < sa\/b + n2<=k->K (arrOf st') k=K (arrOf st) k)->Q true st'):wpS (model prog w) A E s (mergeAt' i) Q st:=by
 rw[tW];refine bV (wpS_get ?_);rw[e1,e2];show wpS (model prog w) A E s (mg i st sa n1 pw b n2) Q st;have hz:(arrOf st).size=a₀.size:=hp.size_eq;generalize eX:arrOf st=X at hp hz g1 g2 q;have J:∀ i,(hi:i < X.size)->nQ X[i]:=fun i hi=>h0 _ ((Array.perm_iff_toList_perm.mp hp).mem_iff.mp (dM hi))
 have Z:∀ i j,(I:i<=j)->(m:j < n1)->nk (X[sa + i]'(by lia))<=nk (X[sa + j]'(by lia)):=fun i j I m=>by
  have:=g1 (sa + i) (sa + j) (by lia) (by lia) (by lia);rw[tM (by lia),tM (by lia)]at this;exact this
 have l:∀ i j,(I:i<=j)->(m:j < n2)->nk (X[b + i]'(by lia))<=nk (X[b + j]'(by lia)):=fun i j I m=>by
  have:=g2 (b + i) (b + j) (by lia) (by lia) (by lia);rw[tM (by lia),tM (by lia)]at this;exact this
 unfold mg;generalize ePP:(((pendingOf st).setIfInBounds i (sa,n1 + n2,pw)).eraseIdxIfInBounds (i + 1))=F at q;rw[eX];refine bV (wpS_mono (Q:=fun _ st'=>st'=setPending st F) ?_ ?_)
 ·unfold wpS; rw[StateT.run_set]; exact aO ⟨rfl,rfl⟩
 rintro _ st1 rfl
 have u:b < X.size:=by lia
 refine bV (bC (ay u).1 ?_);have G:qh false X[b] X sa n1 (fun i=>if hi:sa + i < X.size then !decide (nk X[b] < nk X[sa + i]) else false):=by
  refine⟨J _ u,fun i hn=>?_,fun i j I m o=>?_⟩
  ·have O:sa + i < X.size:=by lia
   exact⟨X[sa + i],(ay O).1,J _ O,by rw[dif_pos O]; rfl⟩
  ·have O:sa + j < X.size:=by lia
   have hy:sa + i < X.size:=by lia
   rw[dif_pos O]at o;rw[dif_pos hy];have o:¬ nk X[b] < nk X[sa + j]:=by simpa using o
   have:=Z i j I m;have:¬ nk X[b] < nk X[sa + i]:=by lia
   simpa using this
 refine bV (dU (by exact hk) G (by lia) fun k k1 k2 k3=>?_);dsimp only;have f:∀ i,(hi:i < k)->nk (X[sa + i]'(by lia))<=nk X[b]:=fun i hi=>by
  have:=k2 i hi;rw[dif_pos (show sa + i < X.size by lia)]at this;have this:¬ nk X[b] < nk X[sa + i]:=by simpa using this
  lia
 by_cases H:n1 - k=0
 ·rw[if_pos (by simpa using H)];have e:k=n1:=by lia
  subst e;refine cC (q _ (by rw[show arrOf (setPending st F)=X from eX]; exact hp) hk hf rfl ?_ fun _ _=>by rw[show arrOf (setPending st F)=X from eX]);rw[show arrOf (setPending st F)=X from eX];intro i j hlo I m;by_cases hjk:j < b
  ·exact g1 i j hlo I (by lia)
  by_cases hik:i < b
  ·have R:=f (i - sa) (by lia);have ei:X[sa + (i - sa)]'(by lia)=X[i]'(by lia):=getElem_congr_idx (by lia);rw[ei]at R;have S:=g2 b j (bH _) (by lia) (by lia);rw[tM u]at S;rw[tM (by lia)]
   lia
  ·exact g2 i j (by lia) I (by lia)
 rw[if_neg (by simpa using H)];rw[show sa + k + (n1 - k) - 1=b - 1 by lia];have hl:b - 1 < X.size:=by lia
 refine bV (bC (ay hl).1 ?_);have upk:nk X[b] < nk (X[sa + k]'(by lia)):=by
  have:=k3 k (bH _) (by lia);rw[dif_pos (show sa + k < X.size by lia)]at this
  simpa using this
 have G2:qh true X[b - 1] X b n2 (fun i=>if hi:b + i < X.size then decide (nk X[b + i] < nk X[b - 1]) else false):=by
  refine⟨J _ hl,fun i hn=>?_,fun i j I m o=>?_⟩
  ·have O:b + i < X.size:=by lia
   exact⟨X[b + i],(ay O).1,J _ O,by rw[dif_pos O]; rfl⟩
  ·have O:b + j < X.size:=by lia
   have hy:b + i < X.size:=by lia
   rw[dif_pos O]at o;rw[dif_pos hy];have o:=jV o;have:=l i j I m;exact gp (by lia)
 refine bV (dU (by exact hk) G2 (by lia) fun t t1 t2 t3=>?_);dsimp only;have N:∀ i,(hi:i < t)->nk (X[b + i]'(by lia)) < nk X[b - 1]:=fun i hi=>by
  have:=t2 i hi;rw[dif_pos (show b + i < X.size by lia)]at this;exact jV this
 have y:∀ i,t<=i->(hi:i < n2)->nk X[b - 1]<=nk (X[b + i]'(by lia)):=fun i hi hn=>by
  have:=t3 i hi hn;rw[dif_pos (show b + i < X.size by lia)]at this;have:=of_decide_eq_false this
  lia
 have U:X[sa + (n1 - 1)]'(by lia)=X[b - 1]:=getElem_congr_idx (by lia);have hkl:=Z k (n1 - 1) (by lia) (by lia);rw[U]at hkl;by_cases Y:t=0
 ·exfalso;have:=y 0 (by lia) (by lia);have:nk X[b - 1]<=nk X[b]:=this
  lia
 rw[if_neg (by simpa using Y)];have v:=AO g1 (by lia);have B:=AO g2 (by lia);rw[eb]at v;rw[<-eC X (show sa<=sa + k by lia) (show sa + k<=b by lia)]at v;rw[<-eC X (show b<=b + t by lia) (show b + t<=b + n2 by lia)]at B;obtain⟨sA,sx,lAx⟩:=xo.mp v;obtain⟨sy,sB,lyB⟩:=xo.mp B;have V:∀ p∈(X.extract (sa + k) b).toList,nQ p/\nk X[b] < nk p/\nk p<=nk X[b - 1]:=fun p hp=>by
  obtain⟨i,i1,i2,hi,rfl⟩:=k7 hp;obtain⟨j,rfl⟩:∃ j,i=sa + j:=⟨i - sa,by lia⟩
  have R:=Z k j (by lia) (by lia);have S:=Z j (n1 - 1) (by lia) (by lia);rw[U]at S;exact⟨J _ hi,by lia,S⟩
 have d:∀ p∈(X.extract b (b + t)).toList,nQ p/\nk X[b]<=nk p/\nk p < nk X[b - 1]:=fun p hp=>by
  obtain⟨i,i1,i2,hi,rfl⟩:=k7 hp;obtain⟨j,rfl⟩:∃ j,i=b + j:=⟨i - b,by lia⟩
  have R:=l 0 j (dI _) (by lia);exact⟨J _ hi,R,N j (by lia)⟩
 have zx:(X.extract (sa + k) b).size=n1 - k:=by rw[Fg]; lia
 have zy:(X.extract b (b + t)).size=t:=by rw[Fg]; lia
 have C:MC (X.extract (sa + k) b) (X.extract b (b + t)):=by
  refine⟨fun p hp=>(V p hp).1,fun p hp=>(d p hp).1,sx,sy,fun q T p hp=>?_,fun q T p hp=>?_⟩
  ·rw[zx,iI,Array.getElem?_extract_of_lt (by lia)]at hp;rw[<-pL hp];have e:X[sa + k + (n1 - k - 1)]'(by lia)=X[b - 1]:=getElem_congr_idx (by lia);rw[e];exact yC (d q T).2.2
  ·rw[iI,Array.getElem?_extract_of_lt (by lia)]at T;rw[<-pL T];exact yC (V p hp).2.1
 have z:∀ (r:Array Keyed) (g:Nat),cx (X.extract (sa + k) b).toList (X.extract b (b + t)).toList r.toList->wpS (model prog w) A E s (do
   modify fun s=>setArr s (D4 (sa + k) r (arrOf s))
   let s <-get
   pure (failedOf s).isNone) Q (setG (setPending st F) g):=fun r g h=>by
  refine bV (wpS_modify (bV (wpS_get (cC ?_))));show Q (failedOf st).isNone _;rw[hf];have zr:r.size=n1 - k + t:=by
   have:=h.1.length_eq;rw[dE,dY,dY,dY,zx,zy]at this;exact this
  have x:X.toList=(X.extract 0 sa).toList++((X.extract sa (sa + k)).toList++((X.extract (sa + k) b).toList++(X.extract b (b + t)).toList)++(X.extract (b + t) (b + n2)).toList)++(X.extract (b + n2)).toList:=by
   rw[eC X (show sa + k<=b by lia) (by lia),eC X (show sa<=sa + k by lia) (by lia),eC X (show sa<=b + t by lia) (by lia),eC X (dI sa) (by lia),iE,kg,C4]
  have eY:(D4 (sa + k) r X).toList=(X.extract 0 sa).toList++((X.extract sa (sa + k)).toList++r.toList++(X.extract (b + t) (b + n2)).toList)++(X.extract (b + n2)).toList:=by
   rw[Em (by lia),zr,show sa + k + (n1 - k + t)=b + t by lia,<-kg,<-eC X (dI sa) (show sa<=sa + k by lia)];have:X.toList.drop (b + t)=(X.extract (b + t) (b + n2)).toList++(X.extract (b + n2)).toList:=by
    rw[<-iE];exact (eC X (show b + t<=b + n2 by lia) (by lia)).symm
   rw[this];simp only[iD]
  have pY:(D4 (sa + k) r X).Perm X:=by
   rw[Array.perm_iff_toList_perm,eY,x];exact (((h.1.append_left _).append_right _).append_left _).append_right _
  have lA:(X.extract 0 sa).toList.length=sa:=by rw[dY,Fg]; lia
  have lM:((X.extract sa (sa + k)).toList++r.toList++(X.extract (b + t) (b + n2)).toList).length=n1 + n2:=by
   simp only[dE,dY,Fg,zr]; lia
  have M:((X.extract sa (sa + k)).toList++((X.extract (sa + k) b).toList++(X.extract b (b + t)).toList)++(X.extract (b + t) (b + n2)).toList).length=n1 + n2:=by
   simp only[dE,dY,Fg]; lia
  refine q _ (by show (D4 (sa + k) r (arrOf st)).Perm a₀; rw[eX]; exact pY.trans hp) hk hf rfl ?_ fun c hc=>?_
  ·show Seg (D4 (sa + k) r (arrOf st)) sa (n1 + n2);rw[eX];have D:∀ p∈(X.extract sa (sa + k)).toList,nk p<=nk X[b]:=fun p hp=>by
    obtain⟨i,i1,i2,hi,rfl⟩:=k7 hp;obtain⟨j,rfl⟩:∃ j,i=sa + j:=⟨i - sa,by lia⟩
    exact f j (by lia)
   have W:∀ p∈(X.extract (b + t) (b + n2)).toList,nk X[b - 1]<=nk p:=fun p hp=>by
    obtain⟨i,i1,i2,hi,rfl⟩:=k7 hp;obtain⟨j,rfl⟩:∃ j,i=b + j:=⟨i - b,by lia⟩
    exact y j (by lia) (by lia)
   have L:∀ p∈r.toList,nk X[b]<=nk p/\nk p<=nk X[b - 1]:=fun p hp=>by
    rcases fY.mp (h.1.mem_iff.mp hp) with hp | hp
    ·exact⟨yC (V p hp).2.1,(V p hp).2.2⟩
    ·exact⟨(d p hp).2.1,yC (d p hp).2.2⟩
   have so:So ((X.extract sa (sa + k)).toList++r.toList++(X.extract (b + t) (b + n2)).toList):=by
    refine xo.mpr ⟨xo.mpr ⟨sA,h.2,fun a n b u=>?_⟩,sB,fun a n b u=>?_⟩
    ·exact Int.le_trans (D a n) (L b u).1
    ·have h3:=W b u;rcases fY.mp n with n | n
     ·have:=D a n;show nk a<=nk b
      lia
     ·exact Int.le_trans (L a n).2 h3
   have:=Ek eY so;rw[lA,lM]at this;exact this
  ·show K (D4 (sa + k) r (arrOf st)) c=K X c;rw[eX];exact GU x eY (by rw[lM,M]) (by rw[lA,M]; lia)
 by_cases e3:n1 - k<=t
 ·rw[if_pos e3];exact bV (rA (by exact hk) C (by lia) (by lia) fun r g h=>z r g h)
 ·rw[if_neg e3];exact bV (qX (by exact hk) C (by lia) (by lia) fun r g h=>z r g h)
end
end
section
variable [Rk]
def Runs(X:Array Keyed):List (Nat × Nat)->Nat->Nat->Prop
 | [],a,b=>a=b
 | (s,n)::r,a,b=>s=a/\1<=n/\Seg X a n/\Runs X r (a + n) b
def rn(P:Array (Nat × Nat × Nat)):List (Nat × Nat):=P.toList.map fun x=>(x.1,x.2.1)
theorem Runs.le{X:Array Keyed}:∀ {l:List (Nat × Nat)} {a b:Nat},Runs X l a b->a + l.length<=b
 | [],a,b,h=>by have:a=b:=h; simp; lia
 | (s,n)::r,a,b,h=>by
  have:=Runs.le h.2.2.2;have:=h.2.1;rw[jU]; lia
theorem Runs.congr{X Y:Array Keyed}:∀ {l:List (Nat × Nat)} {a b:Nat},Runs X l a b->(∀ k,a<=k->k < b->K Y k=K X k)->Runs Y l a b
 | [],a,b,h,_=>h
 | (s,n)::r,a,b,h,e=>by
  have hl:=Runs.le h.2.2.2;refine⟨h.1,h.2.1,fun i j h1 h2 I=>?_,Runs.congr h.2.2.2 fun k k1 k2=>e k (by lia) k2⟩;rw[e i (by lia) (by lia),e j (by lia) (by lia)];exact h.2.2.1 i j h1 h2 I
theorem Runs.app{X:Array Keyed}:∀ {l r:List (Nat × Nat)} {a b:Nat},Runs X (l++r) a b↔∃ c,Runs X l a c/\Runs X r c b
 | [],r,a,b=>⟨fun h=>⟨a,rfl,h⟩,fun ⟨c,h1,h2⟩=>by have h1:a=c:=h1; subst h1; exact h2⟩
 | (s,n)::l,r,a,b=>by
  constructor
  ·rintro⟨h1,h2,h3,h4⟩
   obtain⟨c,h5,h6⟩:=Runs.app.mp h4;exact⟨c,⟨h1,h2,h3,h5⟩,h6⟩
  ·rintro⟨c,⟨h1,h2,h3,h5⟩,h6⟩
   exact⟨h1,h2,h3,Runs.app.mpr ⟨c,h5,h6⟩⟩
structure RS (a₀:Array Keyed) (lo:Nat) (st:SortSt):Prop where
 perm:(arrOf st).Perm a₀
 kind:kindOf st=Rk.kind
 failed:failedOf st=none
 runs:Runs (arrOf st) (rn (pendingOf st)) 0 lo
 le:lo<=a₀.size
theorem RS.len{st:SortSt}(h:RS a₀ lo st):(pendingOf st).size<=lo:=by
 have:=h.runs.le;unfold rn at this;rw[bL,dY]at this
 lia
section
variable [f6 prog w A E s] {st:SortSt}
theorem iT{Q:Bool->SortSt->Prop}(h0:IntKeys a₀)(h:RS a₀ lo st)(hi:i + 1 < (pendingOf st).size)
  (q:∀ st',RS a₀ lo st'->(pendingOf st').size=(pendingOf st).size - 1->(∀ k,lo<=k->K (arrOf st') k=K (arrOf st) k)->Q true st'):wpS (model prog w) A E s (mergeAt' i) Q st:=by
 obtain⟨s1,n1,J,r⟩:∃ s1 n1 J,(pendingOf st)[i]?=some (s1,n1,J):=⟨_,_,_,iG (by lia)⟩
 obtain⟨s2,n2,U,n⟩:∃ s2 n2 U,(pendingOf st)[i + 1]?=some (s2,n2,U):=⟨_,_,_,iG hi⟩
 have z:(pendingOf st).toList[i]?=some (s1,n1,J):=by rw[iI]; exact r
 have u:(pendingOf st).toList[i + 1]?=some (s2,n2,U):=by rw[iI]; exact n
 have sp:(pendingOf st).toList=(pendingOf st).toList.take i++(s1,n1,J)::(s2,n2,U)::(pendingOf st).toList.drop (i + 2):=by
  obtain⟨e,d⟩:=dJ.mp z;obtain⟨V,j⟩:=dJ.mp u;have o:=List.drop_eq_getElem_cons e;have p:=List.drop_eq_getElem_cons V;rw[d]at o;rw[j]at p;rw[<-p,<-o,C4]
 have R:=h.runs;unfold rn at R;rw[sp,dH]at R;obtain⟨c,t,R2⟩:=Runs.app.mp R;obtain⟨b,Z,e,a,l,V,m⟩:=R2;have b:s1=c:=b;have a:s2=c + n1:=a;have Z:1<=n1:=Z;have l:1<=n2:=l;have B:c + n1 + n2 + ((pendingOf st).toList.drop (i + 2)).length<=lo:=by have:=m.le; rw[bL]at this; exact this
 have l1:=t.le;have f:=h.le;subst b;subst a;have B:s1 + n1 + n2<=lo:=by lia
 refine yr h0 h.perm h.kind h.failed r n rfl Z l (by lia) e V fun st' y k' v O g I=>q st' ⟨y,k',v,?_,f⟩ ?_ fun k C=>I k (.inr (by lia))
 ·have x:(pendingOf st').toList=(pendingOf st).toList.take i++(s1,n1 + n2,J)::(pendingOf st).toList.drop (i + 2):=by
   rw[O];have hs:i + 1 < ((pendingOf st).setIfInBounds i (s1,n1 + n2,J)).size:=by rw[Array.size_setIfInBounds]; exact hi
   unfold Array.eraseIdxIfInBounds;rw[dif_pos hs,Array.toList_eraseIdx,Array.toList_setIfInBounds]
   conv=>lhs; rw[sp]
   have lt:((pendingOf st).toList.take i).length=i:=by rw[gx,dY]; lia
   rw[List.set_append_right _ _ (by lia),lt,Nat.sub_self,List.set_cons_zero,List.eraseIdx_append_of_length_le (by lia),lt,Nat.add_sub_cancel_left];rfl
  unfold rn;rw[x,dH];refine Runs.app.mpr ⟨s1,t.congr fun k _ k2=>I k (.inl k2),rfl,by show 1<=n1 + n2; lia,g,?_⟩;have:=m.congr (Y:=arrOf st') fun k k1 _=>I k (.inr (by have:s1 + n1 + n2<=k:=k1; lia))
  rw[show s1 + (n1 + n2)=s1 + n1 + n2 by lia];exact this
 ·rw[O];have hs:i + 1 < ((pendingOf st).setIfInBounds i (s1,n1 + n2,J)).size:=by rw[Array.size_setIfInBounds]; exact hi
  unfold Array.eraseIdxIfInBounds;rw[dif_pos hs,Array.size_eraseIdx,Array.size_setIfInBounds]
end
end
section
variable [Rk]
theorem RS.push{st:SortSt}(h:RS a₀ lo st)(hs:Seg (arrOf st) lo n)(h1:1<=n)(hn:lo + n<=a₀.size):RS a₀ (lo + n) (setPending st ((pendingOf st).push (lo,n,0))):=by
 refine⟨h.perm,h.kind,h.failed,?_,hn⟩;show Runs (arrOf st) (rn ((pendingOf st).push (lo,n,0))) 0 (lo + n);unfold rn;rw[Ep,dH];exact Runs.app.mpr ⟨lo,h.runs,rfl,h1,hs,rfl⟩
theorem RS.pow{st:SortSt}(h:RS a₀ lo st)(i:Nat):RS a₀ lo (setPending st ((pendingOf st).modify i fun x=>(x.1,x.2.1,pw))):=by
 refine⟨h.perm,h.kind,h.failed,?_,h.le⟩;show Runs (arrOf st) (rn ((pendingOf st).modify i _)) 0 lo;have:rn ((pendingOf st).modify i fun x=>(x.1,x.2.1,pw))=rn (pendingOf st):=by
  unfold rn;apply List.ext_getElem?;intro k;rw[g6,g6,iI,iI,Array.getElem?_modify];by_cases I:i=k
  ·rw[if_pos I,Option.map_map]; rfl
  ·rw[if_neg I]
 rw[this];exact h.runs
section
variable [f6 prog w A E s]
theorem zk{st:SortSt}{Q:Unit->SortSt->Prop}(h0:IntKeys a₀)(hB:SBase a₀ st)
  (q:∀ st',(arrOf st').Perm a₀->failedOf st'=none->SortedTo (arrOf st') a₀.size->Q () st'):wpS (model prog w) A E s sortRuns' Q st:=by
 rw[sortRuns'_eq];refine bV (wpS_get ?_);dsimp only;simp only[hB.size];generalize minRun' a₀.size a₀.size 0=M
 refine bV (wpS_mono (tH (I:=fun x c st'=>∃ lo,c=(none,lo)/\RS a₀ lo st'/\(x<=lo\/lo=a₀.size)) (Q:=fun c st'=>c=(none,a₀.size)/\RS a₀ a₀.size st') ?step ?fin
  ⟨0,rfl,⟨hB.perm,hB.kind,hB.failed,by rw[hB.pend]; rfl,dI _⟩,.inl (dI _)⟩) ?post)
 case fin=>
  rintro c st' ⟨lo,rfl,h,S⟩
  have:=h.le;have e:lo=a₀.size:=by lia
  subst e;exact⟨rfl,h⟩
 case step=>
  rintro x c st' _ S ⟨lo,rfl,h,hlx⟩
  dsimp only;have L:=h.le;by_cases y:lo ≥ a₀.size
  ·rw[if_pos y];have e:lo=a₀.size:=by lia
   subst e;exact cC ⟨rfl,h⟩
  rw[if_neg y];have G:SB a₀ (pendingOf st') (arrOf st') lo st':=⟨h.perm,h.kind,h.failed,rfl,fun _ _=>rfl⟩
  have B:∀ {V:SortSt},SB a₀ (pendingOf st') (arrOf st') lo V->RS a₀ lo V:=fun {V} O=>⟨O.perm,O.kind,O.failed,by rw[O.pend]; exact h.runs.congr fun k _ k2=>O.low k k2,L⟩
  refine bV (C8 h0 (lo:=lo) (by lia) (by lia) G fun m F u hm1 T f=>?_);dsimp only;by_cases p:m < M
  ·rw[if_pos p];refine bV (wpS_lift (sT ⟨rfl,?_⟩));refine bV (Cf h0 (lo:=lo) (by lia) (by lia) u f fun V O d=>?_);simp only[BA,gD,fO];generalize hf:min (a₀.size - lo) M=n at d;have U:=B O;refine bV (wpS_get ?_);cases W:(pendingOf V).back? with
   | none=>
    dsimp only;exact bV (wpS_modify (cC ⟨lo + n,rfl,U.push d (by lia) (by lia),by lia⟩))
   | some t=>
    obtain⟨s1,n1,Y⟩:=t;dsimp only;generalize power' a₀.size (2 * s1 + n1) (2 * s1 + n1 + n1 + n) a₀.size=pw;refine bV (wpS_mono (tH (I:=fun _ c J=>c=(none,())/\RS a₀ lo J/\Seg (arrOf J) lo n) (Q:=fun c J=>c=(none,())/\RS a₀ lo J/\Seg (arrOf J) lo n) ?_ (fun _ _ H=>H) ⟨rfl,U,d⟩) ?_)
    ·rintro x c J _ _ ⟨rfl,hR,hs⟩
     refine bV (wpS_get ?_);by_cases Z:(pendingOf J).size > 1
     ·rw[if_pos Z];obtain⟨⟨a,b,o⟩,e⟩:∃ t,(pendingOf J)[(pendingOf J).size - 2]?=some t:=⟨_,iG (by lia)⟩
      rw[e];dsimp only;by_cases r:o<=pw
      ·rw[if_pos r]; exact cC ⟨rfl,hR,hs⟩
      ·rw[if_neg r];refine bV (iT h0 hR (by lia) fun v z _ out=>?_);simp only[BA,gD,fO];exact cC ⟨rfl,z,fun i j h1 h2 D=>by rw[out i h1,out j (by lia)]; exact hs i j h1 h2 D⟩
     ·rw[if_neg Z];exact cC ⟨rfl,hR,hs⟩
    ·rintro c J ⟨rfl,hR,hs⟩
     dsimp only;exact bV (wpS_modify (bV (wpS_modify (cC ⟨lo + n,rfl,(hR.pow _).push hs (by lia) (by lia),by lia⟩))))
  ·rw[if_neg p];have U:=B u;refine bV (wpS_get ?_);cases W:(pendingOf F).back? with
   | none=>
    dsimp only;exact bV (wpS_modify (cC ⟨lo + m,rfl,U.push f (by lia) (by lia),by lia⟩))
   | some t=>
    obtain⟨s1,n1,Y⟩:=t;dsimp only;generalize power' a₀.size (2 * s1 + n1) (2 * s1 + n1 + n1 + m) a₀.size=pw;refine bV (wpS_mono (tH (I:=fun _ c J=>c=(none,())/\RS a₀ lo J/\Seg (arrOf J) lo m) (Q:=fun c J=>c=(none,())/\RS a₀ lo J/\Seg (arrOf J) lo m) ?_ (fun _ _ H=>H) ⟨rfl,U,f⟩) ?_)
    ·rintro x c J _ _ ⟨rfl,hR,hs⟩
     refine bV (wpS_get ?_);by_cases Z:(pendingOf J).size > 1
     ·rw[if_pos Z];obtain⟨⟨a,b,o⟩,e⟩:∃ t,(pendingOf J)[(pendingOf J).size - 2]?=some t:=⟨_,iG (by lia)⟩
      rw[e];dsimp only;by_cases r:o<=pw
      ·rw[if_pos r]; exact cC ⟨rfl,hR,hs⟩
      ·rw[if_neg r];refine bV (iT h0 hR (by lia) fun v z _ out=>?_);simp only[BA,gD,fO];exact cC ⟨rfl,z,fun i j h1 h2 D=>by rw[out i h1,out j (by lia)]; exact hs i j h1 h2 D⟩
     ·rw[if_neg Z];exact cC ⟨rfl,hR,hs⟩
    ·rintro c J ⟨rfl,hR,hs⟩
     dsimp only;exact bV (wpS_modify (bV (wpS_modify (cC ⟨lo + m,rfl,(hR.pow _).push hs (by lia) (by lia),by lia⟩))))
 case post=>
  rintro c st' ⟨rfl,hR⟩
  dsimp only;refine bV (wpS_mono (tH (I:=fun x c J=>c=(none,())/\RS a₀ a₀.size J/\(pendingOf J).size<=max 1 (a₀.size - x)) (Q:=fun c J=>c=(none,())/\RS a₀ a₀.size J/\(pendingOf J).size<=1) ?_ ?_ ⟨rfl,hR,by have:=hR.len; lia⟩) ?_)
  ·rintro x c J _ S ⟨rfl,h,Z⟩
   refine bV (wpS_get ?_);by_cases h1:(pendingOf J).size<=1
   ·rw[if_pos h1];exact cC ⟨rfl,h,h1⟩
   ·rw[if_neg h1];generalize hi:(if Option.any (fun x=>decide (x < (pendingOf J)[(pendingOf J).size - 2 + 1]?.elim 0 fun x=>x.snd.fst)) (if (pendingOf J).size - 2 > 0 then Option.map (fun x=>x.snd.fst) (pendingOf J)[(pendingOf J).size - 2 - 1]? else none)=true then (pendingOf J).size - 2 - 1 else (pendingOf J).size - 2)=i;have DV:i + 1 < (pendingOf J).size:=by
     have:∀ (c:Bool) (n:Nat),2<=n->(if c=true then n - 2 - 1 else n - 2) + 1 < n:=fun c n h=>by cases c <;> simp <;> lia
     rw[<-hi]; exact this _ _ (by lia)
    refine bV (iT h0 h DV fun v z e4 _=>?_);simp only[BA,gD,fO];exact cC ⟨rfl,z,by lia⟩
  ·rintro c J ⟨rfl,h,Z⟩
   exact⟨rfl,h,by lia⟩
  ·rintro c J ⟨rfl,h,Z⟩
   dsimp only;refine cC (q J h.perm h.failed ?_);have R:=h.runs;have N:(rn (pendingOf J)).length<=1:=by unfold rn; rw[bL,dY]; exact Z
   generalize rn (pendingOf J)=l at R N
   match l,R,N with
   | [],R,_=>
    have R:0=a₀.size:=R;intro i j _ hj
    lia
   | [(s1,n1)],R,_=>
    obtain⟨rfl,_,g,e⟩:=R;have e:0 + n1=a₀.size:=e;exact fun i j C hj=>g i j (dI _) C (by lia)
end
end
abbrev Tu(h h':Heap):Prop:=∀ b o,h.get? b=some o->o.cls=.type "tuple"->h'.get? b=some o
section
variable [Rk]
theorem Fy(hp:xs.Perm (pairsOf vs))(hs:SortedTo xs (pairsOf vs).size):(xs.map (·.2)).toList.Perm vs/\(xs.map (·.2)).toList.Pairwise fun u v=>nk (u,u)<=nk (v,v):=by
 have Z:xs.toList.Perm (vs.zip vs):=by rw[<-pairsOf_toList]; exact Array.perm_iff_toList_perm.mp hp
 have U:∀ p,p∈xs.toList->p.1=p.2:=fun p I=>(mem_zip_self (Z.mem_iff.mp I)).1
 rw[Array.toList_map];constructor
 ·have:=Z.map (·.2)
  rwa [List.map_snd_zip (bH _)]at this
 ·rw[List.pairwise_map,FY];intro i j hi c V;have O:i < xs.size:=by simpa using hi
  have J:j < xs.size:=by simpa using c
  have h1:=hs i j (vm V) (by rw[<-hp.size_eq]; exact J);rw[K_eq O,K_eq J]at h1;have e:∀ p∈xs.toList,p=(p.2,p.2):=fun p I=>Prod.ext (U p I) rfl
  have a:=e xs[i] (by rw[Array.mem_toList_iff]; exact Array.getElem_mem O);have b:=e xs[j] (by rw[Array.mem_toList_iff]; exact Array.getElem_mem J);rw[a,b]at h1
  simpa using h1
end
theorem mr[Rk]{a:Addr}{vs:List Value}{n:Nat}{P:Fin->Shared->Prop}(ho:s.heap.get? a=some (seqObj "list" vs.toArray n))(hl:vs.length<=sizeLine)(hK:∀ v∈vs,nQ (v,v))
  (hkind:2<=vs.length->∀ h',Tu s.heap h'->∀ Q:SortKind->Shared->Prop,Q Rk.kind { s with heap:=h' }->wpAny (model prog w) A (keyKind' vs.toArray) Q E { s with heap:=h' })
  (hlt:∀ h',Tu s.heap h'->f6 prog w A E { s with heap:=h' })
  (q:∀ out:Array Value,out.toList.Perm vs->out.toList.Pairwise (fun u v=>nk (u,u)<=nk (v,v))->P (.done (.ret .none)) { s with heap:=sortedHeap s.heap a vs out }) :
  wpAny (model prog w) A (Builtin.«list.sort» ⟨[.ref a],[]⟩) P E s:=by
 have D:a < s.heap.objs.size:=cG ho;have l:vs.toArray.size=vs.length:=ff ..;rw[list_sort_plain];refine ar (listItems_at ho rfl (ar (CV ho rfl ?_ (by rw[l]; exact hl) (dI _))));obtain⟨f,V⟩:∃ f,(s.heap.update a (Obj.mapSeq fun _=>#[])).get? a=some (seqObj "list" #[] f):=⟨_,DO ho (fun _=>#[])⟩
 refine ar (seqEpoch_at V rfl (ar (wpAny_newTuple (ar (wpAny_newList (iA ?_))) (by simpa using hl))));have Z:(((s.heap.update a (Obj.mapSeq fun _=>#[])).push (seqObj "tuple" vs.toArray 0)).push (seqObj "list" #[] 0)).get? a=some (seqObj "list" #[] f):=by
  refine cB _ (cB _ V)
 have h:Tu s.heap (((s.heap.update a (Obj.mapSeq fun _=>#[])).push (seqObj "tuple" vs.toArray 0)).push (seqObj "list" #[] 0)):=fun b o e c=>by
  have t:b≠a:=fun z=>by
   subst z;rw[ho]at e;cases e;exact absurd (show Value.type "list" = Value.type "tuple" from c) (by decide)
  exact cB _ (cB _ ((vN _ _ (Ne.symm t)).trans e))
 show wpAny (model prog w) A _ P E { s with heap:=((s.heap.update a (Obj.mapSeq fun _=>#[])).push (seqObj "tuple" vs.toArray 0)).push (seqObj "list" #[] 0) }
 have d:∀ I:SortSt,(arrOf I).Perm (pairsOf vs)->failedOf I=none->SortedTo (arrOf I) (pairsOf vs).size->wpAny (model prog w) A (do
   let O:=(arrOf I).map (·.2)
   let J:=(<-seqEpoch a) != f
   Builtin.List.listUpdate (.ref a) fun _=>O
   if let some e:=failedOf I then rule "list.sort.comparison-raised"; throw e
   if J then rule "list.sort.modified"; raiseError "ValueError" "list modified during sort"
   ret .none) P E { s with heap:=((s.heap.update a (Obj.mapSeq fun _=>#[])).push (seqObj "tuple" vs.toArray 0)).push (seqObj "list" #[] 0) }:=by
  intro I U g hs;refine ar (seqEpoch_at Z rfl (ar (CV Z rfl ?_ (dI _) ?_)))
  ·rw[g];simp only[bne_self_eq_false,gD,fO];obtain⟨i1,i2⟩:=Fy U hs;exact aO (q _ i1 i2)
  ·rw[Array.size_map,U.size_eq,pairsOf_size];omega
 by_cases h2:vs.toArray.size < 2
 ·dsimp only;rw[if_pos h2,if_pos h2];refine ar (aO (ar (aO ?_)));refine d (SortSt.mk' general' (vs.toArray.zip vs.toArray) #[] 7 none) (Array.Perm.refl _) rfl fun i j k B=>?_
  rw[pairsOf_size]at B;have:i=j:=by omega
  rw[this];exact yA _
 ·dsimp only;rw[if_neg h2,if_neg h2]
  haveI:=hlt _ h
  refine ar (hkind (by omega) _ h _ (ar (tU (zk (a₀:=pairsOf vs) (st:=SortSt.mk' Rk.kind (vs.toArray.zip vs.toArray) #[] 7 none)
   (Q:=fun _ I=>(arrOf I).Perm (pairsOf vs)/\failedOf I=none/\SortedTo (arrOf I) (pairsOf vs).size)
   (fun p U=>?_) ⟨Array.Perm.refl _,rfl,rfl,rfl⟩ fun I r x y=>⟨r,x,y⟩) ?_ fun _ _ e=>e)))
  ·rw[pairsOf_toList]at U;obtain⟨m,C⟩:=mem_zip_self U;have:p=(p.1,p.1):=Prod.ext rfl m.symm;rw[this];exact hK _ C
  ·rintro⟨⟨⟩,I⟩ s' ⟨rfl,U,g,hs⟩
   exact d I U g hs
abbrev IP:Rk where
 nk p:=numOf p.1
 nQ p:=∃ n t,p.1=Value.int n t
 kind:=oneType'
theorem Fp:@f6 IP prog w A E s:=by
 refine @f6.mk IP _ _ _ _ _ ?_
 rintro⟨x1,x2⟩ ⟨y1,y2⟩ st Q hk ⟨n,t,hx⟩ ⟨m,u,hy⟩ q
 cases (show x1=_ from hx);cases (show y1=_ from hy);rw[lt'_eq];refine bV (wpS_get ?_);rw[hk];show wpS _ _ _ _ (liftM ((keyLt' oneType' (.int n t) (.int m u)).attempt) >>= _) Q st;rw[keyLt'_oneType];refine bV (wpS_lift (yz (oneLt_int ⟨rfl,?_⟩)));exact cC q
theorem xC(hI:IntsAre vs ns):ns=vs.map numOf:=by
 induction hI with
 | nil=>rfl
 | cons n t _ I=>rw[iU,<-I]; rfl
theorem xX{a:Addr}{P:Fin->Shared->Prop}(ho:s.heap.get? a=some (seqObj "list" vs.toArray n))(hI:IntsAre vs ns)(hl:vs.length<=sizeLine)
  (q:∀ (out:Array Value) (ns':List Int),IntsAre out.toList ns'->ns'.Perm ns->ns'.Pairwise (·<=·)->P (.done (.ret .none)) { s with heap:=sortedHeap s.heap a vs out }) :
  wpAny (model prog w) A (Builtin.«list.sort» ⟨[.ref a],[]⟩) P E s:=by
 refine @mr prog w A E s IP a vs n P ho hl (fun v I=>hI.all v I) (fun h2 h' t Q V=>?_) (fun h' t=>Fp) fun out U Z=>?_
 ·obtain⟨O,J,r,rfl⟩:∃ O J r,vs=O::J::r:=by
   cases vs with
   | nil=>exact absurd h2 (by decide)
   | cons O vs=>
    cases vs with
    | nil=>exact absurd (show 2<=1 from h2) (by decide)
    | cons J r=>exact⟨O,J,r,rfl⟩
  rw[keyKind_ints hI];exact aO V
 ·have all:∀ {l:List Value},(∀ v∈l,∃ n t,v=Value.int n t)->IntsAre l (l.map numOf):=by
   intro l
   induction l with
   | nil=>exact fun _=>.nil
   | cons v l b=>
    intro h;obtain⟨n,t,rfl⟩:=h v (.head _);exact .cons n t (b fun v I=>h v (.tail _ I))
  refine q out (out.toList.map numOf) (all fun v I=>hI.all v (U.mem_iff.mp I)) (by rw[xC hI]; exact U.map _) (List.pairwise_map.mpr Z)
end Gs
namespace Srt
open PySem PyProof.Rows
variable {ep:Nat}{d a l:Addr}{R:Result->Shared->Prop}{Q E:Value->Shared->Prop}{prog:Program}{w:World}{A:Around}{s:Shared}{ns:List Int}
theorem len_dict:typeLookup (.type "dict") "__len__" = pure (some (.builtin "dict.__len__")):=by rw[typeLookup_type,E3]; kernel_rfl
section
variable {κ:Type} [DecidableEq κ] {knd:PySem.KeyKind prog w κ}
theorem kF(S d:Addr)(res:Value)(c₀:Nat){kvs:List (κ × Value)}(hh:A.handled=none)(hsm:(d == sysModules)=false)(hne:d≠S)
  (hS:s.heap.get? S=some { cls:=.type "list",data:=.seq #[] c₀ }) (hm:s.heap.DictAt knd d kvs ep) (hn:kvs.length<=sizeLine)
  (hR:∀ s' acc c',(∀ b o,b≠S->s.heap.get? b=some o->s'.heap.get? b=some o)->s'.gens=s.gens->s'.drawn=s.drawn->s'.os=s.os->
   s'.heap.get? S=some { cls:=.type "list",dict:=none,data:=.seq acc c',slots:=#[] }->ItemsOf (fun i v=>∃ k x,kvs[i]?=some (k,x)/\knd.is k v=true) acc kvs.length->R (.ok (.ret res)) s') :
  wpAny (model prog w) A.in1 (Builtin.List.listExtendWith (.ref S) (.ref d) res)
   (fun fin s'=>match fin with | .done f=>R (.ok f) s' | .again c'=>c'.quiet=true/\codeAny (model prog w) A c' R s') (fun e s'=>R (.error e) s') s:=by
 have y:=hm.dictOf.typeIs;unfold Builtin.List.listExtendWith;refine ar (vi y ?_);have h1:Builtin.List.listSameRef (.ref S) (.ref d)=false:=by simp[Builtin.List.listSameRef,Ne.symm hne]
 rw[if_neg (by rw[h1]; decide)];refine ar (wpAny_pyIter_dict hsm hm ?_);have l:=hm.push { cls:=.type "dict_keyiterator",data:=.fields #[.ref d,.int 0 0,.int kvs.length 0,.int ep 0] };have j:(s.heap.push { cls:=.type "dict_keyiterator",data:=.fields #[.ref d,.int 0 0,.int kvs.length 0,.int ep 0] }).get? S=some { cls:=.type "list",data:=.seq #[] c₀ }:=cB _ hS;have O:Shared.TypeIs { s with heap:=s.heap.push { cls:=.type "dict_keyiterator",data:=.fields #[.ref d,.int 0 0,.int kvs.length 0,.int ep 0] } } (.ref d) "dict":=l.dictOf.typeIs;have q:(s.heap.push { cls:=.type "dict_keyiterator",data:=.fields #[.ref d,.int 0 0,.int kvs.length 0,.int ep 0] }).IsKeyIter s.heap.objs.size d 0 kvs.length ep:=⟨_,fB _ rfl,rfl,rfl⟩
 have I:s.heap.objs.size≠d:=Ne.symm (cH hm.lt_size);have Cu:s.heap.objs.size≠S:=Ne.symm (cH (cG hS));have t:∀ b o,s.heap.get? b=some o->(s.heap.push { cls:=.type "dict_keyiterator",data:=.fields #[.ref d,.int 0 0,.int kvs.length 0,.int ep 0] }).get? b=some o:=fun b o e=>cB _ e
 have a:∀ b o,s.heap.get? b=some o->b≠s.heap.objs.size:=fun b o e=>cH (cG e)
 generalize (s.heap.push { cls:=.type "dict_keyiterator",data:=.fields #[.ref d,.int 0 0,.int kvs.length 0,.int ep 0] })=n at *;refine ar (iA ?_);unfold Builtin.List.listLengthHint;refine ar (Ax O len_dict ?_)
 (generalize I:("dict.__len__":String)=Z; (fail_if_success (clear I Z)); wp_delta; rw[show splitId Z=some ("dict","__len__") from by subst I; decide +kernel]; subst I)
 refine ar (Cy (b:=true) O (by rw[isSubtype_type]; kernel_rfl) ?_);refine ar (m:=typeOf (.ref d)) (vi O ?_);refine aO ?_
 show wpAny _ A.in1 (rule "list.extend.makes-room" >>= fun _=>Builtin.List.listTouch (.ref S) >>= fun _=>
  again (.builtin "list.extend.loop" ⟨[.ref S,.ref s.heap.objs.size,res],[]⟩)) _ _ _
 refine ar (sT ?_);refine ar ?_;unfold Builtin.List.listTouch;refine ar (CV (s:={ s with heap:=n }) j rfl ?_ (dI _) (by show 1<=sizeLine + 1; omega));have h:=DO (c:="list") j (·.push .none);refine CV (s:={ s with heap:=n.update S (Obj.mapSeq (·.push .none)) }) h rfl ?_ (by show 1<=sizeLine; decide) (by show 0<=sizeLine + 1; omega);have u:=DO (c:="list") h (·.pop);have p:∀ b o,b≠S->n.get? b=some o->((n.update S (Obj.mapSeq (·.push .none))).update S (Obj.mapSeq (·.pop))).get? b=some o:=fun b o g e=>
  (vN _ _ (Ne.symm g)).trans ((vN _ _ (Ne.symm g)).trans e)
 have W:=(Walks.dictKeys (knd:=knd) (A:=A.in1) hh s.heap.objs.size d (Ne.symm I) kvs ep).toS;refine aO ⟨xJ EO _,codeAny_extend_loopS W hn S (by simp[Ne.symm Cu,Ne.symm hne]) _ kvs.length 0 _ _ _ rfl (dI _) ?_ u (ItemsOf.nil _) fun s' V c' J r U=>?_⟩
 ·exact⟨q.at fun o e=>p _ o Cu e,l.at' fun o e=>p _ o hne e⟩
 ·refine hR s' V c' (fun b o g e=>?_) J.gens J.drawn J.os r U;exact J.heap b o (by simp[g,a b o e]) (p b o g (t b o e))
end
theorem CF{vs:List Value}{n:Nat}{P:Fin->Shared->Prop}(ho:s.heap.get? a=some (seqObj "list" vs.toArray n))(hI:IntsAre vs ns)(hl:vs.length < 128)
  (q:∀ (out:Array Value) (ns':List Int),IntsAre out.toList ns'->ns'.Perm ns->ns'.Pairwise (·<=·)->P (.done (.ret .none)) { s with heap:=sortedHeap s.heap a vs out }) :
  wpAny (model prog w) A (Builtin.«list.sort» ⟨[.ref a],[]⟩) P E s:=by
 exact Gs.xX ho hI (by rw[mP]; omega) q
theorem wz{κ:Type}{is:κ->Value->Bool}:∀ {l:List Value} {kvs:List (κ × Value)} {ns:List Int} {f:Int->κ},(∀ i v,is (f i) v=true->∃ t,v=.int i t)->l.length=kvs.length->(∀ (i:Nat) v,l[i]?=some v->∃ k x,kvs[i]?=some (k,x)/\is k v=true)->kvs.map (·.1)=ns.map f->IntsAre l ns
 | [],[],[],_,_,_,_,_=>.nil
 | [],[],_::_,_,_,_,_,e=>by simp at e
 | [],_::_,_,_,_,h,_,_=>by simp at h
 | _::_,[],_,_,_,h,_,_=>by simp at h
 | _::_,_::_,[],_,_,_,_,e=>by simp at e
 | v::l,(k,x)::kvs,n::ns,f,hf,hl,h,e=>by
  rw[iU,iU,List.cons.injEq]at e;obtain⟨k',x',e1,e2⟩:=h 0 v rfl;have e1:some (k,x)=some (k',x'):=e1;cases e1;have I:k=f n:=e.1;rw[I]at e2;obtain⟨t,rfl⟩:=hf n v e2;exact .cons n t (wz hf (by simpa using hl) (fun i u J=>h (i + 1) u J) e.2)
theorem xM{κ:Type}[DecidableEq κ]{knd:PySem.KeyKind prog w κ}{S:Addr}{c₀:Nat}{kvs:List (κ × Value)}(hh:A.handled=none)(hsm:(d == sysModules)=false)(hne:d≠S)
  (hS:s.heap.get? S=some { cls:=.type "list",data:=.seq #[] c₀ }) (hm:s.heap.DictAt knd d kvs ep) (hn:kvs.length<=sizeLine)
  (hR:∀ s' acc c',(∀ b o,b≠S->s.heap.get? b=some o->s'.heap.get? b=some o)->s'.gens=s.gens->s'.drawn=s.drawn->s'.os=s.os->
   s'.heap.get? S=some { cls:=.type "list",dict:=none,data:=.seq acc c',slots:=#[] }->ItemsOf (fun i v=>∃ k x,kvs[i]?=some (k,x)/\knd.is k v=true) acc kvs.length->R (.ok (.ret (.ref S))) s') :
  codeAny (model prog w) A (.builtin "list.__iadd__" ⟨[.ref S,.ref d],[]⟩) R s:=by
 refine ug F.entry_list_iadd ?_;rw[wk F.plain_list_iadd _];exact kF (knd:=knd) S d _ c₀ hh hsm hne hS hm hn hR
theorem rg{κ:Type}[DecidableEq κ]{knd:PySem.KeyKind prog w κ}{kvs:List (κ × Value)}{f:Int->κ}(hh:A.handled=none)(hsm:(d == sysModules)=false)
  (hm:s.heap.DictAt knd d kvs ep) (hf:∀ i v,knd.is (f i) v=true->∃ t,v=.int i t) (hk:kvs.map (·.1)=ns.map f) (hl:kvs.length < 128)
  (q:∀ (s':Shared) (l:Addr) (out:Array Value) (ns':List Int) (c:Nat),(∀ b o,s.heap.get? b=some o->s'.heap.get? b=some o)->s'.gens=s.gens->s'.drawn=s.drawn->s'.os=s.os->s.heap.objs.size<=l->
   s'.heap.get? l=some (seqObj "list" out c)->IntsAre out.toList ns'->ns'.Perm ns->ns'.Pairwise (·<=·)->Q (.ref l) s') :
  wpAny (model prog w) A (call (.builtin "sorted") [.ref d]) Q E s:=by
 have g:d≠s.heap.objs.size:=cH hm.lt_size;refine Calls.call_function_entry kind_sorted plain_sorted entry_sorted (args_sorted1 _) ?_;unfold Builtin.«sorted»;refine ar (m:=checkCount "sorted" 1 1 _) (aO ?_);refine ar (Q:=_) ?_;unfold collect;refine ar (wpAny_runValue (ug F.entry_proto_collect ?_));rw[wk F.plain_proto_collect _];refine ar (qV (aO ⟨xJ F.plain_list_iadd _,?_⟩));refine xM (s:={ s with heap:=s.heap.push { cls:=.type "list",data:=.seq ([]:List Value).toArray } }) (knd:=knd) (kvs:=kvs) (ep:=ep) (S:=s.heap.objs.size) (d:=d) (c₀:=0) (by exact hh) hsm g (fB _ rfl) (hm.push _) (by rw[mP]; omega) fun s1 I H k1 z D y k J=>?_
 refine ar (wpAny_load k (aO ?_));have r:IntsAre I.toList ns:=wz (kvs:=kvs) hf (by rw[dY]; exact J.1) (fun i v B=>J.2 i v (by rw[<-iI]; exact B)) hk;have U:I.toList.length=kvs.length:=by rw[dY]; exact J.1
 refine ar (wpAny_newList ?_ (by rw[U,mP]; omega));have O:(s1.heap.push (seqObj "list" I.toList.toArray 0)).get? s1.heap.objs.size=some (seqObj "list" I.toList.toArray 0):=fB _ rfl;have Z:s.heap.objs.size < s1.heap.objs.size:=cG k;refine ar (iA (lD slot_list_sort ⟨_,O,rfl⟩ entry_list_sort (CF O r (by omega) fun out ns' u x G=>⟨_,rfl,?_⟩) (args_list_sort _)));obtain⟨p,a⟩:=sortedHeap_at (h:=s1.heap.push (seqObj "list" I.toList.toArray 0)) (n:=0) (out:=out) O;refine aO ⟨_,rfl,q _ _ out ns' p (fun b o e=>?_) z D y (vm Z) a u x G⟩;have j:b < s.heap.objs.size:=cG e;have V:b < s1.heap.objs.size:=Nat.lt_trans j Z;have C:=k1 b o (cH j) (cB _ e);show (sortedHeap (s1.heap.push (seqObj "list" I.toList.toArray 0)) s1.heap.objs.size I.toList out).get? b=some o;rw[sortedHeap_old (cH V) (by rw[size_push']; exact DX V)];exact cB _ C
theorem list_dict{κ:Type}[DecidableEq κ]{knd:PySem.KeyKind prog w κ}{kvs:List (κ × Value)}(hh:A.handled=none)(hsm:(d == sysModules)=false)
  (hm:s.heap.DictAt knd d kvs ep) (hl:kvs.length<=sizeLine)
  (q:∀ (s':Shared) (acc:Array Value) (c:Nat),(∀ b o,s.heap.get? b=some o->s'.heap.get? b=some o)->s'.gens=s.gens->s'.drawn=s.drawn->s'.os=s.os->
   s'.heap.get? s.heap.objs.size=some (seqObj "list" acc c)->ItemsOf (fun i v=>∃ k x,kvs[i]?=some (k,x)/\knd.is k v=true) acc kvs.length->Q (.ref s.heap.objs.size) s') :
  wpAny (model prog w) A (call (.type "list") [.ref d]) Q E s:=by
 have O:d≠s.heap.objs.size:=cH hm.lt_size;refine callType_codes (Q₁:=fun J g=>J=.ref s.heap.objs.size/\g={ s with heap:=s.heap.push { cls:=.type "list",data:=.seq #[] } }) F.called_list (F.typeCall_list_1 _) F.entry_list_init
  (code_list_new _ ⟨rfl,rfl⟩) fun J g j=>?_
 obtain⟨rfl,rfl⟩:=j;have V:(s.heap.push { cls:=.type "list",data:=.seq #[] }).get? s.heap.objs.size=some { cls:=.type "list",data:=.seq #[] }:=fB _ rfl;refine⟨⟨_,V,rfl⟩,F.args_list_init_2 _ _,?_⟩;show wpAny _ A.in1.in1 (do let old <-Builtin.List.listItems (.ref s.heap.objs.size); Builtin.List.listUpdate (.ref s.heap.objs.size) (fun _=>#[]); letGo old.toList.reverse; Builtin.List.listExtendWith (.ref s.heap.objs.size) (.ref d) .none) _ _ _;refine ar (listItems_at V rfl (ar (CV V rfl (ar (wpAny_letGo ?_)) (dI _) (dI _))));have Z:=DO (c:="list") V (fun _=>#[]);have f:∀ b o,b≠s.heap.objs.size->(s.heap.push { cls:=.type "list",data:=.seq #[] }).get? b=some o->((s.heap.push { cls:=.type "list",data:=.seq #[] }).update s.heap.objs.size (Obj.mapSeq (fun _=>(#[]:Array Value)))).get? b=some o:=fun b o U e=>(vN _ _ (Ne.symm U)).trans e
 refine kF (knd:=knd) (kvs:=kvs) (ep:=ep) s.heap.objs.size d _ _ (by exact hh) hsm O Z ((hm.push _).at' fun o e=>f _ o O e) hl fun s1 acc h k1 m n l a I=>?_
 refine⟨rfl,q s1 acc h (fun b o e=>?_) m n l a I⟩;have U:=cH (cG e);exact k1 b o U (f b o U (cB _ e))
theorem qp:typeLookup (.type "list") "keys" = pure none:=by rw[typeLookup_type,E3]; kernel_rfl
theorem bS:plainId "dict.update.loop" = true:=by decide +kernel
theorem dz:entryFor table "dict.update.loop" = some Builtin.«dict.update.loop»:=entryFor_of_fast (by kernel_rfl)
section
theorem nP{xs:Array Value}{k:Nat}{Q:Option Value->Shared->Prop}(hx:s.heap.get? a=some { cls:=.type "list",data:=.seq xs k })(hA:A.handled=none)
  (h:∀ h' tk,(∀ b o,s.heap.get? b=some o->h'.get? b=some o)->Q none { s with heap:=h',toks:=tk }):wpAny (model prog w) A (getAttr? (.ref a) "keys") Q E s:=by
 obtain⟨U,g,d,tk,os⟩:=s;have O:∀ J,(⟨U,g,d,J,os⟩:Shared).TypeIs (.ref a) "list":=fun _=>⟨_,hx,rfl⟩
 have j:=sub_AttributeError;have V:=F.slot_list_getattribute.lookup;have c:=F.slot_list_getattribute.bind (.ref a);have i:=am_list_getattr_none;unfold getAttr? getAttrBy? getAttrBy
 repeat (any_goals (first | assumption | exact O _ | ((with_reducible show wpAny _ _ (call (Value.builtin "list.__getattribute__") _ _) _ _ _); refine call_meets F.slot_list_getattribute (O _) am_entry_list_getattribute (F.args_list_getattribute_2 _ _) (meets_getattribute_miss_list a xs k #[] "keys" _ qp (by decide) (by rw[mP]; decide)) ⟨hx,hA,fun h' J e I=>?_⟩) | wp_step))
 obtain⟨t',f,Z⟩:=I.there;show wpAny _ _ (getattributeRaised _ _ _ _ _ _ _) _ _ _;unfold getattributeRaised
 repeat (any_goals (first | assumption | wp_step))
 exact h _ _ I.keeps
structure Pr (κ:Type) where
 p:Addr
 k:κ
 key:Value
 v:Value
variable {κ:Type} [DecidableEq κ] {knd:PySem.KeyKind prog w κ}{ts:List (Pr κ)}
abbrev tL(ts:List (Pr κ)):List (κ × Value):=ts.map fun t=>(t.k,t.v)
abbrev r6(ts:List (Pr κ)):List Value:=ts.map fun t=>.ref t.p
theorem ze{it:Addr}{res:Value}(hh:A.handled=none)(hil:l≠it)(hdi:d≠it)(hdl:l≠d)(hp:∀ t∈ts,t.p≠it/\t.p≠d)(hk:∀ t∈ts,knd.is t.k t.key=true)(hn:ts.length<=sizeLine) :
  ∀ (n i:Nat) (s:Shared),ts.length - i=n->i<=ts.length->s.heap.IsListIter it l i->s.heap.IsList l (r6 ts).toArray->(∀ t∈ts,s.heap.IsTuple t.p #[t.key,t.v])->s.heap.DictOf knd d (merged [] ((tL ts).take i))->
  (∀ s',(∀ b o,b≠it->b≠d->s.heap.get? b=some o->s'.heap.get? b=some o)->s'.gens=s.gens->s'.drawn=s.drawn->s'.os=s.os->s'.heap.DictOf knd d (merged [] (tL ts))->R (.ok (.ret res)) s')->
  codeAny (model prog w) A (.builtin "dict.update.loop" ⟨[.ref d,.ref it,.int i 0,res],[]⟩) R s:=by
 intro n
 induction n with
 | zero=>
  intro i s z hi V r G j q;have e:i=ts.length:=by omega
  subst e;refine ug dz ?_;rw[wk bS _];show wpAny _ A.in1 (pyNext (.ref it) >>= _) _ _ s;refine ar (wpAny_pyNext_list_end hh V r (by simp) fun h' D=>?_);refine ar (m:=Builtin.Dict.addKeywords d []) (aO (aO ?_));refine q { s with heap:=h' } (fun b o Z _ e=>D b o Z e) rfl rfl rfl ?_;rw[yE (by simp)]at j;exact j.extBut D hdi
 | succ n N=>
  intro i s z hi V r G j q;have U:i < ts.length:=by omega
  refine ug dz ?_;rw[wk bS _];show wpAny _ A.in1 (pyNext (.ref it) >>= _) _ _ s;have F:ts[i]∈ts:=wN U;refine ar (wpAny_pyNext_list_item V r (x:=.ref ts[i].p) (by simp[U]) fun h1 g J=>?_);have a:∀ t∈ts,h1.IsTuple t.p #[t.key,t.v]:=fun t h=>(G t h).extBut J.extBut (hp t h).1
  have B:=r.extBut J.extBut hil;have y:=j.extBut J.extBut hdi;obtain⟨o,E,M,c,f⟩:=id (a _ F);refine ar (iA (ar (wpAny_tryCatch ?_)));unfold Builtin.Dict.pairItems;refine ar (vi (s:={ s with heap:=h1 }) (T:="tuple") ⟨o,E,M⟩ ?_);rw[if_pos (by decide)];refine ar (m:=seqItems? (.ref ts[i].p)) ?_;unfold seqItems?;refine ar (wpAny_load (s:={ s with heap:=h1 }) E ?_);rw[f];refine aO (aO ?_);show wpAny _ A.in1 (holding [ts[i].key,ts[i].v] (dictSet d ts[i].key ts[i].v)) _ _ { s with heap:=h1 };have L:(merged [] ((tL ts).take i)).length<=sizeLine:=by
   have:=merged_length_le (K:=κ) [] ((tL ts).take i);rw[gx,bL]at this;simp at this;omega
  refine iA (wpAny_dictSet_pairs (hsz:=L) (hk _ F) y fun h2 u O=>?_);refine aO ⟨xJ bS _,?_⟩;have H:∀ b o,b≠it->b≠d->s.heap.get? b=some o->h2.get? b=some o:=fun b o Z I e=>(O.2 b I).trans ((J.2 b Z).trans e)
  have:=N (i + 1) { s with heap:=h2,toks:=s.toks + 1 } (by omega) U (g.extBut O.extBut (Ne.symm hdi)) (B.extBut O.extBut hdl) (fun t h=>(a t h).extBut O.extBut (hp t h).2)
   (by rw[merged_take_succ [] (tL ts) i (ts[i].k,ts[i].v) (by simp[U])]; exact u) fun s' k' g' C o' dd=>q s' (fun b o Z I e=>k' b o Z I (H b o Z I e)) g' C o' dd
  exact this
theorem uw{c:Nat}(hh:A.handled=none)(hl:s.heap.get? l=some { cls:=.type "list",data:=.seq (r6 ts).toArray c })(ht:∀ t∈ts,s.heap.IsTuple t.p #[t.key,t.v])(hk:∀ t∈ts,knd.is t.k t.key=true)(hn:ts.length<=sizeLine)
  (q:∀ s':Shared,(∀ b o,s.heap.get? b=some o->s'.heap.get? b=some o)->s'.gens=s.gens->s'.drawn=s.drawn->s'.os=s.os->s'.heap.DictOf knd s.heap.objs.size (merged [] (tL ts))->Q (.ref s.heap.objs.size) s') :
  wpAny (model prog w) A (call (.type "dict") [.ref l]) Q E s:=by
 refine callType_codes (Q₁:=fun Z k=>Z=.ref s.heap.objs.size/\k={ s with heap:=s.heap.push { cls:=.type "dict",data:=.dict #[] } }) F.kt_called_dict (F.kt_typeCall_dict_1 _) F.entry_dict_init (kt_code_dict_new _ ⟨rfl,rfl⟩) ?_
 rintro Z k ⟨rfl,rfl⟩
 have I:(s.heap.push { cls:=.type "dict",data:=.dict #[] }).DictOf knd s.heap.objs.size []:=Heap.DictOf.new s.heap;have O:(s.heap.push { cls:=.type "dict",data:=.dict #[] }).get? l=some { cls:=.type "list",data:=.seq (r6 ts).toArray c }:=cB _ hl;have m:(s.heap.push { cls:=.type "dict",data:=.dict #[] }).objs.size=s.heap.objs.size + 1:=yx ..;have U:∀ b o,s.heap.get? b=some o->(s.heap.push { cls:=.type "dict",data:=.dict #[] }).get? b=some o:=fun b o e=>cB _ e
 refine⟨I.typeIs,F.args_dict_init_2 _ _,?_⟩;generalize s.heap.push { cls:=.type "dict",data:=.dict #[] }=g at *;unfold Builtin.«dict.__init__»;refine ar ?_;unfold Builtin.Dict.selfAndRest;refine ar (wpAny_notOrdered_dict (s:={ s with heap:=g }) I.typeIs ?_);show wpAny _ _ (pure (s.heap.objs.size,[Value.ref l])) _ _ _;refine aO ?_;show wpAny _ _ (Builtin.Dict.updateFrom "dict.__init__" s.heap.objs.size (.ref l) [] .none) _ _ _;unfold Builtin.Dict.updateFrom;refine ar (vi (s:={ s with heap:=g }) (T:="list") ⟨_,O,rfl⟩ ?_);rw[if_pos (by decide)];refine ar (nP (s:={ s with heap:=g }) O (by exact hh) fun h2 d k2=>?_);rw[if_pos (by rfl)];refine ar (sT ?_);have f:h2.IsList l (r6 ts).toArray:=⟨_,k2 _ _ O,rfl,_,rfl⟩
 have a:h2.DictOf knd s.heap.objs.size []:=by
  obtain⟨o,es,ep,J,r⟩:=I;exact⟨o,es,ep,k2 _ _ J,r⟩
 have V:∀ b o,g.get? b=some o->b < h2.objs.size:=fun b o e=>cG (k2 b o e)
 refine ar (wpAny_pyIter_list (s:={ s with heap:=h2,toks:=d }) f (aO ⟨xJ bS _,?_⟩));have j:s.heap.objs.size < h2.objs.size:=by
  obtain⟨o,es,ep,J,r⟩:=a;exact cG J
 refine ze (ts:=ts) (knd:=knd) (s:={ s with heap:=h2.push { cls:=.type "list_iterator",data:=.fields #[.ref l,.int 0 0] },toks:=d }) (n:=ts.length) (i:=0) (l:=l) (by exact hh) (cH (V l _ O)) (cH j) (cH (cG hl)) ?_ hk hn rfl (dI _)
  ⟨_,fB _ rfl,rfl,rfl⟩ ?_ ?_ ?_ fun s' k' g' d' o' dd=>?_
 ·intro t h;obtain⟨o,J,_⟩:=ht t h;exact⟨cH (V _ _ (U _ _ J)),cH (cG J)⟩
 ·obtain⟨o,J,r⟩:=f;exact⟨o,cB _ J,r⟩
 ·intro t h;obtain⟨o,J,r⟩:=ht t h;exact⟨o,cB _ (k2 _ _ (U _ _ J)),r⟩
 ·exact a.push _
 ·refine⟨rfl,q s' (fun b o e=>?_) g' d' o' dd⟩;exact k' b o (cH (V b o (U b o e))) (cH (cG e)) (cB _ (k2 _ _ (U _ _ e)))
end
end Srt
namespace L2
open PySem PySem.Spec PyProof.Rows
variable {w:World}{a:Addr}{kvs:List (Key × V)}{es:List Expr}{pos post:Pos}{X:Cx}{σ:St}{H:Hp}{s:Shared}{P prog:Program}{A:Around}{v:Value}{vs:List (Key × Value)}{i:Nat}{o:Obj}{g:TG}{te:TE}{E:Value->Shared->Prop}
section
variable {κ:Type} [DecidableEq κ] {knd:PySem.KeyKind prog w κ}
end
theorem Inv.new{pins:List (Addr × Obj)}{s':Shared}{o:HO}(I:Inv X pins σ H s)(k:∀ b u,s.heap.get? b=some u->s'.heap.get? b=some u)(g:s'.gens=s.gens)(d:s'.drawn=s.drawn)(os:s'.os=s.os)
  (hp:s.heap.objs.size<=a) (new:bW X.prog X.w (upd H a o) s'.heap a o):Inv X pins σ (upd H a o) s':=by
 obtain⟨h',g',d',t',o'⟩:=s';cases g;cases d;cases os;exact I.laid (t':=t') k hp new
theorem Fc{i:Int}(h:iQ (.inl i) v=true):∃ t,v=.int i t:=by
 rcases bO h with ⟨j,t,e,rfl⟩ | ⟨x,t,e,_⟩
 ·cases e; exact⟨t,rfl⟩
 ·cases e
theorem AB{k:Key}(h:iQ k v=true):RelV (kV k) v:=by
 rcases bO h with ⟨j,t,rfl,rfl⟩ | ⟨x,t,rfl,rfl⟩
 ·exact⟨t,rfl⟩
 ·exact⟨t,rfl⟩
theorem sg:∀ {us:List Value} {ns:List Int},IntsAre us ns->Vals (ns.map V.int) us
 | _,_,.nil=>.nil
 | _,_,.cons n t h=>.cons ⟨t,rfl⟩ (sg h)
inductive Au(xs:List V)(H:Hp)(Q:VK):Prop|m(p:Addr)(kvs:List (Key × V))(ns:List Int)(_:xs=[.ref p])(_:H p=some (.dK kvs))(_:kvs.map (·.1)=ns.map Sum.inl)(_:kvs.length < 128)(_:∀ (l:Addr) (ns':List Int),H l=none->ns'.Perm ns->ns'.Pairwise (·<=·)->Q (.ref l) (upd H l (.lst (ns'.map V.int))))
theorem pK(hc:X.calm=true):d8 X (.builtin "sorted") Au:=by
 intro pins s σ H xs us Q I r h;obtain⟨p,kvs,ns,rfl,t,b,y,q⟩:=h;obtain⟨u,rfl,e⟩:=r.one;cases e;obtain⟨z,a,vs,J,dd⟩:=sW I.hok t;obtain⟨ep,n⟩:=dd.dictAt;refine Srt.rg (f:=Sum.inl) (I.ok.hd hc) a n (fun i v x=>Fc x) (by rw[<-J.keys]; exact b) (by rw[<-J.length]; exact y) fun s' l out O c k g d o U Z i1 i2 j=>?_
 have m:=I.hok.fresh U;refine⟨.ref l,_,I.new k g d o U (o:=.lst (O.map V.int)) ⟨?_,out.toList,c,sg i1,?_⟩,rfl,q l O m i2 j⟩
 ·rw[bL,i2.length_eq,<-bL (f:=(Sum.inl:Int->Key)),<-b,bL,mP];omega
 ·exact Z
inductive FG(xs:List V)(H:Hp)(Q:VK):Prop|m(p:Addr)(kvs:List (Key × V))(_:xs=[.ref p])(_:H p=some (.dK kvs))(_:∀ l,H l=none->Q (.ref l) (upd H l (.lst (kvs.map fun kv=>kV kv.1))))
theorem og:∀ {us:List Value} {kvs:List (Key × V)},us.length=kvs.length->(∀ (i:Nat) v,us[i]?=some v->∃ k x,kvs[i]?=some (k,x)/\iQ k v=true)->Vals (kvs.map fun kv=>kV kv.1) us
 | [],[],_,_=>.nil
 | [],_::_,h,_=>by simp at h
 | _::_,[],h,_=>by simp at h
 | v::us,(k,x)::kvs,hl,h=>by
  obtain⟨k',x',e1,e2⟩:=h 0 v rfl;have e1:some (k,x)=some (k',x'):=e1;cases e1;exact .cons (AB e2) (og (by simpa using hl) fun i u I=>h (i + 1) u I)
theorem KV.at_(r:KV kvs vs){k:Key}{x:Value}(h:vs[i]?=some (k,x)):∃ v,kvs[i]?=some (k,v)/\RelV v x:=by
 induction r generalizing i with
 | nil=>simp at h
 | cons a _ I=>
  cases i with
  | zero=>
   have h:some _=some (k,x):=h;cases h;exact⟨_,pq some (Prod.ext a.1 rfl),a.2⟩
  | succ i=>exact I h
theorem vv(hc:X.calm=true):d8 X (.type "list") FG:=by
 intro pins s σ H xs us Q I r h;obtain⟨p,kvs,rfl,f,q⟩:=h;obtain⟨u,rfl,Z⟩:=r.one;cases Z;obtain⟨z,U,vs,J,dd⟩:=sW I.hok f;obtain⟨ep,e⟩:=dd.dictAt;refine Srt.list_dict (I.ok.hd hc) U e (by rw[<-J.length]; exact z) fun s' V c k g d o O hi=>?_
 refine⟨.ref s.heap.objs.size,_,I.new k g d o (bH _) (o:=.lst (kvs.map fun m=>kV m.1)) ⟨by rw[bL]; exact z,V.toList,c,og ?_ fun i v j=>?_,O⟩,rfl,q _ I.fresh⟩
 ·rw[dY,hi.1,J.length]
 ·obtain⟨k1,t,l,b⟩:=hi.2 i v (by rw[<-iI]; exact j);obtain⟨n,a,_⟩:=J.at_ l;exact⟨k1,n,a,b⟩
inductive FJ(xs:List V)(H:Hp)(Q:VK):Prop|m(l:Addr)(ps:List (Addr × Key × V))(_:xs=[.ref l])(_:H l=some (.lst (ps.map fun t=>.ref t.1)))(_:(∀ t∈ps,H t.1=some (.tup [kV t.2.1,t.2.2])))(_:∀ p,H p=none->Q (.ref p) (upd H p (.dK (eJ [] (ps.map (·.2))))))
theorem Bf{P:Program}{w:World}{H:Hp}{h:Heap}(ok:gR P w H h):∀ {ps:List (Addr × Key × V)},(∀ t∈ps,H t.1=some (.tup [kV t.2.1,t.2.2]))->
  ∃ ts:List (Srt.Pr Key),ts.map (·.p)=ps.map (·.1)/\(∀ t∈ts,h.IsTuple t.p #[t.key,t.v])/\(∀ t∈ts,(bt P w).is t.k t.key=true)/\KV (ps.map (·.2)) (Srt.tL ts)
 | [],_=>⟨[],rfl,fun _ h=>absurd h gh,fun _ h=>absurd h gh,Paired.nil⟩
 | (p,k,v)::ps,hp=>by
  obtain⟨ts,e1,e2,e3,e4⟩:=Bf ok (ps:=ps) fun t I=>hp t (jd _ I)
  have U:H p=some (.tup [kV k,v]):=hp _ gC;obtain⟨z,its,e,o,a,Z,n,J⟩:=ok p _ U;obtain⟨d,c,rfl,O,b⟩:=e.two;refine⟨⟨p,k,d,c⟩::ts,by rw[iU,iU,e1],fun t I=>?_,fun t I=>?_,.cons ⟨rfl,b⟩ e4⟩
  ·rcases d0.mp I with rfl | I
   ·exact⟨o,a,Z,n,J⟩
   ·exact e2 t I
  ·rcases d0.mp I with rfl | I
   ·exact om O
   ·exact e3 t I
theorem ij:∀ {as:List Addr} {us:List Value},Vals (as.map V.ref) us->us=as.map Value.ref
 | [],_,.nil=>rfl
 | a::as,_,.cons r t=>by rw[iU,ij t]; cases r; rfl
theorem mD(hc:X.calm=true):d8 X (.type "dict") FJ:=by
 intro pins s σ H xs us Q I r h;obtain⟨l,ps,rfl,p,m,q⟩:=h;obtain⟨u,rfl,Z⟩:=r.one;cases Z;obtain⟨z,its,n,U,J,e⟩:=I.pZ p;obtain⟨ts,O,f,a,b⟩:=Bf I.hok m;have i:its=Srt.r6 ts:=by
  have:(ps.map fun t=>V.ref t.1)=(ps.map (·.1)).map V.ref:=by rw[List.map_map]; rfl
  rw[this]at U;rw[ij U,<-O,List.map_map]; rfl
 subst i;have c:ts.length<=sizeLine:=by
  have:=pq List.length O;rw[bL,bL]at this;rw[bL]at z;omega
 refine Srt.uw (knd:=bt X.prog X.w) (I.ok.hd hc) e f a c fun s' k g d o dd=>?_
 refine⟨.ref s.heap.objs.size,_,I.new k g d o (bH _) (o:=.dK (eJ [] (ps.map (·.2)))) ?_,rfl,q _ I.fresh⟩;have j:(s.heap.objs.size == sysModules)=false:=BE.mpr (Ne.symm (cH I.big));refine⟨?_,j,merged [] (Srt.tL ts),KV.merge b .nil,dd⟩;have:=fK (ps.map (·.2)) [];rw[bL]at this z;simp at this;omega
theorem iN:entryFor table "dict_itemiterator.__iter__" = some Builtin.«dict_keyiterator.__iter__»:=
 entryFor_alias (id':="dict_keyiterator.__iter__") (by kernel_rfl) rfl (by decide +kernel) (by kernel_rfl)
def IA(a:Addr)(o:Obj)(kvs:List (Key × V)):It:=
 ⟨fun i H=>H a=some (.frz o (.dK kvs))/\i < kvs.length,fun i H x H'=>∃ t k v,H t=none/\x=.ref t/\kvs[i]?=some (k,v)/\H'=upd H t (.tup [kV k,v]),fun i H=>H a=some (.frz o (.dK kvs))/\kvs.length<=i⟩
theorem sI{h:Heap}{es:Array DictEntry}{ep:Nat}(ok:gR P w H h)(e:H a=some (.frz o (.dK kvs)))(hd:o.data=.dict es ep) :
  ∃ vs,KV kvs vs/\h.DictAt (bt P w) a vs ep:=by
 obtain⟨U,z,V,vs,O,o',b,c,I,Z,J,r⟩:=ok a _ e;rw[U]at I;cases I;rw[hd]at J;cases J;exact⟨vs,O,o,es,U,Z,hd,r⟩
theorem KV.to(r:KV kvs vs){k:Key}{v:V}(h:kvs[i]?=some (k,v)):∃ x,vs[i]?=some (k,x)/\RelV v x:=by
 induction r generalizing i with
 | nil=>simp at h
 | cons a _ I=>
  cases i with
  | zero=>
   have h:some _=some (k,v):=h;cases h;exact⟨_,pq some (Prod.ext a.1.symm rfl),a.2⟩
  | succ i=>exact I h
theorem tY{K:aL}{k:Nat}(a it:Addr)(o:Obj)(kvs:List (Key × V))(des:Array DictEntry)(ep:Nat)(hod:o.data=.dict des ep) :
  Turn P w K (.Tuple es k pos) (IA a o kvs) [it] it (fun i h=>∃ ok ov,IsItemIter h it a i kvs.length ep ok ov) where
 mem:=by simp
 obj:=fun i h st b O=>by
  obtain⟨x,y,st⟩:=st;have e:b=it:=by simpa using O
  subst e;exact⟨_,st,fun v z=>by cases z⟩
 keep:=fun i h h' st kp=>by
  obtain⟨x,y,st⟩:=st;exact⟨x,y,kp it (by simp) _ st⟩
 item:=by
  intro X M G N Z i pins s σ H E I B st g;subst M G N;obtain⟨g,d⟩:=g;obtain⟨x,y,st⟩:=st;obtain⟨vs,U,L⟩:=sI I.hok g hod;obtain⟨⟨k0,S⟩,j⟩:∃ q,kvs[i]?=some q:=⟨_,cL d⟩
  obtain⟨u,hu,T⟩:=U.to j;rw[U.length]at st;refine wpAny_pyNext_items_item st L hu fun key h1 p o1 t1 z1 k1=>?_
  refine⟨_,rfl,wpAny_letOwnedTupleGo_items (s:={ s with heap:=h1 }) o1 fun h2 o2 R=>?_⟩;have J:H s.heap.objs.size=none:=I.fresh;have t:it < s.heap.objs.size:=cG st;have k2:∀ b o,b≠it->s.heap.get? b=some o->h2.get? b=some o:=fun b o O q=>R.extBut b o O (k1 b o O q)
  have t2:h2.get? s.heap.objs.size=some { cls:=.type "tuple",data:=.seq #[key,u] }:=R.extBut _ _ (Nat.ne_of_gt t) t1;have f:=B it (by simp);have l:∀ b o,H b=some o->b≠it:=fun b o q z=>by rw[z,f.1]at q; cases q
  have Y:Inv X pins σ (upd H s.heap.objs.size (.tup [kV k0,S])) { s with heap:=h2,gens:=s.gens,drawn:=s.drawn,toks:=s.toks }:=by
   refine I.step (ch:=[it]) (fun b O=>?_) (fun b o _ _ Z q _=>k2 b o (fun z=>Z (by simp[z])) q) (fun b o _ _ Z q _=>⟨o.slots,k2 b o (fun z=>Z (by simp[z])) q⟩)
    (fun b o _ q n=>by rw[aw (cH (cG q))]; exact n) (fun b o Z q=>⟨o,k2 b o (fun z=>Z (by simp[z])) q⟩)
    (fun b zs q=>by rw[aw (aM q J)]; exact q) (fun b o v q=>by rw[aw (aM q J)]; exact q) (fun b ps q=>⟨#[],by rw[aw (aM q J),q]; simp⟩) (fun m hm=>?_) (fun b o q=>?_) I.bare
   ·have e:b=it:=by simpa using O
    subst e;exact⟨f.2.2.2.1,f.2.1,f.2.2.2.2.1,f.2.2.2.2.2⟩
   ·obtain⟨o,C,ep,ho,r⟩:=hm;exact⟨o,C,ep,k2 _ o (Ne.symm f.2.1) ho,r⟩
   ·by_cases O:b=s.heap.objs.size
    ·subst O;rw[ae]at q;cases q;exact⟨by show 2<=sizeLine; decide,[key,u],.cons (AB p) (.cons T .nil),_,t2,rfl,_,rfl⟩
    ·rw[aw O]at q;refine (I.hok b o q).nI (fun c v Z z=>k2 c v ?_ z) (fun c z=>by rw[aw (aM z J)]; exact z) fun c zs z=>by rw[aw (aM z J)]; exact z
     rcases Z with z' | z'
     ·rw[z']; exact l b o q
     ·exact l c _ z'
  refine⟨.ref s.heap.objs.size,_,Y,rfl,⟨_,k0,S,J,rfl,j,rfl⟩,⟨key,u,?_⟩,fun b O=>?_⟩
  ·rw[U.length]; exact o2
  ·have e:b=it:=by simpa using O
   subst e;rw[aw (cH t)]; exact f.1
 done:=by
  intro X M G N Z i pins s σ H E I B st g;subst M G N;obtain⟨g,d⟩:=g;obtain⟨x,y,st⟩:=st;obtain⟨vs,U,L⟩:=sI I.hok g hod;rw[U.length]at st d;obtain⟨f0,f1,f2,f3,f4,f5⟩:=B it (by simp);exact wpAny_pyNext_items_end (I.ok.hd Z) st L (yD d) fun h' W=>⟨rfl,I.turned (t':=s.toks) (fun b o O e=>W b o O e) f0 f1 f3 f4 f5⟩
 self:=fun A i s Q E st h=>by
  obtain⟨x,y,st⟩:=st;have D:s.TypeIs (.ref it) "dict_itemiterator":=⟨_,st,rfl⟩
  exact E5 D F.slot_dict_itemiterator_iter (lD F.slot_dict_itemiterator_iter D iN (aO ⟨_,rfl, "dict_itemiterator",_,D,F.slot_dict_itemiterator_next.lookup,h⟩) (F.args_dict_itemiterator_iter_1 _))
def E7(td:TE):TI:=fun σ H R=>td σ H fun x H1=>∃ (a:Addr) (kvs:List (Key × V)),x=.ref a/\H1 a=some (.dK kvs)/\∀ o,R (IA a o kvs) (upd H1 a (.frz o (.dK kvs)))
theorem AE{k:Nat}{d:Expr}{td:TE}{apos cpos:Pos}(hd:PE X d td)
  (hbase:attributeBase d "items" X.env (eval d X.env)=eval d X.env:=by rfl) (hline:(apos.endLine == cpos.line)=true:=by rfl):PI X (.Tuple es k post) (.Call (.Attribute d "items" apos) [] [] cpos) (E7 td):=by
 intro pins s σ H R I h;refine wpAny_Call_method0_late hbase hline (cw (hd pins s σ H _ I h) fun v s1 c=>?_);obtain⟨x,H1,n,A,a,kvs,rfl,l,q⟩:=c;cases A;obtain⟨z,g,vs,f,dd⟩:=sW n.hok l;obtain⟨o,Z,ep,j,U,O,p⟩:=id dd;refine⟨"dict","dict.items",PySem.F.plainAttrs_dict,F.slot_dict_items,F.type_dict_items,dd.typeIs,fun b e=>?_,Calls.callWith_builtin rfl (PySem.evalArgs_none ?_)⟩
 ·cases e;exact⟨o,j,U.2.1⟩
 refine call_meetsIn F.slot_dict_items dd.typeIs F.entry_dict_items (F.args_dict_items_1 _) (meets_dict_items (bt X.prog X.w) a g) ⟨⟨vs,dd⟩,?_⟩;have i:Inv X pins σ H1 { s1 with heap:=s1.heap.push { cls:=.type "dict_items",data:=.fields #[.ref a] } }:=n.kept (t':=s1.toks) fun b o e=>cB _ e
 have y:(s1.heap.push { cls:=.type "dict_items",data:=.fields #[.ref a] }).IsItemsView s1.heap.objs.size a:=⟨_,fB _ rfl,rfl,rfl⟩
 have r:(s1.heap.push { cls:=.type "dict_items",data:=.fields #[.ref a] }).DictAt (bt X.prog X.w) a vs ep:=⟨o,Z,cB _ j,U,O,p⟩
 refine wpAny_pyIter_items (s:={ s1 with heap:=s1.heap.push { cls:=.type "dict_items",data:=.fields #[.ref a] } }) y r ?_;generalize hg2:s1.heap.push { cls:=.type "dict_items",data:=.fields #[.ref a] }=J at *;have u:Inv X pins σ H1 { s1 with heap:=J.push { cls:=.type "dict_itemiterator",data:=.fields #[.none,.bool false,.ref a,.int 0 0,.int vs.length 0,.int ep 0,.none,.none] } }:=i.kept (t':=s1.toks) fun b o e=>cB _ e
 have m:H1 J.objs.size=none:=i.hok.fresh (bH _);have V:(J.push { cls:=.type "dict_itemiterator",data:=.fields #[.none,.bool false,.ref a,.int 0 0,.int vs.length 0,.int ep 0,.none,.none] }).get? a=some o:=cB _ (by rw[<-hg2]; exact cB _ j);have B:=u.write (t':=s1.toks) (x:=a) (e:=a) (o:=.frz o (.dK kvs)) (h':=J.push { cls:=.type "dict_itemiterator",data:=.fields #[.none,.bool false,.ref a,.int 0 0,.int vs.length 0,.int ep 0,.none,.none] }) (by rw[l]; exact True.intro) (.inl rfl) (fun _ _ _ e=>e) ⟨o,V⟩
  ⟨V,z,g,vs,f,o,Z,ep,V,U,O,p⟩
 refine⟨J.objs.size,[J.objs.size],_,_,_,rfl,B,tY a J.objs.size o kvs Z ep O,⟨.none,.none,?_⟩,fun b t=>?_,q o⟩
 ·rw[f.length]; exact fB _ rfl
 ·have e:b=J.objs.size:=by simpa using t
  subst e;refine i.tI (bH _) ?_;rw[aw (Ne.symm (aM l m))];exact m
theorem vf{vn:Nat}{tc:TT}{p:Addr}{H1:Hp}{Q:Hp->Prop}(Pv:Nat->Hp->Prop)(h0:Pv 0 (upd H1 p (.lst [])))(hl:∀ i H,i<=kvs.length->Pv i H->H a=some (.frz o (.dK kvs)))
  (hs:∀ i k v H t,kvs[i]?=some (k,v)->Pv i H->H t=none->g (.ref t) (List.replicate vn none++σ) (upd H t (.tup [kV k,v])) fun σ2 H2=>(∃ τ:St,σ2=τ++σ/\τ.length=vn)/\tc σ2 H2 fun b H3=>
   if b=true then te σ2 H3 fun v H4=>∃ acc,H4 p=some (.lst acc)/\acc.length < sizeLine/\Pv (i + 1) (upd H4 p (.lst (acc++[v]))) else Pv (i + 1) H3) (hd:∀ H,Pv kvs.length H->Q H):jW (IA a o kvs) vn g tc te σ p H1 Q:=by
 refine⟨fun i m H=>i<=kvs.length/\m=kvs.length - i/\Pv i H,⟨kvs.length,dI _,rfl,h0⟩,fun i m H Z=>?_⟩;obtain⟨hi,rfl,I⟩:=Z;have O:=hl i H hi I;by_cases J:i < kvs.length
 ·refine .inr ⟨⟨O,J⟩,Pv (i + 1),fun H' h'=>⟨kvs.length - (i + 1),by omega,by omega,rfl,h'⟩,fun x H' V=>?_⟩;obtain⟨t,k,v,U,rfl,c,rfl⟩:=V;exact hs i k v H t c I U
 ·have e:i=kvs.length:=by omega
  subst e;exact .inl ⟨⟨O,bH _⟩,hd H I⟩
section
variable {e:Expr}{lo hi:Option Expr}{st:Expr}{tl th tk:TO}{p2:Pos}
end
open AutoSeq1 (wpAny_loadPart')
theorem kH(l:Addr)(items:Array Value)(n:Nat)(dct:Option Addr)(sl:Array (Option Value)) :
  Meets (Builtin.«enumerate.__new__» ⟨[.type "enumerate",.ref l],[]⟩) (fun _ R s=>s.heap.get? l=some { cls:=.type "tuple",dict:=dct,data:=.seq items n,slots:=sl }/\
   R (.ok (.ret (.ref (s.heap.push { cls:=.type "tuple_iterator",data:=.fields #[.ref l,.int 0 0] }).objs.size)))
    { s with heap:=(s.heap.push { cls:=.type "tuple_iterator",data:=.fields #[.ref l,.int 0 0] }).push { cls:=.type "enumerate",data:=.fields #[.none,.bool false,.ref s.heap.objs.size,rawInt 0,.none,.none] } }):=
 .of_wp fun prog w A R s h=>by
  obtain⟨U,g,d,tk,os⟩:=s; obtain⟨I,h⟩:=h;have O:=sub_enumerate;have J:Heap.IsTuple (Shared.heap ⟨U,g,d,tk,os⟩) l items:=⟨_,I,rfl,n,rfl⟩
  wp_walk using wpAny_loadPart' I
  refine wpAny_stack_any fun st=>aO ?_
  split
  ·rename_i c _ _ _ _ _;cases (c == Value.type "enumerate")
   ·wp_walk using wpAny_loadPart' I,FQ J
    exact⟨_,rfl,h⟩
   ·wp_walk using wpAny_loadPart' I,FQ J
    exact⟨_,rfl,h⟩
  ·wp_walk using wpAny_loadPart' I,FQ J
   exact⟨_,rfl,h⟩
theorem kK{l:Addr}{items:Array Value}{Q:Value->Shared->Prop}(hL:s.heap.IsTuple l items)
  (h:∀ h',IsEnum h' (s.heap.objs.size + 1) s.heap.objs.size 0 .none->h'.IsTupleIter s.heap.objs.size l 0->(∀ b o,s.heap.get? b=some o->h'.get? b=some o)->Q (.ref (s.heap.objs.size + 1)) { s with heap:=h' }) :
  wpAny (model prog w) A (call (.type "enumerate") [.ref l]) Q E s:=by
 obtain⟨⟨c,U,d,sl⟩,a,J,n,I⟩:=hL;replace J:c=.type "tuple":=J;replace I:d=.seq items n:=I;subst J I;refine callType_new F.called_enumerate (by decide) (F.typeCall_enumerate_1 _) (F.newCall_enumerate_1 _) (fun O=>F.args_object_init_2 O _) F.entry_enumerate_new
  (kH l items n U sl) ⟨a,?_⟩
 have V:(s.heap.push { cls:=.type "tuple_iterator",data:=.fields #[.ref l,.int 0 0] }).objs.size=s.heap.objs.size + 1:=yx ..;show _/\_;rw[V]
 have Z:IsEnum ((s.heap.push { cls:=.type "tuple_iterator",data:=.fields #[.ref l,.int 0 0] }).push
   { cls:=.type "enumerate",data:=.fields #[.none,.bool false,.ref s.heap.objs.size,rawInt 0,.none,.none] }) (s.heap.objs.size + 1) s.heap.objs.size 0 .none:=by
  have:=fB (s.heap.push { cls:=.type "tuple_iterator",data:=.fields #[.ref l,.int 0 0] })
   (o:={ cls:=.type "enumerate",data:=.fields #[.none,.bool false,.ref s.heap.objs.size,rawInt 0,.none,.none] }) rfl
  rw[V]at this; exact this
 exact⟨⟨_,Z,rfl⟩,h _ Z ⟨_,cB _ (fB _ rfl),rfl,rfl⟩ fun b o x=>cB _ (cB _ x)⟩
theorem x5(hh:A.handled=none)(it l:Addr)(hne:l≠it)(items:Array Value) :
  Draws prog w A it [it,l] items.size (fun i v=>items[i]?=some v) (fun i h=>h.IsTupleIter it l i/\h.IsTuple l items) where
 live:=fun _ _ st=>let ⟨o,ho,_⟩:=st.1; ⟨o,ho⟩
 frame:=fun _ _ _ st O=>⟨st.1.at fun o e=>O it (by simp) o e,st.2.at fun o e=>O l (by simp) o e⟩
 item:=fun i s Q E hi st U=>by
  refine ZT.next_item st.1 st.2 (x:=items[i]) (by simp[hi]) fun h' I J=>?_
  exact U _ h' s.toks (by simp[hi]) ⟨I,st.2.extBut J.extBut hne⟩ J
 done:=fun s Q E st V=>ZT.next_end hh st.1 st.2 (by simp) V
def zo(K:aL)(a:Addr):It:=
 ⟨fun i H=>∃ xs x,bu K H a xs/\xs[i]?=some x,fun i H x H'=>∃ t,H t=none/\x=.ref t/\∀ xs,bu K H a xs->∃ v,xs[i]?=some v/\H'=upd H t (.tup [.int i,v]),fun i H=>∃ xs,bu K H a xs/\xs.length<=i⟩
theorem uX{K:aL}{k:Nat}(a e it:Addr)(hne:e≠it) :
  Turn P w K (.Tuple es k pos) (zo K a) [e,it] e (fun i h=>(∃ old,IsEnum h e it (i:Int) old)/\h.IsTupleIter it a i) where
 mem:=by simp
 obj:=fun i h st b Z=>by
  obtain⟨⟨old,J⟩,o,e2,c,d⟩:=st;simp only[d0,gh,or_false]at Z;rcases Z with rfl | rfl
  ·exact⟨_,J,fun v z=>by cases z⟩
  ·exact⟨o,e2,fun v z=>by rw[d]at z; cases z⟩
 keep:=fun i h h' st kp=>⟨let ⟨old,z⟩:=st.1; ⟨old,kp e (by simp) _ z⟩,st.2.at fun o q=>kp it (by simp) o q⟩
 item:=by
  intro X hP hw hK U i pins s σ H E I L st hg;subst hP hw hK;obtain⟨xs,x,W,S⟩:=hg;obtain⟨its,N,p,hz⟩:=I.tuple W;obtain⟨u,hu,ru⟩:=N.get S;obtain⟨⟨old,J⟩,V⟩:=st;have pt:s.heap.IsTuple a its.toArray:=p;have B:a≠it:=fun z=>by
   obtain⟨R,g,G,_⟩:=pt;obtain⟨o2,q2,D,_⟩:=V;rw[z,q2]at g;cases g;rw[G]at D;exact absurd D (by decide)
  have hea:e≠a:=fun z=>by
   obtain⟨R,g,G,_⟩:=pt;have j:=J;rw[z]at j;rw[show s.heap.get? a=_ from j]at g;cases g;exact absurd (show Value.type "enumerate" = Value.type "tuple" from G) (by decide)
  refine wpAny_pyNext_enum_itemD (x5 (A:=X.A.in1) (I.ok.hd U) it a B its.toArray) J ⟨V,pt⟩ (by rw[ff,<-N.length]; exact (dJ.mp S).1) hne (by simp[hne,hea]) fun M h1 tk hp R l1 t1 z1 k1=>?_
  have eu:M=u:=by
   have h2:its.toArray[i]?=some u:=by simpa using hu
   rw[h2]at hp;exact (pL hp).symm
  subst eu;have l1:=l1.1;refine⟨_,rfl,wpAny_letOwnedTupleGo_enum R fun h2 o2 b2=>?_⟩;have O:H s.heap.objs.size=none:=I.fresh;have C:e < s.heap.objs.size:=cG J;have k2:∀ b o,b≠e->b≠it->s.heap.get? b=some o->h2.get? b=some o:=fun b o b1 b2' q=>b2.extBut b o b1 (k1 b o b1 b2' q)
  have t2:h2.get? s.heap.objs.size=some { cls:=.type "tuple",data:=.seq #[.int i tk,M] }:=b2.extBut _ _ (Nat.ne_of_gt C) t1;have t:=L e (by simp);have l:=L it (by simp);have f:∀ b o,H b=some o->b≠e/\b≠it:=fun b o q=>⟨fun z=>by (rw[z,t.1]at q; cases q),fun z=>by (rw[z,l.1]at q; cases q)⟩
  have I2:Inv X pins σ (upd H s.heap.objs.size (.tup [.int i,x])) { s with heap:=h2,gens:=s.gens,drawn:=s.drawn,toks:=tk + 1 }:=by
   refine I.step (ch:=[e,it]) (fun b Z=>?_) (fun b o _ _ U q _=>k2 b o (fun z=>U (by simp[z])) (fun z=>U (by simp[z])) q) (fun b o _ _ U q _=>⟨o.slots,k2 b o (fun z=>U (by simp[z])) (fun z=>U (by simp[z])) q⟩)
    (fun b o _ q n=>by rw[aw (cH (cG q))]; exact n) (fun b o U q=>⟨o,k2 b o (fun z=>U (by simp[z])) (fun z=>U (by simp[z])) q⟩)
    (fun b zs q=>by rw[aw (aM q O)]; exact q) (fun b o v q=>by rw[aw (aM q O)]; exact q) (fun b ps q=>⟨#[],by rw[aw (aM q O),q]; simp⟩) (fun m hm=>?_) (fun b o q=>?_) I.bare
   ·simp only[d0,gh,or_false]at Z;rcases Z with rfl | rfl
    ·exact⟨t.2.2.2.1,t.2.1,t.2.2.2.2.1,t.2.2.2.2.2⟩
    ·exact⟨l.2.2.2.1,l.2.1,l.2.2.2.2.1,l.2.2.2.2.2⟩
   ·obtain⟨o,es',ep,ho,r⟩:=hm;exact⟨o,es',ep,k2 _ o (Ne.symm t.2.1) (Ne.symm l.2.1) ho,r⟩
   ·by_cases Z:b=s.heap.objs.size
    ·subst Z;rw[ae]at q;cases q;exact⟨by show 2<=sizeLine; decide,[.int i tk,M],.cons ⟨_,rfl⟩ (.cons ru .nil),_,t2,rfl,_,rfl⟩
    ·rw[aw Z]at q;refine (I.hok b o q).nI (fun c v U z=>k2 c v ?_ ?_ z) (fun c z=>by rw[aw (aM z O)]; exact z) fun c zs z=>by rw[aw (aM z O)]; exact z
     ·rcases U with z' | z'
      ·rw[z']; exact (f b o q).1
      ·exact (f c _ z').1
     ·rcases U with z' | z'
      ·rw[z']; exact (f b o q).2
      ·exact (f c _ z').2
  refine⟨.ref s.heap.objs.size,_,I2,rfl,⟨_,O,rfl,fun ys hy=>⟨x,by rw[I.hJ hy W]; exact S,rfl⟩⟩,⟨⟨M,?_⟩,l1.extBut b2.extBut (Ne.symm hne)⟩,fun b Z=>?_⟩
  ·have:((i:Int) + 1)=((i + 1:Nat):Int):=by omega
   rw[<-this]; exact o2
  ·simp only[d0,gh,or_false]at Z;rcases Z with rfl | rfl
   ·rw[aw (cH C)]; exact t.1
   ·obtain⟨oi,ei,_⟩:=V;rw[aw (cH (cG ei))]; exact l.1
 done:=by
  intro X hP hw hK U i pins s σ H E I L st hg;subst hP hw hK;obtain⟨xs,W,S⟩:=hg;obtain⟨its,N,p,hz⟩:=I.tuple W;obtain⟨⟨old,J⟩,V⟩:=st;obtain⟨f0,f1,f2,f3,f4,f5⟩:=L it (by simp);have hl:=N.length;have pt:s.heap.IsTuple a its.toArray:=p;have B:a≠it:=fun z=>by
   obtain⟨R,g,G,_⟩:=pt;obtain⟨o2,q2,D,_⟩:=V;rw[z,q2]at g;cases g;rw[G]at D;exact absurd D (by decide)
  have y:s.TypeIs (.ref e) "enumerate":=⟨_,J,rfl⟩
  unfold pyNext;refine ar (yz (wJ (name:=Str.ofString "__next__") y F.slot_enumerate_next (lD F.slot_enumerate_next y F.entry_enumerate_next ?_ (F.args_enumerate_next_1 _))));show wpAny _ _ (field (.ref e) 2 >>= _) _ _ _;refine ar (ny J rfl (x:=.ref it) rfl ?_);refine ar (ZT.next_end (A:=X.A.in1) (I.ok.hd U) V pt (by simp; omega) fun h' x eb Y=>?_);obtain⟨ox,hox,hcx⟩:=Y;refine ar (Cy (T:="StopIteration") (b:=true) ⟨ox,hox,hcx⟩ isSubtype_stop ?_);exact aO ⟨rfl,I.turned (t':=s.toks) (fun b o Z e=>eb b o Z e) f0 f1 f3 f4 f5⟩
 self:=fun A i s Q E st h=>by
  obtain⟨old,J⟩:=st.1;have y:s.TypeIs (.ref e) "enumerate":=⟨_,J,rfl⟩
  exact E5 y F.slot_enumerate_iter (lD F.slot_enumerate_iter y F.entry_enumerate_iter (aO ⟨_,rfl, "enumerate",_,y,F.slot_enumerate_next.lookup,h⟩) (F.args_enumerate_iter_1 _))
def EK(K:aL)(ta:TA):TI:=fun σ H R=>ta σ H fun vs H1=>aK R (fun a R=>vs=[.ref a]/\(∃ xs,bu K H1 a xs)/\R (zo K a) H1)
theorem yO{k:Nat}{a:Expr}{ta:TA}{p:Pos}(hg:Gl X "enumerate")(hm:X.mg "enumerate" = none)(ha:PA X [a] ta)(hs:starEach [a] X.env=[(false,eval a X.env)]:=by rfl) :
  PI X (.Tuple es k post) (.Call (.Name "enumerate" p) [a] [] pos) (EK X.K ta):=by
 intro pins s σ H R I h;refine Call_ (fN I hg hm PyProof.Rows.boot_enumerate (Eu (cw (ha pos pins s σ H _ I h) fun us s1 O=>?_) hs rfl));obtain⟨vs,H1,J,g,d⟩:=O;obtain⟨l,rfl,⟨xs,f⟩,q⟩:=d;obtain⟨u,rfl,V⟩:=g.one;cases V;obtain⟨its,j,pl,i⟩:=J.tuple f;refine kK (show s1.heap.IsTuple l its.toArray from pl) fun h' e it c=>?_
 have T:=uX (P:=X.prog) (w:=X.w) (K:=X.K) (es:=es) (k:=k) (pos:=post) l (s1.heap.objs.size + 1) s1.heap.objs.size (Nat.succ_ne_self _);have st:(∃ old,IsEnum h' (s1.heap.objs.size + 1) s1.heap.objs.size (((0:Nat)):Int) old)/\h'.IsTupleIter s1.heap.objs.size l 0:=⟨⟨_,e⟩,it⟩
 have Z:Inv X pins σ H1 { s1 with heap:=h' }:=J.kept (t':=s1.toks) c;refine T.self X.A 0 { s1 with heap:=h' } _ _ st ?_;refine⟨_,_,_,_,H1,rfl,Z,T,st,fun b U=>?_,q⟩;simp only[d0,gh,or_false]at U;rcases U with rfl | rfl
 ·exact J.tI (Nat.le_succ _) (J.hok.fresh (Nat.le_succ _))
 ·exact J.tI (bH _) (J.hok.fresh (bH _))
theorem xY{K:aL}{xs:List V}{tb:TS}{D:Ends}(Pv:Nat->St->Hp->Prop)(h0:Pv 0 σ H)(hl:∀ i σ H,i<=xs.length->Pv i σ H->bu K H a xs)
  (hs:∀ i x σ H t,xs[i]?=some x->Pv i σ H->H t=none->g (.ref t) σ (upd H t (.tup [.int (i:Int),x])) fun σ2 H2=>tb { D with nx:=Pv (i + 1),ct:=Pv (i + 1),bk:=D.nx } σ2 H2) (hd:∀ σ H,Pv xs.length σ H->D.nx σ H) :
  ∃ W:Nat->Nat->St->Hp->Prop,(∃ m,W 0 m σ H)/\∀ i m σ H,W i m σ H->
   ((zo K a).stop i H/\D.nx σ H)\/((zo K a).go i H/\∃ N:St->Hp->Prop,(∀ σ' H',N σ' H'->∃ m',m' < m/\W (i + 1) m' σ' H')/\∀ x H',(zo K a).yld i H x H'->g x σ H' fun σ2 H2=>tb { D with nx:=N,ct:=N,bk:=D.nx } σ2 H2):=by
 refine⟨fun i m σ H=>i<=xs.length/\m=xs.length - i/\Pv i σ H,⟨xs.length,dI _,rfl,h0⟩,fun i m σ H b=>?_⟩;obtain⟨hi,rfl,I⟩:=b;have J:=hl i σ H hi I;by_cases O:i < xs.length
 ·refine .inr ⟨⟨xs,xs[i],J,cL O⟩,Pv (i + 1),fun σ' H' h'=>⟨xs.length - (i + 1),by omega,by omega,rfl,h'⟩,fun x H' Z=>?_⟩;obtain⟨t,U,rfl,c⟩:=Z;obtain⟨v,d,rfl⟩:=c xs J;exact hs i v σ H t d I U
 ·have e:i=xs.length:=by omega
  subst e;exact .inl ⟨⟨xs,J,bH _⟩,hd σ H I⟩
end L2
namespace L2
open PySem PySem.Spec PyProof.Rows
section
variable {X:Cx}
end
end L2
namespace Srt
open PySem PyProof.Rows
section
variable {prog:Program}{w:World}{A:Around}{s:Shared}{R:Result->Shared->Prop}
end
end Srt
namespace L2
open PySem PySem.Spec PyProof.Rows
variable {H:Hp}{X:Cx}{b:Addr}{s:Shared}{pins:List (Addr × Obj)}{σ:St}{zs:List (Addr × List Key)}{kvs:List (List Key × V)}{A:Around}{E:Value->Shared->Prop}
mutual
def D.pd:D->PyData
 | .non=>.none | .int i=>.int i | .str x=>.str x | .tup ds=>.tuple (D.iM ds)
def D.iM:List D->List PyData
 | []=>[]
 | d::ds=>d.pd::D.iM ds
end
mutual
def T.pd:T->PyData
 | .d x=>x.pd
 | .lst ts=>.list (T.iM ts)
 | .tup ts=>.tuple (T.iM ts)
def T.iM:List T->List PyData
 | []=>[]
 | t::ts=>t.pd::T.iM ts
end
mutual
theorem xm(I:Inv X pins σ H s):∀ {d:D} {v:V} {u:Value},Is X.K H d v->RelV v u->∃ as,Reads s.heap u d.pd as
 | .non,v,u,h,r=>by
  cases h.dG;cases r;unfold D.pd;exact⟨_,.none⟩
 | .int i,v,u,h,r=>by
  cases h.int_inv;obtain⟨t,rfl⟩:=r;unfold D.pd;exact⟨_,.int i t⟩
 | .str x,v,u,h,r=>by
  cases h.str_inv;obtain⟨t,rfl⟩:=r;unfold D.pd;exact⟨_,.str x t⟩
 | .tup ds,v,u,h,r=>by
  obtain⟨a,xs,rfl,q,l⟩:=h.bo;cases (show u=Value.ref a from r);obtain⟨its,U,⟨o,h1,h2,n,O⟩,_⟩:=I.tuple q;obtain⟨as,J⟩:=rQ I l U;unfold D.pd;exact⟨_,.tuple h1 h2 O (by simpa using J)⟩
theorem rQ(I:Inv X pins σ H s):∀ {ds:List D} {vs:List V} {us:List Value},IsL X.K H ds vs->Vals vs us->∃ as,ReadsAll s.heap us (D.iM ds) as
 | [],vs,us,h,r=>by
  cases h.nil_inv;cases r.zero;unfold D.iM;exact⟨_,.nil⟩
 | d::ds,vs,us,h,r=>by
  obtain⟨v,w,rfl,h1,h2⟩:=h.cons_inv;obtain⟨u,U,rfl,J,Z⟩:=r.oC;obtain⟨as,a⟩:=xm I h1 J;obtain⟨bs,O⟩:=rQ I h2 Z;unfold D.iM;exact⟨_,.cons a O⟩
end
mutual
theorem vI(I:Inv X pins σ H s):∀ {t:T} {v:V} {u:Value},IsT X.K H t v->RelV v u->∃ as,Reads s.heap u t.pd as
 | .d d,v,u,h,r=>by
  unfold IsT at h;unfold T.pd;exact xm I h r
 | .lst ts,v,u,h,r=>by
  unfold IsT at h;obtain⟨a,xs,rfl,q,l⟩:=h;cases (show u=Value.ref a from r);obtain⟨its,J,⟨o,n,h1,h2,_,U⟩,_⟩:=I.list q;obtain⟨as,O⟩:=mK I l J;unfold T.pd;exact⟨_,.list h1 h2 U (by simpa using O)⟩
 | .tup ts,v,u,h,r=>by
  unfold IsT at h;obtain⟨a,xs,rfl,q,l⟩:=h;cases (show u=Value.ref a from r);obtain⟨its,J,⟨o,h1,h2,n,U⟩,_⟩:=I.tuple q;obtain⟨as,O⟩:=mK I l J;unfold T.pd;exact⟨_,.tuple h1 h2 U (by simpa using O)⟩
theorem mK(I:Inv X pins σ H s):∀ {ts:List T} {vs:List V} {us:List Value},jE X.K H ts vs->Vals vs us->∃ as,ReadsAll s.heap us (T.iM ts) as
 | [],vs,us,h,r=>by
  unfold jE at h;cases h;cases r.zero;unfold T.iM;exact⟨_,.nil⟩
 | t::ts,vs,us,h,r=>by
  unfold jE at h;obtain⟨v,w,rfl,h1,h2⟩:=h;obtain⟨u,U,rfl,J,Z⟩:=r.oC;obtain⟨as,a⟩:=vI I h1 J;obtain⟨bs,O⟩:=mK I h2 Z;unfold T.iM;exact⟨_,.cons a O⟩
end
inductive Ho(K:aL)(n:Nat)(xs:List V)(H:Hp)(Q:VK):Prop|m(t:T)(a:Addr)(_:xs=[.ref a])(_:IsT K H t (.ref a))(_:t.pd.showable=true)(_:t.pd.hasDict=false)(_:t.pd.depth < n)(_:t.pd.shown.length<=sizeLine)(_:Q (.str t.pd.shown) H)
theorem oG{n:Nat}(hg:X.A.guards=some [])(hu:X.A.units + (n + 1) < cLine):d8 X (.builtin "repr") (Ho X.K n):=by
 intro pins s σ H xs us Q I r h;obtain⟨t,a,rfl,V,h1,h2,b,U,q⟩:=h;obtain⟨u,rfl,J⟩:=r.one;cases (show u=Value.ref a from J);obtain⟨c,Z⟩:=vI I V J;refine repr_of_reads' Z h1 (fun z=>by rw[h2]at z; cases z) hg (by omega) (fun _ _ e=>e) (fun h' u tk O=>?_) U;exact⟨.str t.pd.shown,H,I.grow (H':=H) O (fun _ _=>rfl) (I.hok.kept O),⟨u,rfl⟩,q⟩
theorem zm:iL X (binaryOp .FloorDiv) (rI (fun _ j=>0 < j/\j.natAbs.log2 < 9000) fun i j=>.int (i / j)):=FR fun i j _ _ _ _ _ I q=>by
 have h1:(0:Int) < j:=I.1;exact floordiv_int (by omega) (by rw[Int.fdiv_eq_ediv_of_nonneg i (by omega)]; exact q) (.inl (PyProof.noPylong_of_log2 I.2))
inductive HH(K:aL)(xs:List V)(H:Hp)(Q:VK):Prop|m(p:Addr)(ns:List Int)(_:xs=[.ref p])(_:bp K H p (ns.map V.int))(_:∀ i:Int,Q (.int i) H)
theorem zj(hc:X.calm=true):d8 X (.builtin "sum") (HH X.K):=by
 intro pins s σ H xs us Q I r h;obtain⟨p,ns,rfl,hs,q⟩:=h;obtain⟨u,rfl,f⟩:=r.one;obtain rfl:u=Value.ref p:=f;obtain⟨its,c,l,_⟩:=I.list hs;have J:s.heap.IsList p its.toArray:=l.isList;have U:p < s.heap.objs.size:=by obtain⟨_,e,_⟩:=J; exact cG e
 refine call_sum_walkAnyS (wpAny_pyIter_list J ?_);have W:=(Walks.list (prog:=X.prog) (w:=X.w) (A:=X.A.in1) (I.ok.hd hc) s.heap.objs.size p (cH U) its.toArray).toS;refine⟨s.heap.objs.size,_,_,_,_,_,_,fun i=>(ns[i]?).getD 0,rfl,W,⟨⟨_,fB _ rfl,rfl,rfl⟩,J.push _⟩,fun b a=>?_,fun i v j=>?_,fun s' t' V=>?_⟩
 ·rcases d0.mp a with rfl | a
  ·simp[Heap.push]
  ·rw[fS.mp a];have:p < s.heap.objs.size + 1:=DX U
   simpa[Heap.push] using this
 ·have O:its[i]?=some v:=by simpa using j
  have hi:i < ns.length:=by
   have h1:=(dJ.mp O).1;have h2:=c.length;rw[bL]at h2; omega
  obtain⟨m,e,Z⟩:=c.get (i:=i) (x:=.int ns[i]) (by rw[g6,cL hi]; rfl);rw[O]at e;cases e;obtain⟨t,rfl⟩:=Z;exact⟨t,by dsimp only; rw[cL hi]; rfl⟩
 ·have k:∀ b o,s.heap.get? b=some o->s'.heap.get? b=some o:=fun b o e=>V.heap b o (by simp[cH (cG e)]) (cB _ e)
  have g:=V.gens;have d:=V.drawn;have os:=V.os;obtain⟨h1,y,z,B,n⟩:=s';cases g;cases d;cases os;exact⟨.int _,H,I.grow (H':=H) k (fun _ _=>rfl) (I.hok.kept k),⟨t',rfl⟩,q _⟩
theorem Paired.rO{α β:Type}{F:α->β->Prop}{l:List α}{m:List β}(h:Paired F l m):∀ y∈m,∃ x∈l,F x y:=by
 induction h with
 | nil=>intro y I; cases I
 | @cons a b l m r t O=>
  intro y I;rcases d0.mp I with rfl | I
  ·exact⟨a,gC,r⟩
  ·obtain⟨x,J,q⟩:=O y I;exact⟨x,jd _ J,q⟩
section
variable {zs':List (Addr × List Key)}{H':Hp}{xs:List (List Key × Addr × Value)}
end
def Cn(K:aL)(b:Addr)(k:List Key):Prop:=∃ (o:Obj) (its:Array Value) (n:Nat),K.lookup b=some o/\o.cls=.type "tuple"/\o.data=.seq its n/\its.size<=sizeLine/\Vals (k.map kV) its.toList
def Ky(K:aL)(H:Hp)(b:Addr)(k:List Key):Prop:=H b=some (.tup (k.map kV))\/Cn K b k
theorem AH(k:List Key):∀ c,V.ref c∉k.map kV:=fun c h=>by
 obtain⟨x,_,e⟩:=eW.mp h;cases x <;> cases e
theorem Ky.sq{K:aL}{k:List Key}(h:Ky K H b k):bu K H b (k.map kV):=h.imp id fun ⟨o,its,n,h1,h2,I,J,O⟩=>⟨o,its,n,h1,h2,I,J,O,AH k⟩
theorem Ky.GL{K:aL}{k:List Key}(h:bu K H b (k.map kV)):Ky K H b k:=h.imp id fun ⟨o,its,n,h1,h2,I,J,O,_⟩=>⟨o,its,n,h1,h2,I,J,O⟩
section
variable {a:Addr}{k:List Key}{v d:V}{u r:Value}
end
section
variable {o i e f value:Expr}{pos pos' tpos apos cpos:Pos}{td ty tv tx:TE}
end
section
variable {prog:Program}{w:World}{κ:Type} [DecidableEq κ] {knd:PySem.HeapKind prog w κ}
end
end L2
namespace Srt
open PySem PyProof.Rows
variable {d:Addr}{es:Array DictEntry}{ep:Nat}{s:Shared}{Q:Option Value->Shared->Prop}
def jh(h:Heap)(d:Addr)(es:Array DictEntry)(ep:Nat):Prop:=∃ o,h.get? d=some o/\o.ExactDict/\o.data=.dict es ep
theorem jh.at{h h':Heap}(x:jh h d es ep)(e:∀ o,h.get? d=some o->h'.get? d=some o):jh h' d es ep:=let ⟨o,ho,r⟩:=x; ⟨o,e o ho,r⟩
theorem jh.ty(x:jh s.heap d es ep):s.TypeIs (.ref d) "dict":=let ⟨o,ho,hc,_⟩:=x; ⟨o,ho,hc.1⟩
section
variable {prog:Program}{w:World}{A:Around}{E:Value->Shared->Prop}{it:Addr}{i:Nat}
theorem yT{Q:Value->Shared->Prop}(hd:(d == sysModules)=false)(hm:jh s.heap d es ep)
  (hQ:Q (.ref s.heap.objs.size) { s with heap:=s.heap.push { cls:=.type "dict_keyiterator",data:=.fields #[.ref d,.int 0 0,.int es.size 0,.int ep 0] } }):wpAny (model prog w) A (pyIter (.ref d)) Q E s:=by
 have J:s.TypeIs (.ref d) "dict":=hm.ty;obtain⟨o,O,U,I⟩:=hm;refine E5 J F.slot_dict_iter (lD F.slot_dict_iter J F.entry_dict_iter ?_ (F.args_dict_iter_1 _))
 (unfold Builtin.«dict.__iter__»; refine ar ?_; unfold Builtin.Dict.dictSlotNone; refine ar (wpAny_notOrdered_dict J ?_))
 (show wpAny _ _ (pure (Value.ref d)) _ _ s; refine aO ?_; show wpAny _ _ (Builtin.Dict.showsAll d >>= _) _ _ s; unfold Builtin.Dict.showsAll)
 (rw[if_neg (by rw[hd]; exact eN)]; refine ar (aO (ar (wpAny_dictEntries O I (ar (wpAny_dictEpoch O I ?_))))))
 refine ar (qV (aO ⟨_,rfl, "dict_keyiterator",_,⟨_,fB _ rfl,rfl⟩,F.slot_dict_keyiterator_next.lookup,?_⟩))
 simpa[rawInt] using hQ
theorem A1{e:DictEntry}(hit:s.heap.IsKeyIter it d i es.size ep)(hm:jh s.heap d es ep)(hx:es[i]?=some e)
  (hQ:∀ h',h'.IsKeyIter it d (i + 1) es.size ep->Heap.SameBut it s.heap h'->Q (some e.key) { s with heap:=h' }):wpAny (model prog w) A (pyNext (.ref it)) Q E s:=by
 have I:=hit.typeIs;obtain⟨o,a,c,O⟩:=id hit;obtain⟨od,Z,b,U⟩:=hm;have f:i < es.size:=by
  rcases Nat.lt_or_ge i es.size with h | h
  ·exact h
  ·rw[F0 h]at hx; cases hx
 have V:Builtin.Dict_items.ownsTuple "dict_keyiterator" = false:=by decide
 (unfold pyNext; refine ar (yz (wJ (name:=Str.ofString "__next__") I F.slot_dict_keyiterator_next (lD F.slot_dict_keyiterator_next I F.entry_dict_keyiterator_next ?_ (F.args_dict_keyiterator_next_1 _)))))
 (refine ar (aO ?_); refine ar ?_; refine ar ?_)
 first | refine ar (wpAny_typeNameOfWhole_keyiter I (aO (ar (wpAny_fieldsOf a O ?_)))) | refine ar (wpAny_typeNameOf_keyiter I (aO (ar (wpAny_fieldsOf a O ?_))))
 (simp only[V,gD,fO]; show wpAny _ _ (if (Value.ref d == Value.none)=true then _ else _) _ _ s)
 (rw[if_neg (show ¬ ((Value.ref d == Value.none)=true) from eN)]; refine ar (aO (ar (wpAny_dictEntries Z U ?_))))
 (rw[if_neg (by simp)]; refine ar (aO (ar (wpAny_dictEpoch Z U ?_))); rw[if_neg (by simp)]; refine aO ?_)
 simp only[show ¬ ((i:Int) < 0) from by omega,fO,qU,hx];refine ar ?_
 first | refine ar (wpAny_typeNameOfWhole_keyiter I (aO (ar (wpAny_isOneOf_keyiter I ?_)))) | refine ar (wpAny_typeNameOf_keyiter I (aO (ar (wpAny_isOneOf_keyiter I ?_))))
 (show wpAny _ _ (setField (.ref it) 1 (rawInt ((i:Int) + 1)) >>= _) _ _ s; refine ar (Bw a O (by simp) ?_))
 have J:(s.heap.update it (Obj.mapFields (·.setIfInBounds 1 (rawInt ((i:Int) + 1))))).IsKeyIter it d (i + 1) es.size ep:=
  ⟨_,xZ _ a (FV (yF O _)),(Obj.cls_mapFields ..).trans c,by rw[yF O]; simp[rawInt]⟩
 refine ar (iA (ar (wpAny_isOneOf_keyiter (s:={ s with heap:=s.heap.update it (Obj.mapFields (·.setIfInBounds 1 (rawInt ((i:Int) + 1)))) }) J.typeIs ?_)))
 (show wpAny _ _ (pure e.key) _ _ _; exact aO (aO ⟨_,rfl,aO (hQ _ J (yB ..))⟩))
theorem BX(hh:A.handled=none)(hit:s.heap.IsKeyIter it d i es.size ep)(hm:jh s.heap d es ep)(hx:es.size<=i)
  (hQ:∀ h',Heap.ExtBut it s.heap h'->Q none { s with heap:=h' }):wpAny (model prog w) A (pyNext (.ref it)) Q E s:=by
 have I:=hit.typeIs;obtain⟨o,Z,e,V⟩:=id hit;obtain⟨od,U,c,J⟩:=hm;have O:Builtin.Dict_items.ownsTuple "dict_keyiterator" = false:=by decide
 (unfold pyNext; refine ar (yz (wJ (name:=Str.ofString "__next__") I F.slot_dict_keyiterator_next (lD F.slot_dict_keyiterator_next I F.entry_dict_keyiterator_next ?_ (F.args_dict_keyiterator_next_1 _)))))
 (refine ar (aO ?_); refine ar ?_; refine ar ?_)
 first | refine ar (wpAny_typeNameOfWhole_keyiter I (aO (ar (wpAny_fieldsOf Z V ?_)))) | refine ar (wpAny_typeNameOf_keyiter I (aO (ar (wpAny_fieldsOf Z V ?_))))
 (simp only[O,gD,fO]; show wpAny _ _ (if (Value.ref d == Value.none)=true then _ else _) _ _ s)
 (rw[if_neg (show ¬ ((Value.ref d == Value.none)=true) from eN)]; refine ar (aO (ar (wpAny_dictEntries U J ?_))))
 (rw[if_neg (by simp)]; refine ar (aO (ar (wpAny_dictEpoch U J ?_))); rw[if_neg (by simp)]; refine aO ?_)
 simp only[show ¬ ((i:Int) < 0) from by omega,fO,qU,F0 hx];refine ar ?_
 first | refine ar (wpAny_typeNameOfWhole_keyiter I (aO ?_)) | refine ar (wpAny_typeNameOf_keyiter I (aO ?_))
 (show wpAny _ _ (setField (.ref it) 0 .none >>= _) _ _ s; refine ar (Bw Z V (by simp) ?_); show wpAny _ _ (newExc (.type "StopIteration") [] >>= _) _ _ _; refine ar ?_; simp only[newExc,newTuple])
 refine ar (qV (ar (m:=firstArgMember _ _) (wpAny_of_eq (a:=Value.none) (by first | rfl | (simp only[firstArgMember]; rfl)) (qV ?_ (by size_fits)))) (by size_fits))
 (simp only[raiseNew]; refine ar (wpAny_handled ?_); rw[show A.in1.handled=none from hh])
 (refine ar (aO (wpAny_throw ?_)); refine ar (Cy (T:="StopIteration") (b:=true) ⟨_,fB _ rfl,rfl⟩ isSubtype_stop ?_))
 exact aO (hQ _ (((yB ..).extBut.push _).push _))
theorem Ay(hh:A.handled=none)(I d:Addr)(hne:d≠I)(es:Array DictEntry)(ep:Nat) :
  Walks prog w A I [I,d] [I] es.size (fun i v=>∃ e,es[i]?=some e/\v=e.key) (fun i h=>h.IsKeyIter I d i es.size ep/\jh h d es ep) where
 sub:=fun b J=>by simp at J; simp[J]
 frame:=fun _ _ _ st a=>⟨st.1.at fun o e=>a I (by simp) o e,st.2.at fun o e=>a d (by simp) o e⟩
 item:=fun i s Q E hi st U=>A1 st.1 st.2 (iG hi) fun h' O V=>U _ h' s.toks ⟨_,iG hi,rfl⟩ ⟨O,st.2.at fun o e=>V.extBut d o hne e⟩ fun b o J e=>V.extBut b o (fun h=>J (by simp[h])) e
 done:=fun s Q E st U=>BX hh st.1 st.2 (bH _) fun h' Z=>U h' s.toks fun b o J e=>Z b o (fun h=>J (by simp[h])) e
 self:=fun _ _ _ _ st U=>wpAny_pyIter_keyiter st.1 U
end
end Srt
namespace L2
open PySem PySem.Spec PyProof.Rows
variable {X:Cx}
section
variable {pins:List (Addr × Obj)}{σ:St}{H:Hp}{s:Shared}{a:Addr}{o:Obj}{u:HO}
end
section
variable {tg:Expr}
end
end L2
namespace Srt
open PySem PyProof.Rows
variable {es:Array DictEntry}{ep:Nat}
theorem jh.lt_size{h:Heap}{d:Addr}(x:jh h d es ep):d < h.objs.size:=let ⟨_,ho,_⟩:=x; cG ho
section
variable {prog:Program}{w:World}{A:Around}{E:Value->Shared->Prop}{s:Shared}{R:Result->Shared->Prop}
theorem uN(S d:Addr)(res:Value)(c₀:Nat)(hh:A.handled=none)(hsm:(d == sysModules)=false)(hne:d≠S)
  (hS:s.heap.get? S=some { cls:=.type "list",data:=.seq #[] c₀ }) (hm:jh s.heap d es ep) (hn:es.size<=sizeLine)
  (hR:∀ s' acc c',(∀ b o,b≠S->s.heap.get? b=some o->s'.heap.get? b=some o)->s'.gens=s.gens->s'.drawn=s.drawn->s'.os=s.os->
   s'.heap.get? S=some { cls:=.type "list",dict:=none,data:=.seq acc c',slots:=#[] }->ItemsOf (fun i v=>∃ e,es[i]?=some e/\v=e.key) acc es.size->R (.ok (.ret res)) s') :
  wpAny (model prog w) A.in1 (Builtin.List.listExtendWith (.ref S) (.ref d) res)
   (fun fin s'=>match fin with | .done f=>R (.ok f) s' | .again c'=>c'.quiet=true/\codeAny (model prog w) A c' R s') (fun e s'=>R (.error e) s') s:=by
 have u:=hm.ty;unfold Builtin.List.listExtendWith;refine ar (vi u ?_);have h1:Builtin.List.listSameRef (.ref S) (.ref d)=false:=by simp[Builtin.List.listSameRef,Ne.symm hne]
 rw[if_neg (by rw[h1]; decide)];refine ar (yT hsm hm ?_);have k:jh (s.heap.push { cls:=.type "dict_keyiterator",data:=.fields #[.ref d,.int 0 0,.int es.size 0,.int ep 0] }) d es ep:=hm.at fun o e=>cB _ e
 have j:(s.heap.push { cls:=.type "dict_keyiterator",data:=.fields #[.ref d,.int 0 0,.int es.size 0,.int ep 0] }).get? S=some { cls:=.type "list",data:=.seq #[] c₀ }:=cB _ hS;have O:Shared.TypeIs { s with heap:=s.heap.push { cls:=.type "dict_keyiterator",data:=.fields #[.ref d,.int 0 0,.int es.size 0,.int ep 0] } } (.ref d) "dict":=k.ty;have p:(s.heap.push { cls:=.type "dict_keyiterator",data:=.fields #[.ref d,.int 0 0,.int es.size 0,.int ep 0] }).IsKeyIter s.heap.objs.size d 0 es.size ep:=⟨_,fB _ rfl,rfl,rfl⟩
 have I:s.heap.objs.size≠d:=Ne.symm (cH hm.lt_size);have Cu:s.heap.objs.size≠S:=Ne.symm (cH (cG hS));have r:∀ b o,s.heap.get? b=some o->(s.heap.push { cls:=.type "dict_keyiterator",data:=.fields #[.ref d,.int 0 0,.int es.size 0,.int ep 0] }).get? b=some o:=fun b o e=>cB _ e
 have a:∀ b o,s.heap.get? b=some o->b≠s.heap.objs.size:=fun b o e=>cH (cG e)
 generalize (s.heap.push { cls:=.type "dict_keyiterator",data:=.fields #[.ref d,.int 0 0,.int es.size 0,.int ep 0] })=l at *;refine ar (iA ?_);unfold Builtin.List.listLengthHint;refine ar (Ax O len_dict ?_)
 (generalize I:("dict.__len__":String)=Z; (fail_if_success (clear I Z)); wp_delta; rw[show splitId Z=some ("dict","__len__") from by subst I; decide +kernel]; subst I)
 refine ar (Cy (b:=true) O (by rw[isSubtype_type]; kernel_rfl) ?_);refine ar (m:=typeOf (.ref d)) (vi O ?_);refine aO ?_
 show wpAny _ A.in1 (rule "list.extend.makes-room" >>= fun _=>Builtin.List.listTouch (.ref S) >>= fun _=>
  again (.builtin "list.extend.loop" ⟨[.ref S,.ref s.heap.objs.size,res],[]⟩)) _ _ _
 refine ar (sT ?_);refine ar ?_;unfold Builtin.List.listTouch;refine ar (CV (s:={ s with heap:=l }) j rfl ?_ (dI _) (by show 1<=sizeLine + 1; omega));have h:=DO (c:="list") j (·.push .none);refine CV (s:={ s with heap:=l.update S (Obj.mapSeq (·.push .none)) }) h rfl ?_ (by show 1<=sizeLine; decide) (by show 0<=sizeLine + 1; omega);have t:=DO (c:="list") h (·.pop);have n:∀ b o,b≠S->l.get? b=some o->((l.update S (Obj.mapSeq (·.push .none))).update S (Obj.mapSeq (·.pop))).get? b=some o:=fun b o g e=>
  (vN _ _ (Ne.symm g)).trans ((vN _ _ (Ne.symm g)).trans e)
 have W:=(Ay (prog:=prog) (w:=w) (A:=A.in1) hh s.heap.objs.size d (Ne.symm I) es ep).toS;refine aO ⟨xJ EO _,codeAny_extend_loopS W hn S (by simp[Ne.symm Cu,Ne.symm hne]) _ es.size 0 _ _ _ rfl (dI _) ?_ t (ItemsOf.nil _) fun s' V c' J q U=>?_⟩
 ·exact⟨p.at fun o e=>n _ o Cu e,k.at fun o e=>n _ o hne e⟩
 ·refine hR s' V c' (fun b o g e=>?_) J.gens J.drawn J.os q U;exact J.heap b o (by simp[g,a b o e]) (n b o g (r b o e))
end
end Srt
namespace L2
open PySem PySem.Spec PyProof.Rows
theorem Paired.mapR{α β γ:Type}{F:α->β->Prop}{G:α->γ->Prop}(f:β->γ){l:List α}{m:List β}(h:Paired F l m)(q:∀ a b,F a b->G a (f b)):Paired G l (m.map f):=by
 induction h with
 | nil=>exact .nil
 | cons r t I=>exact .cons (q _ _ r) I
theorem gm:∀ bs:List Addr,Vals (bs.map V.ref) (bs.map Value.ref)
 | []=>.nil
 | b::bs=>.cons rfl (gm bs)
end L2
namespace Srt
open PySem PySem.Spec PyProof.Rows L2
structure Ju where
 p:Addr
 k:List Key
 b:Addr
 v:Value
section
variable {prog:Program}{w:World}{A:Around}{E:Value->Shared->Prop}{s:Shared}{ts:List Ju}
end
end Srt
namespace L2
open PySem PySem.Spec PyProof.Rows
variable {H H':Hp}{X:Cx}{C:Addr->List D->Prop}{ds:List D}{b:Addr}{u:Value}{n:Nat}{o i:Expr}{td:TE}{A:Around}{v y:V}{kvs:List (List D × V)}{pins:List (Addr × Obj)}{σ:St}{s:Shared}{pos:Pos}{its:List Value}{e:D}{vs:List V}{xs:List (List D × Addr × Value)}{zs:List (Addr × List D)}
theorem Fx(I:Inv X pins σ H s){xs:List V}(rv:Vals xs its)(il:IsL X.K H ds xs)(ie:Is X.K H e y)(ry:RelV y u)(hu:A.units + D.cy ds < cLine) :
  ∃ f:Value->Bool,(∀ z∈its.toArray,SeqAt.EqAt A s z u (f z))/\(∀ (i:Nat) z d,its[i]?=some z->ds[i]?=some d->f z=D.beq d e):=by
 classical
 have at_:∀ (i:Nat) z,its[i]?=some z->∃ d v,ds[i]?=some d/\Is X.K H d v/\RelV v z:=fun i z O=>by
  have hi:i < its.length:=(dJ.mp O).1;have Z:i < xs.length:=by rw[rv.length]; exact hi
  obtain⟨z',k,p⟩:=rv.get (cL Z);rw[O]at k;cases k;obtain⟨d,m,id⟩:=il.get' (cL Z);exact⟨d,_,m,id,p⟩
 let f:Value->Bool:=fun z=>decide (∃ (i:Nat) (d:D),its[i]?=some z/\ds[i]?=some d/\D.beq d e=true)
 have a:∀ (i:Nat) z d,its[i]?=some z->ds[i]?=some d->f z=D.beq d e:=fun i z d h1 h2=>by
  cases c:D.beq d e with
  | true=>exact gp ⟨i,d,h1,h2,c⟩
  | false=>
   refine iK fun Z=>?_
   obtain⟨j,d',n,q,g⟩:=Z;obtain⟨E,F,J,U,b⟩:=at_ i z h1;obtain⟨t,B,h,l,o⟩:=at_ j z n;rw[h2]at J;rw[q]at h;cases J;cases h;obtain rfl:=b.inj o;obtain rfl:=Is.inj I U l;rw[c]at g;cases g
 refine⟨f,fun z O=>?_,a⟩;obtain⟨i,hi⟩:=BQ.mp (show z∈its by simpa using O);obtain⟨d,v,J,U,b⟩:=at_ i z hi;rw[a i z d hi J];have C:d.dep<=D.cy ds:=by
  clear a hu at_ il rv hi O U
  induction ds generalizing i with
  | nil=>simp at J
  | cons x ds r=>
   rw[show D.cy (x::ds)=max x.dep (D.cy ds) by conv=>lhs; unfold D.cy];cases i with
   | zero=>cases (show some x=some d from J); exact Nat.le_max_left _ _
   | succ i=>exact kC (r i J) (Nat.le_max_right _ _)
 exact pR I d e U ie b ry (by omega)
theorem CB{f:Value->Bool}(hl:ds.length=its.length)(hf:∀ (i:Nat) z d,its[i]?=some z->ds[i]?=some d->f z=D.beq d e):its.toArray.any f=ds.any fun d=>D.beq d e:=by
 rw[List.any_toArray]
 induction its generalizing ds with
 | nil=>
  cases ds with
  | nil=>rfl
  | cons d ds=>cases hl
 | cons z its I=>
  cases ds with
  | nil=>cases hl
  | cons d ds=>
   rw[List.any_cons,List.any_cons,hf 0 z d rfl rfl,I (by simpa using hl) fun i z' d' h1 h2=>hf (i + 1) z' d' h1 h2]
def HS(K:aL)(n:Nat)(ty tl:TE):TE:=fun σ H Q=>ty σ H fun y H1=>tl σ H1 fun x H2=>∃ a xs ds e,x=.ref a/\bp K H2 a xs/\IsL K H2 ds xs/\Is K H2 e y/\D.cy ds < n/\Q (.bl (ds.any fun d=>D.beq d e)) H2
section
variable {ty:TE}
theorem yV(hu:X.A.units + 1 + n < cLine)(hi:PE X i ty)(ho:PE X o td):PC X .In i o (HS X.K n ty td):=by
 intro pins s σ H Q I h;refine cw (hi pins s σ H _ I h) fun p s1 O=>?_
 obtain⟨y,H1,c,l,Z⟩:=O;refine cw (ho pins s1 σ H1 _ c Z) fun u s2 O=>?_
 obtain⟨x,H2,J,g,a,xs,ds,e,rfl,j,U,k,m,b⟩:=O;cases g;obtain⟨its,V,pl,_⟩:=J.list j;obtain⟨f,h1,h2⟩:=Fx (A:=X.A.in1) J V U k l (by show X.A.units + 1 + _ < cLine; omega);refine SeqAt.in_listAt f pl.isList h1 ?_;rw[CB (by rw[U.length,V.length]) h2];exact⟨.bl (ds.any fun d=>D.beq d e),H2,J,rfl,b⟩
end
section
variable {e:Expr}{te:TE}{lo hi:Option Expr}{st:Expr}{tl th tk:TO}{p2:Pos}
end
abbrev KN(zs:List (Addr × List D))(H:Hp):List (List D × V)->List (List D × Addr × Value)->Prop:=Paired fun p q=>p.1=q.1/\ER zs H p.1 q.2.1/\RelV p.2 q.2.2
section
variable {zs':List (Addr × List D)}
theorem KN.val(r:KN zs H kvs xs)(k:List D):kP (dh kvs k) ((atKey xs k).map (·.2)):=by
 induction r with
 | nil=>exact True.intro
 | @cons p q ps I h t O=>
  by_cases e:p.1=k
  ·have b:atKey (q::I) k=some q.2:=by simp[atKey,Ck,h.1.symm.trans e]
   rw[cF e,b];exact h.2.2
  ·have J:¬ q.1=k:=fun z=>e (h.1.trans z)
   have b:atKey (q::I) k=atKey I k:=by simp[atKey,Ck,J]
   rw[cE e,b];exact O
theorem KN.keeps(r:KN zs H kvs xs)(ht:∀ b ys,H b=some (.tup ys)->H' b=some (.tup ys))(hz:∀ z∈zs,z∈zs'):KN zs' H' kvs xs:=
 Paired.kN r fun _ _ z=>⟨z.1,eK.mono (fun b ds h=>hz (b,ds) h) ht z.2.1,z.2.2⟩
theorem KN.put(r:KN zs H kvs xs)(k:List D)(hb:ER zs H k b)(ry:RelV y u):KN zs H (putK kvs k y) (storedH xs k b u):=by
 have e:(kvs.any fun I=>decide (I.1=k))=(atKey xs k).isSome:=by rw[fg,(r.val k).ir,Option.isSome_map]
 unfold putK storedH;rw[e];by_cases q:(atKey xs k).isSome=true
 ·rw[if_pos q,if_pos q];clear e q
  induction r with
  | nil=>exact .nil
  | @cons p q ps O h t J=>
   rw[iU,iU];refine .cons ?_ J;unfold putAt;by_cases e:p.1=k
   ·rw[if_pos e,if_pos (h.1.symm.trans e)]; exact⟨h.1,h.2.1,ry⟩
   ·rw[if_neg e,if_neg (fun z=>e (h.1.trans z))]; exact h
 ·rw[if_neg q,if_neg q];exact Paired.snoc r ⟨rfl,hb,ry⟩
end
def yK(K:aL)(b:Addr)(ds:List D):Prop:=∃ ks:List Key,ds=ks.map nM/\Cn K b ks
def Df(K:aL)(zs:List (Addr × List D)):Prop:=∀ z∈zs,yK K z.1 z.2
def rE(kvs:List (List D × V)):Prop:=∀ kv∈kvs,D.cy kv.1<=3
def DN(K:aL)(H:Hp)(a:Addr)(kvs:List (List D × V)):Prop:=∃ zs,Rd H a (.dN zs kvs)/\Df K zs/\rE kvs
def kM(K:aL)(H:Hp)(b:Addr)(k:List D):Prop:=eK (yK K) H (.tup k) (.ref b)/\D.cy k<=3
theorem vF{i:Int}:eK C H (.int i) (.int i):=by unfold eK; rfl
theorem Cv{x:Str}:eK C H (.str x) (.str x):=by unfold eK; rfl
theorem pN(h:H b=some (.tup vs))(l:dO C H ds vs):eK C H (.tup ds) (.ref b):=by unfold eK; exact⟨b,rfl,.inr ⟨vs,h,l⟩⟩
theorem xn(h:C b ds):eK C H (.tup ds) (.ref b):=by unfold eK; exact⟨b,rfl,.inl h⟩
theorem wB:dO C H [] []:=by unfold dO; rfl
theorem gN{d:D}(h:eK C H d v)(l:dO C H ds vs):dO C H (d::ds) (v::vs):=by unfold dO; exact⟨v,vs,rfl,h,l⟩
theorem B7(k:Key):eK C H (nM k) (kV k):=by
 cases k with
 | inl i=>exact vF
 | inr x=>exact Cv
theorem tq{C:Addr->List D->Prop}{H:Hp}:∀ ks:List Key,dO C H (ks.map nM) (ks.map kV)
 | []=>wB
 | k::ks=>gN (B7 k) (tq ks)
theorem FP{K:aL}{k:List Key}(h:Ky K H b k):eK (yK K) H (.tup (k.map nM)) (.ref b):=by
 rcases h with h | h
 ·exact pN h (tq k)
 ·exact xn ⟨k,rfl,h⟩
mutual
theorem xh{K:aL}{H:Hp}:∀ {d:D} {v:V},eK (yK K) H d v->∃ zc,Df K zc/\eK (fun b ds=>(b,ds)∈zc) H d v
 | .non,_,h=>by unfold eK at h; exact h.elim
 | .int _,_,h=>⟨[],fun _ h=>absurd h gh,by unfold eK at h |-; exact h⟩
 | .str _,_,h=>⟨[],fun _ h=>absurd h gh,by unfold eK at h |-; exact h⟩
 | .tup ds,_,h=>by
  unfold eK at h;obtain⟨b,rfl,h⟩:=h;rcases h with h | ⟨vs,h1,h2⟩
  ·exact⟨[(b,ds)],fun z I=>by rw[fS.mp I]; exact h,xn (fS.mpr rfl)⟩
  ·obtain⟨zc,J,O⟩:=wc h2;exact⟨zc,J,pN h1 O⟩
theorem wc{K:aL}{H:Hp}:∀ {ds:List D} {vs:List V},dO (yK K) H ds vs->∃ zc,Df K zc/\dO (fun b ds=>(b,ds)∈zc) H ds vs
 | [],_,h=>⟨[],fun _ h=>absurd h gh,by unfold dO at h |-; exact h⟩
 | d::ds,_,h=>by
  unfold dO at h;obtain⟨v,r,rfl,p,q⟩:=h;obtain⟨c,J,Z⟩:=xh p;obtain⟨U,O,a⟩:=wc q;exact⟨c++U,fun z I=>(fY.mp I).elim (J z) (O z),gN (eK.mono (fun _ _ h=>uj _ h) (fun _ _ e=>e) Z) (dO.mono (fun _ _ h=>uD _ h) (fun _ _ e=>e) a)⟩
end
theorem x6{P:Program}{w:World}(hu:A.units + 5 < cLine):(aI P w).room A.in1:=by show A.units + 1 + 4 < cLine; omega
theorem yY(h:rE kvs){k:List D}(hk:D.cy k<=3):rE (putK kvs k v):=fun J I=>by
 cases e:dh kvs k with
 | none=>
  rw[rz v e]at I;rcases fY.mp I with h1 | h1
  ·exact h J h1
  ·rw[fS.mp h1]; exact hk
 | some u=>
  unfold putK at I;rw[fg,e]at I;obtain⟨p,O,rfl⟩:=eW.mp (show J∈kvs.map fun J=>if J.1=k then (J.1,v) else J from I);have:=h p O;by_cases z:p.1=k
  ·rw[if_pos z]; exact this
  ·rw[if_neg z]; exact this
def Lv(X:Cx)(H:Hp)(s:Shared)(n:Nat)(knd:cU X.prog X.w n):Prop:=(∀ d u,flatIs d u->knd.is s.heap d u)/\∀ d v u,eK (yK X.K) H d v->RelV v u->d.dep<=n->knd.is s.heap d u
theorem gO{k:Key}(r:RelV (kV k) u):flatIs (nM k) u:=by
 cases k with
 | inl i=>obtain⟨t,rfl⟩:=(show ∃ t,u=Value.int i t from r); exact⟨.inl i,rfl,oN i t⟩
 | inr x=>obtain⟨t,rfl⟩:=(show ∃ t,u=Value.str x t from r); exact⟨.inr x,rfl,oD x t⟩
theorem Ah(I:Inv X pins σ H s){knd:cU X.prog X.w n}(hL:Lv X H s n knd)(h:eK (yK X.K) H (.tup ds) (.ref b))(hd:D.cy ds<=n):cv knd s.heap ds b:=by
 unfold eK at h;obtain⟨i,e,h⟩:=h;cases e;rcases h with ⟨ks,rfl,Z⟩ | ⟨vs,h1,h2⟩
 ·obtain⟨its,r,⟨o,h1,h2,m,U⟩,_⟩:=I.tuple (Ky.sq (.inr Z):bu X.K H b (ks.map kV));refine⟨o,its.toArray,m,h1,h2,U,?_⟩;have J:∀ {ks:List Key} {its:List Value},Vals (ks.map kV) its->bX knd s.heap (ks.map nM) its:=by
   intro ks
   induction ks with
   | nil=>intro its r; obtain rfl:=r.zero; exact .nil
   | cons k ks O=>
    intro its r;obtain⟨u,us,rfl,a,t⟩:=r.oC;exact .cons (hL.1 _ _ (gO a)) (O t)
  simpa using J r
 ·obtain⟨its,r,⟨o,c,g,m,f⟩,_⟩:=I.tuple (bu.of h1:bu X.K H b vs);refine⟨o,its.toArray,m,c,g,f,?_⟩;have J:∀ {ds:List D} {vs:List V} {its:List Value},dO (yK X.K) H ds vs->Vals vs its->D.cy ds<=n->bX knd s.heap ds its:=by
   intro ds
   induction ds with
   | nil=>intro vs its t r _; unfold dO at t; subst t; obtain rfl:=r.zero; exact .nil
   | cons d ds O=>
    intro vs its t r hd;unfold dO at t;obtain⟨v,rest,rfl,p,q⟩:=t;obtain⟨u,us,rfl,a,t'⟩:=r.oC;have e:D.cy (d::ds)=max d.dep (D.cy ds):=by conv=>lhs; unfold D.cy
    rw[e]at hd;exact .cons (hL.2 d v u p a (by omega)) (O q t' (by omega))
  simpa using J h2 r hd
theorem BY:Lv X H s 0 (wQ X.prog X.w):=by
 refine⟨fun d u h=>h,fun d v u h r I=>?_⟩;cases d with
 | non=>unfold eK at h; exact h.elim
 | int i=>unfold eK at h; subst h; exact gO (k:=.inl i) r
 | str x=>unfold eK at h; subst h; exact gO (k:=.inr x) r
 | tup ds=>
  have e:D.dep (.tup ds)=1 + D.cy ds:=by conv=>lhs; unfold D.dep
  omega
theorem pT(I:Inv X pins σ H s){knd:cU X.prog X.w n}(hL:Lv X H s n knd):Lv X H s (n + 1) (iP knd):=by
 refine⟨fun d u h=>.inl h,fun d v u h r J=>?_⟩;cases d with
 | non=>unfold eK at h; exact h.elim
 | int i=>unfold eK at h; subst h; exact .inl (gO (k:=.inl i) r)
 | str x=>unfold eK at h; subst h; exact .inl (gO (k:=.inr x) r)
 | tup ds=>
  have e:D.dep (.tup ds)=1 + D.cy ds:=by conv=>lhs; unfold D.dep
  obtain⟨b,rfl⟩:∃ b,v=.ref b:=by unfold eK at h; obtain⟨b,e,_⟩:=h; exact⟨b,e⟩
  cases (show u=Value.ref b from r);exact .inr ⟨ds,b,rfl,rfl,Ah I hL h (by omega)⟩
section
variable {a:Addr}{k:List D}{d:V}{r:Value}{E:Value->Shared->Prop}
theorem uk(I:Inv X pins σ H s)(h:kM X.K H b k):(aI X.prog X.w).is s.heap k b:=Ah I (pT I (pT I (pT I BY))) h.1 h.2
theorem AY{K:aL}(hz:Df K zs)(hk:kM K H b k):∃ zs',(∀ z∈zs,z∈zs')/\Df K zs'/\ER zs' H k b:=by
 obtain⟨O,J,U⟩:=xh hk.1;exact⟨zs++O,fun _ h=>uj _ h,fun z I=>(fY.mp I).elim (hz z) (J z),eK.mono (fun _ _ h=>uD _ h) (fun _ _ e=>e) U⟩
theorem Hh{h':Heap}(hl:kvs.length<=sizeLine)(hd:(a == sysModules)=false)(rel:KN zs H' kvs xs)(dd:h'.DictOfH (aI X.prog X.w) a xs):bW X.prog X.w H' h' a (.dN zs kvs):=by
 obtain⟨q,es,ep,J,h2,I,O,_,U⟩:=dd;exact⟨hl,hd,xs,rel,q,es,ep,J,h2,I,O,U⟩
end
section
variable {e f value:Expr}{pos' tpos apos cpos:Pos}{ty tv tx:TE}
end
section
variable {ty:TE}
end
section
variable {ty:TE}
end
end L2
namespace Srt
open PySem PyProof.Rows
section
variable {prog:Program}{w:World}{A:Around}{E:Value->Shared->Prop}{s:Shared}{d it v:Addr}{es:Array DictEntry}{ep i:Nat}
end
end Srt
namespace L2
open PySem PySem.Spec PyProof.Rows
variable {X:Cx}
section
variable {tg:Expr}
end
section
variable {o i:Expr}{pos:Pos}{td ty:TE}
end
end L2
namespace Srt
open PySem PyProof.Rows PySem.W
section
variable {prog:Program}{w:World}{A:Around}{E:Value->Shared->Prop}{s:Shared}{es:Array DictEntry}{ep:Nat}
end
end Srt
namespace L2
open PySem PySem.Spec PyProof.Rows
variable {H:Hp}{zs:List (Addr × List D)}
section
variable {X:Cx}
end
theorem Fi{K:aL}(hz:Df K zs){k:List D}{b:Addr}(h:ER zs H k b)(hd:D.cy k<=3):kM K H b k:=
 ⟨eK.mono (fun b ds m=>hz (b,ds) m) (fun _ _ e=>e) h,hd⟩
theorem ui{K:aL}(hz:Df K zs){kvs:List (List D × V)}{xs:List (List D × Addr × Value)}(r:KN zs H kvs xs)(hs:rE kvs):Paired (fun (kv:List D × V) b=>kM K H b kv.1) kvs (xs.map (·.2.1)):=by
 induction r with
 | nil=>exact .nil
 | @cons p q ps J a _ I=>exact .cons (Fi hz a.2.1 (hs p gC)) (I fun kv h=>hs kv (jd _ h))
end L2
namespace Srt
open PySem PyProof.Rows
section
variable {prog:Program}{w:World}{A:Around}{E:Value->Shared->Prop}{s:Shared}{d it v:Addr}{es:Array DictEntry}{ep i:Nat}{ok ov:Value}
end
end Srt
namespace L2
open PySem PySem.Spec PyProof.Rows
section
variable {X:Cx}
end
end L2
namespace Srt
open PySem PySem.Spec PyProof.Rows L2
variable {h h':Heap}{l b d:Addr}{xs:List (List L2.D × Addr × Value)}{i lev:Nat}{ts:List BR}
structure BR where
 p:Addr
 k:List L2.D
 b:Addr
 v:Value
abbrev lH(ts:List BR):List Value:=ts.map fun t=>.ref t.p
def jB(ts:List BR):List (List L2.D × Addr × Value):=ts.foldl (fun acc t=>storedH acc t.k t.b t.v) []
theorem rY{k:List L2.D}{v:Value}:(storedH xs k b v).length<=xs.length + 1:=by
 unfold storedH;split
 ·rw[bL]; lia
 ·rw[dE,nv]; lia
theorem xV(ts:List BR):(jB ts).length<=ts.length:=by
 have O:∀ (ts:List BR) (I:List (List L2.D × Addr × Value)),(ts.foldl (fun I t=>storedH I t.k t.b t.v) I).length<=I.length + ts.length:=by
  intro ts
  induction ts with
  | nil=>intro I; exact bH _
  | cons t ts J=>
   intro I;have h1:=J (storedH I t.k t.b t.v);have h2:=rY (xs:=I) (k:=t.k) (b:=t.b) (v:=t.v);rw[DQ,jU]; lia
 have:=O ts [];rw[xq,Nat.zero_add]at this;exact this
theorem uo(h:i < ts.length):jB (ts.take (i + 1))=storedH (jB (ts.take i)) ts[i].k ts[i].b ts[i].v:=by
 unfold jB;rw[kX,cL h,B1,List.foldl_append];rfl
section
variable {prog:Program}{w:World}{A:Around}{E:Value->Shared->Prop}{s:Shared}
abbrev bK(h h':Heap):Prop:=∀ b o,h.get? b=some o->o.cls=.type "tuple"->h'.get? b=some o
def yZ{lev:Nat}(knd:L2.cU prog w lev):Prop:=∀ {h h':Heap} {d:L2.D} {v:Value},knd.is h d v->bK h h'->knd.is h' d v
theorem stays_tup{knd:L2.cU prog w lev}(hk:yZ knd){ds:List L2.D}(x:L2.cv knd h ds b)(e:bK h h'):L2.cv knd h' ds b:=by
 obtain⟨o,its,n,h1,h2,J,I⟩:=x;refine⟨o,its,n,e b o h1 h2,h2,J,?_⟩;generalize its.toList=l at I
 induction I with
 | nil=>exact .nil
 | cons a _ O=>exact .cons (hk a e) O
theorem jg{knd:L2.cU prog w lev}(hk:yZ knd):yZ (L2.iP knd):=fun x e=>x.imp id fun ⟨ds,a,I,J,x⟩=>⟨ds,a,I,J,stays_tup hk x e⟩
theorem cW{k:List L2.D}(x:(L2.aI prog w).is h k b)(e:bK h h'):(L2.aI prog w).is h' k b:=
 stays_tup (jg (jg (jg fun x _=>x))) x e
theorem fP{it:Addr}(hn:∀ o,h.get? it=some o->o.cls≠.type "tuple")(eb:Heap.ExtBut it h h'):bK h h':=fun b o e c=>eb b o (fun z=>hn o (z ▸ e) c) e
theorem xc{it:Addr}(y:h.IsListIter it l i):∀ o,h.get? it=some o->o.cls≠.type "tuple":=fun o e=>by
 obtain⟨O,I,J,_⟩:=y;rw[I]at e;cases e;rw[J];decide
theorem Iv(y:h.DictOfH (L2.aI prog w) d xs):∀ o,h.get? d=some o->o.cls≠.type "tuple":=fun o e=>by
 obtain⟨O,es,ep,I,J,_⟩:=y;rw[I]at e;cases e;rw[J.1];decide
theorem vK{it:Addr}(x:h.DictOfH (L2.aI prog w) d xs)(y:h.IsListIter it l i)(eb:Heap.ExtBut it h h')(hd:d≠it):h'.DictOfH (L2.aI prog w) d xs:=by
 obtain⟨o,es,ep,h1,h2,I,O,V,U⟩:=x;exact⟨o,es,ep,eb d o hd h1,h2,I,O,fun q J=>cW (V q J) (fP (xc y) eb),U⟩
theorem yt{R:Result->Shared->Prop}{it:Addr}{res:Value}(hh:A.handled=none)(hil:l≠it)(hdi:d≠it)(hdl:l≠d)(hp:∀ t∈ts,t.p≠it/\t.p≠d)(hu:A.units + 5 < cLine)(hn:ts.length<=sizeLine) :
  ∀ (n i:Nat) (s:Shared),ts.length - i=n->i<=ts.length->s.heap.IsListIter it l i->s.heap.IsList l (lH ts).toArray->(∀ t∈ts,s.heap.IsTuple t.p #[.ref t.b,t.v])->(∀ t∈ts,(L2.aI prog w).is s.heap t.k t.b)->s.heap.DictOfH (L2.aI prog w) d (jB (ts.take i))->
  (∀ s',(∀ b o,b≠it->b≠d->s.heap.get? b=some o->s'.heap.get? b=some o)->s'.gens=s.gens->s'.drawn=s.drawn->s'.os=s.os->s'.heap.DictOfH (L2.aI prog w) d (jB ts)->R (.ok (.ret res)) s')->
  codeAny (model prog w) A (.builtin "dict.update.loop" ⟨[.ref d,.ref it,.int i 0,res],[]⟩) R s:=by
 intro n
 induction n with
 | zero=>
  intro i s B hi I y L H u q;have e:i=ts.length:=by lia
  subst e;refine ug dz ?_;rw[wk bS _];show wpAny _ A.in1 (pyNext (.ref it) >>= _) _ _ s;refine ar (wpAny_pyNext_list_end hh I y (by simp) fun h' E=>?_);refine ar (m:=Builtin.Dict.addKeywords d []) (aO (aO ?_));refine q { s with heap:=h' } (fun b o Z _ e=>E b o Z e) rfl rfl rfl ?_;rw[yE (bH _)]at u;exact vK u I E hdi
 | succ n S=>
  intro i s B hi I y L H u q;have V:i < ts.length:=by lia
  refine ug dz ?_;rw[wk bS _];show wpAny _ A.in1 (pyNext (.ref it) >>= _) _ _ s;have G:ts[i]∈ts:=wN V;refine ar (wpAny_pyNext_list_item I y (x:=.ref ts[i].p) (by simp[V]) fun h1 r J=>?_);have a:∀ t∈ts,h1.IsTuple t.p #[.ref t.b,t.v]:=fun t h=>(L t h).extBut J.extBut (hp t h).1
  have C:=y.extBut J.extBut hil;have f:=vK u I J.extBut hdi;have j:∀ t∈ts,(L2.aI prog w).is h1 t.k t.b:=fun t h=>cW (H t h) (fP (xc I) J.extBut)
  obtain⟨o,F,Q,c,g⟩:=id (a _ G);refine ar (iA (ar (wpAny_tryCatch ?_)));unfold Builtin.Dict.pairItems;refine ar (vi (s:={ s with heap:=h1 }) (T:="tuple") ⟨o,F,Q⟩ ?_);rw[if_pos (by decide)];refine ar (m:=seqItems? (.ref ts[i].p)) ?_;unfold seqItems?;refine ar (wpAny_load (s:={ s with heap:=h1 }) F ?_);rw[g];refine aO (aO ?_);show wpAny _ A.in1 (holding [.ref ts[i].b,ts[i].v] (dictSet d (.ref ts[i].b) ts[i].v)) _ _ { s with heap:=h1 };have N:(jB (ts.take i)).length<=sizeLine:=by
   have:=xV (ts.take i);rw[gx]at this
   lia
  refine iA (wpAny_dictSet_heap (knd:=(L2.aI prog w)) (hsz:=N) (L2.x6 hu) (j _ G) f fun h2 z O=>?_);refine aO ⟨xJ bS _,?_⟩;have M:∀ b o,b≠it->b≠d->s.heap.get? b=some o->h2.get? b=some o:=fun b o Z U e=>(O.2 b U).trans ((J.2 b Z).trans e)
  have:=S (i + 1) { s with heap:=h2,toks:=s.toks + (L2.aI prog w).draws ts[i].k } (by lia) V (r.extBut O.extBut (Ne.symm hdi)) (C.extBut O.extBut hdl) (fun t h=>(a t h).extBut O.extBut (hp t h).2)
   (fun t h=>cW (j t h) (fP (Iv f) O.extBut)) (by rw[uo V]; exact z) fun s' k' g' D o' dd=>q s' (fun b o Z U e=>k' b o Z U (M b o Z U e)) g' D o' dd
  exact this
theorem su{c:Nat}{Q:Value->Shared->Prop}(hh:A.handled=none)(hl:s.heap.get? l=some { cls:=.type "list",data:=.seq (lH ts).toArray c })(hu:A.units + 9 < cLine)(ht:∀ t∈ts,s.heap.IsTuple t.p #[.ref t.b,t.v])(hk:∀ t∈ts,(L2.aI prog w).is s.heap t.k t.b)(hn:ts.length<=sizeLine)
  (q:∀ s':Shared,(∀ b o,s.heap.get? b=some o->s'.heap.get? b=some o)->s'.gens=s.gens->s'.drawn=s.drawn->s'.os=s.os->s'.heap.DictOfH (L2.aI prog w) s.heap.objs.size (jB ts)->Q (.ref s.heap.objs.size) s') :
  wpAny (model prog w) A (call (.type "dict") [.ref l]) Q E s:=by
 refine callType_codes (Q₁:=fun Z v=>Z=.ref s.heap.objs.size/\v={ s with heap:=s.heap.push { cls:=.type "dict",data:=.dict #[] } }) F.kt_called_dict (F.kt_typeCall_dict_1 _) F.entry_dict_init (kt_code_dict_new _ ⟨rfl,rfl⟩) ?_
 rintro Z v ⟨rfl,rfl⟩
 have J:(s.heap.push { cls:=.type "dict",data:=.dict #[] }).DictOfH (L2.aI prog w) s.heap.objs.size []:=Heap.DictOfH.new s.heap;have U:(s.heap.push { cls:=.type "dict",data:=.dict #[] }).get? l=some { cls:=.type "list",data:=.seq (lH ts).toArray c }:=cB _ hl;have x:(s.heap.push { cls:=.type "dict",data:=.dict #[] }).objs.size=s.heap.objs.size + 1:=yx ..;have O:∀ b o,s.heap.get? b=some o->(s.heap.push { cls:=.type "dict",data:=.dict #[] }).get? b=some o:=fun b o e=>cB _ e
 refine⟨J.typeIs,F.args_dict_init_2 _ _,?_⟩;generalize s.heap.push { cls:=.type "dict",data:=.dict #[] }=g at *;unfold Builtin.«dict.__init__»;refine ar ?_;unfold Builtin.Dict.selfAndRest;refine ar (wpAny_notOrdered_dict (s:={ s with heap:=g }) J.typeIs ?_);show wpAny _ _ (pure (s.heap.objs.size,[Value.ref l])) _ _ _;refine aO ?_;show wpAny _ _ (Builtin.Dict.updateFrom "dict.__init__" s.heap.objs.size (.ref l) [] .none) _ _ _;unfold Builtin.Dict.updateFrom;refine ar (vi (s:={ s with heap:=g }) (T:="list") ⟨_,U,rfl⟩ ?_);rw[if_pos (by decide)];refine ar (nP (s:={ s with heap:=g }) U (by exact hh) fun h2 d k2=>?_);rw[if_pos (by rfl)];refine ar (sT ?_);have f:h2.IsList l (lH ts).toArray:=⟨_,k2 _ _ U,rfl,_,rfl⟩
 have a:h2.DictOfH (L2.aI prog w) s.heap.objs.size []:=by
  obtain⟨o,es,ep,I,u,k,m,_,j⟩:=J;exact⟨o,es,ep,k2 _ _ I,u,k,m,fun _ h=>by simp at h,j⟩
 have V:∀ b o,g.get? b=some o->b < h2.objs.size:=fun b o e=>cG (k2 b o e)
 refine ar (wpAny_pyIter_list (s:={ s with heap:=h2,toks:=d }) f (aO ⟨xJ bS _,?_⟩));have p:s.heap.objs.size < h2.objs.size:=by
  obtain⟨o,es,ep,I,r⟩:=a;exact cG I
 refine yt (ts:=ts) (s:={ s with heap:=h2.push { cls:=.type "list_iterator",data:=.fields #[.ref l,.int 0 0] },toks:=d }) (n:=ts.length) (i:=0) (l:=l) (by exact hh) (cH (V l _ U)) (cH p) (cH (cG hl)) ?_ (by show A.units + 1 + 5 < cLine; lia) hn rfl (dI _)
  ⟨_,fB _ rfl,rfl,rfl⟩ ?_ ?_ ?_ ?_ fun s' k' g' d' o' dd=>?_
 ·intro t h;obtain⟨o,I,_⟩:=ht t h;exact⟨cH (V _ _ (O _ _ I)),cH (cG I)⟩
 ·obtain⟨o,I,r⟩:=f;exact⟨o,cB _ I,r⟩
 ·intro t h;obtain⟨o,I,r⟩:=ht t h;exact⟨o,cB _ (k2 _ _ (O _ _ I)),r⟩
 ·intro t h;exact cW (hk t h) fun b o e _=>cB _ (k2 _ _ (O _ _ e))
 ·obtain⟨o,es,ep,I,u,k,m,_,j⟩:=a;exact⟨o,es,ep,cB _ I,u,k,m,fun _ h=>by simp[jB]at h,j⟩
 ·refine⟨rfl,q s' (fun b o e=>?_) g' d' o' dd⟩;exact k' b o (cH (V b o (O b o e))) (cH (cG e)) (cB _ (k2 _ _ (O _ _ e)))
end
end Srt
namespace L2
open PySem PySem.Spec PyProof.Rows
variable {H:Hp}{X:Cx}
def f9(ps:List (List D × V)):List (List D × V):=ps.foldl (fun acc p=>putK acc p.1 p.2) []
theorem iO(ps:List (List D × V)):(f9 ps).length<=ps.length:=by
 have O:∀ (ps I:List (List D × V)),(ps.foldl (fun I p=>putK I p.1 p.2) I).length<=I.length + ps.length:=by
  intro ps
  induction ps with
  | nil=>intro I; exact bH _
  | cons p ps J=>
   intro I;have h1:=J (putK I p.1 p.2);have h2:=fE I p.1 p.2;rw[DQ,jU]; lia
 have:=O ps [];rw[xq,Nat.zero_add]at this;exact this
theorem oa{K:aL}{H:Hp}:∀ (bs:List (Addr × List D)),(∀ x∈bs,kM K H x.1 x.2)->∃ zs,Df K zs/\∀ x∈bs,ER zs H x.2 x.1
 | [],_=>⟨[],fun _ h=>absurd h gh,fun _ h=>absurd h gh⟩
 | x::bs,h=>by
  obtain⟨zs,z1,z2⟩:=oa bs fun y I=>h y (jd _ I)
  obtain⟨zs',O,U,J⟩:=AY (b:=x.1) (k:=x.2) z1 (h x gC);refine⟨zs',U,fun y I=>?_⟩;rcases d0.mp I with rfl | I
  ·exact J
  ·exact eK.mono (fun b ds h=>O (b,ds) h) (fun _ _ e=>e) (z2 y I)
abbrev PN:=Addr × Addr × List D × V
theorem KN.fold{zs:List (Addr × List D)}:∀ {ps:List PN} {ts:List Srt.BR} {kvs:List (List D × V)} {xs:List (List D × Addr × Value)},
  Paired (fun (p:PN) (t:Srt.BR)=>p.2.2.1=t.k/\p.2.1=t.b/\RelV p.2.2.2 t.v) ps ts->(∀ p∈ps,ER zs H p.2.2.1 p.2.1)->KN zs H kvs xs->
  KN zs H ((ps.map (·.2.2)).foldl (fun acc p=>putK acc p.1 p.2) kvs) (ts.foldl (fun acc t=>storedH acc t.k t.b t.v) xs):=by
 intro ps ts kvs xs r
 induction r generalizing kvs xs with
 | nil=>intro _ q; exact q
 | @cons p t ps ts h _ U=>
  intro I q;have J:=q.put p.2.2.1 (I p gC) h.2.2;rw[iU,DQ,DQ,<-h.1,<-h.2.1];exact U (fun x O=>I x (jd _ O)) J
inductive D9(K:aL)(xs:List V)(H:Hp)(Q:VK):Prop|m(l:Addr)(ps:List PN)(_:xs=[.ref l])(_:H l=some (.lst (ps.map fun t=>.ref t.1)))(_:(∀ t∈ps,H t.1=some (.tup [.ref t.2.1,t.2.2.2])/\kM K H t.2.1 t.2.2.1))(_:∀ p zs,H p=none->Df K zs/\rE (f9 (ps.map (·.2.2)))->Q (.ref p) (upd H p (.dN zs (f9 (ps.map (·.2.2))))))
theorem Az{P:Program}{w:World}{H:Hp}{h:Heap}(ok:gR P w H h):∀ {ps:List PN},(∀ t∈ps,H t.1=some (.tup [.ref t.2.1,t.2.2.2]))->
  ∃ ts:List Srt.BR,ts.map (·.p)=ps.map (·.1)/\(∀ t∈ts,h.IsTuple t.p #[.ref t.b,t.v])/\Paired (fun (p:PN) (t:Srt.BR)=>p.2.2.1=t.k/\p.2.1=t.b/\RelV p.2.2.2 t.v) ps ts
 | [],_=>⟨[],rfl,fun _ h=>absurd h gh,Paired.nil⟩
 | (p,b,k,v)::ps,hp=>by
  obtain⟨ts,e1,e2,e4⟩:=Az ok (ps:=ps) fun t I=>hp t (jd _ I)
  have U:H p=some (.tup [.ref b,v]):=hp _ gC;obtain⟨z,its,d,o,Z,V,n,J⟩:=ok p _ U;obtain⟨e,c,rfl,O,a⟩:=d.two;cases O;refine⟨⟨p,k,b,c⟩::ts,by rw[iU,iU,e1],fun t I=>?_,.cons ⟨rfl,rfl,a⟩ e4⟩;rcases d0.mp I with rfl | I
  ·exact⟨o,Z,V,n,J⟩
  ·exact e2 t I
theorem uv{ps:List PN}(h:∀ t∈ps,D.cy t.2.2.1<=3):rE (f9 (ps.map (·.2.2))):=by
 have U:∀ (ps:List PN) (I:List (List D × V)),(∀ t∈ps,D.cy t.2.2.1<=3)->rE I->rE ((ps.map (·.2.2)).foldl (fun I p=>putK I p.1 p.2) I):=by
  intro ps
  induction ps with
  | nil=>intro I _ a; exact a
  | cons p ps O=>intro I h a; exact O _ (fun t J=>h t (jd _ J)) (yY a (h p gC))
 exact U ps [] h fun _ h=>absurd h gh
theorem tX(hc:X.calm=true)(hu:X.A.units + 9 < cLine):d8 X (.type "dict") (D9 X.K):=by
 intro pins s σ H xs us Q I r h;obtain⟨l,ps,rfl,G,J,q⟩:=h;obtain⟨u,rfl,m⟩:=r.one;cases m;obtain⟨z,its,n,j,f,e⟩:=I.pZ G;obtain⟨ts,i,y,Z⟩:=Az I.hok fun t h=>(J t h).1
 obtain⟨zs,C,B⟩:=oa (ps.map fun t=>(t.2.1,t.2.2.1)) (K:=X.K) (H:=H) fun x F=>by
  obtain⟨t,h1,rfl⟩:=eW.mp F;exact (J t h1).2
 have A:its=Srt.lH ts:=by
  have:(ps.map fun t=>V.ref t.1)=(ps.map (·.1)).map V.ref:=by rw[List.map_map]; rfl
  rw[this]at j;rw[ij j,<-i,List.map_map]; rfl
 subst A;have v:ts.length<=sizeLine:=by
  have:=pq List.length i;rw[bL,bL]at this;rw[bL]at z
  lia
 have E:∀ t∈ts,(aI X.prog X.w).is s.heap t.k t.b:=fun t h=>by
  obtain⟨p,O,h1,h2,_⟩:=Paired.rO Z t h;rw[<-h1,<-h2];exact uk I (J p O).2
 refine Srt.su (I.ok.hd hc) e hu y E v fun s' k g d o dd=>?_
 have D:(s.heap.objs.size == sysModules)=false:=BE.mpr (Ne.symm (cH I.big));have a:=I.fresh;refine⟨.ref s.heap.objs.size,_,I.new k g d o (bH _) (o:=.dN zs (f9 (ps.map (·.2.2)))) (Hh ?_ D (KN.keeps (KN.fold Z (fun p O=>B _ (eW.mpr ⟨p,O,rfl⟩)) .nil) (fun c ys U=>?_) fun _ h=>h) dd),rfl,q _ zs a ⟨C,uv fun t h=>(J t h).2.2⟩⟩
 ·have:=iO (ps.map (·.2.2));rw[bL]at this z
  lia
 ·rw[aw (aM U a)]; exact U
theorem ee{α β:Type}{R:α->β->Prop}{l2' l2:List β}(h:l2'.Perm l2):∀ {l1:List α},Paired R l1 l2->∃ l1':List α,l1'.Perm l1/\Paired R l1' l2':=by
 induction h with
 | nil=>intro l1 r; exact⟨l1,List.Perm.refl _,r⟩
 | cons x _ U=>
  intro l1 r;cases r with
  | cons a t=>
   obtain⟨m,p,q⟩:=U t;exact⟨_,p.cons _,.cons a q⟩
 | swap x y l=>
  intro l1 r;cases r with
  | cons a t=>
   cases t with
   | cons b t=>exact⟨_,List.Perm.swap _ _ _,.cons b (.cons a t)⟩
 | trans _ _ i1 i2=>
  intro l1 r;obtain⟨m,p,q⟩:=i2 r;obtain⟨I,J,O⟩:=i1 q;exact⟨I,J.trans p,O⟩
theorem ku{α β:Type}{R:α->β->Prop}{l:List α}{m:List β}(h:Paired R l m):∀ x∈l,∃ y∈m,R x y:=by
 induction h with
 | nil=>intro x I; cases I
 | cons a _ O=>
  intro x I;rcases d0.mp I with rfl | I
  ·exact⟨_,gC,a⟩
  ·obtain⟨y,J,e⟩:=O x I;exact⟨y,jd _ J,e⟩
section
variable {k:Nat}{f l:Addr}{fd:qT}{ps:List Str}{sp:Sp}{pins:List (Addr × Obj)}{σ:St}{s:Shared}{xs:List V}{kz:List Int}{Q:VK}
end
end L2
namespace HT
open PySem PyProof.Rows
def kQ(A:Around)(s:Shared)(u v:Value)(b:Bool):Prop:=∀ (prog:Program) (w:World) (E Q:Value->Shared->Prop),Q (.bool b) s->wpAny (model prog w) A (richCompare .Lt u v) Q E s
inductive fA (A:Around) (s:Shared):List Value->List Value->Bool->Prop
 | nn:fA A s [] [] false
 | nc {y:Value} {ys:List Value}:fA A s [] (y::ys) true
 | cn {x:Value} {xs:List Value}:fA A s (x::xs) [] false
 | eq {x y:Value} {xs ys:List Value} {b:Bool} (h:SeqAt.EqAt A s x y true) (l:fA A s xs ys b):fA A s (x::xs) (y::ys) b
 | ne {x y:Value} {xs ys:List Value} {b:Bool} (h:SeqAt.EqAt A s x y false) (l:kQ A s x y b):fA A s (x::xs) (y::ys) b
theorem kQ.int(A:Around)(s:Shared)(a:Int)(t:Tok)(c:Int)(u:Tok):kQ A s (.int a t) (.int c u) (decide (a < c)):=fun prog w E Q h=>zW A s a t c u prog w E Q h
section
open PySem.SeqAt
open PySem.AutoSeq1 (wpAny_loadPart')
open PySem.MeetsSeq PySem.MeetsSeq2 PySem.MeetsSeq3
theorem qS(l b:Addr)(items items2:Array Value)(n n2:Nat)(dd dd2:Option Addr)(sl sl2:Array (Option Value))(r:Bool) :
  Meets (Builtin.«tuple.__lt__» ⟨[.ref l,.ref b],[]⟩)
   (fun A R s=>s.heap.get? l=some { cls:=.type "tuple",dict:=dd,data:=.seq items n,slots:=sl }/\s.heap.get? b=some { cls:=.type "tuple",dict:=dd2,data:=.seq items2 n2,slots:=sl2 }/\
    fA A.in1 s items.toList items2.toList r/\R (.ok (.ret (.bool r))) s):=
 .of_wp fun prog w A R s h=>by
  obtain⟨V,g,d,tk,os⟩:=s; obtain⟨c,Z,J,h⟩:=h;have e:=AutoSeq1.sub_tuple_tuple
  wp_walk using wpAny_loadPart' c,wpAny_loadPart' Z,wpAny_forIn_list _ (fun rest b s'=>b.1=none/\s'=⟨V,g,d,tk,os⟩/\∃ (vs ws:List Value),rest=vs.zip ws/\
   fA A.in1 ⟨V,g,d,tk,os⟩ vs ws r/\vs.length + items2.size=ws.length + items.size) _
  case turn=>
   rintro⟨y,x⟩ rest b s' ⟨hb',rfl,vs,ws,hz,hx',hlen⟩
   cases hx' with
   | nn=>cases hz
   | nc=>rw[List.zip_nil_left]at hz; cases hz
   | cn=>rw[List.zip_nil_right]at hz; cases hz
   | eq U I=>
    rw[List.zip_cons_cons]at hz;injection hz with hyx hrest;injection hyx with hy J;subst hy J;simp only[jU]at hlen;refine ar (U prog w _ _ ?_)
    wp_walk
    exact⟨rfl,rfl,_,_,hrest,I,by omega⟩
   | ne U I=>
    rw[List.zip_cons_cons]at hz;injection hz with hyx hrest;injection hyx with hy J;subst hy J;refine ar (U prog w _ _ ?_);have O:=I prog w
    wp_walk using O
    exact⟨_,rfl,by simpa using h⟩
  case fin=>
   rintro⟨b1,b2⟩ s' ⟨hb',rfl,vs,ws,hz,hx',hlen⟩
   simp only at hb';subst hb';have a:r=decide (items.size < items2.size):=by
    cases hx' with
    | nn=>
     simp only[xq]at hlen;exact (iK (by omega)).symm
    | nc=>
     simp only[xq,jU]at hlen;exact (gp (by omega)).symm
    | cn=>
     simp only[xq,jU]at hlen;exact (iK (by omega)).symm
    | eq=>rw[List.zip_cons_cons]at hz; cases hz
    | ne=>rw[List.zip_cons_cons]at hz; cases hz
   rw[a]at h
   wp_walk
   exact⟨_,rfl,by simpa[Builtin.Tuple.tupleCompareSizes] using h⟩
  case h=>
   exact⟨rfl,rfl,items.toList,items2.toList,rfl,J,by simp; omega⟩
end
end HT
namespace Tb
open PySem
variable {mask j i:Nat}{xs:Array Nat}{pl:List Nat}{h:Int}{es:Array (Int × Value)}
def it:Nat->Nat->Nat
 | 0,x=>x
 | n + 1,x=>5 * it n x + 1
theorem zU(m n x:Nat):it (m + n) x=it m (it n x):=by
 induction m with
 | zero=>rw[Nat.zero_add]; rfl
 | succ m I=>rw[Nat.succ_add]; show 5 * it (m + n) x + 1=5 * it m (it n x) + 1; rw[I]
theorem DL(n x:Nat):it n x=x + it n 0 * (4 * x + 1):=by
 induction n with
 | zero=>show x=x + 0 * _; rw[Nat.zero_mul]; rfl
 | succ n I=>
  show 5 * it n x + 1=x + (5 * it n 0 + 1) * (4 * x + 1);rw[I,Nat.add_mul,Nat.mul_assoc 5];generalize it n 0 * (4 * x + 1)=q
  lia
theorem FL(k:Nat):∃ v,it (2 ^ k) 0=2 ^ k * (2 * v + 1):=by
 induction k with
 | zero=>exact⟨0,rfl⟩
 | succ k I=>
  obtain⟨v,e⟩:=I;refine⟨v * (2 * it (2 ^ k) 0 + 1) + it (2 ^ k) 0,?_⟩;rw[Nat.pow_succ,Nat.mul_two,zU,DL (2 ^ k) (it (2 ^ k) 0)];generalize it (2 ^ k) 0=F at *;generalize 2 ^ k=M at *;have h1:F + F * (4 * F + 1)=F * (2 * (2 * F + 1)):=by
   have:2 * (2 * F + 1)=(4 * F + 1) + 1:=by lia
   rw[this,Nat.mul_succ F (4 * F + 1),Nat.add_comm]
  have h2:2 * (v * (2 * F + 1) + F) + 1=(2 * v + 1) * (2 * F + 1):=by
   rw[Nat.add_mul,Nat.mul_assoc,Nat.one_mul];generalize v * (2 * F + 1)=z
   lia
  rw[h1,h2]
  conv=>lhs; lhs; rw[e]
  rw[show M + M=M * 2 by lia,Nat.mul_assoc,Nat.mul_assoc,Nat.mul_left_comm (2 * v + 1) 2]
theorem Ef(k a b:Nat):∃ n,n < 2 ^ k/\it n a % 2 ^ k=b % 2 ^ k:=by
 induction k with
 | zero=>exact⟨0,by decide,by rw[Nat.pow_zero,Nat.mod_one,Nat.mod_one]⟩
 | succ k U=>
  obtain⟨n,h1,h2⟩:=U;have I:0 < 2 ^ k:=Nat.two_pow_pos k;rw[Nat.pow_succ];by_cases e:it n a / 2 ^ k % 2=b / 2 ^ k % 2
  ·exact⟨n,by lia,by rw[Nat.mod_mul,Nat.mod_mul,h2,e]⟩
  ·refine⟨2 ^ k + n,by lia,?_⟩;obtain⟨v,J⟩:=FL k;rw[zU,DL (2 ^ k) (it n a),J,Nat.mul_assoc];generalize it n a=y at *;have O:(2 * v + 1) * (4 * y + 1)=2 * (v * (4 * y + 1) + 2 * y) + 1:=by
    rw[Nat.add_mul,Nat.mul_assoc,Nat.one_mul];generalize v * (4 * y + 1)=z
    lia
   rw[O,Nat.mod_mul,Nat.mod_mul,Nat.add_mul_mod_self_left,Nat.add_mul_div_left _ _ I,h2];have:(y / 2 ^ k + (2 * (v * (4 * y + 1) + 2 * y) + 1)) % 2=b / 2 ^ k % 2:=by lia
   rw[this]
def lp(mask:Nat)(p:Nat × Nat):Nat->Nat × Nat
 | 0=>p
 | n + 1=>SetTable.leap mask (lp mask p n).1 (lp mask p n).2
theorem Fe(mask:Nat)(p:Nat × Nat)(m n:Nat):lp mask p (m + n)=lp mask (lp mask p m) n:=by
 induction n with
 | zero=>rfl
 | succ n I=>show SetTable.leap mask (lp mask p (m + n)).1 (lp mask p (m + n)).2=SetTable.leap mask (lp mask (lp mask p m) n).1 _; rw[I]
theorem Et(mask:Nat)(p:Nat × Nat)(n:Nat):(lp mask p n).2=p.2 / 32 ^ n:=by
 induction n with
 | zero=>show p.2=p.2 / 1; rw[Nat.div_one]
 | succ n I=>show (lp mask p n).2 / 32=_; rw[I,Nat.div_div_eq_div_mul,Nat.pow_succ]
theorem Dh(mask a:Nat)(ha:a<=mask)(n:Nat):lp mask (a,0) n=(it n a % (mask + 1),0):=by
 induction n with
 | zero=>show (a,0)=(a % (mask + 1),0); rw[Nat.mod_eq_of_lt (by lia)]
 | succ n I=>
  show SetTable.leap mask (lp mask (a,0) n).1 (lp mask (a,0) n).2=_;rw[I];show ((it n a % (mask + 1) * 5 + 1 + 0 / 32) % (mask + 1),0 / 32)=((5 * it n a + 1) % (mask + 1),0)
  rw[Nat.zero_div,Nat.add_zero,Nat.mul_comm 5];congr 1;rw[Nat.add_mod,Nat.mul_mod,Nat.mod_mod,<-Nat.mul_mod,<-Nat.add_mod]
theorem yL(mask:Nat)(p:Nat × Nat)(n:Nat)(hp:p.1<=mask):(lp mask p n).1<=mask:=by
 cases n with
 | zero=>exact hp
 | succ n=>exact Nat.le_of_lt_succ (Nat.mod_lt _ (Nat.succ_pos _))
theorem vM(h:Int):SetTable.bits h < 2 ^ 64:=by
 unfold SetTable.bits;have h1:=Int.emod_nonneg h (b:=2 ^ 64) (by decide);have h2:=Int.emod_lt_of_pos h (b:=2 ^ 64) (by decide)
 lia
theorem A6{k:Nat}(hk:mask + 1=2 ^ k)(p:Nat × Nat)(h1:p.1<=mask)(h2:p.2 < 2 ^ 64)(b:Nat)(hb:b<=mask):∃ n,n < mask + 15/\(lp mask p n).1=b:=by
 have e:lp mask p 13=((lp mask p 13).1,0):=by
  have:(lp mask p 13).2=0:=by rw[Et]; exact Nat.div_eq_of_lt (kU h2 (by decide))
  rw[<-this]
 obtain⟨n,J,I⟩:=Ef k (lp mask p 13).1 b;refine⟨13 + n,by lia,?_⟩;rw[Fe,e,Dh _ _ (yL _ _ _ h1),hk,I,<-hk];exact Nat.mod_eq_of_lt (by lia)
def yU(mask:Nat)(p:SetTable.Probe):SetTable.Probe:=
 if p.more > 0 then { p with j:=p.j + 1,more:=p.more - 1 } else
 { p with j:=(SetTable.leap mask p.i p.perturb).1,more:=SetTable.runEnd mask (SetTable.leap mask p.i p.perturb).1 - (SetTable.leap mask p.i p.perturb).1,i:=(SetTable.leap mask p.i p.perturb).1,perturb:=(SetTable.leap mask p.i p.perturb).2 }
def way(mask:Nat)(p:SetTable.Probe):Nat->SetTable.Probe
 | 0=>p
 | n + 1=>yU mask (way mask p n)
theorem pH(mask:Nat)(p:SetTable.Probe)(m n:Nat):way mask p (m + n)=way mask (way mask p m) n:=by
 induction n with
 | zero=>rfl
 | succ n I=>show yU mask (way mask p (m + n))=_; rw[I]; rfl
def gQ(mask:Nat)(q:Nat × Nat):SetTable.Probe:={ j:=q.1,more:=SetTable.runEnd mask q.1 - q.1,i:=q.1,perturb:=q.2,dummy:=none }
theorem vy(mask i:Nat):SetTable.runEnd mask i - i<=9:=by unfold SetTable.runEnd; split <;> lia
theorem pV(mask:Nat)(q:Nat × Nat):∀ c,c<=SetTable.runEnd mask q.1 - q.1->way mask (gQ mask q) c={ gQ mask q with j:=q.1 + c,more:=SetTable.runEnd mask q.1 - q.1 - c }
 | 0,_=>rfl
 | c + 1,h=>by
  show yU mask (way mask (gQ mask q) c)=_;rw[pV mask q c (by lia)];unfold yU;rw[if_pos (by show _ - c > 0; lia)];rfl
theorem sR(mask:Nat)(q:Nat × Nat):way mask (gQ mask q) (SetTable.runEnd mask q.1 - q.1 + 1)=gQ mask (SetTable.leap mask q.1 q.2):=by
 show yU mask (way mask (gQ mask q) _)=_;rw[pV mask q _ (bH _)];unfold yU;rw[if_neg (by show ¬ (_ - _ > 0); lia)];rfl
theorem Am(mask:Nat)(q:Nat × Nat):∀ L,∃ n,n<=10 * L/\way mask (gQ mask q) n=gQ mask (lp mask q L)
 | 0=>⟨0,bH _,rfl⟩
 | L + 1=>by
  obtain⟨n,h1,h2⟩:=Am mask q L;have:=vy mask (lp mask q L).1;exact⟨n + (SetTable.runEnd mask (lp mask q L).1 - (lp mask q L).1 + 1),by lia,by rw[pH,h2,sR]; rfl⟩
theorem Cw{k:Nat}(hk:mask + 1=2 ^ k)(h:Int)(b:Nat)(hb:b<=mask):∃ n,n < 10 * (mask + 15)/\(way mask (gQ mask (SetTable.bits h % (mask + 1),SetTable.bits h)) n).j=b:=by
 obtain⟨L,l1,l2⟩:=A6 hk (SetTable.bits h % (mask + 1),SetTable.bits h) (Nat.le_of_lt_succ (Nat.mod_lt _ (Nat.succ_pos _))) (vM h) b hb;obtain⟨n,n1,n2⟩:=Am mask (SetTable.bits h % (mask + 1),SetTable.bits h) L;exact⟨n,by lia,by rw[n2]; exact l2⟩
theorem oK{mask:Nat}{q:Nat × Nat}:∀ n,(way mask (gQ mask q) n).dummy=none
 | 0=>rfl
 | n + 1=>by
  show (yU mask (way mask (gQ mask q) n)).dummy=none;have:=oK (mask:=mask) (q:=q) n;unfold yU;split <;> exact this
theorem y6(hr:xs.toList.Pairwise (· < ·))(j:Nat):∀ (fuel lo hi:Nat),hi - lo<=fuel->lo<=hi->hi<=xs.size->(∀ i v,xs[i]?=some v->i < lo->v < j)->(∀ i v,xs[i]?=some v->hi<=i->j<=v)->
  SetTable.below.go xs j fuel lo hi<=xs.size/\(∀ i v,xs[i]?=some v->i < SetTable.below.go xs j fuel lo hi->v < j)/\(∀ i v,xs[i]?=some v->SetTable.below.go xs j fuel lo hi<=i->j<=v):=by
 have mono:∀ {i k v u:Nat},i < k->xs[i]?=some v->xs[k]?=some u->v < u:=fun {i k v u} h b V=>by
  rw[<-iI]at b V;obtain⟨l1,b⟩:=dJ.mp b;obtain⟨l2,V⟩:=dJ.mp V;have:=FY.mp hr i k l1 l2 h
  lia
 intro fuel
 induction fuel with
 | zero=>
  intro lo hi h1 h2 I J O;have e:lo=hi:=by lia
  subst e;exact⟨I,J,O⟩
 | succ fuel c=>
  intro lo hi h1 h2 I J O;unfold SetTable.below.go;by_cases f:lo < hi
  ·rw[if_pos f];dsimp only;have d:(lo + hi) / 2 < xs.size:=by lia
   have U:xs[(lo + hi) / 2]?=some xs[(lo + hi) / 2]:=iG d;have g:xs.getD ((lo + hi) / 2) j=xs[(lo + hi) / 2]:=by simp[Array.getD,d]
   rw[g];by_cases Z:xs[(lo + hi) / 2] < j
   ·rw[if_pos Z];refine c _ _ (by lia) (by lia) I (fun i v e a=>?_) O;rcases Nat.lt_or_ge i ((lo + hi) / 2) with h | h
    ·have:=mono h e U; lia
    ·have:i=(lo + hi) / 2:=by lia
     subst this;rw[U]at e;cases e;exact Z
   ·rw[if_neg Z];refine c _ _ (by lia) (by lia) (by lia) J (fun i v e a=>?_);rcases Nat.lt_or_ge ((lo + hi) / 2) i with h | h
    ·have:=mono h U e; lia
    ·have:i=(lo + hi) / 2:=by lia
     subst this;rw[U]at e;cases e
     lia
  ·rw[if_neg f];have e:lo=hi:=by lia
   subst e;exact⟨I,J,O⟩
theorem iS(hr:xs.toList.Pairwise (· < ·))(j:Nat):SetTable.below xs j<=xs.size/\(∀ i v,xs[i]?=some v->i < SetTable.below xs j->v < j)/\(∀ i v,xs[i]?=some v->SetTable.below xs j<=i->j<=v):=
 y6 hr j xs.size 0 xs.size (by lia) (dI _) (bH _) (fun _ _ _ h=>absurd h (Nat.not_lt_zero _)) fun i v e h=>by
  obtain⟨l,_⟩:=zz.mp e
  lia
theorem below_at(hr:xs.toList.Pairwise (· < ·))(h:xs[i]?=some j):SetTable.below xs j=i:=by
 obtain⟨h1,h2,J⟩:=iS hr j;rcases Nat.lt_trichotomy (SetTable.below xs j) i with c | c | c
 ·obtain⟨l,_⟩:=zz.mp h;have I:xs[SetTable.below xs j]?=some xs[SetTable.below xs j]:=iG (by lia);have a:=J _ _ I (bH _);have b:xs[SetTable.below xs j] < j:=by
   rw[<-iI]at I h;obtain⟨l1,O⟩:=dJ.mp I;obtain⟨l2,U⟩:=dJ.mp h;have:=FY.mp hr _ _ l1 l2 c
   lia
  lia
 ·exact c
 ·have:=h2 i j h c; lia
theorem kW{α:Type}{xs:Array α}{p:Nat}(x:α)(hp:p<=xs.size)(i:Nat):(SetTable.insertAt xs p x)[i]?=if i < p then xs[i]? else if i=p then some x else xs[i - 1]?:=by
 rw[<-iI,SetTable.toList_insertAt];have I:(xs.toList.take p).length=p:=by rw[gx,dY]; lia
 by_cases h:i < p
 ·rw[if_pos h,xB (by lia),List.getElem?_take,if_pos h,iI]
 ·rw[if_neg h,ue (by lia),I];by_cases h2:i=p
  ·subst h2; rw[if_pos rfl,Nat.sub_self]; rfl
  ·rw[if_neg h2];obtain⟨c,rfl⟩:∃ c,i=p + 1 + c:=⟨i - p - 1,by lia⟩
   rw[show p + 1 + c - p=c + 1 by lia,List.getElem?_cons_succ,Ee,iI];congr 1
   lia
theorem gS{α:Type}(xs:Array α)(p:Nat)(x:α):(SetTable.insertAt xs p x).size=xs.size + 1:=by
 have:=(SetTable.insertAt_perm xs p x).length_eq;rw[dY,dY,Array.size_push]at this;exact this
theorem IE{α:Type}[DecidableEq α]:∀ {l1 l2:List α},l1.Nodup->(∀ x∈l1,x∈l2)->l1.length<=l2.length
 | [],_,_,_=>dI _
 | a::l1,l2,hn,hs=>by
  have ha:=hs a (.head _);have I:=vT.mp hn;have:=IE (l1:=l1) (l2:=l2.erase a) I.2 fun x J=>(List.mem_erase_of_ne (show x≠a from fun e=>I.1 (e ▸ J))).mpr (hs x (.tail _ J))
  rw[List.length_erase_of_mem ha]at this;have:=List.length_pos_of_mem ha;simp only[jU]
  lia
def st(mask:Nat)(h:Int):SetTable.Probe:=gQ mask (SetTable.bits h % (mask + 1),SetTable.bits h)
theorem Fn{p:SetTable.Probe}(h:p.j + p.more<=mask):(yU mask p).j + (yU mask p).more<=mask:=by
 unfold yU;split
 ·show p.j + 1 + (p.more - 1)<=mask; lia
 ·have:(SetTable.leap mask p.i p.perturb).1<=mask:=Nat.le_of_lt_succ (Nat.mod_lt _ (Nat.succ_pos _));generalize (SetTable.leap mask p.i p.perturb).1=i at this;show i + (SetTable.runEnd mask i - i)<=mask;unfold SetTable.runEnd;split <;> lia
theorem Ba(mask:Nat)(h:Int):∀ n,(way mask (st mask h) n).j + (way mask (st mask h) n).more<=mask
 | 0=>by
  have:SetTable.bits h % (mask + 1)<=mask:=Nat.le_of_lt_succ (Nat.mod_lt _ (Nat.succ_pos _));show SetTable.bits h % (mask + 1) + (SetTable.runEnd mask (SetTable.bits h % (mask + 1)) - SetTable.bits h % (mask + 1))<=mask;generalize SetTable.bits h % (mask + 1)=i at this;unfold SetTable.runEnd;split <;> lia
 | n + 1=>Fn (Ba mask h n)
def uh(mask:Nat)(pl:List Nat)(h:Int)(j:Nat):Prop:=∃ n,n < 10 * (mask + 15)/\(way mask (st mask h) n).j=j/\∀ m,m < n->(way mask (st mask h) m).j∈pl
theorem uh.mono{pl':List Nat}(r:uh mask pl h j)(s:∀ x∈pl,x∈pl'):uh mask pl' h j:=let ⟨n,a,b,c⟩:=r; ⟨n,a,b,fun m I=>s _ (c m I)⟩
theorem least{P:Nat->Prop}:∀ n,P n->∃ k,k<=n/\P k/\∀ m,m < k->¬ P m:=fun n=>by
 induction n using Nat.strongRecOn with
 | ind n U=>
  intro h;by_cases I:∃ m,m < n/\P m
  ·obtain⟨m,h1,h2⟩:=I;obtain⟨k,a,b,c⟩:=U m h1 h2;exact⟨k,by lia,b,c⟩
  ·exact⟨n,bH _,h,fun m O J=>I ⟨m,O,J⟩⟩
theorem sL{k:Nat}(hk:mask + 1=2 ^ k)(hl:pl.length<=mask)(h:Int):∃ j,uh mask pl h j/\j∉pl/\j<=mask:=by
 have:∃ b,b<=mask/\b∉pl:=Bx fun Z=>by
  have:=IE (l1:=List.range (mask + 1)) (l2:=pl) List.nodup_range fun x O=>Bx fun I=>Z ⟨x,by have:=tT.mp O; lia,I⟩
  rw[kY]at this
  lia
 obtain⟨b,J,I⟩:=this;obtain⟨n,h1,h2⟩:=Cw hk h b J;obtain⟨N,c,V,a⟩:=least (P:=fun n=>(way mask (st mask h) n).j∉pl) n (by show (way mask (gQ mask _) n).j∉pl; rw[h2]; exact I);exact⟨_,⟨N,by lia,rfl,fun m U=>Bx (a m U)⟩,V,by have:=Ba mask h N; lia⟩
structure kR (es:Array (Int × Value)) (t:SetTable):Prop where
 dum:t.dummies=#[]
 pow:∃ k,t.mask + 1=2 ^ k/\3<=k
 size:t.place.size=es.size
 rise:t.place.toList.Pairwise (· < ·)
 le:∀ j∈t.place.toList,j<=t.mask
 room:es.size<=t.mask
 reach:∀ (i:Nat) (e:Int × Value) (j:Nat),es[i]?=some e->t.place[i]?=some j->uh t.mask t.place.toList e.1 j
section
variable {t:SetTable}
theorem kR.live(h:kR es t)(e:t.place[i]?=some j):t.slot j=.live i:=by
 unfold SetTable.slot;rw[below_at h.rise e];dsimp only;rw[e,if_pos (D0 _)]
theorem kR.empty(h:kR es t)(e:j∉t.place.toList):t.slot j=.empty:=by
 unfold SetTable.slot;dsimp only;have I:(t.place[SetTable.below t.place j]? == some j)=false:=by
  rw[BE];intro z;rw[<-iI]at z;exact e (oY z)
 rw[I,if_neg eN];unfold SetTable.has;rw[h.dum,if_neg (by simp)]
theorem kR.odd(h:kR es t):t.gaveWay=false:=by
 obtain⟨k,h1,h2⟩:=h.pow;obtain⟨c,rfl⟩:∃ c,k=c + 1:=⟨k - 1,by lia⟩
 rw[Nat.pow_succ]at h1;unfold SetTable.gaveWay;rw[BE]
 lia
theorem kR.fits(h:kR es t):t.fits es.size=true:=by
 unfold SetTable.fits SetTable.fill;rw[h.dum,h.size];simp;exact h.room
theorem kR.mem(h:kR es t)(hj:j∈t.place.toList):∃ (i:Nat) (e:Int × Value),t.place[i]?=some j/\es[i]?=some e:=by
 obtain⟨i,hi⟩:=BQ.mp hj;rw[iI]at hi;obtain⟨l,_⟩:=zz.mp hi;exact⟨i,es[i]'(by rw[<-h.size]; exact l),hi,iG _⟩
theorem kR.put(h:kR es t){hs:Int}(x:Value)(hr:uh t.mask t.place.toList hs j)(hj:j∉t.place.toList)(hm:j<=t.mask)(hroom:es.size + 1<=t.mask)(pln:Bool) :
  kR (SetTable.insertAt es (t.put j).2 (hs,x)) { (t.put j).1 with plain:=pln }:=by
 obtain⟨g,k,l⟩:=iS h.rise j;have f:(t.put j).2=SetTable.below t.place j:=rfl;have V:(t.put j).1.place=SetTable.insertAt t.place (SetTable.below t.place j) j:=rfl;have m:(t.put j).1.dummies=#[]:=by
  show (if SetTable.has t.dummies j then _ else t.dummies)=#[];unfold SetTable.has;rw[h.dum,if_neg (by simp)]
 have U:∀ y∈t.place.toList,y∈(SetTable.insertAt t.place (SetTable.below t.place j) j).toList:=fun y I=>by
  rw[(SetTable.insertAt_perm _ _ _).mem_iff,Ep];exact uj _ I
 refine⟨m,h.pow,by show (t.put j).1.place.size=_; rw[V,f,gS,gS,h.size],?_,?_,by rw[gS]; exact hroom,?_⟩
 ·show (t.put j).1.place.toList.Pairwise _;rw[V,SetTable.toList_insertAt];have tk:∀ a∈t.place.toList.take (SetTable.below t.place j),a < j:=fun a O=>by
   obtain⟨i,hi⟩:=BQ.mp O;rw[List.getElem?_take]at hi;by_cases c:i < SetTable.below t.place j
   ·rw[if_pos c,iI]at hi; exact k i a hi c
   ·rw[if_neg c]at hi; cases hi
  have dr:∀ a∈t.place.toList.drop (SetTable.below t.place j),j < a:=fun a O=>by
   have n:a≠j:=fun e=>hj (e ▸ List.mem_of_mem_drop O)
   obtain⟨i,hi⟩:=BQ.mp O;rw[Ee,iI]at hi;have:=l _ a hi (by lia)
   lia
  refine xo.mpr ⟨h.rise.sublist (List.take_sublist _ _),CQ.mpr ⟨dr,h.rise.sublist (List.drop_sublist _ _)⟩,fun a O b Z=>?_⟩;have:=tk a O;rcases d0.mp Z with rfl | Z
  ·exact this
  ·have:=dr b Z; lia
 ·intro y I;have I:y∈(SetTable.insertAt t.place (SetTable.below t.place j) j).toList:=I;rw[(SetTable.insertAt_perm _ _ _).mem_iff,Ep]at I;rcases fY.mp I with I | I
  ·exact h.le y I
  ·rw[fS.mp I]; exact hm
 ·intro i e y J I;have I:(SetTable.insertAt t.place (SetTable.below t.place j) j)[i]?=some y:=I;rw[f,kW _ (by rw[<-h.size]; exact g)]at J;rw[kW _ g]at I;show uh t.mask (SetTable.insertAt t.place (SetTable.below t.place j) j).toList e.1 y;refine uh.mono ?_ U;by_cases c:i < SetTable.below t.place j
  ·rw[if_pos c]at J I; exact h.reach i e y J I
  ·rw[if_neg c]at J I;by_cases d:i=SetTable.below t.place j
   ·rw[if_pos d]at J I;cases J;cases I;exact hr
   ·rw[if_neg d]at J I; exact h.reach _ e y J I
end
structure OW (mask:Nat) (hs:List Int) (owner:Array (Option Nat)) (js:List Nat):Prop where
 size:owner.size=mask + 1
 own:∀ j q:Nat,owner[j]?=some (some q)↔js[q]?=some j
 le:∀ j∈js,j<=mask
 len:js.length=hs.length
 nodup:js.Nodup
 reach:∀ (q:Nat) (h:Int) (j:Nat),hs[q]?=some h->js[q]?=some j->uh mask js h j
section
variable {hs:List Int}{owner:Array (Option Nat)}{js:List Nat}
theorem OW.taken(w:OW mask hs owner js)(hj:j<=mask):(owner.getD j (some 0)).isNone=decide (j∉js):=by
 have O:j < owner.size:=by rw[w.size]; lia
 have e:owner.getD j (some 0)=owner[j]:=by simp[Array.getD,O]
 have I:owner[j]?=some owner[j]:=iG O;rw[e];cases U:owner[j] with
 | none=>
  rw[U]at I;have V:j∉js:=fun J=>by
   obtain⟨q,Z⟩:=BQ.mp J;have:=(w.own j q).mpr Z;rw[I]at this;cases this
  rw[gp V]; rfl
 | some q=>
  rw[U]at I;rw[iK fun J:j∉js=>J (oY ((w.own j q).mp I))]; rfl
theorem OW.free(w:OW mask hs owner js)(h:Int):∀ (fuel L n:Nat),n<=10 * L->way mask (st mask h) n=gQ mask (lp mask (SetTable.bits h % (mask + 1),SetTable.bits h) L)->(∀ m,m < n->(way mask (st mask h) m).j∈js)->L + fuel=mask + 15->
  (∃ L',L<=L'/\L' < mask + 15/\(lp mask (SetTable.bits h % (mask + 1),SetTable.bits h) L').1∉js)->
  ∃ j,SetTable.layClean.free mask owner fuel (lp mask (SetTable.bits h % (mask + 1),SetTable.bits h) L).1 (lp mask (SetTable.bits h % (mask + 1),SetTable.bits h) L).2=some j/\uh mask js h j/\j∉js/\j<=mask:=by
 intro fuel
 induction fuel with
 | zero=>intro L n _ _ _ p ⟨L',a,b,_⟩; lia
 | succ fuel v=>
  intro L n x U V p t;unfold SetTable.layClean.free;have r:(lp mask (SetTable.bits h % (mask + 1),SetTable.bits h) L).1<=mask:=yL _ _ _ (Nat.le_of_lt_succ (Nat.mod_lt _ (Nat.succ_pos _)));have I:lp mask (SetTable.bits h % (mask + 1),SetTable.bits h) (L + 1)=SetTable.leap mask (lp mask (SetTable.bits h % (mask + 1),SetTable.bits h) L).1 (lp mask (SetTable.bits h % (mask + 1),SetTable.bits h) L).2:=rfl;have J:∃ L',L<=L'/\L' < mask + 15/\(lp mask (SetTable.bits h % (mask + 1),SetTable.bits h) L').1∉js:=t;generalize hq:lp mask (SetTable.bits h % (mask + 1),SetTable.bits h) L=q at *;have u:=vy mask q.1;have e:SetTable.runEnd mask q.1<=mask/\q.1<=SetTable.runEnd mask q.1:=by unfold SetTable.runEnd; split <;> lia
  have hpos:∀ c,c<=SetTable.runEnd mask q.1 - q.1->(way mask (st mask h) (n + c)).j=q.1 + c:=fun c o=>by rw[pH,U,pV mask q c o]
  cases O:(List.range (SetTable.runEnd mask q.1 + 1 - q.1)).find? fun k=>(owner.getD (q.1 + k) (some 0)).isNone with
  | some k=>
   obtain⟨Z,g,i⟩:=List.find?_range_eq_some.mp O;have y:=tT.mp g;rw[w.taken (by lia)]at Z;refine⟨q.1 + k,rfl,⟨n + k,by lia,hpos k (by lia),fun m l=>?_⟩,jV Z,by lia⟩;rcases Nat.lt_or_ge m n with c | c
   ·exact V m c
   ·obtain⟨d,rfl⟩:∃ d,m=n + d:=⟨m - n,by lia⟩
    rw[hpos d (by lia)];have:=i d (by lia);rw[w.taken (by lia)]at this;exact Bx fun z=>by rw[gp z]at this; cases this
  | none=>
   have f:=List.find?_range_eq_none.mp O;have tk:∀ d,d<=SetTable.runEnd mask q.1 - q.1->q.1 + d∈js:=fun d A=>by
    have:=f d (by lia);rw[w.taken (by lia)]at this;exact Bx fun z=>by rw[gp z]at this; cases this
   show ∃ j,SetTable.layClean.free mask owner fuel (SetTable.leap mask q.1 q.2).1 (SetTable.leap mask q.1 q.2).2=some j/\_;rw[<-I];obtain⟨L',a,b,c⟩:=J;have s:L'≠L:=fun z=>by subst z; rw[hq]at c; exact c (tk 0 (dI _))
   refine v (L + 1) (n + (SetTable.runEnd mask q.1 - q.1 + 1)) (by lia) (by rw[pH,U,sR,I]) (fun m l=>?_) (by lia) ⟨L',by lia,b,c⟩;rcases Nat.lt_or_ge m n with c | c
   ·exact V m c
   ·obtain⟨d,rfl⟩:∃ d,m=n + d:=⟨m - n,by lia⟩
    rw[hpos d (by lia)];exact tk d (by lia)
theorem OW.next(w:OW mask hs owner js){k:Nat}(hk:mask + 1=2 ^ k)(hl:js.length<=mask)(h:Int):∃ j,SetTable.layClean.free mask owner (SetTable.turns mask) (SetTable.bits h % (mask + 1)) (SetTable.bits h)=some j/\uh mask js h j/\j∉js/\j<=mask:=by
 obtain⟨b,_,O,J⟩:=sL hk hl h;obtain⟨L,l1,l2⟩:=A6 hk (SetTable.bits h % (mask + 1),SetTable.bits h) (Nat.le_of_lt_succ (Nat.mod_lt _ (Nat.succ_pos _))) (vM h) b J;exact w.free h (SetTable.turns mask) 0 0 (bH _) rfl (fun m I=>absurd I (Nat.not_lt_zero _)) (Nat.zero_add _) ⟨L,dI _,l1,by rw[l2]; exact O⟩
theorem OW.add(w:OW mask hs owner js)(r:uh mask js h j)(hj:j∉js)(hm:j<=mask):OW mask (hs++[h]) (owner.setIfInBounds j (some js.length)) (js++[j]):=by
 have sub:∀ x∈js,x∈js++[j]:=fun x I=>uj _ I
 have at_:∀ (q x:Nat),(js++[j])[q]?=some x↔js[q]?=some x\/(q=js.length/\x=j):=fun q x=>by
  rcases Nat.lt_trichotomy q js.length with c | c | c
  ·rw[xB c];exact⟨.inl,fun z=>z.elim id fun ⟨e,_⟩=>by lia⟩
  ·subst c;rw[ue (bH _),Nat.sub_self];show some j=some x↔_;rw[yD (bH _)];exact⟨fun e=>.inr ⟨rfl,(pL e).symm⟩,fun z=>z.elim (fun z=>nomatch z) fun ⟨_,e⟩=>by rw[e]⟩
  ·rw[yD (by rw[dE]; show js.length + 1<=q; lia),yD (by lia)];exact⟨fun z=>(nomatch z),fun z=>z.elim (fun z=>nomatch z) fun ⟨e,_⟩=>by lia⟩
 refine⟨by rw[Array.size_setIfInBounds]; exact w.size,fun x q=>?_,fun x I=>?_,by rw[dE,dE,w.len]; rfl,?_,fun q h' x J O=>?_⟩
 ·rw[Array.getElem?_setIfInBounds,at_];by_cases c:j=x
  ·subst c;rw[if_pos rfl,if_pos (by rw[w.size]; lia)];constructor
   ·intro e;exact .inr ⟨by cases e; rfl,rfl⟩
   ·rintro (e | ⟨rfl,_⟩)
    ·exact absurd (oY e) hj
    ·rfl
  ·rw[if_neg c,w.own];exact⟨.inl,fun z=>z.elim id fun ⟨_,e⟩=>absurd e.symm c⟩
 ·rcases fY.mp I with I | I
  ·exact w.le x I
  ·rw[fS.mp I]; exact hm
 ·exact List.nodup_append.mpr ⟨w.nodup,vT.mpr ⟨gh,List.nodup_nil⟩,fun a V b U=>by rw[fS.mp U]; exact fun e=>hj (e ▸ V)⟩
 ·refine uh.mono ?_ sub;rcases (at_ q x).mp O with O | ⟨rfl,rfl⟩
  ·obtain⟨l,_⟩:=dJ.mp O;rw[xB (by rw[<-w.len]; exact l)]at J;exact w.reach q h' x J O
  ·rw[w.len,ue (bH _),Nat.sub_self]at J;cases J;exact r
end
def w4(mask:Nat):Option (Array (Option Nat) × Nat)->Int->Option (Array (Option Nat) × Nat):=fun acc h=>do
  let (owner,k) <-acc
  let j <-SetTable.layClean.free mask owner (SetTable.turns mask) (SetTable.bits h % (mask + 1)) (SetTable.bits h)
  pure (owner.setIfInBounds j (some k),k + 1)
theorem r9(mask:Nat)(hashes:Array Int):SetTable.layClean mask hashes=(hashes.toList.foldl (w4 mask) (some (Array.replicate (mask + 1) none,0))).map (·.1):=by
 rw[Array.foldl_toList]; rfl
theorem wZ{mask k:Nat}(hk:mask + 1=2 ^ k):∀ (rest:List Int) {hs:List Int} {owner:Array (Option Nat)} {js:List Nat},OW mask hs owner js->hs.length + rest.length<=mask->
  ∃ owner' js',rest.foldl (w4 mask) (some (owner,js.length))=some (owner',js'.length)/\OW mask (hs++rest) owner' js'
 | [],hs,owner,js,w,_=>⟨owner,js,rfl,by rw[jL]; exact w⟩
 | h::rest,hs,owner,js,w,hl=>by
  simp only[jU]at hl;obtain⟨j,e,r,n1,n2⟩:=w.next hk (by rw[w.len]; lia) h;obtain⟨o',js',I,J⟩:=wZ hk rest (w.add r n1 n2) (by rw[dE]; show hs.length + 1 + rest.length<=mask; lia);refine⟨o',js',?_,by rw[iD]at J; exact J⟩;rw[DQ];have:w4 mask (some (owner,js.length)) h=some (owner.setIfInBounds j (some js.length),js.length + 1):=by
   unfold w4;show (SetTable.layClean.free mask owner (SetTable.turns mask) (SetTable.bits h % (mask + 1)) (SetTable.bits h) >>= fun j=>some (owner.setIfInBounds j (some js.length),js.length + 1))=_;rw[e]; rfl
  rw[this];rw[dE]at I;exact I
theorem AU{k:Nat}(hk:mask + 1=2 ^ k)(hashes:Array Int)(hl:hashes.size<=mask):∃ owner js,SetTable.layClean mask hashes=some owner/\OW mask hashes.toList owner js:=by
 have I:OW mask [] (Array.replicate (mask + 1) none) []:=by
  refine⟨Array.size_replicate,fun j q=>?_,fun _ h=>absurd h gh,rfl,List.nodup_nil,fun q h j e=>by cases e⟩;rw[Array.getElem?_replicate];constructor
  ·intro e; split at e <;> cases e
  ·intro e; cases e
 obtain⟨o,js,e,w⟩:=wZ hk hashes.toList I (by show 0 + hashes.toList.length<=mask; rw[dY]; lia);exact⟨o,js,by rw[r9]; rw[show (some (Array.replicate (mask + 1) none,0):Option (Array (Option Nat) × Nat))=some (Array.replicate (mask + 1) none,([]:List Nat).length) from rfl,e]; rfl,w⟩
theorem Gj{α:Type}[DecidableEq α]:∀ {l1 l2:List α},l1.Nodup->(∀ x∈l1,x∈l2)->l2.length<=l1.length->l1.Perm l2
 | [],[],_,_,_=>.nil
 | [],_::_,_,_,h=>by simp at h
 | a::l1,l2,hn,hs,hl=>by
  have ha:=hs a (.head _);have I:=vT.mp hn;have:=Gj (l1:=l1) (l2:=l2.erase a) I.2 (fun x J=>(List.mem_erase_of_ne (show x≠a from fun e=>I.1 (e ▸ J))).mpr (hs x (.tail _ J))) (by rw[List.length_erase_of_mem ha]; simp only[jU]at hl; omega);exact (this.cons a).trans (List.perm_cons_erase ha).symm
theorem Bl{k:Nat}(hk:mask + 1=2 ^ k)(h3:3<=k)(hl:es.size<=mask)(finger moves:Nat)(led plain:Bool) :
  ∃ t order,SetTable.laid mask finger moves led plain (es.map (·.1))=some (t,order)/\t.led=led/\t.mask=mask/\(order.filterMap (es[·]?)).toList.Perm es.toList/\kR (order.filterMap (es[·]?)) t:=by
 obtain⟨owner,js,e,w⟩:=AU hk (es.map (·.1)) (by rw[Array.size_map]; exact hl);have U:js.length=es.size:=by rw[w.len,dY,Array.size_map]
 unfold SetTable.laid;rw[e];generalize hlive:((List.range (mask + 1)).filterMap fun j=>(owner.getD j none).map (j,·))=live;have mem:∀ (j q:Nat),(j,q)∈live↔js[q]?=some j:=fun j q=>by
  rw[<-hlive,List.mem_filterMap,<-w.own];constructor
  ·rintro⟨d,hj',f⟩
   have B:=tT.mp hj';have V:d < owner.size:=by rw[w.size]; exact B
   have y:owner.getD d none=owner[d]:=by simp[Array.getD,V]
   rw[y]at f;cases h:owner[d] with
   | none=>rw[h]at f; cases f
   | some C=>
    rw[h]at f;cases f;rw[iG V,h]
  ·intro h;obtain⟨V,h⟩:=zz.mp h;refine⟨j,tT.mpr (by rw[<-w.size]; exact V),?_⟩;have y:owner.getD j none=owner[j]:=by simp[Array.getD,V]
   rw[y,h]; rfl
 have Z:live.Pairwise fun p q=>p.1 < q.1:=by
  rw[<-hlive];refine List.Pairwise.filterMap _ (fun a N u b r R c=>?_) List.pairwise_lt_range;cases h1:owner.getD a none with
  | none=>rw[h1]at r; cases r
  | some q=>
   rw[h1]at r;cases h2:owner.getD N none with
   | none=>rw[h2]at c; cases c
   | some C=>
    rw[h2]at c;cases r;cases c;exact u
 have m:∀ x∈js,x∈live.map (·.1):=fun x M=>by
  obtain⟨q,o⟩:=BQ.mp M;exact eW.mpr ⟨(x,q),(mem x q).mpr o,rfl⟩
 have O:js.length<=(live.map (·.1)).length:=IE w.nodup m;have n:(live.map (·.2)).Perm (List.range es.size):=by
  refine Gj ?_ (fun q o=>?_) (by rw[kY,<-U]; simpa using O)
  ·rw[List.nodup_iff_pairwise_ne,List.pairwise_map];refine Z.imp_of_mem fun {a b} G r A z=>?_
   obtain⟨H,D⟩:=a;obtain⟨L,F⟩:=b;cases (show D=F from z);have:=((mem H D).mp G).symm.trans ((mem L D).mp r);cases this;exact absurd A (Al _)
  ·obtain⟨⟨j,C⟩,J,rfl⟩:=eW.mp o;obtain⟨l,_⟩:=dJ.mp ((mem j C).mp J);exact tT.mpr (by rw[<-U]; exact l)
 have I:((live.map (·.2)).toArray.filterMap (es[·]?)).toList.Perm es.toList:=by
  rw[Array.toList_filterMap];exact (n.filterMap _).trans (by rw[filterMap_getElem?_range])
 have g:((live.map (·.2)).toArray.filterMap (es[·]?)).size=es.size:=by rw[<-dY,I.length_eq,dY]
 have s:live.length=es.size:=by have:=n.length_eq; rw[bL,kY]at this; exact this
 have get:∀ (i:Nat),((live.map (·.2)).toArray.filterMap (es[·]?))[i]?=live[i]?.bind fun p=>es[p.2]?:=by
  intro i;rw[<-iI,Array.toList_filterMap];show ((live.map (·.2)).filterMap (es[·]?))[i]?=_;rw[List.filterMap_map];have all:∀ p∈live,(es[p.2]?).isSome=true:=fun p J=>by
   obtain⟨l,_⟩:=dJ.mp ((mem p.1 p.2).mp J);rw[iG (by rw[<-U]; exact l)]; rfl
  clear hlive mem Z m O n I g s
  induction live generalizing i with
  | nil=>rfl
  | cons p live Q=>
   cases J:es[p.2]? with
   | none=>have:=all p (.head _); rw[J]at this; cases this
   | some v=>
    rw[List.filterMap_cons_some (b:=v) (show ((fun x=>es[x]?) ∘ fun x:Nat × Nat=>x.2) p=some v from J)];cases i with
    | zero=>show some v=es[p.2]?; rw[J]
    | succ i=>exact Q i fun q o=>all q (.tail _ o)
 refine⟨{ mask,place:=(live.map (·.1)).toArray,dummies:=#[],finger,led,moves,plain },(live.map (·.2)).toArray,by rw[<-hlive]; rfl,rfl,rfl,I,⟨rfl,⟨k,hk,h3⟩,?_,?_,?_,?_,?_⟩⟩
 ·show (live.map (·.1)).toArray.size=_;rw[g,ff,bL,s]
 ·show (live.map (·.1)).Pairwise _;rw[List.pairwise_map]; exact Z
 ·intro j E;have E:j∈live.map (·.1):=E;obtain⟨⟨d,q⟩,J,rfl⟩:=eW.mp E;exact w.le _ (oY ((mem d q).mp J))
 ·show _<=mask;rw[g]; exact hl
 ·intro i f j h1 h2;rw[get]at h1;have h2:(live.map (·.1)).toArray[i]?=some j:=h2;rw[List.getElem?_toArray,g6]at h2;cases J:live[i]? with
  | none=>rw[J]at h1; cases h1
  | some p=>
   obtain⟨d,q⟩:=p;rw[J]at h1 h2;have h1:es[q]?=some f:=h1;cases h2;have o:=(mem d q).mp (oY J);refine uh.mono (w.reach q f.1 d ?_ o) m;rw[iI,Array.getElem?_map,h1]; rfl
end Tb
namespace Tb
open PySem PySem.Spec PyProof.Rows L2
variable {Q:Bool->Shared->Prop}{lev N i:Nat}{A:Around}{E:Value->Shared->Prop}{s:Shared}{b a:Addr}{ks:List D}{prog:Program}{w:World}{es:Array (Int × Value)}{t:SetTable}
def wm{lev:Nat}(knd:cU prog w lev):Prop:=∀ {A:Around} {E:Value->Shared->Prop} {s:Shared} {k:D} {v:Value} {Q:Bool->Shared->Prop} (n:Nat),lev<=n->knd.is s.heap k v->Q false s->wpAny (model prog w) A (ofAClassStatement n v) Q E s
def HE{lev:Nat}(knd:cU prog w lev):Prop:=∀ {A:Around} {E:Value->Shared->Prop} {s:Shared} {k:D} {v:Value} {Q:Bool->Shared->Prop} (n:Nat),knd.is s.heap k v->(∀ b,Q b s)->wpAny (model prog w) A (hashByValue n v) Q E s
theorem mZ:wm (wQ prog w):=fun {A E s k v Q} n _ h q=>by
 rcases flatIs.shape h with ⟨i,t,rfl,rfl⟩ | ⟨i,t,rfl,rfl⟩ <;> (unfold ofAClassStatement; exact aO q)
theorem tD:HE (wQ prog w):=fun {A E s k v Q} n h q=>by
 rcases flatIs.shape h with ⟨i,t,rfl,rfl⟩ | ⟨i,t,rfl,rfl⟩ <;> (unfold hashByValue; exact aO (q _))
theorem nU{knd:cU prog w lev}(hk:wm knd)(n:Nat)(hn:lev<=n)(h:cv knd s.heap ks a)(q:Q false s):wpAny (model prog w) A (ofAClassStatement (n + 1) (.ref a)) Q E s:=by
 have U:=h.typeIs;obtain⟨o,items,n',O,_,J,hi⟩:=h;unfold ofAClassStatement;refine ar (vi U ?_);show wpAny _ _ ((pure true:Sem Bool) >>= _) _ _ s;refine ar (aO ?_);show wpAny _ _ (seqItems? (.ref a) >>= _) _ _ s;refine ar ?_;unfold seqItems?;refine ar (wpAny_load O ?_);rw[J];refine aO ?_;refine ar ?_;show wpAny _ _ (forIn items _ _) _ _ s;rw[<-Dz];refine wpAny_forIn_list _ (fun rest r s'=>r.1=none/\s'=s/\∃ left,bX knd s.heap left rest) _ ?_ ?_ _ _ ⟨rfl,rfl,_,hi⟩
 ·rintro v rest r s' ⟨hr,rfl,left,hl⟩
  cases hl with
  | @cons k _ ks' _ h1 I=>
   refine ar (hk n hn h1 ?_);simp only[gD,fO];exact aO ⟨rfl,rfl,_,I⟩
 ·rintro⟨r1,r2⟩ s' ⟨hr,rfl,_⟩
  simp only at hr;subst hr;exact aO q
theorem vz{knd:cU prog w lev}(hk:HE knd)(n:Nat)(h:cv knd s.heap ks a)(q:∀ b,Q b s):wpAny (model prog w) A (hashByValue n (.ref a)) Q E s:=by
 cases n with
 | zero=>unfold hashByValue; exact aO (q _)
 | succ n=>
  have U:=h.typeIs;obtain⟨o,items,n',O,_,J,hi⟩:=h;unfold hashByValue;refine ar (Ax U F.slot_tuple_hash.lookup ?_);show wpAny _ _ (seqItems? (.ref a) >>= _) _ _ s;refine ar ?_;unfold seqItems?;refine ar (wpAny_load O ?_);rw[J];refine aO ?_;refine ar ?_;show wpAny _ _ (forIn items _ _) _ _ s;rw[<-Dz];refine wpAny_forIn_list _ (fun rest r s'=>r.1=none/\s'=s/\∃ left,bX knd s.heap left rest) _ ?_ ?_ _ _ ⟨rfl,rfl,_,hi⟩
  ·rintro v rest r s' ⟨hr,rfl,left,hl⟩
   cases hl with
   | @cons k _ ks' _ h1 I=>
    refine ar (hk n h1 fun b=>?_);cases b with
    | true=>
     simp only[BA,gD,fO];exact aO ⟨rfl,rfl,_,I⟩
    | false=>
     simp only[Bool.not_false,if_true];exact aO (aO (q _))
  ·rintro⟨r1,r2⟩ s' ⟨hr,rfl,_⟩
   simp only at hr;subst hr;exact aO (q _)
theorem iX{knd:cU prog w lev}(hk:wm knd):wm (iP knd):=fun {A E s k v Q} n I h q=>by
 rcases h with h | ⟨ds,a,rfl,rfl,h⟩
 ·exact mZ n (dI _) h q
 ·obtain⟨m,rfl⟩:∃ m,n=m + 1:=⟨n - 1,by lia⟩
  exact nU hk m (by lia) h q
theorem mX{knd:cU prog w lev}(hk:HE knd):HE (iP knd):=fun {A E s k v Q} n h q=>by
 rcases h with h | ⟨ds,a,rfl,rfl,h⟩
 ·exact tD n h q
 ·exact vz hk n h q
theorem Aj{k:List D}(h:(aI prog w).is s.heap k b)(q:Q false s):wpAny (model prog w) A (ofAClassStatement 8 (.ref b)) Q E s:=nU (iX (iX (iX mZ))) 7 (by decide) h q
theorem Fu{k:List D}(n:Nat)(h:(aI prog w).is s.heap k b)(q:∀ c,Q c s):wpAny (model prog w) A (hashByValue n (.ref b)) Q E s:=vz (mX (mX (mX tD))) n h q
def El(prog:Program)(w:World)(h:Heap)(k:List D)(e:Int × Value):Prop:=∃ b,e.2=.ref b/\(aI prog w).is h k b/\e.1=(aI prog w).hash k
theorem Ca{k:List D}(hb:(aI prog w).is s.heap k b){l:List Value}(hl:∀ y∈l,∃ k' c,y=.ref c/\(aI prog w).is s.heap k' c)(q:Q false s):wpAny (model prog w) A (searchCouldBeSeen (.ref b) l) Q E s:=by
 unfold searchCouldBeSeen;refine ar ?_;refine wpAny_forIn_list _ (fun rest r s'=>r.1=none/\s'=s/\∀ y∈rest,∃ k' c,y=.ref c/\(aI prog w).is s.heap k' c) _ ?_ ?_ _ _ ⟨rfl,rfl,hl⟩
 ·rintro y rest r s' ⟨hr,rfl,hl⟩
  obtain⟨k',c,rfl,J⟩:=hl y (.head _);have I:∀ y∈rest,∃ k' c,y=.ref c/\(aI prog w).is s'.heap k' c:=fun y U=>hl y (.tail _ U)
  by_cases e:b=c
  ·subst e;simp only[D0,Bool.true_or,if_true];exact aO ⟨rfl,rfl,I⟩
  ·have O:(b == c)=false:=BE.mpr e;simp only[O,Bool.false_or,carriedByValue,Bool.false_and,gD,fO];refine ar ((aI prog w).quiet hb ?_);simp only[BA,gD,fO];refine ar ((aI prog w).quiet J ?_);simp only[BA,gD,fO];refine ar (Aj hb ?_);simp only[gD,fO];refine ar (Aj J ?_);simp only[gD,fO];exact aO ⟨rfl,rfl,I⟩
 ·rintro⟨r1,r2⟩ s' ⟨hr,rfl,_⟩
  simp only at hr;subst hr;exact aO q
theorem FK(T:kR es t)(h:Int)(hN:(way t.mask (st t.mask h) N).j∉t.place.toList)(hb:∀ m,m < N->(way t.mask (st t.mask h) m).j∈t.place.toList) :
  ∀ (d n fuel:Nat),N - n=d->n<=N->d < fuel->
   ((∀ m,n<=m->m < N->∀ (i:Nat) (e:Int × Value),t.place[i]?=some (way t.mask (st t.mask h) m).j->es[i]?=some e->e.1≠h)/\∀ f:Nat->Int,(∀ (i:Nat) (e:Int × Value),es[i]?=some e->f i=e.1)->SetTable.probe.go t f h fuel (way t.mask (st t.mask h) n)=some (.empty (way t.mask (st t.mask h) N).j none))\/
   ∃ (n' i:Nat) (e:Int × Value),n<=n'/\n' < N/\t.place[i]?=some (way t.mask (st t.mask h) n').j/\es[i]?=some e/\e.1=h/\(∀ m,n<=m->m < n'->∀ (i:Nat) (e:Int × Value),t.place[i]?=some (way t.mask (st t.mask h) m).j->es[i]?=some e->e.1≠h)/\
    ∀ f:Nat->Int,(∀ (i:Nat) (e:Int × Value),es[i]?=some e->f i=e.1)->SetTable.probe.go t f h fuel (way t.mask (st t.mask h) n)=some (.candidate (way t.mask (st t.mask h) n').j i (way t.mask (st t.mask h) (n' + 1))):=by
 intro d
 induction d with
 | zero=>
  intro n fuel s p a;have e:n=N:=by lia
  subst e;obtain⟨g,rfl⟩:∃ g,fuel=g + 1:=⟨fuel - 1,by lia⟩
  refine .inl ⟨fun m h1 h2=>by lia,fun f I=>?_⟩;unfold SetTable.probe.go;rw[T.empty hN];show some (SetTable.Met.empty _ (way t.mask (gQ t.mask _) n).dummy)=_;rw[oK]
 | succ d x=>
  intro n fuel s p a;obtain⟨g,rfl⟩:∃ g,fuel=g + 1:=⟨fuel - 1,by lia⟩
  obtain⟨i,e,p1,p2⟩:=T.mem (hb n (by lia));by_cases Z:e.1=h
  ·refine .inr ⟨n,i,e,bH _,by lia,p1,p2,Z,fun m h1 h2=>by lia,fun f I=>?_⟩;unfold SetTable.probe.go;rw[T.live p1];dsimp only;rw[I i e p2,Z,if_pos (D0 _)];rfl
  ·have V:∀ f:Nat->Int,(∀ (i:Nat) (e:Int × Value),es[i]?=some e->f i=e.1)->SetTable.probe.go t f h (g + 1) (way t.mask (st t.mask h) n)=SetTable.probe.go t f h g (way t.mask (st t.mask h) (n + 1)):=fun f I=>by
    have r:(f i == h)=false:=by rw[I i e p2]; exact BE.mpr Z
    conv=>lhs; unfold SetTable.probe.go
    rw[T.live p1];dsimp only;rw[r,if_neg eN];rfl
   have J:∀ (O:Nat) (U:Int × Value),t.place[O]?=some (way t.mask (st t.mask h) n).j->es[O]?=some U->U.1≠h:=fun O U l c=>by
    have:O=i:=by rw[<-below_at T.rise l,below_at T.rise p1]
    subst this;rw[p2]at c;cases c;exact Z
   rcases x (n + 1) g (by lia) (by lia) (by lia) with ⟨k,b⟩ | ⟨n',O,U,k,b,u,o,q,v,y⟩
   ·refine .inl ⟨fun m h1 h2=>?_,fun f I=>(V f I).trans (b f I)⟩;rcases Nat.eq_or_lt_of_le h1 with rfl | h1
    ·exact J
    ·exact k m h1 h2
   ·refine .inr ⟨n',O,U,by lia,b,u,o,q,fun m h1 h2=>?_,fun f I=>(V f I).trans (y f I)⟩;rcases Nat.eq_or_lt_of_le h1 with rfl | h1
    ·exact J
    ·exact v m h1 h2
theorem oy{α β:Type}{R:α->β->Prop}{l:List α}{m:List β}(h:Paired R l m){y:β}(e:m[i]?=some y):∃ x,l[i]?=some x/\R x y:=by
 induction h generalizing i with
 | nil=>cases e
 | cons a _ I=>
  cases i with
  | zero=>cases e; exact⟨_,rfl,a⟩
  | succ i=>exact I e
theorem uT{α β:Type}{R:α->β->Prop}{l:List α}{m:List β}(h:Paired R l m){x:α}(e:l[i]?=some x):∃ y,m[i]?=some y/\R x y:=by
 induction h generalizing i with
 | nil=>cases e
 | cons a _ I=>
  cases i with
  | zero=>cases e; exact⟨_,rfl,a⟩
  | succ i=>exact I e
section
variable {o:Obj}{ep:Nat}{ks:List (List D)}{k:List D}
theorem sP(hu:(aI prog w).room A)(ho:s.heap.get? a=some o)(hd:o.data=.set es ep t)(T:kR es t)(hE:Paired (El prog w s.heap) ks es.toList)(hk:(aI prog w).is s.heap k b)(hN0:N < 10 * (t.mask + 15))
  (hN:(way t.mask (st t.mask ((aI prog w).hash k)) N).j∉t.place.toList) (hb:∀ m,m < N->(way t.mask (st t.mask ((aI prog w).hash k)) m).j∈t.place.toList) {Q:SetFound->Shared->Prop}
  (q1:k∈ks->Q (.there none) s) (q2:k∉ks->Q (.free (way t.mask (st t.mask ((aI prog w).hash k)) N).j false) s) :
  ∀ (d n fuel:Nat) (stand:Option SetTable.Probe),N - n=d->n<=N->d < fuel->stand.getD (t.probeStart ((aI prog w).hash k))=way t.mask (st t.mask ((aI prog w).hash k)) n->
   (∀ m,m < n->∀ (i:Nat) (e:Int × Value),t.place[i]?=some (way t.mask (st t.mask ((aI prog w).hash k)) m).j->es[i]?=some e->∀ k',El prog w s.heap k' e->k'≠k)->
   wpAny (model prog w) A (setSearchFrom a (.ref b) ((aI prog w).hash k) true fuel stand) Q E s:=by
 intro d
 induction d using Nat.strongRecOn with
 | ind d ih=>
  intro n fuel stand G hn hfu R q;obtain⟨g,rfl⟩:∃ g,fuel=g + 1:=⟨fuel - 1,by lia⟩
  unfold setSearchFrom;refine ar (BD ho hd T.fits ?_);dsimp only;rw[T.odd,if_neg eN,R];have O:∀ (i:Nat) (e:Int × Value),es[i]?=some e->∃ k',ks[i]?=some k'/\El prog w s.heap k' e:=fun i e I=>oy hE (by rw[iI]; exact I)
  unfold SetTable.probe;rcases FK T ((aI prog w).hash k) hN hb d n (10 * SetTable.turns t.mask) G hn (by unfold SetTable.turns; lia) with ⟨a1,a2⟩ | ⟨n',i,e,a1,a2,a3,a4,a5,a6,a7⟩
  ·rw[a2];rotate_left
   ·exact fun i e I=>(show (es[i]?.map (·.1)).getD 0=e.1 by rw[I]; rfl)
   refine aO (q2 fun hm=>?_);obtain⟨i,hi⟩:=BQ.mp hm;obtain⟨e,I,J⟩:=uT hE hi;rw[iI]at I;obtain⟨l,_⟩:=zz.mp I;have f:t.place[i]?=some (t.place[i]'(by rw[T.size]; exact l)):=iG _;obtain⟨h,_,B,r3⟩:=T.reach i e _ I f;obtain⟨_,_,_,r⟩:=id J;rw[r]at B r3;have S:h < N:=by
    rcases Nat.lt_trichotomy h N with c | c | c
    ·exact c
    ·subst c;rw[B]at hN;rw[<-iI]at f;exact absurd (oY f) hN
    ·exact absurd (r3 N c) hN
   rw[<-B]at f;rcases Nat.lt_or_ge h n with c | c
   ·exact q h c i e f I k J rfl
   ·exact a1 h c S i e f I r
  ·rw[a7];rotate_left
   ·exact fun i e I=>(show (es[i]?.map (·.1)).getD 0=e.1 by rw[I]; rfl)
   dsimp only;obtain⟨k',C,J⟩:=O i e a4;obtain⟨c,D,p,hc3⟩:=id J
   have key:wpAny (model prog w) A (do
     let some (_,y):=es[i]? | unsupported "internal:set-entry"
     let equal <-holding [y] (eqBool y (.ref b))
     let (es',_,t') <-setState a
     if true && equal then return SetFound.there none
     let some same:=t'.sameMemory t.moves t.mask | unsupported "set.changed-during-lookup:is-the-new-block-at-the-old-address"
     let still <-match (if same then t'.slot (way t.mask (st t.mask ((aI prog w).hash k)) n').j else .empty) with
      | .live U=>match es'[U]? with
       | some (_,y')=>do pure (if <-isSame y' y then some U else none)
       | none=>pure none
      | _=>pure none
     match still with
     | none=>rule "set.search.anew"; setSearchFrom a (.ref b) ((aI prog w).hash k) true g none
     | some U=>if equal then return .there (some U) else setSearchFrom a (.ref b) ((aI prog w).hash k) true g (some (way t.mask (st t.mask ((aI prog w).hash k)) (n' + 1)))) Q E s:=by
    rw[a4];obtain⟨e1,e2⟩:=e;cases D;dsimp only;refine ar (iA ((aI prog w).eqBool hu p hk ?_));refine ar (BD ho hd T.fits ?_);dsimp only;by_cases Z:k'=k
    ·subst Z;rw[gp rfl];exact aO (q1 (oY C))
    ·rw[iK Z];have L:t.sameMemory t.moves t.mask=some true:=by unfold SetTable.sameMemory; rw[D0]; rfl
     rw[L];simp only[Bool.and_false,gD,fO,if_true];rw[T.live a3];dsimp only;rw[a4];dsimp only;refine ar (wpAny_isSame_ref_self (ar (aO ?_)));simp only[if_true];refine ih (N - (n' + 1)) (by lia) (n' + 1) g _ rfl (by lia) (by lia) rfl fun m hm U Y p1 p2 k2 V=>?_
     rcases Nat.lt_or_ge m n with z | z
     ·exact q m z U Y p1 p2 k2 V
     ·rcases Nat.lt_or_ge m n' with z2 | z2
      ·intro F;subst F;obtain⟨_,_,_,F⟩:=V;exact a6 m z z2 U Y p1 p2 F
      ·have:m=n':=by lia
       subst this;have:U=i:=by rw[<-below_at T.rise p1,below_at T.rise a3]
       subst this;rw[a4]at p2;cases p2;obtain⟨W,H,u,_⟩:=V;cases H;rw[(aI prog w).inj u p];exact Z
   cases hled:t.led with
   | true=>
    simp only[BA,gD,fO];exact key
   | false=>
    simp only[Bool.not_false,if_true];refine ar (Ca hk (fun y hy=>?_) ?_)
    ·obtain⟨x,M,rfl⟩:=eW.mp hy;have M:=Array.mem_toList_iff.mp M;obtain⟨v,_⟩:=Array.mem_filter.mp M;obtain⟨j,hj⟩:=Array.mem_iff_getElem?.mp v;obtain⟨k2,_,W,H,u,_⟩:=O j x hj;exact⟨k2,W,H,u⟩
    ·simp only[gD,fO];exact key
theorem ux(hu:(aI prog w).room A)(ho:s.heap.get? a=some o)(hd:o.data=.set es ep t)(T:kR es t)(hE:Paired (El prog w s.heap) ks es.toList)(hk:(aI prog w).is s.heap k b)(hm:t.mask<=8191){Q:SetFound->Shared->Prop}
  (q1:k∈ks->Q (.there none) s) (q2:k∉ks->∀ j,uh t.mask t.place.toList ((aI prog w).hash k) j->j∉t.place.toList->j<=t.mask->Q (.free j false) s) :
  wpAny (model prog w) A (setSearch a (.ref b) ((aI prog w).hash k) true) Q E s:=by
 obtain⟨c,O,_⟩:=T.pow;obtain⟨j,⟨N,n1,n2,J⟩,I,U⟩:=sL O (pl:=t.place.toList) (by rw[dY,T.size]; exact T.room) ((aI prog w).hash k);subst n2;exact sP hu ho hd T hE hk n1 I J q1 (fun z=>q2 z _ ⟨N,n1,rfl,J⟩ I U) N 0 100000 none rfl (dI _) (by lia) rfl fun m hm=>absurd hm (Nat.not_lt_zero _)
end
end Tb
namespace Tb
open PySem PySem.Spec PyProof.Rows L2
variable {h h':Heap}{a:Addr}
theorem rG(n:Nat):∀ fuel k,n < 2 ^ k * 2 ^ fuel->∃ k',k<=k'/\SetTable.sizeAbove.go n fuel (2 ^ k)=2 ^ k'/\n < 2 ^ k'/\(2 ^ k'=2 ^ k\/2 ^ k'<=2 * n)
 | 0,k,h=>⟨k,bH _,rfl,by rw[Nat.pow_zero,Nat.mul_one]at h; exact h,.inl rfl⟩
 | fuel + 1,k,h=>by
  unfold SetTable.sizeAbove.go;by_cases c:2 ^ k<=n
  ·rw[if_pos c,<-Nat.pow_succ];obtain⟨k',h1,h2,h3,h4⟩:=rG n fuel (k + 1) (by rw[Nat.pow_succ,Nat.mul_assoc,Nat.mul_comm 2,<-Nat.pow_succ]; exact h);refine⟨k',by lia,h2,h3,.inr ?_⟩;rcases h4 with h4 | h4
   ·rw[h4,Nat.pow_succ]; lia
   ·exact h4
  ·rw[if_neg c];exact⟨k,bH _,rfl,by lia,.inl rfl⟩
theorem above{n:Nat}(hn:n<=4000):∃ k,3<=k/\SetTable.sizeAbove n=2 ^ k/\n < 2 ^ k/\2 ^ k<=8000:=by
 obtain⟨k',h1,h2,J,I⟩:=rG n 64 3 (by lia);exact⟨k',h1,h2,J,by rcases I with I | I <;> lia⟩
section
variable (prog:Program)(w:World)
def gv(G:Value->Prop)(h:Heap)(a:Addr)(ks:List (List D)):Prop:=∃ o es ep t,h.get? a=some o/\o.ExactSet/\o.data=.set es ep t/\kR es t/\es.size * 5 < t.mask * 3/\t.mask<=8191/\t.led=!(w.params.followText "set-order")/\Paired (El prog w h) ks es.toList/\ks.Nodup/\∀ e∈es.toList,G e.2
end
section
variable {prog:Program}{w:World}{A:Around}{E:Value->Shared->Prop}{s:Shared}{ks:List (List D)}{k:List D}{b:Addr}{G:Value->Prop}
theorem El.keep{k:List D}{e:Int × Value}(x:El prog w h k e)(t:Srt.bK h h'):El prog w h' k e:=let ⟨b,e1,e2,e3⟩:=x; ⟨b,e1,Srt.cW e2 t,e3⟩
theorem r8{o:Obj}(ho:h.get? a=some o)(hx:o.ExactSet)(hs:Heap.SameBut a h h'):Srt.bK h h':=fun c o' e I=>by
 by_cases z:c=a
 ·subst z;rw[ho]at e;cases e;rw[hx.1]at I;exact absurd I (by decide)
 ·exact (hs.2 c z).trans e
theorem gv.keep(x:gv prog w G h a ks)(t:Srt.bK h h')(e:∀ o,h.get? a=some o->h'.get? a=some o):gv prog w G h' a ks:=by
 obtain⟨o,es,ep,tb,h1,h2,U,V,b,Z,J,I,O⟩:=x;exact⟨o,es,ep,tb,e o h1,h2,U,V,b,Z,J,Paired.kN I fun _ _ z=>z.keep t,O⟩
theorem ub(hu:(aI prog w).room A)(hS:gv prog w G s.heap a ks)(hk:(aI prog w).is s.heap k b)(hl:ks.length < 999)(hG:G (.ref b)){Q:Bool->Shared->Prop}
  (q:∀ h' ks' r,Heap.SameBut a s.heap h'->gv prog w G h' a ks'->(∀ x,x∈ks'↔x∈ks\/x=k)->ks'.length<=ks.length + 1->Q r { s with heap:=h' }):wpAny (model prog w) A (setAddHashed a (.ref b) ((aI prog w).hash k)) Q E s:=by
 obtain⟨o,es,ep,t,C,hx,F,T,hr,hm,L,hE,hn,hg0⟩:=id hS;have hlen:ks.length=es.size:=by rw[hE.length,dY]
 obtain⟨c3,hc3,hc4⟩:=T.pow;have hm7:7<=t.mask:=by
  have:=Nat.pow_le_pow_right (show 0 < 2 by decide) hc4
  lia
 unfold setAddHashed;refine iA ?_;unfold setAddHashedIn;refine ar (BD C F T.fits ?_);dsimp only;rw[show byScan (.ref b) es=false from rfl,if_neg eN];refine ar (ux hu C F T hE hk hm (fun m=>?_) fun m j r1 r2 r3=>?_)
 ·refine aO ?_;exact q s.heap ks _ (Heap.SameBut.refl a s.heap) hS (fun x=>⟨.inl,fun z=>z.elim id fun e=>e ▸ m⟩) (Nat.le_succ _)
 ·refine ar (BD C F T.fits ?_);dsimp only;have l:∃ O:List (List D),O.Perm (ks++[k])/\Paired (El prog w s.heap) O (SetTable.insertAt es (t.put j).2 ((aI prog w).hash k,.ref b)).toList:=
   ee (SetTable.insertAt_perm _ _ _) (by rw[Ep]; exact Paired.snoc hE ⟨b,rfl,hk,rfl⟩)
  obtain⟨O,p1,l⟩:=l;have h:∀ x,x∈O↔x∈ks\/x=k:=fun x=>by rw[p1.mem_iff,fY,fS]
  have S:O.Nodup:=p1.nodup_iff.mpr (List.nodup_append.mpr ⟨hn,vT.mpr ⟨gh,List.nodup_nil⟩,fun x hx y hy=>by rw[fS.mp hy]; exact fun z=>m (z ▸ hx)⟩);have hl1:O.length=ks.length + 1:=by rw[p1.length_eq,dE]; rfl
  have N:∀ c:Bool,wpAny (model prog w) A (do
    storeSet a (SetTable.insertAt es (t.put j).2 ((aI prog w).hash k,.ref b)) (if c then (t.put j).1 else { (t.put j).1 with plain:=false })
    if !false && (if c then (t.put j).1 else { (t.put j).1 with plain:=false }).tooFull then setRelay a (SetTable.grown (es.size + 1))
    return true) Q E s:=by
   intro c;have p:∃ pl,(if c then (t.put j).1 else { (t.put j).1 with plain:=false })={ (t.put j).1 with plain:=pl }:=by cases c <;> exact⟨_,rfl⟩
   obtain⟨pl,p⟩:=p;rw[p];have T2:=T.put (.ref b) r1 r2 r3 (by lia) pl;have g:({ (t.put j).1 with plain:=pl }:SetTable).led=t.led:=rfl;have U:({ (t.put j).1 with plain:=pl }:SetTable).mask=t.mask:=rfl;have hp2:({ (t.put j).1 with plain:=pl }:SetTable).fill=es.size + 1:=by
    unfold SetTable.fill;rw[T2.dum,T2.size,gS]; rfl
   have V:(SetTable.insertAt es (t.put j).2 ((aI prog w).hash k,.ref b)).size=es.size + 1:=gS _ _ _;generalize ({ (t.put j).1 with plain:=pl }:SetTable)=t2 at *;have W:∀ e∈(SetTable.insertAt es (t.put j).2 ((aI prog w).hash k,.ref b)).toList,G e.2:=fun e Z=>by
    have Z:=(SetTable.insertAt_perm es (t.put j).2 ((aI prog w).hash k,Value.ref b)).mem_iff.mp Z;rw[Ep]at Z;rcases fY.mp Z with Z | Z
    ·exact hg0 e Z
    ·rw[fS.mp Z]; exact hG
   generalize SetTable.insertAt es (t.put j).2 ((aI prog w).hash k,.ref b)=I at *;refine ar (wpAny_storeSet_of C F ?_ (by rw[V,mP]; lia));have B:(s.heap.update a (Obj.putSet I t2)).get? a=some { o with data:=.set I (ep + 1) t2 }:=by
    have:=xZ (Obj.putSet I t2) C (by rw[putSet_of I t2 F]; rfl);rw[putSet_of I t2 F]at this; exact this
   have sb:=yB s.heap a (Obj.putSet I t2);have tp:=r8 C hx sb;generalize s.heap.update a (Obj.putSet I t2)=h2 at B sb tp;have H:Paired (El prog w h2) O I.toList:=Paired.kN l fun _ _ z=>z.keep tp
   have M:({ o with data:=.set I (ep + 1) t2 }:Obj).ExactSet:=hx;simp only[Bool.not_false,Bool.true_and];unfold SetTable.tooFull;rw[hp2,U];by_cases f:(es.size + 1) * 5 ≥ t.mask * 3
   ·rw[if_pos (gp f)];refine ar ?_;unfold setRelay;refine ar (BD (s:={ s with heap:=h2 }) B rfl T2.fits ?_);dsimp only;have hgr:SetTable.grown (es.size + 1)=(es.size + 1) * 4:=by unfold SetTable.grown; rw[if_neg (by lia)]
    rw[hgr];obtain⟨k',a1,Y,a3,a4⟩:=above (n:=(es.size + 1) * 4) (by lia);have hmk:SetTable.sizeAbove ((es.size + 1) * 4) - 1 + 1=2 ^ k':=by rw[Y]; have:=Nat.two_pow_pos k'; lia
    rw[if_neg (by rw[Y,mP]; lia)];unfold SetTable.relaid;obtain⟨d,u,l1,l0,l2,l3,l4⟩:=Bl (es:=I) hmk a1 (by rw[Y,V]; lia) t2.finger (t2.movedTo (SetTable.sizeAbove ((es.size + 1) * 4) - 1)) t2.led t2.plain;rw[l1];show wpAny _ _ ((if ((u.filterMap (I[·]?)).size != I.size)=true then _ else pure (u.filterMap (I[·]?),d)) >>= _) _ _ _;generalize u.filterMap (I[·]?)=J at l3 l4;have i:J.size=I.size:=by rw[<-dY,l3.length_eq,dY]
    rw[if_neg (by rw[i,bne_self_eq_false]; exact eN)];refine ar (aO ?_);show wpAny _ _ (storeSet a J d) _ _ _;refine wpAny_storeSet_of (s:={ s with heap:=h2 }) B rfl ?_ (by rw[i,V,mP]; lia);have R:(h2.update a (Obj.putSet J d)).get? a=some { o with data:=.set J (ep + 1 + 1) d }:=xZ (Obj.putSet J d) B rfl;have v:=yB h2 a (Obj.putSet J d);have tp3:=r8 B M v;show wpAny _ _ (pure true) _ _ { s with heap:=h2.update a (Obj.putSet J d) };generalize h2.update a (Obj.putSet J d)=h3 at R v tp3;obtain⟨ks3,p3,hE3⟩:=ee l3 H;refine aO (q h3 ks3 _ (sb.trans v) ⟨_,J,_,d,R,hx,rfl,l4,?_,?_,by rw[l0,g]; exact L,Paired.kN hE3 fun _ _ z=>z.keep tp3,p3.nodup_iff.mpr S,fun e Z=>W e (l3.mem_iff.mp Z)⟩ (fun x=>by rw[p3.mem_iff]; exact h x) (by rw[p3.length_eq]; lia))
    ·rw[i,V,l2,Y]; lia
    ·rw[l2,Y]; lia
   ·rw[if_neg (by rw[iK f]; exact eN)];exact aO (q h2 O _ sb ⟨_,I,ep + 1,t2,B,M,rfl,T2,by rw[V,U]; lia,by rw[U]; exact hm,by rw[g]; exact L,H,S,W⟩ h (by lia))
  split
  ·exact ar (Fu 8 hk fun c=>N c)
  ·exact ar (aO (N true))
end
end Tb
namespace HT
open PySem PyProof.Rows
theorem kQ.str(A:Around)(s:Shared)(x:Str)(t:Tok)(y:Str)(u:Tok):kQ A s (.str x t) (.str y u) (decide (x.cps.toList < y.cps.toList)):=fun prog w E Q h=>PyProof.Rows.lt_str h
theorem kQ.tup{A:Around}{s:Shared}{l b:Addr}{items items2:Array Value}{r:Bool}(hu:A.units < cLine)(hl:s.heap.IsTuple l items)(hb:s.heap.IsTuple b items2)(hx:fA A.in1 s items.toList items2.toList r):kQ A s (.ref l) (.ref b) r:=fun prog w E Q h=>by
 obtain⟨⟨g,dd,a,sl⟩,c,e,n,f⟩:=id hl;obtain⟨⟨d,U,V,Z⟩,O,J,n2,I⟩:=id hb;simp only at e f J I;subst e f J I;exact richCompare_meets_room (op:=.Lt) ⟨_,c,rfl⟩ ⟨_,O,rfl⟩ PySem.F.slot_tuple_lt PySem.F.entry_tuple_lt (PySem.F.args_tuple_lt_2 _ _) (qS l b items items2 n n2 dd U sl Z r)
  ⟨c,O,hx,show Value.bool r≠Value.notImplemented/\Q (.bool r) s from ⟨(fun x=>nomatch x),h⟩⟩ hu
end HT
namespace Tb
open PySem PySem.Spec PyProof.Rows L2 HT
variable {x y z x' y' z':Int}{h:Heap}{lev:Nat}{d d':D}{v:Value}{A:Around}{s:Shared}{us vs:List Int}{ds k':List D}{t u:Tok}{xs ys:List Value}{b:Bool}
inductive fk:D->Int->Int->Int->Prop
 | zero:fk (.tup [.str "zero"]) 2 0 0
 | name (x v:Int):fk (.tup [.str "name",.int x,.int v]) 1 x v
 | len (r:Int):fk (.tup [.str "len",.int r]) 0 r 0
theorem fk.fn(h:fk d x y z)(h':fk d x' y' z'):x=x'/\y=y'/\z=z':=by
 cases h with
 | zero=>
  generalize hd:D.tup [D.str "zero"]=d at h';cases h' with
  | zero=>exact⟨rfl,rfl,rfl⟩
  | name=>simp at hd
  | len=>simp at hd
 | name=>
  generalize hd:D.tup [D.str "name",D.int y,D.int z]=d at h';cases h' with
  | zero=>simp at hd
  | name=>simp at hd; exact⟨rfl,hd.1,hd.2⟩
  | len=>simp at hd
 | len=>
  generalize hd:D.tup [D.str "len",D.int y]=d at h';cases h' with
  | zero=>simp at hd
  | name=>simp at hd
  | len=>simp at hd; exact⟨rfl,hd,rfl⟩
theorem fk.inj(h:fk d x y z)(h':fk d' x' y' z')(e:x=x'/\y=y'/\z=z'):d=d':=by
 obtain⟨rfl,rfl,rfl⟩:=e;cases h <;> cases h' <;> rfl
section
variable {prog:Program}{w:World}
theorem gT{knd:cU prog w lev}{i:Int}(x:(iP knd).is h (.int i) v):∃ t,v=.int i t:=by
 rcases x with x | ⟨_,_,e,_⟩
 ·rcases x.shape with ⟨j,t,e,rfl⟩ | ⟨j,t,e,rfl⟩ <;> cases e
  exact⟨t,rfl⟩
 ·cases e
theorem mG{knd:cU prog w lev}{i:Str}(x:(iP knd).is h (.str i) v):∃ t,v=.str i t:=by
 rcases x with x | ⟨_,_,e,_⟩
 ·rcases x.shape with ⟨j,t,e,rfl⟩ | ⟨j,t,e,rfl⟩ <;> cases e
  exact⟨t,rfl⟩
 ·cases e
theorem nj{knd:cU prog w lev}(x:(iP knd).is h (.tup ds) v):∃ a,v=.ref a/\cv knd h ds a:=by
 rcases x with x | ⟨_,a,e,rfl,x⟩
 ·rcases x.shape with ⟨j,t,e,rfl⟩ | ⟨j,t,e,rfl⟩ <;> cases e
 ·cases e; exact⟨a,rfl,x⟩
theorem pE{knd:cU prog w lev}{a:Addr}(x:cv knd h ds a):∃ items,h.IsTuple a items/\bX knd h ds items.toList:=let ⟨o,items,n,h1,h2,h3,h4⟩:=x; ⟨items,⟨o,h1,h2,n,h3⟩,h4⟩
theorem fj{knd:cU prog w lev}{vs:List Value}(x:bX knd h [] vs):vs=[]:=by cases x; rfl
theorem bI{knd:cU prog w lev}{vs:List Value}(x:bX knd h (d::ds) vs):∃ v r,vs=v::r/\knd.is h d v/\bX knd h ds r:=by
 cases x with
 | cons h1 t=>exact⟨_,_,rfl,h1,t⟩
theorem jX(n:fk d x y z)(i:(vD prog w).is h d v):∃ a items,v=.ref a/\h.IsTuple a items/\
  ((d=.tup [.str "zero"]/\x=2/\y=0/\z=0/\∃ t,items.toList=[.str "zero" t])\/(x=1/\∃ t t2 t3,items.toList=[.str "name" t,.int y t2,.int z t3])\/(x=0/\z=0/\∃ t t2,items.toList=[.str "len" t,.int y t2])):=by
 cases n with
 | zero=>
  obtain⟨a,rfl,J⟩:=nj i;obtain⟨items,p,q⟩:=pE J;obtain⟨V,r,I,i1,q⟩:=bI q;obtain⟨t,rfl⟩:=mG i1;rw[fj q]at I;exact⟨a,items,rfl,p,.inl ⟨rfl,rfl,rfl,rfl,t,I⟩⟩
 | name=>
  obtain⟨a,rfl,J⟩:=nj i;obtain⟨items,p,q⟩:=pE J;obtain⟨V,r,I,i1,O⟩:=bI q;obtain⟨b,r,rfl,i2,U⟩:=bI O;obtain⟨e,r,rfl,Z,c⟩:=bI U;obtain⟨t,rfl⟩:=mG i1;obtain⟨t2,rfl⟩:=gT i2;obtain⟨t3,rfl⟩:=gT Z;rw[fj c]at I;exact⟨a,items,rfl,p,.inr (.inl ⟨rfl,t,t2,t3,I⟩)⟩
 | len=>
  obtain⟨a,rfl,J⟩:=nj i;obtain⟨items,p,q⟩:=pE J;obtain⟨V,r,I,i1,O⟩:=bI q;obtain⟨b,r,rfl,i2,U⟩:=bI O;obtain⟨t,rfl⟩:=mG i1;obtain⟨t2,rfl⟩:=gT i2;rw[fj U]at I;exact⟨a,items,rfl,p,.inr (.inr ⟨rfl,rfl,t,t2,I⟩)⟩
theorem g0{x y:Str}(ne:(x == y)=false)(hb:decide (x.cps.toList < y.cps.toList)=b):fA A s (.str x t::xs) (.str y u::ys) b:=by
 refine .ne ?_ (by rw[<-hb]; exact kQ.str A s x t y u);rw[<-ne]; exact SeqAt.EqAt.str_str _ _ _ _
theorem lO{x:Str}(h:fA A s xs ys b):fA A s (.str x t::xs) (.str x u::ys) b:=by
 refine .eq ?_ h;rw[show true=(x == x) from (D0 x).symm]; exact SeqAt.EqAt.str_str _ _ _ _
theorem pG(h:x=y->fA A s xs ys (decide (us < vs))):fA A s (.int x t::xs) (.int y u::ys) (decide (x::us < y::vs)):=by
 by_cases e:x=y
 ·subst e;have:decide (x::us < x::vs)=decide (us < vs):=BH.mpr (by rw[List.cons_lt_cons_iff]; exact⟨fun h=>h.elim (fun h=>absurd h (Int.lt_irrefl _)) (·.2),fun h=>.inr ⟨rfl,h⟩⟩);rw[this];refine .eq ?_ (h rfl);rw[show true=(x == x) from (D0 x).symm]; exact F1 _ _ _ _
 ·have:decide (x::us < y::vs)=decide (x < y):=BH.mpr (by rw[List.cons_lt_cons_iff]; exact⟨fun h=>h.elim id fun h=>absurd h.1 e,.inl⟩);rw[this];refine .ne ?_ (kQ.int A s x t y u);rw[show false=(x == y) from (BE.mpr e).symm]; exact F1 _ _ _ _
theorem df(h:x≠y):decide (x::us < y::vs)=decide (x < y):=BH.mpr (by rw[List.cons_lt_cons_iff]; exact⟨fun z=>z.elim id fun z=>absurd z.1 h,.inl⟩)
theorem cY:decide (x::us < x::vs)=decide (us < vs):=BH.mpr (by rw[List.cons_lt_cons_iff]; exact⟨fun h=>h.elim (fun h=>absurd h (Int.lt_irrefl _)) (·.2),fun h=>.inr ⟨rfl,h⟩⟩)
theorem yS(hu:A.units < cLine){v':Value}(n:fk d x y z)(n':fk d' x' y' z')(i:(vD prog w).is s.heap d v)(i':(vD prog w).is s.heap d' v'):kQ A s v v' (decide ([x,y,z] < [x',y',z'])):=by
 obtain⟨a,items,rfl,p,q⟩:=jX n i;obtain⟨f,I,rfl,U,V⟩:=jX n' i';refine kQ.tup hu p U ?_;rcases q with ⟨_,rfl,rfl,rfl,t,e⟩ | ⟨rfl,t,Z,b,e⟩ | ⟨rfl,rfl,t,Z,e⟩ <;> rcases V with ⟨_,rfl,rfl,rfl,u,J⟩ | ⟨rfl,u,O,c,J⟩ | ⟨rfl,rfl,u,O,J⟩ <;> rw[e,J]
 ·exact lO .nn
 ·exact g0 (by decide +kernel) (by rw[df (by decide)]; decide +kernel)
 ·exact g0 (by decide +kernel) (by rw[df (by decide)]; decide +kernel)
 ·exact g0 (by decide +kernel) (by rw[df (by decide)]; decide +kernel)
 ·rw[cY];exact lO (pG fun _=>pG fun _=>.nn)
 ·exact g0 (by decide +kernel) (by rw[df (by decide)]; decide +kernel)
 ·exact g0 (by decide +kernel) (by rw[df (by decide)]; decide +kernel)
 ·exact g0 (by decide +kernel) (by rw[df (by decide)]; decide +kernel)
 ·rw[cY];refine lO ?_;have:decide ([y,0] < [y',0])=decide ([y] < [y']):=BH.mpr (by simp only[List.cons_lt_cons_iff]; simp);rw[this];exact pG fun _=>.nn
inductive cP:List D->List Int->Prop
 | mk {a b:D} {c x y z x' y' z':Int} (h:fk a x y z) (h':fk b x' y' z'):cP [a,b,.int c] [x,y,z,x',y',z',c]
theorem cP.fn{k:List D}{u v:List Int}(h:cP k u)(h':cP k v):u=v:=by
 cases h with
 | mk h1 h2=>
  cases h' with
  | mk I J=>
   obtain⟨rfl,rfl,rfl⟩:=h1.fn I;obtain⟨rfl,rfl,rfl⟩:=h2.fn J;rfl
theorem cP.inj{k:List D}{u:List Int}(h:cP k u)(h':cP k' u):k=k':=by
 cases h with
 | mk h1 h2=>
  cases h' with
  | mk I J=>
   rw[h1.inj I ⟨rfl,rfl,rfl⟩,h2.inj J ⟨rfl,rfl,rfl⟩]
theorem Jb(h:¬ (x=x'/\y=y'/\z=z')):decide (x::y::z::us < x'::y'::z'::vs)=decide ([x,y,z] < [x',y',z']):=by
 by_cases e:x=x'
 ·subst e;rw[cY,cY];by_cases e:y=y'
  ·subst e;rw[cY,cY,df fun e=>h ⟨rfl,rfl,e⟩,df fun e=>h ⟨rfl,rfl,e⟩]
  ·rw[df e,df e]
 ·rw[df e,df e]
theorem Er{E:Value->Shared->Prop}(hu:A.units + 4 < cLine){k:List D}{u u':List Int}{b b':Addr}(n:cP k u)(n':cP k' u')(i:(aI prog w).is s.heap k b)(i':(aI prog w).is s.heap k' b'){Q:Bool->Shared->Prop}(q:Q (decide (u < u')) s) :
  wpAny (model prog w) A (keyLt' (tuples' false) (.ref b) (.ref b')) Q E s:=by
 cases n with
 | @mk da db c x y z x2 y2 z2 h1 h2=>
 cases n' with
 | @mk H Y h x' y' z' R M N f Z=>
 obtain⟨o,items,m,G,_,S,hi⟩:=i;obtain⟨o',I,m',v,_,g,O⟩:=i';refine PySem.W.kat_lt G S v g ?_;have sz:items.size=3:=by have:=hi.length; simpa using this.symm
 have B:I.size=3:=by have:=O.length; simpa using this.symm
 rw[sz,B];obtain⟨va,r,e,ia,FU⟩:=bI hi;obtain⟨vb,r,rfl,ib,DV⟩:=bI FU;obtain⟨vc,r,rfl,L,HB⟩:=bI DV;obtain⟨l,F,C,J,p⟩:=bI O;obtain⟨V,F,rfl,U,a⟩:=bI p;obtain⟨T,F,rfl,d,j⟩:=bI a;rw[fj HB]at e;rw[fj j]at C;rw[e,C];obtain⟨t,rfl⟩:=gT L;obtain⟨t',rfl⟩:=gT d;show PySem.W.KatLex prog w A false (decide (3 < 3)) Q [(va,l),(vb,V),(.int c t,.int h t')] 0 s;refine PySem.W.kat_cons ((vD prog w).eqAt (by omega) ia J prog w _ _ (PySem.W.kat_go (fun e=>?_) fun e=>?_))
 ·have e:=jV e;subst e;obtain⟨rfl,rfl,rfl⟩:=h1.fn f;rw[cY,cY,cY]at q;refine PySem.W.kat_yes (PySem.W.kat_cons ((vD prog w).eqAt (by omega) ib U prog w _ _ (PySem.W.kat_go (fun e=>?_) fun e=>?_)))
  ·have e:=jV e;subst e;obtain⟨rfl,rfl,rfl⟩:=h2.fn Z;rw[cY,cY,cY]at q;refine PySem.W.kat_yes (PySem.W.kat_cons (F1 _ _ _ _ prog w _ _ (PySem.W.kat_go (fun e=>?_) fun e=>?_)))
   ·have e:c=h:=eq_of_beq e;subst e;rw[cY]at q;exact PySem.W.kat_yes (PySem.W.kat_nil q)
   ·have e:c≠h:=BE.mp e;rw[df e]at q;exact PySem.W.kat_no (PySem.W.kat_one _ _ (kQ.int _ s _ _ _ _ prog w _ _ q))
  ·have e:=of_decide_eq_false e;rw[Jb fun z=>e (h2.inj Z z)]at q;exact PySem.W.kat_no (PySem.W.kat_one _ _ (yS (by omega) h2 Z ib U prog w _ _ q))
 ·have e:=of_decide_eq_false e;rw[Jb fun z=>e (h1.inj f z)]at q;exact PySem.W.kat_no (PySem.W.kat_one _ _ (yS (by omega) h1 f ia J prog w _ _ q))
end
end Tb
namespace Tb
open PySem PySem.Spec PyProof.Rows L2 Gs
variable {u:List Int}{h h':Heap}{v:Value}{L:List (List Int)}
def cnt(L:List (List Int))(u:List Int):Nat:=(L.filter fun v=>decide (v < u)).length
theorem cnt_cons(x:List Int)(L:List (List Int))(u:List Int):cnt (x::L) u=cnt L u + if x < u then 1 else 0:=by
 unfold cnt;by_cases h:x < u <;> simp[Fh,h]
theorem Ad{u v:List Int}(h:∀ x:List Int,x < u->x < v):∀ L,cnt L u<=cnt L v
 | []=>bH _
 | x::L=>by
  rw[cnt_cons,cnt_cons];have:=Ad h L;by_cases c:x < u
  ·rw[if_pos c,if_pos (h x c)]; lia
  ·rw[if_neg c]; lia
theorem vd{u v:List Int}(h:u < v):∀ {L},u∈L->cnt L u < cnt L v
 | [],hm=>absurd hm gh
 | x::L,hm=>by
  have hle:=Ad (fun x (c:x < u)=>List.lt_trans c h) L;rw[cnt_cons,cnt_cons];rcases d0.mp hm with rfl | hm
  ·rw[if_neg (List.lt_irrefl u),if_pos h]; lia
  ·have:=vd h hm;by_cases c:x < u
   ·rw[if_pos c,if_pos (List.lt_trans c h)]; lia
   ·rw[if_neg c]; lia
theorem wU{v:List Int}(hu:u∈L)(hv:v∈L):(cnt L u:Int) < (cnt L v:Int)↔u < v:=by
 constructor
 ·intro h;refine Bx fun c=>?_
  by_cases I:v < u
  ·have:=vd I hv; lia
  ·obtain rfl:u=v:=List.le_antisymm I c
   lia
 ·intro h;have:=vd h hu
  lia
section
variable (prog:Program)(w:World)
def gA(h:Heap)(v:Value)(u:List Int):Prop:=∃ b k,v=.ref b/\(aI prog w).is h k b/\cP k u
end
section
variable {prog:Program}{w:World}{A:Around}{E:Value->Shared->Prop}{s:Shared}
theorem gA.fn{u':List Int}(x:gA prog w h v u)(y:gA prog w h v u'):u=u':=by
 obtain⟨b,k,rfl,i,n⟩:=x;obtain⟨J,k',e,I,n'⟩:=y;cases e;obtain rfl:=(aI prog w).inj i I;exact n.fn n'
theorem gA.keep(x:gA prog w h v u)(t:Tu h h'):gA prog w h' v u:=let ⟨b,k,e,i,n⟩:=x; ⟨b,k,e,Srt.cW i t,n⟩
abbrev zg(prog:Program)(w:World)(h:Heap)(L:List (List Int)):Rk where
 nk p:=open Classical in if z:∃ u,gA prog w h p.1 u then (cnt L (Classical.choose z):Int) else 0
 nQ p:=∃ u,u∈L/\gA prog w h p.1 u
 kind:=tuples' false
theorem wb{p:Keyed}(x:gA prog w h p.1 u):(zg prog w h L).nk p=(cnt L u:Int):=by
 have z:∃ u,gA prog w h p.1 u:=⟨u,x⟩
 unfold zg;dsimp only;rw[dif_pos z,(Classical.choose_spec z).fn x]
theorem Gd(hu:A.units + 4 < cLine)(t:Tu h h')(L:List (List Int)):@f6 (zg prog w h L) prog w A E { s with heap:=h' }:=by
 refine @f6.mk (zg prog w h L) _ _ _ _ _ ?_;intro x y st Q Z d U q;obtain⟨u,a,J⟩:=d;obtain⟨v,e,I⟩:=U;have ex:@nk (zg prog w h L) x=(cnt L u:Int):=wb J;have O:@nk (zg prog w h L) y=(cnt L v:Int):=wb I;rw[ex,O,BH.mpr (wU a e)]at q;obtain⟨b,k,c,i1,n1⟩:=J;obtain⟨f,k',V,i2,n2⟩:=I;rw[lt'_eq];refine bV (wpS_get ?_);rw[Z,c,V];refine bV (wpS_lift (yz (Er (s:={ s with heap:=h' }) hu n1 n2 (Srt.cW i1 t) (Srt.cW i2 t) ⟨rfl,?_⟩)));exact cC q
theorem xw(x:gA prog w h v u):∃ a o xs n f fa fo,v=.ref a/\h.get? a=some o/\o.cls=.type "tuple"/\o.data=.seq xs n/\xs[0]?=some f/\f=.ref fa/\h.get? fa=some fo/\fo.cls=.type "tuple":=by
 obtain⟨b,k,rfl,⟨o,items,n,I,J,V,hi⟩,O⟩:=x;cases O with
 | mk h1 h2=>
  obtain⟨va,r,e,ia,_⟩:=bI hi;obtain⟨a,its,rfl,⟨fo,U,Z,_⟩,_⟩:=jX h1 ia;exact⟨b,o,items,n,_,a,fo,rfl,I,J,V,by rw[<-iI,e]; rfl,rfl,U,Z⟩
theorem nh{h:Heap}:∀ {us:List (List Int)} {vs:List Value},Paired (fun u v=>gA prog w h v u) us vs->∃ fs,PySem.W.KatTups h vs fs/\fs.length=vs.length/\∀ f∈fs,∃ fa fo,f=.ref fa/\h.get? fa=some fo/\fo.cls=.type "tuple"
 | _,_,.nil=>⟨[],PySem.W.KatTups.nil,rfl,fun _ h=>absurd h gh⟩
 | _,_,.cons x t=>by
  obtain⟨fs,f1,f2,f3⟩:=nh t;obtain⟨a,o,xs,n,f,fa,fo,rfl,Z,U,J,O,rfl,V,b⟩:=xw x;exact⟨.ref fa::fs,PySem.W.KatTups.cons Z U J O f1,by rw[jU,jU,f2],fun f I=>(d0.mp I).elim (fun e=>⟨fa,fo,e,V,b⟩) (f3 f)⟩
theorem xR(hu:A.units + 4 < cLine){a:Addr}{vs:List Value}{us:List (List Int)}{n:Nat}{P:Fin->Shared->Prop}(ho:s.heap.get? a=some (seqObj "list" vs.toArray n))(hl:vs.length<=sizeLine)(hp:Paired (fun u v=>gA prog w s.heap v u) us vs)(hn:us.Nodup)
  (q:∀ (out:Array Value) (us':List (List Int)),us'.Perm us->us'.Pairwise (· < ·)->Paired (fun u v=>gA prog w s.heap v u) us' out.toList->out.toList.Perm vs->P (.done (.ret .none)) { s with heap:=sortedHeap s.heap a vs out }) :
  wpAny (model prog w) A (Builtin.«list.sort» ⟨[.ref a],[]⟩) P E s:=by
 refine @mr prog w A E s (zg prog w s.heap us) a vs n P ho hl (fun v d=>?_) (fun h2 h' t Q y=>?_) (fun h' t=>Gd hu t us) fun out i B=>?_
 ·obtain⟨u,I,x⟩:=Paired.rO hp v d;exact⟨u,I,x⟩
 ·have U:Paired (fun u v=>gA prog w h' v u) us vs:=Paired.kN hp fun _ _ x=>x.keep t
  obtain⟨fs,z,L,p⟩:=nh U;refine PySem.W.kat_kind (T:=.type "tuple") (s:={ s with heap:=h' }) z (by lia) (fun f j=>?_) (by decide) y;obtain⟨fa,m,rfl,r,G⟩:=p f j;rw[<-G];exact (show PySem.W.Looks (model prog w) h' (typeOf (.ref fa)) m.cls from (PySem.W.Looks.ld r).andThen .now)
 ·obtain⟨us',p1,p2⟩:=ee i hp;refine q out us' p1 ?_ p2 i;have V:us'.Nodup:=p1.nodup_iff.mpr hn;have key:∀ {us':List (List Int)} {J:List Value},Paired (fun u v=>gA prog w s.heap v u) us' J->us'.Nodup->(∀ u∈us',u∈us)->J.Pairwise (fun u v=>@nk (zg prog w s.heap us) (u,u)<=@nk (zg prog w s.heap us) (v,v))->us'.Pairwise (· < ·):=by
   intro us' J hp
   induction hp with
   | nil=>exact fun _ _ _=>.nil
   | @cons u v D o x t H=>
    intro hn b d;obtain⟨F,l⟩:=CQ.mp d;obtain⟨n1,n2⟩:=vT.mp hn;refine CQ.mpr ⟨fun O I=>?_,H n2 (fun u h=>b u (.tail _ h)) l⟩;obtain⟨e,Z,x'⟩:=ku t O I;have:=F e Z;have C:@nk (zg prog w s.heap us) (v,v)=(cnt us u:Int):=wb x;have k:@nk (zg prog w s.heap us) (e,e)=(cnt us O:Int):=wb x';rw[C,k]at this;refine Bx fun c=>?_
    by_cases g:O < u
    ·have:=(wU (b O (.tail _ I)) (b u (.head _))).mpr g; lia
    ·obtain rfl:u=O:=List.le_antisymm g c;exact n1 I
  exact key p2 V (fun u h=>p1.mem_iff.mp h) B
end
end Tb
namespace Tb
open PySem PySem.Spec PyProof.Rows
variable {i ep slot n:Nat}{a:Addr}{Q:Option Value->Shared->Prop}{es:Array (Int × Value)}{t:SetTable}{h h':Heap}{pls:Array Value}{prog:Program}{w:World}{A:Around}
theorem bN:Slot "set_iterator" "__next__" "set_iterator.__next__":=
 .of (owner:="set_iterator") (n:="__next__") (by rw[typeLookup_type,E3]; kernel_rfl) (by decide +kernel) (by decide +kernel) (by decide +kernel)
  (by first | exact .inl (by decide +kernel) | exact .inr (by decide +kernel)) (by rw[isSubtype_type]; kernel_rfl)
theorem d3:entryFor table "set_iterator.__next__" = some Builtin.«set_iterator.__next__»:=entryFor_of_tree (by kernel_rfl)
theorem tK:Manifest.owners.lookup (String.ofList ['r','o','t','a','r','e','t','i','_','t','e','s'].reverse)=some Manifest.sig_set_iterator:=by kernel_rfl
theorem eO(a:Value):argsOk "set_iterator.__next__" ⟨[a],[]⟩:=by
 unfold argsOk; rw[signature?_of (id:="set_iterator.__next__") (n:=['_','_','t','x','e','n','_','_']) (o:=['r','o','t','a','r','e','t','i','_','t','e','s']) (by kernel_rfl) tK]; kernel_rfl
theorem jQ:Slot "set_iterator" "__iter__" "set_iterator.__iter__":=
 .of (owner:="set_iterator") (n:="__iter__") (by rw[typeLookup_type,E3]; kernel_rfl) (by decide +kernel) (by decide +kernel) (by decide +kernel)
  (by first | exact .inl (by decide +kernel) | exact .inr (by decide +kernel)) (by rw[isSubtype_type]; kernel_rfl)
theorem nG:entryFor table "set_iterator.__iter__" = some Builtin.«dict_keyiterator.__iter__»:=entryFor_alias (id':="dict_keyiterator.__iter__") (by kernel_rfl) (by decide +kernel) (by decide +kernel) (by kernel_rfl)
theorem pM(a:Value):argsOk "set_iterator.__iter__" ⟨[a],[]⟩:=by
 unfold argsOk; rw[signature?_of (id:="set_iterator.__iter__") (n:=['_','_','r','e','t','i','_','_']) (o:=['r','o','t','a','r','e','t','i','_','t','e','s']) (by kernel_rfl) tK]; kernel_rfl
theorem my:entryFor table "set.__iter__" = some Builtin.«frozenset.__iter__»:=entryFor_alias (id':="frozenset.__iter__") (by kernel_rfl) (by decide +kernel) (by decide +kernel) (by kernel_rfl)
theorem Cr:typeLookup (.type "set") "__len__" = pure (some (.builtin "set.__len__")):=by rw[typeLookup_type,E3]; kernel_rfl
def i9(h:Heap)(it a:Addr)(first:Value)(i n ep:Nat):Prop:=∃ o,h.get? it=some o/\o.cls=.type "set_iterator"/\o.data=.fields #[first,.int i 0,.ref a,.int n 0,.int ep 0]
def jv(h:Heap)(a:Addr)(es:Array (Int × Value))(ep:Nat)(t:SetTable):Prop:=∃ o,h.get? a=some o/\o.ExactSet/\o.data=.set es ep t
theorem i9.at{it:Addr}{first:Value}(x:i9 h it a first i n ep)(e:∀ o,h.get? it=some o->h'.get? it=some o):i9 h' it a first i n ep:=let ⟨o,ho,r⟩:=x; ⟨o,e o ho,r⟩
theorem jv.at(x:jv h a es ep t)(e:∀ o,h.get? a=some o->h'.get? a=some o):jv h' a es ep t:=let ⟨o,ho,r⟩:=x; ⟨o,e o ho,r⟩
section
variable {E:Value->Shared->Prop}{s:Shared}{it:Addr}{first:Value}
theorem k9{Q:Bool->Shared->Prop}(h:Q (w.params.followText "set-order") s):wpAny (model prog w) A setsByText Q E s:=by
 unfold setsByText;exact ar (wpAny_askSetting (aO h))
theorem o6{nx:Nat}{x:Value}(hit:i9 s.heap it a (.int slot 0) i es.size ep)(hm:jv s.heap a es ep t)(hf:t.fits es.size=true)
  (hx:∀ {A9:Around} {E9:Value->Shared->Prop} {Q9:Option (Value × Nat)->Shared->Prop},Q9 (some (x,nx)) s->wpAny (model prog w) A9 (setNext a slot i ep) Q9 E9 s)
  (hQ:∀ h',i9 h' it a (.int nx 0) (i + 1) es.size ep->Heap.SameBut it s.heap h'->Q (some x) { s with heap:=h' }):wpAny (model prog w) A (pyNext (.ref it)) Q E s:=by
 obtain⟨o,O,b,J⟩:=id hit;obtain⟨od,Z,e,V⟩:=hm;have I:s.TypeIs (.ref it) "set_iterator":=⟨o,O,b⟩
 unfold pyNext;refine ar (yz (wJ (name:=Str.ofString "__next__") I bN (lD bN I d3 ?_ (eO _))));refine ar (aO (ar (wpAny_fieldsOf O J ?_)));dsimp only;refine ar (wpAny_setEntries_of Z V hf ?_);rw[if_neg (by simp)];simp only[qU];refine ar (hx ?_);dsimp only;refine ar (Bw O J (by simp) ?_);have c:=xZ (Obj.mapFields (·.setIfInBounds 0 (rawInt (nx:Int)))) O (FV (yF J _));have d:(Obj.mapFields (·.setIfInBounds 0 (rawInt (nx:Int))) o).cls=.type "set_iterator":=(Obj.cls_mapFields ..).trans b;have U:=yF J (·.setIfInBounds 0 (rawInt (nx:Int)));have f:=yB s.heap it (Obj.mapFields (·.setIfInBounds 0 (rawInt (nx:Int))));generalize s.heap.update it (Obj.mapFields (·.setIfInBounds 0 (rawInt (nx:Int))))=h1 at *;refine ar (Bw (s:={ s with heap:=h1 }) c U (by simp) ?_);refine aO ⟨_,rfl,aO (hQ _ ⟨_,xZ _ c (FV (yF U _)),(Obj.cls_mapFields ..).trans d,?_⟩ (f.trans (yB ..)))⟩;rw[yF U];simp[rawInt]
theorem o9(hh:A.handled=none)(hit:i9 s.heap it a (.int slot 0) i es.size ep)(hm:jv s.heap a es ep t)(hf:t.fits es.size=true)
  (hx:∀ {A9:Around} {E9:Value->Shared->Prop} {Q9:Option (Value × Nat)->Shared->Prop},Q9 none s->wpAny (model prog w) A9 (setNext a slot i ep) Q9 E9 s)
  (hQ:∀ h',Heap.ExtBut it s.heap h'->Q none { s with heap:=h' }):wpAny (model prog w) A (pyNext (.ref it)) Q E s:=by
 obtain⟨o,J,c,V⟩:=id hit;obtain⟨od,U,Z,O⟩:=hm;have I:s.TypeIs (.ref it) "set_iterator":=⟨o,J,c⟩
 unfold pyNext;refine ar (yz (wJ (name:=Str.ofString "__next__") I bN (lD bN I d3 ?_ (eO _))));refine ar (aO (ar (wpAny_fieldsOf J V ?_)));dsimp only;refine ar (wpAny_setEntries_of U O hf ?_);rw[if_neg (by simp)];simp only[qU];refine ar (hx ?_);dsimp only;refine ar (Bw J V (by simp) ?_)
 (show wpAny _ _ (newExc (.type "StopIteration") [] >>= _) _ _ _; refine ar ?_; simp only[newExc,newTuple])
 refine ar (qV (ar (m:=firstArgMember _ _) (wpAny_of_eq (a:=Value.none) (by first | rfl | (simp only[firstArgMember]; rfl)) (qV ?_ (by size_fits)))) (by size_fits))
 (simp only[raiseNew]; refine ar (wpAny_handled ?_); rw[show A.in1.handled=none from hh])
 (refine ar (aO (wpAny_throw ?_)); refine ar (Cy (T:="StopIteration") (b:=true) ⟨_,fB _ rfl,rfl⟩ isSubtype_stop ?_))
 exact aO (hQ _ (((yB ..).extBut.push _).push _))
theorem Du{pt:Addr}{pl:Nat}{e:Int × Value}(hit:i9 s.heap it a (.ref pt) i es.size ep)(hm:jv s.heap a es ep t)(hf:t.fits es.size=true)(hp:s.heap.IsTuple pt pls)(hpl:pls[i]?=some (.int pl 0))(he:es[pl]?=some e)
  (hQ:∀ h',i9 h' it a (.ref pt) (i + 1) es.size ep->Heap.SameBut it s.heap h'->Q (some e.2) { s with heap:=h' }):wpAny (model prog w) A (pyNext (.ref it)) Q E s:=by
 obtain⟨o,V,c,U⟩:=id hit;obtain⟨od,O,d,J⟩:=hm;obtain⟨op,b,_,np,Z⟩:=hp;have I:s.TypeIs (.ref it) "set_iterator":=⟨o,V,c⟩
 unfold pyNext;refine ar (yz (wJ (name:=Str.ofString "__next__") I bN (lD bN I d3 ?_ (eO _))));refine ar (aO (ar (wpAny_fieldsOf V U ?_)));dsimp only;refine ar (wpAny_setEntries_of O J hf ?_);rw[if_neg (by simp)];simp only[qU];refine ar ?_;unfold seqItems?;refine ar (wpAny_load b ?_);rw[Z];refine aO ?_;dsimp only;rw[hpl];dsimp only;unfold setNextDrawn;refine ar (ar (BD O J hf ?_));dsimp only;simp only[bne_self_eq_false,gD,fO,qU,he];refine aO ?_;refine ar (Bw V U (by simp) ?_);refine aO ⟨_,rfl,aO (hQ _ ⟨_,xZ _ V (FV (yF U _)),(Obj.cls_mapFields ..).trans c,?_⟩ (yB ..))⟩;rw[yF U];simp[rawInt]
theorem Cg{pt:Addr}(hh:A.handled=none)(hit:i9 s.heap it a (.ref pt) i es.size ep)(hm:jv s.heap a es ep t)(hf:t.fits es.size=true)(hp:s.heap.IsTuple pt pls)(hpl:pls[i]?=none)
  (hQ:∀ h',Heap.ExtBut it s.heap h'->Q none { s with heap:=h' }):wpAny (model prog w) A (pyNext (.ref it)) Q E s:=by
 obtain⟨o,O,f,J⟩:=id hit;obtain⟨od,c,e,Z⟩:=hm;obtain⟨op,V,_,np,U⟩:=hp;have I:s.TypeIs (.ref it) "set_iterator":=⟨o,O,f⟩
 unfold pyNext;refine ar (yz (wJ (name:=Str.ofString "__next__") I bN (lD bN I d3 ?_ (eO _))));refine ar (aO (ar (wpAny_fieldsOf O J ?_)));dsimp only;refine ar (wpAny_setEntries_of c Z hf ?_);rw[if_neg (by simp)];simp only[qU];refine ar ?_;unfold seqItems?;refine ar (wpAny_load V ?_);rw[U];refine aO ?_;dsimp only;rw[hpl];dsimp only;refine ar (Bw O J (by simp) ?_);have g:=xZ (Obj.mapFields (·.setIfInBounds 0 (rawInt 0))) O (FV (yF J _));have d:=yF J (·.setIfInBounds 0 (rawInt 0));have h:=yB s.heap it (Obj.mapFields (·.setIfInBounds 0 (rawInt 0)));generalize s.heap.update it (Obj.mapFields (·.setIfInBounds 0 (rawInt 0)))=h1 at *;refine ar (Bw (s:={ s with heap:=h1 }) g d (by simp) ?_)
 (show wpAny _ _ (newExc (.type "StopIteration") [] >>= _) _ _ _; refine ar ?_; simp only[newExc,newTuple])
 refine ar (qV (ar (m:=firstArgMember _ _) (wpAny_of_eq (a:=Value.none) (by first | rfl | (simp only[firstArgMember]; rfl)) (qV ?_ (by size_fits)))) (by size_fits))
 (simp only[raiseNew]; refine ar (wpAny_handled ?_); rw[show A.in1.handled=none from hh])
 (refine ar (aO (wpAny_throw ?_)); refine ar (Cy (T:="StopIteration") (b:=true) ⟨_,fB _ rfl,rfl⟩ isSubtype_stop ?_))
 exact aO (hQ _ (((h.trans (yB ..)).extBut.push _).push _))
theorem jb{α:Type}:∀ {l:List α} {i:Nat} (h:i < l.length),(l[i]::l.eraseIdx i).Perm l
 | x::l,0,_=>.refl _
 | x::l,i + 1,h=>by
  have:=jb (l:=l) (i:=i) (Nat.lt_of_succ_lt_succ h);exact (List.Perm.swap ..).trans (this.cons x)
theorem hU{α:Type}(next:Nat->Nat):∀ (fuel k:Nat) (left:List α) (out:Array α),left.length=fuel->(pickOrder.go next fuel k left out).toList.Perm (out.toList++left)
 | 0,k,left,out,h=>by
  cases left with
  | nil=>unfold pickOrder.go; rw[jL]
  | cons=>cases h
 | fuel + 1,k,left,out,h=>by
  unfold pickOrder.go;have hlt:next k % left.length < left.length:=Nat.mod_lt _ (by lia);rw[cL hlt];refine (hU next fuel (k + 1) _ _ (by rw[List.length_eraseIdx_of_lt hlt]; lia)).trans ?_;rw[Ep,iD];exact (jb hlt).append_left _
theorem ve{src:Source}{Q:Nat->Shared->Prop}(hn:0 < n)(h:∀ i d',i < n->Q i { s with drawn:=d' }):wpAny (model prog w) A (choose src n) Q E s:=fun Γ p I=>(PySem.Sem.wp_choose ..).mpr ⟨by lia,h _ _ (Nat.mod_lt _ hn)⟩
theorem nX{α:Type}:∀ (n:Nat) (xs:List α) {s:Shared} {Q:List α->Shared->Prop},xs.length=n->(∀ ys d',ys.Perm xs->Q ys { s with drawn:=d' })->wpAny (model prog w) A (drawOrder n xs) Q E s
 | 0,xs,s,Q,h,q=>by
  unfold drawOrder;cases xs with
  | nil=>exact aO (q [] s.drawn (.refl _))
  | cons=>cases h
 | n + 1,[],s,Q,h,q=>by cases h
 | n + 1,x::xs,s,Q,h,q=>by
  unfold drawOrder;refine ar (ve (by simp) fun i d' hi=>?_);rw[cL hi];dsimp only;refine ar (nX n _ (s:={ s with drawn:=d' }) (by rw[List.length_eraseIdx_of_lt hi]; simp at h |-; omega) fun ys d2 hp=>aO (q _ d2 ?_));exact (hp.cons _).trans (jb hi)
theorem AZ{Q:Value->Shared->Prop}(T:kR es t)(hm:jv s.heap a es ep t)(hz:es.size<=sizeLine)
  (q1:(!(w.params.followText "set-order") && (!t.plain && decide (es.size > 1)))=false->Q (.ref s.heap.objs.size) { s with heap:=s.heap.push { cls:=.type "set_iterator",data:=.fields #[.int 0 0,.int 0 0,.ref a,.int es.size 0,.int ep 0] } })
  (q2:∀ (ys:List Nat) d',ys.Perm (List.range es.size)->Q (.ref (s.heap.objs.size + 1)) { s with drawn:=d',heap:=(s.heap.push { cls:=.type "tuple",data:=.seq (ys.map fun (i:Nat)=>rawInt i).toArray }).push { cls:=.type "set_iterator",data:=.fields #[.ref s.heap.objs.size,.int 0 0,.ref a,.int es.size 0,.int ep 0] } }):wpAny (model prog w) A (pyIter (.ref a)) Q E s:=by
 obtain⟨o,I,V,J⟩:=hm;have U:s.TypeIs (.ref a) "set":=⟨o,I,V.1⟩
 refine E5 U F.slot_set_iter (lD F.slot_set_iter U my ?_ (F.args_set_iter_1 _));unfold Builtin.«frozenset.__iter__»;refine ar (aO ?_);refine ar ?_;unfold Builtin.Frozenset.sizeOf;refine ar (wpAny_setEntries_of I J T.fits (aO ?_));refine ar ?_;unfold setDrawn;refine ar (BD I J T.fits ?_);dsimp only;refine ar (k9 (aO ?_));show wpAny _ _ (if (!(w.params.followText "set-order") && (!t.plain && decide (es.size > 1)))=true then _ else _) _ _ s;cases c:(!(w.params.followText "set-order") && (!t.plain && decide (es.size > 1))) with
 | true=>
  rw[if_pos rfl];refine ar (nX es.size (List.range es.size) kY fun ys d' O=>?_);refine ar (wpAny_newTuple ?_ (by rw[bL,O.length_eq,kY]; exact hz));refine ar (wpAny_setEpoch_of (s:={ s with drawn:=d',heap:=s.heap.push (seqObj "tuple" (ys.map fun (i:Nat)=>rawInt i).toArray 0) }) (cB _ I) J T.fits ?_);unfold newFields;refine ar (qV (aO ⟨_,rfl, "set_iterator",_,⟨_,fB _ rfl,rfl⟩,bN.lookup,?_⟩));have:=q2 ys d' O;rw[<-yx s.heap { cls:=.type "tuple",data:=.seq (ys.map fun (i:Nat)=>rawInt i).toArray }]at this;exact this
 | false=>
  rw[if_neg eN];refine ar (aO (ar (wpAny_setEpoch_of I J T.fits ?_)));unfold newFields;exact ar (qV (aO ⟨_,rfl, "set_iterator",_,⟨_,fB _ rfl,rfl⟩,bN.lookup,q1 c⟩))
theorem ql{Q:Value->Shared->Prop}(hit:i9 s.heap it a first i n ep)(h:Q (.ref it) s):wpAny (model prog w) A (pyIter (.ref it)) Q E s:=by
 have I:s.TypeIs (.ref it) "set_iterator":=let ⟨o,ho,hc,_⟩:=hit; ⟨o,ho,hc⟩
 refine E5 I jQ (lD jQ I nG ?_ (pM _));show wpAny _ _ (ret (.ref it)) _ _ s;exact aO ⟨_,rfl, "set_iterator",_,I,bN.lookup,h⟩
theorem oq(T:kR es t)(hm:jv s.heap a es ep t)(hb:w.params.followText "set-order" = true){Q:Option (Value × Nat)->Shared->Prop}
  (h:Q (((pickOrder (w.params.setOrder a ep) es)[i]?).map fun e=>(e.2,slot)) s):wpAny (model prog w) A (setNext a slot i ep) Q E s:=by
 obtain⟨o,J,O,I⟩:=hm;unfold setNext;refine ar (BD J I T.fits ?_);dsimp only;refine ar (k9 ?_);rw[if_pos hb];simp only[bne_self_eq_false,gD,fO];refine ar ?_;unfold setWalk;refine ar (BD J I T.fits ?_);dsimp only;refine ar (k9 ?_);rw[if_pos hb];exact ar (wpAny_askSetting (aO (aO h)))
theorem oh(T:kR es t)(hm:jv s.heap a es ep t)(hb:w.params.followText "set-order" = false)(hp:(!t.plain && decide (es.size > 1))=false)(hl:t.led=true)(hs:SetTable.below t.place slot=i){g:Nat}{Q:Option (Value × Nat)->Shared->Prop}
  (h:Q (match es[i]?,t.place[i]? with | some e,some j=>some (e.2,j + 1) | _,_=>none) s):wpAny (model prog w) A (setNext a slot g ep) Q E s:=by
 obtain⟨o,U,V,O⟩:=hm;unfold setNext;refine ar (BD U O T.fits ?_);dsimp only;refine ar (k9 ?_);rw[if_neg (by rw[hb]; exact eN)];show wpAny _ _ (if (!t.plain && decide (es.size > 1))=true then _ else _) _ _ _;rw[if_neg (by rw[hp]; exact eN)];show wpAny _ _ ((if (!t.led && !es.isEmpty)=true then _ else pure ()) >>= _) _ _ _;rw[if_neg (by rw[hl]; exact eN)];refine ar (aO (aO ?_));rw[hs];cases I:es[i]? with
 | none=>rw[I]at h; exact h
 | some e=>
  rw[I]at h;cases J:t.place[i]? with
  | none=>rw[J]at h; exact h
  | some j=>rw[J]at h; exact h
end
abbrev Vt(vals:List Value)(i:Nat)(v:Value):Prop:=vals[i]?=some v
section
variable {it:Addr}
theorem yv(hh:A.handled=none)(hne:a≠it)(T:kR es t)(hb:w.params.followText "set-order" = true) :
  Walks prog w A it [it,a] [it] es.size (Vt ((pickOrder (w.params.setOrder a ep) es).toList.map (·.2))) (fun i h=>i9 h it a (.int 0 0) i es.size ep/\jv h a es ep t) where
 sub:=fun b hb=>by simp at hb; simp[hb]
 frame:=fun _ _ _ st V=>⟨st.1.at fun o e=>V it (by simp) o e,st.2.at fun o e=>V a (by simp) o e⟩
 item:=fun i s Q E hi st J=>by
  have Z:i < (pickOrder (w.params.setOrder a ep) es).size:=by
   have:=(hU (w.params.setOrder a ep) es.size 0 es.toList #[] (by simp)).length_eq;rw[dY]at this;show i < (pickOrder.go _ es.size 0 es.toList #[]).size;simp at this
   lia
  refine o6 (slot:=0) (nx:=0) (x:=((pickOrder (w.params.setOrder a ep) es)[i]).2) st.1 st.2 T.fits (fun {A E Q} q=>oq T st.2 hb ?_) fun h' I O=>J _ h' s.toks ?_ ⟨I,st.2.at fun o e=>O.extBut a o hne e⟩ fun b o hb e=>O.extBut b o (fun h=>hb (by simp[h])) e
  ·rw[iG Z]; exact q
  ·show (List.map _ _)[i]?=_;rw[g6,iI,iG Z]; rfl
 done:=fun s Q E st J=>by
  refine o9 (slot:=0) hh st.1 st.2 T.fits (fun {A E Q} q=>oq T st.2 hb ?_) fun h' U=>J h' s.toks fun b o hb e=>U b o (fun h=>hb (by simp[h])) e
  rw[F0]
  ·exact q
  ·have:=(hU (w.params.setOrder a ep) es.size 0 es.toList #[] (by simp)).length_eq;rw[dY]at this;show (pickOrder.go _ es.size 0 es.toList #[]).size<=_;simp at this
   lia
 self:=fun _ _ _ _ st J=>ql st.1 J
def sl(pl:Array Nat):Nat->Nat
 | 0=>0
 | i + 1=>pl.getD i 0 + 1
theorem sZ(T:kR es t)(hi:i<=es.size):SetTable.below t.place (sl t.place i)=i:=by
 obtain⟨Z,U,V⟩:=iS T.rise (sl t.place i);have sz:=T.size;rcases Nat.lt_trichotomy (SetTable.below t.place (sl t.place i)) i with c | c | c
 ·obtain⟨i,rfl⟩:∃ k,i=k + 1:=⟨i - 1,by lia⟩
  have I:i < t.place.size:=by lia
  have e:t.place[i]?=some t.place[i]:=iG I;have:=V i _ e (by lia);have O:sl t.place (i + 1)=t.place[i] + 1:=by show t.place.getD i 0 + 1=_; simp[Array.getD,I]
  lia
 ·exact c
 ·have I:i < t.place.size:=by lia
  have e:t.place[i]?=some t.place[i]:=iG I;have:=U i _ e c;cases i with
  | zero=>exact absurd this (Nat.not_lt_zero _)
  | succ i=>
   have J:i < t.place.size:=by lia
   have O:sl t.place (i + 1)=t.place[i] + 1:=by show t.place.getD i 0 + 1=_; simp[Array.getD,J]
   have:=FY.mp T.rise i (i + 1) (by simpa using J) (by simpa using I) (by lia);simp at this
   lia
theorem yj(hh:A.handled=none)(hne:a≠it)(T:kR es t)(hb:w.params.followText "set-order" = false)(hp:(!t.plain && decide (es.size > 1))=false)(hl:t.led=true) :
  Walks prog w A it [it,a] [it] es.size (Vt (es.toList.map (·.2))) (fun i h=>i<=es.size/\i9 h it a (.int (sl t.place i) 0) i es.size ep/\jv h a es ep t) where
 sub:=fun b hb=>by simp at hb; simp[hb]
 frame:=fun _ _ _ st Z=>⟨st.1,st.2.1.at fun o e=>Z it (by simp) o e,st.2.2.at fun o e=>Z a (by simp) o e⟩
 item:=fun i s Q E hi st J=>by
  have U:i < t.place.size:=by rw[T.size]; exact hi
  refine o6 (slot:=sl t.place i) (nx:=t.place[i] + 1) (x:=(es[i]).2) st.2.1 st.2.2 T.fits (fun {A E Q} q=>oh T st.2.2 hb hp hl (sZ T st.1) ?_) fun h' I O=>J _ h' s.toks ?_ ⟨hi,?_,st.2.2.at fun o e=>O.extBut a o hne e⟩ fun b o hb e=>O.extBut b o (fun h=>hb (by simp[h])) e
  ·rw[iG hi,iG U]; exact q
  ·show (List.map _ _)[i]?=_;rw[g6,iI,iG hi]; rfl
  ·have c:sl t.place (i + 1)=t.place[i] + 1:=by show t.place.getD i 0 + 1=_; simp[Array.getD,U]
   rw[c]; exact I
 done:=fun s Q E st J=>by
  refine o9 (slot:=sl t.place es.size) hh st.2.1 st.2.2 T.fits (fun {A E Q} q=>oh T st.2.2 hb hp hl (sZ T st.1) ?_) fun h' V=>J h' s.toks fun b o hb e=>V b o (fun h=>hb (by simp[h])) e
  rw[F0 (bH _)];exact q
 self:=fun _ _ _ _ st J=>ql st.2.1 J
theorem Dx(hh:A.handled=none)(hne:a≠it)(T:kR es t){pt:Addr}(hpt:pt≠it){ys:List Nat}(hy:ys.Perm (List.range es.size)) :
  Walks prog w A it [it,a,pt] [it] es.size (Vt (ys.filterMap fun j=>es[j]?.map (·.2))) (fun i h=>i9 h it a (.ref pt) i es.size ep/\jv h a es ep t/\h.IsTuple pt (ys.map fun (i:Nat)=>rawInt i).toArray):=by
 have all:∀ i,i < es.size->∃ j e,ys[i]?=some j/\es[j]?=some e:=fun i hi=>by
  have l:i < ys.length:=by rw[hy.length_eq,kY]; exact hi
  have:=hy.mem_iff.mp (wN l);have O:=tT.mp this;exact⟨ys[i],es[ys[i]],cL l,iG O⟩
 have get:∀ (ys:List Nat),(∀ j∈ys,j < es.size)->∀ i:Nat,(ys.filterMap fun (j:Nat)=>es[j]?.map (·.2))[i]?=ys[i]?.bind fun (j:Nat)=>es[j]?.map (·.2):=by
  intro ys
  induction ys with
  | nil=>intro _ i; rfl
  | cons j ys m=>
   intro h i;have O:=h j (.head _);rw[List.filterMap_cons_some (b:=es[j].2) (by rw[iG O]; rfl)];cases i with
   | zero=>show some _=(es[j]?.map (·.2)); rw[iG O]; rfl
   | succ i=>exact m (fun k Z=>h k (.tail _ Z)) i
 have lt:∀ j∈ys,j < es.size:=fun j O=>tT.mp (hy.mem_iff.mp O)
 refine⟨fun b J=>by simp at J; simp[J],fun _ _ _ st Z=>⟨st.1.at fun o e=>Z it (by simp) o e,st.2.1.at fun o e=>Z a (by simp) o e,let ⟨o,c,r⟩:=st.2.2; ⟨o,Z pt (by simp) o c,r⟩⟩,fun i s Q E hi st V=>?_,fun s Q E st V=>?_,fun _ _ _ _ st V=>ql st.1 V⟩
 ·obtain⟨j,e,g,f⟩:=all i hi;refine Du (pl:=j) (e:=e) st.1 st.2.1 T.fits st.2.2 (by rw[List.getElem?_toArray,g6,g]; rfl) f fun h' U I=>V _ h' s.toks ?_ ⟨U,st.2.1.at fun o e=>I.extBut a o hne e,?_⟩ fun b o J e=>I.extBut b o (fun h=>J (by simp[h])) e
  ·show (List.filterMap _ _)[i]?=_;rw[get ys lt i,g];show es[j]?.map (·.2)=_;rw[f]; rfl
  ·obtain⟨o,c,r⟩:=st.2.2;exact⟨o,I.extBut pt o hpt c,r⟩
 ·refine Cg hh st.1 st.2.1 T.fits st.2.2 ?_ fun h' d=>V h' s.toks fun b o J e=>d b o (fun h=>J (by simp[h])) e
  rw[List.getElem?_toArray,g6,yD (by rw[hy.length_eq,kY]; exact bH _)]; rfl
end
end Tb
namespace Tb
open PySem PySem.Spec PyProof.Rows L2 Gs
section
variable {prog:Program}{w:World}{A:Around}{E:Value->Shared->Prop}{s:Shared}
def Ext(prog:Program)(w:World)(A:Around)(s1:Shared)(S d:Addr)(Pv:Array Value->Prop):Prop:=∀ (A':Around) (R:Result->Shared->Prop),A'.handled=none->
 (∀ (s':Shared) (acc:Array Value) (c':Nat),(∀ b o,b≠S->s1.heap.get? b=some o->s'.heap.get? b=some o)->s'.gens=s1.gens->s'.os=s1.os->s'.heap.get? S=some { cls:=.type "list",dict:=none,data:=.seq acc c',slots:=#[] }->Pv acc->R (.ok (.ret (.ref S))) s')->
 codeAny (model prog w) A' (.builtin "list.__iadd__" ⟨[.ref S,.ref d],[]⟩) R s1
theorem mf{d:Addr}{Q:Value->Shared->Prop}{Pv Po:Array Value->Prop}(hh:A.handled=none)(hn:∀ acc,Pv acc->acc.size<=sizeLine)
  (hext:Ext prog w A { s with heap:=s.heap.push { cls:=.type "list",data:=.seq ([]:List Value).toArray } } s.heap.objs.size d Pv)
  (hs:∀ (A2:Around) (E2:Value->Shared->Prop) (s2:Shared) (L:Addr) (acc:Array Value) (P:PySem.Fin->Shared->Prop),A2.units<=A.units + 4->s2.heap.get? L=some (seqObj "list" acc.toList.toArray 0)->(∀ b o,s.heap.get? b=some o->s2.heap.get? b=some o)->Pv acc->
   (∀ out,Po out->P (.done (.ret .none)) { s2 with heap:=sortedHeap s2.heap L acc.toList out })->wpAny (model prog w) A2 (Builtin.«list.sort» ⟨[.ref L],[]⟩) P E2 s2)
  (q:∀ (s':Shared) (l:Addr) (out:Array Value) (c:Nat),(∀ b o,s.heap.get? b=some o->s'.heap.get? b=some o)->s'.gens=s.gens->s'.os=s.os->s.heap.objs.size<=l->s'.heap.get? l=some (seqObj "list" out c)->Po out->Q (.ref l) s') :
  wpAny (model prog w) A (call (.builtin "sorted") [.ref d]) Q E s:=by
 refine Calls.call_function_entry kind_sorted plain_sorted entry_sorted (args_sorted1 _) ?_;unfold Builtin.«sorted»;refine ar (m:=checkCount "sorted" 1 1 _) (aO ?_);refine ar (Q:=_) ?_;unfold collect;refine ar (wpAny_runValue (ug F.entry_proto_collect ?_));rw[wk F.plain_proto_collect _];refine ar (qV (aO ⟨xJ F.plain_list_iadd _,?_⟩));refine hext _ _ (by exact hh) fun s1 acc k k1 j i a I=>?_
 refine ar (wpAny_load a (aO ?_));refine ar (wpAny_newList ?_ (by rw[dY]; exact hn acc I));have J:(s1.heap.push (seqObj "list" acc.toList.toArray 0)).get? s1.heap.objs.size=some (seqObj "list" acc.toList.toArray 0):=fB _ rfl;have U:s.heap.objs.size < s1.heap.objs.size:=cG a;have Z:∀ b o,s.heap.get? b=some o->s1.heap.get? b=some o:=fun b o e=>k1 b o (cH (cG e)) (cB _ e)
 refine ar (iA (lD slot_list_sort ⟨_,J,rfl⟩ entry_list_sort (hs _ _ { s1 with heap:=s1.heap.push (seqObj "list" acc.toList.toArray 0) } s1.heap.objs.size acc _ ?_ J (fun b o e=>cB _ (Z b o e)) I fun out g=>⟨_,rfl,?_⟩) (args_list_sort _)))
 ·show A.units + 1 + 1<=A.units + 4;omega
 obtain⟨f,V⟩:=sortedHeap_at (h:=s1.heap.push (seqObj "list" acc.toList.toArray 0)) (n:=0) (out:=out) J;refine aO ⟨_,rfl,q _ _ out f (fun b o e=>?_) j i (vm U) V g⟩;have O:b < s1.heap.objs.size:=Nat.lt_trans (cG e) U;show (sortedHeap (s1.heap.push (seqObj "list" acc.toList.toArray 0)) s1.heap.objs.size acc.toList out).get? b=some o;rw[sortedHeap_old (cH O) (by rw[size_push']; exact DX O)];exact cB _ (Z b o e)
end
end Tb
namespace Tb
open PySem PySem.Spec PyProof.Rows L2 Gs
variable {S d:Addr}{s1:Shared}{n:Nat}{vals:List Value}
abbrev Refs(prog:Program)(w:World)(h:Heap):List (List D)->List Value->Prop:=Paired fun k v=>∃ b,v=.ref b/\(aI prog w).is h k b
section
variable {prog:Program}{w:World}{A:Around}{E:Value->Shared->Prop}{s:Shared}{R:Result->Shared->Prop}
theorem CA{es:Array DictEntry}{ep:Nat}(hsm:(d == sysModules)=false)(hne:d≠S)(hS:s1.heap.get? S=some { cls:=.type "list",data:=.seq #[] })(hm:Srt.jh s1.heap d es ep)(hn:es.size<=sizeLine) :
  Ext prog w A s1 S d fun acc=>ItemsOf (fun i v=>∃ e,es[i]?=some e/\v=e.key) acc es.size:=by
 intro U R I J;refine ug F.entry_list_iadd ?_;rw[wk F.plain_list_iadd _];exact Srt.uN S d _ _ I hsm hne hS hm hn fun s' acc O k g d o h1 h2=>J s' acc O k g o h1 h2
theorem uf{it:Addr}{s2:Shared}{fp:List Addr}{St:Nat->Heap->Prop}{res:Value}{c₀:Nat}{bb:Bool}(hbb:bb=true)(W:Walks prog w A.in1 it fp [it] n (Vt vals) St)(hn:n<=sizeLine)(hSf:S∉fp)(hSi:S≠it)(hST:St 0 s2.heap)(hS:s2.heap.get? S=some { cls:=.type "list",data:=.seq #[] c₀ })(hT:s2.TypeIs (.ref d) "set")
  (hR:∀ s' acc c',(∀ b o,b≠S->b≠it->s2.heap.get? b=some o->s'.heap.get? b=some o)->s'.gens=s2.gens->s'.os=s2.os->
   s'.heap.get? S=some { cls:=.type "list",dict:=none,data:=.seq acc c',slots:=#[] }->ItemsOf (Vt vals) acc n->R (.ok (.ret res)) s') :
  wpAny (model prog w) A.in1 (holding [.ref it] (Builtin.List.listLengthHint (.ref d)) >>= fun room=>if (room || bb)=true then rule "list.extend.makes-room" >>= fun _=>Builtin.List.listTouch (.ref S) >>= fun _=>again (.builtin "list.extend.loop" ⟨[.ref S,.ref it,res],[]⟩) else again (.builtin "list.extend.loop" ⟨[.ref S,.ref it,res],[]⟩))
   (fun fin s'=>match fin with | .done f=>R (.ok f) s' | .again c'=>c'.quiet=true/\codeAny (model prog w) A c' R s') (fun e s'=>R (.error e) s') s2:=by
 refine ar (iA ?_);unfold Builtin.List.listLengthHint;refine ar (Ax hT Cr ?_)
 (generalize hid:("set.__len__":String)=Z; (fail_if_success (clear hid Z)); wp_delta; rw[show splitId Z=some ("set","__len__") from by subst hid; decide +kernel]; subst hid)
 refine ar (Cy (b:=true) hT (by rw[isSubtype_type]; kernel_rfl) ?_);refine ar (m:=typeOf (.ref d)) (vi hT ?_);refine aO ?_;rw[hbb,Bool.or_true,if_pos rfl];refine ar (sT ?_);refine ar ?_;unfold Builtin.List.listTouch;refine ar (CV hS rfl ?_ (dI _) (by show 1<=sizeLine + 1; omega));have V:=DO (c:="list") hS (·.push .none);refine CV (s:={ s2 with heap:=s2.heap.update S (Obj.mapSeq (·.push .none)) }) V rfl ?_ (by show 1<=sizeLine; decide) (by show 0<=sizeLine + 1; omega);have a:=DO (c:="list") V (·.pop);have i:∀ b o,b≠S->s2.heap.get? b=some o->((s2.heap.update S (Obj.mapSeq (·.push .none))).update S (Obj.mapSeq (·.pop))).get? b=some o:=fun b o I e=>
  (vN _ _ (Ne.symm I)).trans ((vN _ _ (Ne.symm I)).trans e)
 have j:=W.toS;refine aO ⟨xJ EO _,codeAny_extend_loopS j hn S hSf _ n 0 _ _ _ rfl (dI _) ?_ a (ItemsOf.nil _) fun s' U c' J g O=>?_⟩
 ·exact W.frame 0 _ _ hST fun b I o e=>i b o (fun z=>hSf (z ▸ I)) e
 ·exact hR s' U c' (fun b o I h e=>J.heap b o (by simp[I,h]) (i b o I e)) J.gens J.os g O
theorem Bt{acc:Array Value}(h:ItemsOf (Vt vals) acc n)(hl:vals.length=n):acc.toList=vals:=by
 refine List.ext_getElem? fun i=>?_
 rw[iI];cases e:acc[i]? with
 | none=>
  have h1:=Array.getElem?_eq_none_iff.mp e;have:=h.1;rw[yD (by omega)]
 | some v=>exact (h.2 i v e).symm
theorem Ce{a:Addr}{ks:List (List D)}(hS:s1.heap.get? S=some { cls:=.type "list",data:=.seq #[] }){G:Value->Prop}(hm:gv prog w G s1.heap a ks)(hne:a≠S)(hn:ks.length<=sizeLine) :
  Ext prog w A s1 S a fun acc=>(∃ ks',ks'.Perm ks/\Refs prog w s1.heap ks' acc.toList)/\∀ v∈acc.toList,G v:=by
 obtain⟨o,es,ep,t,n,E,hd,T,_,_,O,Q,_,M⟩:=hm;have U:ks.length=es.size:=by rw[Q.length,dY]
 have B:∀ {vals:List Value},vals.Perm (es.toList.map (·.2))->∃ ks',ks'.Perm ks/\Refs prog w s1.heap ks' vals:=fun {vals} l=>by
  refine ee l ?_;exact Paired.mapR (fun e:Int × Value=>e.2) Q fun k e ⟨b,e1,e2,_⟩=>⟨b,e1,e2⟩
 intro q R z hR;refine ug F.entry_list_iadd ?_;rw[wk F.plain_list_iadd _];have Y:s1.TypeIs (.ref a) "set":=⟨o,n,E.1⟩
 have r:jv s1.heap a es ep t:=⟨o,n,E,hd⟩
 have Z:a < s1.heap.objs.size:=cG n;have J:S < s1.heap.objs.size:=cG hS;show wpAny _ q.in1 (Builtin.List.listExtendWith (.ref S) (.ref a) (.ref S)) _ _ s1;unfold Builtin.List.listExtendWith;refine ar (vi Y ?_);have h1:Builtin.List.listSameRef (.ref S) (.ref a)=false:=by simp[Builtin.List.listSameRef,Ne.symm hne]
 rw[if_neg (by rw[h1]; decide)];have I:∀ {it:Addr} {s2:Shared} {fp:List Addr} {vals:List Value} {St:Nat->Heap->Prop} {y:Bool},y=true->Walks prog w q.in1 it fp [it] es.size (Vt vals) St->S∉fp->s1.heap.objs.size<=it->St 0 s2.heap->(∀ b o,s1.heap.get? b=some o->s2.heap.get? b=some o)->s2.gens=s1.gens->s2.os=s1.os->vals.Perm (es.toList.map (·.2))->
   wpAny (model prog w) q.in1 (holding [.ref it] (Builtin.List.listLengthHint (.ref a)) >>= fun m=>if (m || y)=true then rule "list.extend.makes-room" >>= fun _=>Builtin.List.listTouch (.ref S) >>= fun _=>again (.builtin "list.extend.loop" ⟨[.ref S,.ref it,.ref S],[]⟩) else again (.builtin "list.extend.loop" ⟨[.ref S,.ref it,.ref S],[]⟩))
   (fun I s'=>match I with | .done f=>R (.ok f) s' | .again s=>s.quiet=true/\codeAny (model prog w) q s R s') (fun e s'=>R (.error e) s') s2:=by
  intro it s2 fp vals St y u W x d H k g os l;refine uf u W (by rw[<-U]; exact hn) x (cH (kU J d)) H (k _ _ hS) ⟨o,k _ _ n,E.1⟩ fun s' acc s k' g' o' C h=>hR s' acc s (fun b o p e=>k' b o p (cH (kU (cG e) d)) (k b o e)) (g'.trans g) (o'.trans os) C ?_
  show (∃ ks',ks'.Perm ks/\Refs prog w s1.heap ks' acc.toList)/\∀ v∈acc.toList,G v;rw[Bt h (by rw[l.length_eq,bL,dY])];exact⟨B l,fun v B=>by obtain⟨e,he,rfl⟩:=eW.mp (l.mem_iff.mp B); exact M e he⟩
 refine ar (AZ T r (by rw[<-U]; exact hn) (fun p=>?_) fun ys d' N=>?_)
 ·have c:∀ b o,s1.heap.get? b=some o->(s1.heap.push { cls:=.type "set_iterator",data:=.fields #[.int 0 0,.int 0 0,.ref a,.int es.size 0,.int ep 0] }).get? b=some o:=fun b o e=>cB _ e
  have j:i9 (s1.heap.push { cls:=.type "set_iterator",data:=.fields #[.int 0 0,.int 0 0,.ref a,.int es.size 0,.int ep 0] }) s1.heap.objs.size a (.int 0 0) 0 es.size ep:=⟨_,fB _ rfl,rfl,rfl⟩
  cases V:w.params.followText "set-order" with
  | true=>
   refine I (s2:={ s1 with heap:=s1.heap.push { cls:=.type "set_iterator",data:=.fields #[.int 0 0,.int 0 0,.ref a,.int es.size 0,.int ep 0] } }) rfl (yv (by exact z) (cH Z) T V) (by simp[cH J,Ne.symm hne]) (bH _) ⟨j,r.at fun o e=>c _ o e⟩ c rfl rfl ?_;have:=(hU (w.params.setOrder a ep) es.size 0 es.toList #[] (by simp)).map (·.2);rw[show #[].toList++es.toList=es.toList from rfl]at this;exact this
  | false=>
   rw[V]at p O;exact I (s2:={ s1 with heap:=s1.heap.push { cls:=.type "set_iterator",data:=.fields #[.int 0 0,.int 0 0,.ref a,.int es.size 0,.int ep 0] } }) rfl (yj (by exact z) (cH Z) T V (by simpa using p) O) (by simp[cH J,Ne.symm hne]) (bH _) ⟨dI _,j,r.at fun o e=>c _ o e⟩ c rfl rfl (.refl _)
 ·have c:∀ b o,s1.heap.get? b=some o->((s1.heap.push { cls:=.type "tuple",data:=.seq (ys.map fun (i:Nat)=>rawInt i).toArray }).push { cls:=.type "set_iterator",data:=.fields #[.ref s1.heap.objs.size,.int 0 0,.ref a,.int es.size 0,.int ep 0] }).get? b=some o:=fun b o e=>cB _ (cB _ e)
  have L:i9 ((s1.heap.push { cls:=.type "tuple",data:=.seq (ys.map fun (i:Nat)=>rawInt i).toArray }).push { cls:=.type "set_iterator",data:=.fields #[.ref s1.heap.objs.size,.int 0 0,.ref a,.int es.size 0,.int ep 0] }) (s1.heap.objs.size + 1) a (.ref s1.heap.objs.size) 0 es.size ep:=by
   refine⟨{ cls:=.type "set_iterator",data:=.fields #[.ref s1.heap.objs.size,.int 0 0,.ref a,.int es.size 0,.int ep 0] },?_,rfl,rfl⟩;rw[show s1.heap.objs.size + 1=(s1.heap.push { cls:=.type "tuple",data:=.seq (ys.map fun (i:Nat)=>rawInt i).toArray }).objs.size from (yx ..).symm];exact fB _ rfl
  refine I (it:=s1.heap.objs.size + 1) (s2:={ s1 with drawn:=d',heap:=(s1.heap.push { cls:=.type "tuple",data:=.seq (ys.map fun (i:Nat)=>rawInt i).toArray }).push { cls:=.type "set_iterator",data:=.fields #[.ref s1.heap.objs.size,.int 0 0,.ref a,.int es.size 0,.int ep 0] } })
   rfl (Dx (pt:=s1.heap.objs.size) (by exact z) (cH (DX Z)) T (cH (Nat.lt_succ_self _)) N) (by simp[cH J,cH (DX J),Ne.symm hne]) (Nat.le_succ _) ⟨L,r.at fun o e=>c _ o e,_,cB _ (fB _ rfl),rfl,_,rfl⟩ c rfl rfl ?_
  refine (N.filterMap _).trans ?_;rw[<-List.map_filterMap,filterMap_getElem?_range]
end
end Tb
namespace Tb
open PySem PySem.Spec PyProof.Rows L2 Gs
variable {h:Heap}{a l:Addr}{ks kk:List (List D)}{items:Array Value}{Q:Value->Shared->Prop}
section
variable {prog:Program}{w:World}{A:Around}{E:Value->Shared->Prop}{s:Shared}{G:Value->Prop}
theorem xF(e:h.get? a=some { cls:=.type "set",dict:=none,data:=.set #[] 0 (.fresh 0 0 (!(w.params.followText "set-order"))) }):gv prog w G h a []:=
 ⟨_,#[],0,_,e,⟨rfl,rfl,rfl⟩,rfl,⟨rfl,⟨3,rfl,bH _⟩,rfl,.nil,fun _ h=>absurd h gh,dI _,fun i e j h=>by cases h⟩,show 0 * 5 < 7 * 3 by decide,show 7<=8191 by decide,rfl,.nil,.nil,fun _ h=>absurd h gh⟩
theorem gv.no(y:gv prog w G h a ks):∀ o,h.get? a=some o->o.cls≠.type "tuple":=fun o e=>by
 obtain⟨O,es,ep,t,I,J,_⟩:=y;rw[I]at e;cases e;rw[J.1];decide
theorem Refs.keep{h':Heap}{vs:List Value}(x:Refs prog w h ks vs)(t:Srt.bK h h'):Refs prog w h' ks vs:=Paired.kN x fun _ _ ⟨b,e,i⟩=>⟨b,e,Srt.cW i t⟩
theorem zb{R:Result->Shared->Prop}{S it:Addr}(hh:A.handled=none)(hil:l≠it)(hSi:S≠it)(hSl:l≠S)(hu:A.units + 5 < cLine)(hb:items.size < 999)(hG:∀ v∈items.toList,G v) :
  ∀ (n i:Nat) (s:Shared),items.size - i=n->i<=items.size->s.heap.IsListIter it l i->s.heap.IsList l items->Refs prog w s.heap kk items.toList->(∃ ks,gv prog w G s.heap S ks/\(∀ x,x∈ks↔x∈kk.take i)/\ks.length<=i)->
  (∀ s',(∀ b o,b≠it->b≠S->s.heap.get? b=some o->s'.heap.get? b=some o)->s'.gens=s.gens->s'.drawn=s.drawn->s'.os=s.os->(∃ ks,gv prog w G s'.heap S ks/\(∀ x,x∈ks↔x∈kk)/\ks.length<=kk.length)->R (.ok (.ret .none)) s')->
  codeAny (model prog w) A (.builtin "set.update.loop" ⟨[.ref S,.ref it],[]⟩) R s:=by
 intro n
 induction n with
 | zero=>
  intro i s p hi I h g y q;have e:i=items.size:=by lia
  subst e;refine ug F.entry_set_update_loop ?_;rw[wk F.plain_set_update_loop _];show wpAny _ A.in1 (pyNext (.ref it) >>= _) _ _ s;refine ar (wpAny_pyNext_list_end hh I h (by simp) fun h' j=>?_);show wpAny _ A.in1 (ret Value.none) _ _ _;obtain⟨ks,k1,k2,k3⟩:=y;have B:kk.length=items.size:=by rw[g.length,dY]
  refine aO (q { s with heap:=h' } (fun b o hb _ e=>j b o hb e) rfl rfl rfl ⟨ks,k1.keep (Srt.fP (Srt.xc I) j) fun o e=>j S o hSi e,fun x=>?_,by lia⟩);rw[k2,yE (by lia)]
 | succ n D=>
  intro i s p hi I h g y q;have a:i < items.size:=by lia
  refine ug F.entry_set_update_loop ?_;rw[wk F.plain_set_update_loop _];show wpAny _ A.in1 (pyNext (.ref it) >>= _) _ _ s;have C:items.toList[i]?=some items[i]:=by rw[iI,iG a]
  obtain⟨k,E,b,d,J⟩:=oy g C;refine ar (wpAny_pyNext_list_item I h (x:=.ref b) (by rw[<-d]; exact iG a) fun h1 f V=>?_);have U:Srt.bK s.heap h1:=Srt.fP (Srt.xc I) V.extBut;obtain⟨ks,k1,k2,k3⟩:=y;have c:=k1.keep U fun o e=>V.extBut S o hSi e
  show wpAny _ A.in1 (holding [Value.ref b] (setAdd S (.ref b)) >>= _) _ _ { s with heap:=h1 };refine ar (iA ?_);unfold setAdd;refine iA ?_;have O:(aI prog w).room A.in1:=by show A.units + 1 + 4 < cLine; lia
  refine ar ((aI prog w).pyHash (s:={ s with heap:=h1 }) O (Srt.cW J U) ?_);refine ub (s:={ s with heap:=h1,toks:=s.toks + (aI prog w).draws k }) O c (Srt.cW J U) (by lia) (hG _ (d ▸ oY C)) fun h2 u r Z k4 k5 H=>?_
  have m:Srt.bK h1 h2:=Srt.fP c.no Z.extBut;refine aO ⟨xJ F.plain_set_update_loop _,?_⟩;have:=D (i + 1) { s with heap:=h2,toks:=s.toks + (aI prog w).draws k } (by lia) a (f.extBut Z.extBut (Ne.symm hSi)) ((h.extBut V.extBut hil).extBut Z.extBut hSl) ((Refs.keep g U).keep m)
   ⟨u,k4,fun x=>by rw[k5,k2,List.take_succ,E]; simp,by lia⟩ fun s' k' g' z o' t=>q s' (fun b o hb J e=>k' b o hb J (Z.extBut b o J (V.extBut b o hb e))) g' z o' t
  exact this
abbrev s0(w:World):Obj:={ cls:=.type "set",dict:=none,data:=.set #[] 0 (.fresh 0 0 (!(w.params.followText "set-order"))) }
theorem Dk(v:Value){K:Value->Shared->Prop}(h:K (.ref s.heap.objs.size) { s with heap:=s.heap.push (s0 w) }):codeAny (model prog w) A (.call (.builtin "set.__new__") ⟨[.type "set",v],[]⟩) (wants K E) s:=by
 refine codeAny_of_tree (ar (wpAny_of_eq (F.newCall_set_1 v) (aO ⟨xJ F.plain_set_new _,ug F.entry_set_new ?_⟩)));rw[wk F.plain_set_new _];have f:=sub_set_self;obtain⟨h1,h2,I,J,O⟩:=s;unfold Builtin.«set.__new__» Builtin.Frozenset.newClass
 wp_walk
 exact wpAny_askSetting (aO (ar (wpAny_alloc (aO (aO h)))))
theorem A3{v:Value}(hb:wpAny (model prog w) A.in1.in1 (Builtin.«set.__init__» ⟨[.ref s.heap.objs.size,v],[]⟩) (fun fin s'=>fin=.done (.ret .none)/\Q (.ref s.heap.objs.size) s') E { s with heap:=s.heap.push (s0 w) }):wpAny (model prog w) A (call (.type "set") [v]) Q E s:=by
 have T:=F.called_set;obtain⟨c,tl,Z⟩:=T.mro;have h:=T.made;have d:=T.sub;refine wpAny_call (codeAny_of_tree (aO ⟨Code.quiet_builtin _ (by decide +kernel),ug F.entry_type_call ?_⟩));rw[Around.under_plain (weight_type_call_type "set" [v] []) rfl];have V:=T.notType;have U:=T.canCreate;have a:=F.typeCall_set_1 v
 repeat (any_goals (first | assumption | wp_step))
 refine codeAny_mono (Dk v (E:=E) (K:=fun x y=>x=.ref s.heap.objs.size/\y={ s with heap:=s.heap.push (s0 w) }) ⟨rfl,rfl⟩) fun r y I=>?_
 rcases r with e | f
 ·exact I
 cases f <;> try exact I.elim
 obtain⟨rfl,rfl⟩:=I;have O:Shared.TypeIs { s with heap:=s.heap.push (s0 w) } (.ref s.heap.objs.size) "set":=⟨_,fB _ rfl,rfl⟩
 have g:=T.init.lookup;have b:=T.init.bind (.ref s.heap.objs.size)
 repeat (any_goals (first | assumption | wp_step))
 refine codeAny_mono (codeAny_call_builtin (R:=wants (fun r y=>r=.none/\Q (.ref s.heap.objs.size) y) E) T.init.plain F.entry_set_init (check_set_init_1 O (tU hb (fun fin y I=>?_) fun _ _ e=>e))) fun r y I=>?_
 ·obtain⟨rfl,J⟩:=I;exact⟨rfl,J⟩
 ·rcases r with e | f
  ·exact I
  cases f <;> try exact I.elim
  obtain⟨rfl,J⟩:=I
  repeat (any_goals (first | assumption | wp_step))
theorem set_list(hh:A.handled=none)(hl:s.heap.IsList l items)(hr:Refs prog w s.heap kk items.toList)(hb:items.size < 999)(hu:A.units + 9 < cLine)
  (h:∀ (h':Heap) (tk:Nat) ks,gv prog w (fun v=>v∈items.toList) h' s.heap.objs.size ks->(∀ x,x∈ks↔x∈kk)->ks.length<=kk.length->(∀ b o,s.heap.get? b=some o->h'.get? b=some o)->Q (.ref s.heap.objs.size) { s with heap:=h',toks:=tk }) :
  wpAny (model prog w) A (call (.type "set") [.ref l]) Q E s:=by
 refine A3 ?_;have Z:(s.heap.push (s0 w)).get? s.heap.objs.size=some (s0 w):=fB _ rfl;have k:Shared.TypeIs { s with heap:=s.heap.push (s0 w) } (.ref s.heap.objs.size) "set":=⟨_,Z,rfl⟩
 have J:l < s.heap.objs.size:=let ⟨_,e,_⟩:=hl; cG e;have U:(s.heap.push (s0 w)).objs.size=s.heap.objs.size + 1:=yx ..;have I:(s.heap.push (s0 w)).IsList l items:=hl.push _;obtain⟨⟨p,i,u,n⟩,r,rfl,nl,rfl⟩:=id I;have t:=F.sub_list_set;have q:=F.sub_list_frozenset;have m:(Value.type "list" == Value.type "dict")=false:=by decide
 unfold Builtin.«set.__init__» noKeywords Builtin.Frozenset.updateFrom;generalize ep:pyIter=P
 wp_walk
 subst ep;refine wpAny_pyIter_list I (ar (wpAny_runValue ?_));have V:∀ b o,s.heap.get? b=some o->((s.heap.push (s0 w)).push { cls:=.type "list_iterator",data:=.fields #[.ref l,.int 0 0] }).get? b=some o:=fun b o e=>cB _ (cB _ e)
 refine zb (kk:=kk) (items:=items) (l:=l) (by simp[hh]) (by rw[U]; exact cH (DX J)) (by rw[U]; exact cH (Nat.lt_succ_self _)) (cH J) ?_ hb (fun v g=>g) items.size 0 _ (by lia) (dI _) ⟨_,fB _ rfl,rfl,rfl⟩ (I.push _) (Refs.keep hr fun b o e _=>V b o e)
  ⟨[],xF (cB _ Z),fun x=>by simp,bH _⟩ fun s' k' g' d' o' ⟨ks,d,c,a⟩=>?_
 ·show A.units + 1 + 1 + 5 < cLine
  lia
 ·obtain⟨h',y,j,O,f⟩:=s';cases g';cases d';cases o';refine aO (aO ⟨rfl,h h' O ks d c a fun b o e=>?_⟩);have hb:=cG e;exact k' b o (by rw[U]; exact cH (DX hb)) (cH hb) (V b o e)
end
end Tb
namespace L2
open PySem PySem.Spec PyProof.Rows
variable {H:Hp}{ks:List (List D)}{vs:List Value}{X:Cx}{us:List (List Int)}{prog:Program}{w:World}{h:Heap}{pins:List (Addr × Obj)}{σ:St}{s:Shared}{n:Nat}{kvs:List (List D × V)}
def kO(K:aL)(H:Hp)(k:List D)(v:Value):Prop:=∃ b,v=.ref b/\kM K H b k
def Dj(ks:List (List D)):Prop:=∃ us,Paired Tb.cP ks us/\us.Pairwise (· < ·)
theorem oV{K:aL}(h:Paired (kO K H) ks vs):∃ bs:List Addr,vs=bs.map Value.ref/\Paired (fun k b=>kM K H b k) ks bs:=by
 induction h with
 | nil=>exact⟨[],rfl,.nil⟩
 | cons a _ I=>
  obtain⟨bs,rfl,h⟩:=I;obtain⟨b,rfl,k⟩:=a;exact⟨b::bs,rfl,.cons k h⟩
theorem B2{K:aL}{bs:List Addr}(h:Paired (fun k b=>kM K H b k) ks bs):Paired (kO K H) ks (bs.map Value.ref):=by
 induction h with
 | nil=>exact .nil
 | cons a _ I=>exact .cons ⟨_,rfl,a⟩ I
theorem oR:∀ {ks:List (List D)},(∀ k∈ks,∃ u,Tb.cP k u)->∃ us,Paired Tb.cP ks us
 | [],_=>⟨[],.nil⟩
 | k::ks,h=>by
  obtain⟨u,hu⟩:=h k gC;obtain⟨us,hs⟩:=oR (ks:=ks) fun x I=>h x (jd _ I)
  exact⟨u::us,.cons hu hs⟩
theorem keys_nodup(h:Paired Tb.cP ks us)(hn:ks.Nodup):us.Nodup:=by
 induction h with
 | nil=>exact .nil
 | @cons k u ks us a t J=>
  obtain⟨n1,n2⟩:=vT.mp hn;refine vT.mpr ⟨fun O=>n1 ?_,J n2⟩;obtain⟨k',I,x⟩:=Paired.rO t u O;rw[a.inj x]; exact I
theorem A7{K:aL}(hk:∀ b k,kM K H b k->(aI prog w).is h k b)(a:Paired Tb.cP ks us)(r:Paired (kO K H) ks vs):Paired (fun u v=>Tb.gA prog w h v u) us vs:=by
 induction a generalizing vs with
 | nil=>cases r; exact .nil
 | cons x _ I=>
  cases r with
  | cons y t=>
   obtain⟨b,rfl,y⟩:=y;exact .cons ⟨b,_,rfl,hk _ _ y,x⟩ (I t)
theorem zP{K:aL}(hk:∀ b k,kM K H b k->(aI prog w).is h k b)(a:Paired (fun u v=>Tb.gA prog w h v u) us vs)(r:Paired (kO K H) ks vs):Paired Tb.cP ks us:=by
 induction a generalizing ks with
 | nil=>cases r; exact .nil
 | cons x _ I=>
  cases r with
  | cons y t=>
   refine .cons ?_ (I t);obtain⟨b,rfl,y⟩:=y;obtain⟨J,k',e,z,x⟩:=x;cases e;rw[(aI prog w).inj (hk _ _ y) z];exact x
theorem vO(I:Inv X pins σ H s){A2:Around}{E2:Value->Shared->Prop}{s2:Shared}{L:Addr}{P:PySem.Fin->Shared->Prop}(hu:A2.units + 4 < cLine)(ho:s2.heap.get? L=some (seqObj "list" vs.toArray n))(hl:vs.length<=sizeLine)(kp:∀ b o,s.heap.get? b=some o->s2.heap.get? b=some o)
  (hr:Paired (kO X.K H) ks vs) (hn:ks.Nodup) (hk:∀ k∈ks,∃ u,Tb.cP k u)
  (q:∀ (out:Array Value) (ks':List (List D)),ks'.Perm ks->Dj ks'->Paired (kO X.K H) ks' out.toList->P (.done (.ret .none)) { s2 with heap:=sortedHeap s2.heap L vs out }) :
  wpAny (model X.prog X.w) A2 (Builtin.«list.sort» ⟨[.ref L],[]⟩) P E2 s2:=by
 obtain⟨us,J⟩:=oR hk;have O:∀ b k,kM X.K H b k->(aI X.prog X.w).is s2.heap k b:=fun b k h=>Srt.cW (uk I h) fun b o e _=>kp b o e
 refine Tb.xR hu ho hl (A7 O J hr) (keys_nodup J hn) fun out U p1 p2 p3 V=>?_
 obtain⟨ks',k1,k2⟩:=ee V hr;exact q out ks' k1 ⟨U,zP O p3 k2,p2⟩ k2
inductive zw(K:aL)(xs:List V)(H:Hp)(Q:VK):Prop|m(p:Addr)(kvs:List (List D × V))(_:xs=[.ref p])(_:DN K H p kvs)(_:(∀ kv∈kvs,∃ u,Tb.cP kv.1 u))(_:∀ (l:Addr) (bs:List Addr) (ks:List (List D)),H l=none->Paired (fun k b=>kM K H b k) ks bs->ks.Perm (kvs.map (·.1))->Dj ks->Q (.ref l) (upd H l (.lst (bs.map V.ref))))
theorem zJ{K:aL}{bs:List Addr}(h:Paired (fun (kv:List D × V) b=>kM K H b kv.1) kvs bs):Paired (kO K H) (kvs.map (·.1)) (bs.map Value.ref):=by
 induction h with
 | nil=>exact .nil
 | cons a _ I=>exact .cons ⟨_,rfl,a⟩ I
theorem Inv.dr{d':_}(I:Inv X pins σ H s):Inv X pins σ H { s with drawn:=d' }:=⟨I.ok,I.os,I.bare,I.base,I.loc,I.cell,I.free,I.freeC,I.pin,I.hok,I.len⟩
theorem Inv.GX{s':Shared}{a:Addr}{o:HO}(I:Inv X pins σ H s)(k:∀ b u,s.heap.get? b=some u->s'.heap.get? b=some u)(g:s'.gens=s.gens)(os:s'.os=s.os)
  (hp:s.heap.objs.size<=a) (new:bW X.prog X.w (upd H a o) s'.heap a o):Inv X pins σ (upd H a o) s':=
 Inv.new (I.dr (d':=s'.drawn)) k g rfl os hp new
theorem qc{zs:List (Addr × List D)}{xs:List (List D × Addr × Value)}(r:KN zs H kvs xs):kvs.map (·.1)=xs.map (·.1):=by
 induction r with
 | nil=>rfl
 | cons a _ I=>rw[iU,iU,I,a.1]
theorem px(hc:X.calm=true)(hu:X.A.units + 9 < cLine):d8 X (.builtin "sorted") (zw X.K):=by
 intro pins s σ H xs us Q I r h;obtain⟨p,kvs,rfl,⟨zs,e,hz,hs⟩,hk,q⟩:=h;obtain⟨u,rfl,N⟩:=r.one;cases N;obtain⟨z,t,xs,a,o,es,ep,B,hx,hd,E,hn⟩:=(show bW X.prog X.w H s.heap p (.dN zs kvs) from AR I.hok e)
 have S:es.size=xs.length:=size_of_entries E;have D:=Paired.length a;have U:=qc a;have Z:=zJ (ui hz a hs);have d:((xs.map (·.2.1)).map Value.ref).length=xs.length:=by rw[bL,bL]
 have b:p < s.heap.objs.size:=cG B;refine Tb.mf (Pv:=fun J=>J.toList=(xs.map (·.2.1)).map Value.ref) (Po:=fun out=>∃ ks',ks'.Perm (kvs.map (·.1))/\Dj ks'/\Paired (kO X.K H) ks' out.toList) (I.ok.hd hc) (fun J h=>?_) (fun A' R h' F=>?_) (fun A2 E2 s2 L J P hA G Y O W=>?_) fun s' l out c k g os y m ⟨ks',p1,p2,p3⟩=>?_
 ·rw[<-dY,h,d]; lia
 ·refine Tb.CA (A:=X.A) (s1:={ s with heap:=s.heap.push { cls:=.type "list",data:=.seq ([]:List Value).toArray } }) t (cH b) (fB _ rfl) (Srt.jh.at (h:=s.heap) ⟨o,B,hx,hd⟩ fun o e=>cB _ e) (by lia) A' R h' fun s' J c' k g os M hi=>F s' J c' k g os M ?_
  refine List.ext_getElem? fun i=>?_
  rw[iI,g6,g6];cases C:J[i]? with
  | none=>
   have h1:J.size<=i:=Array.getElem?_eq_none_iff.mp C;have:J.size=es.size:=hi.1;rw[yD (by lia)]; rfl
  | some v=>
   obtain⟨en,j,rfl⟩:=hi.2 i v C;rw[entry_at E i]at j;obtain⟨x,f,rfl⟩:=Option.map_eq_some_iff.mp j;rw[f]; rfl
 ·refine vO I (by lia) G (by rw[O,d]; lia) Y (by rw[O]; exact Z) (by rw[U]; exact hn) (fun k n=>?_) fun out ks' p1 p2 p3=>W out ⟨ks',p1,p2,p3⟩
  obtain⟨kv,h1,rfl⟩:=eW.mp n;exact hk kv h1
 ·obtain⟨bs,j,f⟩:=oV p3;have T:bs.length=kvs.length:=by rw[<-f.length,p1.length_eq,bL]
  refine⟨.ref l,_,I.GX k g os y (o:=.lst (bs.map V.ref)) ⟨by rw[bL,T]; exact z,out.toList,c,by rw[j]; exact gm _,m⟩,rfl,q l bs ks' (I.hok.fresh y) f p1 p2⟩
def GI(K:aL)(ta:TA):TE:=fun σ H Q=>ta σ H fun vs H1=>∃ (l:Addr) (bs:List Addr) (ks:List (List D)),vs=[.ref l]/\H1 l=some (.lst (bs.map V.ref))/\Paired (fun k b=>kM K H1 b k) ks bs/\(∀ k∈ks,∃ u,Tb.cP k u)/\ks.length < 999/\
 ∀ (l':Addr) (bs':List Addr) (ks':List (List D)),H1 l'=none->Paired (fun k b=>kM K H1 b k) ks' bs'->(∀ x,x∈ks'↔x∈ks)->ks'.length<=ks.length->Dj ks'->Q (.ref l') (upd H1 l' (.lst (bs'.map V.ref)))
theorem yR{K:aL}{h':Heap}(hk:∀ b k,kM K H b k->(aI prog w).is h k b)(kp:Srt.bK h h'){its:List Value}(r:Paired (kO K H) ks its){ks':List (List D)}(a:Tb.Refs prog w h' ks' vs)(hG:∀ v∈vs,v∈its):Paired (kO K H) ks' vs:=by
 induction a with
 | nil=>exact .nil
 | cons x _ J=>
  refine .cons ?_ (J fun v I=>hG v (jd _ I));obtain⟨b,rfl,x⟩:=x;obtain⟨k2,_,O,e,y⟩:=Paired.rO r _ (hG _ gC);cases e;rw[(aI prog w).inj x (Srt.cW (hk _ _ y) kp)];exact⟨b,rfl,y⟩
theorem BL{a:Expr}{ta:TA}{p pos p2 pos2:Pos}(hc:X.calm=true)(hu:X.A.units + 9 < cLine)(gl:Gl X "sorted")(ml:X.mg "sorted" = none)(gz:Gl X "set")(mz:X.mg "set" = none)(ha:PA X [a] ta)
  (h1:starEach [.Call (.Name "set" p2) [a] [] pos2] X.env=(false,eval (.Call (.Name "set" p2) [a] [] pos2) X.env)::starEach [] X.env:=by rfl) (h2:(backTo pos (starEach [] X.env)).any (·.1)=false:=by rfl)
  (h3:starEach [a] X.env=(false,eval a X.env)::starEach [] X.env:=by rfl) (h4:(backTo pos2 (starEach [] X.env)).any (·.1)=false:=by rfl) :
  PE X (.Call (.Name "sorted" p) [.Call (.Name "set" p2) [a] [] pos2] [] pos) (GI X.K ta):=by
 intro pins s σ H Q I h;refine E1 (fN I gl ml PyProof.Rows.boot_sorted ?_);refine PyProof.Rows.callWith_builtin1 ?_ h1 h2;rw[h1];change wpAny _ _ (spliced ((false,eval (.Call (.Name "set" p2) [a] [] pos2) X.env)::backTo pos (starEach [] X.env))) _ _ s;refine Calls.spliced_cons ?_;refine E1 (fN I gz mz (show bootBuiltins "set" = some (.type "set") by decide +kernel) ?_);refine Eu (cw (ha pos2 pins s σ H _ I h) fun us s1 ⟨vs,H1,f,r1,q1⟩=>?_) h3 h4;obtain⟨l,bs,ks,rfl,hl,hb,hk,hlt,q⟩:=q1;obtain⟨u1,rfl,e1⟩:=r1.one;cases e1;obtain⟨z,its,n,rv,hg⟩:=f.hok l _ hl;have ei:its=bs.map Value.ref:=ij rv;subst ei;have hbl:ks.length=bs.length:=hb.length;have hr:=B2 hb;have t:∀ b k,kM X.K H1 b k->(aI X.prog X.w).is s1.heap k b:=fun b k h=>uk f h
 have B:s1.heap.IsList l (bs.map Value.ref).toArray:=⟨_,hg,rfl,n,rfl⟩
 have j:Tb.Refs X.prog X.w s1.heap ks (bs.map Value.ref).toArray.toList:=Paired.kN hr fun k v ⟨b,e,y⟩=>⟨b,e,t _ _ y⟩
 refine Tb.set_list (f.ok.hd hc) B j (by simp only[ff,bL]; lia) hu fun h' tk O D m2 l2 M=>?_
 refine Calls.spliced_nil ?_;have G:O.Nodup:=by obtain⟨_,_,_,_,_,_,_,_,_,_,_,_,hn,_⟩:=D; exact hn
 have Z:s1.heap.objs.size < h'.objs.size:=by obtain⟨o,_,_,_,ho,_⟩:=D; exact cG ho
 have T:∀ b o,h'.get? b=some o->(h'.push { cls:=.type "list",data:=.seq ([]:List Value).toArray }).get? b=some o:=fun b o e=>cB _ e
 refine Tb.mf (s:={ s1 with heap:=h',toks:=tk }) (d:=s1.heap.objs.size) (Pv:=fun J=>∃ ks',ks'.Perm O/\Paired (kO X.K H1) ks' J.toList) (Po:=fun out=>∃ ks',ks'.Perm O/\Dj ks'/\Paired (kO X.K H1) ks' out.toList) (f.ok.hd hc) (fun J ⟨ks',U,m⟩=>?_) (fun A' R h2 hR=>?_) (fun A2 E2 s2 L J P hA hL W ⟨ks',U,m⟩ hP=>?_) fun s' E out c k g os C F ⟨ks',p1,p2,p3⟩=>?_
 ·have:=m.length;rw[<-dY,<-this,U.length_eq,mP]; lia
 ·refine Tb.Ce (A:=X.A) (s1:={ s1 with heap:=h'.push { cls:=.type "list",data:=.seq ([]:List Value).toArray },toks:=tk }) (fB _ rfl) (D.keep (fun b o e _=>T b o e) fun o e=>T _ o e) (cH Z) (by rw[mP]; lia) A' R h2 fun s' J c' k g os Y ⟨⟨ks',U,m⟩,a3⟩=>hR s' J c' k g os Y ⟨ks',U,?_⟩
  exact yR t (fun b o e _=>T b o (M b o e)) hr m (fun v hv=>by simpa using a3 v hv)
 ·refine vO f (by lia) hL ?_ (fun b o e=>W b o (M b o e)) m (U.nodup_iff.mpr G) (fun k S=>hk k ((m2 k).mp (U.mem_iff.mp S))) fun out u p1 p2 p3=>hP out ⟨u,p1.trans U,p2,p3⟩
  have:=m.length;rw[<-this,U.length_eq,mP]; lia
 ·obtain⟨i,e1,e2⟩:=oV p3;have N:i.length=O.length:=by rw[<-e2.length,p1.length_eq]
  have r:s1.heap.objs.size<=E:=vm (kU Z C);refine⟨.ref E,_,f.GX (fun b o e=>k b o (M b o e)) g os r (o:=.lst (i.map V.ref)) ⟨by rw[bL,N,mP]; lia,out.toList,c,by rw[e1]; exact gm _,F⟩,rfl,q E i ks' (f.hok.fresh r) e2 (fun x=>by rw[p1.mem_iff]; exact m2 x) (by rw[p1.length_eq]; exact l2) p2⟩
theorem wV{K:aL}(h:X.K=K)(hu:X.A.units + 1 + n < cLine):iL X (compareOp .NotEq) (ES K n true):=h ▸ EL hu
end L2
local macro_rules | `(tactic| walk_at "k")=>`(tactic| exact⟨rfl,rfl,rfl,by decide +kernel,rfl,by decide +kernel,by decide +kernel⟩)
local macro_rules | `(tactic| walk_at "l")=>`(tactic| (intro vs H Q E h; first | (obtain⟨_,e,_⟩:=h; subst e; rfl) | (obtain⟨_,_,e,_⟩:=h; subst e; rfl) | (obtain⟨_,_,_,e,_⟩:=h; subst e; rfl) | (obtain⟨_,_,_,_,e,_⟩:=h; subst e; rfl) | (obtain⟨_,_,_,_,_,e,_⟩:=h; subst e; rfl) | (obtain⟨_,_,_,_,_,_,e,_⟩:=h; subst e; rfl) | (obtain⟨_,_,_,_,_,_,_,e,_⟩:=h; subst e; rfl) | (obtain⟨_,_,_,_,_,_,_,_,e,_⟩:=h; subst e; rfl) | (obtain⟨_,_,_,_,_,_,_,_,_,e,_⟩:=h; subst e; rfl) | (obtain⟨_,_,_,_,_,_,_,_,_,_,e,_⟩:=h; subst e; rfl) | (obtain⟨_,_,_,_,_,_,_,_,_,_,_,e,_⟩:=h; subst e; rfl) | (obtain⟨_,_,_,_,_,_,_,_,_,_,_,_,e,_⟩:=h; subst e; rfl) | (obtain⟨_,_,_,_,_,_,_,_,_,_,_,_,_,e,_⟩:=h; subst e; rfl) | (obtain⟨_,_,_,_,_,_,_,_,_,_,_,_,_,_,e,_⟩:=h; subst e; rfl) | (obtain⟨_,_,_,_,_,_,_,_,_,_,_,_,_,_,_,e,_⟩:=h; subst e; rfl) | (obtain⟨_,_,_,_,_,_,_,_,_,_,_,_,_,_,_,_,e,_⟩:=h; subst e; rfl) | (obtain⟨_,_,_,_,_,_,_,_,_,_,_,_,_,_,_,_,_,e,_⟩:=h; subst e; rfl) | (obtain⟨_,_,_,_,_,_,_,_,_,_,_,_,_,_,_,_,_,_,e,_⟩:=h; subst e; rfl) | (obtain⟨_,_,_,_,_,_,_,_,_,_,_,_,_,_,_,_,_,_,_,e,_⟩:=h; subst e; rfl) | (obtain⟨_,_,_,_,_,_,_,_,_,_,_,_,_,_,_,_,_,_,_,_,e,_⟩:=h; subst e; rfl) | (obtain⟨_,_,_,_,_,_,_,_,_,_,_,_,_,_,_,_,_,_,_,_,_,e,_⟩:=h; subst e; rfl) | (obtain⟨_,_,_,_,_,_,_,_,_,_,_,_,_,_,_,_,_,_,_,_,_,_,e,_⟩:=h; subst e; rfl) | (obtain⟨_,_,_,_,_,_,_,_,_,_,_,_,_,_,_,_,_,_,_,_,_,_,_,e,_⟩:=h; subst e; rfl) | (obtain⟨_,_,_,_,_,_,_,_,_,_,_,_,_,_,_,_,_,_,_,_,_,_,_,_,e,_⟩:=h; subst e; rfl) | (obtain⟨_,_,_,_,_,_,_,_,_,_,_,_,_,_,_,_,_,_,_,_,_,_,_,_,_,e,_⟩:=h; subst e; rfl)))
namespace K55
open PySem PySem.Spec PyProof.Rows L2
abbrev qA:List Str:=["_law_program_here","_law_nodes","_law_found","_law_line","_law_names","_law_rows","_law_lines","_law_k","_law_a","_law_j","_law_b","_law_x","_law_y","_law_w"]
abbrev ji:List Str:=["program"]
abbrev qB:List Str:=["_law_program_here","_law_cell_here","_law_more","_law_k","_law_found","_law_line","_law_names","_law_rows","_law_lines","_law_number","_law_w","_law_at"]
abbrev IW:List Str:=["_law_script","_law_most","_law_wide_here","_law_names","_law_rows","_law_lines","_law_opened","_law_many","_law_k"]
abbrev qC:List Str:=["_law_lines","_law_opened","_law_number","_law_names","_law_rows"]
abbrev EH:List Str:=["_law_cell_here","_law_k"]
abbrev qD:List Str:=["_law_script","_law_program_here","_law_copied","_law_due","_law_cut","_law_found"]
abbrev HD:List Str:=["_law_lines","_law_opened","_law_rest"]
abbrev qE:List Str:=["_law_number","_law_names","_law_rows","_law_nodes"]
abbrev Ic:List Str:=["_law_number","_law_at","_law_names","_law_rows"]
abbrev qF:List Str:=["_law_script","_law_k"]
abbrev IJ:List Str:=["program","names","nodes","bounds","a","b"]
abbrev qG:List Str:=["_law_script","_law_most","_law_wide_here"]
abbrev uz:List Str:=["line"]
abbrev qH:List Str:=["_law_number","_law_names","_law_rows"]
abbrev Ig:List Str:=["_law_number","_law_many","_law_names"]
abbrev qI:List Str:=["bound"]
abbrev Ib:List Str:=["_law_program_here","_law_cell_here"]
abbrev qJ:List Str:=["_law_script","_law_k","_law_turn"]
abbrev EY:List Str:=["_law_number"]
abbrev qK:List Str:=["program","reached","leading","at","which","after"]
abbrev Gf:List Str:=["line","leading"]
abbrev qL:List Str:=["program","bounds","line","each_once"]
abbrev IY:List Str:=["value","value","number","way","way"]
abbrev qM:List Str:=["_law_line","_law_last"]
abbrev Jf:List Str:=["_law_line","_law_last","_law_many"]
abbrev qN:List Str:=["program","bounds","found","line"]
abbrev Iz:List Str:=["_law_program_here"]
abbrev qO:List Str:=["value","now"]
abbrev HA:List Str:=["_law_script"]
variable {H H' H0:Hp}{nm n i a nl j m nl' n' wt wt' ep nZ:Nat}{ls:List Ln}{l:Ln}{p t d al pl tp po aP aZ:Addr}{v va vb:V}{ks F W rs:List Nat}{σ:L2.St}{q:Bd}{us:List Value}{o:HO}{y:Option Nat}{pf:Nat->Addr}{wf:Nat->List Way}{c:TT}{u:TS}{g g':Nat->V}{xs vs ys:List V}{w:World}{b:Nd}{x:Str}{ds:List PyData}{ns:List Int}{ks':List (List L2.D)}{ss:List Bd}{os:List (Nat × Nat)}{Q:VK}{P:Program}{oP oZ:Obj}{es:Array DictEntry}{iZ:Array Value}{h:Heap}
variable {K:aL}{mg:Str->Option Value}{base:Heap}{f C a_GIVING a_PLACING a_PARTS a_ZERO:Addr}{fd:qT}
def top(i:Nat):Stmt:=PySem.Challenge.pw_lookspare_k55_guesses.main.body.getD i (.Pass ⟨0,0,0,0⟩)
theorem ah(h:H p=none)(o:HO):aB H (upd H p o):=fun b u q=>by rw[aw (aM q h)]; exact q
theorem uQ{t:TS}{D:Ends}(Φ:L2.St->Hp->Prop)(h:∀ σ' H',Φ σ' H'->D.nx σ' H')(hi:∀ D':Ends,(∀ σ' H',Φ σ' H'->D'.nx σ' H')->fh c t u D' σ H):fh c t u D σ H:=hi D h
theorem j0{t:TS}{D:Ends}(Φ:L2.St->Hp->Prop)(h:∀ σ' H',Φ σ' H'->D.nx σ' H')(hi:∀ nx:L2.St->Hp->Prop,(∀ σ' H',Φ σ' H'->nx σ' H')->fh c t u { D with nx:=nx } σ H):fh c t u D σ H:=hi D.nx h
theorem zl{i:Int}(h0:0<=i)(h1:i < (ns.length:Int)):∃ c:Int,nz (ns.map V.int) i=some (.int c):=by
 obtain⟨j,rfl⟩:∃ j:Nat,i=(j:Int):=⟨i.toNat,by omega⟩
 have I:j < ns.length:=by omega
 exact⟨ns[j],eR (by rw[g6,cL I]; rfl)⟩
abbrev qz:Stmt:=top 27
abbrev uA:Stmt:=top 28
abbrev um:Stmt:=top 29
abbrev HM:Stmt:=top 30
theorem lG:aW ["_law_cell_here","_law_k","_law_number"] EH (av qz):=by walk_at "k"
theorem B9:aW qF qF (av uA):=by walk_at "k"
theorem wG:aW ["_law_script","_law_k","_law_turn","_law_cell_here"] qJ (av um):=by walk_at "k"
theorem ID:aW EY EY (av HM):=by walk_at "k"
inductive iq(vs:List V)(H:Hp)(Q:VK)(E:XK):Prop|m(c k:Int)(_:vs=[.int c,.int k])(_:∀ i:Int,0<=i->Q (.int i) H)
inductive pS(K:aL)(vs:List V)(H:Hp)(Q:VK)(E:XK):Prop|m(a:Addr)(ns:List Int)(k:Int)(_:vs=[.ref a,.int k])(_:bp K H a (ns.map V.int))(_:0<=k)(_:∀ (i:Int) (H':Hp),aB H H'->Q (.int i) H')
inductive zD(K:aL)(vs:List V)(H:Hp)(Q:VK)(E:XK):Prop|m(a:Addr)(ns:List Int)(k t:Int)(_:vs=[.ref a,.int k,.int t])(_:bp K H a (ns.map V.int))(_:0<=k)(_:(t=0\/t=1))(_:∀ (i:Int) (H':Hp),0<=i->aB H H'->Q (.int i) H')
inductive Gk(vs:List V)(H:Hp)(Q:VK)(E:XK):Prop|m(c:Int)(_:vs=[.int c])(_:∀ i:Int,-1000<=i->i<=1000->Q (.int i) H)
theorem dC(x:Int){m:Int}(h:0 < m):0<=x % m/\x % m < m:=⟨Int.emod_nonneg _ (by omega),Int.emod_lt_of_pos _ h⟩
theorem zf(F:fL K "_law_mixed" "_law_mixed" qz f fd):b9 P w K mg base fM (n + 1) f fd EH iq:=by
 refine F.ok lG (by walk_at "l") (fun cdv A outer s H vs Q E J h=>?_);obtain⟨c,k,rfl,q⟩:=h
 refine⟨_,(@ak _ _ _ _ _ (ba (i:=2) lG.nd (ao aJ (ao gL (ao bj (ao bj (ao aJ (pv 0) ag) (ao gL ag (pv 1))) ag) ag) ag))
   (@ak _ _ _ _ _ (ba (i:=2) lG.nd (ao aJ (ao gL (ao bj (ao bj (ao aJ (ao aS (pv 2) ag) ag) (ao gL ag (pv 1))) ag) (ao bj (ao aJ (pv 2) ag) ag)) ag))
   (au (aQ (ao aS (ao aJ (ao gL (ao aS (pv 2) ag) (ao bj (ao aJ (pv 2) ag) ag)) ag) ag))))),?_⟩
 refine⟨_,rfl,_,_,rfl,rfl,(by decide:(0:Int) < 1000000000039),_,rfl,_,_,rfl,rfl,.inl (by decide),_,_,rfl,rfl,_,_,rfl,rfl,_,_,rfl,rfl,.inr (by decide),_,_,rfl,rfl,(by decide:(0:Int) < 1000000000061),?_⟩;dsimp only[fw,de];generalize (c % 1000000000039 + 7919 * k + 12) * 48271 % 1000000000061=n1;have O:=dC n1 (show (0:Int) < 999983 by decide);refine⟨_,rfl,_,_,rfl,rfl,⟨by decide,by decide⟩,_,_,rfl,rfl,(by decide:(0:Int) < 1000003),_,rfl,_,_,rfl,rfl,.inl (by decide),_,_,rfl,rfl,_,_,rfl,rfl,_,rfl,_,_,rfl,rfl,(by decide:(0:Int) < 999983),_,_,rfl,rfl,_,_,rfl,rfl,.inr (by constructor <;> omega),_,_,rfl,rfl,(by decide:(0:Int) < 999999999989),?_⟩;dsimp only[fw,de];generalize (n1 / 3 % 1000003 + 31 * k + 1) * (n1 % 999983 + 7) % 999999999989=n2;have I:=dC n2 (show (0:Int) < 1009 by decide);refine⟨_,rfl,_,_,rfl,rfl,⟨by decide,by decide⟩,_,rfl,_,_,rfl,rfl,(by decide:(0:Int) < 1009),_,_,rfl,rfl,_,_,rfl,rfl,.inr (by constructor <;> omega),_,_,rfl,rfl,(by decide:(0:Int) < 1000000000039),_,_,rfl,rfl,⟨by decide,by decide⟩,?_⟩;exact q _ (Int.ediv_nonneg (dC _ (by decide)).1 (by decide))
theorem Dm(F:fL K "_law_cell" "_law_cell" uA f fd)(m_len:mg "len" = none)(m_sum:mg "sum" = none)(c_law_mixed:Cl P w K mg base "_law_mixed" n EH iq):b9 P w K mg base fM (n + 1) f fd qF (pS K):=by
 refine F.ok B9 (by walk_at "l") (fun cdv A outer s H vs Q E b h=>?_);obtain⟨a,ns,k,rfl,I,Z,q⟩:=h
 refine⟨_,(@ak _ _ _ _ _ (ck (aF tP (pv 1) (bh bf rfl m_len tQ (aa (pv 0) aj))) (au (aQ (aU cu (pv 0) (pv 1)))) bw)
   (au (aQ (aY c_law_mixed b rfl (aa (bh (zj rfl) rfl m_sum PyProof.Rows.boot_sum (aa (cJ jn (pv 0) d6 (cQ ag)) aj)) (aa (ao bj ag (pv 1)) aj)))))),?_⟩
 refine⟨_,rfl,_,rfl,a,_,rfl,.inl I,_,_,rfl,rfl,_,rfl,cj (fun O=>?_) (fun O=>?_)⟩
 ·have h1:=jV O;rw[bL]at h1;obtain⟨c,U⟩:=zl Z h1;exact⟨_,rfl,_,rfl,a,_,_,_,rfl,rfl,I,U,q _ _ (aB.refl _)⟩
 ·refine⟨_,rfl,_,rfl,a,_,rfl,I,fun p np=>?_⟩;have e:∃ J:List Int,dw (ns.map V.int) none (some 4)=J.map V.int:=by
   unfold dw;rw[<-List.map_drop,<-List.map_take];exact⟨_,rfl⟩
  obtain⟨J,e⟩:=e;rw[e];exact⟨p,J,rfl,bp.of ae,fun i=>⟨_,rfl,_,_,rfl,rfl,_,_,rfl,fun i _=>q i _ (ah np _)⟩⟩
theorem BZ(F:fL K "_law_seen" "_law_seen" um f fd)(c_law_cell:Cl P w K mg base "_law_cell" n qF (pS K))(c_law_mixed:Cl P w K mg base "_law_mixed" n EH iq):b9 P w K mg base fM (n + 1) f fd qJ (zD K):=by
 refine F.ok wG (by walk_at "l") (fun cdv A outer s H vs Q E I h=>?_);obtain⟨a,ns,k,t,rfl,J,U,V,q⟩:=h
 refine⟨_,(@ak _ _ _ _ _ (ba (i:=3) wG.nd (aY c_law_cell I rfl (aa (pv 0) (aa (pv 1) aj))))
   (@ak _ _ _ _ _ (ck (aF cm (ao aJ (ao aS (aY c_law_cell I rfl (aa (pv 0) (aa ag aj))) ag) ag) ag) (au (aQ (ao aJ (ao zm (pv 3) (ao Fv ag (ao gL ag (pv 2)))) (ao Ea ag ag)))) bw)
   (au (aQ (aY c_law_mixed I rfl (aa (pv 3) (aa (pv 2) aj))))))),?_⟩
 refine⟨_,rfl,_,rfl,a,ns,k,rfl,J,U,fun c H1 s1=>?_⟩;refine⟨_,rfl,a,ns,0,rfl,s1.seq J,by decide,fun Z H2 s2=>⟨_,_,rfl,rfl,⟨by decide,by decide⟩,_,_,rfl,rfl,(by decide:(0:Int) < 2),rfl,_,rfl,cj (fun O=>?_) (fun O=>?_)⟩⟩
 ·rcases V with rfl | rfl
  ·exact⟨_,rfl,_,rfl,_,_,rfl,rfl,.inl (by decide),_,_,rfl,rfl,⟨by decide,by decide,by decide⟩,_,_,rfl,rfl,⟨by decide,by decide⟩,_,_,rfl,rfl,⟨by decide,by decide,by decide⟩,_,_,rfl,rfl,(by show (0:Int) < 10 ^ (40:Int).toNat; decide),q _ _ (dC _ (by show (0:Int) < 10 ^ (40:Int).toNat; decide)).1 (s1.trans s2)⟩
  ·exact⟨_,rfl,_,rfl,_,_,rfl,rfl,.inl (by decide),_,_,rfl,rfl,⟨by decide,by decide,by decide⟩,_,_,rfl,rfl,⟨by decide,by decide⟩,_,_,rfl,rfl,⟨by decide,by decide,by decide⟩,_,_,rfl,rfl,(by show (0:Int) < 10 ^ (40:Int).toNat; decide),q _ _ (dC _ (by show (0:Int) < 10 ^ (40:Int).toNat; decide)).1 (s1.trans s2)⟩
 ·exact⟨_,rfl,_,rfl,_,_,rfl,fun i hi=>q i _ hi (s1.trans s2)⟩
theorem IV(F:fL K "_law_c" "_law_c" HM f fd):b9 P w K mg base fM (n + 1) f fd EY Gk:=by
 refine F.ok ID (by walk_at "l") (fun cdv A outer s H vs Q E O h=>?_);obtain⟨c,rfl,q⟩:=h
 refine⟨_,(@ak _ _ _ _ _ (ck (aF cm (ao aJ (pv 0) ag) ag) (au (aQ (ao gg (ao aJ (ao aS (pv 0) ag) ag) ag))) bw)
   (au (aQ (ao gg (ao aJ (ao aS (pv 0) ag) ag) ag)))),?_⟩
 have U:=dC (c / 5) (show (0:Int) < 2001 by decide);have J:=dC (c / 5) (show (0:Int) < 5 by decide);refine⟨_,rfl,_,_,rfl,rfl,(by decide:(0:Int) < 5),rfl,_,rfl,cj (fun I=>?_) (fun I=>?_)⟩
 ·exact⟨_,rfl,_,_,rfl,rfl,⟨by decide,by decide⟩,_,_,rfl,rfl,(by decide:(0:Int) < 2001),_,_,rfl,rfl,q _ (by omega) (by omega)⟩
 ·exact⟨_,rfl,_,_,rfl,rfl,⟨by decide,by decide⟩,_,_,rfl,rfl,(by decide:(0:Int) < 5),_,_,rfl,rfl,q _ (by omega) (by omega)⟩
theorem aB.new(s:aB H H')(h:H p=none):aB H (upd H' p o):=fun b u q=>by
 rw[aw (aM q h)]; exact s b u q
theorem bK.new(h:H p=none):bK H (upd H p o):=(ah h o).aA
theorem bK.lst{H:Hp}{p:Addr}{xs ys:List V}(h:H p=some (.lst xs)):bK H (upd H p (.lst ys)):=
 ⟨fun b zs e=>by rw[aw (fQ e h (by intro z; cases z))]; exact e,fun b o u e=>by rw[aw (fQ e h (by intro z; cases z))]; exact e⟩
theorem aD(s:aB H H')(h:H' p=none):H p=none:=s.free h
theorem gH(h:H p=some o)(ht:H t=none):p≠t:=aM h ht
theorem Ds{α:Type}{xs:List α}{c:Int}(h:0 < xs.length):∃ (j:Nat) (v:α),nz xs (c % (xs.length:Int))=some v/\xs[j]?=some v:=by
 have J:0<=c % (xs.length:Int):=Int.emod_nonneg _ (by omega);have h1:c % (xs.length:Int) < xs.length:=Int.emod_lt_of_pos _ (by omega);have I:(c % (xs.length:Int)).toNat < xs.length:=by omega
 have e:c % (xs.length:Int)=(((c % (xs.length:Int)).toNat:Nat):Int):=by omega
 refine⟨(c % (xs.length:Int)).toNat,xs[(c % (xs.length:Int)).toNat],?_,cL I⟩;have:=eR (xs:=xs) (j:=(c % (xs.length:Int)).toNat) (cL I);rw[<-e]at this;exact this
theorem bR{A B:Hp->Prop}(h:A H):DD σ H (fun b H3=>if b=true then A H3 else B H3):=by
 show if true=true then A H else B H
 rw[if_pos rfl]; exact h
theorem small(h:n<=1000):n<=sizeLine:=vm (aN h)
theorem gQ(v:V)(vs:List V):nz (v::vs) 0=some v:=eR (j:=0) rfl
theorem yP(v u:V)(vs:List V):nz (v::u::vs) 1=some u:=eR (j:=1) rfl
theorem at2(v u w:V)(vs:List V):nz (v::u::w::vs) 2=some w:=eR (j:=2) rfl
theorem DE(v u w z:V)(vs:List V):nz (v::u::w::z::vs) 3=some z:=eR (j:=3) rfl
theorem nW{a b:Str}(h:decide (V.str a=V.str b)=true):a=b:=by have:=jV h; injection this
theorem o8{a b:Str}(h:¬ decide (V.str a=V.str b)=true):a≠b:=fun e=>h (gp (by rw[e]))
abbrev lJ:Stmt:=top 8
theorem yo:aW uz uz (av lJ):=by walk_at "k"
inductive vW(K:aL)(vs:List V)(H:Hp)(Q:VK)(E:XK):Prop|m(v:V)(x:Str)(ds:List D)(_:vs=[v])(_:Is K H (.tup (.str x::ds)) v)(_:Q (.bl (decide (x=("ask":Str)))) H)
def nR(l:List Int):List V:=l.map V.int
inductive uS where
 | set (x:Nat) (y:Option Nat) (c:Int)
 | sum (x z:Nat) (y:Option Nat)
 | len (x r:Nat)
 | take (x:Nat)
 | tell (x:Nat)
 | get (x r:Nat) (y:Option Nat) (c:Int)
 | put (r:Nat) (y:Option Nat) (c:Int) (z:Nat)
def kJ:Option Nat->D
 | none=>.non
 | some i=>.int (i:Int)
def aV:Option Nat->V
 | none=>.non
 | some i=>.int (i:Int)
def uS.word:uS->Str
 | .set ..=>"set" | .sum ..=>"sum" | .len ..=>"len" | .take ..=>"take" | .tell ..=>"tell" | .get ..=>"get" | .put ..=>"put"
def uS.args:uS->List D
 | .set x y c=>[.int (x:Int),kJ y,.int c]
 | .sum x z y=>[.int (x:Int),.int (z:Int),kJ y]
 | .len x r=>[.int (x:Int),.int (r:Int)]
 | .take x=>[.int (x:Int)]
 | .tell x=>[.int (x:Int)]
 | .get x r y c=>[.int (x:Int),.int (r:Int),kJ y,.int c]
 | .put r y c z=>[.int (r:Int),kJ y,.int c,.int (z:Int)]
def gq(n:Nat):Option Nat->Prop
 | none=>True
 | some i=>i < n
def uS.Ok(nm rw:Nat):uS->Prop
 | .set x y _=>x < nm/\gq nm y
 | .sum x z y=>x < nm/\z < nm/\gq nm y
 | .len x r=>x < nm/\r < rw
 | .take x=>x < nm
 | .tell x=>x < nm
 | .get x r y _=>x < nm/\r < rw/\gq nm y
 | .put r y _ z=>r < rw/\gq nm y/\z < nm
inductive Nd where
 | zero
 | name (x:Nat)
 | len (r:Nat)
def Nd.word:Nd->Str
 | .zero=>"zero" | .name _=>"name" | .len _=>"len"
def Nd.args:Nd->List D
 | .zero=>[] | .name x=>[.int (x:Int),.int 0] | .len r=>[.int (r:Int)]
def Nd.D(q:Nd):D:=.tup (.str q.word::q.args)
def Nd.Ok(nm rw:Nat):Nd->Prop
 | .zero=>True | .name x=>x < nm | .len r=>r < rw
structure Bd where
 a:Nd
 b:Nd
 c:Int
def Bd.D(q:Bd):D:=.tup [q.a.D,q.b.D,.int q.c]
def Bd.Ok(nm rw:Nat)(q:Bd):Prop:=q.a.Ok nm rw/\q.b.Ok nm rw
inductive Ln where
 | deed (d:uS) (k:Nat)
 | test (y w:Option Nat) (c:Int) (k m:Nat)
 | ask (bs:List Bd) (k m:Nat)
 | stop
def Ln.word:Ln->Str
 | .deed d _=>d.word | .test ..=>"test" | .ask ..=>"ask" | .stop=>"end"
def Ln.args:Ln->List D
 | .deed d k=>d.args++[.int (k:Int)]
 | .test y w c k m=>[kJ y,kJ w,.int c,.int (k:Int),.int (m:Int)]
 | .ask bs k m=>[.tup (bs.map Bd.D),.int (k:Int),.int (m:Int)]
 | .stop=>[]
def Ln.D(l:Ln):D:=.tup (.str l.word::l.args)
def Ln.Ok(nm rw nl:Nat):Ln->Prop
 | .deed d k=>d.Ok nm rw/\k < nl
 | .test y w _ k m=>gq nm y/\gq nm w/\k < nl/\m < nl
 | .ask bs k m=>(∀ q∈bs,q.Ok nm rw)/\(0 < bs.length/\bs.length<=100)/\k < nl/\m < nl
 | .stop=>True
theorem ya(F:fL K "is_ask" "is_ask" lJ f fd):b9 P w K mg base fM (n + 1) f fd uz (vW K):=by
 refine F.ok yo (by walk_at "l") (fun cdv A outer s H vs Q E Z h=>?_);obtain⟨v,x,ds,rfl,hi,q⟩:=h;refine⟨_,(au (aQ (cN cm (aU a9 (pv 0) ag) a8))),?_⟩;obtain⟨a,xs,rfl,J,I⟩:=hi.bo;obtain⟨b,vs,rfl,O,U⟩:=I.cons_inv;cases O.str_inv;refine⟨_,rfl,a,_,0,_,rfl,rfl,J,gQ _ _,rfl,?_⟩;rw[show decide (V.str x=V.str "ask")=decide (x=("ask":Str)) from BH.mpr ⟨fun z=>V.str.inj z,fun z=>by rw[z]⟩];exact q
theorem mI(h:Is K H l.D v):∃ a vs,v=.ref a/\bu K H a (.str l.word::vs)/\IsL K H l.args vs:=by
 obtain⟨a,xs,rfl,O,I⟩:=h.bo;obtain⟨V,vs,rfl,U,J⟩:=I.cons_inv;cases U.str_inv;exact⟨a,vs,rfl,O,J⟩
theorem uq{d:D}{ds:List D}(h:IsL K H (d::ds) vs):∃ v r,vs=v::r/\Is K H d v/\IsL K H ds r:=h.cons_inv
theorem C1(h:Is K H (kJ y) v):v=aV y:=by
 cases y with
 | none=>exact h.dG
 | some i=>exact h.int_inv
theorem fT{i:Int}{ds:List D}(h:IsL K H (.int i::ds) vs):∃ r,vs=.int i::r/\IsL K H ds r:=by
 obtain⟨v,r,rfl,a,b⟩:=h.cons_inv;cases a.int_inv;exact⟨r,rfl,b⟩
theorem nH{ds:List D}(h:IsL K H (kJ y::ds) vs):∃ r,vs=aV y::r/\IsL K H ds r:=by
 obtain⟨v,r,rfl,a,b⟩:=h.cons_inv;cases C1 a;exact⟨r,rfl,b⟩
theorem BV{l:List Int}(h:i < l.length):(nR l)[i]?=some (.int (l[i]?.getD 0)):=by
 show (l.map V.int)[i]?=_;rw[g6,cL h]; rfl
theorem CP(h:i < n):BK n (i:Int)=some i:=by
 unfold BK;rw[if_pos (by omega),if_pos (by omega)];rfl
def jc:List (Str × List Str):=[("set",["name","value","number","way"]),("sum",["name","name","value","way"]),("len",["name","row","way"]),("take",["name","way"]),("get",["name","row","value","number","way"]),("put",["row","value","number","name","way"]),
 ("tell",["name","way"]),("test",IY),("ask",["bounds","way","way"]),("end",[])]
inductive v8(K:aL)(vs:List V)(H:Hp)(Q:VK)(E:XK):Prop|m(v:V)(x:Str)(ds:List D)(ks:List Str)(_:vs=[v])(_:Is K H (.tup (.str x::ds)) v)(_:jc.lookup x=some ks)(_:∀ (H':Hp) (l:Addr) (ps:List V),aB H H'->H' l=some (.lst ps)->H l=none->ps.length=min ks.length ds.length-> (∀ (j:Nat) (k:Str) (d:D),ks[j]?=some k->ds[j]?=some d->∃ t v,ps[j]?=some (.ref t)/\H' t=some (.tup [.str k,v])/\Is K H' d v)->Q (.ref l) H')
abbrev qg:Stmt:=top 6
abbrev pD:Stmt:=top 7
structure Tab (P:Program) (w:World) (K:aL) (mg:Str->Option Value) (a_PARTS:Addr):Prop where
 mp:mg "PARTS" = some (.ref a_PARTS)
 kd:∃ kvs,KD P w K a_PARTS kvs/\∀ (x:Str) (ks:List Str),jc.lookup x=some ks->∃ p,kvs.lookup x=some (.ref p)/\∀ H:Hp,bu K H p (ks.map V.str)
def jt(ks:List Str)(ds:List D):List D:=((ks.zip ds).filter (fun (p:Str × D)=>p.1 == ("way":Str))).map (·.2)
theorem jK{α β:Type}:∀ (i:Nat) (l:List α) (m:List β),(l.take i).zip (m.take i)=(l.zip m).take i
 | 0,_,_=>by simp
 | i + 1,[],_=>by simp
 | i + 1,_::_,[]=>by simp
 | i + 1,a::l,b::m=>by simp[jK i l m]
inductive vj(K:aL)(vs:List V)(H:Hp)(Q:VK)(E:XK):Prop|m(v:V)(x:Str)(ds:List D)(ks:List Str)(_:vs=[v])(_:Is K H (.tup (.str x::ds)) v)(_:jc.lookup x=some ks)(_:ds.length<=1000)(_:∀ (H':Hp) (t:Addr) (xs:List V),aB H H'->H' t=some (.tup xs)->IsL K H' (jt ks ds) xs->Q (.ref t) H')
theorem Bm:aW uz uz (av qg):=by walk_at "k"
theorem Dc:aW uz uz (av pD):=by walk_at "k"
theorem HK(v:V)(vs:List V):dw (v::vs) (some 1) none=vs:=by
 unfold dw;rw[show HT.dm (v::vs).length 0 (some 1)=min 1 (v::vs).length from HT.jT _ _ 1,HT.jD];simp
theorem AI(F:fL K "parts" "parts" qg f fd)(m_list:mg "list" = none)(m_zip:mg "zip" = none)(T:Tab P w K mg a_PARTS):b9 P w K mg base fM (n + 1) f fd uz (v8 K):=by
 refine F.ok Bm (by walk_at "l") (fun cdv A outer s H vs Q E L h=>?_);obtain⟨v,x,ds,ks,rfl,hi,r,q⟩:=h;have I:=T.mp;refine⟨_,(au (aQ (uy rfl rfl m_list rfl m_zip (aa (aU Gg (ju rfl I (v:=.ref a_PARTS) rfl) (aU a9 (pv 0) ag)) (aa (cJ uR (pv 0) (cQ ag) d6) aj))))),?_⟩;obtain⟨a,xs,rfl,U,J⟩:=hi.bo;obtain⟨M,vs,rfl,y,O⟩:=J.cons_inv;have u:=y.str_inv;subst u;obtain⟨kvs,m,kk⟩:=T.kd;obtain⟨p,i,o⟩:=kk x ks r;refine⟨_,rfl,a,_,0,_,rfl,rfl,U,gQ _ _,?_⟩;refine⟨a_PARTS,kvs,x,_,rfl,rfl,m,i,?_⟩;refine⟨_,rfl,_,rfl,a,_,rfl,U,?_,fun t z=>?_⟩
 ·rintro⟨h1,_⟩
  rw[show HT.dm (V.str x::vs).length 0 (some 1)=min 1 (V.str x::vs).length from HT.jT _ _ 1]at h1;simp at h1
 ·rw[HK]at *;have st:aB H (upd H t (.tup vs)):=ah z _;have c:=O.length;refine⟨p,t,ks.map V.str,vs,rfl,o _,bu.of ae,fun H2 l ps s2 e n2 l2 h2=>?_⟩;refine q H2 l ps (st.trans s2) e (aD st n2) (by rw[l2,bL,c]) fun j k d b Z=>?_
  obtain⟨v,G,D⟩:=O.get Z;obtain⟨C,B,g⟩:=h2 j (.str k) v (by rw[g6,b]; rfl) G;exact⟨C,v,B,g,D.mono (st.trans s2).aA⟩
theorem ni{ks:List Str}{ds:List D}{k:Str}{d:D}(hk:ks[i]?=some k)(hd:ds[i]?=some d) :
  jt (ks.take (i + 1)) (ds.take (i + 1))=jt (ks.take i) (ds.take i)++(if k == ("way":Str) then [d] else []):=by
 unfold jt;rw[jK,jK,kX];have e:(ks.zip ds)[i]?=some (k,d):=by
  rw[List.getElem?_zip_eq_some]; exact⟨hk,hd⟩
 rw[e,DS,dH];congr 1;show List.map (·.2) (List.filter (fun (p:Str × D)=>p.1 == ("way":Str)) [(k,d)])=_;rw[Fh];cases (k == ("way":Str)) <;> rfl
theorem yk(ks:List Str)(ds:List D):jt (ks.take (min ks.length ds.length)) (ds.take (min ks.length ds.length))=jt ks ds:=by
 unfold jt;rw[jK];rw[yE (by rw[List.length_zip]; exact bH _)]
theorem Cj(F:fL K "ways" "ways" pD f fd)(m_tuple:mg "tuple" = none)(c_parts:Cl P w K mg base "parts" n uz (v8 K)):b9 P w K mg base fM (n + 1) f fd uz (vj K):=by
 refine F.ok Dc (by walk_at "l") (fun cdv A outer s H vs Q E m h=>?_);obtain⟨v,x,ds,ks,rfl,hi,k,Z,q⟩:=h;refine⟨_,(au (aQ (bE d5 rfl m_tuple PyProof.Rows.boot_tuple (aa (cA ["kind","part"] rfl (cT (N:=uz) (so:=av pD) rfl rfl (by decide +kernel)) (cM (aY c_parts m rfl (aa (pv 0) aj))) (fun _ _ _ _ _ _=>(we (K:=K) (n:=2) rfl rfl (bG (aG (i:=0) (show List.Nodup (α:=Str) ["kind","part","line"] by decide +kernel) rfl (Or.inl rfl) (Or.inr rfl)) (bG (aG (i:=1) (show List.Nodup (α:=Str) ["kind","part","line"] by decide +kernel) rfl (Or.inl rfl) (Or.inr rfl)) eP)))) (fun _ _ _ _ _ _=>(jI (aF cm (pv 0) a8))) (fun _ _ _ _ _ _=>(pv 1))) aj)))),?_⟩;refine⟨_,rfl,v,x,ds,ks,rfl,hi,k,fun H1 l ps s1 d nl g j=>⟨l,rfl,⟨_,bp.of d⟩,fun p np=>?_⟩⟩;refine eU (xs:=ps) (fun i H'=>aB H1 H'/\∃ I,H' p=some (.lst I)/\I.length<=i/\IsL K H' (jt (ks.take i) (ds.take i)) I) ⟨ah np _,[],ae,bH _,aq⟩ (fun i H' _ h=>bp.of (h.1 _ _ d)) (fun i y H' a h=>?_) (fun H' h=>?_)
 ·obtain⟨sm,I,U,z,V⟩:=h;have hi:i < ps.length:=(dJ.mp a).1;have J:i < ks.length:=by omega
  have O:i < ds.length:=by omega
  obtain⟨t,v,o,r,u⟩:=j i _ _ (cL J) (cL O);rw[o]at a;cases a;refine⟨t,_,rfl,bu.of (sm _ _ r),rfl,_,_,rfl,_,_,rfl,rfl,⟨[some (.str ks[i]),some v],rfl,rfl⟩,?_⟩;refine⟨_,rfl,rfl,_,rfl,cj (fun b=>?_) (fun b=>?_)⟩
  ·have e:=nW b;refine⟨_,rfl,I,U,aN (by omega),aB.new sm np,I++[v],ae,by rw[dE,nv]; omega,?_⟩;rw[ni (cL J) (cL O),e];exact IsL.append (V.mono (bK.lst U)) (af ((u.mono sm.aA).mono (bK.lst U)) aq)
  ·have e:=o8 b;refine⟨sm,I,U,by omega,?_⟩;rw[ni (cL J) (cL O),show (ks[i] == ("way":Str))=false from by simpa using e]
   simpa using V
 ·obtain⟨sm,I,U,z,V⟩:=h;rw[g,yk]at V;refine⟨p,I,rfl,.inl ⟨bp.of U,fun t c=>?_⟩⟩;exact q _ t I (s1.trans (sm.trans (ah c _))) ae (V.mono (bK.new c))
def Jx(ls:List Ln)(nm rw nl:Nat):Prop:=∀ l∈ls,l.Ok nm rw nl
structure Prog (nm rw:Nat) (ls:List Ln):Prop where
 hn:nm<=6
 hr:rw<=3
 l0:0 < ls.length
 l1:ls.length<=70
 ok:Jx ls nm rw ls.length
theorem gf{K:aL}{H:Hp}:∀ {ds:List D} {e:D} {vs:List V},IsL K H (ds++[e]) vs->∃ us v,vs=us++[v]/\IsL K H ds us/\Is K H e v
 | [],e,vs,h=>by
  obtain⟨v,r,rfl,h1,h2⟩:=IsL.cons_inv h;rw[h2.nil_inv];exact⟨[],v,rfl,aq,h1⟩
 | d::ds,e,vs,h=>by
  obtain⟨v,r,rfl,h1,h2⟩:=IsL.cons_inv h;obtain⟨us,z,rfl,I,J⟩:=gf h2;exact⟨v::us,z,rfl,af h1 I,J⟩
def az(l:List Nat):List V:=l.map fun (i:Nat)=>V.int (i:Int)
def tm(l:List Nat):List D:=l.map fun (i:Nat)=>D.int (i:Int)
theorem bg(l:List Nat):(az l).length=l.length:=bL ..
theorem dX{l:List Nat}(h:i < l.length):(az l)[i]?=some (.int (l[i]:Int)):=by
 show (l.map _)[i]?=_;rw[g6,cL h]; rfl
theorem tj{K:aL}{H:Hp}:∀ (l:List Nat),IsL K H (tm l) (az l)
 | []=>aq
 | i::l=>af aH (tj l)
theorem jr{K:aL}{H:Hp}:∀ {l:List Nat} {xs:List V},IsL K H (tm l) xs->xs=az l
 | [],xs,h=>IsL.nil_inv h
 | i::l,xs,h=>by
  obtain⟨v,r,rfl,h1,h2⟩:=IsL.cons_inv h;cases h1.int_inv;rw[jr h2];rfl
def Ln.wy:Ln->List Nat
 | .deed _ k=>[k]
 | .test _ _ _ k m=>[k,m]
 | .ask _ k m=>[k,m]
 | .stop=>[]
theorem Hu{rw:Nat}(h:l.Ok nm rw nl):∀ g∈l.wy,g < nl:=by
 intro g I;cases l with
 | deed d k=>
  rw[fS.mp (show g∈[k] from I)];exact h.2
 | test y u c k m=>
  rcases d0.mp (show g∈[k,m] from I) with e | e
  ·rw[e]; exact h.2.2.1
  ·rw[fS.mp e]; exact h.2.2.2
 | ask bs k m=>
  rcases d0.mp (show g∈[k,m] from I) with e | e
  ·rw[e]; exact h.2.2.1
  ·rw[fS.mp e]; exact h.2.2.2
 | stop=>cases I
theorem Br(l:Ln):l.wy.length<=2:=by cases l <;> exact bJ rfl
def Ln.kinds:Ln->List Str
 | .deed d _=>(jc.lookup d.word).getD []
 | .test ..=>IY
 | .ask ..=>["bounds","way","way"]
 | .stop=>[]
theorem kinds_of(l:Ln):jc.lookup l.word=some l.kinds:=by
 cases l with
 | deed d k=>cases d <;> rfl
 | test y u c k m=>rfl
 | ask bs k m=>rfl
 | stop=>rfl
theorem rp(l:Ln):jt l.kinds l.args=tm l.wy:=by
 cases l with
 | deed d k=>cases d <;> rfl
 | test y u c k m=>rfl
 | ask bs k m=>rfl
 | stop=>rfl
theorem rZ{rw:Nat}(h:l.Ok nm rw nl):l.args.length<=1000:=by
 cases l with
 | deed d k=>cases d <;> exact bJ rfl
 | test y u c k m=>exact bJ rfl
 | ask bs k m=>exact bJ rfl
 | stop=>exact bJ rfl
def fm(ls:List Ln)(i:Nat):List Nat:=((ls[i]?).map Ln.wy).getD []
theorem qR(h:i < ls.length):fm ls i=ls[i].wy:=by unfold fm; rw[cL h]; rfl
inductive BW (ls:List Ln):Nat->Prop
 | zero:BW ls 0
 | step {i j:Nat}:BW ls i->j∈fm ls i->BW ls j
theorem B6{rw:Nat}(P:Prog nm rw ls)(h:j∈fm ls i):i < ls.length/\j < ls.length:=by
 by_cases hi:i < ls.length
 ·rw[qR hi]at h;exact⟨hi,Hu (P.ok _ (wN hi)) j h⟩
 ·unfold fm at h;rw[yD (by lia)]at h;cases h
theorem BW.lt{rw:Nat}(P:Prog nm rw ls)(h:BW ls i):i < ls.length:=by
 cases h with
 | zero=>exact P.l0
 | step _ h=>exact (B6 P h).2
structure d4 (ls:List Ln) (rs:List Nat):Prop where
 so:rs.Pairwise (· < ·)
 mem:∀ i,i∈rs↔BW ls i
theorem oH:∀ {l l':List Nat},l.Pairwise (· < ·)->l'.Pairwise (· < ·)->(∀ i,i∈l↔i∈l')->l=l'
 | [],[],_,_,_=>rfl
 | [],b::_,_,_,h=>absurd ((h b).mpr gC) gh
 | a::_,[],_,_,h=>absurd ((h a).mp gC) gh
 | a::l,b::l',h1,h2,h=>by
  obtain⟨p1,q1⟩:=CQ.mp h1;obtain⟨p2,J⟩:=CQ.mp h2;have e:a=b:=by
   rcases d0.mp ((h a).mp gC) with e | e
   ·exact e
   ·rcases d0.mp ((h b).mpr gC) with I | I
    ·exact I.symm
    ·have:=p1 b I;have:=p2 a e
     lia
  subst e;rw[oH q1 J fun i=>⟨fun hi=>?_,fun hi=>?_⟩]
  ·rcases d0.mp ((h i).mp (jd _ hi)) with e | e
   ·have:=p1 i hi; lia
   ·exact e
  ·rcases d0.mp ((h i).mpr (jd _ hi)) with e | e
   ·have:=p2 i hi; lia
   ·exact e
theorem d4.eq{rs':List Nat}(h:d4 ls rs)(h':d4 ls rs'):rs=rs':=oH h.so h'.so fun i=>(h.mem i).trans (h'.mem i).symm
theorem d4.nodup(h:d4 ls rs):rs.Nodup:=h.so.imp fun h=>cH h
theorem fc:∀ {n:Nat} {l:List Nat},l.Nodup->(∀ i∈l,i < n)->l.length<=n
 | 0,[],_,_=>bH _
 | 0,a::_,_,h=>absurd (h a gC) (Nat.not_lt_zero _)
 | n + 1,l,hn,h=>by
  have h1:(l.filter (·≠n)).length<=n:=fc (hn.sublist List.filter_sublist) fun i hi=>by
   have:=List.mem_filter.mp hi;have:=h i this.1;have:i≠n:=by simpa using (List.mem_filter.mp hi).2
   lia
  have h2:l.length<=(l.filter (·≠n)).length + 1:=by
   clear h1 h
   induction l with
   | nil=>exact dI _
   | cons a l U=>
    obtain⟨J,O⟩:=vT.mp hn;by_cases e:a=n
    ·subst e;have:(a::l).filter (·≠a)=l:=by
      rw[Fh,if_neg (by simp),List.filter_eq_self];intro x I;simp only[ne_eq,decide_not,Bool.not_eq_true',decide_eq_false_iff_not];exact fun z=>J (z ▸ I)
     rw[this,jU]
     lia
    ·rw[Fh,if_pos (by simpa using e),jU,jU];have:=U O
     lia
  lia
theorem sv(hp:ns.Perm (F.map fun (i:Nat)=>(i:Int)))(hs:ns.Pairwise (·<=·))(hn:F.Nodup):∃ rs:List Nat,ns.map V.int=az rs/\rs.Pairwise (· < ·)/\(∀ i,i∈rs↔i∈F):=by
 have pos:∀ x∈ns,∃ i:Nat,i∈F/\x=(i:Int):=fun x I=>by
  obtain⟨i,hi,e⟩:=eW.mp (hp.mem_iff.mp I);exact⟨i,hi,e.symm⟩
 have J:ns.Nodup:=hp.nodup_iff.mpr (List.Pairwise.map _ (fun a b h e=>h (Int.ofNat.inj e)) hn);refine⟨ns.map Int.toNat,?_,?_,fun i=>⟨fun hi=>?_,fun hi=>?_⟩⟩
 ·unfold az;rw[List.map_map];refine List.map_congr_left fun x I=>?_
  obtain⟨i,_,rfl⟩:=pos x I;rfl
 ·refine List.pairwise_map.mpr ?_;refine List.Pairwise.imp_of_mem ?_ (hs.and J);intro a b O U h;obtain⟨i,_,rfl⟩:=pos a O;obtain⟨j,_,rfl⟩:=pos b U;show i < j;have h1:(i:Int)<=(j:Int):=h.1;have h2:(i:Int)≠(j:Int):=h.2
  lia
 ·obtain⟨x,I,rfl⟩:=eW.mp hi;obtain⟨j,Z,rfl⟩:=pos x I;exact Z
 ·exact eW.mpr ⟨(i:Int),hp.mem_iff.mpr (eW.mpr ⟨i,hi,rfl⟩),rfl⟩
def bQ(ks:List Nat)(g:Nat->V):List (Key × V):=ks.map fun (k:Nat)=>(Sum.inl (k:Int),g k)
theorem jm(ks:List Nat)(g:Nat->V):(bQ ks g).length=ks.length:=bL ..
theorem kT:∀ (ks:List Nat) (g:Nat->V) (k:Nat),dh (bQ ks g) (Sum.inl (k:Int))=if k∈ks then some (g k) else none
 | [],g,k=>by rw[if_neg gh]; rfl
 | a::ks,g,k=>by
  by_cases e:a=k
  ·subst e;rw[if_pos gC];exact cF (p:=(Sum.inl (a:Int),g a)) rfl
  ·have:dh (bQ (a::ks) g) (Sum.inl (k:Int))=dh (bQ ks g) (Sum.inl (k:Int)):=cE (p:=(Sum.inl (a:Int),g a)) (fun z=>e (Int.ofNat.inj (Sum.inl.inj z)));rw[this,kT ks g k];by_cases h:k∈ks
   ·rw[if_pos h,if_pos (jd _ h)]
   ·rw[if_neg h,if_neg (fun z=>(d0.mp z).elim (fun z=>e z.symm) h)]
theorem xI(h:∀ k∈ks,g k=g' k):bQ ks g=bQ ks g':=List.map_congr_left fun k I=>by rw[h k I]
theorem AL{k:Nat}(h:∀ j∈ks,g' j=g j):bQ ks g++[(Sum.inl (k:Int),g' k)]=bQ (ks++[k]) g':=by
 unfold bQ;rw[dH];congr 1;exact List.map_congr_left fun j I=>by rw[h j I]
theorem xi{k:Nat}(h:k∉ks):putK (bQ ks g) (Sum.inl (k:Int)) (g k)=bQ (ks++[k]) g:=by
 rw[rz _ (by rw[kT,if_neg h])];exact AL fun _ _=>rfl
theorem AG(ks:List Nat)(g:Nat->V):(bQ ks g).map (·.1)=(ks.map fun (i:Nat)=>(i:Int)).map Sum.inl:=by
 unfold bQ;rw[List.map_map,List.map_map]; rfl
theorem j9:∀ {more:List Nat} {ks:List Nat} {g:Nat->V},(ks++more).Nodup->eJ (bQ ks g) (bQ more g)=bQ (ks++more) g
 | [],ks,g,_=>by rw[jL]; rfl
 | k::more,ks,g,h=>by
  have hk:k∉ks:=fun z=>by
   have:=(List.nodup_append.mp h).2.2 k z k gC;exact this rfl
  show eJ (putK (bQ ks g) (Sum.inl (k:Int)) (g k)) (bQ more g)=_;rw[xi hk,j9 (by rw[iD]; exact h),iD]; rfl
structure ja (K:aL) (H:Hp) (tp al:Addr) (nm rw:Nat) (ls:List Ln):Prop where
 t:bu K H tp [.int (nm:Int),.int (rw:Int),.ref al]
 l:∃ xs,bp K H al xs/\IsL K H (ls.map Ln.D) xs
 ok:Prog nm rw ls
theorem ja.same{K:aL}{rw:Nat}(h:ja K H tp al nm rw ls)(s:aB H H'):ja K H' tp al nm rw ls:=by
 obtain⟨h1,⟨xs,h2,I⟩,J⟩:=h;exact⟨s.aA.sq h1,⟨xs,s.seq h2,I.mono s.aA⟩,J⟩
theorem xj{K:aL}(h:∃ xs,bp K H al xs/\IsL K H (ls.map Ln.D) xs)(hi:i < ls.length):∃ xs v,bp K H al xs/\nz xs (i:Int)=some v/\Is K H ls[i].D v:=by
 obtain⟨xs,h2,O⟩:=h;obtain⟨v,J,I⟩:=O.get (j:=i) (d:=ls[i].D) (by rw[g6,cL hi]; rfl);exact⟨xs,v,h2,eR J,I⟩
abbrev hZ:Stmt:=top 10
theorem fb:aW ["program","found","waiting","at","after"] ji (av hZ):=by walk_at "k"
inductive sC(K:aL)(vs:List V)(H:Hp)(Q:VK)(E:XK):Prop|m(tp al:Addr)(nm rw:Nat)(ls:List Ln)(_:vs=[.ref tp])(_:ja K H tp al nm rw ls)(_:∀ (H':Hp) (p:Addr) (rs:List Nat),aB H H'->H' p=some (.lst (az rs))->H p=none->d4 ls rs->Q (.ref p) H')
abbrev yes:Nat->V:=fun _=>.bl true
structure CT (ls:List Ln) (F W:List Nat):Prop where
 nd:F.Nodup
 z:0∈F
 r:∀ i∈F,BW ls i
 w:∀ i∈W,i∈F
 c:∀ i∈F,i∉W->∀ j∈fm ls i,j∈F
theorem CT.all(h:CT ls F []):BW ls i->i∈F:=fun I=>by
 induction I with
 | zero=>exact h.z
 | step _ O J=>exact h.c _ J gh _ O
structure CI (ls:List Ln) (F W:List Nat) (a k:Nat):Prop where
 nd:F.Nodup
 z:0∈F
 r:∀ i∈F,BW ls i
 w:∀ i∈W,i∈F
 ha:a∈F
 c:∀ i∈F,i∉W->i≠a->∀ j∈fm ls i,j∈F
 d:∀ j∈(fm ls a).take k,j∈F
theorem CT.start(h:CT ls F (W++[a])):CI ls F W a 0:=
 ⟨h.nd,h.z,h.r,fun i hi=>h.w i (uj _ hi),h.w a (by simp),fun i hi h1 h2=>h.c i hi fun z=>by
  rcases fY.mp z with z | z
  ·exact h1 z
  ·exact h2 (fS.mp z),fun j I=>by simp at I⟩
theorem rR{l:List Nat}{k g:Nat}(e:l[k]?=some g)(h:j∈l.take (k + 1)):j∈l.take k\/j=g:=by
 rw[kX,e]at h;rcases fY.mp h with h | h
 ·exact .inl h
 ·exact .inr (by simpa using h)
theorem CI.old{k g:Nat}(h:CI ls F W a k)(e:(fm ls a)[k]?=some g)(hg:g∈F):CI ls F W a (k + 1):=
 ⟨h.nd,h.z,h.r,h.w,h.ha,h.c,fun j I=>by
  rcases rR e I with I | rfl
  ·exact h.d j I
  ·exact hg⟩
theorem CI.new{k g:Nat}(h:CI ls F W a k)(e:(fm ls a)[k]?=some g)(hg:g∉F):CI ls (F++[g]) (W++[g]) a (k + 1):=by
 refine⟨vU h.nd hg,uj _ h.z,fun i hi=>?_,fun i hi=>?_,uj _ h.ha,fun i hi h1 h2 j I=>?_,fun j I=>?_⟩
 ·rcases fY.mp hi with hi | hi
  ·exact h.r i hi
  ·rw[fS.mp hi];exact .step (h.r a h.ha) (oY e)
 ·rcases fY.mp hi with hi | hi
  ·exact uj _ (h.w i hi)
  ·exact uD _ hi
 ·rcases fY.mp hi with hi | hi
  ·exact uj _ (h.c i hi (fun z=>h1 (uj _ z)) h2 j I)
  ·exact absurd (uD _ hi) h1
 ·rcases rR e I with I | rfl
  ·exact uj _ (h.d j I)
  ·exact uD _ (fS.mpr rfl)
theorem CI.stop{k:Nat}(h:CI ls F W a k)(hk:(fm ls a).length<=k):CT ls F W:=by
 refine⟨h.nd,h.z,h.r,h.w,fun i hi h1 j I=>?_⟩;by_cases e:i=a
 ·subst e;exact h.d j (by rw[yE hk]; exact I)
 ·exact h.c i hi h1 e j I
theorem uK(F:fL K "come_to" "come_to" hZ f fd)(m_sorted:mg "sorted" = none)(c_ways:Cl P w K mg base "ways" n uz (vj K)):b9 P w K mg base fM (n + 1) f fd ji (sC K):=by
 refine F.ok fb (by walk_at "l") (fun cdv A outer s H vs Q E hr h=>?_);obtain⟨tp,al,nm,rw,ls,rfl,D,q⟩:=h;have hu:(A.deeper (envOfC "come_to" (av hZ) s.heap.objs.size f cdv)).units + 1 < cLine:=by have:=hr.units; lia
 refine⟨_,(@ak _ _ _ _ _ (@An _ _ 1 _ _ _ _ fb.nd rfl (Or.inl rfl) (@CH _ _ _ _ _ (@AQ _ _ _ _ _ _ _ _ _ ag qZ Dv) rfl rfl (fun z=>nomatch z) (by decide)) rfl (by first | exact .inl rfl | exact .inr rfl))
   (@ak _ _ _ _ _ (ba (i:=2) fb.nd (br (aa ag aj)))
   (@ak _ _ _ _ _ (rb qW (zN (pv 2) (fun _=>rfl)) (@ak _ _ _ _ _ (ba (i:=3) fb.nd (zp nB PySem.F.slot_list_pop PySem.F.type_list_pop AM (pv 2)))
   (au (dg qW rfl (mQ (aY c_ways hr rfl (aa (aU cu (aU a9 (pv 0) ag) (pv 3)) aj))) (aG (i:=4) fb.nd rfl (Or.inl rfl)) (au (ck (tV (ym hu (pv 4) (pv 1))) (@ak _ _ _ _ _ (BP hu (pv 1) (pv 4) qZ rfl)
   (au (bP (dy nB tR tS bF (pv 2) (aa (pv 4) aj))))) bw))))))
   (au (aQ (bh (pK rfl) rfl m_sorted PyProof.Rows.boot_sorted (aa (pv 1) aj))))))),?_⟩
 intro pd T;refine⟨ae,[(Sum.inl 0,.bl true)],rfl,bJ rfl,?_⟩;have lt:∀ {F W:List Nat},CT ls F W->F.length<=ls.length:=fun h=>fc h.nd fun i hi=>(h.r i hi).lt D.ok
 have l1:=D.ok.l1;have e0:upd (upd H pd (.dK [])) pd (.dK (eJ [] [(Sum.inl 0,.bl true)]))=upd H pd (.dK (bQ [0] yes)):=by rw[CY]; rfl
 rw[e0];have s1:=ah T (.dK (bQ [0] yes));refine⟨bJ rfl,fun pw j=>?_⟩;have s2:=ah j (.lst [.int 0]);have ed:=s2 _ _ (ae (H:=H) (a:=pd) (o:=.dK (bQ [0] yes)));have ew:upd (upd H pd (.dK (bQ [0] yes))) pw (.lst [.int 0]) pw=some (.lst (az [0])):=ae;have p:=aD s1 j;have Y:=s1.trans s2;have u:pd≠pw:=gH (ae (H:=H) (a:=pd) (o:=.dK (bQ [0] yes))) j;generalize upd (upd H pd (.dK (bQ [0] yes))) pw (.lst [.int 0])=H2 at ed ew Y;clear s1 s2 j e0
 refine⟨fun m σ H'=>∃ (F W:List Nat) (y3 d:Option V),aB H H'/\H' pd=some (.dK (bQ F yes))/\H' pw=some (.lst (az W))/\CT ls F W/\(m=2 * (ls.length - F.length) + W.length/\m<=2 * ls.length)/\σ=[some (.ref tp),some (.ref pd),some (.ref pw),y3,d],
  ⟨_,[0],[0],_,_,Y,ed,ew,⟨by simp,by simp,fun i hi=>by rw[fS.mp hi]; exact .zero,fun _ h=>h,fun i hi h=>absurd hi h⟩,⟨rfl,by have:=D.ok.l0; show 2 * (ls.length - 1) + 1<=_; lia⟩,rfl⟩,fun m σ H3 h=>?_⟩
 obtain⟨F,W,y3,d,s3,G,c,C,⟨rfl,hm0⟩,rfl⟩:=h;refine⟨_,rfl,_,.inl ⟨_,bp.of c,rfl⟩,?_⟩;rcases List.eq_nil_or_concat W with rfl | ⟨O,a,rfl⟩
 ·refine eI ?_;refine⟨_,rfl,pd,_,F.map (fun (i:Nat)=>(i:Int)),rfl,G,AG F yes,by rw[jm]; have:=lt C; lia,fun l ns nl hp hs=>?_⟩;obtain⟨rs,e1,e2,e3⟩:=sv hp hs C.nd;rw[e1];exact q _ l rs (s3.trans (ah nl _)) ae (aD s3 nl) ⟨e2,fun i=>(e3 i).trans ⟨C.r i,C.all⟩⟩
 ·rw[List.concat_eq_append]at c C |-;have ea:(az (O++[a]))=az O++[.int (a:Int)]:=by unfold az; rw[dH]; rfl
  have la:(O++[a]).length=O.length + 1:=by simp
  rw[List.concat_eq_append,la]at hm0;refine cj (fun _=>?_) (fun cc=>absurd (by rw[ea]; simp) cc);refine⟨fun σ' H'=>∃ m',m' < 2 * (ls.length - F.length) + (O++[a]).length/\∃ (F W:List Nat) (y3 d:Option V),aB H H'/\H' pd=some (.dK (bQ F yes))/\H' pw=some (.lst (az W))/\CT ls F W/\(m'=2 * (ls.length - F.length) + W.length/\m'<=2 * ls.length)/\σ'=[some (.ref tp),some (.ref pd),some (.ref pw),y3,d],fun _ _ h=>h,?_⟩;have hra:=C.r a (C.w a (by simp));have B:=hra.lt D.ok;refine⟨_,rfl,.inl ⟨rfl,_,bp.of c⟩,pw,_,.int (a:Int),rfl,rfl,c,by rw[ea]; simp,?_⟩;have S:upd H3 pw (.lst (az (O++[a])).dropLast) pw=some (.lst (az O)):=by rw[ae,ea,List.dropLast_concat]
  have L:upd H3 pw (.lst (az (O++[a])).dropLast) pd=some (.dK (bQ F yes)):=by rw[aw u]; exact G
  have s4:aB H (upd H3 pw (.lst (az (O++[a])).dropLast)):=aB.new s3 p;generalize upd H3 pw (.lst (az (O++[a])).dropLast)=H4 at S L s4;clear c G s3;have P4:=D.same s4;obtain⟨xs,v,hxs,hv,iv⟩:=xj P4.l B;have R:=D.ok.ok _ (wN B);have y:=qR B;generalize ls[a]=l at iv R y;refine⟨_,rfl,tp,_,2,_,rfl,rfl,P4.t,at2 _ _ _ _,_,rfl,al,xs,_,_,rfl,rfl,hxs,hv,v,l.word,l.args,l.kinds,rfl,iv,kinds_of l,rZ R,fun H5 t xs5 s5 et il=>⟨t,rfl,⟨_,bu.of et⟩,?_⟩⟩;rw[rp]at il;cases jr il;have ed5:=s5 _ _ L;have ew5:=s5 _ _ S;have s05:=s4.trans s5;refine Cb (xs:=az l.wy) (fun i σ H'=>∃ (I U:List Nat) (d:Option V),aB H H'/\H' t=some (.tup (az l.wy))/\H' pd=some (.dK (bQ I yes))/\H' pw=some (.lst (az U))/\CI ls I U a i/\2 * (ls.length - I.length) + U.length<=2 * (ls.length - F.length) + O.length/\σ=[some (.ref tp),some (.ref pd),some (.ref pw),some (.int (a:Int)),d])
   ⟨F,O,_,s05,et,ed5,ew5,C.start,bH _,rfl⟩ (fun i σ H' _ h=>?_) (fun i x σ H' ex h=>?_) (fun σ H' h=>?_)
  ·obtain⟨I,U,d,_,e,_⟩:=h;exact bu.of e
  ·obtain⟨I,U,d,s6,b,J,Z,CC,hm,rfl⟩:=h;have hi:i < l.wy.length:=by have:=(dJ.mp ex).1; rw[bg]at this; exact this
   rw[dX hi]at ex;cases ex;have eg:(fm ls a)[i]?=some l.wy[i]:=by rw[y]; exact cL hi
   generalize l.wy[i]=g at eg;refine⟨_,rfl,_,rfl,pd,_,rfl,nA.k (k:=.inl (g:Int)) J,_,rfl,?_⟩;rw[kT];by_cases M:g∈I
   ·rw[if_pos M];exact eI ⟨I,U,_,s6,b,J,Z,CC.old eg M,hm,rfl⟩
   ·rw[if_neg M];have C2:=CC.new eg M;have hl2:(I++[g]).length<=ls.length:=fc C2.nd fun i hi=>(C2.r i hi).lt D.ok
    rw[dE,nv]at hl2;have hW:U.length<=1000:=by lia
    refine lL ⟨_,rfl,_,rfl,pd,_,rfl,zF.k (k:=.inl (g:Int)) J (aN (by rw[jm]; lia)),?_⟩;have e7:putK (bQ I yes) (Sum.inl (g:Int)) (.bl true)=bQ (I++[g]) yes:=xi (g:=yes) M;rw[e7];have N:upd H' pd (.dK (bQ (I++[g]) yes)) pw=some (.lst (az U)):=by rw[aw (Ne.symm u)]; exact Z
    refine⟨_,rfl,.inl ⟨rfl,_,bp.of N⟩,_,rfl,pw,_,_,rfl,rfl,N,aN (by rw[bg]; lia),?_⟩;refine⟨I++[g],U++[g],_,aB.new (aB.new s6 T) p,?_,?_,?_,C2,?_,rfl⟩
    ·rw[aw (fQ b Z (by intro z; cases z)),aw (fQ b J (by intro z; cases z))]; exact b
    ·rw[aw u,ae]
    ·rw[ae]; unfold az; rw[dH]; rfl
    ·rw[dE,dE,nv]; lia
  ·obtain⟨I,U,d,s6,b,J,Z,CC,hm,rfl⟩:=h;refine⟨_,?_,I,U,_,_,s6,J,Z,CC.stop (by rw[y,bg]; exact bH _),⟨rfl,by lia⟩,rfl⟩;rw[la]; lia
abbrev Way:=Option (Nat × Nat)
def zY:Way->D
 | none=>.non
 | some (a,b)=>.tup [.int (a:Int),.int (b:Int)]
def basis(k:Nat):List Way:=if k=0 then [none] else []
def hits(ws:List Nat)(a k:Nat):List Way:=ws.zipIdx.filterMap fun (g,j)=>if g=k then some (some (a,j)) else none
theorem xU{ws:List Nat}{k g:Nat}(e:ws[j]?=some g):hits (ws.take (j + 1)) a k=hits (ws.take j) a k++(if g=k then [some (a,j)] else []):=by
 unfold hits;have I:j < ws.length:=(dJ.mp e).1;rw[kX,e,List.zipIdx_append,List.filterMap_append];congr 1;have:0 + (ws.take j).length=j:=by rw[gx]; lia
 rw[this];show List.filterMap _ [(g,j)]=_;by_cases h:g=k
 ·simp[h]
 ·simp[h]
theorem sf(ws:List Nat)(a k:Nat):(hits ws a k).length<=ws.length:=by
 unfold hits;have:=List.length_filterMap_le (fun (x:Nat × Nat)=>match x with | (g,j)=>if g=k then some (some (a,j)) else none) ws.zipIdx;rw[List.length_zipIdx]at this;exact this
def lead(ls:List Ln)(rs:List Nat)(k:Nat):List Way:=basis k++rs.flatMap fun a=>hits (fm ls a) a k
theorem xE{k:Nat}(e:rs[i]?=some a):lead ls (rs.take (i + 1)) k=lead ls (rs.take i) k++hits (fm ls a) a k:=by
 unfold lead;rw[kX,e,List.flatMap_append,iD];congr 2;simp
theorem rh(ls:List Ln)(a:Nat):(fm ls a).length<=2:=by
 unfold fm;cases ls[a]? with
 | none=>exact dI _
 | some l=>exact Br l
theorem Av(ls:List Ln)(k:Nat):∀ rs:List Nat,(lead ls rs k).length<=1 + 2 * rs.length:=by
 intro rs;unfold lead;rw[dE];have h1:(basis k).length<=1:=by unfold basis; split <;> simp
 have h2:(rs.flatMap fun a=>hits (fm ls a) a k).length<=2 * rs.length:=by
  induction rs with
  | nil=>simp
  | cons a rs I=>
   rw[List.flatMap_cons,dE,jU];have:=sf (fm ls a) a k;have:=rh ls a
   lia
 lia
structure gy (K:aL) (H:Hp) (d:Addr) (ks:List Nat) (pf:Nat->Addr) (wf:Nat->List Way):Prop where
 d:H d=some (.dK (bQ ks fun k=>.ref (pf k)))
 l:∀ k∈ks,∃ ys,H (pf k)=some (.lst ys)/\IsL K H ((wf k).map zY) ys
 i:∀ k∈ks,∀ k'∈ks,pf k=pf k'->k=k'
theorem gy.same{K:aL}(L:gy K H d ks pf wf)(s:aB H H'):gy K H' d ks pf wf:=
 ⟨s _ _ L.d,fun k I=>let ⟨ys,h1,h2⟩:=L.l k I; ⟨ys,s _ _ h1,h2.mono s.aA⟩,L.i⟩
theorem gy.congr{K:aL}{wf':Nat->List Way}(L:gy K H d ks pf wf)(h:∀ k,wf k=wf' k):gy K H d ks pf wf':=by
 have:wf=wf':=funext h;exact this ▸ L
theorem gy.app{K:aL}(L:gy K H d ks pf wf){k:Nat}(hk:k∈ks)(ey:H (pf k)=some (.lst ys)){x:Way}(iv:Is K H (zY x) v) :
  gy K (upd H (pf k) (.lst (ys++[v]))) d ks pf (fun j=>wf j++if k=j then [x] else []):=by
 have tl:=bK.lst (ys:=ys++[v]) ey;refine⟨?_,fun j I=>?_,L.i⟩
 ·rw[aw (fQ L.d ey (by intro z; cases z))]; exact L.d
 ·obtain⟨zs,h1,h2⟩:=L.l j I;by_cases e:k=j
  ·subst e;rw[ey]at h1;cases h1;refine⟨_,ae,?_⟩;rw[if_pos rfl,dH];exact IsL.append (h2.mono tl) (af (iv.mono tl) aq)
  ·refine⟨zs,?_,?_⟩
   ·rw[aw (fun z=>e (L.i j I k hk z).symm)]; exact h1
   ·rw[if_neg e,jL]; exact h2.mono tl
theorem gy.len{K:aL}(L:gy K H d ks pf wf){k:Nat}(hk:k∈ks):∃ ys,H (pf k)=some (.lst ys)/\IsL K H ((wf k).map zY) ys/\ys.length=(wf k).length:=by
 obtain⟨ys,h1,h2⟩:=L.l k hk;have:=h2.length;rw[bL]at this;exact⟨ys,h1,h2,this.symm⟩
theorem gy.get{K:aL}(L:gy K H d ks pf wf){k:Nat}(hk:k∈ks):nA H d (.int (k:Int)) (some (.ref (pf k))):=by
 have:=nA.k (k:=.inl (k:Int)) L.d;rw[kT,if_pos hk]at this;exact this
abbrev d7:Stmt:=top 13
abbrev mE:Stmt:=top 14
abbrev fz:Stmt:=top 12
abbrev uL:Stmt:=top 11
theorem cX:aW qK ji (av d7):=by walk_at "k"
theorem yn:aW Gf Gf (av mE):=by walk_at "k"
theorem qw:aW ji ji (av fz):=by walk_at "k"
theorem BM:aW ji ji (av uL):=by walk_at "k"
inductive lR(K:aL)(vs:List V)(H:Hp)(Q:VK)(E:XK):Prop|m(tp al:Addr)(nm rw:Nat)(ls:List Ln)(_:vs=[.ref tp])(_:ja K H tp al nm rw ls)(_:∀ (H':Hp) (d:Addr) (rs:List Nat) (pf:Nat->Addr),aB H H'->d4 ls rs->gy K H' d rs pf (lead ls rs)->H d=none->(∀ k∈rs,H (pf k)=none)->Q (.ref d) H')
structure Mk (H0 H:Hp) (pc:Addr) (ks:List Nat) (ps:List (Addr × Key × V)) (pf:Nat->Addr):Prop where
 l:H pc=some (.lst (ps.map fun t=>.ref t.1))
 t:∀ t∈ps,H t.1=some (.tup [kV t.2.1,t.2.2])
 v:ps.map (·.2)=bQ ks fun k=>.ref (pf k)
 e:∀ k∈ks,H (pf k)=some (.lst [])/\H0 (pf k)=none/\pf k≠pc
 i:∀ k∈ks,∀ k'∈ks,pf k=pf k'->k=k'
theorem qy(F:fL K "into_each" "into_each" d7 f fd)(m_enumerate:mg "enumerate" = none)(m_dict:mg "dict" = none)(c_ways:Cl P w K mg base "ways" n uz (vj K))(c_come_to:Cl P w K mg base "come_to" n ji (sC K)):b9 P w K mg base fM (n + 1) f fd ji (lR K):=by
 refine F.ok cX (by walk_at "l") (fun cdv A outer s H vs Q E hr h=>?_);obtain⟨tp,al,nm,rw,ls,rfl,S,q⟩:=h;have hu:(A.deeper (envOfC "into_each" (av d7) s.heap.objs.size f cdv)).units + 1 < cLine:=by have:=hr.units; lia
 refine⟨_,(@ak _ _ _ _ _ (ba (i:=1) cX.nd (aY c_come_to hr rfl (aa (pv 0) aj)))
   (@ak _ _ _ _ _ (ba (i:=2) cX.nd (bE (mD rfl) rfl m_dict PyProof.Rows.boot_dict (aa (cA uz rfl (cT (N:=qK) (so:=av d7) rfl rfl (by decide +kernel)) (cM (pv 1)) (fun _ _ _ _ _ _=>(aG (i:=0) (show List.Nodup (α:=Str) ["line","program","reached","leading","at","which","after"] by decide +kernel) rfl (Or.inl rfl) (Or.inr rfl))) (fun _ _ _ _ _ _=>cD) (fun _ _ _ _ _ _=>(aE (aa (pv 0) (aa (br aj) aj))))) aj)))
   (@ak _ _ _ _ _ (bP (dy nB tR tS bF (v9 hu (pv 2) ag) (aa dR aj)))
   (@ak _ _ _ _ _ (dg qW rfl (cM (pv 1)) (aG (i:=3) cX.nd rfl (Or.inl rfl)) (au (dg qW rfl (yO rfl m_enumerate (aa (aY c_ways hr rfl (aa (aU cu (aU a9 (pv 0) ag) (pv 3)) aj)) aj)) (jf rfl (bG (aG (i:=4) cX.nd rfl (Or.inl rfl)) (bG (aG (i:=5) cX.nd rfl (Or.inl rfl)) eP))) (au (bP (dy nB tR tS bF (v9 hu (pv 2) (pv 5)) (aa (aE (aa (pv 3) (aa (pv 4) aj))) aj)))))))
   (au (aQ (pv 2))))))),?_⟩
 refine⟨_,rfl,tp,al,nm,rw,ls,rfl,S,fun H1 c rs s1 er nr R=>?_⟩;have l1:=S.ok.l1;have lr:rs.length<=ls.length:=fc R.nodup fun i hi=>((R.mem i).mp hi).lt S.ok
 have T:0∈rs:=(R.mem 0).mpr .zero;refine⟨_,rfl,c,rfl,⟨_,bp.of er⟩,fun pc npc=>?_⟩;refine eU (xs:=az rs) (fun i H'=>aB H1 H'/\∃ ps pf,Mk H1 H' pc (rs.take i) ps pf) ⟨ah npc _,[],fun _=>0,⟨ae,fun _ h=>absurd h gh,rfl,fun _ h=>by simp at h,fun _ h=>by simp at h⟩⟩ (fun i H' _ h=>bp.of (h.1 _ _ er)) (fun i y H2 L h=>?_) (fun H2 h=>?_)
 ·obtain⟨s2,ps,pf,M⟩:=h;have hi:i < rs.length:=by have:=(dJ.mp L).1; rw[bg]at this; exact this
  rw[dX hi]at L;cases L;have hkn:rs[i]∉rs.take i:=fun z=>by
   obtain⟨j,J,e⟩:=List.getElem_of_mem z;rw[gx]at J;rw[List.getElem_take]at e;have:=(List.getElem_inj R.nodup).mp e
   lia
  have et:rs.take (i + 1)=rs.take i++[rs[i]]:=by rw[kX,cL hi]; rfl
  generalize rs[i]=k at hkn et;have U:∀ j,j∈rs.take i->j≠k:=fun j J z=>hkn (by rw[<-z]; exact J)
  refine⟨⟨[some (.int (k:Int))],rfl,rfl⟩,bR ?_⟩;refine⟨_,rfl,bJ rfl,fun p1 Z=>⟨bJ rfl,fun t1 nt1=>?_⟩⟩;have u1:=ah Z (.lst []);have u2:=ah nt1 (.tup [.int (k:Int),.ref p1]);have O:=u1.trans u2;have e1:=u2 _ _ (ae (H:=H2) (a:=p1) (o:=.lst []));have e2:upd (upd H2 p1 (.lst [])) t1 (.tup [.int (k:Int),.ref p1]) t1=some (.tup [.int (k:Int),.ref p1]):=ae;have ec:=O _ _ M.l;have n1:=aD s2 Z;have nt:=aD u1 nt1;generalize upd (upd H2 p1 (.lst [])) t1 (.tup [.int (k:Int),.ref p1])=H3 at O e1 e2 ec;have lp:ps.length=i:=by
   have:=pq List.length M.v;rw[bL,jm,gx]at this
   lia
  refine⟨_,ec,aN (by rw[bL]; lia),aB.new (s2.trans O) npc,ps++[(t1,.inl (k:Int),.ref p1)],fun j=>if j=k then p1 else pf j,?_⟩;have hpc:pc≠p1:=gH M.l Z;have htc:t1≠pc:=(gH M.l nt).symm;rw[et];refine⟨by rw[ae,dH]; rfl,fun t ht=>?_,?_,fun j J=>?_,fun j J j' I e=>?_⟩
  ·rcases fY.mp ht with ht | ht
   ·have h:=M.t t ht;rw[aw (fQ h M.l (by intro z; cases z))];exact O _ _ h
   ·rw[fS.mp ht,aw htc]; exact e2
  ·rw[dH,M.v];refine (pq (·++[((Sum.inl (k:Int):Key),V.ref p1)]) (xI (g':=fun j=>V.ref (if j=k then p1 else pf j)) fun j J=>?_)).trans ?_
   ·rw[if_neg (U _ J)]
   ·unfold bQ;rw[dH];congr 1;simp
  ·rcases fY.mp J with J | J
   ·obtain⟨a1,a2,a3⟩:=M.e j J;rw[if_neg (U _ J)];exact⟨by rw[aw a3]; exact O _ _ a1,a2,a3⟩
   ·rw[fS.mp J,if_pos rfl];exact⟨by rw[aw hpc.symm]; exact e1,n1,hpc.symm⟩
  ·have aux:∀ x,x∈rs.take i->pf x≠p1:=fun x hx z=>by
    have:=(M.e x hx).1;rw[z,Z]at this;cases this
   rcases fY.mp J with J | J
   ·rw[if_neg (U _ J)]at e;rcases fY.mp I with I | I
    ·rw[if_neg (U _ I)]at e;exact M.i j J j' I e
    ·rw[fS.mp I,if_pos rfl]at e;exact absurd e (aux j J)
   ·rw[fS.mp J]at e |-;rw[if_pos rfl]at e;rcases fY.mp I with I | I
    ·rw[if_neg (U _ I)]at e;exact absurd e.symm (aux j' I)
    ·exact (fS.mp I).symm
 ·obtain⟨s2,ps,pf,M⟩:=h;rw[bg,mw]at M;refine⟨pc,ps,rfl,M.l,M.t,fun pd C=>?_⟩;have em:eJ [] (ps.map (·.2))=bQ rs (fun k=>V.ref (pf k)):=by
   rw[M.v];exact j9 (ks:=[]) (by simpa using R.nodup)
  rw[em];have u3:=ah C (.dK (bQ rs fun k=>V.ref (pf k)));have ed:upd H2 pd (.dK (bQ rs fun k=>V.ref (pf k))) pd=some (.dK (bQ rs fun k=>V.ref (pf k))):=ae;have s3:=s1.trans (s2.trans u3);have s13:=s2.trans u3;have npd0:=aD (s1.trans s2) C;have L0:gy K (upd H2 pd (.dK (bQ rs fun k=>V.ref (pf k)))) pd rs pf (fun _=>[]):=⟨ed,fun k hk=>⟨[],u3 _ _ (M.e k hk).1,aq⟩,M.i⟩
  have fr:∀ k∈rs,H (pf k)=none:=fun k hk=>aD s1 (M.e k hk).2.1
  have npr:∀ k∈rs,c≠pf k:=fun k hk=>gH er (M.e k hk).2.1
  have er3:=s13 _ _ er;generalize upd H2 pd (.dK (bQ rs fun k=>V.ref (pf k)))=H3 at s3 L0 er3;clear u3 C s13 s2 M em ed;obtain⟨y0,b,_,_⟩:=L0.len T;have hy:y0=[]:=by
   obtain⟨ys,h1,h2⟩:=L0.l 0 T;rw[b]at h1;cases h1;exact h2.nil_inv
  subst hy;refine⟨_,rfl,pd,_,rfl,L0.get T,.inl ⟨rfl,_,bp.of b⟩,pf 0,_,_,rfl,rfl,b,Ar (dI _) (aN (bH 1000)),?_⟩;have L1:=(L0.app T b (x:=none) kj).congr (wf':=lead ls (rs.take 0)) fun k=>by
   unfold lead basis;by_cases e:k=0
   ·subst e; simp
   ·rw[if_neg e,if_neg (Ne.symm e)]; simp
  have s4:aB H (upd H3 (pf 0) (.lst ([]++[V.non]))):=aB.new s3 (fr 0 T);have r:upd H3 (pf 0) (.lst ([]++[V.non])) c=some (.lst (az rs)):=by rw[aw (npr 0 T)]; exact er3
  generalize upd H3 (pf 0) (.lst ([]++[V.non]))=H4 at L1 s4 r;refine⟨_,rfl,c,rfl,⟨_,bp.of r⟩,?_⟩;refine d9 (xs:=az rs) (fun i σ H'=>aB H H'/\H' c=some (.lst (az rs))/\gy K H' pd rs pf (lead ls (rs.take i))/\∃ y3 m u:Option V,σ=[some (.ref tp),some (.ref c),some (.ref pd),y3,m,u])
   ⟨s4,r,L1,_,_,_,rfl⟩ (fun i σ H' _ h=>bp.of h.2.1) (fun i x σ H5 ex h=>?_) (fun σ H5 h=>?_)
  ·obtain⟨s5,Y,L5,y3,m,u,rfl⟩:=h;have hi:i < rs.length:=by have:=(dJ.mp ex).1; rw[bg]at this; exact this
   rw[dX hi]at ex;cases ex;have ea:=cL hi;generalize rs[i]=a at ea;have hra:=(R.mem a).mp (oY ea);have p:=hra.lt S.ok;have P5:=S.same s5;obtain⟨xs,v,hxs,hv,iv⟩:=xj P5.l p;have okl:=S.ok.ok _ (wN p);have d:=qR p;generalize ls[a]=l at iv okl d;refine⟨_,rfl,tp,_,2,_,rfl,rfl,P5.t,at2 _ _ _ _,_,rfl,al,xs,_,_,rfl,rfl,hxs,hv,v,l.word,l.args,l.kinds,rfl,iv,kinds_of l,rZ okl,fun H6 t xs6 s6 et il=>⟨t,rfl,⟨_,bu.of et⟩,?_⟩⟩;rw[rp]at il;cases jr il;refine xY (xs:=az l.wy) (fun j σ H'=>aB H H'/\H' c=some (.lst (az rs))/\H' t=some (.tup (az l.wy))/\gy K H' pd rs pf (fun k=>lead ls (rs.take i) k++hits ((fm ls a).take j) a k)/\∃ m u:Option V,σ=[some (.ref tp),some (.ref c),some (.ref pd),some (.int (a:Int)),m,u])
    ⟨s5.trans s6,s6 _ _ Y,et,(L5.same s6).congr fun k=>by simp[hits],_,_,rfl⟩ (fun j σ H' _ h=>bu.of h.2.2.1) (fun j x σ H7 tt ex h ntt=>?_) (fun σ H7 h=>?_)
   ·obtain⟨s7,G,et7,L7,m,u,rfl⟩:=h;have J:j < l.wy.length:=by have:=(dJ.mp ex).1; rw[bg]at this; exact this
    rw[dX J]at ex;cases ex;have eg:(fm ls a)[j]?=some l.wy[j]:=by rw[d]; exact cL J
    generalize l.wy[j]=g at eg;have hg:g∈rs:=(R.mem g).mpr (.step hra (oY eg));have u8:=ah ntt (.tup [.int (j:Int),.int (g:Int)]);have L8:=L7.same u8;have er8:=u8 _ _ G;have B:=u8 _ _ et7;have ett:upd H7 tt (.tup [.int (j:Int),.int (g:Int)]) tt=some (.tup [.int (j:Int),.int (g:Int)]):=ae;have s8:=s7.trans u8;generalize upd H7 tt (.tup [.int (j:Int),.int (g:Int)])=H8 at L8 er8 B ett s8;obtain⟨ys,L,_,ly⟩:=L8.len hg;refine⟨tt,_,rfl,bu.of ett,rfl,_,_,rfl,_,_,rfl,rfl,?_⟩;refine⟨_,rfl,_,rfl,pd,_,rfl,L8.get hg,.inl ⟨rfl,_,bp.of L⟩,_,rfl,_,rfl,bJ rfl,fun t9 nt9=>?_⟩;have W:=ah nt9 (.tup [.int (a:Int),.int (j:Int)]);have L9:=L8.same W;have D:=W _ _ L;have iv9:Is K (upd H8 t9 (.tup [.int (a:Int),.int (j:Int)])) (zY (some (a,j))) (.ref t9):=aX (bu.of ae) (af aH (af aH aq));have b1:=Av ls g (rs.take i);have b2:=sf ((fm ls a).take j) a g;have b3:=rh ls a;rw[gx]at b1 b2;rw[dE]at ly;refine⟨pf g,ys,_,rfl,rfl,D,aN (by lia),aB.new (s8.trans W) (fr g hg),?_,?_,(L9.app hg D iv9).congr fun k=>?_,_,_,rfl⟩
    ·rw[aw (npr g hg)]; exact W _ _ er8
    ·rw[aw (fQ (W _ _ B) D (by intro z; cases z))]; exact W _ _ B
    ·rw[xU eg,iD]
   ·obtain⟨s7,G,et7,L7,m,u,rfl⟩:=h;refine⟨s7,G,L7.congr fun k=>?_,_,_,_,rfl⟩;have e:(fm ls a).take (az l.wy).length=fm ls a:=yE (by rw[d,bg]; exact bH _);rw[xE ea,e]
  ·obtain⟨s5,Y,L5,y3,m,u,rfl⟩:=h;rw[bg,mw]at L5;exact⟨_,rfl,q _ pd rs pf s5 R L5 npd0 fr⟩
def nu(k:Nat)(ws:List Way):Bool:=decide (k=0) || decide (2<=ws.length)
def cO(ls:List Ln)(rs:List Nat):List Nat:=rs.filter fun k=>nu k (lead ls rs k)
inductive vG(K:aL)(vs:List V)(H:Hp)(Q:VK)(E:XK):Prop|m(k:Nat)(p:Addr)(ws:List Way)(ys:List V)(_:vs=[.int (k:Int),.ref p])(_:bp K H p ys)(_:ys.length=ws.length)(_:Q (.bl (nu k ws)) H)
inductive mV(K:aL)(vs:List V)(H:Hp)(Q:VK)(E:XK):Prop|m(tp al:Addr)(nm rw:Nat)(ls:List Ln)(_:vs=[.ref tp])(_:ja K H tp al nm rw ls)(_:∀ (H':Hp) (d:Addr) (rs:List Nat) (pf:Nat->Addr),aB H H'->d4 ls rs->gy K H' d (cO ls rs) pf (lead ls rs)->H d=none->(∀ k∈rs,H (pf k)=none)->Q (.ref d) H')
inductive vp(K:aL)(vs:List V)(H:Hp)(Q:VK)(E:XK):Prop|m(tp al:Addr)(nm rw:Nat)(ls:List Ln)(_:vs=[.ref tp])(_:ja K H tp al nm rw ls)(_:∀ (H':Hp) (p:Addr) (rs:List Nat),aB H H'->d4 ls rs->H' p=some (.lst (az (cO ls rs)))->H p=none->Q (.ref p) H')
theorem Ex{k:Key}(h:(bQ ks g)[i]?=some (k,v)):∃ j,ks[i]?=some j/\k=.inl (j:Int)/\v=g j:=by
 unfold bQ at h;rw[g6]at h;cases e:ks[i]? with
 | none=>rw[e]at h; cases h
 | some j=>
  rw[e]at h;cases h;exact⟨j,rfl,rfl,rfl⟩
theorem zM(ks:List Nat)(g:Nat->V):((bQ ks g).map fun kv=>kV kv.1)=az ks:=by
 unfold bQ az;rw[List.map_map]; rfl
theorem xS(F:fL K "is_cut" "is_cut" mE f fd)(m_len:mg "len" = none):b9 P w K mg base fM (n + 1) f fd Gf (vG K):=by
 refine F.ok yn (by walk_at "l") (fun cdv A outer s H vs Q E U h=>?_);obtain⟨k,p,O,ys,rfl,J,Z,q⟩:=h;refine⟨_,(au (aQ (GW (cN cm (pv 0) ag) (uI (cN GC (bh bf rfl m_len tQ (aa (pv 1) aj)) ag))))),?_⟩;have e:decide (V.int (k:Int)=V.int 0)=decide (k=0):=BH.mpr ⟨fun z=>by injection z with z; omega,fun z=>by rw[z]; rfl⟩;refine⟨_,rfl,rfl,_,rfl,?_⟩;rw[e];unfold nu at q;by_cases I:k=0
 ·rw[gp I]at q |-;exact lL q
 ·rw[iK I]at q |-;refine eI ⟨_,rfl,p,ys,rfl,.inl J,_,_,rfl,rfl,?_⟩;show Q (.bl (decide ((2:Int)<=(ys.length:Int)))) H;rw[show decide ((2:Int)<=(ys.length:Int))=decide (2<=O.length) from BH.mpr (by omega)];exact q
theorem pB(F:fL K "into_cuts" "into_cuts" fz f fd)(m_dict:mg "dict" = none)(c_into_each:Cl P w K mg base "into_each" n ji (lR K))(c_is_cut:Cl P w K mg base "is_cut" n Gf (vG K)):b9 P w K mg base fM (n + 1) f fd ji (mV K):=by
 refine F.ok qw (by walk_at "l") (fun cdv A outer s H vs Q E hr h=>?_);obtain⟨tp,al,nm,rw,ls,rfl,T,q⟩:=h;refine⟨_,(au (aQ (bE (mD rfl) rfl m_dict PyProof.Rows.boot_dict (aa (cA Gf rfl (cT (N:=ji) (so:=av fz) rfl rfl (by decide +kernel)) (AE (aY c_into_each hr rfl (aa (pv 0) aj))) (fun _ _ _ _ _ _=>(we (K:=K) (n:=2) rfl rfl (bG (aG (i:=0) (show List.Nodup (α:=Str) ["line","leading","program"] by decide +kernel) rfl (Or.inl rfl) (Or.inr rfl)) (bG (aG (i:=1) (show List.Nodup (α:=Str) ["line","leading","program"] by decide +kernel) rfl (Or.inl rfl) (Or.inr rfl)) eP)))) (fun _ _ _ _ _ _=>(jI (vq (aY c_is_cut hr rfl (aa (pv 0) (aa (pv 1) aj)))))) (fun _ _ _ _ _ _=>(aE (aa (pv 0) (aa (pv 1) aj))))) aj)))),?_⟩;refine⟨_,rfl,tp,al,nm,rw,ls,rfl,T,fun H1 d rs pf s1 R L nd fr=>⟨d,_,rfl,L.d,fun o D I=>?_⟩⟩;have l1:=T.ok.l1;have lr:rs.length<=ls.length:=fc R.nodup fun i hi=>((R.mem i).mp hi).lt T.ok
 have npc1:H1 D=none:=by
  by_cases e:D=d
  ·rw[e,ae]at I; cases I
  ·rw[aw e]at I; exact I
 have Lf:∀ k∈rs,∃ ys,upd H1 d (.frz o (.dK (bQ rs fun k=>V.ref (pf k)))) (pf k)=some (.lst ys)/\IsL K (upd H1 d (.frz o (.dK (bQ rs fun k=>V.ref (pf k))))) ((lead ls rs k).map zY) ys/\ys.length=(lead ls rs k).length:=fun k B=>by
  obtain⟨ys,G,S,e3⟩:=L.len B;have tf:bK H1 (upd H1 d (.frz o (.dK (bQ rs fun k=>V.ref (pf k))))):=
   ⟨fun b zs e=>by rw[aw (fQ e L.d (by intro z; cases z))]; exact e,fun b o' u e=>by rw[aw (fQ e L.d (by intro z; cases z))]; exact e⟩
  exact⟨ys,by rw[aw (fQ G L.d (by intro z; cases z))]; exact G,S.mono tf,e3⟩
 have ef:upd H1 d (.frz o (.dK (bQ rs fun k=>V.ref (pf k)))) d=some (.frz o (.dK (bQ rs fun k=>V.ref (pf k)))):=ae;have s2:aB H (upd H1 d (.frz o (.dK (bQ rs fun k=>V.ref (pf k))))):=aB.new s1 nd;generalize upd H1 d (.frz o (.dK (bQ rs fun k=>V.ref (pf k))))=H2 at Lf ef s2 I;refine vf (kvs:=bQ rs fun k=>V.ref (pf k)) (fun i H'=>aB H2 H'/\∃ ps:List (Addr × Key × V),H' D=some (.lst (ps.map fun t=>.ref t.1))/\(∀ t∈ps,H' t.1=some (.tup [kV t.2.1,t.2.2]))/\ps.map (·.2)=bQ ((rs.take i).filter fun k=>nu k (lead ls rs k)) (fun k=>.ref (pf k)))
  ⟨ah I _,[],ae,fun _ h=>absurd h gh,rfl⟩ (fun i H' _ h=>h.1 _ _ ef) (fun i k v g t ek h nt=>?_) (fun g h=>?_)
 ·obtain⟨l,ps,W,ep,c⟩:=h;obtain⟨j,ej,rfl,rfl⟩:=Ex ek;have hj:j∈rs:=oY ej;have hi:i < rs.length:=(dJ.mp ej).1;obtain⟨ys,ey,_,ly⟩:=Lf j hj;have u3:=ah nt (.tup [.int (j:Int),.ref (pf j)]);have C:=l.trans u3;have O:=u3 _ _ W;have a:upd g t (.tup [kV (.inl (j:Int)),.ref (pf j)]) t=some (.tup [.int (j:Int),.ref (pf j)]):=ae;have p:=C _ _ ey;have U:∀ x∈ps,upd g t (.tup [.int (j:Int),.ref (pf j)]) x.1=some (.tup [kV x.2.1,x.2.2]):=fun x Z=>u3 _ _ (ep x Z)
  have lp:ps.length<=i:=by
   have:=pq List.length c;rw[bL,jm]at this;have h2:=Bp (fun k=>nu k (lead ls rs k)) (rs.take i);rw[gx]at h2;omega
  have et:(rs.take (i + 1)).filter (fun k=>nu k (lead ls rs k))=(rs.take i).filter (fun k=>nu k (lead ls rs k))++(if nu j (lead ls rs j) then [j] else []):=by
   rw[kX,ej,DS];congr 1;show List.filter _ [j]=_;rw[Fh];rfl
  change upd g t (.tup [.int (j:Int),.ref (pf j)]) t=_ at a;refine⟨t,_,rfl,bu.of a,rfl,_,_,rfl,_,_,rfl,rfl,⟨[some (.int (j:Int)),some (.ref (pf j))],rfl,rfl⟩,?_⟩;change tB _ _ (upd g t (.tup [.int (j:Int),.ref (pf j)])) _;generalize upd g t (.tup [.int (j:Int),.ref (pf j)])=H4 at C O a p U;refine⟨_,rfl,_,rfl,j,pf j,lead ls rs j,ys,rfl,bp.of p,ly,_,rfl,?_⟩;dsimp only;by_cases J:nu j (lead ls rs j)=true
  ·rw[if_pos J];refine⟨_,rfl,_,rfl,bJ rfl,fun t2 m=>?_⟩;have M:=ah m (.tup [.int (j:Int),.ref (pf j)]);have r:=M _ _ O;refine⟨_,r,aN (by rw[bL]; omega),aB.new (C.trans M) I,ps++[(t2,.inl (j:Int),.ref (pf j))],by rw[ae,dH]; rfl,fun x Z=>?_,?_⟩
   ·rcases fY.mp Z with Z | Z
    ·have h:=M _ _ (U x Z);rw[aw (fQ h r (by intro z; cases z))]; exact h
    ·rw[fS.mp Z,aw (gH O m).symm]; exact ae
   ·rw[et,if_pos J,dH,c];unfold bQ;rw[dH]; rfl
  ·rw[if_neg J];refine⟨C,ps,O,U,?_⟩;rw[et,if_neg J,jL]; exact c
 ·obtain⟨l,ps,W,ep,c⟩:=h;rw[jm,mw]at c;refine⟨D,ps,rfl,W,ep,fun pd y=>?_⟩;have nk:(cO ls rs).Nodup:=R.nodup.sublist List.filter_sublist;have em:eJ [] (ps.map (·.2))=bQ (cO ls rs) (fun k=>V.ref (pf k)):=by
   rw[c];exact j9 (ks:=[]) (by rw[List.nil_append]; exact nk)
  rw[em];have u4:=ah y (.dK (bQ (cO ls rs) fun k=>V.ref (pf k)));refine q _ pd rs pf (s2.trans (l.trans u4)) R ⟨ae,fun k B=>?_,fun k B k' Y=>L.i k (List.mem_filter.mp B).1 k' (List.mem_filter.mp Y).1⟩ (aD (s2.trans l) y) fr;obtain⟨ys,G,S,_⟩:=Lf k (List.mem_filter.mp B).1;exact⟨ys,(l.trans u4) _ _ G,S.mono (l.trans u4).aA⟩
theorem BU(F:fL K "cuts" "cuts" uL f fd)(m_list:mg "list" = none)(c_into_cuts:Cl P w K mg base "into_cuts" n ji (mV K)):b9 P w K mg base fM (n + 1) f fd ji (vp K):=by
 refine F.ok BM (by walk_at "l") (fun cdv A outer s H vs Q E I h=>?_);obtain⟨tp,al,nm,rw,ls,rfl,J,q⟩:=h;refine⟨_,(au (aQ (bE (vv rfl) rfl m_list PyProof.Rows.boot_list (aa (aY c_into_cuts I rfl (aa (pv 0) aj)) aj)))),?_⟩;refine⟨_,rfl,tp,al,nm,rw,ls,rfl,J,fun H1 d rs pf s1 R L O fr=>⟨d,_,rfl,L.d,fun l nl=>?_⟩⟩;rw[zM];exact q _ l rs (s1.trans (ah nl _)) R ae (aD s1 nl)
def zG:D:=.tup [.str "zero"]
def AN(x:Nat)(v:Int):D:=.tup [.str "name",.int (x:Int),.int v]
def HF(r:Nat):D:=.tup [.str "len",.int (r:Int)]
def Jc(now:List Int):Option Nat->D
 | none=>zG
 | some x=>AN x (now[x]?.getD 0)
structure Ft where
 a:D
 b:D
 c:Int
def Ft.D(f:Ft):D:=.tup [f.a,f.b,.int f.c]
def Ft.turn(f:Ft):Ft:=⟨f.b,f.a,-1 - f.c⟩
def EU(a b:D)(c:Int):List Ft:=[⟨a,b,c⟩,⟨b,a,-c⟩]
structure uH (K:aL) (mg:Str->Option Value) (a_ZERO:Addr):Prop where
 mz:mg "ZERO" = some (.ref a_ZERO)
 z:∀ H:Hp,bu K H a_ZERO [.str "zero"]
theorem uH.is{K:aL}{mg:Str->Option Value}{a:Addr}(Z:uH K mg a)(H:Hp):Is K H zG (.ref a):=aX (Z.z H) (af bq aq)
abbrev gi:Stmt:=top 2
abbrev kf:Stmt:=top 3
abbrev dS:Stmt:=top 16
abbrev pk:Stmt:=top 17
theorem nL:aW qO qO (av gi):=by walk_at "k"
theorem uW:aW qI qI (av kf):=by walk_at "k"
theorem jA:aW ji ji (av dS):=by walk_at "k"
theorem zH:aW ["a","b","c"] ["a","b","c"] (av pk):=by walk_at "k"
def C3(K:aL)(H:Hp)(Q:VK)(ds:List D):Prop:=∀ H' p xs,aB H H'->H' p=some (.lst xs)->H p=none->IsL K H' ds xs->Q (.ref p) H'
inductive kD(K:aL)(vs:List V)(H:Hp)(Q:VK)(E:XK):Prop|m(y:Option Nat)(an:Addr)(now:List Int)(_:vs=[aV y,.ref an])(_:bp K H an (nR now))(_:gq now.length y)(_:∀ v H',aB H H'->Is K H' (Jc now y) v->Q v H')
inductive oB(K:aL)(vs:List V)(H:Hp)(Q:VK)(E:XK):Prop|m(f:Ft)(v:V)(_:vs=[v])(_:Is K H f.D v)(_:∀ v H',aB H H'->Is K H' f.turn.D v->Q v H')
inductive wX(K:aL)(vs:List V)(H:Hp)(Q:VK)(E:XK):Prop|m(t:Addr)(nm:Nat)(xr:List V)(_:vs=[.ref t])(_:bu K H t (.int (nm:Int)::xr))(_:nm<=100)(_:∀ H' p,aB H H'->H' p=some (.lst (nR (List.replicate nm 0)))->H p=none->Q (.ref p) H')
inductive v7(K:aL)(vs:List V)(H:Hp)(Q:VK)(E:XK):Prop|m(a b:D)(va vb:V)(c:Int)(_:vs=[va,vb,.int c])(_:Is K H a va)(_:Is K H b vb)(_:C3 K H Q ((EU a b c).map Ft.D))
theorem k8{x:Nat}{v:Int}(e:H t=some (.tup [.str "name",.int (x:Int),.int v])):Is K H (AN x v) (.ref t):=aX (bu.of e) (af bq (af aH (af aH aq)))
theorem yH{r:Nat}(e:H t=some (.tup [.str "len",.int (r:Int)])):Is K H (HF r) (.ref t):=aX (bu.of e) (af bq (af aH aq))
theorem zX{a b:D}{c:Int}(e:H t=some (.tup [va,vb,.int c]))(ha:Is K H a va)(hb:Is K H b vb):Is K H (Ft.D ⟨a,b,c⟩) (.ref t):=aX (bu.of e) (af ha (af hb (af aH aq)))
theorem rV(v:V):∀ m,(List.replicate m [v]).flatten=List.replicate m v
 | 0=>rfl
 | m + 1=>by rw[Eb,List.flatten_cons,rV v m,Eb]; rfl
theorem Aw(nm:Nat):(List.replicate nm [V.int 0]).flatten=nR (List.replicate nm 0):=by
 rw[rV]; unfold nR; rw[List.map_replicate]
theorem nK(F:fL K "value_node" "value_node" gi f fd)(Z:uH K mg a_ZERO):b9 P w K mg base fM (n + 1) f fd qO (kD K):=by
 refine F.ok nL (by walk_at "l") (fun cdv A outer s H vs Q E a h=>?_);obtain⟨y,an,V,rfl,O,U,q⟩:=h;have I:=Z.mz;refine⟨_,(au (aQ (rW (aF qe (pv 0) dR) (ju rfl I (v:=.ref a_ZERO) rfl) (aE (aa a8 (aa (pv 0) (aa (aU cu (pv 1) (pv 0)) aj))))))),?_⟩;cases y with
 | none=>exact⟨_,rfl,rfl,_,rfl,lL (q _ _ (aB.refl _) (Z.is H))⟩
 | some x=>
  refine⟨_,rfl,rfl,_,rfl,eI ⟨_,rfl,_,rfl,_,rfl,an,_,_,_,rfl,rfl,O,eR (BV U),bJ rfl,fun t J=>?_⟩⟩;exact q _ _ (ah J _) (k8 ae)
theorem vo(F:fL K "against" "against" kf f fd):b9 P w K mg base fM (n + 1) f fd qI (oB K):=by
 refine F.ok uW (by walk_at "l") (fun cdv A outer s H vs Q E g h=>?_);obtain⟨Z,v,rfl,hi,q⟩:=h;refine⟨_,(au (aQ (aE (aa (aU a9 (pv 0) ag) (aa (aU a9 (pv 0) ag) (aa (ao gg (gJ fv ag) (aU a9 (pv 0) ag)) aj)))))),?_⟩;obtain⟨a,zs,rfl,I,J⟩:=hi.bo;obtain⟨va,i,rfl,ia,U⟩:=uq J;obtain⟨vb,d,rfl,ib,O⟩:=uq U;obtain⟨e,rfl,b⟩:=fT O;refine⟨_,rfl,a,_,1,_,rfl,rfl,I,yP _ _ _,_,rfl,a,_,0,_,rfl,rfl,I,gQ _ _,_,rfl,_,rfl,a,_,2,_,rfl,rfl,I,at2 _ _ _ _,_,_,rfl,rfl,bJ rfl,fun t V=>?_⟩;have u:=ah V (.tup [vb,va,.int (-1 - Z.c)]);exact q _ _ u (zX ae (ib.mono u.aA) (ia.mono u.aA))
theorem jS(F:fL K "first_versions" "first_versions" dS f fd):b9 P w K mg base fM (n + 1) f fd ji (wX K):=by
 refine F.ok jA (by walk_at "l") (fun cdv A outer s H vs Q E a h=>?_);obtain⟨t,nm,Z,rfl,V,O,q⟩:=h;refine⟨_,(au (aQ (ao Ez (br (aa ag aj)) (aU a9 (pv 0) ag)))),?_⟩;refine⟨bJ rfl,fun U J=>?_⟩;have s1:=ah J (.lst [.int 0]);refine⟨_,rfl,t,_,0,_,rfl,rfl,s1.aA.sq V,gQ _ _,U,_,[.int 0],rfl,rfl,ae,by omega,by omega,(by rw[mP,qU,nv]; omega),fun an I=>?_⟩;rw[qU,Aw];exact q _ an (s1.trans (ah I _)) ae (aD s1 I)
theorem za(F:fL K "alike" "alike" pk f fd):b9 P w K mg base fM (n + 1) f fd ["a","b","c"] (v7 K):=by
 refine F.ok zH (by walk_at "l") (fun cdv A outer s H vs Q E g h=>?_);obtain⟨a,b,va,vb,c,rfl,U,V,q⟩:=h;refine⟨_,(au (aQ (br (aa (aE (aa (pv 0) (aa (pv 1) (aa (pv 2) aj)))) (aa (aE (aa (pv 1) (aa (pv 0) (aa (gJ fv (pv 2)) aj)))) aj))))),?_⟩;refine⟨_,rfl,_,rfl,_,rfl,bJ rfl,fun d n1=>?_⟩;have Z:=ah n1 (.tup [va,vb,.int c]);refine⟨_,rfl,_,rfl,_,rfl,_,rfl,bJ rfl,fun e n2=>⟨bJ rfl,fun p np=>?_⟩⟩;have O:=ah n2 (.tup [vb,va,.int (-c)]);have J:=ah np (.lst [.ref d,.ref e]);have I:=Z.trans (O.trans J);refine q _ p _ I ae (aD (Z.trans O) np) (af ?_ (af ?_ aq))
 ·exact zX ((O.trans J) _ _ ae) (U.mono I.aA) (V.mono I.aA)
 ·exact zX (J _ _ ae) (V.mono I.aA) (U.mono I.aA)
theorem rm(h:l.word = "set"):∃ x y c m,l=.deed (.set x y c) m:=by
 cases l with
 | deed d m=>
  cases d with
  | set x y c=>exact⟨x,y,c,m,rfl⟩
  | sum x z y=>exact absurd h (show ¬ (("sum":Str) = "set") by decide)
  | len x r=>exact absurd h (show ¬ (("len":Str) = "set") by decide)
  | take x=>exact absurd h (show ¬ (("take":Str) = "set") by decide)
  | tell x=>exact absurd h (show ¬ (("tell":Str) = "set") by decide)
  | get x r y c=>exact absurd h (show ¬ (("get":Str) = "set") by decide)
  | put r y c z=>exact absurd h (show ¬ (("put":Str) = "set") by decide)
 | test y u c I J=>exact absurd h (show ¬ (("test":Str) = "set") by decide)
 | ask bs I J=>exact absurd h (show ¬ (("ask":Str) = "set") by decide)
 | stop =>exact absurd h (show ¬ (("end":Str) = "set") by decide)
theorem oj(h:l.word = "test"):∃ y u c m1 m2,l=.test y u c m1 m2:=by
 cases l with
 | deed d m=>
  cases d with
  | set x y c=>exact absurd h (show ¬ (("set":Str) = "test") by decide)
  | sum x z y=>exact absurd h (show ¬ (("sum":Str) = "test") by decide)
  | len x r=>exact absurd h (show ¬ (("len":Str) = "test") by decide)
  | take x=>exact absurd h (show ¬ (("take":Str) = "test") by decide)
  | tell x=>exact absurd h (show ¬ (("tell":Str) = "test") by decide)
  | get x r y c=>exact absurd h (show ¬ (("get":Str) = "test") by decide)
  | put r y c z=>exact absurd h (show ¬ (("put":Str) = "test") by decide)
 | test y u c m1 m2=>exact⟨y,u,c,m1,m2,rfl⟩
 | ask bs m1 m2=>exact absurd h (show ¬ (("ask":Str) = "test") by decide)
 | stop =>exact absurd h (show ¬ (("end":Str) = "test") by decide)
theorem sM(h:l.word = "ask"):∃ bs m1 m2,l=.ask bs m1 m2:=by
 cases l with
 | deed d m=>
  cases d with
  | set x y c=>exact absurd h (show ¬ (("set":Str) = "ask") by decide)
  | sum x z y=>exact absurd h (show ¬ (("sum":Str) = "ask") by decide)
  | len x r=>exact absurd h (show ¬ (("len":Str) = "ask") by decide)
  | take x=>exact absurd h (show ¬ (("take":Str) = "ask") by decide)
  | tell x=>exact absurd h (show ¬ (("tell":Str) = "ask") by decide)
  | get x r y c=>exact absurd h (show ¬ (("get":Str) = "ask") by decide)
  | put r y c z=>exact absurd h (show ¬ (("put":Str) = "ask") by decide)
 | test y u c m1 m2=>exact absurd h (show ¬ (("test":Str) = "ask") by decide)
 | ask bs m1 m2=>exact⟨bs,m1,m2,rfl⟩
 | stop =>exact absurd h (show ¬ (("end":Str) = "ask") by decide)
theorem wa:decide (l.word=("ask":Str))=true↔∃ bs k m,l=.ask bs k m:=by
 constructor
 ·intro h; exact sM (jV h)
 ·rintro⟨bs,k,m,rfl⟩; rfl
theorem jO(x:Str):D.dep (.str x)=0:=by unfold D.dep; rfl
theorem fF(x:Int):D.dep (.int x)=0:=by unfold D.dep; rfl
theorem jj(l:List D):D.dep (.tup l)=1 + D.cy l:=by conv=>lhs; unfold D.dep
theorem dF:D.cy []=0:=by unfold D.cy; rfl
theorem bT(d:D)(l:List D):D.cy (d::l)=max d.dep (D.cy l):=by conv=>lhs; unfold D.cy
theorem wD{l:List D}(h:∀ d∈l,d.dep<=n):D.cy l<=n:=by
 induction l with
 | nil=>rw[dF]; exact dI _
 | cons d l J=>
  rw[bT];exact Nat.max_le.mpr ⟨h d gC,J fun x I=>h x (jd _ I)⟩
theorem iC{K:aL}{H:Hp}:∀ (k:List Key) {vs:List V},IsL K H (k.map nM) vs↔vs=k.map kV
 | [],vs=>by rw[List.map_nil,List.map_nil]; unfold L2.IsL; exact Iff.rfl
 | x::k,vs=>by
  rw[iU,iU];constructor
  ·intro h;obtain⟨v,r,rfl,h1,h2⟩:=h.cons_inv;rw[(iC k).mp h2];cases x with
   | inl i=>rw[Is.int_inv (i:=i) h1]; rfl
   | inr y=>rw[Is.str_inv (i:=y) h1]; rfl
  ·rintro rfl
   refine af ?_ ((iC k).mpr rfl);cases x with
   | inl i=>exact aH
   | inr y=>exact bq
mutual
theorem Ai{K:aL}{H:Hp}:∀ {d:D} {v:V},eK (yK K) H d v->Is K H d v
 | .non,_,h=>by unfold eK at h; exact h.elim
 | .int _,_,h=>by unfold eK at h; subst h; exact aH
 | .str _,_,h=>by unfold eK at h; subst h; exact bq
 | .tup ds,_,h=>by
  unfold eK at h;obtain⟨b,rfl,h | ⟨vs,h1,h2⟩⟩:=h
  ·obtain⟨ks,rfl,I⟩:=h;exact aX (Ky.sq (.inr I)) ((iC ks).mpr rfl)
  ·exact aX (bu.of h1) (vP h2)
theorem vP{K:aL}{H:Hp}:∀ {ds:List D} {vs:List V},dO (yK K) H ds vs->IsL K H ds vs
 | [],_,h=>by unfold dO at h; subst h; exact aq
 | d::ds,_,h=>by
  unfold dO at h;obtain⟨v,r,rfl,p,q⟩:=h;exact af (Ai p) (vP q)
end
theorem yu(ps:List (List D × V)):∀ (acc:List (List D × V)) (k:List D),dh (ps.foldl (fun acc p=>putK acc p.1 p.2) acc) k=none↔dh acc k=none/\∀ p∈ps,p.1≠k:=by
 induction ps with
 | nil=>intro acc k; simp
 | cons p ps J=>
  intro acc k;rw[DQ,J,zL];by_cases z:k=p.1
  ·rw[if_pos z];exact⟨fun h=>(nomatch h.1),fun h=>absurd z.symm (h.2 p gC)⟩
  ·rw[if_neg z];refine and_congr_right fun _=>⟨fun h q I=>?_,fun h q I=>h q (jd _ I)⟩
   rcases d0.mp I with rfl | I
   ·exact Ne.symm z
   ·exact h q I
theorem Cz{kvs:List (List D × V)}{k:List D}:k∈kvs.map (·.1)↔dh kvs k≠none:=by
 constructor
 ·intro h e;obtain⟨p,J,rfl⟩:=eW.mp h;unfold dh at e;rw[Option.map_eq_none_iff,List.find?_eq_none]at e;exact e p J (gp rfl)
 ·intro h;cases y:dh kvs k with
  | none=>exact absurd y h
  | some v=>
   unfold dh at y;obtain⟨I,h1,_⟩:=Option.map_eq_some_iff.mp y;exact eW.mpr ⟨I,List.mem_of_find?_eq_some h1,jV (p:=I.1=k) (List.find?_some (p:=fun O:List D × V=>decide (O.1=k)) h1)⟩
theorem mem_merge{ps:List (List D × V)}{k:List D}:k∈(f9 ps).map (·.1)↔k∈ps.map (·.1):=by
 rw[Cz];unfold f9;rw[Ne,yu];constructor
 ·intro h;apply Bx;intro J;exact h ⟨rfl,fun p I z=>J (eW.mpr ⟨p,I,z⟩)⟩
 ·rintro h ⟨_,h2⟩
  obtain⟨p,I,e⟩:=eW.mp h;exact h2 p I e
def eE:Option Nat->Nd
 | none=>.zero
 | some x=>.name x
theorem zE(nm:Nat)(y:Option Nat):Jc (List.replicate nm 0) y=(eE y).D:=by
 cases y with
 | none=>rfl
 | some x=>
  have:(List.replicate nm (0:Int))[x]?.getD 0=0:=by rw[List.getElem?_replicate]; split <;> rfl
  show AN x ((List.replicate nm (0:Int))[x]?.getD 0)=_;rw[this]; rfl
def Nd.isName:Nd->Bool
 | .name _=>true
 | _=>false
def cS(nm:Nat):List Nd:=(List.range nm).map Nd.name
def gr(rw:Nat):List Nd:=(List.range rw).map Nd.len
def aC(nm rw:Nat):List Nd:=.zero::(cS nm++gr rw)
theorem kn(j:Nat):cS (j + 1)=cS j++[.name j]:=by unfold cS; rw[List.range_succ,dH]; rfl
theorem lV(j:Nat):gr (j + 1)=gr j++[.len j]:=by unfold gr; rw[List.range_succ,dH]; rfl
theorem gW(nm rw:Nat):(aC nm rw).length=nm + rw + 1:=by
 unfold aC cS gr;rw[jU,dE,bL,bL,kY,kY]
theorem tN{rw:Nat}{a:Nd}(h:a∈aC nm rw):a.Ok nm rw:=by
 rcases d0.mp h with rfl | h
 ·exact trivial
 ·rcases fY.mp h with h | h
  ·obtain⟨x,I,rfl⟩:=eW.mp h;exact tT.mp I
  ·obtain⟨x,I,rfl⟩:=eW.mp h;exact tT.mp I
theorem qf{a:Nd}(h:a.D=b.D):a=b:=by
 unfold Nd.D at h;injection h with h;injection h with h1 h2;injection h1 with h1;cases a with
 | zero=>
  cases b with
  | zero=>rfl
  | name y=>exact absurd h1 (show ¬ (("zero":Str) = "name") by decide)
  | len y=>exact absurd h1 (show ¬ (("zero":Str) = "len") by decide)
 | name x=>
  cases b with
  | zero=>exact absurd h1 (show ¬ (("name":Str) = "zero") by decide)
  | name y=>
   injection h2 with h2 _;injection h2 with h2;rw[Int.ofNat.inj h2]
  | len y=>exact absurd h1 (show ¬ (("name":Str) = "len") by decide)
 | len x=>
  cases b with
  | zero=>exact absurd h1 (show ¬ (("len":Str) = "zero") by decide)
  | name y=>exact absurd h1 (show ¬ (("len":Str) = "name") by decide)
  | len y=>
   injection h2 with h2 _;injection h2 with h2;rw[Int.ofNat.inj h2]
theorem sj{rw:Nat}{a:Nd}(h:a.Ok nm rw):(((cS nm).map Nd.D).any fun d=>D.beq d a.D)=a.isName:=by
 have key:∀ b:Bool,((((cS nm).map Nd.D).any fun d=>D.beq d a.D)=true↔b=true)->(((cS nm).map Nd.D).any fun d=>D.beq d a.D)=b:=fun b h=>Bool.eq_iff_iff.mpr h
 refine key _ ⟨fun h2=>?_,fun h2=>?_⟩
 ·obtain⟨d,I,e⟩:=List.any_eq_true.mp h2;obtain⟨q,J,rfl⟩:=eW.mp I;have:=qf ((D.beq_iff _ _).mp e);subst this;obtain⟨x,_,rfl⟩:=eW.mp J;rfl
 ·refine List.any_eq_true.mpr ⟨a.D,eW.mpr ⟨a,?_,rfl⟩,(D.beq_iff _ _).mpr rfl⟩;cases a with
  | name x=>exact eW.mpr ⟨x,tT.mpr h,rfl⟩
  | zero=>cases h2
  | len r=>cases h2
def eM(a b:Nd):List Bd:=if (a.isName || b.isName)=true then [⟨a,b,0⟩,⟨a,b,-1⟩] else []
def kh(ns:List Nd)(a:Nd):List Bd:=ns.flatMap (eM a)
def dB(ns:List Nd):List Bd:=ns.flatMap (kh ns)
theorem fu{α β:Type}{f:α->List β}{m:Nat}(h:∀ x,(f x).length<=m):∀ l:List α,(l.flatMap f).length<=m * l.length
 | []=>dI _
 | x::l=>by
  have:=fu h l;have:=h x;rw[List.flatMap_cons,dE,jU,Nat.mul_add]; omega
theorem gF(a b:Nd):(eM a b).length<=2:=by
 unfold eM;split
 ·exact bH _
 ·exact dI _
theorem gj{α β:Type}{f:α->List β}{l:List α}{x:α}(h:l[i]?=some x):(l.take (i + 1)).flatMap f=(l.take i).flatMap f++f x:=by
 rw[kX,h,B1,List.flatMap_append,List.flatMap_singleton]
def j7(q:Bd):List Bd:=[q,⟨q.a,q.b,q.c + 1⟩,⟨q.b,q.a,-1 - q.c⟩,⟨q.b,q.a,-1 - q.c + 1⟩]
def Ln.uV:Ln->List Bd
 | .test y w c _ _=>j7 ⟨eE y,eE w,c⟩
 | .deed (.set x none c) _=>[⟨.name x,.zero,c⟩,⟨.zero,.name x,-c⟩]
 | .ask bs _ _=>bs
 | _=>[]
def iJ(nm rw:Nat)(ls:List Ln):List Bd:=dB (aC nm rw)++ls.flatMap Ln.uV
def Bd.un(q:Bd):Bool:=!D.eZ (.str q.a.word::q.a.args) (.str q.b.word::q.b.args)
theorem ki:q.un=true↔q.a≠q.b:=by
 unfold Bd.un;rw[Bool.not_eq_true',<-Bool.not_eq_true,D.fW];constructor
 ·intro h e;exact h (by rw[e])
 ·intro h e;exact h (qf (by unfold Nd.D; rw[e]))
def gb(nm rw:Nat)(ls:List Ln):List Bd:=(iJ nm rw ls).filter Bd.un
def Bd.key(q:Bd):List L2.D:=[q.a.D,q.b.D,.int q.c]
theorem pz{q':Bd}(h:q.key=q'.key):q=q':=by
 unfold Bd.key at h;injection h with h1 h;injection h with h2 h;injection h with h3 _;injection h3 with h3;obtain⟨a,b,c⟩:=q;obtain⟨U,O,V⟩:=q';have I:a=U:=qf h1;have J:b=O:=qf h2;have Z:c=V:=h3;rw[I,J,Z]
theorem AW(q:Nd):∃ x y z,Tb.fk q.D x y z:=by
 cases q with
 | zero=>exact⟨_,_,_,.zero⟩
 | name x=>exact⟨_,_,_,.name _ _⟩
 | len r=>exact⟨_,_,_,.len _⟩
theorem key_is(q:Bd):∃ u,Tb.cP q.key u:=by
 obtain⟨x,y,z,h⟩:=AW q.a;obtain⟨x',y',z',h'⟩:=AW q.b;exact⟨_,.mk h h'⟩
theorem sH:∀ {l l':List (List Int)},l.Pairwise (· < ·)->l'.Pairwise (· < ·)->(∀ x,x∈l↔x∈l')->l=l'
 | [],[],_,_,_=>rfl
 | [],y::l',_,_,h=>absurd ((h y).mpr gC) gh
 | x::l,[],_,_,h=>absurd ((h x).mp gC) gh
 | x::l,y::l',p,p',h=>by
  obtain⟨p1,p2⟩:=CQ.mp p;obtain⟨J,O⟩:=CQ.mp p';have V:x=y:=by
   rcases d0.mp ((h x).mp gC) with e | e
   ·exact e
   ·rcases d0.mp ((h y).mpr gC) with U | U
    ·exact U.symm
    ·exact absurd (List.lt_trans (p1 y U) (J x e)) (List.lt_irrefl x)
  subst V;rw[sH p2 O fun z=>?_];constructor
  ·intro I;rcases d0.mp ((h z).mp (jd _ I)) with e | e
   ·exact absurd (p1 z I) (by rw[e]; exact List.lt_irrefl x)
   ·exact e
  ·intro I;rcases d0.mp ((h z).mpr (jd _ I)) with e | e
   ·exact absurd (J z I) (by rw[e]; exact List.lt_irrefl x)
   ·exact e
theorem tF{ks:List (List L2.D)}{us:List (List Int)}(h:Paired Tb.cP ks us){u:List Int}:u∈us↔∃ k∈ks,Tb.cP k u:=by
 constructor
 ·intro O;obtain⟨k,h1,h2⟩:=Paired.rO h u O;exact⟨k,h1,h2⟩
 ·rintro⟨k,h1,h2⟩
  obtain⟨U,I,J⟩:=ku h k h1;rw[h2.fn J]; exact I
theorem yq{ks:List (List L2.D)}{us:List (List Int)}(h:Paired Tb.cP ks us)(h':Paired Tb.cP ks' us):ks=ks':=by
 induction h generalizing ks' with
 | nil=>cases h'; rfl
 | cons a _ I=>
  cases h' with
  | cons b t=>rw[a.inj b,I t]
theorem z9{ks:List (List L2.D)}(h:Dj ks)(h':Dj ks')(m:∀ x,x∈ks↔x∈ks'):ks=ks':=by
 obtain⟨us,a,b⟩:=h;obtain⟨J,O,U⟩:=h';have:us=J:=sH b U fun u=>by
  rw[tF a,tF O];exact⟨fun I=>by obtain⟨k,h1,h2⟩:=I; exact⟨k,(m k).mp h1,h2⟩,fun I=>by obtain⟨k,h1,h2⟩:=I; exact⟨k,(m k).mpr h1,h2⟩⟩
 subst this;exact yq a O
structure tw (ss bs:List Bd):Prop where
 mem:∀ q,q∈ss↔q∈bs
 up:Dj (ss.map Bd.key)
 len:ss.length<=bs.length
theorem kA:∀ {l l':List Bd},l.map Bd.key=l'.map Bd.key->l=l'
 | [],[],_=>rfl
 | [],_::_,h=>by cases h
 | _::_,[],h=>by cases h
 | x::l,y::l',h=>by
  rw[iU,iU]at h;injection h with h1 h2;rw[pz h1,kA h2]
theorem tw.uniq{ss' bs:List Bd}(h:tw ss bs)(h':tw ss' bs):ss=ss':=
 kA (z9 h.up h'.up fun x=>by
  constructor
  ·intro I;obtain⟨q,J,rfl⟩:=eW.mp I;exact eW.mpr ⟨q,(h'.mem q).mpr ((h.mem q).mp J),rfl⟩
  ·intro I;obtain⟨q,J,rfl⟩:=eW.mp I
   exact eW.mpr ⟨q,(h.mem q).mpr ((h'.mem q).mp J),rfl⟩)
theorem vE{bs:List Bd}:∀ {ks:List (List L2.D)},(∀ k∈ks,k∈bs.map Bd.key)->∃ ss:List Bd,ks=ss.map Bd.key
 | [],_=>⟨[],rfl⟩
 | k::ks,h=>by
  obtain⟨ss,rfl⟩:=vE (ks:=ks) fun x I=>h x (jd _ I)
  obtain⟨q,_,rfl⟩:=eW.mp (h k gC);exact⟨q::ss,rfl⟩
theorem yW{bs:List Bd}{ks:List (List L2.D)}(m:∀ x,x∈ks↔x∈bs.map Bd.key)(hl:ks.length<=bs.length)(u:Dj ks):∃ ss,ks=ss.map Bd.key/\tw ss bs:=by
 obtain⟨ss,rfl⟩:=vE fun k J=>(m k).mp J
 refine⟨ss,rfl,fun q=>⟨fun I=>?_,fun I=>?_⟩,u,by rw[bL]at hl; exact hl⟩
 ·obtain⟨O,h1,h2⟩:=eW.mp ((m q.key).mp (eW.mpr ⟨q,I,rfl⟩));rw[<-pz h2]; exact h1
 ·obtain⟨O,h1,h2⟩:=eW.mp ((m q.key).mpr (eW.mpr ⟨q,I,rfl⟩));rw[<-pz h2]; exact h1
theorem CU(q:Nd):∃ ks:List Key,(L2.D.str q.word::q.args)=ks.map nM:=by
 cases q with
 | zero=>exact⟨[.inr "zero"],rfl⟩
 | name x=>exact⟨[.inr "name",.inl (x:Int),.inl 0],rfl⟩
 | len r=>exact⟨[.inr "len",.inl (r:Int)],rfl⟩
theorem Af{K:aL}{q:Nd}(h:Is K H q.D v):eK (yK K) H q.D v:=by
 obtain⟨ks,I⟩:=CU q;unfold Nd.D at h |-;rw[I]at h |-;obtain⟨b,xs,rfl,h1,h2⟩:=h.bo;rw[(iC ks).mp h2]at h1;exact FP (Ky.GL h1)
theorem DF{K:aL}(h:Is K H q.D v):∃ t,v=.ref t/\kM K H t q.key:=by
 obtain⟨t,xs,rfl,h1,h2⟩:=h.bo;obtain⟨va,r,rfl,ia,i1⟩:=h2.cons_inv;obtain⟨vb,r,rfl,ib,i2⟩:=i1.cons_inv;obtain⟨V,r,rfl,O,J⟩:=i2.cons_inv;cases O.int_inv;rw[J.nil_inv]at h1;refine⟨t,rfl,?_,?_⟩
 ·rcases h1 with h1 | ⟨o,its,n,_,_,_,_,_,U⟩
  ·exact pN h1 (gN (Af ia) (gN (Af ib) (gN vF wB)))
  ·obtain⟨b,_,rfl,_⟩:=ia.bo;exact absurd gC (U b)
 ·have I:∀ q:Nd,q.D.dep<=1:=fun q=>by
   cases q <;> (unfold Nd.D; rw[jj]; simp only[Nd.args,bT,dF,jO,fF]; decide)
  unfold Bd.key;rw[bT,bT,bT,dF,fF];have:=I q.a;have:=I q.b;omega
theorem GO{K:aL}(h:kM K H t q.key):Is K H q.D (.ref t):=Ai h.1
theorem qm{K:aL}{H:Hp}:∀ {ss:List Bd} {bs:List Addr},Paired (fun k b=>kM K H b k) (ss.map Bd.key) bs->IsL K H (ss.map Bd.D) (bs.map V.ref)
 | [],bs,h=>by cases h; exact aq
 | q::ss,bs,h=>by
  rw[iU]at h;cases h with
  | cons a t=>exact af (GO a) (qm t)
abbrev iW:Stmt:=top 25
abbrev fq:Stmt:=top 24
abbrev fJ:Stmt:=top 23
abbrev cf:Stmt:=top 22
theorem tG:aW qI qI (av iW):=by walk_at "k"
theorem gw:aW ["bound","turned"] qI (av fq):=by walk_at "k"
theorem mx:aW ["line","now"] ["line","now"] (av fJ):=by walk_at "k"
theorem bU:aW IJ ji (av cf):=by walk_at "k"
inductive oE(K:aL)(vs:List V)(H:Hp)(Q:VK)(E:XK):Prop|m(q:Bd)(v:V)(_:vs=[v])(_:Is K H q.D v)(_:∀ v H',aB H H'->Is K H' (Bd.D ⟨q.a,q.b,q.c + 1⟩) v->Q v H')
inductive wR(K:aL)(vs:List V)(H:Hp)(Q:VK)(E:XK):Prop|m(q:Bd)(v:V)(_:vs=[v])(_:Is K H q.D v)(_:C3 K H Q ((j7 q).map Bd.D))
inductive wI(K:aL)(vs:List V)(H:Hp)(Q:VK)(E:XK):Prop|m(l:Ln)(v:V)(an:Addr)(nm rw nl:Nat)(_:vs=[v,.ref an])(_:Is K H l.D v)(_:l.Ok nm rw nl)(_:bp K H an (nR (List.replicate nm 0)))(_:C3 K H Q (l.uV.map Bd.D))
inductive ou(K:aL)(vs:List V)(H:Hp)(Q:VK)(E:XK):Prop|m(tp al:Addr)(nm rw:Nat)(ls:List Ln)(_:vs=[.ref tp])(_:ja K H tp al nm rw ls)(_:C3 K H Q ((dB (aC nm rw)).map Bd.D))
theorem tZ(h:Is K H q.D v):∃ a va vb,v=.ref a/\bu K H a [va,vb,.int q.c]/\Is K H q.a.D va/\Is K H q.b.D vb:=by
 obtain⟨a,zs,rfl,I,O⟩:=h.bo;obtain⟨va,Z,rfl,ia,J⟩:=uq O;obtain⟨vb,c,rfl,ib,U⟩:=uq J;obtain⟨b,rfl,V⟩:=fT U;rw[V.nil_inv]at I;exact⟨a,va,vb,rfl,I,ia,ib⟩
theorem gu(e:H t=some (.tup [va,vb,.int q.c]))(ha:Is K H q.a.D va)(hb:Is K H q.b.D vb):Is K H q.D (.ref t):=aX (bu.of e) (af ha (af hb (af aH aq)))
theorem rj(F:fL K "one_more" "one_more" iW f fd):b9 P w K mg base fM (n + 1) f fd qI (oE K):=by
 refine F.ok tG (by walk_at "l") (fun cdv A outer s H vs Q E U h=>?_);obtain⟨O,v,rfl,hi,q⟩:=h;refine⟨_,(au (aQ (aE (aa (aU a9 (pv 0) ag) (aa (aU a9 (pv 0) ag) (aa (ao bj (aU a9 (pv 0) ag) ag) aj)))))),?_⟩;obtain⟨a,va,vb,rfl,I,ia,ib⟩:=tZ hi;refine⟨_,rfl,a,_,0,_,rfl,rfl,I,gQ _ _,_,rfl,a,_,1,_,rfl,rfl,I,yP _ _ _,_,rfl,a,_,2,_,rfl,rfl,I,at2 _ _ _ _,_,_,rfl,rfl,bJ rfl,fun t J=>?_⟩;have u:=ah J (.tup [va,vb,.int (O.c + 1)]);exact q _ _ u (gu ae (ia.mono u.aA) (ib.mono u.aA))
theorem kI(F:fL K "bounds_round" "bounds_round" fq f fd)(c_against:Cl P w K mg base "against" n qI (oB K))(c_one_more:Cl P w K mg base "one_more" n qI (oE K)):b9 P w K mg base fM (n + 1) f fd qI (wR K):=by
 refine F.ok gw (by walk_at "l") (fun cdv A outer s H vs Q E U h=>?_);obtain⟨I,v,rfl,hi,q⟩:=h
 refine⟨_,(@ak _ _ _ _ _ (ba (i:=1) gw.nd (aY c_against U rfl (aa (pv 0) aj)))
   (au (aQ (br (aa (pv 0) (aa (aY c_one_more U rfl (aa (pv 0) aj)) (aa (pv 1) (aa (aY c_one_more U rfl (aa (pv 1) aj)) aj)))))))),?_⟩
 refine⟨_,rfl,⟨I.a.D,I.b.D,I.c⟩,v,rfl,hi,fun V H1 s1 i1=>?_⟩;replace i1:Is K H1 (Bd.D ⟨I.b,I.a,-1 - I.c⟩) V:=i1;refine⟨_,rfl,_,rfl,I,v,rfl,hi.mono s1.aA,fun e H2 s2 i2=>?_⟩;refine⟨_,rfl,_,rfl,⟨I.b,I.a,-1 - I.c⟩,V,rfl,i1.mono s2.aA,fun d g O Z=>⟨bJ rfl,fun p np=>?_⟩⟩;have u:=ah np (.lst [v,e,V,d]);have J:=s1.trans (s2.trans O);exact q _ p _ (J.trans u) ae (aD J np) (af (hi.mono (J.trans u).aA) (af (i2.mono (O.trans u).aA) (af (i1.mono (s2.trans (O.trans u)).aA) (af (Z.mono u.aA) aq))))
theorem AD{t:TS}{D:Ends}(b:Bool)(hc:∀ Q:Bool->Hp->Prop,(∀ H',aB H H'->Q b H')->c σ H Q)(h:∀ H',aB H H'->if b=true then t D σ H' else u D σ H'):fh c t u D σ H:=hc _ h
theorem len_rep(nm:Nat):(List.replicate nm (0:Int)).length=nm:=FW
theorem mS(F:fL K "line_bounds" "line_bounds" fJ f fd)(Z:uH K mg a_ZERO)(m_list:mg "list" = none)(c_bounds_round:Cl P w K mg base "bounds_round" n qI (wR K))(c_value_node:Cl P w K mg base "value_node" n qO (kD K))(c_alike:Cl P w K mg base "alike" n ["a","b","c"] (v7 K))(c_is_ask:Cl P w K mg base "is_ask" n uz (vW K)) :
  b9 P w K mg base fM (n + 1) f fd ["line","now"] (wI K):=by
 refine F.ok mx (by walk_at "l") (fun cdv A outer s H vs Q E b h=>?_);obtain⟨l,v,an,nm,rw,nl,rfl,hi,U,B,q⟩:=h;have O:=Z.mz
 refine⟨_,(@ak _ _ _ _ _ (ck (aF cm (aU a9 (pv 0) ag) a8) (au (aQ (aY c_bounds_round b rfl (aa (aE (aa (aY c_value_node b rfl (aa (aU a9 (pv 0) ag) (aa (pv 1) aj))) (aa (aY c_value_node b rfl (aa (aU a9 (pv 0) ag) (aa (pv 1) aj))) (aa (aU a9 (pv 0) ag) aj)))) aj)))) bw)
   (@ak _ _ _ _ _ (ck (PW.pt (eL (aF cm (aU a9 (pv 0) ag) a8) (du (aF qe (aU a9 (pv 0) ag) dR)))) (au (aQ (aY c_alike b rfl (aa (aY c_value_node b rfl (aa (aU a9 (pv 0) ag) (aa (pv 1) aj))) (aa (ju rfl O (v:=.ref a_ZERO) rfl) (aa (aU a9 (pv 0) ag) aj)))))) bw)
   (au (aQ (rW (vq (aY c_is_ask b rfl (aa (pv 0) aj))) (bE qx rfl m_list PyProof.Rows.boot_list (aa (aU a9 (pv 0) ag) aj)) (br aj)))))),?_⟩
 obtain⟨a,vs,rfl,J,r⟩:=mI hi;have z:=len_rep nm;refine⟨_,rfl,a,_,0,_,rfl,rfl,J,gQ _ _,rfl,_,rfl,cj (fun c=>?_) (fun c=>?_)⟩
 ·have hw:l.word = "test":=nW c;obtain⟨y,u,I,V,g,rfl⟩:∃ y u I V g,l=.test y u I V g:=oj hw;obtain⟨W,rfl,i1⟩:=nH r;obtain⟨r2,rfl,i2⟩:=nH i1;obtain⟨r3,rfl,i3⟩:=fT i2;refine⟨_,rfl,a,_,1,_,rfl,rfl,J,yP _ _ _,_,rfl,y,an,_,rfl,B,(by rw[z]; exact U.1),fun S H1 s1 i=>?_⟩;refine⟨_,rfl,a,_,2,_,rfl,rfl,s1.aA.sq J,at2 _ _ _ _,_,rfl,u,an,_,rfl,s1.seq B,(by rw[z]; exact U.2.1),fun v2 H2 s2 T=>?_⟩;rw[zE]at i T;refine⟨_,rfl,a,_,3,_,rfl,rfl,(s1.trans s2).aA.sq J,DE _ _ _ _ _,bJ rfl,fun t Y=>?_⟩;have j:=ah Y (.tup [S,v2,.int I]);exact⟨⟨eE y,eE u,I⟩,.ref t,rfl,gu (q:=⟨eE y,eE u,I⟩) ae (i.mono (s2.trans j).aA) (T.mono j.aA),fun H' p xs s' o n' C=>q H' p xs (s1.trans (s2.trans (j.trans s'))) o (aD (s1.trans (s2.trans j)) n') C⟩
 have R:=o8 c;dsimp only[de,di];refine j0 (fun σ' H'=>(σ'=[some (.ref a),some (.ref an)]/\H=H')/\∀ x I m,l≠.deed (.set x none I) m) (fun σ' H' h=>?_) (fun nx kk=>?_);rotate_left
 ·dsimp only[fh,jl,de,di];refine⟨_,rfl,a,_,0,_,rfl,rfl,J,gQ _ _,rfl,_,rfl,cj (fun k=>?_) (fun k=>eI (kk _ _ ⟨⟨rfl,rfl⟩,fun x I m e=>o8 k (by rw[e]; rfl)⟩))⟩;obtain⟨x,y,I,m,rfl⟩:=rm (nW k);obtain⟨W,rfl,i1⟩:=fT r;obtain⟨r2,rfl,i2⟩:=nH i1;obtain⟨r3,rfl,i3⟩:=fT i2;refine⟨_,rfl,a,_,2,_,rfl,rfl,J,at2 _ _ _ _,rfl,_,rfl,?_⟩;cases y with
  | some y=>exact eI (kk _ _ ⟨⟨rfl,rfl⟩,fun x I m e=>by cases e⟩)
  | none=>
   refine lL ⟨_,rfl,a,_,1,_,rfl,rfl,J,yP _ _ _,_,rfl,some x,an,_,rfl,B,(by rw[z]; exact U.1.1),fun S H1 s1 i=>?_⟩;rw[zE]at i;exact⟨_,rfl,a,_,3,_,rfl,rfl,s1.aA.sq J,DE _ _ _ _ _,(Nd.name x).D,zG,S,_,I,rfl,i,Z.is _,fun H' p xs s' o n' C=>q H' p xs (s1.trans s') o (aD s1 n') C⟩
 obtain⟨⟨rfl,rfl⟩,G⟩:=h;refine⟨_,rfl,.ref a,l.word,l.args,rfl,hi,_,rfl,cj (fun L=>?_) (fun L=>?_)⟩
 ·obtain⟨bs,V,g,rfl⟩:=wa.mp L;obtain⟨vb,W,rfl,ib,i1⟩:=uq r;obtain⟨ab,ys,rfl,N,M⟩:=ib.bo;refine⟨_,rfl,a,_,1,_,rfl,rfl,J,yP _ _ _,ab,ys,rfl,.inr N,fun p np=>?_⟩;exact q _ p _ (ah np _) ae np (M.mono (ah np _).aA)
 ·refine⟨bJ rfl,fun p np=>?_⟩;have e:l.uV=[]:=by
   cases l with
   | deed d m=>
    cases d with
    | set x y I=>
     cases y with
     | none=>exact absurd rfl (G x I m)
     | some y=>rfl
    | _=>rfl
   | test y u c V g=>exact absurd rfl R
   | ask bs V g=>exact absurd (wa.mpr ⟨bs,V,g,rfl⟩) L
   | stop=>rfl
  exact q _ p [] (ah np _) ae np (by rw[e]; exact aq)
theorem jz(F:fL K "bounds_between" "bounds_between" cf f fd)(Z:uH K mg a_ZERO)(m_range:mg "range" = none):b9 P w K mg base fM (n + 1) f fd ji (ou K):=by
 refine F.ok bU (by walk_at "l") (fun cdv A outer s H vs Q E hr h=>?_);obtain⟨tp,al,nm,rw,ls,rfl,hP,q⟩:=h;have W:=Z.mz;have hnm:=hP.ok.hn;have hrw:=hP.ok.hr;have hu9:(A.deeper (envOfC "bounds_between" (av cf) s.heap.objs.size f cdv)).units + 1 + 9 < cLine:=by have:=hr.units; lia
 refine⟨_,(@ak _ _ _ _ _ (uG (i:=1) ["name"] rfl (cT (N:=IJ) (so:=av cf) rfl rfl (by decide +kernel)) bU.nd rfl (Or.inl rfl) (cK rfl m_range (aa (aU a9 (pv 0) ag) aj)) (fun _ _ _ _ _ _=>(aG (i:=0) (show List.Nodup (α:=Str) ["name","program","names","nodes","bounds","a","b"] by decide +kernel) rfl (Or.inl rfl) (Or.inr rfl))) (fun _ _ _ _ _ _=>cD) (fun _ _ _ _ _ _=>(aE (aa a8 (aa (pv 0) (aa ag aj))))) rfl)
   (@ak _ _ _ _ _ (ba (i:=2) bU.nd (ao eG (ao eG (br (aa (ju rfl W (v:=.ref a_ZERO) rfl) aj)) (pv 1)) (cA ["row"] rfl (cT (N:=IJ) (so:=av cf) rfl rfl (by decide +kernel)) (cK rfl m_range (aa (aU a9 (pv 0) ag) aj)) (fun _ _ _ _ _ _=>(aG (i:=0) (show List.Nodup (α:=Str) ["row","program","names","nodes","bounds","a","b"] by decide +kernel) rfl (Or.inl rfl) (Or.inr rfl))) (fun _ _ _ _ _ _=>cD) (fun _ _ _ _ _ _=>(aE (aa a8 (aa (pv 0) aj)))))))
   (@ak _ _ _ _ _ (ba (i:=3) bU.nd (br aj))
   (@ak _ _ _ _ _ (dg qW rfl (cM (pv 2)) (aG (i:=4) bU.nd rfl (Or.inl rfl)) (au (dg qW rfl (cM (pv 2)) (aG (i:=5) bU.nd rfl (Or.inl rfl)) (au (ck (PW.pt (mT (tV (yV (n:=9) hu9 (pv 4) (pv 1))) (lN (tV (yV (n:=9) hu9 (pv 5) (pv 1)))))) (au (bP (dy nB PySem.F.slot_list_extend PySem.F.type_list_extend j6 (pv 3) (aa (br (aa (aE (aa (pv 4) (aa (pv 5) (aa ag aj)))) (aa (aE (aa (pv 4) (aa (pv 5) (aa (gJ fv ag) aj)))) aj))) aj)))) bw)))))
   (au (aQ (pv 3))))))),?_⟩
 refine⟨_,rfl,tp,_,0,_,rfl,rfl,hP.t,gQ _ _,_,rfl,by lia,by lia,fun p np=>?_⟩;rw[qU];refine dW (n:=nm) (fun i H'=>aB H H'/\∃ I,H' p=some (.lst I)/\IsL K H' ((cS i).map Nd.D) I) ⟨ah np _,[],ae,aq⟩ (fun i H' hi h=>?_) (fun H1 h=>?_)
 ·obtain⟨sm,I,ea,ia⟩:=h;refine⟨⟨[some (.int (0 + (i:Int)))],rfl,rfl⟩,bR ?_⟩;rw[Int.zero_add];refine⟨_,rfl,bJ rfl,fun U n1=>?_⟩;have c:=ah n1 (.tup [.str "name",.int (i:Int),.int 0]);have la:=ia.length;unfold cS at la;rw[bL,bL,kY]at la;have o:=c _ _ ea;refine⟨I,o,aN (by lia),aB.new (sm.trans c) np,I++[.ref U],ae,?_⟩;have tl:=bK.lst (ys:=I++[.ref U]) o;rw[kn,dH];exact IsL.append ((ia.mono c.aA).mono tl) (af ((k8 (x:=i) (v:=0) ae).mono tl) aq)
 obtain⟨s1,I,ea,ia⟩:=h;have la:I.length=nm:=by have:=ia.length; unfold cS at this; rw[bL,bL,kY]at this; exact this.symm
 refine⟨bJ rfl,fun lz nlz=>?_⟩;have k:=ah nlz (.lst [.ref a_ZERO]);refine⟨_,rfl,lz,p,_,I,rfl,rfl,ae,k _ _ ea,small (by rw[nv]; lia),fun l3 nl3=>?_⟩;have l:=ah nl3 (.lst ([.ref a_ZERO]++I));have M:=s1.trans (k.trans l);have e3:upd (upd H1 lz (.lst [.ref a_ZERO])) l3 (.lst ([.ref a_ZERO]++I)) l3=some (.lst ([.ref a_ZERO]++I)):=ae;have ea3:=(k.trans l) _ _ ea;have ia3:=ia.mono (k.trans l).aA;generalize upd (upd H1 lz (.lst [.ref a_ZERO])) l3 (.lst ([.ref a_ZERO]++I))=H3 at M e3 ea3 ia3;refine⟨_,rfl,tp,_,1,_,rfl,rfl,(hP.same M).t,yP _ _ _,_,rfl,by lia,by lia,fun p4 np4=>?_⟩;rw[qU];refine dW (n:=rw) (fun i H'=>aB H3 H'/\∃ I,H' p4=some (.lst I)/\IsL K H' ((gr i).map Nd.D) I) ⟨ah np4 _,[],ae,aq⟩ (fun i H' hi h=>?_) (fun H4 h=>?_)
 ·obtain⟨sm,I,ea,ia⟩:=h;refine⟨⟨[some (.int (0 + (i:Int)))],rfl,rfl⟩,bR ?_⟩;rw[Int.zero_add];refine⟨_,rfl,bJ rfl,fun U n1=>?_⟩;have c:=ah n1 (.tup [.str "len",.int (i:Int)]);have la:=ia.length;unfold gr at la;rw[bL,bL,kY]at la;have o:=c _ _ ea;refine⟨I,o,aN (by lia),aB.new (sm.trans c) np4,I++[.ref U],ae,?_⟩;have tl:=bK.lst (ys:=I++[.ref U]) o;rw[lV,dH];exact IsL.append ((ia.mono c.aA).mono tl) (af ((yH (r:=i) ae).mono tl) aq)
 obtain⟨s4,J,ea4,ia4⟩:=h;have la4:J.length=rw:=by have:=ia4.length; unfold gr at this; rw[bL,bL,kY]at this; exact this.symm
 refine⟨l3,p4,_,J,rfl,rfl,s4 _ _ e3,ea4,small (by rw[dE,nv]; lia),fun Y npn=>?_⟩;have u5:=ah npn (.lst ([.ref a_ZERO]++I++J));have s05:=M.trans (s4.trans u5);have e5:upd H4 Y (.lst ([.ref a_ZERO]++I++J)) Y=some (.lst ([.ref a_ZERO]++I++J)):=ae;have ea5:=(s4.trans u5) _ _ ea3;have S:=ia3.mono (s4.trans u5).aA;have i5:IsL K (upd H4 Y (.lst ([.ref a_ZERO]++I++J))) ((aC nm rw).map Nd.D) ([.ref a_ZERO]++I++J):=by
  unfold aC;rw[iU,dH];exact af (Z.is _) (IsL.append S (ia4.mono u5.aA))
 generalize upd H4 Y (.lst ([.ref a_ZERO]++I++J))=H5 at s05 e5 ea5 S i5;generalize [V.ref a_ZERO]++I++J=zs at e5 i5;clear s4 u5 ea4 ia4 ea3 ia3 e3 M k l ia ea s1;have lz':zs.length=(aC nm rw).length:=by have:=i5.length; rw[bL]at this; exact this.symm
 have ln:=gW nm rw;refine⟨bJ rfl,fun pb R=>?_⟩;have npb0:=aD s05 R;have hrow:∀ j:Nat,j<=(aC nm rw).length->(((aC nm rw).take j).flatMap (kh (aC nm rw))).length<=200:=fun j hj=>by
  have h1:=fu (f:=kh (aC nm rw)) (m:=20) (fun x=>by
   have:=fu (f:=eM x) (m:=2) (gF x) (aC nm rw)
   unfold kh; lia) ((aC nm rw).take j)
  rw[gx]at h1
  lia
 have hpair:∀ (a:Nd) (j:Nat),j<=(aC nm rw).length->(((aC nm rw).take j).flatMap (eM a)).length<=20:=fun a j hj=>by
  have h1:=fu (f:=eM a) (m:=2) (gF a) ((aC nm rw).take j);rw[gx]at h1
  lia
 refine⟨_,rfl,Y,rfl,⟨_,bp.of ((ah R (.lst [])) _ _ e5)⟩,?_⟩;refine d9 (xs:=zs) (fun j σ H'=>aB H5 H'/\∃ I y4 y5,H' pb=some (.lst I)/\IsL K H' ((((aC nm rw).take j).flatMap (kh (aC nm rw))).map Bd.D) I/\σ=[some (.ref tp),some (.ref p),some (.ref Y),some (.ref pb),y4,y5])
  ⟨ah R _,[],_,_,ae,aq,rfl⟩ (fun j σ H' _ h=>bp.of (h.1 _ _ e5)) (fun j y σ H6 ey h=>?_) (fun σ H6 h=>?_)
 ·obtain⟨s6,B,y4,y5,eb6,T,rfl⟩:=h;have hj:j < (aC nm rw).length:=by have:=(dJ.mp ey).1; lia
  have eA:=cL hj;obtain⟨y',ey',iy⟩:=i5.get (j:=j) (d:=(aC nm rw)[j].D) (by rw[g6,eA]; rfl);rw[ey]at ey'; cases ey';have okA:(aC nm rw)[j].Ok nm rw:=tN (wN hj);have hr6:=hrow j (vm hj);generalize hA:(aC nm rw)[j]=a at eA iy okA;refine⟨_,rfl,Y,rfl,⟨_,bp.of (s6 _ _ e5)⟩,?_⟩;refine d9 (xs:=zs) (fun i σ H'=>aB H5 H'/\∃ I y5,H' pb=some (.lst I)/\IsL K H' ((((aC nm rw).take j).flatMap (kh (aC nm rw))++((aC nm rw).take i).flatMap (eM a)).map Bd.D) I/\σ=[some (.ref tp),some (.ref p),some (.ref Y),some (.ref pb),some y,y5])
   ⟨s6,B,_,eb6,by rw[BG,List.flatMap_nil,jL]; exact T,rfl⟩ (fun i σ H' _ h=>bp.of (h.1 _ _ e5)) (fun i z σ H7 ez h=>?_) (fun σ H7 h=>?_)
  ·obtain⟨L,O,y5,eb7,u,rfl⟩:=h;have hi:i < (aC nm rw).length:=by have:=(dJ.mp ez).1; lia
   have eB:=cL hi;obtain⟨z',ez',iz⟩:=i5.get (j:=i) (d:=(aC nm rw)[i].D) (by rw[g6,eB]; rfl);rw[ez]at ez'; cases ez';have okB:(aC nm rw)[i].Ok nm rw:=tN (wN hi);generalize hB:(aC nm rw)[i]=b at eB iz okB;have hp7:=hpair a i (vm hi);have l7:=u.length;rw[bL,dE]at l7
   have dn:D.cy ((cS nm).map Nd.D) < 9:=Ar (wD (n:=1) fun d hd=>by
    obtain⟨x,hx,rfl⟩:=eW.mp hd;obtain⟨x,hx,rfl⟩:=eW.mp hx
    unfold Nd.D; rw[jj]; simp only[Nd.args,bT,dF,jO,fF]; decide) (by decide)
   refine AD (a.isName || b.isName) (fun Q' kk=>?_) (fun H8 s8=>?_)
   ·refine⟨_,rfl,_,rfl,p,I,_,_,rfl,bp.of (L _ _ ea5),S.mono L.aA,iy.mono L.aA,dn,_,rfl,?_⟩;rw[sj okA];have C:=kk H7 (.refl _);revert C;generalize a.isName=ai;intro C;cases ai with
    | true=>exact lL C
    | false=>
     refine eI ⟨_,rfl,_,rfl,p,I,_,_,rfl,bp.of (L _ _ ea5),S.mono L.aA,iz.mono L.aA,dn,_,rfl,?_⟩;rw[sj okB];exact C
   ·have eb8:=s8 _ _ eb7;have ib8:=u.mono s8.aA;have e:=L.trans s8;rw[gj eB];by_cases hc:(a.isName || b.isName)=true
    ·have ep:eM a b=[⟨a,b,0⟩,⟨a,b,-1⟩]:=if_pos hc;rw[if_pos hc,ep];refine⟨_,rfl,.inl ⟨rfl,_,bp.of eb8⟩,_,rfl,_,rfl,bJ rfl,fun U n1=>⟨_,rfl,_,rfl,_,rfl,bJ rfl,fun g n2=>⟨bJ rfl,fun pl npl=>?_⟩⟩⟩;have c:=ah n1 (.tup [y,z,.int 0]);have k:=ah n2 (.tup [y,z,.int (-1)]);have l:=ah npl (.lst [.ref U,.ref g]);have e3:upd (upd (upd H8 U (.tup [y,z,.int 0])) g (.tup [y,z,.int (-1)])) pl (.lst [.ref U,.ref g]) pl=some (.lst [.ref U,.ref g]):=ae;have x1:Is K (upd (upd (upd H8 U (.tup [y,z,.int 0])) g (.tup [y,z,.int (-1)])) pl (.lst [.ref U,.ref g])) (Bd.D ⟨a,b,0⟩) (.ref U):=gu (q:=⟨a,b,0⟩) ((k.trans l) _ _ ae) (iy.mono (e.trans (c.trans (k.trans l))).aA) (iz.mono (e.trans (c.trans (k.trans l))).aA);have x2:Is K (upd (upd (upd H8 U (.tup [y,z,.int 0])) g (.tup [y,z,.int (-1)])) pl (.lst [.ref U,.ref g])) (Bd.D ⟨a,b,-1⟩) (.ref g):=gu (q:=⟨a,b,-1⟩) (l _ _ ae) (iy.mono (e.trans (c.trans (k.trans l))).aA) (iz.mono (e.trans (c.trans (k.trans l))).aA);have G:=c.trans (k.trans l);generalize upd (upd (upd H8 U (.tup [y,z,.int 0])) g (.tup [y,z,.int (-1)])) pl (.lst [.ref U,.ref g])=H9 at e3 x1 x2 G;have eb9:=G _ _ eb8;refine⟨pb,pl,O,_,rfl,rfl,eb9,e3,(by rw[mP]; simp only[jU,xq]; lia),aB.new (e.trans G) R,O++[.ref U,.ref g],_,ae,?_,rfl⟩;have tl:=bK.lst (ys:=O++[.ref U,.ref g]) eb9;rw[<-iD,dH];exact IsL.append ((ib8.mono G.aA).mono tl) (af (x1.mono tl) (af (x2.mono tl) aq))
    ·have ep:eM a b=[]:=if_neg hc;rw[if_neg hc,ep,jL];exact⟨e,O,_,eb8,ib8,rfl⟩
  ·obtain⟨L,O,y5,eb7,u,rfl⟩:=h;rw[lz',mw]at u;refine⟨L,O,_,_,eb7,?_,rfl⟩;rw[gj eA];exact u
 ·obtain⟨s6,B,y4,y5,eb6,T,rfl⟩:=h;rw[lz',mw]at T;exact⟨_,rfl,q _ pb B (s05.trans s6) eb6 npb0 T⟩
abbrev lF:Stmt:=top 31
def DG(names rows:Int)(d:D):Prop:=d=.tup [.str "zero"]\/(∃ k:Int,0<=k/\k < names/\d=.tup [.str "name",.int k,.int 0])\/∃ k:Int,0<=k/\k < rows/\d=.tup [.str "len",.int k]
theorem vV{rw:Nat}{d:D}(h:DG (nm:Int) (rw:Int) d):∃ q:Nd,q.Ok nm rw/\d=q.D:=by
 rcases h with rfl | ⟨k,k0,k1,rfl⟩ | ⟨k,k0,k1,rfl⟩
 ·exact⟨.zero,trivial,rfl⟩
 ·obtain⟨i,rfl⟩:∃ i:Nat,k=(i:Int):=⟨k.toNat,by lia⟩
  exact⟨.name i,by show i < nm; lia,rfl⟩
 ·obtain⟨i,rfl⟩:∃ i:Nat,k=(i:Int):=⟨k.toNat,by lia⟩
  exact⟨.len i,by show i < rw; lia,rfl⟩
theorem eF{K:aL}(y:Option Nat):Is K H (kJ y) (aV y):=by
 cases y with
 | none=>exact kj
 | some i=>exact aH
inductive Ag(K:aL)(vs:List V)(H:Hp)(Q:VK)(E:XK):Prop|m(c names rows:Int)(_:vs=[.int c,.int names,.int rows])(_:0<=names)(_:names<=100)(_:0<=rows)(_:rows<=100)(_:∀ (d:D) (v:V) (H':Hp),DG names rows d->aB H H'->Is K H' d v->Q v H')
abbrev je:Stmt:=top 32
theorem cV:aW ["_law_number","_law_at","_law_names","_law_rows","_law_kind","_law_rest","_law_x","_law_y","_law_c_here","_law_r"] Ic (av je):=by walk_at "k"
def Sc(c:Int):Prop:=-1000<=c/\c<=1000
def Ln.Sm:Ln->Prop
 | .deed (.set _ _ c) _=>Sc c
 | .deed (.get _ _ _ c) _=>Sc c
 | .deed (.put _ _ c _) _=>Sc c
 | .deed _ _=>True
 | .test _ _ c _ _=>Sc c
 | .ask bs _ _=>(∀ q∈bs,Sc q.c)/\bs.length<=4
 | .stop=>True
def xA(nm rw nl:Nat)(l:Ln):Prop:=l.Ok nm rw nl/\l.Sm
inductive mm(K:aL)(vs:List V)(H:Hp)(Q:VK)(E:XK):Prop|m(c:Int)(at_ nm rw:Nat)(_:vs=[.int c,.int (at_:Int),.int (nm:Int),.int (rw:Int)])(_:nm<=6)(_:rw<=3)(_:∀ (l:Ln) (v:V) (H':Hp),xA nm rw (at_ + 10) l->aB H H'->Is K H' l.D v->Q v H')
theorem qQ{x y:V}(b:Bool):nz [x,y] (if b then 1 else 0)=some (if b then y else x):=by cases b <;> rfl
theorem bB(x:Int)(h:0 < m):∃ i:Nat,i < m/\x % (m:Int)=(i:Int):=by
 have I:=Int.emod_nonneg x (show (m:Int)≠0 by lia);have h1:=Int.emod_lt_of_pos x (show (0:Int) < (m:Int) by lia);exact⟨(x % (m:Int)).toNat,by lia,by lia⟩
theorem F5(z:Int):∃ w,Sc w/\nz [V.int 1,V.int (-1)] (z % 2)=some (.int w):=by
 obtain⟨j,I,e⟩:=bB z (m:=2) (by decide);have e:z % 2=(j:Int):=e;rw[e];have:j=0\/j=1:=by lia
 rcases this with rfl | rfl
 ·exact⟨1,⟨by decide,by decide⟩,rfl⟩
 ·exact⟨-1,⟨by decide,by decide⟩,rfl⟩
theorem bz{K:aL}{i j:Int}(h:i=j):Is K H (.int i) (.int j):=by rw[h]; exact aH
theorem xa:aW qE qH (av lF):=by walk_at "k"
theorem B0(F:fL K "_law_node" "_law_node" lF f fd)(m_len:mg "len" = none)(m_range:mg "range" = none):b9 P w K mg base fM (n + 1) f fd qH (Ag K):=by
 refine F.ok xa (by walk_at "l") (fun cdv A outer s H vs Q E hr h=>?_);obtain⟨c,g,z,rfl,n0,n1,r0,r1,q⟩:=h
 refine⟨_,(@ak _ _ _ _ _ (ba (i:=3) xa.nd (ao eG (ao eG (br (aa (aE (aa a8 aj)) aj)) (cA ["_law_x"] rfl (cT (N:=qE) (so:=av lF) rfl rfl (by decide +kernel)) (cK rfl m_range (aa (pv 1) aj)) (fun _ _ _ _ _ _=>(aG (i:=0) (show List.Nodup (α:=Str) ["_law_x","_law_number","_law_names","_law_rows","_law_nodes"] by decide +kernel) rfl (Or.inl rfl) (Or.inr rfl))) (fun _ _ _ _ _ _=>cD) (fun _ _ _ _ _ _=>(aE (aa a8 (aa (pv 0) (aa ag aj))))))) (cA ["_law_r"] rfl (cT (N:=qE) (so:=av lF) rfl rfl (by decide +kernel)) (cK rfl m_range (aa (pv 2) aj)) (fun _ _ _ _ _ _=>(aG (i:=0) (show List.Nodup (α:=Str) ["_law_r","_law_number","_law_names","_law_rows","_law_nodes"] by decide +kernel) rfl (Or.inl rfl) (Or.inr rfl))) (fun _ _ _ _ _ _=>cD) (fun _ _ _ _ _ _=>(aE (aa a8 (aa (pv 0) aj)))))))
   (au (aQ (aU cu (pv 3) (ao aJ (pv 0) (bh bf rfl m_len tQ (aa (pv 3) aj))))))),?_⟩
 refine⟨bJ rfl,fun t ht=>⟨bJ rfl,fun l hl=>?_⟩⟩;refine⟨_,rfl,g,rfl,by lia,by lia,fun p Y=>?_⟩;have B:aB H (upd (upd H t (.tup [.str "zero"])) l (.lst [.ref t])):=(ah ht _).trans (ah hl _);generalize hH1:upd (upd H t (.tup [.str "zero"])) l (.lst [.ref t])=H1 at B Y;have e_l:H1 l=some (.lst [.ref t]):=by rw[<-hH1]; exact ae
 have T:H1 t=some (.tup [.str "zero"]):=by rw[<-hH1,aw (gH (ae) hl)]; exact ae
 refine dW (fun i H'=>aB H1 H'/\∃ I,H' p=some (.lst I)/\IsL K H' ((List.range i).map fun (k:Nat)=>D.tup [.str "name",.int (k:Int),.int 0]) I) ⟨ah Y _,[],ae,aq⟩ (fun i H' hi h=>?_) (fun H' h=>?_)
 ·obtain⟨sm,I,Z,e⟩:=h;refine⟨⟨[some (.int (0 + (i:Int)))],rfl,rfl⟩,?_⟩;refine bR ?_;refine⟨_,rfl,bJ rfl,fun V O=>?_⟩;have W:=bK.new (o:=.tup [.str "name",.int (0 + (i:Int)),.int 0]) O;have U:upd H' V (.tup [.str "name",.int (0 + (i:Int)),.int 0]) p=some (.lst I):=by rw[aw (gH Z O)]; exact Z
  have x:=e.length;rw[bL,kY]at x;refine⟨I,U,aN (by lia),?_,I++[.ref V],ae,?_⟩
  ·exact aB.new (aB.new sm (aD sm O)) Y
  ·rw[List.range_succ,dH];refine IsL.append ((e.mono W).mono (bK.lst U)) (af ?_ aq);have et:upd (upd H' V (.tup [.str "name",.int (0 + (i:Int)),.int 0])) p (.lst (I++[.ref V])) V=some (.tup [.str "name",.int (0 + (i:Int)),.int 0]):=by
    rw[aw (gH Z O).symm]; exact ae
   refine aX (bu.of et) (af bq (af ?_ (af aH aq)));rw[Int.zero_add]; exact aH
 ·obtain⟨sm,I,Z,e⟩:=h;have x:=e.length;rw[bL,kY]at x;have L:=sm _ _ e_l;refine⟨l,p,_,I,rfl,rfl,L,Z,small (by simp; lia),fun C u=>?_⟩;refine⟨_,rfl,z,rfl,by lia,by lia,fun R m=>?_⟩;have t3:=bK.new (o:=.lst ([.ref t]++I)) u;have s3:aB H1 (upd H' C (.lst ([.ref t]++I))):=sm.trans (ah u _);have M:=e.mono t3;have e3:upd H' C (.lst ([.ref t]++I)) C=some (.lst ([.ref t]++I)):=ae;generalize upd H' C (.lst ([.ref t]++I))=H3 at t3 s3 M e3 m;refine dW (fun i H'=>aB H3 H'/\∃ I,H' R=some (.lst I)/\IsL K H' ((List.range i).map fun (k:Nat)=>D.tup [.str "len",.int (k:Int)]) I) ⟨ah m _,[],ae,aq⟩ (fun i H' hi h=>?_) (fun H' h=>?_)
  ·obtain⟨sm,I,Z,e⟩:=h;refine⟨⟨[some (.int (0 + (i:Int)))],rfl,rfl⟩,?_⟩;refine bR ?_;refine⟨_,rfl,bJ rfl,fun V O=>?_⟩;have W:=bK.new (o:=.tup [.str "len",.int (0 + (i:Int))]) O;have U:upd H' V (.tup [.str "len",.int (0 + (i:Int))]) R=some (.lst I):=by rw[aw (gH Z O)]; exact Z
   have x:=e.length;rw[bL,kY]at x;refine⟨I,U,aN (by lia),?_,I++[.ref V],ae,?_⟩
   ·exact aB.new (aB.new sm (aD sm O)) m
   ·rw[List.range_succ,dH];refine IsL.append ((e.mono W).mono (bK.lst U)) (af ?_ aq);have et:upd (upd H' V (.tup [.str "len",.int (0 + (i:Int))])) R (.lst (I++[.ref V])) V=some (.tup [.str "len",.int (0 + (i:Int))]):=by
     rw[aw (gH Z O).symm]; exact ae
    refine aX (bu.of et) (af bq (af ?_ aq));rw[Int.zero_add]; exact aH
  ·obtain⟨a,J,S,y⟩:=h;have ln5:=y.length;rw[bL,kY]at ln5;refine⟨C,R,_,J,rfl,rfl,a _ _ e3,S,small (by simp; lia),fun r G=>?_⟩
   -- the whole list,by data
   have t6:=bK.new (o:=.lst (([.ref t]++I)++J)) G;have it:Is K (upd H' r (.lst (([.ref t]++I)++J))) (.tup [.str "zero"]) (.ref t):=(aX (bu.of (a _ _ (s3 _ _ T))) (af bq aq)).mono t6;have all:=IsL.append (IsL.append (af it aq) ((M.mono a.aA).mono t6)) (y.mono t6);have e6:upd H' r (.lst (([.ref t]++I)++J)) r=some (.lst (([.ref t]++I)++J)):=ae;have s6:aB H (upd H' r (.lst (([.ref t]++I)++J))):=B.trans (s3.trans (a.trans (ah G _)));generalize upd H' r (.lst (([.ref t]++I)++J))=H6 at e6 all s6;obtain⟨j,v,ev,ej⟩:=Ds (xs:=([.ref t]++I)++J) (c:=c) (by simp);refine⟨_,rfl,_,rfl,_,rfl,r,_,rfl,.inl (bp.of e6),_,_,rfl,rfl,by show (0:Int) < _; simp; lia,r,_,_,v,rfl,rfl,bp.of e6,ev,?_⟩;obtain⟨d,ed,isd⟩:=all.get' ej;refine q d v H6 ?_ s6 isd;have b:=oY ed;rcases fY.mp b with b | b
   ·rcases fY.mp b with b | b
    ·rw[fS.mp b]; exact .inl rfl
    ·obtain⟨k,hk,rfl⟩:=eW.mp b;have:=tT.mp hk;exact .inr (.inl ⟨k,by lia,by lia,rfl⟩)
   ·obtain⟨k,hk,rfl⟩:=eW.mp b;have:=tT.mp hk;exact .inr (.inr ⟨k,by lia,by lia,rfl⟩)
theorem sO(F:fL K "_law_straight" "_law_straight" je f fd)(m_max:mg "max" = none)(m_int:mg "int" = none)(c_law_c:Cl P w K mg base "_law_c" n EY Gk):b9 P w K mg base fM (n + 1) f fd Ic (mm K):=by
 refine F.ok cV (by walk_at "l") (fun cdv A outer s H vs Q E G h=>?_);obtain⟨c,at_,nm,rw,rfl,R,hrw,q⟩:=h
 refine⟨_,(@ak _ _ _ _ _ (ck (aF cm (pv 2) ag) (au (aQ (aE (aa a8 (aa dR (aa dR (aa (aY c_law_c G rfl (aa (pv 0) aj)) (aa (ao bj (pv 1) ag) (aa (ao bj (ao bj (pv 1) ag) (ao aJ (ao aS (pv 0) ag) ag)) aj))))))))) bw)
   (@ak _ _ _ _ _ (ba (i:=4) cV.nd (ao aJ (pv 0) ag))
   (@ak _ _ _ _ _ (ba (i:=5) cV.nd (ao aS (pv 0) ag))
   (@ak _ _ _ _ _ (ba (i:=6) cV.nd (ao aJ (pv 5) (pv 2)))
   (@ak _ _ _ _ _ (ba (i:=7) cV.nd (aU cu (br (aa dR (aa (ao aJ (ao aS (pv 5) ag) (pv 2)) aj))) (bE dv rfl m_int DT (aa (cN gI (ao aJ (ao aS (pv 5) ag) ag) ag) aj))))
   (@ak _ _ _ _ _ (ba (i:=8) cV.nd (aY c_law_c G rfl (aa (ao aS (pv 5) ag) aj)))
   (@ak _ _ _ _ _ (ba (i:=9) cV.nd (ao aJ (ao aS (pv 5) ag) (bh (gX rfl) rfl m_max PyProof.Rows.boot_max (aa (pv 3) (aa ag aj)))))
   (@ak _ _ _ _ _ (ck (aF tP (pv 4) ag) (au (aQ (aE (aa a8 (aa (pv 6) (aa (pv 7) (aa (pv 8) (aa (ao bj (pv 1) ag) aj)))))))) bw)
   (@ak _ _ _ _ _ (ck (aF cm (pv 4) ag) (au (aQ (aE (aa a8 (aa (pv 6) (aa (pv 6) (aa (aU cu (br (aa ag (aa (gJ fv ag) aj))) (ao aJ (ao aS (pv 5) ag) ag)) (aa (ao bj (pv 1) ag) aj)))))))) bw)
   (@ak _ _ _ _ _ (ck (PW.pt (eL (aF cm (pv 4) ag) (du (aF gI (pv 3) ag)))) (au (aQ (aE (aa a8 (aa (pv 6) (aa (pv 9) (aa (ao bj (pv 1) ag) aj))))))) bw)
   (@ak _ _ _ _ _ (ck (aF cm (pv 4) ag) (au (aQ (aE (aa a8 (aa (pv 6) (aa (ao bj (pv 1) ag) aj)))))) bw)
   (@ak _ _ _ _ _ (ck (aF cm (pv 4) ag) (au (aQ (aE (aa a8 (aa (pv 6) (aa (ao aJ (ao aS (pv 5) ag) (pv 2)) (aa (pv 7) (aa (ao bj (pv 1) ag) aj)))))))) bw)
   (@ak _ _ _ _ _ (ck (PW.pt (eL (aF tP (pv 4) ag) (du (aF gI (pv 3) ag)))) (au (aQ (aE (aa a8 (aa (pv 6) (aa (pv 9) (aa (pv 7) (aa (pv 8) (aa (ao bj (pv 1) ag) aj))))))))) bw)
   (@ak _ _ _ _ _ (ck (PW.pt (eL (aF cm (pv 4) ag) (du (aF gI (pv 3) ag)))) (au (aQ (aE (aa a8 (aa (pv 9) (aa (pv 7) (aa (pv 8) (aa (pv 6) (aa (ao bj (pv 1) ag) aj))))))))) bw)
   (au (aQ (aE (aa a8 (aa (pv 6) (aa (ao bj (pv 1) ag) aj)))))))))))))))))))),?_⟩
 have O:((at_ + 1:Nat):Int)=(at_:Int) + 1:=by lia
 refine⟨_,rfl,rfl,_,rfl,cj (fun o=>?_) (fun o=>?_)⟩
 ·have e0:nm=0:=by have:=jV o; injection this with this; lia
  obtain⟨j,hj,ej⟩:=bB (c / 64) (m:=3) (by decide);refine⟨_,rfl,c,rfl,fun i i0 i1=>⟨_,rfl,_,_,rfl,rfl,_,rfl,_,_,rfl,rfl,_,rfl,_,_,rfl,rfl,⟨by decide,by decide⟩,_,_,rfl,rfl,(by decide:(0:Int) < 3),_,_,rfl,rfl,bJ rfl,fun t I=>?_⟩⟩;refine q (.test none none i (at_ + 1) (at_ + 1 + j)) _ _ ⟨⟨trivial,trivial,by lia,by lia⟩,i0,i1⟩ (ah I _) (aX (bu.of ae) (af bq (af kj (af kj (af aH (af (bz O) (af (bz ?_) aq)))))));have:c / 64 % 3=(j:Int):=ej;show ((at_ + 1 + j:Nat):Int)=(at_:Int) + 1 + c / 64 % 3
  lia
 have d:0 < nm:=by
  rcases Nat.eq_zero_or_pos nm with z | z
  ·exact absurd (gp (by rw[z]; rfl)) o
  ·exact z
 have a:(0:Int) < (nm:Int):=by lia
 refine⟨_,rfl,_,_,rfl,rfl,(by decide:(0:Int) < 10),?_⟩;refine⟨_,rfl,_,_,rfl,rfl,⟨by decide,by decide⟩,?_⟩;refine⟨_,rfl,_,rfl,_,_,rfl,rfl,a,?_⟩;refine⟨_,rfl,_,_,rfl,rfl,⟨by decide,by decide⟩,_,rfl,_,_,rfl,rfl,a,bJ rfl,fun pl u=>?_⟩;refine⟨_,rfl,_,_,rfl,rfl,⟨by decide,by decide⟩,_,_,rfl,rfl,(by decide:(0:Int) < 4),_,_,rfl,rfl,.inr ⟨_,rfl,pl,_,_,_,rfl,rfl,bp.of ae,qQ _,?_⟩⟩;have s1:=ah u (.lst [.non,.int (c / 10 / 8 % (nm:Int))]);refine⟨_,rfl,_,_,rfl,rfl,⟨by decide,by decide⟩,_,rfl,fun e c0 M=>?_⟩;have g:(0:Int) < (if (1:Int) > (rw:Int) then 1 else (rw:Int)):=by split <;> lia
 refine⟨_,rfl,_,_,rfl,rfl,⟨by decide,by decide⟩,_,rfl,_,_,rfl,_,_,rfl,rfl,g,?_⟩;dsimp only[fw,de];obtain⟨x,U,ex⟩:=bB (c / 10) d;obtain⟨T,p,v⟩:=bB (c / 10 / 8) d;obtain⟨y,k,Y⟩:∃ y,gq nm y/\(if decide (c / 10 / 64 % 4 > 0)=true then V.int (c / 10 / 8 % (nm:Int)) else V.non)=aV y:=by
  by_cases L:decide (c / 10 / 64 % 4 > 0)=true
  ·exact⟨some T,p,by rw[if_pos L,v]; rfl⟩
  ·exact⟨none,trivial,by rw[if_neg L]; rfl⟩
 have l:(if decide (0 < c / 10 / 64 % 4)=true then V.int (c / 10 / 8 % (nm:Int)) else V.non)=aV y:=Y;rw[ex,l];generalize upd H pl (.lst [.non,.int (c / 10 / 8 % (nm:Int))])=H1 at s1;obtain⟨r,Z,S⟩:∃ r:Nat,(0 < rw->r < rw)/\c / 10 / 4096 % (if (1:Int) > (rw:Int) then 1 else (rw:Int))=(r:Int):=by
  have h0:=Int.emod_nonneg (c / 10 / 4096) (show (if (1:Int) > (rw:Int) then 1 else (rw:Int))≠0 by lia);have h1:=Int.emod_lt_of_pos (c / 10 / 4096) g;refine⟨(c / 10 / 4096 % (if (1:Int) > (rw:Int) then 1 else (rw:Int))).toNat,fun h=>?_,by lia⟩;rw[if_neg (show ¬ (1:Int) > (rw:Int) by lia)]at h0 h1 |-
  lia
 rw[S];generalize c % 10=B;have out:∀ {H2:Hp},aB H1 H2->aB H H2:=fun s=>s1.trans s
 have b:Sc e:=⟨c0,M⟩
 refine⟨_,rfl,_,_,rfl,rfl,_,rfl,cj (fun _=>?_) (fun _=>?_)⟩
 ·exact⟨_,rfl,_,rfl,_,rfl,_,rfl,_,_,rfl,rfl,bJ rfl,fun t I=>q (.deed (.set x y e) (at_ + 1)) _ _ ⟨⟨⟨U,k⟩,by lia⟩,b⟩ (out (ah I _)) (aX (bu.of ae) (af bq (af aH (af (eF y) (af aH (af (bz O) aq))))))⟩
 refine⟨_,rfl,rfl,_,rfl,cj (fun _=>?_) (fun _=>?_)⟩
 ·obtain⟨wv,C,N⟩:=F5 (c / 10 / 512);exact⟨_,rfl,_,rfl,_,rfl,bJ rfl,fun p2 n2=>⟨_,rfl,_,_,rfl,rfl,⟨by decide,by decide⟩,_,_,rfl,rfl,(by decide:(0:Int) < 2),p2,_,_,_,rfl,rfl,bp.of ae,N,_,rfl,_,_,rfl,rfl,bJ rfl,fun t I=>q (.deed (.set x (some x) wv) (at_ + 1)) _ _ ⟨⟨⟨U,U⟩,by lia⟩,C⟩ (out ((ah n2 _).trans (ah I _))) (aX (bu.of ae) (af bq (af aH (af aH (af aH (af (bz O) aq))))))⟩⟩
 dsimp only[de,di];refine j0 (fun σ' H'=>σ'=[some (.int c),some (.int (at_:Int)),some (.int (nm:Int)),some (.int (rw:Int)),some (.int B),some (.int (c / 10)),some (.int (x:Int)),some (aV y),some (.int e),some (.int (r:Int))]/\H1=H') (fun σ' H' h=>?_) (fun D kk=>?_);rotate_left
 ·dsimp only[fh,jl,de,di];refine⟨_,rfl,rfl,_,rfl,cj (fun _=>⟨_,rfl,_,_,rfl,rfl,_,rfl,cj (fun h=>?_) (fun _=>kk _ _ ⟨rfl,rfl⟩)⟩) (fun _=>eI (kk _ _ ⟨rfl,rfl⟩))⟩;have J:0 < rw:=by have:=jV h; lia
  exact⟨_,rfl,_,rfl,_,rfl,_,_,rfl,rfl,bJ rfl,fun t I=>q (.deed (.len x r) (at_ + 1)) _ _ ⟨⟨⟨U,Z J⟩,by lia⟩,trivial⟩ (out (ah I _)) (aX (bu.of ae) (af bq (af aH (af aH (af (bz O) aq)))))⟩
 obtain⟨rfl,rfl⟩:=h;refine⟨_,rfl,rfl,_,rfl,cj (fun _=>?_) (fun _=>?_)⟩
 ·exact⟨_,rfl,_,rfl,_,_,rfl,rfl,bJ rfl,fun t I=>q (.deed (.take x) (at_ + 1)) _ _ ⟨⟨U,by lia⟩,trivial⟩ (out (ah I _)) (aX (bu.of ae) (af bq (af aH (af (bz O) aq))))⟩
 refine⟨_,rfl,rfl,_,rfl,cj (fun _=>?_) (fun _=>?_)⟩
 ·obtain⟨z,W,ez⟩:=bB (c / 10 / 512) d;refine⟨_,rfl,_,rfl,_,_,rfl,rfl,⟨by decide,by decide⟩,_,rfl,_,_,rfl,rfl,a,_,rfl,_,rfl,_,_,rfl,rfl,bJ rfl,fun t I=>?_⟩;exact q (.deed (.sum x z y) (at_ + 1)) _ _ ⟨⟨⟨U,W,k⟩,by lia⟩,trivial⟩ (out (ah I _)) (aX (bu.of ae) (af bq (af aH (af (bz ez.symm) (af (eF y) (af (bz O) aq))))))
 dsimp only[de,di];refine j0 (fun σ' H'=>σ'=[some (.int c),some (.int (at_:Int)),some (.int (nm:Int)),some (.int (rw:Int)),some (.int B),some (.int (c / 10)),some (.int (x:Int)),some (aV y),some (.int e),some (.int (r:Int))]/\H1=H') (fun σ' H' h=>?_) (fun D kk=>?_);rotate_left
 ·dsimp only[fh,jl,de,di];refine⟨_,rfl,_,_,rfl,rfl,_,rfl,cj (fun _=>⟨_,rfl,_,_,rfl,rfl,_,rfl,cj (fun h=>?_) (fun _=>kk _ _ ⟨rfl,rfl⟩)⟩) (fun _=>eI (kk _ _ ⟨rfl,rfl⟩))⟩;have J:0 < rw:=by have:=jV h; lia
  exact⟨_,rfl,_,rfl,_,rfl,_,rfl,_,rfl,_,_,rfl,rfl,bJ rfl,fun t I=>q (.deed (.get x r y e) (at_ + 1)) _ _ ⟨⟨⟨U,Z J,k⟩,by lia⟩,b⟩ (out (ah I _)) (aX (bu.of ae) (af bq (af aH (af aH (af (eF y) (af aH (af (bz O) aq)))))))⟩
 obtain⟨rfl,rfl⟩:=h;dsimp only[de,di];refine j0 (fun σ' H'=>σ'=[some (.int c),some (.int (at_:Int)),some (.int (nm:Int)),some (.int (rw:Int)),some (.int B),some (.int (c / 10)),some (.int (x:Int)),some (aV y),some (.int e),some (.int (r:Int))]/\H1=H') (fun σ' H' h=>?_) (fun D kk=>?_);rotate_left
 ·dsimp only[fh,jl,de,di];refine⟨_,rfl,rfl,_,rfl,cj (fun _=>⟨_,rfl,_,_,rfl,rfl,_,rfl,cj (fun h=>?_) (fun _=>kk _ _ ⟨rfl,rfl⟩)⟩) (fun _=>eI (kk _ _ ⟨rfl,rfl⟩))⟩;have J:0 < rw:=by have:=jV h; lia
  exact⟨_,rfl,_,rfl,_,rfl,_,rfl,_,rfl,_,_,rfl,rfl,bJ rfl,fun t I=>q (.deed (.put r y e x) (at_ + 1)) _ _ ⟨⟨⟨Z J,k,U⟩,by lia⟩,b⟩ (out (ah I _)) (aX (bu.of ae) (af bq (af aH (af (eF y) (af aH (af aH (af (bz O) aq)))))))⟩
 obtain⟨rfl,rfl⟩:=h;exact⟨_,rfl,_,rfl,_,_,rfl,rfl,bJ rfl,fun t I=>q (.deed (.tell x) (at_ + 1)) _ _ ⟨⟨U,by lia⟩,trivial⟩ (out (ah I _)) (aX (bu.of ae) (af bq (af aH (af (bz O) aq))))⟩
theorem tJ(n d:Nat)(v:Int):HT.dm n d (some v)=if v < 0 then (v + (n:Int)).toNat else min v.toNat n:=rfl
theorem fV{v:Int}(hv:v=(m:Int))(h:m<=xs.length):dw xs none (some v)=xs.take m:=by
 unfold dw;rw[HT.jD,hv,HT.jT,List.drop_zero,Nat.sub_zero,Nat.min_eq_left h]
theorem ik{v:Int}(hv:v=(m:Int))(h:m<=xs.length):dw xs (some v) none=xs.drop m:=by
 unfold dw;rw[HT.jD,hv,HT.jT,Nat.min_eq_left h];exact yE (by rw[List.length_drop]; exact bH _)
theorem jo{K:aL}{H:Hp}:∀ {ds:List D} {vs:List V} (m:Nat),IsL K H ds vs->IsL K H (ds.take m) (vs.take m)
 | _,_,0,_=>aq
 | [],vs,m + 1,h=>by rw[IsL.nil_inv h]; exact aq
 | d::ds,vs,m + 1,h=>by
  obtain⟨v,r,rfl,h1,h2⟩:=IsL.cons_inv h;exact af h1 (jo m h2)
theorem bM{K:aL}(h:IsL K H (ls.map Ln.D) xs):xs.length=ls.length:=by
 have:=h.length;rw[bL]at this;exact this.symm
theorem wA{K:aL}{H:Hp}{d:D}{v:V}(h:Is K H d v):∀ {ds:List D} {vs:List V} (j:Nat),IsL K H ds vs->IsL K H (ds.set j d) (vs.set j v)
 | [],vs,j,l=>by rw[IsL.nil_inv l]; exact aq
 | e::ds,vs,0,l=>by
  obtain⟨u,r,rfl,h1,h2⟩:=IsL.cons_inv l;exact af h h2
 | e::ds,vs,j + 1,l=>by
  obtain⟨u,r,rfl,h1,h2⟩:=IsL.cons_inv l;exact af h1 (wA h j h2)
theorem qo{t:TS}{D:Ends}(Φ:L2.St->Hp->Prop)(h:∀ σ' H',Φ σ' H'->u D σ' H')(hi:∀ u':TS,(∀ σ' H',Φ σ' H'->u' D σ' H')->fh c t u' D σ H):fh c t u D σ H:=hi u h
abbrev ma:Stmt:=top 33
theorem kc:aW ["_law_lines","_law_opened","_law_rest","_law_head","_law_x"] HD (av ma):=by walk_at "k"
def pairD(p:Nat × Nat):D:=.tup [.int (p.1:Int),.int (p.2:Int)]
def E6(ls:List Ln)(h:Nat):Prop:=∃ y w c k m,ls[h]?=some (.test y w c k m)
structure GS (K:aL) (H:Hp) (pl po:Addr) (nm rw:Nat) (ls:List Ln) (os:List (Nat × Nat)):Prop where
 l:∃ xs,H pl=some (.lst xs)/\IsL K H (ls.map Ln.D) xs
 o:∃ zs,H po=some (.lst zs)/\IsL K H (os.map pairD) zs
 ne:pl≠po
 ok:∀ l∈ls,xA nm rw 1000 l
 oo:∀ p∈os,p.2 < nm/\E6 ls p.1
theorem GS.same{K:aL}{rw:Nat}(g:GS K H pl po nm rw ls os)(s:aB H H'):GS K H' pl po nm rw ls os:=by
 obtain⟨⟨xs,h1,h2⟩,⟨zs,J,U⟩,V,O,I⟩:=g;exact⟨⟨xs,s _ _ h1,h2.mono s.aA⟩,⟨zs,s _ _ J,U.mono s.aA⟩,V,O,I⟩
def eD(p q:Addr)(H H':Hp):Prop:=∀ b o,b≠p->b≠q->H b=some o->H' b=some o
theorem eD.of{q:Addr}(s:aB H H'):eD p q H H':=fun b o _ _ e=>s b o e
theorem eD.trans{q:Addr}{H1 H2:Hp}(a:eD p q H H1)(b:eD p q H1 H2):eD p q H H2:=fun c o h1 h2 e=>b c o h1 h2 (a c o h1 h2 e)
theorem eD.zS{q:Addr}:eD p q H (upd H p o):=fun b u h1 _ e=>by rw[aw h1]; exact e
theorem eD.Hq{q:Addr}:eD p q H (upd H q o):=fun b u _ h2 e=>by rw[aw h2]; exact e
theorem eD.same{q:Addr}(b:eD p q H H')(s:aB H0 H)(hp:H0 p=none)(hq:H0 q=none):aB H0 H':=fun c o e=>b c o (fun z=>by rw[z,hp]at e; cases e) (fun z=>by rw[z,hq]at e; cases e) (s c o e)
inductive l9(K:aL)(vs:List V)(H:Hp)(Q:VK)(E:XK):Prop|m(pl po:Addr)(rest:Int)(nm rw:Nat)(ls:List Ln)(os:List (Nat × Nat))(h x:Nat)(_:vs=[.ref pl,.ref po,.int rest])(_:GS K H pl po nm rw ls (os++[(h,x)]))(_:ls.length<=200)(_:∀ (H':Hp) (ls':List Ln),eD pl po H H'->ls'.length=ls.length + 1->GS K H' pl po nm rw ls' os->Q .non H')
theorem CO(z:Int):∃ w,Sc w/\nz [V.int 1,V.int 1,V.int (-1),V.int 2] (z % 4)=some (.int w):=by
 obtain⟨j,I,e⟩:=bB z (m:=4) (by decide);have e:z % 4=(j:Int):=e;rw[e];have:j=0\/j=1\/j=2\/j=3:=by lia
 rcases this with rfl | rfl | rfl | rfl
 ·exact⟨1,⟨by decide,by decide⟩,rfl⟩
 ·exact⟨1,⟨by decide,by decide⟩,rfl⟩
 ·exact⟨-1,⟨by decide,by decide⟩,rfl⟩
 ·exact⟨2,⟨by decide,by decide⟩,rfl⟩
theorem xN(F:fL K "_law_closed" "_law_closed" ma f fd)(m_len:mg "len" = none):b9 P w K mg base fM (n + 1) f fd HD (l9 K):=by
 refine F.ok kc (by walk_at "l") (fun cdv A outer s H vs Q E hr h=>?_);obtain⟨pl,po,rest,nm,rw,ls,os,J,x,rfl,G,o,q⟩:=h
 refine⟨_,(@ak _ _ _ _ _ (mO (zp nB PySem.F.slot_list_pop PySem.F.type_list_pop AM (pv 1)) (jf rfl (bG (aG (i:=3) kc.nd rfl (Or.inl rfl)) (bG (aG (i:=4) kc.nd rfl (Or.inl rfl)) eP))))
   (@ak _ _ _ _ _ (bP (dy nB tR tS bF (pv 0) (aa (aE (aa a8 (aa (pv 4) (aa (pv 4) (aa (aU cu (br (aa ag (aa ag (aa (gJ fv ag) (aa ag aj))))) (ao aJ (pv 2) ag)) (aa (pv 3) aj)))))) aj)))
   (au (mO (ao pO (cJ jy (aU cu (pv 0) (pv 3)) d6 (cQ ag)) (aE (aa (bh bf rfl m_len tQ (aa (pv 0) aj)) aj))) (EB (pv 0) (pv 3) set_list))))),?_⟩
 obtain⟨⟨xs,el,il⟩,⟨zs,eo,io⟩,b,ok,oo⟩:=G;rw[dH]at io;obtain⟨r,zt,rfl,i0,iz⟩:=gf (show IsL K H (os.map pairD++[pairD (J,x)]) zs from io);obtain⟨hx,y,O,c,k,m,et⟩:=oo (J,x) (by simp);have hhl:J < ls.length:=(dJ.mp et).1;obtain⟨tp,ps,rfl,M,ip⟩:=iz.bo;obtain⟨r1,rfl,ip1⟩:=fT ip;obtain⟨r2,rfl,ip2⟩:=fT ip1;cases ip2.nil_inv;have M:bu K H tp [.int (J:Int),.int (x:Int)]:=M;have lx:=bM il;refine⟨_,rfl,.inl ⟨rfl,_,bp.of eo⟩,po,_,.ref tp,rfl,rfl,eo,by simp,?_⟩;rw[List.dropLast_concat];have t1:=bK.lst (ys:=r) eo;have hp1:=t1.sq M;have B:upd H po (.lst r) pl=some (.lst xs):=by rw[aw b]; exact el
 have eo1:upd H po (.lst r) po=some (.lst r):=ae;have il1:=il.mono t1;have T:=i0.mono t1;have b1:eD pl po H (upd H po (.lst r)):=.Hq;generalize upd H po (.lst r)=H1 at hp1 B eo1 il1 T b1;refine⟨tp,_,rfl,hp1,rfl,_,_,rfl,_,_,rfl,rfl,?_⟩;obtain⟨a,hwv,ew⟩:=CO rest;refine⟨_,rfl,.inl ⟨rfl,_,bp.of B⟩,_,rfl,_,rfl,_,rfl,bJ rfl,fun p1 np1=>?_⟩;have u1:=ah np1 (.lst [.int 1,.int 1,.int (-1),.int 2]);refine⟨_,rfl,_,_,rfl,rfl,(by decide:(0:Int) < 4),p1,_,_,_,rfl,rfl,bp.of ae,ew,_,rfl,bJ rfl,fun I ntn=>?_⟩;have u2:=ah ntn (.tup [.str "set",.int (x:Int),.int (x:Int),.int a,.int (J:Int)]);have U:=u1.trans u2;have etn:upd (upd H1 p1 (.lst [.int 1,.int 1,.int (-1),.int 2])) I (.tup [.str "set",.int (x:Int),.int (x:Int),.int a,.int (J:Int)]) I=some (.tup [.str "set",.int (x:Int),.int (x:Int),.int a,.int (J:Int)]):=ae;have L:=U _ _ B;have eo2:=U _ _ eo1;have il2:=il1.mono U.aA;have i02:=T.mono U.aA;have b2:=b1.trans (.of U);refine⟨pl,xs,_,rfl,rfl,L,aN (by lia),?_⟩;generalize upd (upd H1 p1 (.lst [.int 1,.int 1,.int (-1),.int 2])) I (.tup [.str "set",.int (x:Int),.int (x:Int),.int a,.int (J:Int)])=H2 at etn L eo2 il2 i02 b2;have t3:=bK.lst (ys:=xs++[.ref I]) L;have isn:Is K (upd H2 pl (.lst (xs++[.ref I]))) (Ln.deed (.set x (some x) a) J).D (.ref I):=(show Is K H2 (Ln.deed (.set x (some x) a) J).D (.ref I) from aX (bu.of etn) (af bq (af aH (af aH (af aH (af aH aq)))))).mono t3;have t:IsL K (upd H2 pl (.lst (xs++[.ref I]))) ((ls++[Ln.deed (.set x (some x) a) J]).map Ln.D) (xs++[.ref I]):=by
  rw[dH];exact IsL.append (il2.mono t3) (af isn aq)
 have g:upd H2 pl (.lst (xs++[.ref I])) pl=some (.lst (xs++[.ref I])):=ae;have R:upd H2 pl (.lst (xs++[.ref I])) po=some (.lst r):=by rw[aw (Ne.symm b)]; exact eo2
 have N:=i02.mono t3;have b3:eD pl po H (upd H2 pl (.lst (xs++[.ref I]))):=b2.trans .zS;generalize upd H2 pl (.lst (xs++[.ref I]))=H3 at t g R N b3;have et':(ls++[Ln.deed (.set x (some x) a) J])[J]?=some (.test y O c k m):=by rw[xB hhl]; exact et
 obtain⟨vl,evl,ivl⟩:=t.get (j:=J) (d:=(Ln.test y O c k m).D) (by rw[g6,et']; rfl);obtain⟨tl,vs,rfl,hq,ia⟩:=mI ivl;obtain⟨q1,rfl,j1⟩:=nH ia;obtain⟨q2,rfl,j2⟩:=nH j1;obtain⟨q3,rfl,j3⟩:=fT j2;obtain⟨q4,rfl,j4⟩:=fT j3;obtain⟨q5,rfl,j5⟩:=fT j4;cases j5.nil_inv;refine⟨_,rfl,_,rfl,pl,_,_,_,rfl,rfl,bp.of g,eR evl,_,rfl,tl,_,rfl,hq,fun p5 H5 s5 u=>?_⟩;have u:bu K H5 p5 [.str "test",aV y,aV O,.int c,.int (k:Int)]:=by
  have e5:=fV (xs:=[V.str "test",aV y,aV O,.int c,.int (k:Int),.int (m:Int)]) (v:=5) (m:=5) rfl (by simp);have e6:[V.str "test",aV y,aV O,.int c,.int (k:Int),.int (m:Int)].take 5=[V.str "test",aV y,aV O,.int c,.int (k:Int)]:=rfl;rw[<-e6,<-e5]; exact u
 have el5:=s5 _ _ g;refine⟨_,rfl,pl,_,rfl,.inl (bp.of el5),bJ rfl,fun t6 n6=>?_⟩;have u6:=ah n6 (.tup [.int ((xs++[V.ref I]).length:Int)]);refine⟨p5,t6,_,_,rfl,rfl,u6.aA.sq u,bu.of ae,by simp,small (by simp),fun z=>absurd z (by simp),fun _ p7 n7=>?_⟩;have u7:=ah n7 (.tup ([.str "test",aV y,aV O,.int c,.int (k:Int)]++[.int ((xs++[V.ref I]).length:Int)]));have Z:=s5.trans (u6.trans u7);have C:=Z _ _ g;have S:=Z _ _ R;have W:=t.mono Z.aA;have i07:=N.mono Z.aA;have b7:=b3.trans (.of Z);have Y:Is K (upd (upd H5 t6 (.tup [.int ((xs++[V.ref I]).length:Int)])) p7 (.tup ([.str "test",aV y,aV O,.int c,.int (k:Int)]++[.int ((xs++[V.ref I]).length:Int)]))) (Ln.test y O c k (ls.length + 1)).D (.ref p7):=
  aX (bu.of ae) (af bq (af (eF y) (af (eF O) (af aH (af aH (af (bz (by rw[dE,nv]; lia)) aq))))))
 generalize upd (upd H5 t6 (.tup [.int ((xs++[V.ref I]).length:Int)])) p7 (.tup ([.str "test",aV y,aV O,.int c,.int (k:Int)]++[.int ((xs++[V.ref I]).length:Int)]))=H7 at C S W i07 b7 Y;refine⟨_,rfl,_,rfl,pl,_,_,J,rfl,rfl,C,CP (by rw[dE,nv]; lia),?_⟩;have t8:=bK.lst (ys:=(xs++[V.ref I]).set J (.ref p7)) C;refine q _ ((ls++[Ln.deed (.set x (some x) a) J]).set J (.test y O c k (ls.length + 1))) (b7.trans .zS) (by rw[List.length_set,dE,nv]) ⟨⟨_,ae,?_⟩,⟨r,by rw[aw (Ne.symm b)]; exact S,i07.mono t8⟩,b,fun l o=>?_,fun p M=>?_⟩
 ·rw[List.map_set];exact wA (Y.mono t8) J (W.mono t8)
 ·rcases List.mem_or_eq_of_mem_set o with o | rfl
  ·rcases fY.mp o with o | o
   ·exact ok l o
   ·rw[fS.mp o];exact⟨⟨⟨hx,hx⟩,by lia⟩,hwv⟩
  ·have:=ok _ (oY et);exact⟨⟨this.1.1,this.1.2.1,this.1.2.2.1,by lia⟩,this.2⟩
 ·obtain⟨h1,y2,w2,c2,k2,m2,e2⟩:=oo p (uj _ M);refine⟨h1,?_⟩;have hpl:p.1 < ls.length:=(dJ.mp e2).1;by_cases e:J=p.1
  ·exact⟨_,_,_,_,_,by rw[<-e,List.getElem?_set_self (by rw[dE,nv]; lia)]⟩
  ·exact⟨_,_,_,_,_,by rw[List.getElem?_set_ne e,xB hpl]; exact e2⟩
abbrev bZ:Stmt:=top 21
abbrev iB:Stmt:=top 20
theorem cR:aW qL ji (av bZ):=by walk_at "k"
theorem fZ:aW qN ji (av iB):=by walk_at "k"
def D5(c:Nat × Bd):D:=.tup [.int (c.1:Int),c.2.D]
def gK(cs:List Nat)(ss:List Bd):List (Nat × Bd):=cs.flatMap fun k=>ss.map fun b=>(k,b)
inductive Gn(K:aL)(vs:List V)(H:Hp)(Q:VK)(E:XK):Prop|m(tp al:Addr)(nm rw:Nat)(ls:List Ln)(_:vs=[.ref tp])(_:ja K H tp al nm rw ls)(_:∀ (H':Hp) (p:Addr) (xs:List V) (ss:List Bd),aB H H'->H' p=some (.lst xs)->H p=none->IsL K H' (ss.map Bd.D) xs->tw ss (gb nm rw ls)->ss.length<=8000->Q (.ref p) H')
inductive oU(K:aL)(vs:List V)(H:Hp)(Q:VK)(E:XK):Prop|m(tp al:Addr)(nm rw:Nat)(ls:List Ln)(_:vs=[.ref tp])(_:ja K H tp al nm rw ls)(_:∀ (H':Hp) (p:Addr) (xs:List V) (rs:List Nat) (ss:List Bd),aB H H'->H' p=some (.lst xs)->H p=none->d4 ls rs->tw ss (gb nm rw ls)->IsL K H' (((gK (cO ls rs) ss).map D5).take 400) xs->Q (.ref p) H')
theorem pX{rw:Nat}(h:l.Ok nm rw nl):l.uV.length<=100:=by
 cases l with
 | deed d m=>
  cases d with
  | set x y c=>
   cases y with
   | none=>exact bJ rfl
   | some y=>exact bJ rfl
  | _=>exact bJ rfl
 | test y u c I J=>exact bJ rfl
 | ask bs I J=>exact h.2.1.2
 | stop=>exact bJ rfl
theorem lh{α β:Type}{f:α->List β}{m:Nat}:∀ {l:List α},(∀ x∈l,(f x).length<=m)->(l.flatMap f).length<=m * l.length
 | [],_=>dI _
 | x::l,h=>by
  have:=lh (l:=l) fun y I=>h y (jd _ I)
  have:=h x gC;rw[List.flatMap_cons,dE,jU,Nat.mul_add]; lia
theorem kB{rw:Nat}(hn:nm<=6)(hr:rw<=3):(dB (aC nm rw)).length<=200:=by
 have I:=gW nm rw
 have:=fu (f:=kh (aC nm rw)) (m:=20) (fun x=>by
  have:=fu (f:=eM x) (m:=2) (gF x) (aC nm rw)
  unfold kh; lia) (aC nm rw)
 unfold dB
 lia
theorem se{K:aL}{b:Addr}{k:List L2.D}(h:kM K H b k)(t:bK H H'):kM K H' b k:=⟨eK.mono (fun _ _ h=>h) t.1 h.1,h.2⟩
theorem kl(xs:List V)(m:Nat):dw xs none (some (m:Int))=xs.take m:=by
 unfold dw;rw[HT.jD,HT.jT,List.drop_zero,Nat.sub_zero];by_cases h:m<=xs.length
 ·rw[Nat.min_eq_left h]
 ·rw[Nat.min_eq_right (by lia),yE (bH _),yE (by lia)]
theorem DY{k:Nat}(e:H t=some (.tup [.int (k:Int),v]))(h:Is K H q.D v):Is K H (D5 (k,q)) (.ref t):=aX (bu.of e) (af aH (af h aq))
theorem jJ(F:fL K "guessed_bounds" "guessed_bounds" bZ f fd)(m_sorted:mg "sorted" = none)(m_dict:mg "dict" = none)(c_bounds_between:Cl P w K mg base "bounds_between" n ji (ou K))(c_line_bounds:Cl P w K mg base "line_bounds" n ["line","now"] (wI K))(c_first_versions:Cl P w K mg base "first_versions" n ji (wX K)) :
  b9 P w K mg base fM (n + 1) f fd ji (Gn K):=by
 refine F.ok cR (by walk_at "l") (fun cdv A outer s H vs Q E hr h=>?_);obtain⟨tp,al,nm,rw,ls,rfl,k,q⟩:=h;have hnm:=k.ok.hn;have hrw:=k.ok.hr;have l1:=k.ok.l1;have G:(A.deeper (envOfC "guessed_bounds" (av bZ) s.heap.objs.size f cdv)).units + 9 < cLine:=by have:=hr.units; lia
 have hu8:(A.deeper (envOfC "guessed_bounds" (av bZ) s.heap.objs.size f cdv)).units + 1 + 9 < cLine:=by have:=hr.units; lia
 refine⟨_,(@ak _ _ _ _ _ (ba (i:=1) cR.nd (aY c_bounds_between hr rfl (aa (pv 0) aj)))
   (@ak _ _ _ _ _ (dg qW rfl (cM (aU a9 (pv 0) ag)) (aG (i:=2) cR.nd rfl (Or.inl rfl)) (au (bP (dy nB PySem.F.slot_list_extend PySem.F.type_list_extend j6 (pv 1) (aa (aY c_line_bounds hr rfl (aa (pv 2) (aa (aY c_first_versions hr rfl (aa (pv 0) aj)) aj))) aj)))))
   (@ak _ _ _ _ _ (ba (i:=3) cR.nd (bE (tX rfl G) rfl m_dict PyProof.Rows.boot_dict (aa (cA qI rfl (cT (N:=qL) (so:=av bZ) rfl rfl (by decide +kernel)) (cM (pv 1)) (fun _ _ _ _ _ _=>(aG (i:=0) (show List.Nodup (α:=Str) ["bound","program","bounds","line","each_once"] by decide +kernel) rfl (Or.inl rfl) (Or.inr rfl))) (fun _ _ _ _ _ _=>(jI (aF (wV (K:=K) (n:=9) rfl hu8) (aU (lj (K:=K) rfl) (pv 0) ag) (aU (lj (K:=K) rfl) (pv 0) ag)))) (fun _ _ _ _ _ _=>(aE (aa (pv 0) (aa qZ aj))))) aj)))
   (au (aQ (bh (px rfl G) rfl m_sorted PyProof.Rows.boot_sorted (aa (pv 3) aj))))))),?_⟩
 refine⟨_,rfl,tp,al,nm,rw,ls,rfl,k,fun H1 pb M s1 eb1 nb ib1=>?_⟩;obtain⟨xl,T,il⟩:=k.l;have lxl:xl.length=ls.length:=bM il;have lbt:=kB hnm hrw;refine⟨_,rfl,tp,_,2,_,rfl,rfl,(k.same s1).t,at2 _ _ _ _,al,rfl,⟨_,s1.seq T⟩,?_⟩;refine d9 (xs:=xl) (fun j σ H'=>aB H H'/\∃ O y2,H' pb=some (.lst O)/\IsL K H' ((dB (aC nm rw)++(ls.take j).flatMap Ln.uV).map Bd.D) O/\σ=[some (.ref tp),some (.ref pb),y2,none])
  ⟨s1,M,_,eb1,by rw[BG,List.flatMap_nil,jL]; exact ib1,rfl⟩ (fun j σ H' _ h=>h.1.seq T) (fun j y σ H2 S h=>?_) (fun σ H2 h=>?_)
 ·obtain⟨s2,c,y2,g,J,rfl⟩:=h;have hj:j < ls.length:=by have:=(dJ.mp S).1; lia
  have eA:=cL hj;obtain⟨y',Z,v⟩:=il.get (j:=j) (d:=ls[j].D) (by rw[g6,eA]; rfl);rw[S]at Z; cases Z;have okl:=k.ok.ok _ (wN hj);refine⟨_,rfl,.inl ⟨rfl,_,bp.of g⟩,_,rfl,_,rfl,tp,nm,_,rfl,(k.same s2).t,by lia,fun H3 pn r en nn=>?_⟩;refine⟨ls[j],y,pn,nm,rw,ls.length,rfl,v.mono (s2.trans r).aA,okl,bp.of en,fun H4 pf fs s4 ef nf if4=>?_⟩;have C:=r.trans s4;have eb4:=C _ _ g;have la:=J.length;have lf:=if4.length;have hl:=pX okl;have lt:=lh (l:=ls.take j) (f:=Ln.uV) (m:=100) fun x p=>pX (k.ok.ok x (List.mem_of_mem_take p))
  rw[bL,dE]at la;rw[bL]at lf;rw[gx]at lt;refine⟨pb,pf,c,fs,rfl,rfl,eb4,ef,(by rw[mP]; lia),aB.new (s2.trans C) nb,c++fs,_,ae,?_,rfl⟩;have tl:=bK.lst (ys:=c++fs) eb4;rw[gj eA,<-iD,dH];exact IsL.append ((J.mono C.aA).mono tl) (if4.mono tl)
 obtain⟨s2,O,y2,g,J,rfl⟩:=h;rw[lxl,mw]at J;change IsL K H2 ((iJ nm rw ls).map Bd.D) O at J;have hraw:(iJ nm rw ls).length<=7200:=by
  have:=lh (l:=ls) (f:=Ln.uV) (m:=100) fun x p=>pX (k.ok.ok x p)
  unfold iJ;rw[dE]; lia
 have lacc:O.length=(iJ nm rw ls).length:=by have:=J.length; rw[bL]at this; exact this.symm
 refine⟨_,rfl,pb,rfl,⟨_,bp.of g⟩,fun pc W=>?_⟩;refine eU (xs:=O) (fun i H'=>aB H2 H'/\∃ ps:List PN,H' pc=some (.lst (ps.map fun t=>.ref t.1))/\(∀ t∈ps,H' t.1=some (.tup [.ref t.2.1,t.2.2.2])/\kM K H' t.2.1 t.2.2.1)/\ps.map (·.2.2.1)=(((iJ nm rw ls).take i).filter Bd.un).map Bd.key)
  ⟨ah W _,[],ae,fun _ h=>absurd h gh,rfl⟩ (fun i H' _ h=>bp.of (h.1 _ _ g)) (fun i y H3 S h=>?_) (fun H3 h=>?_)
 ·obtain⟨r,ps,Y,o,I⟩:=h;have hi:i < (iJ nm rw ls).length:=by have:=(dJ.mp S).1; lia
  have eA:=cL hi;obtain⟨y',Z,v⟩:=J.get (j:=i) (d:=(iJ nm rw ls)[i].D) (by rw[g6,eA]; rfl);rw[S]at Z; cases Z;have lps:ps.length<=i:=by
   have:=pq List.length I;rw[bL,bL]at this;have h2:=Bp Bd.un ((iJ nm rw ls).take i);rw[gx]at h2
   lia
  have et:(((iJ nm rw ls).take (i + 1)).filter Bd.un)=(((iJ nm rw ls).take i).filter Bd.un)++(if (iJ nm rw ls)[i].un then [(iJ nm rw ls)[i]] else []):=by
   rw[kX,eA,DS];congr 1;show List.filter _ [_]=_;rw[Fh];rfl
  rw[et];generalize (iJ nm rw ls)[i]=U at v;replace v:=v.mono r.aA;obtain⟨a,va,vb,rfl,L,ia,ibb⟩:=tZ v;have dq:D.cy (.str U.a.word::U.a.args) < 9:=by
   cases U.a <;> (simp only[Nd.args,bT,dF,jO,fF]; decide)
  refine⟨⟨[some (.ref a)],rfl,rfl⟩,_,rfl,a,_,0,_,rfl,rfl,L,gQ _ _,_,rfl,a,_,1,_,rfl,rfl,L,yP _ _ _,(.str U.a.word::U.a.args),(.str U.b.word::U.b.args),ia,ibb,dq,U.un,rfl,?_⟩;dsimp only;by_cases hc:U.un=true
  ·rw[if_pos hc,if_pos hc];refine⟨_,rfl,bJ rfl,fun t nt=>?_⟩;have u:=ah nt (.tup [.ref a,.bl true]);have B:=u _ _ Y;obtain⟨a',ea',ky⟩:=DF v;cases ea';have tl:=bK.lst (ys:=(ps.map fun t=>V.ref t.1)++[.ref t]) B;refine⟨_,B,(by rw[mP,bL]; lia),aB.new (r.trans u) W,ps++[(t,a,U.key,.bl true)],by rw[ae,dH]; rfl,fun x p=>?_,by rw[dH,I,dH]; rfl⟩;rcases fY.mp p with p | p
   ·have h:=o x p;exact⟨by rw[aw (fQ (u _ _ h.1) B (by intro z; cases z))]; exact u _ _ h.1,se h.2 (u.aA.trans tl)⟩
   ·rw[fS.mp p];exact⟨by rw[aw (gH Y nt).symm]; exact ae,se ky (u.aA.trans tl)⟩
  ·rw[if_neg hc,if_neg hc,jL];exact⟨r,ps,Y,o,I⟩
 obtain⟨r,ps,Y,o,I⟩:=h;rw[lacc,mw]at I;change ps.map (·.2.2.1)=(gb nm rw ls).map Bd.key at I;have R:=s2.trans r;refine⟨pc,ps,rfl,Y,o,fun pd zs npd hz=>?_⟩;have u4:=ah npd (.dN zs (f9 (ps.map (·.2.2))));have hm:∀ x,x∈(f9 (ps.map (·.2.2))).map (·.1)↔x∈(gb nm rw ls).map Bd.key:=fun x=>by
  rw[mem_merge,<-I,List.map_map]; rfl
 refine⟨_,rfl,pd,_,rfl,⟨zs,.inl ae,hz.1,hz.2⟩,fun kv hkv=>?_,fun l bs ks nl hb hp up=>?_⟩
 ·obtain⟨U,_,e⟩:=eW.mp ((hm kv.1).mp (eW.mpr ⟨kv,hkv,rfl⟩));rw[<-e]; exact key_is U
 have hlk:ks.length<=(gb nm rw ls).length:=by
  have h1:=pq List.length I;have h2:=iO (ps.map (·.2.2));have h3:=hp.length_eq;simp only[bL]at h1 h2 h3
  lia
 obtain⟨ss,rfl,sr⟩:=yW (fun x=>by rw[hp.mem_iff]; exact hm x) hlk up;have u5:=ah nl (.lst (bs.map V.ref));refine q _ l _ ss (R.trans (u4.trans u5)) ae (aD (R.trans u4) nl) ((qm hb).mono u5.aA) sr ?_;have:=sr.len;have h2:=Bp Bd.un (iJ nm rw ls);unfold gb at this
 lia
theorem mB{cs:List Nat}{k:Nat}(h:cs[j]?=some k):gK (cs.take (j + 1)) ss=gK (cs.take j) ss++ss.map fun b=>(k,b):=gj h
theorem uB{tk:Tok}(F:fL K "guesses" "guesses" iB f fd)(m_MOST_GUESSES:mg "MOST_GUESSES" = some (.int 400 tk))(c_guessed_bounds:Cl P w K mg base "guessed_bounds" n ji (Gn K))(c_cuts:Cl P w K mg base "cuts" n ji (vp K)) :
  b9 P w K mg base fM (n + 1) f fd ji (oU K):=by
 refine F.ok fZ (by walk_at "l") (fun cdv A outer s H vs Q E hr h=>?_);obtain⟨tp,al,nm,rw,ls,rfl,x,q⟩:=h;have l1:=x.ok.l1
 refine⟨_,(@ak _ _ _ _ _ (ba (i:=1) fZ.nd (aY c_guessed_bounds hr rfl (aa (pv 0) aj)))
   (@ak _ _ _ _ _ (ba (i:=2) fZ.nd (br aj))
   (@ak _ _ _ _ _ (dg qW rfl (cM (aY c_cuts hr rfl (aa (pv 0) aj))) (aG (i:=3) fZ.nd rfl (Or.inr rfl)) (au (bP (dy nB PySem.F.slot_list_extend PySem.F.type_list_extend j6 (pv 2) (aa (cA qI rfl (cT (N:=qN) (so:=av iB) rfl rfl (by decide +kernel)) (cM (pv 1)) (fun _ _ _ _ _ _=>(aG (i:=0) (show List.Nodup (α:=Str) ["bound","program","bounds","found","line"] by decide +kernel) rfl (Or.inl rfl) (Or.inr rfl))) (fun _ _ _ _ _ _=>cD) (fun _ _ _ _ _ _=>(aE (aa (pv 4) (aa (pv 0) aj))))) aj)))))
   (au (aQ (cJ jn (pv 2) d6 (cQ (ju rfl m_MOST_GUESSES (v:=.int 400) ⟨_,rfl⟩)))))))),?_⟩
 refine⟨_,rfl,tp,al,nm,rw,ls,rfl,x,fun H1 pg xg ss s1 Y ng ig sr B=>⟨bJ rfl,fun pf Z=>?_⟩⟩;have W:xg.length=ss.length:=by have:=ig.length; rw[bL]at this; exact this.symm
 have G:=ah Z (.lst []);have V:upd H1 pf (.lst []) pf=some (.lst []):=ae;have npf0:=aD s1 Z;generalize upd H1 pf (.lst [])=H2 at G V;refine⟨_,rfl,tp,al,nm,rw,ls,rfl,x.same (s1.trans G),fun H3 M rs s3 R ec nc=>⟨M,rfl,⟨_,bp.of ec⟩,?_⟩⟩;have L:pf≠M:=gH V nc;have hcl:(cO ls rs).length<=70:=by
  have h1:=Bp (fun k=>nu k (lead ls rs k)) rs;have h2:rs.length<=ls.length:=fc R.nodup fun i hi=>((R.mem i).mp hi).lt x.ok
  unfold cO
  lia
 refine d9 (xs:=az (cO ls rs)) (fun j σ H'=>aB H1 H'/\H' M=some (.lst (az (cO ls rs)))/\∃ J S,H' pf=some (.lst J)/\IsL K H' ((gK ((cO ls rs).take j) ss).map D5) J/\σ=[some (.ref tp),some (.ref pg),some (.ref pf),S])
  ⟨G.trans s3,ec,[],_,s3 _ _ V,aq,rfl⟩ (fun j σ H' _ h=>bp.of h.2.1) (fun j y σ H4 g h=>?_) (fun σ H4 h=>?_)
 ·obtain⟨a,o,J,S,U,O,rfl⟩:=h;have hj:j < (cO ls rs).length:=by have:=(dJ.mp g).1; rw[bg]at this; exact this
  rw[dX hj]at g;cases g;have eA:=cL hj;generalize (cO ls rs)[j]=k at eA;rw[mB eA];have lg:=fu (f:=fun k=>ss.map fun b=>(k,b)) (m:=ss.length) (fun k=>by rw[bL]; exact bH _) ((cO ls rs).take j);have la:=O.length;rw[bL]at la;unfold gK at la;have lg2:ss.length * ((cO ls rs).take j).length<=8000 * 70:=Nat.mul_le_mul B (by rw[gx]; lia);refine⟨_,rfl,.inl ⟨rfl,_,bp.of U⟩,_,rfl,pg,rfl,⟨_,bp.of (a _ _ Y)⟩,fun p5 n5=>?_⟩;refine eU (xs:=xg) (fun i H'=>aB H4 H'/\∃ I,H' p5=some (.lst I)/\IsL K H' (((ss.take i).map fun b=>(k,b)).map D5) I) ⟨ah n5 _,[],ae,aq⟩ (fun i H' _ h=>bp.of (h.1 _ _ (a _ _ Y))) (fun i y H5 g h=>?_) (fun H5 h=>?_)
  ·obtain⟨c,I,C,e⟩:=h;have hi:i < ss.length:=by have:=(dJ.mp g).1; lia
   have z:=cL hi;obtain⟨y',p,iy⟩:=ig.get (j:=i) (d:=ss[i].D) (by rw[g6,z]; rfl);rw[g]at p; cases p;generalize ss[i]=qb at z iy;refine⟨⟨[some y],rfl,rfl⟩,bR ⟨_,rfl,_,rfl,bJ rfl,fun t nt=>?_⟩⟩;have u:=ah nt (.tup [.int (k:Int),y]);have e6:=u _ _ C;have T:=e.length;rw[bL,bL,gx]at T;refine⟨I,e6,(by rw[mP]; lia),aB.new (c.trans u) n5,I++[.ref t],ae,?_⟩;have tl:=bK.lst (ys:=I++[.ref t]) e6;rw[kX,z,B1,dH,dH];exact IsL.append ((e.mono u.aA).mono tl) (af ((DY ae (iy.mono (a.trans (c.trans u)).aA)).mono tl) aq)
  ·obtain⟨c,I,C,e⟩:=h;rw[W,mw]at e;have T:=e.length;rw[bL,bL]at T;have r:=c _ _ U;refine⟨pf,p5,J,I,rfl,rfl,r,C,(by rw[mP]; lia),aB.new (a.trans c) Z,by rw[aw (Ne.symm L)]; exact c _ _ o,J++I,_,ae,?_,rfl⟩;have tl:=bK.lst (ys:=J++I) r;rw[dH];exact IsL.append ((O.mono c.aA).mono tl) (e.mono tl)
 obtain⟨a,o,J,S,U,O,rfl⟩:=h;rw[bg,mw]at O;refine⟨_,rfl,_,rfl,pf,J,rfl,bp.of U,fun l nl=>?_⟩;rw[show dw J none (some 400)=J.take 400 from kl J 400];have u5:=ah nl (.lst (J.take 400));exact q _ l _ rs ss (s1.trans (a.trans u5)) ae (aD (s1.trans a) nl) R sr (jo 400 (O.mono u5.aA))
abbrev gU:Stmt:=top 35
abbrev qt:Stmt:=top 36
theorem mH:aW Jf qM (av gU):=by walk_at "k"
theorem me:aW ["_law_number","_law_many","_law_names","_law_goal","_law_c_here"] Ig (av qt):=by walk_at "k"
def f7(last:Nat):Ln->Ln
 | .deed d k=>.deed d (min k last)
 | .test y u c k m=>.test y u c (min k last) (min m last)
 | .ask bs k m=>.ask bs (min k last) (min m last)
 | .stop=>.stop
theorem Bh{last rw:Nat}(h:xA nm rw nl l)(hl:last < nl'):xA nm rw nl' (f7 last l):=by
 obtain⟨h1,h2⟩:=h;cases l with
 | deed d k=>exact⟨⟨h1.1,Ar (BB _ _) hl⟩,by cases d <;> exact h2⟩
 | test y u c k m=>exact⟨⟨h1.1,h1.2.1,Ar (BB _ _) hl,Ar (BB _ _) hl⟩,h2⟩
 | ask bs k m=>exact⟨⟨h1.1,h1.2.1,Ar (BB _ _) hl,Ar (BB _ _) hl⟩,h2⟩
 | stop=>exact⟨trivial,trivial⟩
inductive nY(K:aL)(vs:List V)(H:Hp)(Q:VK)(E:XK):Prop|m(v:V)(l:Ln)(last:Nat)(_:vs=[v,.int (last:Int)])(_:Is K H l.D v)(_:∀ (l':Ln) (v':V) (H':Hp),aB H H'->Is K H' (f7 last l).D v'->Q v' H')
theorem ud(F:fL K "_law_clamped" "_law_clamped" gU f fd)(m_len:mg "len" = none)(m_tuple:mg "tuple" = none)(m_min:mg "min" = none)(m_int:mg "int" = none):b9 P w K mg base fM (n + 1) f fd qM (nY K):=by
 refine F.ok mH (by walk_at "l") (fun cdv A outer s H vs Q E hr h=>?_);obtain⟨v,l,last,rfl,iv,q⟩:=h;replace q:=q .stop
 refine⟨_,(@ak _ _ _ _ _ (ck (aF cm (aU a9 (pv 0) ag) a8) (au (aQ (pv 0))) bw)
   (@ak _ _ _ _ _ (ba (i:=2) mH.nd (ao bj ag (bE dv rfl m_int DT (aa (cN nV (aU a9 (pv 0) ag) (aE (eV rfl)) (by with_unfolding_all rfl)) aj))))
   (au (aQ (ao pO (cJ jy (pv 0) d6 (cQ (ao gg (bh bf rfl m_len tQ (aa (pv 0) aj)) (pv 2)))) (bE d5 rfl m_tuple PyProof.Rows.boot_tuple (aa (cA ["_law_at"] rfl (cT (N:=Jf) (so:=av gU) rfl rfl (by decide +kernel)) (mQ (cJ jy (pv 0) (cQ (ao gg (bh bf rfl m_len tQ (aa (pv 0) aj)) (pv 2))) d6)) (fun _ _ _ _ _ _=>(aG (i:=0) (show List.Nodup (α:=Str) ["_law_at","_law_line","_law_last","_law_many"] by decide +kernel) rfl (Or.inl rfl) (Or.inr rfl))) (fun _ _ _ _ _ _=>cD) (fun _ _ _ _ _ _=>(bh (xT rfl) rfl m_min PyProof.Rows.boot_min (aa (pv 0) (aa (pv 2) aj))))) aj))))))),?_⟩
 have iv0:=iv;obtain⟨tl,vs,rfl,J,il⟩:=mI iv;refine⟨_,rfl,tl,_,0,_,rfl,rfl,J,gQ _ _,rfl,_,rfl,?_⟩;cases l with
 | stop=>exact lL ⟨_,rfl,q _ _ (aB.refl _) iv0⟩
 | deed d k=>
  refine cj (fun c=>by cases d <;> exact absurd (show false=true from c) eN) (fun _=>?_);refine⟨_,rfl,tl,_,0,_,rfl,rfl,J,gQ _ _,bJ rfl,fun G n2=>⟨G,_,rfl,.inr (bu.of ae),rfl,rfl,.inr ⟨_,rfl,_,_,rfl,rfl,?_⟩⟩⟩;have r:=ah n2 (.tup [.str "test",.str "ask"]);generalize upd H G (.tup [.str "test",.str "ask"])=H1 at r;obtain⟨us,z,rfl,iu,iz⟩:=gf (show IsL K H (d.args++[.int (k:Int)]) vs from il);cases iz.int_inv;have lu:us.length<=4:=by have:=iu.length; rw[<-this]; cases d <;> exact bJ rfl
  have ez:(if (if false=true then !By (V.str (Ln.deed d k).word) [V.str "test",V.str "ask"] else By (V.str (Ln.deed d k).word) [V.str "test",V.str "ask"])=true then (1:Int) else 0)=0:=by cases d <;> rfl
  have J:bu K H1 tl (V.str d.word::(us++az [k])):=r.aA.sq J;have b:(V.str d.word::(us++az [k])).length=us.length + 1 + 1:=by simp[az]
  refine⟨_,rfl,_,rfl,tl,_,rfl,.inr J,_,rfl,_,_,rfl,rfl,_,rfl,tl,_,rfl,J,fun p H2 s2 e=>?_⟩;have e:bu K H2 p (V.str d.word::us):=by
   have j:=fV (xs:=V.str d.word::(us++az [k])) (v:=((V.str d.word::(us++az [k])).length:Int) - (1 + (0:Int))) (m:=us.length + 1) (by rw[b]; lia) (by rw[b]; lia);have t:(V.str d.word::(us++az [k])).take (us.length + 1)=V.str d.word::us:=by rw[List.take_succ_cons,List.take_left']; rfl
   rw[<-t,<-j,<-ez]; exact e
  have O:=s2.aA.sq J;refine⟨_,rfl,_,rfl,tl,_,rfl,.inr O,_,rfl,_,_,rfl,rfl,_,rfl,tl,_,rfl,O,fun p3 C s3 I=>?_⟩;have I:bu K C p3 (az [k]):=by
   have j:=ik (xs:=V.str d.word::(us++az [k])) (v:=((V.str d.word::(us++az [k])).length:Int) - (1 + (0:Int))) (m:=us.length + 1) (by rw[b]; lia) (by rw[b]; lia);have t:(V.str d.word::(us++az [k])).drop (us.length + 1)=az [k]:=by rw[List.drop_succ_cons,List.drop_left']; rfl
   rw[<-t,<-j,<-ez]; exact I
  refine⟨p3,rfl,⟨_,I⟩,fun D U=>?_⟩;refine fR (xs:=az [k]) (fun i H'=>aB C H'/\H' D=some (.lst (az (([k].take i).map (min · last))))) ⟨ah U _,ae⟩ (fun i H' _ h=>h.1.aA.sq I) (fun i x H' ex h=>?_) (fun H4 h=>?_)
  ·obtain⟨o,a⟩:=h;have hi:i < [k].length:=by have:=(dJ.mp ex).1; rw[bg]at this; exact this
   rw[dX hi]at ex;cases ex;have B:=cL hi;generalize [k][i]=g at B;refine⟨⟨[some (.int (g:Int))],rfl,rfl⟩,bR ⟨_,rfl,_,rfl,_,_,rfl,_,a,aN (by rw[bg,bL,gx]; exact kC (BB _ _) (by simp)),aB.new o U,?_⟩⟩;have Y:(if (last:Int) < (g:Int) then (last:Int) else (g:Int))=((min g last:Nat):Int):=by split <;> lia
   rw[Y,ae,kX,B,dH];unfold az;rw[dH];rfl
  obtain⟨o,a⟩:=h;rw[bg,mw]at a;refine⟨D,_,rfl,.inl ⟨bp.of a,fun W R=>?_⟩⟩;have M:=ah R (.tup (az ([k].map (min · last))));have Z:=s3.trans (o.trans M);refine⟨p,W,_,_,rfl,rfl,Z.aA.sq e,bu.of ae,by simp,small (by simp[az]; lia),fun z=>absurd z (by simp[az]),fun _ p6 S=>?_⟩;have T:=ah S (.tup ((V.str d.word::us)++az ([k].map (min · last))));have L:=r.trans (s2.trans (Z.trans T));exact q _ _ L (aX (bu.of ae) (af bq (IsL.append (iu.mono L.aA) (af aH aq))))
 | test y u c k m=>
  refine eI ?_;refine⟨_,rfl,tl,_,0,_,rfl,rfl,J,gQ _ _,bJ rfl,fun G n2=>⟨G,_,rfl,.inr (bu.of ae),rfl,rfl,.inr ⟨_,rfl,_,_,rfl,rfl,?_⟩⟩⟩;have r:=ah n2 (.tup [.str "test",.str "ask"]);generalize upd H G (.tup [.str "test",.str "ask"])=H1 at r;obtain⟨r1,rfl,i1⟩:=nH il;obtain⟨r2,rfl,i2⟩:=nH i1;obtain⟨r3,rfl,i3⟩:=fT i2;obtain⟨r4,rfl,i4⟩:=fT i3;obtain⟨r5,rfl,i5⟩:=fT i4;cases i5.nil_inv;have J:bu K H1 tl (V.str "test"::([aV y,aV u,.int c]++az [k,m])):=r.aA.sq J;have b:(V.str "test"::([aV y,aV u,.int c]++az [k,m])).length=[aV y,aV u,.int c].length + 2 + 1:=by simp[az]
  refine⟨_,rfl,_,rfl,tl,_,rfl,.inr J,_,rfl,_,_,rfl,rfl,_,rfl,tl,_,rfl,J,fun p H2 s2 e=>?_⟩;have e:bu K H2 p (V.str "test"::[aV y,aV u,.int c]):=by
   have j:=fV (xs:=V.str "test"::([aV y,aV u,.int c]++az [k,m])) (v:=((V.str "test"::([aV y,aV u,.int c]++az [k,m])).length:Int) - (1 + 1)) (m:=[aV y,aV u,.int c].length + 1) (by rw[b]; lia) (by rw[b]; lia);have t:(V.str "test"::([aV y,aV u,.int c]++az [k,m])).take ([aV y,aV u,.int c].length + 1)=V.str "test"::[aV y,aV u,.int c]:=by rw[List.take_succ_cons,List.take_left']; rfl
   rw[<-t,<-j]; exact e
  have O:=s2.aA.sq J;refine⟨_,rfl,_,rfl,tl,_,rfl,.inr O,_,rfl,_,_,rfl,rfl,_,rfl,tl,_,rfl,O,fun p3 C s3 I=>?_⟩;have I:bu K C p3 (az [k,m]):=by
   have j:=ik (xs:=V.str "test"::([aV y,aV u,.int c]++az [k,m])) (v:=((V.str "test"::([aV y,aV u,.int c]++az [k,m])).length:Int) - (1 + 1)) (m:=[aV y,aV u,.int c].length + 1) (by rw[b]; lia) (by rw[b]; lia);have t:(V.str "test"::([aV y,aV u,.int c]++az [k,m])).drop ([aV y,aV u,.int c].length + 1)=az [k,m]:=by rw[List.drop_succ_cons,List.drop_left']; rfl
   rw[<-t,<-j]; exact I
  refine⟨p3,rfl,⟨_,I⟩,fun D U=>?_⟩;refine fR (xs:=az [k,m]) (fun i H'=>aB C H'/\H' D=some (.lst (az (([k,m].take i).map (min · last))))) ⟨ah U _,ae⟩ (fun i H' _ h=>h.1.aA.sq I) (fun i x H' ex h=>?_) (fun H4 h=>?_)
  ·obtain⟨o,a⟩:=h;have hi:i < [k,m].length:=by have:=(dJ.mp ex).1; rw[bg]at this; exact this
   rw[dX hi]at ex;cases ex;have B:=cL hi;generalize [k,m][i]=g at B;refine⟨⟨[some (.int (g:Int))],rfl,rfl⟩,bR ⟨_,rfl,_,rfl,_,_,rfl,_,a,aN (by rw[bg,bL,gx]; exact kC (BB _ _) (by simp)),aB.new o U,?_⟩⟩;have Y:(if (last:Int) < (g:Int) then (last:Int) else (g:Int))=((min g last:Nat):Int):=by split <;> lia
   rw[Y,ae,kX,B,dH];unfold az;rw[dH];rfl
  obtain⟨o,a⟩:=h;rw[bg,mw]at a;refine⟨D,_,rfl,.inl ⟨bp.of a,fun W R=>?_⟩⟩;have M:=ah R (.tup (az ([k,m].map (min · last))));have Z:=s3.trans (o.trans M);refine⟨p,W,_,_,rfl,rfl,Z.aA.sq e,bu.of ae,by simp,small (by simp[az]),fun z=>absurd z (by simp[az]),fun _ p6 S=>?_⟩;have T:=ah S (.tup ((V.str "test"::[aV y,aV u,.int c])++az ([k,m].map (min · last))));have L:=r.trans (s2.trans (Z.trans T));exact q _ _ L (aX (bu.of ae) (af bq (af (eF _) (af (eF _) (af aH (af aH (af aH aq)))))))
 | ask bs k m=>
  refine eI ?_;refine⟨_,rfl,tl,_,0,_,rfl,rfl,J,gQ _ _,bJ rfl,fun G n2=>⟨G,_,rfl,.inr (bu.of ae),rfl,rfl,.inr ⟨_,rfl,_,_,rfl,rfl,?_⟩⟩⟩;have r:=ah n2 (.tup [.str "test",.str "ask"]);generalize upd H G (.tup [.str "test",.str "ask"])=H1 at r;obtain⟨vb,r1,rfl,ib,i1⟩:=uq il;obtain⟨r4,rfl,i4⟩:=fT i1;obtain⟨r5,rfl,i5⟩:=fT i4;cases i5.nil_inv;have J:bu K H1 tl (V.str "ask"::([vb]++az [k,m])):=r.aA.sq J;have b:(V.str "ask"::([vb]++az [k,m])).length=[vb].length + 2 + 1:=by simp[az]
  refine⟨_,rfl,_,rfl,tl,_,rfl,.inr J,_,rfl,_,_,rfl,rfl,_,rfl,tl,_,rfl,J,fun p H2 s2 e=>?_⟩;have e:bu K H2 p (V.str "ask"::[vb]):=by
   have j:=fV (xs:=V.str "ask"::([vb]++az [k,m])) (v:=((V.str "ask"::([vb]++az [k,m])).length:Int) - (1 + 1)) (m:=[vb].length + 1) (by rw[b]; lia) (by rw[b]; lia);have t:(V.str "ask"::([vb]++az [k,m])).take ([vb].length + 1)=V.str "ask"::[vb]:=by rw[List.take_succ_cons,List.take_left']; rfl
   rw[<-t,<-j]; exact e
  have O:=s2.aA.sq J;refine⟨_,rfl,_,rfl,tl,_,rfl,.inr O,_,rfl,_,_,rfl,rfl,_,rfl,tl,_,rfl,O,fun p3 C s3 I=>?_⟩;have I:bu K C p3 (az [k,m]):=by
   have j:=ik (xs:=V.str "ask"::([vb]++az [k,m])) (v:=((V.str "ask"::([vb]++az [k,m])).length:Int) - (1 + 1)) (m:=[vb].length + 1) (by rw[b]; lia) (by rw[b]; lia);have t:(V.str "ask"::([vb]++az [k,m])).drop ([vb].length + 1)=az [k,m]:=by rw[List.drop_succ_cons,List.drop_left']; rfl
   rw[<-t,<-j]; exact I
  refine⟨p3,rfl,⟨_,I⟩,fun D U=>?_⟩;refine fR (xs:=az [k,m]) (fun i H'=>aB C H'/\H' D=some (.lst (az (([k,m].take i).map (min · last))))) ⟨ah U _,ae⟩ (fun i H' _ h=>h.1.aA.sq I) (fun i x H' ex h=>?_) (fun H4 h=>?_)
  ·obtain⟨o,a⟩:=h;have hi:i < [k,m].length:=by have:=(dJ.mp ex).1; rw[bg]at this; exact this
   rw[dX hi]at ex;cases ex;have B:=cL hi;generalize [k,m][i]=g at B;refine⟨⟨[some (.int (g:Int))],rfl,rfl⟩,bR ⟨_,rfl,_,rfl,_,_,rfl,_,a,aN (by rw[bg,bL,gx]; exact kC (BB _ _) (by simp)),aB.new o U,?_⟩⟩;have Y:(if (last:Int) < (g:Int) then (last:Int) else (g:Int))=((min g last:Nat):Int):=by split <;> lia
   rw[Y,ae,kX,B,dH];unfold az;rw[dH];rfl
  obtain⟨o,a⟩:=h;rw[bg,mw]at a;refine⟨D,_,rfl,.inl ⟨bp.of a,fun W R=>?_⟩⟩;have M:=ah R (.tup (az ([k,m].map (min · last))));have Z:=s3.trans (o.trans M);refine⟨p,W,_,_,rfl,rfl,Z.aA.sq e,bu.of ae,by simp,small (by simp[az]),fun z=>absurd z (by simp[az]),fun _ p6 S=>?_⟩;have T:=ah S (.tup ((V.str "ask"::[vb])++az ([k,m].map (min · last))));have L:=r.trans (s2.trans (Z.trans T));exact q _ _ L (aX (bu.of ae) (af bq (af (ib.mono L.aA) (af aH (af aH aq)))))
inductive wd(K:aL)(vs:List V)(H:Hp)(Q:VK)(E:XK):Prop|m(c:Int)(many nm rw:Nat)(_:vs=[.int c,.int (many:Int),.int (nm:Int)])(_:0 < many)(_:∀ (l:Ln) (v:V) (H':Hp),xA nm rw many l->aB H H'->Is K H' l.D v->Q v H')
theorem AV(F:fL K "_law_apart" "_law_apart" qt f fd)(c_law_c:Cl P w K mg base "_law_c" n EY Gk):b9 P w K mg base fM (n + 1) f fd Ig (wd K):=by
 refine F.ok me (by walk_at "l") (fun cdv A outer s H vs Q E hr h=>?_);obtain⟨c,U,nm,rw,rfl,hm,q⟩:=h
 refine⟨_,(@ak _ _ _ _ _ (ba (i:=3) me.nd (ao aJ (ao aS (pv 0) ag) (pv 1)))
   (@ak _ _ _ _ _ (ba (i:=4) me.nd (aY c_law_c hr rfl (aa (ao aS (pv 0) ag) aj)))
   (@ak _ _ _ _ _ (ck (PW.pt (mT (aF cm (pv 2) ag) (lN (aF cm (ao aJ (pv 0) ag) ag)))) (au (aQ (aE (aa a8 (aa (aE (aa (aE (aa (aE (aa a8 aj)) (aa (aE (aa a8 aj)) (aa (pv 4) aj)))) aj)) (aa (pv 3) (aa (ao aJ (ao aS (pv 0) ag) (pv 1)) aj))))))) bw)
   (@ak _ _ _ _ _ (ck (aF cm (ao aJ (pv 0) ag) ag) (au (aQ (aE (aa a8 (aa (ao aJ (ao aS (pv 0) ag) (pv 2)) (aa dR (aa (pv 4) (aa (pv 3) aj)))))))) bw)
   (au (aQ (aE (aa a8 (aa (ao aJ (ao aS (pv 0) ag) (pv 2)) (aa (aU cu (br (eV rfl)) (ao aJ (ao aS (pv 0) ag) ag)) (aa (pv 4) (aa (pv 3) (aa (ao aJ (ao aS (pv 0) ag) (pv 1)) aj))))))))))))),?_⟩
 have g:(0:Int) < (U:Int):=by omega
 obtain⟨k,S,ek⟩:=bB (c / 8) hm;obtain⟨m,D,em⟩:=bB (c / 4096) hm;refine⟨_,rfl,_,_,rfl,rfl,⟨by decide,by decide⟩,_,rfl,_,_,rfl,rfl,g,?_⟩;refine⟨_,rfl,_,_,rfl,rfl,⟨by decide,by decide⟩,_,rfl,fun b c0 c2=>?_⟩;dsimp only[fw,de];rw[ek];have l:Sc b:=⟨c0,c2⟩
 refine j0 (fun σ' H'=>σ'=[some (.int c),some (.int (U:Int)),some (.int (nm:Int)),some (.int (k:Int)),some (.int b)]/\H=H'/\0 < nm) (fun σ' H' h=>?_) (fun nx kk=>?_);rotate_left
 ·dsimp only[fh,IF,de,di];have r:∀ I J O Z t,H I=none->upd H I (.tup [.str "zero"]) J=none->upd (upd H I (.tup [.str "zero"])) J (.tup [.str "zero"]) O=none->upd (upd (upd H I (.tup [.str "zero"])) J (.tup [.str "zero"])) O (.tup [.ref I,.ref J,.int b]) Z=none->
    upd (upd (upd (upd H I (.tup [.str "zero"])) J (.tup [.str "zero"])) O (.tup [.ref I,.ref J,.int b])) Z (.tup [.ref O]) t=none->
    Q (.ref t) (upd (upd (upd (upd (upd H I (.tup [.str "zero"])) J (.tup [.str "zero"])) O (.tup [.ref I,.ref J,.int b])) Z (.tup [.ref O])) t (.tup [.str "ask",.ref Z,.int (k:Int),.int (c / 4096 % (U:Int))])):=by
   intro I J O Z t C L G v d;have u1:=ah C (.tup [.str "zero"]);have u2:=ah L (.tup [.str "zero"]);have R:=ah G (.tup [.ref I,.ref J,.int b]);have M:=ah v (.tup [.ref O]);have u:=ah d (.tup [.str "ask",.ref Z,.int (k:Int),.int (c / 4096 % (U:Int))]);have e1:=(u2.trans (R.trans (M.trans u))) _ _ (ae (H:=H) (a:=I) (o:=.tup [.str "zero"]));have e2:=(R.trans (M.trans u)) _ _ (ae (H:=upd H I (.tup [.str "zero"])) (a:=J) (o:=.tup [.str "zero"]));have e3:=(M.trans u) _ _ (ae (H:=upd (upd H I (.tup [.str "zero"])) J (.tup [.str "zero"])) (a:=O) (o:=.tup [.ref I,.ref J,.int b]));have e4:=u _ _ (ae (H:=upd (upd (upd H I (.tup [.str "zero"])) J (.tup [.str "zero"])) O (.tup [.ref I,.ref J,.int b])) (a:=Z) (o:=.tup [.ref O]));refine q (.ask [⟨.zero,.zero,b⟩] k m) _ _ ⟨⟨fun x p=>by rw[fS.mp p]; exact⟨trivial,trivial⟩,⟨by simp,by simp⟩,S,D⟩,fun x p=>by rw[fS.mp p]; exact l,by simp⟩ (u1.trans (u2.trans (R.trans (M.trans u)))) ?_;exact aX (bu.of ae) (af bq (af (aX (bu.of e4) (af (aX (bu.of e3) (af (aX (bu.of e1) (af bq aq)) (af (aX (bu.of e2) (af bq aq)) (af aH aq)))) aq)) (af aH (af (bz em.symm) aq))))
  refine⟨_,rfl,rfl,_,rfl,cj (fun W=>lL ⟨bJ rfl,fun I C=>⟨bJ rfl,fun J L=>⟨_,rfl,bJ rfl,fun O G=>⟨bJ rfl,fun Z v=>⟨_,rfl,_,rfl,_,_,rfl,rfl,⟨by decide,by decide⟩,_,rfl,_,_,rfl,rfl,g,bJ rfl,fun t d=>r I J O Z t C L G v d⟩⟩⟩⟩⟩) (fun W=>⟨_,rfl,_,_,rfl,rfl,(by decide:(0:Int) < 4),rfl,_,rfl,cj (fun c3=>⟨bJ rfl,fun I C=>⟨bJ rfl,fun J L=>⟨_,rfl,bJ rfl,fun O G=>⟨bJ rfl,fun Z v=>⟨_,rfl,_,rfl,_,_,rfl,rfl,⟨by decide,by decide⟩,_,rfl,_,_,rfl,rfl,g,bJ rfl,fun t d=>r I J O Z t C L G v d⟩⟩⟩⟩⟩) (fun c3=>kk _ _ ⟨rfl,rfl,?_⟩)⟩)⟩;rcases Nat.eq_zero_or_pos nm with z | z
  ·exact absurd (gp (by rw[z]; rfl)) W
  ·exact z
 obtain⟨rfl,rfl,Y⟩:=h;have B:(0:Int) < (nm:Int):=by omega
 obtain⟨x,p,ex⟩:=bB (c / 64) Y;refine⟨_,rfl,_,_,rfl,rfl,(by decide:(0:Int) < 4),rfl,_,rfl,cj (fun _=>?_) (fun _=>?_)⟩
 ·exact⟨_,rfl,_,_,rfl,rfl,⟨by decide,by decide⟩,_,rfl,_,_,rfl,rfl,B,_,rfl,_,rfl,bJ rfl,fun t d=>q (.deed (.set x none b) k) _ _ ⟨⟨⟨p,trivial⟩,S⟩,l⟩ (ah d _) (aX (bu.of ae) (af bq (af (bz ex.symm) (af kj (af aH (af aH aq))))))⟩
 ·obtain⟨w2,T,ew⟩:∃ y,gq nm y/\nz [V.non,V.int 0] (c / 4 % 2)=some (aV y):=by
   obtain⟨j,hj,e⟩:=bB (c / 4) (m:=2) (by decide);have e:c / 4 % 2=(j:Int):=e;rw[e];have:j=0\/j=1:=by omega
   rcases this with rfl | rfl
   ·exact⟨none,trivial,rfl⟩
   ·exact⟨some 0,Y,rfl⟩
  refine⟨_,rfl,_,_,rfl,rfl,⟨by decide,by decide⟩,_,rfl,_,_,rfl,rfl,B,bJ rfl,fun pl N=>⟨_,rfl,_,_,rfl,rfl,⟨by decide,by decide⟩,_,_,rfl,rfl,(by decide:(0:Int) < 2),pl,_,_,_,rfl,rfl,bp.of ae,ew,_,rfl,_,rfl,_,rfl,_,_,rfl,rfl,⟨by decide,by decide⟩,_,rfl,_,_,rfl,rfl,g,bJ rfl,fun t d=>?_⟩⟩;exact q (.test (some x) w2 b k m) _ _ ⟨⟨p,T,S,D⟩,l⟩ ((ah N _).trans (ah d _)) (aX (bu.of ae) (af bq (af (bz ex.symm) (af (eF w2) (af aH (af aH (af (bz em.symm) aq)))))))
abbrev zQ:Stmt:=top 34
theorem fH:aW ["_law_lines","_law_opened","_law_number","_law_names","_law_rows","_law_at","_law_kind","_law_rest","_law_y","_law_w","_law_c_here","_law_bounds_here","_law_k","_law_other"] qC (av zQ):=by walk_at "k"
theorem rX{ta tb:TE}(R:Bool->Prop)(h:∀ b,R b->Q (.bl b) H)(hi:∀ Q':VK,(∀ b,R b->Q' (.bl b) H)->zi ta tb σ H Q'):zi ta tb σ H Q:=hi Q h
theorem FI(z cc:Int)(h:Sc cc):∃ w,Sc w/\nz [V.int (-1),V.int (-1),V.int 0,V.int cc] (z % 4)=some (.int w):=by
 obtain⟨j,I,e⟩:=bB z (m:=4) (by decide);have e:z % 4=(j:Int):=e;rw[e];have:j=0\/j=1\/j=2\/j=3:=by lia
 rcases this with rfl | rfl | rfl | rfl
 ·exact⟨-1,⟨by decide,by decide⟩,rfl⟩
 ·exact⟨-1,⟨by decide,by decide⟩,rfl⟩
 ·exact⟨0,⟨by decide,by decide⟩,rfl⟩
 ·exact⟨cc,h,rfl⟩
theorem zA{z:Int}{b:Bool}(hb:b=true->0 < nm):∃ y,gq nm y/\(if b=true then V.int (z % (if (1:Int) > (nm:Int) then 1 else (nm:Int))) else V.non)=aV y:=by
 cases b with
 | false=>exact⟨none,trivial,rfl⟩
 | true=>
  have h:=hb rfl;obtain⟨y,I,e⟩:=bB z h;refine⟨some y,I,?_⟩;rw[if_pos rfl,if_neg (show ¬ (1:Int) > (nm:Int) by lia),e]; rfl
theorem xA.mono{rw:Nat}(h:xA nm rw nl l)(hl:nl<=nl'):xA nm rw nl' l:=by
 obtain⟨h1,h2⟩:=h;cases l with
 | deed d k=>exact⟨⟨h1.1,kU h1.2 hl⟩,h2⟩
 | test y u c k m=>exact⟨⟨h1.1,h1.2.1,kU h1.2.2.1 hl,kU h1.2.2.2 hl⟩,h2⟩
 | ask bs k m=>exact⟨⟨h1.1,h1.2.1,kU h1.2.2.1 hl,kU h1.2.2.2 hl⟩,h2⟩
 | stop=>exact⟨trivial,trivial⟩
inductive DA(K:aL)(vs:List V)(H:Hp)(Q:VK)(E:XK):Prop|m(pl po:Addr)(c:Int)(nm rw:Nat)(ls:List Ln)(os:List (Nat × Nat))(_:vs=[.ref pl,.ref po,.int c,.int (nm:Int),.int (rw:Int)])(_:GS K H pl po nm rw ls os)(_:os.length<=3)(_:nm<=6)(_:rw<=3)(_:ls.length<=200)(_:∀ (H':Hp) (ls':List Ln) (os':List (Nat × Nat)),eD pl po H H'->ls'.length=ls.length + 1->os'.length<=3->GS K H' pl po nm rw ls' os'->Q .non H')
theorem GS.app{K:aL}{rw:Nat}(G:GS K H pl po nm rw ls os)(hl:ls.length<=200)(iv:Is K H l.D v)(g:xA nm rw 1000 l) :
  ∃ xs,H pl=some (.lst xs)/\xs.length < sizeLine/\GS K (upd H pl (.lst (xs++[v]))) pl po nm rw (ls++[l]) os:=by
 obtain⟨⟨xs,h1,h2⟩,⟨zs,O,a⟩,J,Z,b⟩:=G;have d:=bM h2;have tl:=bK.lst (ys:=xs++[v]) h1;refine⟨xs,h1,aN (by lia),⟨⟨_,ae,?_⟩,⟨zs,by rw[aw (Ne.symm J)]; exact O,a.mono tl⟩,J,fun x I=>?_,fun p V=>?_⟩⟩
 ·rw[dH];exact IsL.append (h2.mono tl) (af (iv.mono tl) aq)
 ·rcases fY.mp I with I | I
  ·exact Z x I
  ·rw[fS.mp I]; exact g
 ·obtain⟨U,y,w,c,k,m,e⟩:=b p V;exact⟨U,y,w,c,k,m,by rw[xB (dJ.mp e).1]; exact e⟩
theorem EN(F:fL K "_law_add" "_law_add" zQ f fd)(m_len:mg "len" = none)(m_tuple:mg "tuple" = none)(m_range:mg "range" = none)(m_max:mg "max" = none)(m_int:mg "int" = none)
  (c_law_c:Cl P w K mg base "_law_c" n EY Gk) (c_law_closed:Cl P w K mg base "_law_closed" n HD (l9 K)) (c_law_mixed:Cl P w K mg base "_law_mixed" n EH iq) (c_law_node:Cl P w K mg base "_law_node" n qH (Ag K)) (c_law_straight:Cl P w K mg base "_law_straight" n Ic (mm K)) :
  b9 P w K mg base fM (n + 1) f fd qC (DA K):=by
 refine F.ok fH (by walk_at "l") (fun cdv A outer s H vs Q E hr h=>?_);obtain⟨pl,po,c,nm,rw,ls,os,rfl,G,ho,hnm,hrw,hl,q⟩:=h
 refine⟨_,(@ak _ _ _ _ _ (ba (i:=5) fH.nd (bh bf rfl m_len tQ (aa (pv 0) aj)))
   (@ak _ _ _ _ _ (ba (i:=6) fH.nd (aU cu (br (aa (ao aJ (pv 2) ag) (aa (ao bj ag (ao aJ (pv 2) ag)) aj))) (bE dv rfl m_int DT (aa (cN cm (pv 3) ag) aj))))
   (@ak _ _ _ _ _ (ba (i:=7) fH.nd (ao aS (pv 2) ag))
   (@ak _ _ _ _ _ (ba (i:=8) fH.nd (aU cu (br (aa dR (aa (ao aJ (pv 7) (bh (gX rfl) rfl m_max PyProof.Rows.boot_max (aa (pv 3) (aa ag aj)))) aj))) (bE dv rfl m_int DT (aa (zV (cN gI (ao aJ (ao aS (pv 7) ag) ag) ag) (uI (cN gI (pv 3) ag))) aj))))
   (@ak _ _ _ _ _ (ba (i:=9) fH.nd (aU cu (br (aa dR (aa (ao aJ (ao aS (pv 7) ag) (bh (gX rfl) rfl m_max PyProof.Rows.boot_max (aa (pv 3) (aa ag aj)))) aj))) (bE dv rfl m_int DT (aa (zV (cN gI (ao aJ (ao aS (pv 7) ag) ag) ag) (uI (cN gI (pv 3) ag))) aj))))
   (@ak _ _ _ _ _ (ba (i:=10) fH.nd (aU cu (br (aa (gJ fv ag) (aa (gJ fv ag) (aa ag (aa (aY c_law_c hr rfl (aa (ao aS (pv 7) ag) aj)) aj))))) (ao aJ (ao aS (pv 7) ag) ag)))
   (au (ck (PW.pt (eL (aF tP (pv 6) ag) (du (aF tP (bh bf rfl m_len tQ (aa (pv 1) aj)) ag)))) (@ak _ _ _ _ _ (bP (dy nB tR tS bF (pv 0) (aa (aE (aa a8 (aa (ao aJ (pv 7) (pv 3)) (aa (pv 9) (aa (pv 10) (aa (ao bj (pv 5) ag) (aa (ao bj (pv 5) ag) aj))))))) aj)))
   (au (bP (dy nB tR tS bF (pv 1) (aa (aE (aa (pv 5) (aa (ao aJ (pv 7) (pv 3)) aj))) aj))))) (au (ck (PW.pt (eL (aF cm (pv 6) ag) (du (aF gI (bh bf rfl m_len tQ (aa (pv 1) aj)) ag)))) (au (bP (aY c_law_closed hr rfl (aa (pv 0) (aa (pv 1) (aa (pv 7) aj)))))) (au (ck (aF cm (pv 6) ag) (au (bP (dy nB tR tS bF (pv 0) (aa (aE (aa a8 (aa (pv 8) (aa (pv 9) (aa (pv 10) (aa (ao bj (pv 5) ag) (aa (ao bj (ao bj (pv 5) ag) (ao aJ (ao aS (pv 7) ag) ag)) aj))))))) aj)))) (au (ck (PW.pt (eL (aF cm (pv 6) ag) (du (aF cm (ao aJ (pv 7) ag) ag)))) (@ak _ _ _ _ _ (ba (i:=11) fH.nd (br aj))
   (@ak _ _ _ _ _ (dg qW rfl (cK rfl m_range (aa (ao bj ag (ao gL (ao aJ (ao aS (pv 7) ag) ag) (ao aJ (ao aS (pv 7) ag) ag))) aj)) (aG (i:=12) fH.nd rfl (Or.inl rfl)) (@ak _ _ _ _ _ (ba (i:=13) fH.nd (aY c_law_mixed hr rfl (aa (pv 7) (aa (pv 12) aj))))
   (au (bP (dy nB tR tS bF (pv 11) (aa (aE (aa (aY c_law_node hr rfl (aa (pv 13) (aa (pv 3) (aa (pv 4) aj)))) (aa (aY c_law_node hr rfl (aa (ao aS (pv 13) ag) (aa (pv 3) (aa (pv 4) aj)))) (aa (aY c_law_c hr rfl (aa (ao aS (pv 13) ag) aj)) aj)))) aj))))))
   (au (bP (dy nB tR tS bF (pv 0) (aa (aE (aa a8 (aa (bE d5 rfl m_tuple PyProof.Rows.boot_tuple (aa (pv 11) aj)) (aa (ao bj (pv 5) ag) (aa (ao bj (ao bj (pv 5) ag) (ao aJ (ao aS (pv 7) ag) ag)) aj))))) aj)))))) (au (ck (PW.pt (eL (aF cm (pv 6) ag) (du (aF cm (ao aJ (pv 7) ag) ag)))) (au (bP (dy nB tR tS bF (pv 0) (aa (aE (aa a8 aj)) aj)))) (au (bP (dy nB tR tS bF (pv 0) (aa (aY c_law_straight hr rfl (aa (pv 7) (aa (pv 5) (aa (pv 3) (aa (pv 4) aj))))) aj)))))))))))))))))))),?_⟩
 obtain⟨xs,el,il⟩:=G.l;have lx:=bM il;have hmx:(0:Int) < (if (1:Int) > (nm:Int) then 1 else (nm:Int)):=by split <;> lia
 refine⟨_,rfl,pl,xs,rfl,.inl (bp.of el),?_⟩;rw[lx];refine⟨_,rfl,_,_,rfl,rfl,(by decide:(0:Int) < 9),_,rfl,_,_,rfl,rfl,(by decide:(0:Int) < 3),_,_,rfl,rfl,bJ rfl,fun p1 n1=>⟨_,rfl,rfl,.inr ⟨_,rfl,p1,_,_,_,rfl,rfl,bp.of ae,qQ _,?_⟩⟩⟩;have u1:=ah n1 (.lst [.int (c % 9),.int (3 + c % 3)]);obtain⟨B,hkd,ekd⟩:∃ B:Int,(B < 3->0 < nm)/\(if decide (V.int (nm:Int)=V.int 0)=true then V.int (3 + c % 3) else V.int (c % 9))=.int B:=by
  by_cases h0:nm=0
  ·have:=dC c (show (0:Int) < 3 by decide);exact⟨3 + c % 3,fun z=>by lia,by rw[h0]; rfl⟩
  ·exact⟨c % 9,fun _=>by lia,by rw[if_neg (fun z=>h0 (by have:=jV z; injection this with this; lia))]⟩
 dsimp only[fw,de];rw[ekd];generalize upd H p1 (.lst [.int (c % 9),.int (3 + c % 3)])=H1 at u1;refine⟨_,rfl,_,_,rfl,rfl,⟨by decide,by decide⟩,?_⟩;dsimp only[fw,de];generalize c / 9=rs;refine⟨_,rfl,_,rfl,_,_,rfl,_,_,rfl,rfl,hmx,bJ rfl,fun p2 n2=>?_⟩;refine rX (fun b=>b=true->0 < nm) (fun b1 hb1=>?_) (fun Q' kk=>?_);rotate_left
 ·exact⟨_,rfl,_,_,rfl,rfl,⟨by decide,by decide⟩,_,_,rfl,rfl,(by decide:(0:Int) < 5),_,_,rfl,rfl,_,rfl,cj (fun _=>⟨_,rfl,_,_,rfl,rfl,kk _ (fun h=>by have:=jV h; lia)⟩) (fun _=>kk _ (fun h=>by cases h))⟩
 refine .inr ⟨b1,rfl,p2,_,_,_,rfl,rfl,bp.of ae,qQ b1,?_⟩;have u2:=ah n2 (.lst [.non,.int (rs % (if (1:Int) > (nm:Int) then 1 else (nm:Int)))]);obtain⟨y,hy,ey⟩:=zA (z:=rs) hb1;dsimp only[fw,de];rw[ey];generalize upd H1 p2 (.lst [.non,.int (rs % (if (1:Int) > (nm:Int) then 1 else (nm:Int)))])=H2 at u2;refine⟨_,rfl,_,_,rfl,rfl,⟨by decide,by decide⟩,_,rfl,_,_,rfl,_,_,rfl,rfl,hmx,bJ rfl,fun p3 n3=>?_⟩;refine rX (fun b=>b=true->0 < nm) (fun b2 hb2=>?_) (fun Q' kk=>?_);rotate_left
 ·exact⟨_,rfl,_,_,rfl,rfl,⟨by decide,by decide⟩,_,_,rfl,rfl,(by decide:(0:Int) < 3),_,_,rfl,rfl,_,rfl,cj (fun _=>⟨_,rfl,_,_,rfl,rfl,kk _ (fun h=>by have:=jV h; lia)⟩) (fun _=>kk _ (fun h=>by cases h))⟩
 refine .inr ⟨b2,rfl,p3,_,_,_,rfl,rfl,bp.of ae,qQ b2,?_⟩;have u3:=ah n3 (.lst [.non,.int (rs / 64 % (if (1:Int) > (nm:Int) then 1 else (nm:Int)))]);obtain⟨O,hw,ew⟩:=zA (z:=rs / 64) hb2;dsimp only[fw,de];rw[ew];generalize upd H2 p3 (.lst [.non,.int (rs / 64 % (if (1:Int) > (nm:Int) then 1 else (nm:Int)))])=H3 at u3;refine⟨_,rfl,_,rfl,_,rfl,_,_,rfl,rfl,⟨by decide,by decide⟩,_,rfl,fun ci i0 i1=>⟨bJ rfl,fun p4 n4=>?_⟩⟩;obtain⟨e,hcc,e4⟩:=FI (rs / 1024) ci ⟨i0,i1⟩;refine⟨_,rfl,_,_,rfl,rfl,⟨by decide,by decide⟩,_,_,rfl,rfl,(by decide:(0:Int) < 4),p4,_,_,_,rfl,rfl,bp.of ae,e4,?_⟩;have u4:=ah n4 (.lst [.int (-1),.int (-1),.int 0,.int ci]);have s4:=u1.trans (u2.trans (u3.trans u4));dsimp only[fw,de];generalize upd H3 p4 (.lst [.int (-1),.int (-1),.int 0,.int ci])=C at s4;clear u1 u2 u3 u4 n1 n2 n3 n4 hb1 hb2 ey ew e4 ekd el il lx;have G4:=G.same s4;have ea:((ls.length + 1:Nat):Int)=(ls.length:Int) + 1:=by lia
 obtain⟨zs,ez,iz⟩:=G4.o;have lz:zs.length=os.length:=by have:=iz.length; rw[bL]at this; exact this.symm
 have out:∀ (T:Hp) (l:Ln) (v:V),aB C T->Is K T l.D v->xA nm rw 1000 l->∃ xs,T pl=some (.lst xs)/\xs.length < sizeLine/\Q .non (upd T pl (.lst (xs++[v]))):=fun T l v L i5 g5=>by
  obtain⟨xs,k,U,r⟩:=(G4.same L).app hl i5 g5;exact⟨xs,k,U,q _ _ _ ((eD.of (s4.trans L)).trans .zS) (by rw[dE,nv]) ho r⟩
 obtain⟨xs4,Z,il4⟩:=G4.l;have lx4:=bM il4;refine qo (fun σ' H'=>σ'=[some (.ref pl),some (.ref po),some (.int c),some (.int (nm:Int)),some (.int (rw:Int)),some (.int (ls.length:Int)),some (.int B),some (.int rs),some (aV y),some (aV O),some (.int e),none,none,none]/\C=H') (fun σ' H' h=>?_) (fun u' kk=>?_);rotate_left
 ·dsimp only[fh,jl,de,di];refine⟨_,rfl,_,_,rfl,rfl,_,rfl,cj (fun ca=>⟨_,rfl,po,zs,rfl,.inl (bp.of ez),_,_,rfl,rfl,_,rfl,cj (fun cb=>?_) (fun _=>kk _ _ ⟨rfl,rfl⟩)⟩) (fun _=>eI (kk _ _ ⟨rfl,rfl⟩))⟩;have hn0:0 < nm:=hkd (by have:=jV ca; lia);have hnp:(0:Int) < (nm:Int):=by lia
  have hz:zs.length < 3:=by have:=jV cb; lia
  obtain⟨x,hx,ex⟩:=bB rs hn0;refine⟨_,rfl,.inl ⟨rfl,_,bp.of Z⟩,_,rfl,_,rfl,_,_,rfl,rfl,hnp,_,rfl,_,rfl,_,rfl,_,_,rfl,rfl,_,rfl,_,_,rfl,rfl,bJ rfl,fun t S=>?_⟩;have u5:=ah S (.tup [.str "test",.int (rs % (nm:Int)),aV O,.int e,.int ((ls.length:Int) + 1),.int ((ls.length:Int) + 1)]);have i5:Is K (upd C t (.tup [.str "test",.int (rs % (nm:Int)),aV O,.int e,.int ((ls.length:Int) + 1),.int ((ls.length:Int) + 1)])) (Ln.test (some x) O e (ls.length + 1) (ls.length + 1)).D (.ref t):=
   aX (bu.of ae) (af bq (af (bz ex.symm) (af (eF O) (af aH (af (bz ea) (af (bz ea) aq))))))
  obtain⟨J,k,U,G6⟩:=(G4.same u5).app hl i5 ⟨⟨hx,hw,by lia,by lia⟩,hcc⟩;refine⟨pl,J,_,rfl,rfl,k,U,?_⟩;have b6:=(eD.of (p:=pl) (q:=po) (s4.trans u5)).trans (.zS (o:=.lst (J++[.ref t])));generalize upd (upd C t (.tup [.str "test",.int (rs % (nm:Int)),aV O,.int e,.int ((ls.length:Int) + 1),.int ((ls.length:Int) + 1)])) pl (.lst (J++[.ref t]))=H6 at G6 b6;obtain⟨⟨xs6,el6,il6⟩,⟨M,ez6,iz6⟩,hne,ok6,oo6⟩:=G6;have lz6:M.length=os.length:=by have:=iz6.length; rw[bL]at this; exact this.symm
  refine⟨_,rfl,.inl ⟨rfl,_,bp.of ez6⟩,_,rfl,_,rfl,_,rfl,_,_,rfl,rfl,hnp,bJ rfl,fun t2 nt2=>?_⟩;have u7:=ah nt2 (.tup [.int (ls.length:Int),.int (rs % (nm:Int))]);have i7:Is K (upd H6 t2 (.tup [.int (ls.length:Int),.int (rs % (nm:Int))])) (pairD (ls.length,x)) (.ref t2):=aX (bu.of ae) (af aH (af (bz ex.symm) aq));have R:=u7 _ _ ez6;have el7:=u7 _ _ el6;have il7:=il6.mono u7.aA;have iz7:=iz6.mono u7.aA;have b7:=b6.trans (.of u7);refine⟨po,M,_,rfl,rfl,R,aN (by lia),?_⟩;generalize upd H6 t2 (.tup [.int (ls.length:Int),.int (rs % (nm:Int))])=H7 at i7 R el7 il7 iz7 b7;have t8:=bK.lst (ys:=M++[.ref t2]) R;refine q _ (ls++[Ln.test (some x) O e (ls.length + 1) (ls.length + 1)]) (os++[(ls.length,x)]) (b7.trans .Hq) (by rw[dE,nv]) (by rw[dE,nv]; lia) ⟨⟨xs6,by rw[aw hne]; exact el7,il7.mono t8⟩,⟨_,ae,?_⟩,hne,ok6,fun p hp=>?_⟩
  ·rw[dH];exact IsL.append (iz7.mono t8) (af (i7.mono t8) aq)
  ·rcases fY.mp hp with hp | hp
   ·exact oo6 p hp
   ·rw[fS.mp hp];exact⟨hx,_,_,_,_,_,by rw[ue (bH _),Nat.sub_self]; rfl⟩
 obtain⟨rfl,rfl⟩:=h;refine qo (fun σ' H'=>σ'=[some (.ref pl),some (.ref po),some (.int c),some (.int (nm:Int)),some (.int (rw:Int)),some (.int (ls.length:Int)),some (.int B),some (.int rs),some (aV y),some (aV O),some (.int e),none,none,none]/\C=H') (fun σ' H' h=>?_) (fun u' kk=>?_);rotate_left
 ·dsimp only[fh,jl,de,di];refine⟨_,rfl,rfl,_,rfl,cj (fun ca=>⟨_,rfl,po,zs,rfl,.inl (bp.of ez),_,_,rfl,rfl,_,rfl,cj (fun cb=>?_) (fun _=>kk _ _ ⟨rfl,rfl⟩)⟩) (fun _=>eI (kk _ _ ⟨rfl,rfl⟩))⟩;have hz:0 < zs.length:=by have:=jV cb; lia
  obtain⟨u,p,eos⟩:∃ u p,os=u++[p]:=by
   rcases List.eq_nil_or_concat os with z | ⟨a,b,z⟩
   ·rw[z,xq]at lz; lia
   ·exact⟨a,b,by rw[z,List.concat_eq_append]⟩
  obtain⟨hh,x⟩:=p;rw[eos]at G4;refine⟨_,rfl,_,rfl,_,rfl,pl,po,rs,nm,rw,ls,u,hh,x,rfl,G4,hl,fun H' ls' b' l' g'=>?_⟩;exact q H' ls' u ((eD.of s4).trans b') l' (by rw[eos,dE,nv]at ho; lia) g'
 obtain⟨rfl,rfl⟩:=h;refine qo (fun σ' H'=>σ'=[some (.ref pl),some (.ref po),some (.int c),some (.int (nm:Int)),some (.int (rw:Int)),some (.int (ls.length:Int)),some (.int B),some (.int rs),some (aV y),some (aV O),some (.int e),none,none,none]/\C=H') (fun σ' H' h=>?_) (fun u' kk=>?_);rotate_left
 ·dsimp only[fh,jl,de,di];refine⟨_,rfl,rfl,_,rfl,cj (fun ca=>?_) (fun _=>kk _ _ ⟨rfl,rfl⟩)⟩;obtain⟨j,hj,ej⟩:=bB (rs / 16384) (m:=3) (by decide);refine⟨_,rfl,.inl ⟨rfl,_,bp.of Z⟩,_,rfl,_,rfl,_,rfl,_,rfl,_,_,rfl,rfl,_,rfl,_,_,rfl,rfl,_,rfl,_,_,rfl,rfl,⟨by decide,by decide⟩,_,_,rfl,rfl,(by decide:(0:Int) < 3),_,_,rfl,rfl,bJ rfl,fun t S=>?_⟩;obtain⟨J,k,U,r⟩:=out _ (.test y O e (ls.length + 1) (ls.length + 2 + j)) _ (ah S _) (aX (bu.of ae) (af bq (af (eF y) (af (eF O) (af aH (af (bz ea) (af (bz (show ((ls.length + 2 + j:Nat):Int)=(ls.length:Int) + 2 + rs / 16384 % 3 by have:rs / 16384 % 3=(j:Int):=ej; lia)) aq))))))) ⟨⟨hy,hw,by lia,by lia⟩,hcc⟩;exact⟨pl,J,_,rfl,rfl,k,U,r⟩
 obtain⟨rfl,rfl⟩:=h;refine qo (fun σ' H'=>σ'=[some (.ref pl),some (.ref po),some (.int c),some (.int (nm:Int)),some (.int (rw:Int)),some (.int (ls.length:Int)),some (.int B),some (.int rs),some (aV y),some (aV O),some (.int e),none,none,none]/\C=H') (fun σ' H' h=>?_) (fun u' kk=>?_);rotate_left
 ·dsimp only[fh,jl,de,di];refine⟨_,rfl,rfl,_,rfl,cj (fun ca=>⟨_,rfl,_,_,rfl,rfl,(by decide:(0:Int) < 3),rfl,_,rfl,cj (fun cb=>?_) (fun _=>kk _ _ ⟨rfl,rfl⟩)⟩) (fun _=>eI (kk _ _ ⟨rfl,rfl⟩))⟩;obtain⟨j,hj,ej⟩:=bB (rs / 16384) (m:=3) (by decide);have hbm:0<=rs / 3 % 4 * (rs / 12 % 2)/\rs / 3 % 4 * (rs / 12 % 2)<=3:=by
   have h4:=dC (rs / 3) (show (0:Int) < 4 by decide);have h2:=dC (rs / 12) (show (0:Int) < 2 by decide);have:rs / 12 % 2=0\/rs / 12 % 2=1:=by lia
   rcases this with z | z <;> rw[z] <;> constructor <;> lia
  refine⟨bJ rfl,fun lb nlb=>?_⟩;have u5:=ah nlb (.lst []);refine⟨_,rfl,_,_,rfl,rfl,⟨by decide,by decide⟩,_,_,rfl,rfl,(by decide:(0:Int) < 4),_,rfl,_,_,rfl,rfl,⟨by decide,by decide⟩,_,_,rfl,rfl,(by decide:(0:Int) < 2),_,_,rfl,rfl,.inr (by have:=dC (rs / 12) (show (0:Int) < 2 by decide); constructor <;> lia),_,_,rfl,rfl,_,rfl,by lia,by lia,?_⟩
  refine hX (fun j σ H'=>aB C H'/\∃ I bs y12 N,H' lb=some (.lst I)/\IsL K H' (bs.map Bd.D) I/\bs.length=j/\(∀ b∈bs,Bd.Ok nm rw b/\Sc b.c)/\
   σ=[some (.ref pl),some (.ref po),some (.int c),some (.int (nm:Int)),some (.int (rw:Int)),some (.int (ls.length:Int)),some (.int B),some (.int rs),some (aV y),some (aV O),some (.int e),some (.ref lb),y12,N]) ⟨u5,[],[],_,_,ae,aq,rfl,fun d hd=>by simp at hd,rfl⟩ (fun j σ H' hj h=>?_) (fun σ H' h=>?_)
  ·obtain⟨sm,I,bs,y12,N,eb,ib,lnb,hb,rfl⟩:=h;have hj4:j < 4:=by lia
   refine⟨_,rfl,_,rfl,rs,_,rfl,fun c1 _=>?_⟩;refine⟨_,rfl,.inl ⟨rfl,_,bp.of eb⟩,_,rfl,_,rfl,_,rfl,c1,(nm:Int),(rw:Int),rfl,by lia,by lia,by lia,by lia,fun d1 v1 H1 nd1 s1 is1=>?_⟩;refine⟨_,rfl,_,_,rfl,rfl,⟨by decide,by decide⟩,_,rfl,_,rfl,_,(nm:Int),(rw:Int),rfl,by lia,by lia,by lia,by lia,fun d2 v2 H2 nd2 s2 is2=>?_⟩;refine⟨_,rfl,_,_,rfl,rfl,⟨by decide,by decide⟩,_,rfl,fun c3 c30 c31=>⟨bJ rfl,fun t ht=>?_⟩⟩;obtain⟨q1,ok1,rfl⟩:=vV nd1;obtain⟨q2,ok2,rfl⟩:=vV nd2;have Y:=s2 _ _ (s1 _ _ eb);have tn:=bK.new (o:=.tup [v1,v2,.int c3]) ht;have eb3:upd H2 t (.tup [v1,v2,.int c3]) lb=some (.lst I):=by rw[aw (gH Y ht)]; exact Y
   have la:=ib.length;rw[bL]at la;refine⟨lb,I,.ref t,rfl,rfl,eb3,aN (by lia),?_,I++[.ref t],bs++[⟨q1,q2,c3⟩],_,_,ae,?_,by rw[dE,nv,lnb],fun d hd=>?_,rfl⟩
   ·exact aB.new (aB.new (sm.trans (s1.trans s2)) (aD (sm.trans (s1.trans s2)) ht)) nlb
   ·have tl:=bK.lst (ys:=I++[.ref t]) eb3;rw[dH];refine IsL.append ((((ib.mono (s1.trans s2).aA).mono tn).mono tl)) (af ?_ aq);have et:upd (upd H2 t (.tup [v1,v2,.int c3])) lb (.lst (I++[.ref t])) t=some (.tup [v1,v2,.int c3]):=by rw[aw (gH Y ht).symm]; exact ae
    exact aX (bu.of et) (af ((((is1.mono s2.aA).mono tn).mono tl)) (af ((is2.mono tn).mono tl) (af aH aq)))
   ·rcases fY.mp hd with hd | hd
    ·exact hb d hd
    ·rw[fS.mp hd];exact⟨⟨ok1,ok2⟩,c30,c31⟩
  ·obtain⟨sm,I,bs,y12,N,eb,ib,lnb,hb,rfl⟩:=h;have hb4:0 < bs.length/\bs.length<=4:=by lia
   have la:=ib.length;rw[bL]at la;refine⟨_,rfl,.inl ⟨rfl,_,bp.of (sm _ _ Z)⟩,_,rfl,lb,I,rfl,.inl ⟨bp.of eb,fun tb ntb=>?_⟩⟩;have L:=ah ntb (.tup I);have hp5:bu K (upd H' tb (.tup I)) tb I:=bu.of ae;generalize upd H' tb (.tup I)=T at L hp5;refine⟨_,rfl,_,_,rfl,rfl,_,rfl,_,_,rfl,rfl,_,rfl,_,_,rfl,rfl,⟨by decide,by decide⟩,_,_,rfl,rfl,(by decide:(0:Int) < 3),_,_,rfl,rfl,bJ rfl,fun t S=>?_⟩;have u6:=ah S (.tup [.str "ask",.ref tb,.int ((ls.length:Int) + 1),.int ((ls.length:Int) + 1 + rs / 16384 % 3)]);obtain⟨J,k,U,r⟩:=out _ (.ask bs (ls.length + 1) (ls.length + 1 + j)) _ ((sm.trans L).trans u6) (aX (bu.of ae) (af bq (af (aX (u6.aA.sq hp5) (ib.mono (L.trans u6).aA)) (af (bz ea) (af (bz (show ((ls.length + 1 + j:Nat):Int)=(ls.length:Int) + 1 + rs / 16384 % 3 by have:rs / 16384 % 3=(j:Int):=ej; lia)) aq))))) ⟨⟨fun b W=>(hb b W).1,⟨hb4.1,by lia⟩,by lia,by lia⟩,fun b W=>(hb b W).2,hb4.2⟩;exact⟨pl,J,_,rfl,rfl,k,U,r⟩
 obtain⟨rfl,rfl⟩:=h;dsimp only[fh,jl,de,di];refine⟨_,rfl,rfl,_,rfl,cj (fun ca=>⟨_,rfl,_,_,rfl,rfl,(by decide:(0:Int) < 9),rfl,_,rfl,cj (fun cb=>?_) (fun _=>?_)⟩) (fun _=>eI ?_)⟩
 ·refine⟨_,rfl,.inl ⟨rfl,_,bp.of Z⟩,bJ rfl,fun t S=>?_⟩;obtain⟨J,k,U,r⟩:=out _ .stop _ (ah S _) (aX (bu.of ae) (af bq aq)) ⟨trivial,trivial⟩;exact⟨pl,J,_,rfl,rfl,k,U,r⟩
 all_goals
  refine⟨_,rfl,.inl ⟨rfl,_,bp.of Z⟩,_,rfl,_,rfl,_,rfl,_,rfl,rs,ls.length,nm,rw,rfl,hnm,hrw,fun l v T g L i5=>?_⟩;obtain⟨J,k,U,r⟩:=out _ l v L i5 (g.mono (by lia));exact⟨pl,J,_,rfl,rfl,k,U,r⟩
abbrev hV:Stmt:=top 37
theorem cz:aW IW qG (av hV):=by walk_at "k"
theorem yJ(z x:Int)(h:x=0):∃ w:Nat,w<=6/\nz [V.int 1,V.int 2,V.int 3,V.int 4,V.int 2,V.int 3,V.int x,V.int 6] (z % 8)=some (.int (w:Int)):=by
 obtain⟨j,I,e⟩:=bB z (m:=8) (by decide);have e:z % 8=(j:Int):=e;rw[e,h];have:j=0\/j=1\/j=2\/j=3\/j=4\/j=5\/j=6\/j=7:=by omega
 rcases this with rfl | rfl | rfl | rfl | rfl | rfl | rfl | rfl
 ·exact⟨1,by decide,rfl⟩
 ·exact⟨2,by decide,rfl⟩
 ·exact⟨3,by decide,rfl⟩
 ·exact⟨4,by decide,rfl⟩
 ·exact⟨2,by decide,rfl⟩
 ·exact⟨3,by decide,rfl⟩
 ·exact⟨0,by decide,rfl⟩
 ·exact⟨6,by decide,rfl⟩
theorem BI(z:Int):∃ w:Nat,w<=3/\nz [V.int 1,V.int 2,V.int 1,V.int 3,V.int 0,V.int 1] (z % 6)=some (.int (w:Int)):=by
 obtain⟨j,I,e⟩:=bB z (m:=6) (by decide);have e:z % 6=(j:Int):=e;rw[e];have:j=0\/j=1\/j=2\/j=3\/j=4\/j=5:=by omega
 rcases this with rfl | rfl | rfl | rfl | rfl | rfl
 ·exact⟨1,by decide,rfl⟩
 ·exact⟨2,by decide,rfl⟩
 ·exact⟨1,by decide,rfl⟩
 ·exact⟨3,by decide,rfl⟩
 ·exact⟨0,by decide,rfl⟩
 ·exact⟨1,by decide,rfl⟩
theorem Dy(z:Int):∃ w:Nat,w<=3/\nz [V.int 1,V.int 2,V.int 3,V.int 0,V.int 0,V.int 0,V.int 0,V.int 0] (z % 8)=some (.int (w:Int)):=by
 obtain⟨j,I,e⟩:=bB z (m:=8) (by decide);have e:z % 8=(j:Int):=e;rw[e];have:j=0\/j=1\/j=2\/j=3\/j=4\/j=5\/j=6\/j=7:=by omega
 rcases this with rfl | rfl | rfl | rfl | rfl | rfl | rfl | rfl
 ·exact⟨1,by decide,rfl⟩
 ·exact⟨2,by decide,rfl⟩
 ·exact⟨3,by decide,rfl⟩
 ·exact⟨0,by decide,rfl⟩
 ·exact⟨0,by decide,rfl⟩
 ·exact⟨0,by decide,rfl⟩
 ·exact⟨0,by decide,rfl⟩
 ·exact⟨0,by decide,rfl⟩
theorem Dq{lo hi:Int}(h0:0<=lo)(h1:lo<=hi):(dw xs (some lo) (some hi)).length<=(hi - lo).toNat:=by
 unfold dw;rw[tJ,tJ,if_neg (by omega),if_neg (by omega),gx,List.length_drop];omega
inductive oM(K:aL)(vs:List V)(H:Hp)(Q:VK)(E:XK):Prop|m(a:Addr)(ns:List Int)(_:vs=[.ref a,.int 20,.int 2])(_:bp K H a (ns.map V.int))(_:∀ (H':Hp) (tp al:Addr) (nm rw:Nat) (ls:List Ln),aB H H'->ja K H' tp al nm rw ls->(∀ l∈ls,l.Sm)->Q (.ref tp) H')
theorem uF(F:fL K "_law_program" "_law_program" hV f fd)(m_range:mg "range" = none)(m_len:mg "len" = none)(m_max:mg "max" = none)(m_int:mg "int" = none)
  (c_law_cell:Cl P w K mg base "_law_cell" n qF (pS K)) (c_law_seen:Cl P w K mg base "_law_seen" n qJ (zD K)) (c_law_mixed:Cl P w K mg base "_law_mixed" n EH iq) (c_law_add:Cl P w K mg base "_law_add" n qC (DA K))
  (c_law_closed:Cl P w K mg base "_law_closed" n HD (l9 K)) (c_law_clamped:Cl P w K mg base "_law_clamped" n qM (nY K)) (c_law_apart:Cl P w K mg base "_law_apart" n Ig (wd K)) :
  b9 P w K mg base fM (n + 1) f fd qG (oM K):=by
 refine F.ok cz (by walk_at "l") (fun cdv A outer s H vs Q E u h=>?_);obtain⟨a,ns,rfl,S,q⟩:=h
 refine⟨_,(@ak _ _ _ _ _ (ba (i:=3) cz.nd (aU cu (br (aa ag (aa ag (aa ag (aa ag (aa ag (aa ag (aa (ao gL ag (bE dv rfl m_int DT (aa (cN cm (pv 2) ag) aj))) (aa ag aj))))))))) (ao aJ (aY c_law_cell u rfl (aa (pv 0) (aa ag aj))) ag)))
   (@ak _ _ _ _ _ (ba (i:=4) cz.nd (aU cu (br (eV rfl)) (ao aJ (aY c_law_cell u rfl (aa (pv 0) (aa ag aj))) ag)))
   (@ak _ _ _ _ _ (ba (i:=5) cz.nd (br aj))
   (@ak _ _ _ _ _ (ba (i:=6) cz.nd (br aj))
   (@ak _ _ _ _ _ (ba (i:=7) cz.nd (bh (gX rfl) rfl m_max PyProof.Rows.boot_max (aa (bh bf rfl m_len tQ (aa (cJ jn (pv 0) (cQ ag) (cQ (ao bj ag (pv 1)))) aj)) (aa (ao aJ (aY c_law_cell u rfl (aa (pv 0) (aa ag aj))) ag) aj))))
   (@ak _ _ _ _ _ (ck (PW.pt (eL (aF cm (pv 2) ag) (du (aF cm (ao aJ (aY c_law_cell u rfl (aa (pv 0) (aa ag aj))) ag) ag)))) (au (ba (i:=7) cz.nd (ao bj ag (ao aJ (ao aS (aY c_law_cell u rfl (aa (pv 0) (aa ag aj))) ag) ag)))) bw)
   (@ak _ _ _ _ _ (dg qW rfl (cK rfl m_range (aa (pv 7) aj)) (aG (i:=8) cz.nd rfl (Or.inl rfl)) (au (bP (aY c_law_add u rfl (aa (pv 5) (aa (pv 6) (aa (aY c_law_seen u rfl (aa (pv 0) (aa (ao bj ag (pv 8)) (aa ag aj)))) (aa (pv 3) (aa (pv 4) aj)))))))))
   (@ak _ _ _ _ _ (rb qW (aF gI (bh bf rfl m_len tQ (aa (pv 6) aj)) ag) (au (bP (aY c_law_closed u rfl (aa (pv 5) (aa (pv 6) (aa (bh bf rfl m_len tQ (aa (pv 5) aj)) aj)))))))
   (@ak _ _ _ _ _ (bP (dy nB tR tS bF (pv 5) (aa (aE (aa a8 aj)) aj)))
   (@ak _ _ _ _ _ (ba (i:=5) cz.nd (cA ["_law_line"] rfl (cT (N:=IW) (so:=av hV) rfl rfl (by decide +kernel)) (cM (pv 5)) (fun _ _ _ _ _ _=>(aG (i:=0) (show List.Nodup (α:=Str) ["_law_line","_law_script","_law_most","_law_wide_here","_law_names","_law_rows","_law_lines","_law_opened","_law_many","_law_k"] by decide +kernel) rfl (Or.inl rfl) (Or.inr rfl))) (fun _ _ _ _ _ _=>cD) (fun _ _ _ _ _ _=>(aY c_law_clamped u rfl (aa (pv 0) (aa (ao gg (bh (nF (K:=K) rfl) rfl m_len tQ (aa (pv 6) aj)) ag) aj))))))
   (@ak _ _ _ _ _ (dg qW rfl (cK rfl m_range (aa (aU cu (br (eV rfl)) (ao aJ (ao aS (aY c_law_cell u rfl (aa (pv 0) (aa ag aj))) ag) ag)) aj)) (aG (i:=8) cz.nd rfl (Or.inl rfl)) (au (bP (dy nB tR tS bF (pv 5) (aa (aY c_law_apart u rfl (aa (aY c_law_mixed u rfl (aa (aY c_law_cell u rfl (aa (pv 0) (aa ag aj))) (aa (pv 8) aj))) (aa (bh bf rfl m_len tQ (aa (pv 5) aj)) (aa (pv 3) aj)))) aj)))))
   (au (aQ (aE (aa (pv 3) (aa (pv 4) (aa (pv 5) aj))))))))))))))))),?_⟩
 refine⟨_,rfl,rfl,.inr ⟨_,rfl,_,_,rfl,rfl,.inl (by decide),bJ rfl,fun p1 n1=>?_⟩⟩;have hx:3 * (if decide (V.int 2=V.int 0)=true then (1:Int) else 0)=0:=by
  rw[if_neg (fun z=>by have:=jV z; injection this with this; exact absurd this (by decide))]; rfl
 have u1:=ah n1 (.lst [.int 1,.int 2,.int 3,.int 4,.int 2,.int 3,.int (3 * (if decide (V.int 2=V.int 0)=true then (1:Int) else 0)),.int 6]);refine⟨_,rfl,a,ns,0,rfl,u1.seq S,by decide,fun z1 H1 s1=>?_⟩;obtain⟨nm,hnm,en⟩:=yJ z1 _ hx;refine⟨_,_,rfl,rfl,(by decide:(0:Int) < 8),p1,_,_,_,rfl,rfl,bp.of (s1 _ _ ae),en,?_⟩;have s01:=u1.trans s1;refine⟨bJ rfl,fun p2 n2=>?_⟩;have u2:=ah n2 (.lst [.int 1,.int 2,.int 1,.int 3,.int 0,.int 1]);refine⟨_,rfl,a,ns,1,rfl,(s01.trans u2).seq S,by decide,fun z2 H2 s2=>?_⟩;obtain⟨rw,hrw,er⟩:=BI z2;refine⟨_,_,rfl,rfl,(by decide:(0:Int) < 6),p2,_,_,_,rfl,rfl,bp.of (s2 _ _ ae),er,?_⟩;have Y:=s01.trans (u2.trans s2);refine⟨bJ rfl,fun pl npl=>⟨bJ rfl,fun po npo=>?_⟩⟩;have u3:=ah npl (.lst []);have u4:=ah npo (.lst []);have epl:=u4 _ _ (ae (H:=H2) (a:=pl) (o:=.lst []));have epo:upd (upd H2 pl (.lst [])) po (.lst []) po=some (.lst []):=ae;have hne:pl≠po:=gH (ae (H:=H2) (a:=pl) (o:=.lst [])) npo;have npl0:=aD Y npl;have npo0:=aD (Y.trans u3) npo;have R:=Y.trans (u3.trans u4);generalize upd (upd H2 pl (.lst [])) po (.lst [])=H4 at epl epo R;refine⟨_,rfl,_,rfl,_,rfl,_,_,rfl,rfl,_,rfl,a,_,rfl,R.seq S,fun p5 n5=>?_⟩;have u5:=ah n5 (.lst (dw (ns.map V.int) (some 8) (some (8 + 20))));refine⟨p5,_,rfl,.inl (bp.of ae),_,rfl,a,ns,2,rfl,(R.trans u5).seq S,by decide,fun z3 H5 s5=>⟨_,_,rfl,rfl,(by decide:(0:Int) < 9),_,_,rfl,?_⟩⟩;have hc20:(dw (ns.map V.int) (some 8) (some (8 + 20))).length<=20:=Dq (by decide) (by decide);obtain⟨J,Z,em⟩:∃ J:Nat,J<=57/\(if z3 % 9 > ((dw (ns.map V.int) (some 8) (some (8 + 20))).length:Int) then z3 % 9 else ((dw (ns.map V.int) (some 8) (some (8 + 20))).length:Int))=(J:Int):=by
  have h9:=dC z3 (show (0:Int) < 9 by decide);by_cases hc:z3 % 9 > ((dw (ns.map V.int) (some 8) (some (8 + 20))).length:Int)
  ·exact⟨(z3 % 9).toNat,by omega,by rw[if_pos hc]; omega⟩
  ·exact⟨_,kC hc20 (by decide),by rw[if_neg hc]⟩
 have T:=u5.trans s5;have g:=T _ _ epl;have k:=T _ _ epo;have B:=R.trans T;dsimp only[fw,de];rw[em];clear em hc20 u5 s5 n5 u1 u2 s1 s2 s01 Y R u3 u4 en er;refine uQ (fun σ' H'=>aB H5 H'/\∃ many':Nat,many'<=57/\σ'=[some (.ref a),some (.int 20),some (.int 2),some (.int (nm:Int)),some (.int (rw:Int)),some (.ref pl),some (.ref po),some (.int (many':Int)),none]) (fun σ' H' h=>?_) (fun D' kk=>?_);rotate_left
 ·dsimp only[fh,jl,de,di];refine⟨_,rfl,rfl,_,rfl,cj (fun c=>?_) (fun _=>eI (kk _ _ ⟨fun _ _ e=>e,J,Z,rfl⟩))⟩;refine⟨_,rfl,a,ns,2,rfl,B.seq S,by decide,fun z6 H6 s6=>⟨_,_,rfl,rfl,(by decide:(0:Int) < 16),rfl,_,rfl,cj (fun _=>?_) (fun _=>kk _ _ ⟨s6,J,Z,rfl⟩)⟩⟩;refine⟨_,rfl,a,ns,2,rfl,(B.trans s6).seq S,by decide,fun z7 H7 s7=>⟨_,_,rfl,rfl,⟨by decide,by decide⟩,_,_,rfl,rfl,(by decide:(0:Int) < 18),_,_,rfl,rfl,kk _ _ ⟨s6.trans s7,(40 + z7 / 16 % 18).toNat,?_,?_⟩⟩⟩
  ·have:=dC (z7 / 16) (show (0:Int) < 18 by decide);omega
  ·have:=dC (z7 / 16) (show (0:Int) < 18 by decide);rw[Int.toNat_of_nonneg (by omega)];rfl
 obtain⟨sx,J,Z,rfl⟩:=h;replace g:=sx _ _ g;replace k:=sx _ _ k;replace B:=B.trans sx;clear sx T hx;rename_i H5';generalize hH:H'=H5 at g k B;clear hH;have sS:∀ {H':Hp},eD pl po H5 H'->aB H H':=fun b=>b.same B npl0 npo0
 refine⟨_,rfl,_,rfl,by omega,by omega,?_⟩;refine hX (n:=J) (fun j σ H'=>∃ ls os y8,eD pl po H5 H'/\ls.length=j/\os.length<=3/\GS K H' pl po nm rw ls os/\σ=[some (.ref a),some (.int 20),some (.int 2),some (.int (nm:Int)),some (.int (rw:Int)),some (.ref pl),some (.ref po),some (.int (J:Int)),y8])
  ⟨[],[],_,.of (fun _ _ e=>e),rfl,by decide,⟨⟨[],g,aq⟩,⟨[],k,aq⟩,hne,fun l hl=>by simp at hl,fun p hp=>by simp at hp⟩,rfl⟩ (fun j σ H' hj h=>?_) (fun σ H' h=>?_)
 ·obtain⟨ls,os,y8,b,ll,lo,G,rfl⟩:=h;refine⟨_,rfl,_,rfl,_,rfl,_,rfl,_,_,rfl,rfl,a,ns,_,0,rfl,(sS b).seq S,by omega,.inl rfl,fun z H6 _ s6=>?_⟩;refine⟨_,rfl,_,rfl,pl,po,z,nm,rw,ls,os,rfl,G.same s6,lo,hnm,hrw,by omega,fun H7 ls7 os7 b7 l7 o7 G7=>?_⟩;exact⟨ls7,os7,_,b.trans ((eD.of s6).trans b7),by omega,o7,G7,rfl⟩
 obtain⟨ls,os,y8,b,ll,lo,G,rfl⟩:=h;refine⟨fun m σ H'=>∃ ls os,os.length=m/\eD pl po H5 H'/\ls.length + os.length<=60/\GS K H' pl po nm rw ls os/\σ=[some (.ref a),some (.int 20),some (.int 2),some (.int (nm:Int)),some (.int (rw:Int)),some (.ref pl),some (.ref po),some (.int (J:Int)),y8],⟨_,ls,os,rfl,b,by omega,G,rfl⟩,fun m σ H6 h=>?_⟩;clear b ll lo G;obtain⟨ls,os,rfl,b,hll,G,rfl⟩:=h;obtain⟨xs,el,il⟩:=G.l;obtain⟨zs,eo,io⟩:=G.o;have lx:=bM il;have lz:zs.length=os.length:=by have:=io.length; rw[bL]at this; exact this.symm
 refine⟨_,rfl,po,zs,rfl,.inl (bp.of eo),_,_,rfl,rfl,_,rfl,cj (fun cb=>⟨fun σ' H'=>∃ m',m' < os.length/\∃ ls os,os.length=m'/\eD pl po H5 H'/\ls.length + os.length<=60/\GS K H' pl po nm rw ls os/\σ'=[some (.ref a),some (.int 20),some (.int 2),some (.int (nm:Int)),some (.int (rw:Int)),some (.ref pl),some (.ref po),some (.int (J:Int)),y8],fun _ _ h=>h,?_⟩) (fun cb=>?_)⟩
 ·have hz:0 < zs.length:=by have:=jV cb; omega
  obtain⟨r,p,eos⟩:∃ r p,os=r++[p]:=by
   rcases List.eq_nil_or_concat os with z | ⟨a,b,z⟩
   ·rw[z,xq]at lz; omega
   ·exact⟨a,b,by rw[z,List.concat_eq_append]⟩
  obtain⟨hh,x⟩:=p;rw[eos]at G;have lo':os.length=r.length + 1:=by rw[eos,dE,nv]
  refine⟨_,rfl,_,rfl,_,rfl,pl,xs,rfl,.inl (bp.of el),pl,po,_,nm,rw,ls,r,hh,x,rfl,G,by omega,fun H7 ls7 b7 l7 g7=>?_⟩;exact⟨r.length,by omega,ls7,r,rfl,b.trans b7,by omega,g7,rfl⟩
 refine⟨_,rfl,.inl ⟨rfl,_,bp.of el⟩,bJ rfl,fun t nt=>?_⟩;have u7:=ah nt (.tup [.str "end"]);obtain⟨xs7,e7,l7,G7⟩:=(G.same u7).app (by omega) (l:=.stop) (v:=.ref t) (aX (bu.of ae) (af bq aq)) ⟨trivial,trivial⟩;refine⟨pl,xs7,_,rfl,rfl,e7,l7,?_⟩;have b7:eD pl po H5 (upd (upd H6 t (.tup [.str "end"])) pl (.lst (xs7++[.ref t]))):=b.trans ((eD.of u7).trans .zS);obtain⟨xs8,C,M⟩:=G7.l;have ok8:=G7.ok;generalize upd (upd H6 t (.tup [.str "end"])) pl (.lst (xs7++[.ref t]))=H8 at b7 C M;have ll8:(ls++[Ln.stop]).length=ls.length + 1:=by rw[dE,nv]
 generalize ls++[Ln.stop]=I at M ok8 ll8;have hl8:0 < I.length/\I.length<=61:=by omega
 clear G G7 e7 l7 u7 nt io il el eo lx lz cb hll b ll8;have s08:=sS b7;have lx8:=bM M;refine⟨_,rfl,pl,rfl,⟨_,bp.of C⟩,fun pc npc=>?_⟩;have npc0:=aD s08 npc;refine eU (xs:=xs8) (fun i H'=>aB H8 H'/\∃ O,H' pc=some (.lst O)/\IsL K H' (((I.take i).map (f7 (I.length - 1))).map Ln.D) O) ⟨ah npc _,[],ae,aq⟩ (fun i H' _ h=>bp.of (h.1 _ _ C)) (fun i y H' ey h=>?_) (fun H' h=>?_)
 ·obtain⟨s9,O,ea,ia⟩:=h;have hi:i < I.length:=by have:=(dJ.mp ey).1; omega
  obtain⟨v',ev',iv'⟩:=M.get (j:=i) (d:=I[i].D) (by rw[g6,cL hi]; rfl);rw[ey]at ev';cases ev';refine⟨⟨[some y],rfl,rfl⟩,bR ?_⟩;refine⟨_,rfl,_,rfl,pl,xs8,rfl,.inl (bp.of (s9 _ _ C)),_,_,rfl,rfl,y,I[i],I.length - 1,by rw[show ((I.length - 1:Nat):Int)=(xs8.length:Int) - 1 by omega],iv'.mono s9.aA,fun _ v2 H9 s10 i10=>?_⟩;have ea9:=s10 _ _ ea;have la:O.length=i:=by have:=ia.length; rw[bL,bL,gx,Nat.min_eq_left (vm hi)]at this; exact this.symm
  refine⟨O,ea9,aN (by omega),aB.new (s9.trans s10) npc,O++[v2],ae,?_⟩;have tl:=bK.lst (ys:=O++[v2]) ea9;rw[kX,cL hi,B1,dH,dH];exact IsL.append ((ia.mono s10.aA).mono tl) (af (i10.mono tl) aq)
 obtain⟨s9,O,ea,ia⟩:=h;rw[lx8,yE (bH _)]at ia;have ll9:(I.map (f7 (I.length - 1))).length=I.length:=bL ..;have ok9:∀ l∈I.map (f7 (I.length - 1)),xA nm rw (I.map (f7 (I.length - 1))).length l:=fun l hl=>by
  obtain⟨l0,h0,rfl⟩:=eW.mp hl;rw[ll9];exact Bh (ok8 l0 h0) (by omega)
 have hl9:0 < (I.map (f7 (I.length - 1))).length/\(I.map (f7 (I.length - 1))).length<=61:=by omega
 generalize I.map (f7 (I.length - 1))=ls9 at ia ok9 ll9 hl9;have s09:=s08.trans s9;clear s9 s08 b7 C M ok8 lx8 ll9;refine⟨bJ rfl,fun p3 n3=>?_⟩;have u3:=ah n3 (.lst [.int 1,.int 2,.int 3,.int 0,.int 0,.int 0,.int 0,.int 0]);refine⟨_,rfl,a,ns,3,rfl,(s09.trans u3).seq S,by decide,fun z4 Ha sa=>?_⟩;obtain⟨more,hmore,e4⟩:=Dy (z4 / 8);refine⟨_,_,rfl,rfl,⟨by decide,by decide⟩,_,_,rfl,rfl,(by decide:(0:Int) < 8),p3,_,_,_,rfl,rfl,bp.of (sa _ _ ae),e4,_,rfl,by omega,by omega,?_⟩;have W:=u3.trans sa;have eaa:=W _ _ ea;have iaa:=ia.mono W.aA;have s0a:=s09.trans W;clear W s09 u3 sa e4 ia ea n3;refine hX (n:=more) (fun j σ H'=>∃ ls O y8,aB H H'/\H' pc=some (.lst O)/\IsL K H' (ls.map Ln.D) O/\ls.length=ls9.length + j/\(∀ l∈ls,xA nm rw ls.length l)/\σ=[some (.ref a),some (.int 20),some (.int 2),some (.int (nm:Int)),some (.int (rw:Int)),some (.ref pc),some (.ref po),some (.int (J:Int)),y8])
  ⟨ls9,O,_,s0a,eaa,iaa,rfl,ok9,rfl⟩ (fun j σ H' hj h=>?_) (fun σ H' h=>?_)
 ·obtain⟨L,U,yb,sb,eb,ib,lb,okb,rfl⟩:=h;have la:=bM ib;refine⟨_,rfl,.inl ⟨rfl,_,bp.of eb⟩,_,rfl,a,ns,3,rfl,sb.seq S,by decide,fun zc Hc sc=>⟨_,rfl,zc,_,rfl,fun ic _=>?_⟩⟩;have ebc:=sc _ _ eb;refine⟨_,rfl,pc,U,rfl,.inl (bp.of ebc),_,rfl,ic,U.length,nm,rw,rfl,by omega,fun l v Hd gl sd idd=>?_⟩;have ebd:=sd _ _ ebc;have tl:=bK.lst (ys:=U++[v]) ebd;have lab:(L++[l]).length=L.length + 1:=by rw[dE,nv]
  refine⟨pc,U,v,rfl,rfl,ebd,aN (by omega),L++[l],U++[v],_,aB.new (sb.trans (sc.trans sd)) npc0,ae,?_,by omega,fun x hx=>?_,rfl⟩
  ·rw[dH];exact IsL.append ((ib.mono (sc.trans sd).aA).mono tl) (af (idd.mono tl) aq)
  ·rcases fY.mp hx with hx | hx
   ·exact (okb x hx).mono (by omega)
   ·rw[fS.mp hx]; exact gl.mono (by omega)
 obtain⟨L,U,yb,sb,eb,ib,lb,okb,rfl⟩:=h;refine⟨_,rfl,_,rfl,_,rfl,bJ rfl,fun t nt=>?_⟩;have ut:=ah nt (.tup [.int (nm:Int),.int (rw:Int),.ref pc]);exact q _ t pc nm rw L (sb.trans ut) ⟨bu.of ae,⟨U,bp.of (ut _ _ eb),ib.mono ut.aA⟩,hnm,hrw,by omega,by omega,fun l hl=>(okb l hl).1⟩ (fun l hl=>(okb l hl).2)
abbrev jY:Stmt:=top 38
abbrev dA:Stmt:=top 39
theorem uO:aW ["_law_y"] ["_law_y"] (av jY):=by walk_at "k"
theorem bA:aW qA Iz (av dA):=by walk_at "k"
inductive sY(K:aL)(vs:List V)(H:Hp)(Q:VK)(E:XK):Prop|m(y:Option Nat)(_:vs=[aV y])(_:∀ v H',aB H H'->Is K H' (eE y).D v->Q v H')
inductive A8(K:aL)(vs:List V)(H:Hp)(Q:VK)(E:XK):Prop|m(tp al:Addr)(nm rw:Nat)(ls:List Ln)(_:vs=[.ref tp])(_:ja K H tp al nm rw ls)(_:(∀ l∈ls,l.Sm))(_:∀ (H':Hp) (p:Addr) (xs:List V) (ss:List Bd),aB H H'->H' p=some (.lst xs)->H p=none->IsL K H' (ss.map Bd.D) xs->tw ss (gb nm rw ls)->ss.length<=8000->Q (.ref p) H')
theorem qP{rw k:Nat}(h:k < nm):(aC nm rw)[k + 1]?=some (.name k):=by
 unfold aC cS;rw[List.getElem?_cons_succ,xB (by rw[bL,kY]; exact h),g6,List.getElem?_range h]; rfl
theorem rS{rw k:Nat}(h:k < rw):(aC nm rw)[nm + k + 1]?=some (.len k):=by
 unfold aC cS gr;rw[List.getElem?_cons_succ,ue (by rw[bL,kY]; lia),bL,kY,Nat.add_sub_cancel_left,g6,List.getElem?_range h]; rfl
theorem lU{rw k:Nat}{a:Nd}(h:(aC nm rw)[k]?=some a):(k=0/\a=.zero)\/(∃ x,k=x + 1/\x < nm/\a=.name x)\/(∃ r,k=nm + r + 1/\r < rw/\a=.len r):=by
 have J:k < nm + rw + 1:=by have:=(dJ.mp h).1; rw[gW]at this; exact this
 by_cases I:k=0
 ·subst I;have h:some Nd.zero=some a:=h;cases h;exact .inl ⟨rfl,rfl⟩
 by_cases h1:k<=nm
 ·obtain⟨x,rfl⟩:∃ x,k=x + 1:=⟨k - 1,by lia⟩
  rw[qP (by lia)]at h;cases h;exact .inr (.inl ⟨x,rfl,by lia,rfl⟩)
 ·obtain⟨r,rfl⟩:∃ r,k=nm + r + 1:=⟨k - nm - 1,by lia⟩
  rw[rS (by lia)]at h;cases h;exact .inr (.inr ⟨r,rfl,by lia,rfl⟩)
theorem kx{rw k:Nat}{a:Nd}(h:(aC nm rw)[k]?=some a):a.isName=true↔1<=k/\k<=nm:=by
 rcases lU h with ⟨rfl,rfl⟩ | ⟨x,rfl,I,rfl⟩ | ⟨r,rfl,I,rfl⟩
 ·exact⟨fun z=>(nomatch z),fun z=>absurd z.1 (by lia)⟩
 ·exact⟨fun _=>⟨by lia,by lia⟩,fun _=>rfl⟩
 ·exact⟨fun z=>(nomatch z),fun z=>absurd z.2 (by lia)⟩
theorem B4{rw k:Nat}{a:Nd}(h:(aC nm rw)[k]?=some a)(h':(aC nm rw)[j]?=some b):a=b↔k=j:=by
 constructor
 ·intro e;rcases lU h with ⟨rfl,rfl⟩ | ⟨x,rfl,J,rfl⟩ | ⟨r,rfl,J,rfl⟩ <;> rcases lU h' with ⟨rfl,rfl⟩ | ⟨x',rfl,I,rfl⟩ | ⟨O,rfl,I,rfl⟩ <;> cases e <;> rfl
 ·rintro rfl
  rw[h]at h';cases h'; rfl
theorem C9{a:Nd}{c:Bool}(h:c=true↔a≠b/\(a.isName=true\/b.isName=true)):(eM a b).filter Bd.un=if c=true then [⟨a,b,0⟩,⟨a,b,-1⟩] else []:=by
 unfold eM;by_cases h1:(a.isName || b.isName)=true
 ·rw[if_pos h1];have h2:a.isName=true\/b.isName=true:=by simpa using h1
  by_cases e:a=b
  ·rw[if_neg (fun z=>(h.mp z).1 e),List.filter_cons_of_neg (fun z=>ki.mp z e),List.filter_cons_of_neg (fun z=>ki.mp z e),List.filter_nil]
  ·rw[if_pos (h.mpr ⟨e,h2⟩),List.filter_cons_of_pos (ki.mpr e),List.filter_cons_of_pos (ki.mpr e),List.filter_nil]
 ·rw[if_neg h1,if_neg (fun z=>h1 (by simpa using (h.mp z).2)),List.filter_nil]
def Ln.p1:Ln->List Bd
 | .test y w c _ _=>if y=w then [] else [⟨eE y,eE w,c⟩,⟨eE y,eE w,c + 1⟩,⟨eE w,eE y,-1 - c⟩,⟨eE w,eE y,-c⟩]
 | _=>[]
def Ln.p2:Ln->List Bd
 | .deed (.set x none c) _=>[⟨.name x,.zero,c⟩,⟨.zero,.name x,-c⟩]
 | _=>[]
def Ln.p3:Ln->List Bd
 | .ask bs _ _=>bs.filter Bd.un
 | _=>[]
theorem lB{w:Option Nat}(h:eE y=eE w):y=w:=by
 cases y <;> cases w <;> first | rfl | (cases h; done) | skip
 ·cases h; rfl
theorem filter_all{α:Type}{p:α->Bool}:∀ {l:List α},(∀ x∈l,p x=true)->l.filter p=l
 | [],_=>rfl
 | x::l,h=>by rw[List.filter_cons_of_pos (h x gC),filter_all fun y hy=>h y (jd _ hy)]
theorem ow{α:Type}{p:α->Bool}:∀ {l:List α},(∀ x∈l,¬ p x=true)->l.filter p=[]
 | [],_=>rfl
 | x::l,h=>by rw[List.filter_cons_of_neg (h x gC),ow fun y hy=>h y (jd _ hy)]
theorem pj(l:Ln):l.uV.filter Bd.un=(l.p1++l.p2)++l.p3:=by
 cases l with
 | deed d m=>
  cases d with
  | set x y c=>
   cases y with
   | none=>rfl
   | some y=>rfl
  | _=>rfl
 | test y u c J O=>
  show (j7 ⟨eE y,eE u,c⟩).filter Bd.un=((if y=u then [] else _)++[])++[]
  rw[jL,jL];by_cases e:y=u
  ·rw[if_pos e];refine ow fun x I=>?_
   rw[ki,Classical.not_not];simp only[j7,d0,gh,or_false]at I;rcases I with rfl | rfl | rfl | rfl <;> rw[e]
  ·rw[if_neg e,filter_all fun x I=>?_]
   ·have:(-1 - c + 1:Int)=-c:=by lia
    unfold j7;rw[this]
   ·rw[ki];simp only[j7,d0,gh,or_false]at I;rcases I with rfl | rfl | rfl | rfl
    ·exact fun z=>e (lB z)
    ·exact fun z=>e (lB z)
    ·exact fun z=>e (lB z).symm
    ·exact fun z=>e (lB z).symm
 | ask bs J O=>rfl
 | stop=>rfl
theorem rD(h:l.Sm):l.uV.length<=4:=by
 cases l with
 | deed d m=>
  cases d with
  | set x y c=>
   cases y with
   | none=>exact bJ rfl
   | some y=>exact bJ rfl
  | _=>exact bJ rfl
 | test y u c I J=>exact bJ rfl
 | ask bs I J=>exact h.2
 | stop=>exact bJ rfl
theorem vS{K:aL}{H:Hp}:∀ {ss:List Bd} {xs:List V},IsL K H (ss.map Bd.D) xs->∃ bs:List Addr,xs=bs.map V.ref/\Paired (fun k b=>kM K H b k) (ss.map Bd.key) bs
 | [],xs,h=>⟨[],h.nil_inv,.nil⟩
 | q::ss,xs,h=>by
  obtain⟨v,r,rfl,a,t⟩:=h.cons_inv;obtain⟨bs,rfl,I⟩:=vS t;obtain⟨b,rfl,k⟩:=DF a;exact⟨b::bs,rfl,.cons k I⟩
theorem lq(e:H t=some (.tup [.str "zero"])):Is K H Nd.zero.D (.ref t):=aX (bu.of e) (af bq aq)
theorem u0(F:fL K "_law_node_of" "_law_node_of" jY f fd):b9 P w K mg base fM (n + 1) f fd ["_law_y"] (sY K):=by
 refine F.ok uO (by walk_at "l") (fun cdv A outer s H vs Q E J h=>?_);obtain⟨y,rfl,q⟩:=h
 refine⟨_,(@ak _ _ _ _ _ (ck (aF qe (pv 0) dR) (au (aQ (aE (aa a8 aj)))) bw)
   (au (aQ (aE (aa a8 (aa (pv 0) (aa ag aj))))))),?_⟩
 cases y with
 | none=>exact⟨_,rfl,rfl,_,rfl,lL ⟨bJ rfl,fun t I=>q _ _ (ah I _) (lq ae)⟩⟩
 | some x=>exact⟨_,rfl,rfl,_,rfl,eI ⟨_,rfl,bJ rfl,fun t I=>q _ _ (ah I _) (k8 (x:=x) (v:=0) ae)⟩⟩
structure Fd (K:aL) (H0 H:Hp) (pf:Addr) (bs:List Bd):Prop where
 s:aB H0 H
 l:∃ acc,H pf=some (.lst acc)/\IsL K H (bs.map Bd.D) acc
theorem Fd.same{pf:Addr}{bs:List Bd}(h:Fd K H0 H pf bs)(s:aB H H'):Fd K H0 H' pf bs:=⟨h.s.trans s,let ⟨acc,e,i⟩:=h.l; ⟨acc,s _ _ e,i.mono s.aA⟩⟩
theorem Fd.cat{pf:Addr}{bs cs:List Bd}(h:Fd K H0 H pf bs)(e:H pl=some (.lst ys))(i:IsL K H (cs.map Bd.D) ys)(hl:bs.length + cs.length<=1000)(q:∀ p H',Fd K H0 H' p (bs++cs)->Q (.ref p) H'):G8 (.ref pf) (.ref pl) H Q:=by
 obtain⟨s,I,J,ia⟩:=h;have l1:=ia.length;have l2:=i.length;rw[bL]at l1 l2;refine⟨pf,pl,I,ys,rfl,rfl,J,e,small (by lia),fun p np=>q p _ ⟨s.trans (ah np _),I++ys,ae,?_⟩⟩;rw[dH];exact IsL.append (ia.mono (ah np _).aA) (i.mono (ah np _).aA)
theorem sX{Q:Bool->Hp->Prop}{x:Nat}(hi:σ[i]?=some (some (.int (x:Int))))(hj:σ[j]?=some (some (.int (m:Int))))(b:Bool)(hb:b=true↔1<=x/\x<=m)(q:Q b H) :
  Aa (Bq (Bz fun i j=>.bl (decide (i<=j))) (Bz fun i j=>.bl (decide (i<=j))) (tC (.int 1)) (BN i) (BN j)) σ H Q:=by
 refine⟨_,hi,_,_,rfl,rfl,_,rfl,cj (fun c=>⟨_,hj,_,_,rfl,rfl,_,rfl,?_⟩) (fun c=>⟨_,rfl,?_⟩)⟩
 ·have h1:=jV c;have:decide ((x:Int)<=(m:Int))=b:=Bool.eq_iff_iff.mpr (by rw[hb,decide_eq_true_iff]; constructor <;> intro h <;> lia);rw[this]; exact q
 ·have:b=false:=Bool.eq_false_iff.mpr fun z=>c (gp (by have:=hb.mp z; lia))
  rw[<-this]; exact q
theorem xO(y u:Option Nat):E8 (aV y) (aV u)=true:=by cases y <;> cases u <;> rfl
theorem Ak{u:Option Nat}(h:aV y=aV u):y=u:=by
 cases y with
 | none=>cases u with
  | none=>rfl
  | some z=>cases h
 | some x=>cases u with
  | none=>cases h
  | some z=>
   injection h with h;rw[Int.ofNat.inj h]
theorem x8(F:fL K "_law_bounds" "_law_bounds" dA f fd)(m_sorted:mg "sorted" = none)(m_set:mg "set" = none)(m_enumerate:mg "enumerate" = none)(m_range:mg "range" = none)(c_law_node_of:Cl P w K mg base "_law_node_of" n ["_law_y"] (sY K)) :
  b9 P w K mg base fM (n + 1) f fd Iz (A8 K):=by
 refine F.ok bA (by walk_at "l") (fun cdv A outer s H vs Q E hr h=>?_);obtain⟨tp,al,nm,rw,ls,rfl,hP,hSm,q⟩:=h;have hnm:=hP.ok.hn;have hrw:=hP.ok.hr;have l1:=hP.ok.l1;have hu9:(A.deeper (envOfC "_law_bounds" (av dA) s.heap.objs.size f cdv)).units + 9 < cLine:=by have:=hr.units; lia
 have hu8:(A.deeper (envOfC "_law_bounds" (av dA) s.heap.objs.size f cdv)).units + 1 + 9 < cLine:=by have:=hr.units; lia
 refine⟨_,(@ak _ _ _ _ _ (mO (pv 0) (jf rfl (bG (aG (i:=4) bA.nd rfl (Or.inl rfl)) (bG (aG (i:=5) bA.nd rfl (Or.inl rfl)) (bG (aG (i:=6) bA.nd rfl (Or.inl rfl)) eP)))))
   (@ak _ _ _ _ _ (ba (i:=1) bA.nd (ao eG (ao eG (br (aa (aE (aa a8 aj)) aj)) (D8 (j:=11) (y:="?") (cA ["_law_x"] rfl (cT (N:=["_law_program_here","_law_nodes","_law_found","_law_line","_law_names","_law_rows","_law_lines","_law_k","_law_a","_law_j","_law_b","?","_law_y","_law_w"]) (so:=av dA) rfl rfl (by decide +kernel)) (cK rfl m_range (aa (pv 4) aj)) (fun _ _ _ _ _ _=>(aG (i:=0) (show List.Nodup (α:=Str) ["_law_x","_law_program_here","_law_nodes","_law_found","_law_line","_law_names","_law_rows","_law_lines","_law_k","_law_a","_law_j","_law_b","?","_law_y","_law_w"] by decide +kernel) rfl (Or.inl rfl) (Or.inr rfl))) (fun _ _ _ _ _ _=>cD) (fun _ _ _ _ _ _=>(aE (aa a8 (aa (pv 0) (aa ag aj)))))))) (cA ["_law_r"] rfl (cT (N:=qA) (so:=av dA) rfl rfl (by decide +kernel)) (cK rfl m_range (aa (pv 5) aj)) (fun _ _ _ _ _ _=>(aG (i:=0) (show List.Nodup (α:=Str) ["_law_r","_law_program_here","_law_nodes","_law_found","_law_line","_law_names","_law_rows","_law_lines","_law_k","_law_a","_law_j","_law_b","_law_x","_law_y","_law_w"] by decide +kernel) rfl (Or.inl rfl) (Or.inr rfl))) (fun _ _ _ _ _ _=>cD) (fun _ _ _ _ _ _=>(aE (aa a8 (aa (pv 0) aj)))))))
   (@ak _ _ _ _ _ (ba (i:=2) bA.nd (br aj))
   (@ak _ _ _ _ _ (dg qW rfl (vX rfl m_enumerate (aa (pv 1) aj)) (jf rfl (bG (aG (i:=7) bA.nd rfl (Or.inl rfl)) (bG (aG (i:=8) bA.nd rfl (Or.inl rfl)) eP))) (au (dg qW rfl (vX rfl m_enumerate (aa (pv 1) aj)) (jf rfl (bG (aG (i:=9) bA.nd rfl (Or.inl rfl)) (bG (aG (i:=10) bA.nd rfl (Or.inl rfl)) eP))) (au (ck (PW.pt (eL (aF sJ (pv 7) (pv 9)) (du (PW.pt (mT (rl wj wj ag (pv 7) (pv 4)) (lN (rl wj wj ag (pv 9) (pv 4)))))))) (au (ba (i:=2) bA.nd (ao eG (pv 2) (br (aa (aE (aa (pv 8) (aa (pv 10) (aa ag aj)))) (aa (aE (aa (pv 8) (aa (pv 10) (aa (gJ fv ag) aj)))) aj)))))) bw)))))
   (@ak _ _ _ _ _ (dg qW rfl (cM (pv 6)) (aG (i:=3) bA.nd rfl (Or.inl rfl)) (@ak _ _ _ _ _ (ck (PW.pt (eL (aF cm (aU a9 (pv 3) ag) a8) (du (aF sJ (aU a9 (pv 3) ag) (aU a9 (pv 3) ag))))) (@ak _ _ _ _ _ (mO (cA ["_law_name"] rfl (cT (N:=qA) (so:=av dA) rfl rfl (by decide +kernel)) (mQ (cJ uR (pv 3) (cQ ag) (cQ ag))) (fun _ _ _ _ _ _=>(aG (i:=0) (show List.Nodup (α:=Str) ["_law_name","_law_program_here","_law_nodes","_law_found","_law_line","_law_names","_law_rows","_law_lines","_law_k","_law_a","_law_j","_law_b","_law_x","_law_y","_law_w"] by decide +kernel) rfl (Or.inl rfl) (Or.inr rfl))) (fun _ _ _ _ _ _=>cD) (fun _ _ _ _ _ _=>(aY c_law_node_of hr rfl (aa (pv 0) aj)))) (Ej rfl (bG (aG (i:=12) bA.nd rfl (Or.inl rfl)) (bG (aG (i:=13) bA.nd rfl (Or.inl rfl)) eP))))
   (au (ba (i:=2) bA.nd (ao eG (pv 2) (br (aa (aE (aa (pv 12) (aa (pv 13) (aa (aU a9 (pv 3) ag) aj)))) (aa (aE (aa (pv 12) (aa (pv 13) (aa (ao bj (aU a9 (pv 3) ag) ag) aj)))) (aa (aE (aa (pv 13) (aa (pv 12) (aa (ao gg (gJ fv ag) (aU a9 (pv 3) ag)) aj)))) (aa (aE (aa (pv 13) (aa (pv 12) (aa (gJ fv (aU a9 (pv 3) ag)) aj)))) aj))))))))) bw)
   (@ak _ _ _ _ _ (ck (PW.pt (eL (aF cm (aU a9 (pv 3) ag) a8) (du (aF qe (aU a9 (pv 3) ag) dR)))) (@ak _ _ _ _ _ (ba (i:=11) bA.nd (aY c_law_node_of hr rfl (aa (aU a9 (pv 3) ag) aj)))
   (au (ba (i:=2) bA.nd (ao eG (pv 2) (br (aa (aE (aa (pv 11) (aa (aE (aa a8 aj)) (aa (aU a9 (pv 3) ag) aj)))) (aa (aE (aa (aE (aa a8 aj)) (aa (pv 11) (aa (gJ fv (aU a9 (pv 3) ag)) aj)))) aj))))))) bw)
   (au (ck (aF cm (aU a9 (pv 3) ag) a8) (au (ba (i:=2) bA.nd (ao eG (pv 2) (cA ["_law_bound"] rfl (cT (N:=qA) (so:=av dA) rfl rfl (by decide +kernel)) (mQ (aU a9 (pv 3) ag)) (fun _ _ _ _ _ _=>(aG (i:=0) (show List.Nodup (α:=Str) ["_law_bound","_law_program_here","_law_nodes","_law_found","_law_line","_law_names","_law_rows","_law_lines","_law_k","_law_a","_law_j","_law_b","_law_x","_law_y","_law_w"] by decide +kernel) rfl (Or.inl rfl) (Or.inr rfl))) (fun _ _ _ _ _ _=>(jI (aF (wV (K:=K) (n:=9) rfl hu8) (aU (lj (K:=K) rfl) (pv 0) ag) (aU (lj (K:=K) rfl) (pv 0) ag)))) (fun _ _ _ _ _ _=>(pv 0)))))) bw)))))
   (au (aQ (BL rfl hu9 rfl m_sorted rfl m_set (aa (pv 2) aj))))))))),?_⟩
 refine⟨_,rfl,tp,_,rfl,hP.t,rfl,_,_,rfl,_,_,rfl,_,_,rfl,rfl,?_⟩;refine⟨bJ rfl,fun g ntz=>⟨bJ rfl,fun lz nlz=>?_⟩⟩;have M:=ah ntz (.tup [.str "zero"]);have u2:=ah nlz (.lst [.ref g]);have s1:=M.trans u2;have e1:upd (upd H g (.tup [.str "zero"])) lz (.lst [.ref g]) lz=some (.lst [.ref g]):=ae;have i1:Is K (upd (upd H g (.tup [.str "zero"])) lz (.lst [.ref g])) Nd.zero.D (.ref g):=lq (u2 _ _ ae);generalize upd (upd H g (.tup [.str "zero"])) lz (.lst [.ref g])=H1 at s1 e1 i1;refine⟨rfl,_,rfl,_,rfl,by lia,by lia,fun p np=>?_⟩;rw[qU];refine dW (n:=nm) (fun i H'=>aB H1 H'/\∃ I,H' p=some (.lst I)/\IsL K H' ((cS i).map Nd.D) I) ⟨ah np _,[],ae,aq⟩ (fun i H' hi h=>?_) (fun H2 h=>?_)
 ·obtain⟨sm,I,Y,ia⟩:=h;refine⟨⟨[some (.int (0 + (i:Int)))],rfl,rfl⟩,bR ?_⟩;rw[Int.zero_add];refine⟨_,rfl,bJ rfl,fun W n1=>?_⟩;have M:=ah n1 (.tup [.str "name",.int (i:Int),.int 0]);have la:=ia.length;unfold cS at la;rw[bL,bL,kY]at la;have R:=M _ _ Y;refine⟨I,R,aN (by lia),aB.new (sm.trans M) np,I++[.ref W],ae,?_⟩;have tl:=bK.lst (ys:=I++[.ref W]) R;rw[kn,dH];exact IsL.append ((ia.mono M.aA).mono tl) (af ((k8 (x:=i) (v:=0) ae).mono tl) aq)
 obtain⟨s2,I,Y,ia⟩:=h;have la:I.length=nm:=by have:=ia.length; unfold cS at this; rw[bL,bL,kY]at this; exact this.symm
 refine⟨lz,p,_,I,rfl,rfl,s2 _ _ e1,Y,small (by rw[nv]; lia),fun l3 nl3=>?_⟩;have u3:=ah nl3 (.lst ([.ref g]++I));have s23:=s2.trans u3;have e3:upd H2 l3 (.lst ([.ref g]++I)) l3=some (.lst ([.ref g]++I)):=ae;have ia3:=ia.mono u3.aA;generalize upd H2 l3 (.lst ([.ref g]++I))=H3 at s23 e3 ia3;refine⟨_,rfl,_,rfl,by lia,by lia,fun p4 np4=>?_⟩;rw[qU];refine dW (n:=rw) (fun i H'=>aB H3 H'/\∃ I,H' p4=some (.lst I)/\IsL K H' ((gr i).map Nd.D) I) ⟨ah np4 _,[],ae,aq⟩ (fun i H' hi h=>?_) (fun H4 h=>?_)
 ·obtain⟨sm,I,Y,ia⟩:=h;refine⟨⟨[some (.int (0 + (i:Int)))],rfl,rfl⟩,bR ?_⟩;rw[Int.zero_add];refine⟨_,rfl,bJ rfl,fun W n1=>?_⟩;have M:=ah n1 (.tup [.str "len",.int (i:Int)]);have la:=ia.length;unfold gr at la;rw[bL,bL,kY]at la;have R:=M _ _ Y;refine⟨I,R,aN (by lia),aB.new (sm.trans M) np4,I++[.ref W],ae,?_⟩;have tl:=bK.lst (ys:=I++[.ref W]) R;rw[lV,dH];exact IsL.append ((ia.mono M.aA).mono tl) (af ((yH (r:=i) ae).mono tl) aq)
 obtain⟨s4,Z,ea4,ia4⟩:=h;have la4:Z.length=rw:=by have:=ia4.length; unfold gr at this; rw[bL,bL,kY]at this; exact this.symm
 refine⟨l3,p4,_,Z,rfl,rfl,s4 _ _ e3,ea4,small (by rw[dE,nv]; lia),fun pn npn=>?_⟩;have T:=ah npn (.lst ([.ref g]++I++Z));have s05:=s1.trans (s23.trans (s4.trans T));have e5:upd H4 pn (.lst ([.ref g]++I++Z)) pn=some (.lst ([.ref g]++I++Z)):=ae;have i5:IsL K (upd H4 pn (.lst ([.ref g]++I++Z))) ((aC nm rw).map Nd.D) ([.ref g]++I++Z):=by
  unfold aC;rw[iU,dH];exact af (i1.mono (s23.trans (s4.trans T)).aA) (IsL.append (ia3.mono (s4.trans T).aA) (ia4.mono T.aA))
 generalize upd H4 pn (.lst ([.ref g]++I++Z))=H5 at s05 e5 i5;generalize [V.ref g]++I++Z=zs at e5 i5;clear s4 T ea4 ia4 ia3 e3 s23 u3 ia Y s2 s1 e1 i1;have lz':zs.length=(aC nm rw).length:=by have:=i5.length; rw[bL]at this; exact this.symm
 have ln:=gW nm rw;refine⟨bJ rfl,fun pb npb=>?_⟩;have u6:=ah npb (.lst []);have F6:Fd K H5 (upd H5 pb (.lst [])) pb []:=⟨u6,[],ae,aq⟩
 generalize upd H5 pb (.lst [])=H6 at u6 F6;have hrow:∀ j:Nat,j<=(aC nm rw).length->((((aC nm rw).take j).flatMap (kh (aC nm rw))).filter Bd.un).length<=200:=fun j hj=>by
  have h1:=fu (f:=kh (aC nm rw)) (m:=20) (fun x=>by
   have:=fu (f:=eM x) (m:=2) (gF x) (aC nm rw)
   unfold kh; lia) ((aC nm rw).take j)
  rw[gx]at h1;exact kC (Bp _ _) (by lia)
 have hpair:∀ (a:Nd) (j:Nat),j<=(aC nm rw).length->((((aC nm rw).take j).flatMap (eM a)).filter Bd.un).length<=20:=fun a j hj=>by
  have h1:=fu (f:=eM a) (m:=2) (gF a) ((aC nm rw).take j);rw[gx]at h1;exact kC (Bp _ _) (by lia)
 refine⟨_,rfl,pn,rfl,⟨_,bp.of (u6 _ _ e5)⟩,?_⟩;refine sU (xs:=zs) (fun j σ H'=>∃ pf y7 y8 y9 C,Fd K H5 H' pf ((((aC nm rw).take j).flatMap (kh (aC nm rw))).filter Bd.un)/\σ=[some (.ref tp),some (.ref pn),some (.ref pf),none,some (.int (nm:Int)),some (.int (rw:Int)),some (.ref al),y7,y8,y9,C,none,none,none])
  ⟨pb,_,_,_,_,F6,rfl⟩ (fun j σ H' _ h=>?_) (fun j y σ H7 t ey h nt=>?_) (fun σ H7 h=>?_)
 ·obtain⟨_,_,_,_,_,F,_⟩:=h;exact bp.of (F.s _ _ e5)
 ·obtain⟨pf,y7,y8,y9,C,F7,rfl⟩:=h;have hj:j < (aC nm rw).length:=by have:=(dJ.mp ey).1; lia
  have eA:=cL hj;obtain⟨y',S,iy⟩:=i5.get (j:=j) (d:=(aC nm rw)[j].D) (by rw[g6,eA]; rfl);rw[ey]at S; cases S;generalize (aC nm rw)[j]=a at eA iy;have hr7:=hrow j (vm hj);refine⟨t,_,rfl,bu.of ae,rfl,_,_,rfl,_,_,rfl,rfl,?_⟩;have G:=F7.same (ah nt (.tup [.int (j:Int),y]));generalize upd H7 t (.tup [.int (j:Int),y])=H8 at G;refine⟨_,rfl,pn,rfl,⟨_,bp.of (G.s _ _ e5)⟩,?_⟩;refine sU (xs:=zs) (fun i σ H'=>∃ pf y9 C,Fd K H5 H' pf ((((aC nm rw).take j).flatMap (kh (aC nm rw))).filter Bd.un++(((aC nm rw).take i).flatMap (eM a)).filter Bd.un)/\σ=[some (.ref tp),some (.ref pn),some (.ref pf),none,some (.int (nm:Int)),some (.int (rw:Int)),some (.ref al),some (.int (j:Int)),some y,y9,C,none,none,none])
   ⟨pf,_,_,by rw[BG,List.flatMap_nil,List.filter_nil,jL]; exact G,rfl⟩ (fun i σ H' _ h=>?_) (fun i z σ H9 t2 ez h nt2=>?_) (fun σ H9 h=>?_)
  ·obtain⟨_,_,_,F,_⟩:=h;exact bp.of (F.s _ _ e5)
  ·obtain⟨pg,y9,C,F9,rfl⟩:=h;have hi:i < (aC nm rw).length:=by have:=(dJ.mp ez).1; lia
   have eB:=cL hi;obtain⟨z',ez',iz⟩:=i5.get (j:=i) (d:=(aC nm rw)[i].D) (by rw[g6,eB]; rfl);rw[ez]at ez'; cases ez';generalize (aC nm rw)[i]=b at eB iz;have hp9:=hpair a i (vm hi);refine⟨t2,_,rfl,bu.of ae,rfl,_,_,rfl,_,_,rfl,rfl,?_⟩;replace F9:=F9.same (ah nt2 (.tup [.int (i:Int),z]));generalize upd H9 t2 (.tup [.int (i:Int),z])=Ha at F9;have hcc:decide (j≠i/\((1<=j/\j<=nm)\/(1<=i/\i<=nm)))=true↔a≠b/\(a.isName=true\/b.isName=true):=by
    rw[decide_eq_true_iff,kx eA,kx eB,Ne,Ne,B4 eA eB]
   rw[gj eB,DS,C9 hcc,<-iD];refine AD (decide (j≠i/\((1<=j/\j<=nm)\/(1<=i/\i<=nm)))) (fun Q' kk=>?_) (fun Hb sb=>?_)
   ·replace kk:=kk Ha (.refl _);refine⟨_,rfl,_,rfl,rfl,_,rfl,cj (fun c=>?_) (fun c=>?_)⟩
    ·have hne:j≠i:=fun e=>by rw[e]at c; simp at c
     refine sX rfl rfl (decide (1<=j/\j<=nm)) decide_eq_true_iff (cj (fun c1=>?_) (fun c1=>?_))
     ·have:decide (j≠i/\((1<=j/\j<=nm)\/(1<=i/\i<=nm)))=true:=gp ⟨hne,.inl (jV c1)⟩;rw[this]at kk; exact kk
     ·refine sX rfl rfl (decide (1<=i/\i<=nm)) decide_eq_true_iff ?_;have:decide (j≠i/\((1<=j/\j<=nm)\/(1<=i/\i<=nm)))=decide (1<=i/\i<=nm):=BH.mpr ⟨fun h=>h.2.resolve_left fun h=>c1 (gp h),fun h=>⟨hne,.inr h⟩⟩;rw[this]at kk; exact kk
    ·have he:j=i:=Bx fun z=>c (by
      rw[iK (p:=V.int (j:Int)=V.int (i:Int)) (fun e=>z (by injection e with e; lia))]; rfl)
     have:decide (j≠i/\((1<=j/\j<=nm)\/(1<=i/\i<=nm)))=false:=iK fun h=>h.1 he
     rw[this]at kk; exact kk
   ·have Fb:=F9.same sb;generalize decide (j≠i/\((1<=j/\j<=nm)\/(1<=i/\i<=nm)))=O;cases O with
    | false=>exact eI ⟨pg,_,_,by rw[if_neg eN,jL]; exact Fb,rfl⟩
    | true=>
     rw[if_pos rfl,if_pos rfl];refine⟨_,rfl,_,rfl,_,rfl,bJ rfl,fun W n1=>⟨_,rfl,_,rfl,_,rfl,bJ rfl,fun t2 n2=>⟨bJ rfl,fun pl npl=>?_⟩⟩⟩;have M:=ah n1 (.tup [y,z,.int 0]);have u2:=ah n2 (.tup [y,z,.int (-1)]);have u3:=ah npl (.lst [.ref W,.ref t2]);have L:=M.trans (u2.trans u3);have sy:=(Fb.s.trans L).aA;have x1:Is K (upd (upd (upd Hb W (.tup [y,z,.int 0])) t2 (.tup [y,z,.int (-1)])) pl (.lst [.ref W,.ref t2])) (Bd.D ⟨a,b,0⟩) (.ref W):=gu (q:=⟨a,b,0⟩) ((u2.trans u3) _ _ ae) (iy.mono sy) (iz.mono sy);have x2:Is K (upd (upd (upd Hb W (.tup [y,z,.int 0])) t2 (.tup [y,z,.int (-1)])) pl (.lst [.ref W,.ref t2])) (Bd.D ⟨a,b,-1⟩) (.ref t2):=gu (q:=⟨a,b,-1⟩) (u3 _ _ ae) (iy.mono sy) (iz.mono sy);exact (Fb.same L).cat (cs:=[⟨a,b,0⟩,⟨a,b,-1⟩]) ae (af x1 (af x2 aq)) (by rw[dE]; simp only[jU,xq]; lia) fun p' H' F'=>⟨p',_,_,F',rfl⟩
  ·obtain⟨pg,y9,C,F9,rfl⟩:=h;rw[lz',mw]at F9;refine⟨pg,_,_,_,_,?_,rfl⟩;rw[gj eA,DS];exact F9
 obtain⟨pf,y7,y8,y9,C,F7,rfl⟩:=h;rw[lz',mw]at F7;change Fd K H5 H7 pf ((dB (aC nm rw)).filter Bd.un) at F7;obtain⟨xl,hal,il⟩:=(hP.same s05).l;have lxl:xl.length=ls.length:=bM il;have lbt:((dB (aC nm rw)).filter Bd.un).length<=200:=kC (Bp _ _) (kB hnm hrw);have hgb:gb nm rw ls=(dB (aC nm rw)).filter Bd.un++(ls.flatMap Ln.uV).filter Bd.un:=by unfold gb iJ; rw[DS]
 generalize (dB (aC nm rw)).filter Bd.un=B at F7 lbt hgb;have hls:∀ j:Nat,j<=ls.length->(((ls.take j).flatMap Ln.uV).filter Bd.un).length<=280:=fun j hj=>by
  have h1:=lh (l:=ls.take j) (f:=Ln.uV) (m:=4) fun x hx=>rD (hSm x (List.mem_of_mem_take hx))
  rw[gx]at h1;exact kC (Bp _ _) (by lia)
 refine⟨_,rfl,al,rfl,⟨_,F7.s.seq hal⟩,?_⟩;refine d9 (xs:=xl) (fun j σ H'=>∃ pf y3 y11 y12 y13,Fd K H5 H' pf (B++((ls.take j).flatMap Ln.uV).filter Bd.un)/\σ=[some (.ref tp),some (.ref pn),some (.ref pf),y3,some (.int (nm:Int)),some (.int (rw:Int)),some (.ref al),y7,y8,y9,C,y11,y12,y13])
  ⟨pf,_,_,_,_,by rw[BG,List.flatMap_nil,List.filter_nil,jL]; exact F7,rfl⟩ (fun j σ H' _ h=>?_) (fun j y σ H8 ey h=>?_) (fun σ H8 h=>?_)
 ·obtain⟨_,_,_,_,_,F,_⟩:=h;exact F.s.seq hal
 ·obtain⟨pf,y3,y11,y12,y13,G,rfl⟩:=h;have hj:j < ls.length:=by have:=(dJ.mp ey).1; lia
  have eA:=cL hj;obtain⟨y',S,iy⟩:=il.get (j:=j) (d:=ls[j].D) (by rw[g6,eA]; rfl);rw[ey]at S; cases S;have hl8:=hls j (vm hj);have hl1:=rD (hSm _ (wN hj));have okl:=hP.ok.ok _ (wN hj);rw[gj eA,DS,<-iD];have hB8:(B++((ls.take j).flatMap Ln.uV).filter Bd.un).length<=480:=by rw[dE]; lia
  have hlp:((ls[j].p1++ls[j].p2)++ls[j].p3).length<=4:=by rw[<-pj]; exact kC (Bp _ _) hl1
  rw[pj];generalize B++((ls.take j).flatMap Ln.uV).filter Bd.un=B8 at G hB8;generalize ls[j]=l at iy okl hlp;rw[dE,dE]at hlp;obtain⟨a,vs,rfl,hq,il⟩:=mI iy;dsimp only[de];refine uQ (fun σ' H'=>∃ pf y11 y12 y13,Fd K H5 H' pf (B8++l.p1)/\σ'=[some (.ref tp),some (.ref pn),some (.ref pf),some (.ref a),some (.int (nm:Int)),some (.int (rw:Int)),some (.ref al),y7,y8,y9,C,y11,y12,y13]) (fun σ' H9 h=>?_) (fun D' kk=>?_);rotate_left
  ·have o:=G.s.aA.sq hq;dsimp only[fh,jl,de,di];refine⟨_,rfl,a,_,0,_,rfl,rfl,o,gQ _ _,rfl,_,rfl,cj (fun c=>?_) (fun c=>eI (kk _ _ ⟨pf,_,_,_,?_,rfl⟩))⟩;rotate_left
   ·have:l.p1=[]:=by
     cases l with
     | test y u O m1 m2=>exact absurd rfl (o8 c)
     | _=>rfl
    rw[this,jL]; exact G
   obtain⟨J,U,O,m1,m2,rfl⟩:=oj (nW c);obtain⟨r1,rfl,i1⟩:=nH il;obtain⟨r2,rfl,i2⟩:=nH i1;obtain⟨r3,rfl,i3⟩:=fT i2;obtain⟨r4,rfl,i4⟩:=fT i3;obtain⟨r5,rfl,i5'⟩:=fT i4;cases i5'.nil_inv;refine⟨_,rfl,a,_,1,_,rfl,rfl,o,yP _ _ _,_,rfl,a,_,2,_,rfl,rfl,o,at2 _ _ _ _,xO _ _,_,rfl,cj (fun c2=>?_) (fun c2=>kk _ _ ⟨pf,_,_,_,?_,rfl⟩)⟩;rotate_left
   ·have e:J=U:=Bx fun z=>c2 (by rw[iK (fun e=>z (Ak e))]; rfl)
    have:(Ln.test J U O m1 m2).p1=[]:=if_pos e;rw[this,jL]; exact G
   have hne:J≠U:=fun e=>by rw[e]at c2; simp at c2
   have ep:(Ln.test J U O m1 m2).p1=[⟨eE J,eE U,O⟩,⟨eE J,eE U,O + 1⟩,⟨eE U,eE J,-1 - O⟩,⟨eE U,eE J,-O⟩]:=if_neg hne;rw[ep]at kk;refine⟨_,rfl,_,rfl,_,rfl,a,_,rfl,o,(by intro z; exact absurd z.1 (show ¬ HT.dm 6 0 (some 1)=0 by decide)),fun p1 n1=>?_⟩;rw[show dw [V.str (Ln.test J U O m1 m2).word,aV J,aV U,.int O,.int (m1:Int),.int (m2:Int)] (some 1) (some 3)=[aV J,aV U] from rfl];have e1:upd H8 p1 (.tup [aV J,aV U]) p1=some (.tup [aV J,aV U]):=ae;replace G:=G.same (ah n1 (.tup [aV J,aV U]));replace o:=G.s.aA.sq hq;generalize upd H8 p1 (.tup [aV J,aV U])=Ha at G e1 o;refine⟨p1,rfl,⟨_,bu.of e1⟩,fun pc npc=>?_⟩;refine fR (xs:=[aV J,aV U]) (fun i H'=>aB Ha H'/\∃ I,H' pc=some (.lst I)/\IsL K H' (([eE J,eE U].take i).map Nd.D) I) ⟨ah npc _,[],ae,aq⟩ (fun i H' _ h=>bu.of (h.1 _ _ e1)) (fun i x H' ex h=>?_) (fun H9 h=>?_)
   ·obtain⟨sm,I,Y,ia⟩:=h;obtain⟨w0,ew,rfl⟩:∃ w0,[eE J,eE U][i]?=some (eE w0)/\x=aV w0:=by
     have hi:i < 2:=(dJ.mp ex).1;have:i=0\/i=1:=by lia
     rcases this with rfl | rfl
     ·cases ex; exact⟨J,rfl,rfl⟩
     ·cases ex; exact⟨U,rfl,rfl⟩
    refine⟨⟨[some (aV w0)],rfl,rfl⟩,bR ⟨_,rfl,w0,rfl,fun v H2 s2 iv=>?_⟩⟩;have R:=s2 _ _ Y;have la:=ia.length;have l2:([eE J,eE U].take i).length<=2:=by rw[gx]; exact BB _ _
    rw[bL]at la;have tl:=bK.lst (ys:=I++[v]) R;refine⟨I,R,aN (by lia),aB.new (sm.trans s2) npc,I++[v],ae,?_⟩;rw[kX,ew,B1,dH];exact IsL.append ((ia.mono s2.aA).mono tl) (af (iv.mono tl) aq)
   obtain⟨s9,I,ec,ic⟩:=h;obtain⟨v1,r,rfl,j1,ic⟩:=(show IsL K H9 [(eE J).D,(eE U).D] I from ic).cons_inv;obtain⟨v2,r,rfl,j2,ic⟩:=ic.cons_inv;cases ic.nil_inv;replace G:=G.same s9;replace o:=G.s.aA.sq hq;refine⟨pc,[v1,v2],rfl,bp.of ec,rfl,_,_,rfl,_,_,rfl,rfl,?_⟩;refine⟨_,rfl,_,rfl,_,rfl,_,rfl,a,_,3,_,rfl,rfl,o,DE _ _ _ _ _,bJ rfl,fun W n1=>?_⟩;have M:=ah n1 (.tup [v1,v2,.int O]);refine⟨_,rfl,_,rfl,_,rfl,a,_,3,_,rfl,rfl,M.aA.sq o,DE _ _ _ _ _,_,_,rfl,rfl,bJ rfl,fun t2 n2=>?_⟩;have u2:=ah n2 (.tup [v1,v2,.int (O + 1)]);have u12:=M.trans u2;refine⟨_,rfl,_,rfl,_,rfl,_,rfl,a,_,3,_,rfl,rfl,u12.aA.sq o,DE _ _ _ _ _,_,_,rfl,rfl,bJ rfl,fun t3 n3=>?_⟩;have u3:=ah n3 (.tup [v2,v1,.int (-1 - O)]);have L:=u12.trans u3;refine⟨_,rfl,_,rfl,_,rfl,a,_,3,_,rfl,rfl,L.aA.sq o,DE _ _ _ _ _,_,rfl,bJ rfl,fun t4 n4=>⟨bJ rfl,fun pl npl=>?_⟩⟩;have u4:=ah n4 (.tup [v2,v1,.int (-O)]);have T:=ah npl (.lst [.ref W,.ref t2,.ref t3,.ref t4]);have sA:=L.trans (u4.trans T);refine (G.same sA).cat (cs:=[⟨eE J,eE U,O⟩,⟨eE J,eE U,O + 1⟩,⟨eE U,eE J,-1 - O⟩,⟨eE U,eE J,-O⟩]) ae ?_ (by simp only[jU,xq]; lia) fun p' H' F'=>kk _ _ ⟨p',_,_,_,F',rfl⟩
   exact af (gu (q:=⟨eE J,eE U,O⟩) ((u2.trans (u3.trans (u4.trans T))) _ _ ae) (j1.mono sA.aA) (j2.mono sA.aA)) (af (gu (q:=⟨eE J,eE U,O + 1⟩) ((u3.trans (u4.trans T)) _ _ ae) (j1.mono sA.aA) (j2.mono sA.aA))
    (af (gu (q:=⟨eE U,eE J,-1 - O⟩) ((u4.trans T) _ _ ae) (j2.mono sA.aA) (j1.mono sA.aA)) (af (gu (q:=⟨eE U,eE J,-O⟩) (T _ _ ae) (j2.mono sA.aA) (j1.mono sA.aA)) aq)))
  obtain⟨pg,z11,z12,z13,F9,rfl⟩:=h;clear G;dsimp only[de];refine uQ (fun σ' H'=>∃ pf y11 y12 y13,Fd K H5 H' pf (B8++l.p1++l.p2)/\σ'=[some (.ref tp),some (.ref pn),some (.ref pf),some (.ref a),some (.int (nm:Int)),some (.int (rw:Int)),some (.ref al),y7,y8,y9,C,y11,y12,y13]) (fun σ' H10 h=>?_) (fun D' kk=>?_);rotate_left
  ·have o:=F9.s.aA.sq hq;dsimp only[fh,jl,de,di];refine⟨_,rfl,a,_,0,_,rfl,rfl,o,gQ _ _,rfl,_,rfl,cj (fun c=>?_) (fun c=>eI (kk _ _ ⟨pg,_,_,_,?_,rfl⟩))⟩;rotate_left
   ·have:l.p2=[]:=by
     cases l with
     | deed d m=>
      cases d with
      | set x y O=>exact absurd rfl (o8 c)
      | _=>rfl
     | _=>rfl
    rw[this,jL]; exact F9
   obtain⟨x,J,O,m,rfl⟩:=rm (nW c);obtain⟨r1,rfl,i1⟩:=fT il;obtain⟨r2,rfl,i2⟩:=nH i1;obtain⟨r3,rfl,i3⟩:=fT i2;refine⟨_,rfl,a,_,2,_,rfl,rfl,o,at2 _ _ _ _,rfl,_,rfl,?_⟩;cases J with
   | some J=>exact eI (kk _ _ ⟨pg,_,_,_,by rw[show (Ln.deed (.set x (some J) O) m).p2=[] from rfl,jL]; exact F9,rfl⟩)
   | none=>
    refine lL ⟨_,rfl,a,_,1,_,rfl,rfl,o,yP _ _ _,some x,rfl,fun v1 Ha sa j1=>?_⟩;replace F9:=F9.same sa;replace o:=F9.s.aA.sq hq;refine⟨_,rfl,_,rfl,bJ rfl,fun g ntz=>?_⟩;have M:=ah ntz (.tup [.str "zero"]);refine⟨_,rfl,a,_,3,_,rfl,rfl,M.aA.sq o,DE _ _ _ _ _,bJ rfl,fun W n1=>⟨bJ rfl,fun tz2 ntz2=>?_⟩⟩;have u2:=ah n1 (.tup [v1,.ref g,.int O]);have u3:=ah ntz2 (.tup [.str "zero"]);have L:=M.trans (u2.trans u3);refine⟨_,rfl,_,rfl,a,_,3,_,rfl,rfl,L.aA.sq o,DE _ _ _ _ _,_,rfl,bJ rfl,fun t2 n2=>⟨bJ rfl,fun pl npl=>?_⟩⟩;have u4:=ah n2 (.tup [.ref tz2,v1,.int (-O)]);have T:=ah npl (.lst [.ref W,.ref t2]);have sA:=L.trans (u4.trans T);refine (F9.same sA).cat (cs:=[⟨.name x,.zero,O⟩,⟨.zero,.name x,-O⟩]) ae ?_ ?_ fun p' H' F'=>kk _ _ ⟨p',_,_,_,F',rfl⟩
    ·exact af (gu (q:=⟨.name x,.zero,O⟩) ((u3.trans (u4.trans T)) _ _ ae) (j1.mono sA.aA) (lq ((u2.trans (u3.trans (u4.trans T))) _ _ ae))) (af (gu (q:=⟨.zero,.name x,-O⟩) (T _ _ ae) (lq ((u4.trans T) _ _ ae)) (j1.mono sA.aA)) aq)
    ·rw[dE];simp only[jU,xq]
     lia
  obtain⟨ph,x11,x12,x13,F10,rfl⟩:=h;clear F9;rw[show B8++(l.p1++l.p2++l.p3)=B8++l.p1++l.p2++l.p3 by simp only[iD]];have o:=F10.s.aA.sq hq;dsimp only[fh,jl,de,di];refine⟨_,rfl,a,_,0,_,rfl,rfl,o,gQ _ _,rfl,_,rfl,cj (fun c=>?_) (fun c=>⟨ph,_,_,_,_,?_,rfl⟩)⟩;rotate_left
  ·have:l.p3=[]:=by
    cases l with
    | ask bs m1 m2=>exact absurd rfl (o8 c)
    | _=>rfl
   rw[this,jL]; exact F10
  obtain⟨bs,m1,m2,rfl⟩:=sM (nW c);obtain⟨vb,r1,rfl,ib,i1⟩:=uq il;obtain⟨ab,ys,rfl,hqb,ilb⟩:=ib.bo;have ly:ys.length=bs.length:=by have:=ilb.length; rw[bL]at this; exact this.symm
  have hbs:bs.length<=100:=okl.2.1.2;refine⟨_,rfl,_,rfl,a,_,1,_,rfl,rfl,o,yP _ _ _,ab,rfl,⟨_,F10.s.aA.sq hqb⟩,fun pc npc=>?_⟩;refine fR (xs:=ys) (fun i H'=>aB H10 H'/\∃ I,H' pc=some (.lst I)/\IsL K H' (((bs.take i).filter Bd.un).map Bd.D) I) ⟨ah npc _,[],ae,aq⟩ (fun i H' _ h=>(F10.s.trans h.1).aA.sq hqb) (fun i y H' ey h=>?_) (fun H11 h=>?_)
  ·obtain⟨sm,I,Y,ia⟩:=h;have hi:i < bs.length:=by have:=(dJ.mp ey).1; lia
   have eA:=cL hi;obtain⟨y',S,iy⟩:=ilb.get (j:=i) (d:=bs[i].D) (by rw[g6,eA]; rfl);rw[ey]at S; cases S;have et:(bs.take (i + 1)).filter Bd.un=(bs.take i).filter Bd.un++(if bs[i].un then [bs[i]] else []):=by
    rw[kX,eA,DS];congr 1;show List.filter _ [_]=_;rw[Fh];rfl
   rw[et];generalize bs[i]=qb at iy;replace iy:=iy.mono (F10.s.trans sm).aA;obtain⟨a2,va,vb,rfl,hqa,ia2,ib2⟩:=tZ iy;have dq:D.cy (.str qb.a.word::qb.a.args) < 9:=by
    cases qb.a <;> (simp only[Nd.args,bT,dF,jO,fF]; decide)
   have la:=ia.length;have l2:=Bp Bd.un (bs.take i);rw[bL]at la;rw[gx]at l2;refine⟨⟨[some (.ref a2)],rfl,rfl⟩,_,rfl,a2,_,0,_,rfl,rfl,hqa,gQ _ _,_,rfl,a2,_,1,_,rfl,rfl,hqa,yP _ _ _,(.str qb.a.word::qb.a.args),(.str qb.b.word::qb.b.args),ia2,ib2,dq,qb.un,rfl,?_⟩;dsimp only;by_cases hc:qb.un=true
   ·rw[if_pos hc,if_pos hc];have tl:=bK.lst (ys:=I++[.ref a2]) Y;refine⟨_,rfl,I,Y,aN (by lia),aB.new sm npc,I++[.ref a2],ae,?_⟩;rw[dH];exact IsL.append (ia.mono tl) (af (iy.mono tl) aq)
   ·rw[if_neg hc,if_neg hc,jL];exact⟨sm,I,Y,ia⟩
  obtain⟨sm,I,Y,ia⟩:=h;rw[ly,mw]at ia;refine (F10.same sm).cat (cs:=bs.filter Bd.un) Y ia ?_ fun p' H' F'=>⟨p',_,_,_,_,F',rfl⟩
  have:(Ln.ask bs m1 m2).p3=bs.filter Bd.un:=rfl;rw[this]at hlp;rw[dE,dE]
  lia
 obtain⟨pf,y3,y11,y12,y13,G,rfl⟩:=h;rw[lxl,mw,<-hgb]at G;obtain⟨s8,I,Y,ia⟩:=G;have hgl:(gb nm rw ls).length<=480:=by
  have:=hls ls.length (bH _);rw[mw]at this;rw[hgb,dE]; lia
 obtain⟨bs,rfl,hb⟩:=vS ia;refine⟨_,rfl,pf,bs,_,rfl,Y,hb,fun k hk=>?_,(by rw[bL]; lia),fun l' bs' ks' nl' hb' m' len' up'=>?_⟩
 ·obtain⟨qb,_,rfl⟩:=eW.mp hk;exact key_is qb
 obtain⟨ss,rfl,sr⟩:=yW m' (by rw[bL]at len'; exact len') up';have u9:=ah nl' (.lst (bs'.map V.ref));have:=sr.len;exact q _ l' _ ss (s05.trans (s8.trans u9)) ae (aD (s05.trans s8) nl') ((qm hb').mono u9.aA) sr (by lia)
abbrev qr:Stmt:=top 40
theorem dD:aW qB Ib (av qr):=by walk_at "k"
inductive Bi(K:aL)(vs:List V)(H:Hp)(Q:VK)(E:XK):Prop|m(tp al:Addr)(nm rw:Nat)(ls:List Ln)(c:Int)(_:vs=[.ref tp,.int c])(_:ja K H tp al nm rw ls)(_:(∀ l∈ls,l.Sm))(_:∀ (H':Hp) (tp' al':Addr) (ls':List Ln),aB H H'->ja K H' tp' al' nm rw ls'->(∀ l∈ls',l.Sm)->Q (.ref tp') H')
def Ln.pre:Ln->List L2.D
 | .deed d _=>d.args
 | .test y w c _ _=>[kJ y,kJ w,.int c]
 | .ask bs _ _=>[.tup (bs.map Bd.D)]
 | .stop=>[]
def j8:Ln->Ln
 | .deed d k=>.deed d (k + 12)
 | .test y w c k m=>.test y w c (k + 12) (m + 12)
 | .ask bs k m=>.ask bs (k + 12) (m + 12)
 | .stop=>.stop
theorem AF(l:Ln):l.args=l.pre++tm l.wy:=by
 cases l with
 | deed d k=>rfl
 | _=>rfl
theorem uM(l:Ln):(j8 l).D=.tup (.str l.word::(l.pre++tm (l.wy.map (· + 12)))):=by
 cases l with
 | deed d k=>rfl
 | _=>rfl
theorem Ae{rw:Nat}(h:l.Ok nm rw nl):(j8 l).Ok nm rw (12 + nl):=by
 cases l with
 | deed d k=>exact⟨h.1,by have:=h.2; lia⟩
 | test y u c k m=>exact⟨h.1,h.2.1,by have:=h.2.2.1; lia,by have:=h.2.2.2; lia⟩
 | ask bs k m=>exact⟨h.1,h.2.1,by have:=h.2.2.1; lia,by have:=h.2.2.2; lia⟩
 | stop=>trivial
theorem zu(h:l.Sm):(j8 l).Sm:=by
 cases l with
 | deed d k=>cases d <;> exact h
 | _=>exact h
theorem zT(l:Ln):(if (!decide (V.str l.word=V.str "end"))=true then (1:Int) else 0) + (if (if false=true then !By (V.str l.word) [V.str "test",V.str "ask"] else By (V.str l.word) [V.str "test",V.str "ask"])=true then (1:Int) else 0)=(l.wy.length:Int):=by
 cases l with
 | deed d k=>cases d <;> rfl
 | _=>rfl
theorem ko{K:aL}{H:Hp}:∀ {ds es:List L2.D} {vs:List V},IsL K H (ds++es) vs->∃ us ws,vs=us++ws/\IsL K H ds us/\IsL K H es ws
 | [],es,vs,h=>⟨[],vs,rfl,aq,h⟩
 | d::ds,es,vs,h=>by
  obtain⟨v,r,rfl,h1,h2⟩:=IsL.cons_inv h;obtain⟨us,ws,rfl,I,J⟩:=ko h2;exact⟨v::us,ws,rfl,af h1 I,J⟩
theorem FN(z:Int)(h:0 < nm)(y:Int):∃ w,gq nm w/\nz [V.non,V.int (y % (nm:Int))] (z % 2)=some (aV w):=by
 obtain⟨j,J,e⟩:=bB z (m:=2) (by decide);have e:z % 2=(j:Int):=e;rw[e];have:j=0\/j=1:=by lia
 rcases this with rfl | rfl
 ·exact⟨none,trivial,rfl⟩
 ·obtain⟨x,I,e⟩:=bB y h;rw[e];exact⟨some x,I,rfl⟩
theorem CW(F:fL K "_law_wide" "_law_wide" qr f fd)(m_len:mg "len" = none)(m_tuple:mg "tuple" = none)(m_range:mg "range" = none)(m_int:mg "int" = none)(c_law_mixed:Cl P w K mg base "_law_mixed" n EH iq)(c_law_c:Cl P w K mg base "_law_c" n EY Gk) :
  b9 P w K mg base fM (n + 1) f fd Ib (Bi K):=by
 refine F.ok dD (by walk_at "l") (fun cdv A outer s H vs Q E hr h=>?_);obtain⟨tp,al,nm,rw,ls,c,rfl,R,hSm,q⟩:=h;have hnm:=R.ok.hn;have hrw:=R.ok.hr;have l0:=R.ok.l0
 refine⟨_,(@ak _ _ _ _ _ (mO (pv 0) (jf rfl (bG (aG (i:=6) dD.nd rfl (Or.inl rfl)) (bG (aG (i:=7) dD.nd rfl (Or.inl rfl)) (bG (aG (i:=8) dD.nd rfl (Or.inl rfl)) eP)))))
   (@ak _ _ _ _ _ (ck (PW.pt (mT (aF sJ (ao aJ (pv 1) ag) ag) (mT (aF cm (pv 6) ag) (lN (aF gI (bh bf rfl m_len tQ (aa (pv 8) aj)) ag))))) (au (aQ (pv 0))) bw)
   (@ak _ _ _ _ _ (ba (i:=2) dD.nd (br aj))
   (@ak _ _ _ _ _ (dg qW rfl (cK rfl m_range (aa ag aj)) (aG (i:=3) dD.nd rfl (Or.inl rfl)) (@ak _ _ _ _ _ (ba (i:=9) dD.nd (aY c_law_mixed hr rfl (aa (pv 1) (aa (pv 3) aj))))
   (@ak _ _ _ _ _ (ba (i:=10) dD.nd (aU cu (br (aa dR (aa (ao aJ (ao aS (pv 9) ag) (pv 6)) aj))) (ao aJ (ao aS (pv 9) ag) ag)))
   (au (bP (dy nB tR tS bF (pv 2) (aa (aE (aa a8 (aa (ao aJ (pv 9) (pv 6)) (aa (pv 10) (aa (aY c_law_c hr rfl (aa (ao aS (pv 9) ag) aj)) (aa (ao bj (pv 3) ag) (aa ag aj))))))) aj)))))))
   (@ak _ _ _ _ _ (ba (i:=4) dD.nd (br aj))
   (@ak _ _ _ _ _ (dg qW rfl (cM (pv 8)) (aG (i:=5) dD.nd rfl (Or.inl rfl)) (@ak _ _ _ _ _ (ba (i:=11) dD.nd (ao gg (ao gg (bh bf rfl m_len tQ (aa (pv 5) aj)) (bE dv rfl m_int DT (aa (cN sJ (aU a9 (pv 5) ag) a8) aj))) (bE dv rfl m_int DT (aa (cN nV (aU a9 (pv 5) ag) (aE (eV rfl)) (by with_unfolding_all rfl)) aj))))
   (au (bP (dy nB tR tS bF (pv 4) (aa (ao CS (cJ jy (pv 5) d6 (cQ (pv 11))) (bE d5 rfl m_tuple PyProof.Rows.boot_tuple (aa (cA ["_law_goal"] rfl (cT (N:=qB) (so:=av qr) rfl rfl (by decide +kernel)) (mQ (cJ jy (pv 5) (cQ (pv 11)) d6)) (fun _ _ _ _ _ _=>(aG (i:=0) (show List.Nodup (α:=Str) ["_law_goal","_law_program_here","_law_cell_here","_law_more","_law_k","_law_found","_law_line","_law_names","_law_rows","_law_lines","_law_number","_law_w","_law_at"] by decide +kernel) rfl (Or.inl rfl) (Or.inr rfl))) (fun _ _ _ _ _ _=>cD) (fun _ _ _ _ _ _=>(ao bj (pv 0) ag))) aj))) aj))))))
   (au (aQ (aE (aa (pv 6) (aa (pv 7) (aa (ao eG (pv 2) (pv 4)) aj)))))))))))),?_⟩
 obtain⟨xl,L,il⟩:=R.l;have lxl:xl.length=ls.length:=bM il;refine⟨_,rfl,tp,_,rfl,R.t,rfl,_,_,rfl,_,_,rfl,_,_,rfl,rfl,?_⟩;dsimp only[de,di];refine j0 (fun σ' H'=>(σ'=[some (.ref tp),some (.int c),none,none,none,none,some (.int (nm:Int)),some (.int (rw:Int)),some (.ref al),none,none,none]/\H=H')/\0 < nm/\ls.length<=58) (fun σ' H' h=>?_) (fun nx kk=>?_);rotate_left
 ·dsimp only[fh,IF,de,di];have qq:=q H tp al ls (.refl _) R hSm;refine⟨_,rfl,_,_,rfl,rfl,(by decide:(0:Int) < 4),rfl,_,rfl,cj (fun _=>lL ⟨_,rfl,qq⟩) (fun _=>⟨_,rfl,rfl,_,rfl,cj (fun _=>lL ⟨_,rfl,qq⟩) (fun c2=>⟨_,rfl,al,xl,rfl,.inl L,_,_,rfl,rfl,_,rfl,cj (fun _=>⟨_,rfl,qq⟩) (fun c3=>kk _ _ ⟨⟨rfl,rfl⟩,?_,?_⟩)⟩)⟩)⟩
  ·have:¬ nm=0:=fun e=>c2 (gp (by rw[e]; rfl))
   lia
  ·have:¬ (58:Int) < (xl.length:Int):=fun e=>c3 (gp e)
   lia
 obtain⟨⟨rfl,rfl⟩,h0,h58⟩:=h;refine⟨bJ rfl,fun pm npm=>?_⟩;have u1:=ah npm (.lst []);have e1:upd H pm (.lst []) pm=some (.lst []):=ae;generalize upd H pm (.lst [])=H1 at u1 e1;refine⟨_,rfl,by decide,by decide,?_⟩;refine hX (n:=12) (fun j σ H'=>aB H H'/\∃ J o y3 y9 b,H' pm=some (.lst J)/\IsL K H' (o.map Ln.D) J/\o.length=j/\(∀ l∈o,l.Ok nm rw 13/\l.Sm)/\σ=[some (.ref tp),some (.int c),some (.ref pm),y3,none,none,some (.int (nm:Int)),some (.int (rw:Int)),some (.ref al),y9,b,none])
  ⟨u1,[],[],_,_,_,e1,aq,rfl,fun l O=>absurd O gh,rfl⟩ (fun j σ H2 hj h=>?_) (fun σ H2 h=>?_)
 ·obtain⟨s2,J,o,y3,y9,b,e2,i2,lm,U,rfl⟩:=h;refine⟨_,rfl,_,rfl,c,_,rfl,fun z hz=>?_⟩;refine⟨_,rfl,_,_,rfl,rfl,⟨by decide,by decide⟩,_,rfl,_,_,rfl,rfl,(show (0:Int) < (nm:Int) by lia),bJ rfl,fun p3 n3=>?_⟩;obtain⟨wo,hwo,ewo⟩:=FN (z / 64) h0 (z / 8);have T:=ah n3 (.lst [.non,.int (z / 8 % (nm:Int))]);refine⟨_,rfl,_,_,rfl,rfl,⟨by decide,by decide⟩,_,_,rfl,rfl,(by decide:(0:Int) < 2),p3,_,_,_,rfl,rfl,bp.of ae,ewo,?_⟩;have Y:=T _ _ e2;generalize upd H2 p3 (.lst [.non,.int (z / 8 % (nm:Int))])=H3 at T Y;refine⟨_,rfl,.inl ⟨rfl,_,bp.of Y⟩,_,rfl,_,rfl,_,_,rfl,rfl,(show (0:Int) < (nm:Int) by lia),_,rfl,_,rfl,_,_,rfl,rfl,⟨by decide,by decide⟩,_,rfl,fun ci c0 c1=>?_⟩;obtain⟨x,hx,ex⟩:=bB z h0;refine⟨_,rfl,_,_,rfl,rfl,bJ rfl,fun t4 n4=>?_⟩;have u4:=ah n4 (.tup [.str "test",.int (z % (nm:Int)),aV wo,.int ci,.int (0 + (j:Int) + 1),.int 12]);have it4:Is K (upd H3 t4 (.tup [.str "test",.int (z % (nm:Int)),aV wo,.int ci,.int (0 + (j:Int) + 1),.int 12])) (Ln.D (.test (some x) wo ci (j + 1) 12)) (.ref t4):=
   aX (bu.of ae) (af bq (af (bz ex.symm) (af (by cases wo <;> first | exact kj | exact aH) (af aH (af (bz (by lia)) (af aH aq))))))
  have r:=u4 _ _ Y;have W:=T.trans u4;generalize upd H3 t4 (.tup [.str "test",.int (z % (nm:Int)),aV wo,.int ci,.int (0 + (j:Int) + 1),.int 12])=H4 at r it4 W;have la:=bM i2;have tl:=bK.lst (ys:=J++[.ref t4]) r;refine⟨pm,J,_,rfl,rfl,r,aN (by lia),aB.new (s2.trans W) npm,J++[.ref t4],o++[.test (some x) wo ci (j + 1) 12],_,_,_,ae,?_,by rw[dE,lm]; rfl,fun l O=>?_,rfl⟩
  ·rw[dH];exact IsL.append ((i2.mono W.aA).mono tl) (af (it4.mono tl) aq)
  ·rcases fY.mp O with O | O
   ·exact U l O
   ·rw[fS.mp O];exact⟨⟨hx,hwo,by lia,by decide⟩,⟨c0,c1⟩⟩
 obtain⟨s2,J,o,y3,y9,b,e2,i2,lm,U,rfl⟩:=h;have la:=bM i2;refine⟨bJ rfl,fun pf Z=>?_⟩;have T:=ah Z (.lst []);have Y:upd H2 pf (.lst []) pf=some (.lst []):=ae;have hne:pm≠pf:=gH e2 Z;have npf0:=aD s2 Z;generalize upd H2 pf (.lst [])=H3 at T Y;refine⟨_,rfl,al,rfl,⟨_,(s2.trans T).seq L⟩,?_⟩;refine d9 (xs:=xl) (fun j σ H'=>aB H2 H'/\∃ I y5 C,H' pf=some (.lst I)/\IsL K H' (((ls.take j).map j8).map Ln.D) I/\σ=[some (.ref tp),some (.int c),some (.ref pm),y3,some (.ref pf),y5,some (.int (nm:Int)),some (.int (rw:Int)),some (.ref al),y9,b,C])
  ⟨T,[],_,_,Y,aq,rfl⟩ (fun j σ H' _ h=>(s2.trans h.1).seq L) (fun j y σ H4 ey h=>?_) (fun σ H4 h=>?_)
 ·obtain⟨s4,I,y5,C,r,i4,rfl⟩:=h;have hj:j < ls.length:=by have:=(dJ.mp ey).1; lia
  have eA:=cL hj;obtain⟨y',ey',iy⟩:=il.get (j:=j) (d:=ls[j].D) (by rw[g6,eA]; rfl);rw[ey]at ey'; cases ey';have s04:=s2.trans s4;replace iy:=iy.mono s04.aA;have M:=bM i4;rw[bL,gx]at M;rw[kX,eA,B1,dH,dH];generalize ls[j]=l at iy;obtain⟨tl,vs,rfl,hq,ila⟩:=mI iy;rw[AF]at ila;obtain⟨us,ws,rfl,iu,iw⟩:=ko ila;cases jr iw;have lf:(V.str l.word::(us++az l.wy)).length=us.length + l.wy.length + 1:=by rw[jU,dE,bg]
  have lu:us.length<=10:=by
   have:=iu.length;rw[<-this];cases l with
   | deed d k=>cases d <;> exact bJ rfl
   | _=>exact bJ rfl
  have lw:=Br l;refine⟨_,rfl,tl,_,rfl,.inr hq,_,rfl,tl,_,0,_,rfl,rfl,hq,gQ _ _,rfl,.inr ⟨_,rfl,_,_,rfl,rfl,_,rfl,tl,_,0,_,rfl,rfl,hq,gQ _ _,bJ rfl,fun t5 n5=>⟨t5,_,rfl,.inr (bu.of ae),rfl,rfl,.inr ⟨_,rfl,_,_,rfl,rfl,?_⟩⟩⟩⟩;have u:=ah n5 (.tup [.str "test",.str "ask"]);have eat:((V.str l.word::(us++az l.wy)).length:Int) - (if (!decide (V.str l.word=V.str "end"))=true then (1:Int) else 0) - (if (if false=true then !By (V.str l.word) [V.str "test",V.str "ask"] else By (V.str l.word) [V.str "test",V.str "ask"])=true then (1:Int) else 0)=((us.length + 1:Nat):Int):=by
   have h:=zT l;rw[lf];generalize (if (!decide (V.str l.word=V.str "end"))=true then (1:Int) else 0)=x1 at h |-;generalize (if (if false=true then !By (V.str l.word) [V.str "test",V.str "ask"] else By (V.str l.word) [V.str "test",V.str "ask"])=true then (1:Int) else 0)=x2 at h |-
   lia
  dsimp only[fw,de];rw[eat];clear eat;have e5:=u _ _ r;have q5:=u.aA.sq hq;have iu5:=iu.mono u.aA;have i45:=i4.mono u.aA;have s05:=s4.trans u;generalize upd H4 t5 (.tup [.str "test",.str "ask"])=H5 at e5 q5 iu5 i45 s05;refine⟨_,rfl,.inl ⟨rfl,_,bp.of e5⟩,_,rfl,_,rfl,_,rfl,tl,_,rfl,q5,fun p6 H6 s6 B=>?_⟩;have B:bu K H6 p6 (V.str l.word::us):=by
   have e7:=fV (xs:=V.str l.word::(us++az l.wy)) (v:=((us.length + 1:Nat):Int)) (m:=us.length + 1) rfl (by rw[lf]; lia);have e8:(V.str l.word::(us++az l.wy)).take (us.length + 1)=V.str l.word::us:=by rw[List.take_succ_cons,List.take_left']; rfl
   rw[<-e8,<-e7]; exact B
  have q6:=s6.aA.sq q5;refine⟨_,rfl,_,rfl,_,rfl,tl,_,rfl,q6,fun p7 H7 s7 a=>?_⟩;have a:bu K H7 p7 (az l.wy):=by
   have e7:=ik (xs:=V.str l.word::(us++az l.wy)) (v:=((us.length + 1:Nat):Int)) (m:=us.length + 1) rfl (by rw[lf]; lia);have e8:(V.str l.word::(us++az l.wy)).drop (us.length + 1)=az l.wy:=by rw[List.drop_succ_cons,List.drop_left']; rfl
   rw[<-e8,<-e7]; exact a
  refine⟨p7,rfl,⟨_,a⟩,fun pc npc=>?_⟩;refine fR (xs:=az l.wy) (fun i H'=>aB H7 H'/\H' pc=some (.lst (az ((l.wy.take i).map (· + 12))))) ⟨ah npc _,ae⟩ (fun i H' _ h=>h.1.aA.sq a) (fun i x H' ex h=>?_) (fun H8 h=>?_)
  ·obtain⟨s8,ec⟩:=h;have hi:i < l.wy.length:=by have:=(dJ.mp ex).1; rw[bg]at this; exact this
   rw[dX hi]at ex;cases ex;have eg:=cL hi;generalize l.wy[i]=g at eg;refine⟨⟨[some (.int (g:Int))],rfl,rfl⟩,bR ⟨_,rfl,_,_,rfl,rfl,_,ec,aN (by rw[bg,bL,gx]; lia),aB.new s8 npc,?_⟩⟩;rw[ae,kX,eg,B1,dH];unfold az;rw[dH];rfl
  obtain⟨s8,ec⟩:=h;rw[bg,mw]at ec;refine⟨pc,_,rfl,.inl ⟨bp.of ec,fun p9 n9=>?_⟩⟩;have u9:=ah n9 (.tup (az (l.wy.map (· + 12))));have s79:=s7.trans (s8.trans u9);refine⟨p6,p9,_,_,rfl,rfl,s79.aA.sq B,bu.of ae,small (by rw[jU,bg,bL]; lia),fun pt Ht st hpt=>?_⟩;have sA:=s6.trans (s79.trans st);have eA5:=sA _ _ e5;have tll:=bK.lst (ys:=I++[.ref pt]) eA5;refine⟨pf,I,_,rfl,rfl,eA5,aN (by lia),aB.new (s05.trans sA) Z,I++[.ref pt],_,_,ae,?_,rfl⟩;refine IsL.append ((i45.mono sA.aA).mono tll) (af ?_ aq);rw[uM];exact (aX hpt (af bq (IsL.append (iu5.mono sA.aA) (tj _)))).mono tll
 ·obtain⟨s4,I,y5,C,r,i4,rfl⟩:=h;rw[lxl,mw]at i4;have M:=bM i4;rw[bL]at M;refine⟨_,rfl,_,rfl,_,rfl,_,rfl,pm,pf,J,I,rfl,rfl,s4 _ _ e2,r,small (by lia),fun pl npl=>⟨bJ rfl,fun tt ntt=>?_⟩⟩;have u:=ah npl (.lst (J++I));have u6:=ah ntt (.tup [.int (nm:Int),.int (rw:Int),.ref pl]);have S:=u.trans u6;have lms:(o++ls.map j8).length=12 + ls.length:=by rw[dE,bL,lm]
  refine q _ tt pl (o++ls.map j8) (s2.trans (s4.trans S)) ⟨bu.of ae,⟨J++I,bp.of (u6 _ _ ae),?_⟩,hnm,hrw,by lia,by lia,fun l O=>?_⟩ fun l O=>?_
  ·rw[dH];exact IsL.append (i2.mono (s4.trans S).aA) (i4.mono S.aA)
  ·rw[lms];rcases fY.mp O with O | O
   ·exact (xA.mono ⟨(U l O).1,(U l O).2⟩ (by lia)).1
   ·obtain⟨G,p,rfl⟩:=eW.mp O;exact Ae (R.ok.ok G p)
  ·rcases fY.mp O with O | O
   ·exact (U l O).2
   ·obtain⟨G,p,rfl⟩:=eW.mp O;exact zu (hSm G p)
def Bc(c:Int):Prop:=-1000000000000 < c/\c < 1000000000000
structure Fits (n wt:Nat) (d:PyData):Prop where
 sh:d.showable=true
 nd:d.hasDict=false
 dp:d.depth<=n
 lv:d.leavesShort 13=true
 wg:d.weight<=wt
structure fX (n wt:Nat) (ds:List PyData):Prop where
 sh:PyData.showableAll ds=true
 nd:PyData.hasDictAll ds=false
 dp:PyData.depthAll ds<=n
 lv:PyData.leavesShortAll 13 ds=true
 wg:PyData.weightAll ds<=wt
theorem Fits.mono{d:PyData}(h:Fits n wt d)(a:n<=n')(b:wt<=wt'):Fits n' wt' d:=⟨h.sh,h.nd,kC h.dp a,h.lv,kC h.wg b⟩
theorem fX.mono{d:List PyData}(h:fX n wt d)(a:n<=n')(b:wt<=wt'):fX n' wt' d:=⟨h.sh,h.nd,kC h.dp a,h.lv,kC h.wg b⟩
theorem Cc:Fits 0 0 .none:=⟨by rw[PyData.showable],by rw[PyData.hasDict],by rw[PyData.depth]; exact bH _,by rw[PyData.leavesShort],by rw[PyData.weight]; exact bH _⟩
theorem Dg{i:Int}(h:i.natAbs < 1000000000000):Fits 0 41 (.int i):=by
 have I:i.natAbs.log2 < 40:=by
  by_cases z:i.natAbs=0
  ·rw[z]; decide
  ·rw[Nat.log2_lt z];have:(2:Nat) ^ 40=1099511627776:=by decide
   omega
 refine⟨?_,by rw[PyData.hasDict],by rw[PyData.depth]; exact bH _,?_,?_⟩
 ·rw[PyData.showable]; exact gp (by omega)
 ·have e:(10:Nat) ^ 12=1000000000000:=by decide
  rw[PyData.leavesShort]; exact gp (PyData.shown_int_le (by rw[e]; exact h))
 ·rw[PyData.weight]; split <;> omega
theorem vL(h:(x.cps.toList.all fun c=>decide (c < 16 ^ 8))=true):Fits 0 x.cps.size (.str x):=⟨by rw[PyData.showable],by rw[PyData.hasDict],by rw[PyData.depth]; exact bH _,by rw[PyData.leavesShort]; exact h,by rw[PyData.weight]; exact bH _⟩
theorem vJ:fX n 0 []:=⟨by rw[PyData.showableAll],by rw[PyData.hasDictAll],by rw[PyData.depthAll]; exact dI _,by rw[PyData.leavesShortAll],by rw[PyData.weightAll]; exact bH _⟩
theorem jF{b:Nat}{d:PyData}(h:Fits n a d)(l:fX n b ds):fX n (a + 1 + b) (d::ds):=
 ⟨by rw[PyData.showableAll,h.sh,l.sh]; rfl,by rw[PyData.hasDictAll,h.nd,l.nd]; rfl,by rw[PyData.depthAll]; exact Nat.max_le.mpr ⟨h.dp,l.dp⟩,by rw[PyData.leavesShortAll,h.lv,l.lv]; rfl,by rw[PyData.weightAll]; have:=h.wg; have:=l.wg; omega⟩
theorem wu(l:fX n a ds):Fits (n + 1) a (.tuple ds):=
 ⟨by rw[PyData.showable]; exact l.sh,by rw[PyData.hasDict]; exact l.nd,by rw[PyData.depth]; exact Nat.succ_le_succ l.dp,by rw[PyData.leavesShort]; exact l.lv,by rw[PyData.weight]; exact l.wg⟩
theorem C7(l:fX n a ds):Fits (n + 1) a (.list ds):=
 ⟨by rw[PyData.showable]; exact l.sh,by rw[PyData.hasDict]; exact l.nd,by rw[PyData.depth]; exact Nat.succ_le_succ l.dp,by rw[PyData.leavesShort]; exact l.lv,by rw[PyData.weight]; exact l.wg⟩
theorem Es(ds:List D):D.pd (.tup ds)=.tuple (D.iM ds):=by rw[D.pd]
theorem ET(i:Int):D.pd (.int i)=.int i:=by rw[D.pd]
theorem zq(x:Str):D.pd (.str x)=.str x:=by rw[D.pd]
theorem Fo:D.pd .non=.none:=by rw[D.pd]
theorem xb:D.iM []=[]:=by rw[D.iM]
theorem sD(d:D)(ds:List D):D.iM (d::ds)=d.pd::D.iM ds:=by rw[D.iM]
theorem Aq{i:Int}(h:i.natAbs < 1000000000000):Fits 0 41 (D.pd (.int i)):=by rw[ET]; exact Dg h
theorem vh:fX n 0 (D.iM []):=by rw[xb]; exact vJ
theorem eQ{b:Nat}{d:D}{ds:List D}(h:Fits n a d.pd)(l:fX n b (D.iM ds)):fX n (a + 1 + b) (D.iM (d::ds)):=by rw[sD]; exact jF h l
theorem pJ{ds:List D}(l:fX n a (D.iM ds)):Fits (n + 1) a (D.pd (.tup ds)):=by rw[Es]; exact wu l
theorem pP{n a:Nat}:∀ {ds:List D},(∀ d∈ds,Fits n a d.pd)->fX n ((a + 1) * ds.length) (D.iM ds)
 | [],_=>vh
 | d::ds,h=>(eQ (h d gC) (pP fun x hx=>h x (jd _ hx))).mono (bH _) (by rw[jU,Nat.mul_add,Nat.mul_one]; omega)
def It(d:D):Prop:=d=.non\/∃ i:Int,d=.int i/\i.natAbs < 1000000000000
theorem lY{d:D}(h:It d):Fits 0 41 d.pd:=by
 rcases h with rfl | ⟨i,rfl,h⟩
 ·rw[Fo]; exact Cc.mono (bH _) (by decide)
 ·exact Aq h
theorem dQ{k:Nat}(h:k < 1000):It (.int (k:Int)):=.inr ⟨_,rfl,by omega⟩
theorem vA{c:Int}(h:Sc c):It (.int c):=.inr ⟨_,rfl,by obtain⟨h1,h2⟩:=h; omega⟩
theorem jZ(hn:nm<=6)(h:gq nm y):It (kJ y):=by
 cases y with
 | none=>exact .inl rfl
 | some i=>exact dQ (by have:i < nm:=h; omega)
def G1(ds:List D):Prop:=∀ d∈ds,It d
theorem dj:G1 []:=fun d I=>absurd I gh
theorem aR{d:D}{ds:List D}(h:It d)(l:G1 ds):G1 (d::ds):=fun x I=>by
 rcases d0.mp I with rfl | I
 ·exact h
 ·exact l x I
def EC(x:Str):Prop:=(x.cps.toList.all fun c=>decide (c < 16 ^ 8))=true/\x.cps.size<=8
theorem cI{ds:List D}(hx:EC x)(h:G1 ds)(hl:ds.length<=5):Fits 1 300 (D.pd (.tup (.str x::ds))):=by
 have h1:Fits 0 8 (D.pd (.str x)):=by rw[zq]; exact (vL hx.1).mono (bH _) hx.2
 have J:(41 + 1) * ds.length<=42 * 5:=Nat.mul_le_mul_left _ hl;exact (pJ (eQ h1 (pP fun d I=>lY (h d I)))).mono (bH _) (by omega)
theorem Bu{rw:Nat}(hn:nm<=6)(hr:rw<=3){q:Nd}(h:q.Ok nm rw):Fits 1 300 q.D.pd:=by
 cases q with
 | zero=>exact cI (x:="zero") ⟨by decide,by decide⟩ dj (by decide)
 | name x=>exact cI (x:="name") ⟨by decide,by decide⟩ (aR (dQ (by have:x < nm:=h; omega)) (aR (dQ (k:=0) (by decide)) dj)) (by show 2<=5; decide)
 | len r=>exact cI (x:="len") ⟨by decide,by decide⟩ (aR (dQ (by have:r < rw:=h; omega)) dj) (by show 1<=5; decide)
theorem Fl{rw:Nat}(hn:nm<=6)(hr:rw<=3){b:Bd}(h:b.Ok nm rw)(hc:Bc b.c):Fits 2 700 b.D.pd:=
 (pJ (eQ (Bu hn hr h.1) (eQ (Bu hn hr h.2) (eQ ((Aq (by obtain⟨h1,h2⟩:=hc; omega)).mono (dI 1) (bH _)) vh)))).mono (bH _) (by decide)
theorem Gw{c:Int}(h:Sc c):Bc c:=by obtain⟨h1,h2⟩:=h; exact⟨by omega,by omega⟩
theorem Ec{rw:Nat}(hn:nm<=6)(hr:rw<=3)(hl:nl<=70)(h:l.Ok nm rw nl)(hs:l.Sm):Fits 4 4000 l.D.pd:=by
 cases l with
 | deed d k=>
  have O:It (.int (k:Int)):=dQ (by have:=h.2; omega);have I:∀ {x:Nat},x < nm->It (.int (x:Int)):=fun h=>dQ (by omega)
  have J:∀ {x:Nat},x < rw->It (.int (x:Int)):=fun h=>dQ (by omega)
  cases d with
  | set x y c=>exact (cI (x:="set") ⟨by decide,by decide⟩ (aR (I h.1.1) (aR (jZ hn h.1.2) (aR (vA hs) (aR O dj)))) (by show 4<=5; decide)).mono (by decide) (by decide)
  | sum x z y=>exact (cI (x:="sum") ⟨by decide,by decide⟩ (aR (I h.1.1) (aR (I h.1.2.1) (aR (jZ hn h.1.2.2) (aR O dj)))) (by show 4<=5; decide)).mono (by decide) (by decide)
  | len x r=>exact (cI (x:="len") ⟨by decide,by decide⟩ (aR (I h.1.1) (aR (J h.1.2) (aR O dj))) (by show 3<=5; decide)).mono (by decide) (by decide)
  | take x=>exact (cI (x:="take") ⟨by decide,by decide⟩ (aR (I h.1) (aR O dj)) (by show 2<=5; decide)).mono (by decide) (by decide)
  | tell x=>exact (cI (x:="tell") ⟨by decide,by decide⟩ (aR (I h.1) (aR O dj)) (by show 2<=5; decide)).mono (by decide) (by decide)
  | get x r y c=>exact (cI (x:="get") ⟨by decide,by decide⟩ (aR (I h.1.1) (aR (J h.1.2.1) (aR (jZ hn h.1.2.2) (aR (vA hs) (aR O dj))))) (by show 5<=5; decide)).mono (by decide) (by decide)
  | put r y c z=>exact (cI (x:="put") ⟨by decide,by decide⟩ (aR (J h.1.1) (aR (jZ hn h.1.2.1) (aR (vA hs) (aR (I h.1.2.2) (aR O dj))))) (by show 5<=5; decide)).mono (by decide) (by decide)
 | test y u c k m=>
  exact (cI (x:="test") ⟨by decide,by decide⟩ (aR (jZ hn h.1) (aR (jZ hn h.2.1) (aR (vA hs) (aR (dQ (by have:=h.2.2.1; omega)) (aR (dQ (by have:=h.2.2.2; omega)) dj))))) (by show 5<=5; decide)).mono (by decide) (by decide)
 | ask bs k m=>
  have U:Fits 3 2804 (D.pd (.tup (bs.map Bd.D))):=(pJ (pP (a:=700) fun d Z=>by
   obtain⟨b,U,rfl⟩:=eW.mp Z
   exact Fl hn hr (h.1 b U) (Gw (hs.1 b U)))).mono (bH _) (by rw[bL]; exact Nat.mul_le_mul_left 701 hs.2)
  have V:Fits 0 3 (D.pd (.str "ask")):=by rw[zq]; exact vL (x:="ask") (by decide)
  exact (pJ (eQ (V.mono (dI 3) (bH _)) (eQ U (eQ ((lY (dQ (by have:=h.2.2.1; omega))).mono (dI 3) (bH _)) (eQ ((lY (dQ (by have:=h.2.2.2; omega))).mono (dI 3) (bH _)) vh))))).mono (bH _) (by decide)
 | stop=>exact (cI (x:="end") ⟨by decide,by decide⟩ dj (by decide)).mono (by decide) (by decide)
theorem Bg(d:D):T.pd (.d d)=d.pd:=by rw[T.pd]
theorem Dw(ts:List T):T.pd (.lst ts)=.list (T.iM ts):=by rw[T.pd]
theorem Cs(ts:List T):T.pd (.tup ts)=.tuple (T.iM ts):=by rw[T.pd]
theorem tO:T.iM []=[]:=by rw[T.iM]
theorem gY(t:T)(ts:List T):T.iM (t::ts)=t.pd::T.iM ts:=by rw[T.iM]
theorem wq:∀ ds:List D,T.iM (ds.map T.d)=D.iM ds
 | []=>by rw[List.map_nil,tO,xb]
 | d::ds=>by rw[iU,gY,sD,Bg,wq ds]
def DB(nm rw:Nat)(ls:List Ln):T:=.tup [.d (.int (nm:Int)),.d (.int (rw:Int)),.lst ((ls.map Ln.D).map T.d)]
theorem EE{rw:Nat}(P:Prog nm rw ls)(hs:∀ l∈ls,l.Sm):Fits 7 400000 (DB nm rw ls).pd:=by
 have U:=P.hn;have V:=P.hr;have I:=P.l1;unfold DB;rw[Cs,gY,gY,gY,tO,Bg,Bg,Dw,wq]
 have Z:Fits 5 280070 (.list (D.iM (ls.map Ln.D))):=(C7 (pP (a:=4000) fun d O=>by
  obtain⟨l,J,rfl⟩:=eW.mp O
  exact Ec U V I (P.ok l J) (hs l J))).mono (bH _) (by rw[bL]; exact Nat.mul_le_mul_left 4001 I)
 have i1:Fits 5 41 (D.pd (.int (nm:Int))):=(lY (dQ (by omega))).mono (dI _) (bH _);have i2:Fits 5 41 (D.pd (.int (rw:Int))):=(lY (dQ (by omega))).mono (dI _) (bH _);exact (wu (jF i1 (jF i2 (jF Z vJ)))).mono (by decide) (by decide)
theorem zK{K:aL}{rw:Nat}(hP:ja K H tp al nm rw ls):IsT K H (DB nm rw ls) (.ref tp):=by
 obtain⟨xs,h1,h2⟩:=hP.l;exact Ci hP.t (g9 (zB aH) (g9 (zB aH) (g9 (CM h1 (wx h2)) sV)))
abbrev lS:Stmt:=top 41
theorem iR:aW qD HA (av lS):=by walk_at "k"
inductive vY(K:aL)(vs:List V)(H:Hp)(Q:VK)(E:XK):Prop|m(a:Addr)(ns:List Int)(_:vs=[.ref a])(_:bp K H a (ns.map V.int))(_:∀ H',Q (.bl true) H')
theorem yw(gs:List (Nat × Bd)):D.cy ((gs.map D5).take 400) < 9:=by
 refine Ar (wD (n:=3) fun d J=>?_) (by decide);obtain⟨c,_,rfl⟩:=eW.mp (List.mem_of_mem_take J);have I:∀ q:Nd,q.D.dep<=1:=fun q=>by
  cases q <;> (unfold Nd.D; rw[jj]; simp only[Nd.args,bT,dF,jO,fF]; decide)
 have h1:=I c.2.a;have h2:=I c.2.b;unfold D5 Bd.D;rw[jj,bT,bT,dF,fF,jj,bT,bT,bT,dF,fF]
 lia
theorem Fj(F:fL K "law" "law" lS f fd)(m_repr:mg "repr" = none)(m_isinstance:mg "isinstance" = none)(m_list:mg "list" = none)
  (c_law_program:Cl P w K mg base "_law_program" n qG (oM K)) (c_law_wide:Cl P w K mg base "_law_wide" n Ib (Bi K)) (c_law_cell:Cl P w K mg base "_law_cell" n qF (pS K))
  (c_cuts:Cl P w K mg base "cuts" n ji (vp K)) (c_law_bounds:Cl P w K mg base "_law_bounds" n Iz (A8 K)) (c_guesses:Cl P w K mg base "guesses" n ji (oU K)) :
  b9 P w K mg base fM (n + 1) f fd HA (vY K):=by
 refine F.ok iR (by walk_at "l") (fun cdv A outer s H vs Q E O h=>?_);obtain⟨a,ns,rfl,hS,q⟩:=h;have hu:(A.deeper (envOfC "law" (av lS) s.heap.objs.size f cdv)).units + (9 + 1) < cLine:=by have:=O.units; lia
 have hu2:(A.deeper (envOfC "law" (av lS) s.heap.objs.size f cdv)).units + 1 + 9 < cLine:=by have:=O.units; lia
 have hg:(A.deeper (envOfC "law" (av lS) s.heap.objs.size f cdv)).guards=some []:=O.gd
 refine⟨_,(@ak _ _ _ _ _ (ba (i:=1) iR.nd (aY c_law_wide O rfl (aa (aY c_law_program O rfl (aa (pv 0) (aa ag (aa ag aj)))) (aa (aY c_law_cell O rfl (aa (pv 0) (aa ag aj))) aj))))
   (@ak _ _ _ _ _ (ba (i:=2) iR.nd (bh (oG (n:=9) hg hu) rfl m_repr PyProof.Rows.boot_repr (aa (pv 1) aj)))
   (@ak _ _ _ _ _ (ba (i:=3) iR.nd (br aj))
   (@ak _ _ _ _ _ (dg qW rfl (cM (aY c_cuts O rfl (aa (pv 1) aj))) (aG (i:=4) iR.nd rfl (Or.inr rfl)) (au (ba (i:=3) iR.nd (ao eG (pv 3) (cA ["_law_bound"] rfl (cT (N:=qD) (so:=av lS) rfl rfl (by decide +kernel)) (cM (aY c_law_bounds O rfl (aa (pv 1) aj))) (fun _ _ _ _ _ _=>(aG (i:=0) (show List.Nodup (α:=Str) ["_law_bound","_law_script","_law_program_here","_law_copied","_law_due","_law_cut","_law_found"] by decide +kernel) rfl (Or.inl rfl) (Or.inr rfl))) (fun _ _ _ _ _ _=>cD) (fun _ _ _ _ _ _=>(aE (aa (pv 5) (aa (pv 0) aj)))))))))
   (@ak _ _ _ _ _ (ba (i:=5) iR.nd (aY c_guesses O rfl (aa (pv 1) aj)))
   (@ak _ _ _ _ _ (ck (PW.pt (mT (Fm (vq (bh Bk rfl m_isinstance PyProof.Rows.boot_isinstance (aa (pv 5) (aa (Cq rfl m_list PyProof.Rows.boot_list (v:=.ty "list") rfl) aj))))) (mT (aF (CN (n:=9) hu2) (pv 5) (cJ jn (pv 3) d6 (cQ ag))) (lN (aF sJ (bh (oG (n:=9) hg hu) rfl m_repr PyProof.Rows.boot_repr (aa (pv 1) aj)) (pv 2)))))) (au (aQ qZ)) bw)
   (@ak _ _ _ _ _ (bP (dy nB tR tS bF (pv 5) (aa ag aj)))
   (au (aQ (cN (Cd (n:=9) hu2) (aY c_guesses O rfl (aa (pv 1) aj)) (cJ jn (pv 3) d6 (cQ ag)))))))))))),?_⟩
 refine⟨_,rfl,a,ns,rfl,hS,fun H1 tp0 al0 nm rw ls0 s1 hP0 V=>?_⟩;refine⟨_,rfl,a,ns,3,rfl,s1.seq hS,by decide,fun z H2 s2=>⟨tp0,al0,nm,rw,ls0,z,rfl,hP0.same s2,V,fun H3 tp al ls s3 p hSm=>?_⟩⟩;clear hP0 V hS s1 s2 s3;have l1:=p.ok.l1;have e:=EE p.ok hSm;have c:(DB nm rw ls).pd.shown.length<=sizeLine:=PyData.shown_fits (by decide) (by decide) e.lv (kC e.wg (by decide));have hdp:(DB nm rw ls).pd.depth < 9:=Ar e.dp (by decide);refine⟨_,rfl,DB nm rw ls,tp,rfl,zK p,e.sh,e.nd,hdp,c,?_⟩;refine⟨bJ rfl,fun pd npd=>?_⟩;have u4:=ah npd (.lst []);have e4:upd H3 pd (.lst []) pd=some (.lst []):=ae;generalize upd H3 pd (.lst [])=H4 at u4 e4;refine⟨_,rfl,tp,al,nm,rw,ls,rfl,p.same u4,fun H5 pc rs s5 R ec nc=>⟨pc,rfl,⟨_,bp.of ec⟩,?_⟩⟩;have hcl:(cO ls rs).length<=70:=by
  have h1:=Bp (fun k=>nu k (lead ls rs k)) rs;have h2:rs.length<=ls.length:=fc R.nodup fun i hi=>((R.mem i).mp hi).lt p.ok
  unfold cO
  lia
 have B:=p.same (u4.trans s5);refine d9 (xs:=az (cO ls rs)) (fun j σ H'=>aB H5 H'/\∃ pd I y4,H' pd=some (.lst I)/\(∀ ss,tw ss (gb nm rw ls)->IsL K H' ((gK ((cO ls rs).take j) ss).map D5) I)/\σ=[some (.ref a),some (.ref tp),some (.str (DB nm rw ls).pd.shown),some (.ref pd),y4,none])
  ⟨.refl _,pd,[],_,s5 _ _ e4,fun ss _=>aq,rfl⟩ (fun j σ H' _ h=>bp.of (h.1 _ _ ec)) (fun j y σ H6 L h=>?_) (fun σ H6 h=>?_)
 ·obtain⟨s6,pd,I,y4,e6,i6,rfl⟩:=h;have hj:j < (cO ls rs).length:=by have:=(dJ.mp L).1; rw[bg]at this; exact this
  rw[dX hj]at L;cases L;have eA:=cL hj;generalize (cO ls rs)[j]=k at eA;refine⟨_,rfl,_,rfl,tp,al,nm,rw,ls,rfl,B.same s6,hSm,fun H7 pg xg ss l eg ng ig sr hss=>⟨pg,rfl,⟨_,bp.of eg⟩,fun p8 n8=>?_⟩⟩;have lxg:xg.length=ss.length:=by have:=ig.length; rw[bL]at this; exact this.symm
  have i6':=i6 ss sr;have la:=i6'.length;have lg:=fu (f:=fun k=>ss.map fun b=>(k,b)) (m:=ss.length) (fun k=>by rw[bL]; exact bH _) ((cO ls rs).take j);rw[bL]at la;unfold gK at la;have lg2:ss.length * ((cO ls rs).take j).length<=8000 * 70:=Nat.mul_le_mul hss (by rw[gx]; lia);refine eU (xs:=xg) (fun i H'=>aB H7 H'/\∃ J,H' p8=some (.lst J)/\IsL K H' (((ss.take i).map fun b=>(k,b)).map D5) J) ⟨ah n8 _,[],ae,aq⟩ (fun i H' _ h=>bp.of (h.1 _ _ eg)) (fun i y H8 L h=>?_) (fun H8 h=>?_)
  ·obtain⟨s8,J,C,G⟩:=h;have hi:i < ss.length:=by have:=(dJ.mp L).1; lia
   have eB:=cL hi;obtain⟨y',ey',iy⟩:=ig.get (j:=i) (d:=ss[i].D) (by rw[g6,eB]; rfl);rw[L]at ey'; cases ey';generalize ss[i]=qb at eB iy;refine⟨⟨[some y],rfl,rfl⟩,bR ⟨_,rfl,_,rfl,bJ rfl,fun t nt=>?_⟩⟩;have u:=ah nt (.tup [.int (k:Int),y]);have Y:=u _ _ C;have l8:=G.length;rw[bL,bL,gx]at l8;refine⟨J,Y,(by rw[mP]; lia),aB.new (s8.trans u) n8,J++[.ref t],ae,?_⟩;have tl:=bK.lst (ys:=J++[.ref t]) Y;rw[kX,eB,B1,dH,dH];exact IsL.append ((G.mono u.aA).mono tl) (af ((DY ae (iy.mono (s8.trans u).aA)).mono tl) aq)
  ·obtain⟨s8,J,C,G⟩:=h;rw[lxg,mw]at G;have l8:=G.length;rw[bL,bL]at l8;have x:=l.trans s8;refine⟨pd,p8,I,J,rfl,rfl,x _ _ e6,C,(by rw[mP]; lia),fun p9 n9=>?_⟩;have u9:=ah n9 (.lst (I++J));refine⟨s6.trans (x.trans u9),p9,I++J,_,ae,fun ss' sr'=>?_,rfl⟩;obtain rfl:=sr'.uniq sr;rw[mB eA,dH];exact IsL.append (i6'.mono (x.trans u9).aA) (G.mono u9.aA)
 obtain⟨s6,pd,I,y4,e6,i6,rfl⟩:=h;rw[bg,mw]at i6;have o:=B.same s6;clear s6 B s5 u4 e4 ec nc p;refine⟨_,rfl,tp,al,nm,rw,ls,rfl,o,fun H7 pf g rs7 ss l ef nf R7 sr i7=>?_⟩;obtain rfl:=R7.eq R;have ia:=i6 ss sr;have hP7:=o.same l;have e7:=l _ _ e6;refine⟨_,rfl,_, "list",_,true,rfl,.lst ef,rfl,_,rfl,eI ?_⟩;have ds:=yw (gK (cO ls rs7) ss);have lxf:g.length<=400:=by have:=i7.length; rw[gx]at this; lia
 refine⟨_,rfl,_,rfl,_,rfl,pd,I,rfl,bp.of e7,fun p8 n8=>?_⟩;rw[show dw I none (some 400)=I.take 400 from kl I 400];have Z:=ah n8 (.lst (I.take 400));refine⟨pf,p8,g,_,_,_,rfl,rfl,bp.of (Z _ _ ef),bp.of ae,i7.mono Z.aA,jo 400 (ia.mono (l.trans Z).aA),ds,false,by rw[D.oX]; rfl,eI ?_⟩;have U:=Z _ _ ef;have C:=Z _ _ e7;have M:=hP7.same Z;have W:=ia.mono (l.trans Z).aA;have hne:pd≠pf:=gH e6 nf;have s68:=l.trans Z;generalize upd H7 p8 (.lst (I.take 400))=H8 at U C M W s68;refine⟨_,rfl,DB nm rw ls,tp,rfl,zK M,e.sh,e.nd,hdp,c,_,rfl,rfl,false,by rw[gp rfl]; rfl,eI ?_⟩;refine⟨_,rfl,.inl ⟨rfl,_,bp.of U⟩,pf,g,_,rfl,rfl,U,aN (by lia),?_⟩;have tl:=bK.lst (ys:=g++[.int 7]) U;have s69:aB H6 (upd H8 pf (.lst (g++[.int 7]))):=aB.new s68 nf;have Y:upd H8 pf (.lst (g++[.int 7])) pd=some (.lst I):=by rw[aw hne]; exact C
 have S:=W.mono tl;have hP9:=o.same s69;generalize upd H8 pf (.lst (g++[.int 7]))=H9 at Y S hP9;refine⟨_,rfl,tp,al,nm,rw,ls,rfl,hP9,fun H10 pg xg rs10 ss10 T eg ng R10 sr10 i10=>?_⟩;obtain rfl:=R10.eq R;obtain rfl:=sr10.uniq sr;refine⟨_,rfl,_,rfl,pd,I,rfl,bp.of (T _ _ Y),fun p11 n11=>?_⟩;rw[show dw I none (some 400)=I.take 400 from kl I 400];have r:=ah n11 (.lst (I.take 400));refine⟨pg,p11,xg,_,_,_,rfl,rfl,bp.of (r _ _ eg),bp.of ae,i10.mono r.aA,jo 400 (S.mono (T.trans r).aA),ds,?_⟩;rw[if_neg eN,D.oX];exact q _
def CZ(w:World)(K:aL)(p:Str × List Str)(e:DictEntry):Prop:=e.hash=hashStr w p.1/\(∃ t,e.key=.str p.1 t)/\∃ (a:Addr) (o:Obj) (its:Array Value) (n:Nat),e.val=.ref a/\K.lookup a=some o/\o.cls=.type "tuple"/\o.data=.seq its n/\its.size<=sizeLine/\Vals (p.2.map V.str) its.toList
theorem D7{K:aL}{p:Str × List Str}{e:DictEntry}{t:Tok}{a:Addr}{o:Obj}{its:Array Value}(h1:e.hash=hashStr w p.1)(h2:e.key=.str p.1 t)(h3:e.val=.ref a)(h4:K.lookup a=some o)(h5:o.cls=.type "tuple")(h6:o.data=.seq its n)(h7:its.size<=sizeLine)
  (h8:Vals (p.2.map V.str) its.toList):CZ w K p e:=⟨h1,⟨t,h2⟩,a,o,its,n,h3,h4,h5,h6,h7,h8⟩
theorem lK(ks:List Str):∀ c,V.ref c∉ks.map V.str:=fun c h=>by
 obtain⟨x,_,e⟩:=eW.mp h;cases e
theorem EF{K:aL}{mg:Str->Option Value}(mp:mg "PARTS" = some (.ref aP))(lP:K.lookup aP=some oP)(xP:oP.ExactDict)(dP:oP.data=.dict es ep)(rP:Paired (CZ w K) jc es.toList):Tab P w K mg aP:=by
 have f:∀ (l:List (Str × List Str)) (r:List DictEntry),Paired (CZ w K) l r->∃ kvs:List (Str × V),Paired (fun (p:Str × V) (e:DictEntry)=>e.hash=hashStr w p.1/\(∃ t,e.key=.str p.1 t)/\RelV p.2 e.val) kvs r/\kvs.map (·.1)=l.map (·.1)/\
   ∀ (x:Str) (ks:List Str),l.lookup x=some ks->∃ p,kvs.lookup x=some (.ref p)/\∀ H:Hp,bu K H p (ks.map V.str):=by
  intro l r h
  induction h with
  | nil=>exact⟨[],.nil,rfl,fun x ks h=>by simp at h⟩
  | @cons p e l1 l2 j tl m=>
   obtain⟨kvs,h1,h2,J⟩:=m;obtain⟨p1,p2⟩:=p;obtain⟨b,c,a,o,its,n,g,U,Z,i,d,k⟩:=j;refine⟨(p1,.ref a)::kvs,.cons ⟨b,c,g⟩ h1,by simp[h2],fun x ks I=>?_⟩;cases O:x == p1 with
   | true=>
    simp only[BC,O]at I |-;cases I;exact⟨a,rfl,fun H=>.inr ⟨o,its,n,U,Z,i,d,k,lK _⟩⟩
   | false=>
    simp only[BC,O]at I |-;exact J x ks I
 obtain⟨kvs,h1,h2,J⟩:=f _ _ rP;refine⟨mp,⟨kvs,KD.of lP xP dP h1 ?_,J⟩⟩;rw[h2];decide +kernel
theorem CJ{K:aL}{mg:Str->Option Value}(mz:mg "ZERO" = some (.ref aZ))(lZ:K.lookup aZ=some oZ)(cZ:oZ.cls=.type "tuple")(dZ:oZ.data=.seq iZ nZ)(zZ:iZ.size<=sizeLine)(vZ:Vals [.str "zero"] iZ.toList):uH K mg aZ:=
 ⟨mz,fun H=>.inr ⟨oZ,iZ,nZ,lZ,cZ,dZ,zZ,vZ,lK ["zero"]⟩⟩
theorem Bv(hl:us.length=n + 1):∃ a t,us=a::t/\t.length=n:=by
 cases us with
 | nil=>cases hl
 | cons a t=>exact⟨a,t,rfl,Nat.succ.inj hl⟩
theorem GA{p:List Value->Prop}(hl:us.length=1)(h:∀ a,p [a]):p us:=by
 obtain⟨a,t,rfl,e⟩:=Bv hl;obtain rfl:=List.eq_nil_of_length_eq_zero e;exact h a
theorem Gv{p:List Value->Prop}(hl:us.length=2)(h:∀ a0 a1,p [a0,a1]):p us:=by
 obtain⟨a,t,rfl,e⟩:=Bv hl;exact GA (p:=fun t=>p (a::t)) e (h a)
theorem F3{p:List Value->Prop}(hl:us.length=3)(h:∀ a0 a1 a2,p [a0,a1,a2]):p us:=by
 obtain⟨a,t,rfl,e⟩:=Bv hl;exact Gv (p:=fun t=>p (a::t)) e (h a)
theorem GZ{p:List Value->Prop}(hl:us.length=4)(h:∀ a0 a1 a2 a3,p [a0,a1,a2,a3]):p us:=by
 obtain⟨a,t,rfl,e⟩:=Bv hl;exact F3 (p:=fun t=>p (a::t)) e (h a)
theorem IT{p:List Value->Prop}(hl:us.length=5)(h:∀ a0 a1 a2 a3 a4,p [a0,a1,a2,a3,a4]):p us:=by
 obtain⟨a,t,rfl,e⟩:=Bv hl;exact GZ (p:=fun t=>p (a::t)) e (h a)
section
variable {qual:Str}{st:Stmt}{k:Nat}{ps:List Str}{sp:Sp}{oc:Value}{od an:Option Addr}{osl:Array (Option Value)}{kV doc pm cdv ct:Value}
def Dn(K:aL)(x:Str)(st:Stmt):Prop:=∃ f fd,fL K x x st f fd/\PySem.W.nsIn K mainGlobals x=some (some (.ref f))
def Mn(K:aL)(C:Addr)(x qual:Str)(st:Stmt):Prop:=∃ f fd,fL K x qual st f fd/\Meth K C x f
theorem Gi(a:PySem.W.nsIn K mainGlobals x=some (some (.ref f)))(l:K.lookup f=some ⟨oc,od,.func (PySem.W.fnOf x x (fD st) (eS st) (av st) .none kV doc pm an cdv ct),osl⟩)(c:PySem.W.codeIn K cdv x=true)(k:PySem.W.keepIn K (.ref f)=true):Dn K x st:=⟨f,_,Bo l c k,a⟩
theorem GQ(a:PySem.W.findIn K (.ref C) x=some (some (.ref f)))(l:K.lookup f=some ⟨oc,od,.func (PySem.W.fnOf x qual (fD st) (eS st) (av st) .none kV doc pm an cdv ct),osl⟩)(c:PySem.W.codeIn K cdv qual=true)(k:PySem.W.keepIn K (.ref f)=true)(i:PySem.W.isFn K (.ref f)=true):Mn K C x qual st:=⟨f,_,Bo l c k,⟨a,i,k⟩⟩
def Bn(x qual:Str)(st:Stmt)(ps:List Str):Prop:=∀ (kV doc pm:Value) (an:Option Addr) (cdv ct:Value) (us:List Value),us.length=ps.length->bindArgs (PySem.W.fnOf x qual (fD st) (eS st) (av st) .none kV doc pm an cdv ct) ⟨us,[]⟩=pure (ps.zip us)
def Ct(P:Program)(w:World)(K:aL)(mg:Str->Option Value)(base:Heap):Prop:=∃ h,K.In h/\h.Ns mainGlobals mg
theorem bY(B:Ct P w K mg base)(D:Dn K x st)(b:Bn x x st ps)(ok:∀ f fd,fL K x x st f fd->b9 P w K mg base fM k f fd ps sp):Cl P w K mg base x k ps sp:=by
 obtain⟨f,fd,F,a⟩:=D;obtain⟨h,X,G⟩:=B;exact F.cl (ok f fd F) (PySem.W.mg_of X G a) b
theorem _root_.L2.Cl.up(c:Cl P w K mg base x j ps sp)(h:j<=k:=by decide):Cl P w K mg base x k ps sp:=c.mono h
end
local macro_rules | `(tactic| walk_at "b1")=>`(tactic| exact fun _ _ _ _ _ _ us hl=>GA (hl:=hl) (p:=fun us=>bindArgs _ ⟨us,[]⟩=pure (List.zip _ us)) (fun _=>rfl))
local macro_rules | `(tactic| walk_at "b2")=>`(tactic| exact fun _ _ _ _ _ _ us hl=>Gv (hl:=hl) (p:=fun us=>bindArgs _ ⟨us,[]⟩=pure (List.zip _ us)) (fun _ _=>rfl))
local macro_rules | `(tactic| walk_at "b3")=>`(tactic| exact fun _ _ _ _ _ _ us hl=>F3 (hl:=hl) (p:=fun us=>bindArgs _ ⟨us,[]⟩=pure (List.zip _ us)) (fun _ _ _=>rfl))
local macro_rules | `(tactic| walk_at "b4")=>`(tactic| exact fun _ _ _ _ _ _ us hl=>GZ (hl:=hl) (p:=fun us=>bindArgs _ ⟨us,[]⟩=pure (List.zip _ us)) (fun _ _ _ _=>rfl))
local macro_rules | `(tactic| walk_at "b5")=>`(tactic| exact fun _ _ _ _ _ _ us hl=>IT (hl:=hl) (p:=fun us=>bindArgs _ ⟨us,[]⟩=pure (List.zip _ us)) (fun _ _ _ _ _=>rfl))
theorem all_mk{l:PySem.W.OpenLaw}{K:aL}{mg:Str->Option Value}{fa:Addr}(X:K.In h)(G:h.Ns mainGlobals mg)(hfa:mg "law" = some (.ref fa))
  {tk_MOST_GUESSES:Tok} 
  (h1:Dn K "_law_mixed" qz)
  (h2:Dn K "_law_cell" uA)
  (h3:Dn K "_law_seen" um)
  (h4:Dn K "_law_c" HM)
  (h5:Dn K "_law_closed" ma)
  (h6:Dn K "_law_node" lF)
  (h7:Dn K "_law_straight" je)
  (h8:Dn K "_law_add" zQ)
  (h9:Dn K "_law_clamped" gU)
  (h10:Dn K "_law_apart" qt)
  (h11:Dn K "_law_program" hV)
  (h12:Dn K "_law_wide" qr)
  (h13:Dn K "parts" qg)
  (h14:Dn K "ways" pD)
  (h15:Dn K "come_to" hZ)
  (h16:Dn K "into_each" d7)
  (h17:Dn K "is_cut" mE)
  (h18:Dn K "into_cuts" fz)
  (h19:Dn K "cuts" uL)
  (h20:Dn K "_law_node_of" jY)
  (h21:Dn K "_law_bounds" dA)
  (h22:Dn K "bounds_between" cf)
  (h23:Dn K "against" kf)
  (h24:Dn K "one_more" iW)
  (h25:Dn K "bounds_round" fq)
  (h26:Dn K "value_node" gi)
  (h27:Dn K "alike" pk)
  (h28:Dn K "is_ask" lJ)
  (h29:Dn K "line_bounds" fJ)
  (h30:Dn K "first_versions" dS)
  (h31:Dn K "guessed_bounds" bZ)
  (h32:Dn K "guesses" iB)
  (h33:Dn K "law" lS)
  (z_len:PySem.W.nsIn K mainGlobals "len" = some none)
  (z_sum:PySem.W.nsIn K mainGlobals "sum" = some none)
  (z_range:PySem.W.nsIn K mainGlobals "range" = some none)
  (z_max:PySem.W.nsIn K mainGlobals "max" = some none)
  (z_int:PySem.W.nsIn K mainGlobals "int" = some none)
  (z_tuple:PySem.W.nsIn K mainGlobals "tuple" = some none)
  (z_min:PySem.W.nsIn K mainGlobals "min" = some none)
  (z_list:PySem.W.nsIn K mainGlobals "list" = some none)
  (z_zip:PySem.W.nsIn K mainGlobals "zip" = some none)
  (z_sorted:PySem.W.nsIn K mainGlobals "sorted" = some none)
  (z_enumerate:PySem.W.nsIn K mainGlobals "enumerate" = some none)
  (z_dict:PySem.W.nsIn K mainGlobals "dict" = some none)
  (z_set:PySem.W.nsIn K mainGlobals "set" = some none)
  (z_repr:PySem.W.nsIn K mainGlobals "repr" = some none)
  (z_isinstance:PySem.W.nsIn K mainGlobals "isinstance" = some none)
  (gi_MOST_GUESSES:PySem.W.nsIn K mainGlobals "MOST_GUESSES" = some (some (.int 400 tk_MOST_GUESSES)))
  (gP:PySem.W.nsIn K mainGlobals "PARTS" = some (some (.ref aP)))
  (lP:K.lookup aP=some oP)
  (xP:oP.ExactDict)
  (dP:oP.data=.dict es ep)
  (rP:Paired (CZ w K) jc es.toList)
  (gZ:PySem.W.nsIn K mainGlobals "ZERO" = some (some (.ref aZ)))
  (lZ:K.lookup aZ=some oZ)
  (cZ:oZ.cls=.type "tuple")
  (dZ:oZ.data=.seq iZ nZ)
  (zZ:iZ.size<=sizeLine)
  (vZ:Vals [.str "zero"] iZ.toList) :
  ∃ fd:qT,(∀ (s:Shared) (v:Value),BindsTo s fd ⟨[v],[]⟩ [("_law_script",v)])/\∀ base:Heap,K.In base->base.Ns mainGlobals mg->b9 l.prog w K mg base fM 20 fa fd HA (vY K):=by
 obtain⟨f,fd,F,a⟩:=h33;have e:=hfa.symm.trans (PySem.W.mg_of X G a);cases e;have J:=uY X G z_len;have j:=uY X G z_sum;have I:=uY X G z_range;have g:=uY X G z_max;have b:=uY X G z_int;have O:=uY X G z_tuple;have m:=uY X G z_min;have Z:=uY X G z_list;have k:=uY X G z_zip;have V:=uY X G z_sorted;have U:=uY X G z_enumerate;have d:=uY X G z_dict;have o:=uY X G z_set;have i:=uY X G z_repr;have c:=uY X G z_isinstance;have T:Tab l.prog w K mg aP:=EF (PySem.W.mg_of X G gP) lP xP dP rP;have TZ:uH K mg aZ:=CJ (PySem.W.mg_of X G gZ) lZ cZ dZ zZ vZ;refine⟨fd,fun s v=>?_,fun base _ _=>?_⟩
 ·obtain⟨oc,od,kV,doc,pm,an,cdv,ct,osl,rfl,lk,hcd⟩:=F.ex;exact .of_eq rfl
 have B:Ct l.prog w K mg base:=⟨h,X,G⟩
 have p:=bY B h1 (by walk_at "b2") fun _ _ F=>zf (n:=0) F 
 have y:=bY B h2 (by walk_at "b2") fun _ _ F=>Dm (n:=1) F J j p
 have c3:=bY B h3 (by walk_at "b3") fun _ _ F=>BZ (n:=2) F y p.up
 have t:=bY B h4 (by walk_at "b1") fun _ _ F=>IV (n:=0) F 
 have c5:=bY B h5 (by walk_at "b3") fun _ _ F=>xN (n:=0) F J
 have c6:=bY B h6 (by walk_at "b3") fun _ _ F=>B0 (n:=0) F J I
 have c7:=bY B h7 (by walk_at "b4") fun _ _ F=>sO (n:=1) F g b t
 have c8:=bY B h8 (by walk_at "b5") fun _ _ F=>EN (n:=2) F J O I g b t.up c5.up p.up c6.up c7
 have c9:=bY B h9 (by walk_at "b2") fun _ _ F=>ud (n:=0) F J O m b
 have Q:=bY B h10 (by walk_at "b3") fun _ _ F=>AV (n:=1) F t
 have c11:=bY B h11 (by walk_at "b3") fun _ _ F=>uF (n:=3) F I J g b y.up c3 p.up c8 c5.up c9.up Q.up
 have z:=bY B h12 (by walk_at "b2") fun _ _ F=>CW (n:=1) F J O I b p t
 have A:=bY B h13 (by walk_at "b1") fun _ _ F=>AI (n:=0) F Z k T
 have q:=bY B h14 (by walk_at "b1") fun _ _ F=>Cj (n:=1) F O A
 have M:=bY B h15 (by walk_at "b1") fun _ _ F=>uK (n:=2) F V q
 have E:=bY B h16 (by walk_at "b1") fun _ _ F=>qy (n:=3) F U d q.up M
 have u:=bY B h17 (by walk_at "b2") fun _ _ F=>xS (n:=0) F J
 have c18:=bY B h18 (by walk_at "b1") fun _ _ F=>pB (n:=4) F d E u.up
 have r:=bY B h19 (by walk_at "b1") fun _ _ F=>BU (n:=5) F Z c18
 have c20:=bY B h20 (by walk_at "b1") fun _ _ F=>u0 (n:=0) F 
 have c21:=bY B h21 (by walk_at "b1") fun _ _ F=>x8 (n:=1) F V o U I c20
 have S:=bY B h22 (by walk_at "b1") fun _ _ F=>jz (n:=0) F TZ I
 have Y:=bY B h23 (by walk_at "b1") fun _ _ F=>vo (n:=0) F 
 have H:=bY B h24 (by walk_at "b1") fun _ _ F=>rj (n:=0) F 
 have L:=bY B h25 (by walk_at "b1") fun _ _ F=>kI (n:=1) F Y H
 have c26:=bY B h26 (by walk_at "b2") fun _ _ F=>nK (n:=0) F TZ
 have D:=bY B h27 (by walk_at "b3") fun _ _ F=>za (n:=0) F 
 have N:=bY B h28 (by walk_at "b1") fun _ _ F=>ya (n:=0) F 
 have C:=bY B h29 (by walk_at "b2") fun _ _ F=>mS (n:=2) F TZ Z L c26.up D.up N.up
 have c30:=bY B h30 (by walk_at "b1") fun _ _ F=>jS (n:=0) F 
 have x:=bY B h31 (by walk_at "b1") fun _ _ F=>jJ (n:=3) F V d S.up C c30.up
 have R:=bY B h32 (by walk_at "b1") fun _ _ F=>uB (n:=6) F (PySem.W.mg_of X G gi_MOST_GUESSES) x.up r
 exact Fj (n:=19) F i c Z c11.up z.up y.up r.up c21.up R.up
theorem walk{l:PySem.W.OpenLaw}{q:Program}{loose:List Str}{XP:(Str->Option Value)->Heap->Prop}{YP:World->Heap->Prop}{d:DefRec}{K:Params->aL}(hn:l.most=some 63)(hdf:d.params.defaults=[])
  (hY:∀ (w:World) (h:Heap),YP w h->(K w.params).In h)
  (F:∀ (w:World) (mg:Str->Option Value) (fa:Addr) (h:Heap),(K w.params).In h->h.Ns mainGlobals mg->mg d.name=some (.ref fa)->
   ∃ fd:qT,(∀ (s:Shared) (u:Value),BindsTo s fd ⟨[u],[]⟩ [("_law_script",u)])/\∀ base:Heap,(K w.params).In base->base.Ns mainGlobals mg->b9 l.prog w (K w.params) mg base fM 20 fa fd HA (vY (K w.params))) :
  PySem.W.WalkO q loose XP YP l.row.toRowW d [] (fun f vs=>PySem.call f vs):=
 L2.wH (n:=63) (k:=20) (x:="_law_script") (CX:=fun _=>fM) (sp:=fun w=>vY (K w.params)) hn (by decide) hdf ⟨rfl,by decide,by decide,rfl⟩ hY F (fun _ _ a ns J _ I=>⟨a,ns,rfl,I,fun _=>rfl⟩) fun _ _ _ _ _ z=>z
end K55
local macro_rules | `(tactic| walk_at "z")=>`(tactic| (refine' K55.Gi ?a ?l ?c ?k; (case a=>k_is); (case l=>k_is); (case c=>k_is); (case k=>k_is)))
local macro_rules | `(tactic| walk_at "y")=>`(tactic| (refine' K55.GQ ?a ?l ?c ?k ?i; (case a=>k_is); (case l=>k_is); (case c=>k_is); (case k=>k_is); (case i=>k_is)))
structure PySem.W.Fast:Prop where(tw15423795079247199312 tw5451734522797684148 tw8480394992612674613 tw8098380255409202200 tw12432960981809073854 tw15778844635205287803 tw6787510078337531104 tw14439495359574494936 tw13178620181839122798 tw13717525906099835062 tw10836301548197761998 tw9539221259320846166 tw1204891704668087367 tw2186671332490569829 tw17985308567140906894 tw15378432120186235653 tw7907296582853875484 tw5020800906036775737 tw12000142736025447094 tw9937336791931361210 tw3542292037818177005 tw1359710590797670567 tw5071241956027284932 tw8633791557603361157 tw7702183875097204612 tw14347261986682299244 tw3706038094847034960 tw5685201888506694301 tw13247875796202478561 tw2291361502968527939 tw392641019725640933 tw12859885560056814364 tw6594927733586210437 tw11474694695649460396 tw5834480935469121122 tw960357160778085829 tw17405513619123435090 tw2461304203143816949 tw2564697513519385704 tw12784865629185899863 tw934036762463261345 tw14470879584830896744 tw12238370048585749056 tw5294155071904408704 tw18066403130453627592 tw3509326502109895380 tw15204399945544721010 tw5640203699876577080 tw12822480939886495871 tw14604672907902124015 tw12258385470717887431 tw1534709834267950117 tw10667833910370344253 tw8929531524565319811 tw4430833555737623652 tw1734653476094331907 tw1246866145860279508 tw1277550490647664624 tw8180117085395098233 tw1924898897741342395 tw6862459152797953488 tw2501143246003269598 tw4215792119625003591 tw9572239057943067797 tw2497017127545209102 tw3268289367522376773 tw8935700118013492725 tw5969256609574043107 tw11141656267571538311 tw9776812742788195793 tw3690952310012804717 tw10571699970862632100 tw14694642690677253093 tw610820271923071480 tw17267511045615233794 tw17949464979297632050 tw5265357663324500817 tw11036395607773885971 tw8300745538217623790 tw2069114344280669966 tw7472439775453646699 tw4039803689245042628 tw7712913688172732570 tw15946278384581933188 tw1954349070614386666 tw4119684073178929627 tw17250148175740513388 tw17036748807309310487 tw13930964790563486949 tw8468917966847628760 tw7619742712300556448 tw14362807611074254533 tw11746257485966304642 tw10768877788376162678 tw10939792612735492170 tw3291890845681255114 tw3864966364226873165 tw3685522456918927358 tw10726533363931098092 tw9136582489849051303 tw7960087798917184182 tw12772385066536296701 tw5329558921415200217 tw14542505759254659225 tw2315365649532102623 tw7994332570436444959 tw6413138684109650034 tw4757536467288397203 tw4160138362982594771 tw10381561963550673565 tw9618646417330257202 tw10770616239597232422 tw10244646019440655373 tw6318001414585972694 tw3333660777931483459 tw17805486379862966640 tw2704534812028419470 tw10053044216855189972 tw2246216263371197187 tw13297619598129761276 tw12049898903073285323 tw8393406587185121823 tw11727714327154229252 tw4329831725361855879 tw10324211552528719709 tw17072510882086024343 tw407096312828323484 tw5239779084582642717 tw7872436561887170806 tw14905817329924863334 tw12394771951597059816 tw13390508008749645710 tw3823023608649913069 tw14493685960265331283 tw14537832319567436007 tw5878695831348408147 tw16717349637711848147 tw7524028080215553122 tw17688995497086560003 tw10496192228121045884 tw2409146063092401970 tw2680691442963250998 tw8939368849709778512 tw4996553323501645274 tw17705376568525309814 tw1205772965866322279 tw11132154036091540083 tw1553928999651980048 tw11080193978375282985 tw368078306568477964 tw2464025574756614552 tw1209898181699758419 tw10870151198556395030 tw9791029684303845389 tw934287929324069176 tw89397958214687004 tw8918386632574828159 tw864646105362380824 tw7340104301864575384 tw7175378968872176537 tw641935787484822967 tw6284130163477059405 tw6121895509623081530 tw6085806043449546939 tw579984016586223887 tw5356455488924907822 tw4705296034077061001 tw4701945410194831399 tw4415939697600054317 tw4201029854343159357 tw4107752438650115132 tw369783665714765836 tw3409358927860735470 tw3357928140852318169 tw3036629243966188691 tw2975351038921373461 tw2975252966996452174 tw2935430909351899979 tw2722733025384703693 tw2584902651948914327 tw232266379887513215 tw2285508599134871072 tw17750405767364645451 tw17203399367140832258 tw17083324005591560283 tw16670818316109656492 tw15810739992166585844 tw1575575194008029322 tw1538199308249945770 tw15201447766838632346 tw15134568238871025696 tw15060007832387941091 tw1475863320810462240 tw14650384537729859442 tw14464509939887424745 tw14218380833158219818 tw13966850836910815474 tw13814840704510709701 tw1365338898414937721 tw13177464023164799728 tw12436410338907585727 tw12230382598278795673 tw12156250055421192506 tw12120785462860278712 tw11251300112620859369 tw11025763338897504316 tw10982537815617369406 tw10906957837535393064 tw1003163309233816798:True)
open PySem PySem.W PyProof.Rows
set_option maxRecDepth 100000 in
set_option maxHeartbeats 0 in
theorem PySem.Challenge.cw_lookspare_k55_guesses_holds : PySem.Challenge.rw_lookspare_k55_guesses.Holds := by
  w_on; o_law; k_head; (case hw => w_witness2)
  k_fill
  refine K55.walk (l := PySem.Challenge.rw_lookspare_k55_guesses) rfl rfl (fun w h Y => PySem.W.kIn_of Y) ?F
  case F =>
    intro w mg fa h KX G hmg
    refine' K55.all_mk KX G hmg ?h1 ?h2 ?h3 ?h4 ?h5 ?h6 ?h7 ?h8 ?h9 ?h10 ?h11 ?h12 ?h13 ?h14 ?h15 ?h16 ?h17 ?h18 ?h19 ?h20 ?h21 ?h22 ?h23 ?h24 ?h25 ?h26 ?h27 ?h28 ?h29 ?h30 ?h31 ?h32 ?h33 ?z_len ?z_sum ?z_range ?z_max ?z_int ?z_tuple ?z_min ?z_list ?z_zip ?z_sorted ?z_enumerate ?z_dict ?z_set ?z_repr ?z_isinstance ?gi_MOST_GUESSES ?gP ?lP ?xP ?dP ?rP ?gZ ?lZ ?cZ ?dZ ?zZ ?vZ
    (case h1 => walk_at "z")
    (case h2 => walk_at "z")
    (case h3 => walk_at "z")
    (case h4 => walk_at "z")
    (case h5 => walk_at "z")
    (case h6 => walk_at "z")
    (case h7 => walk_at "z")
    (case h8 => walk_at "z")
    (case h9 => walk_at "z")
    (case h10 => walk_at "z")
    (case h11 => walk_at "z")
    (case h12 => walk_at "z")
    (case h13 => walk_at "z")
    (case h14 => walk_at "z")
    (case h15 => walk_at "z")
    (case h16 => walk_at "z")
    (case h17 => walk_at "z")
    (case h18 => walk_at "z")
    (case h19 => walk_at "z")
    (case h20 => walk_at "z")
    (case h21 => walk_at "z")
    (case h22 => walk_at "z")
    (case h23 => walk_at "z")
    (case h24 => walk_at "z")
    (case h25 => walk_at "z")
    (case h26 => walk_at "z")
    (case h27 => walk_at "z")
    (case h28 => walk_at "z")
    (case h29 => walk_at "z")
    (case h30 => walk_at "z")
    (case h31 => walk_at "z")
    (case h32 => walk_at "z")
    (case h33 => walk_at "z")
    (case z_len => k_is)
    (case z_sum => k_is)
    (case z_range => k_is)
    (case z_max => k_is)
    (case z_int => k_is)
    (case z_tuple => k_is)
    (case z_min => k_is)
    (case z_list => k_is)
    (case z_zip => k_is)
    (case z_sorted => k_is)
    (case z_enumerate => k_is)
    (case z_dict => k_is)
    (case z_set => k_is)
    (case z_repr => k_is)
    (case z_isinstance => k_is)
    (case gi_MOST_GUESSES => k_is)
    (case gP => k_is)
    (case lP => k_is)
    (case xP => exact ⟨rfl, rfl, rfl⟩)
    (case dP => exact rfl)
    (case rP => repeat' (first | exact .nil | (refine' .cons (K55.D7 ?h1 ?h2 ?h3 ?h4 ?h5 ?h6 ?h7 ?h8) ?_; (case h1 => exact rfl); (case h2 => exact rfl); (case h3 => exact rfl); (case h4 => k_is); (case h5 => exact rfl); (case h6 => exact rfl); (case h7 => exact Nat.le_of_ble_eq_true rfl); (case h8 => repeat (first | exact .nil | refine .cons ⟨_, rfl⟩ ?_)))))
    (case gZ => k_is)
    (case lZ => k_is)
    (case cZ => exact rfl)
    (case dZ => exact rfl)
    (case zZ => exact Nat.le_of_ble_eq_true rfl)
    (case vZ => repeat (first | exact .nil | refine .cons ⟨_, rfl⟩ ?_))
