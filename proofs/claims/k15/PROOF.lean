import PyProof.Rows.All
import Wide.All
import OpenK.AllK
import Wide.FinOn
import Lean
import PyProof.EqAt
import PyProof.EqKinds
import PyProof.TupleCall
import PyProof.NeKinds
import PySem.Challenge.RW_lookspare_k15_texts_refused
set_option Elab.async false
set_option linter.all false
set_option maxRecDepth 100000
set_option maxHeartbeats 4000000
noncomputable section
local macro_rules | `(tactic| walk_at "q") => `(tactic| first | rfl | decide | exact .inl rfl | exact .inr rfl)
namespace L2
def appQ.{u,v} {α:Sort u} {κ:Sort v} (Q:κ) (P:α→κ→Prop) (x:α):Prop:=P x Q
def ExQ.{u,v} {α:Sort u} {κ:Sort v} (Q:κ) (P:α→κ→Prop):Prop:=Exists (appQ Q P)
open PySem PySem.Spec PyProof.Rows
abbrev Key:=Sum Int Str
def keyIs:Key→Value→Bool
 | .inl k,v=>Value.isInt k v
 | .inr x,v=>Value.isStrOf x v
def keyH (w:World):Key→Int
 | .inl k=>hashInt k
 | .inr x=>hashStr w x
theorem keyIs_shape:∀ {k:Key} {v:Value},keyIs k v=true→(∃ i t,k=Sum.inl i∧v=Value.int i t)∨(∃ x t,k=Sum.inr x∧v=Value.str x t)
 | .inl i,v,h=>by
  obtain ⟨t,e⟩:=Value.isInt_shape (k:=i) (v:=v) h
  exact .inl ⟨i,t,rfl,e⟩
 | .inr x,v,h=>by
  obtain ⟨t,e⟩:=Value.isStrOf_shape (x:=x) (v:=v) h
  exact .inr ⟨x,t,rfl,e⟩
theorem keyIs_int (i:Int) (t:Tok):keyIs (.inl i) (.int i t)=true:=by simp [keyIs,Value.isInt]
theorem keyIs_str (x:Str) (t:Tok):keyIs (.inr x) (.str x t)=true:=by simp [keyIs,Value.isStrOf]
theorem key_ll (a b:Int):decide ((Sum.inl a:Key)=Sum.inl b)=(a == b):=by
 by_cases e:a=b
 ·subst e; simp
 ·have h:¬ (Sum.inl a:Key)=Sum.inl b:=fun q=>e (Sum.inl.inj q)
  rw [decide_eq_false h]
  exact (beq_eq_false_iff_ne.mpr e).symm
theorem key_rr (a b:Str):decide ((Sum.inr a:Key)=Sum.inr b)=decide (a=b):=by
 by_cases e:a=b
 ·subst e; simp
 ·have h:¬ (Sum.inr a:Key)=Sum.inr b:=fun q=>e (Sum.inr.inj q)
  rw [decide_eq_false h,decide_eq_false e]
theorem key_lr (a:Int) (b:Str):decide ((Sum.inl a:Key)=Sum.inr b)=false:=decide_eq_false (fun q=>nomatch q)
theorem key_rl (a:Str) (b:Int):decide ((Sum.inr a:Key)=Sum.inl b)=false:=decide_eq_false (fun q=>nomatch q)
def mixKind (prog:Program) (w:World):PySem.KeyKind prog w Key where
 is:=keyIs
 hash:=keyH w
 inj:=fun v a b ha hb=>by
  rcases keyIs_shape ha with ⟨i,t,rfl,rfl⟩ | ⟨x,t,rfl,rfl⟩
  ·rcases keyIs_shape hb with ⟨j,u,rfl,e⟩ | ⟨y,u,rfl,e⟩
   ·injection e with e1 _; rw [e1]
   ·exact nomatch e
  ·rcases keyIs_shape hb with ⟨j,u,rfl,e⟩ | ⟨y,u,rfl,e⟩
   ·exact nomatch e
   ·injection e with e1 _; rw [e1]
 byValue:=fun k v h=>by
  rcases keyIs_shape h with ⟨i,t,rfl,rfl⟩ | ⟨x,t,rfl,rfl⟩ <;> rfl
 pyHash:=fun hv h=>by
  rcases keyIs_shape hv with ⟨i,t,rfl,rfl⟩ | ⟨x,t,rfl,rfl⟩
  ·exact wpAny_pyHash_int h
  ·exact wpAny_pyHash_str h
 eqBool:=fun hu hv h=>by
  rcases keyIs_shape hu with ⟨i,t,rfl,rfl⟩ | ⟨x,t,rfl,rfl⟩
  ·rcases keyIs_shape hv with ⟨j,u,rfl,rfl⟩ | ⟨y,u,rfl,rfl⟩
   ·rw [key_ll] at h; exact wpAny_eqBool_int h
   ·rw [key_lr] at h; exact SeqAt.EqAt.int_str i t y u _ _ _ _ h
  ·rcases keyIs_shape hv with ⟨j,u,rfl,rfl⟩ | ⟨y,u,rfl,rfl⟩
   ·rw [key_rl] at h; exact SeqAt.EqAt.str_int x t j u _ _ _ _ h
   ·rw [key_rr] at h; exact wpAny_eqBool_str h
 «strs»:=fun k x t v h=>by
  rcases keyIs_shape h with ⟨i,u,rfl,e⟩ | ⟨y,u,rfl,e⟩
  ·exact nomatch e
  ·injection e with e1 _
   subst e1
   cases v <;> rfl
theorem mixKind_int (prog:Program) (w:World) (i:Int) (t:Tok):(mixKind prog w).is (.inl i) (.int i t)=true:=keyIs_int i t
theorem mixKind_str (prog:Program) (w:World) (x:Str) (t:Tok):(mixKind prog w).is (.inr x) (.str x t)=true:=keyIs_str x t
inductive V where
 | non | bl (b:Bool) | int (i:Int) | str (x:Str) | byt (b:Array UInt8) | flt (b:UInt64) | ref (a:Addr) | ty (n:String)
 deriving DecidableEq
def RelV:V→Value→Prop
 | .non,u=>u=Value.none
 | .bl b,u=>u=Value.bool b
 | .int i,u=>∃ t,u=Value.int i t
 | .str x,u=>∃ t,u=Value.str x t
 | .byt b,u=>∃ t,u=Value.bytes b t
 | .flt b,u=>∃ t,u=Value.float b t
 | .ref a,u=>u=Value.ref a
 | .ty n,u=>u=Value.type n
abbrev Vals:List V→List Value→Prop:=Paired RelV
theorem Vals.length {xs:List V} {us:List Value} (r:Vals xs us):xs.length=us.length:=Paired.length r
theorem Vals.get:∀ {xs:List V} {us:List Value} {i:Nat} {x:V},Vals xs us→xs[i]?=some x→∃ u,us[i]?=some u∧RelV x u
 | _,_,_,_,.nil,e=>by simp at e
 | _,_,0,_,.cons r _,e=>by simp at e; subst e; exact ⟨_,rfl,r⟩
 | _,_,i + 1,x,.cons _ t,e=>by
  obtain ⟨u,h1,h2⟩:=Vals.get (i:=i) (x:=x) t (by simpa using e)
  exact ⟨u,by simpa using h1,h2⟩
theorem Vals.set {x:V} {u:Value} (r:RelV x u):∀ {xs:List V} {us:List Value} (i:Nat),Vals xs us→Vals (xs.set i x) (us.set i u)
 | _,_,_,.nil=>.nil
 | _,_,0,.cons _ t=>.cons r t
 | _,_,i + 1,.cons q t=>.cons q (Vals.set r i t)
theorem Vals.append:∀ {xs ys:List V} {us ws:List Value},Vals xs us→Vals ys ws→Vals (xs++ys) (us++ws)
 | _,_,_,_,.nil,s=>s
 | _,_,_,_,.cons r t,s=>.cons r (Vals.append t s)
theorem Vals.take:∀ {xs:List V} {us:List Value} (n:Nat),Vals xs us→Vals (xs.take n) (us.take n)
 | _,_,0,_=>.nil
 | _,_,_ + 1,.nil=>.nil
 | _,_,n + 1,.cons r t=>.cons r (Vals.take n t)
theorem Vals.drop:∀ {xs:List V} {us:List Value} (n:Nat),Vals xs us→Vals (xs.drop n) (us.drop n)
 | _,_,0,r=>r
 | _,_,_ + 1,.nil=>.nil
 | _,_,n + 1,.cons _ t=>Vals.drop n t
def RelO:Option V→Option Value→Prop
 | some v,some u=>RelV v u
 | none,none=>True
 | _,_=>False
def KV {κ:Type}:List (κ × V)→List (κ × Value)→Prop:=Paired fun (p:κ × V) (q:κ × Value)=>p.1=q.1∧RelV p.2 q.2
def kV:Key→V
 | .inl i=>.int i
 | .inr x=>.str x
inductive HO where
  | lst (xs:List V)
  | tup (xs:List V)
  | dK (kvs:List (Key × V)) | dT (kvs:List (List Key × V))
  | set (S:Int→Bool) (n:Nat)
  | ins (C dx:Addr) (fs:List (Str × V))
  | own (x:Addr)
  | xd (fs:List (Str × V))
  | met (f x:Addr)
  | rng (lo hi:Int)
  | frz (o:Obj) (u:HO)
  | tbl (ps:Array Value)
  | ext (φ:Heap→Prop)
abbrev Hp:=Addr→Option HO
def upd (H:Hp) (a:Addr) (o:HO):Hp:=fun b=>if b=a then some o else H b
theorem upd_same {H:Hp} {a:Addr} {o:HO}:upd H a o a=some o:=by unfold upd; rw [if_pos rfl]
theorem upd_ne {H:Hp} {a b:Addr} {o:HO} (h:b≠a):upd H a o b=H b:=by unfold upd; rw [if_neg h]
theorem ne_of {H:Hp} {a b:Addr} {o u:HO} (h:H a=some o) (h':H b=some u) (d:o≠u):a≠b:=by
 intro e; subst e; rw [h] at h'; exact d (Option.some.inj h')
theorem ne_of_none {H:Hp} {a b:Addr} {o:HO} (h:H a=some o) (h':H b=none):a≠b:=by
 intro e; subst e; rw [h] at h'; cases h'
section
variable (P:Program) (w:World)
def ObjOk (H:Hp) (h:Heap) (a:Addr):HO→Prop
 | .lst xs=>xs.length≤sizeLine∧∃ (its:List Value) (n:Nat),Vals xs its∧h.get? a=some { cls:=.type "list",data:=.seq its.toArray n }
 | .tup xs=>xs.length≤sizeLine∧∃ its:List Value,Vals xs its∧IsTup h a its.toArray
 | .dK kvs=>kvs.length≤sizeLine∧(a == sysModules)=false∧∃ vs,KV kvs vs∧h.DictOf (mixKind P w) a vs
 | .dT kvs=>kvs.length≤sizeLine∧(a == sysModules)=false∧∃ xs:List (List Key × Addr × Value),
   Paired (fun (p:List Key × V) (q:List Key × Addr × Value)=>p.1=q.1∧H q.2.1=some (.tup (p.1.map kV))∧RelV p.2 q.2.2) kvs xs∧
   ∃ o es ep,h.get? a=some o∧o.ExactDict∧o.data=.dict es ep∧es.toList=xs.map (entryOfKey (tupleKind (mixKind P w)))∧(xs.map (·.1)).Nodup
 | .set S n=>h.SetOf (intKind P w) a S n
 | .ins C dx fs=>H dx=some (.own a)∧fs.length≤1000∧dx≠a∧h.get? a=some (PySem.W.instObj C dx)∧
   ∃ mA,h.Ns1 dx mA∧(∀ f,RelO (fs.lookup f) (mA f))∧PySem.Within mA (fs.map (·.1))
 | .own _=>∃ o,h.get? a=some o
 | .xd fs=>∃ mA,h.Ns1 a mA∧∀ f,RelO (fs.lookup f) (mA f)
 | .rng lo hi=>∃ t u v,h.get? a=some { cls:=.type "range",data:=.fields #[.int lo t,.int hi u,.int 1 v] }
 | .frz o u=>h.get? a=some o∧ObjOk H h a u
 | .tbl ps=>h.get? a=some { cls:=.none,data:=.fields ps }
 | .met f x=>h.get? a=some (PySem.W.methodObj (.ref f) (.ref x))
 | .ext φ=>φ h∧(∃ o,h.get? a=some o)∧∀ h1 h2:Heap,φ h1→(∀ o,h1.get? a=some o→h2.get? a=some o)→φ h2
def HOk (H:Hp) (h:Heap):Prop:=∀ a o,H a=some o→ObjOk P w H h a o
end
section
variable {P:Program} {w:World} {H H':Hp} {h h':Heap} {a:Addr} {o:HO}
theorem ObjOk.lt (x:ObjOk P w H h a o):a < h.objs.size:=by
 cases o with
 | lst xs=>obtain ⟨_,_,_,_,e⟩:=x; exact Heap.lt_size e
 | tup xs=>obtain ⟨_,_,_,p⟩:=x; exact p.lt
 | dK kvs=>obtain ⟨_,_,_,_,o,_,_,e,_⟩:=x; exact Heap.lt_size e
 | dT kvs=>obtain ⟨_,_,_,_,o,_,_,e,_⟩:=x; exact Heap.lt_size e
 | set S n=>obtain ⟨o,_,_,_,e,_⟩:=x; exact Heap.lt_size e
 | ins C dx fs=>obtain ⟨_,_,_,e,_⟩:=x; exact Heap.lt_size e
 | own y=>obtain ⟨_,e⟩:=x; exact Heap.lt_size e
 | xd fs=>obtain ⟨_,⟨_,_,_,e,_⟩,_⟩:=x; exact Heap.lt_size e
 | rng lo hi=>obtain ⟨_,_,_,e⟩:=x; exact Heap.lt_size e
 | frz ob u=>obtain ⟨e,_⟩:=x; exact Heap.lt_size e
 | tbl ps=>exact Heap.lt_size (show h.get? a=some _ from x)
 | met f y=>exact Heap.lt_size (show h.get? a=some _ from x)
 | ext φ=>obtain ⟨_,⟨_,e⟩,_⟩:=x; exact Heap.lt_size e
theorem Paired.mapP {α β:Type} {F G:α→β→Prop}:∀ {l₁:List α} {l₂:List β},Paired F l₁ l₂→(∀ a b,F a b→G a b)→Paired G l₁ l₂
 | _,_,.nil,_=>.nil
 | _,_,.cons r t,f=>.cons (f _ _ r) (Paired.mapP t f)
theorem ObjOk.stay (x:ObjOk P w H h a o) (k:∀ b u,(b=a∨H b=some (.own a))→h.get? b=some u→h'.get? b=some u)
  (ho:∀ b,H b=some (.own a)→H' b=some (.own a)) (ht:∀ b xs,H b=some (.tup xs)→H' b=some (.tup xs)):ObjOk P w H' h' a o:=by
 induction o with
 | lst xs=>obtain ⟨z,its,n,r,e⟩:=x; exact ⟨z,its,n,r,k _ _ (.inl rfl) e⟩
 | tup xs=>obtain ⟨z,its,r,ob,e,c⟩:=x; exact ⟨z,its,r,ob,k _ _ (.inl rfl) e,c⟩
 | dK kvs=>obtain ⟨z,y,vs,r,ob,es,ep,e,c⟩:=x; exact ⟨z,y,vs,r,ob,es,ep,k _ _ (.inl rfl) e,c⟩
 | dT kvs=>
  obtain ⟨z,y,xs,r,ob,es,ep,e,c⟩:=x
  exact ⟨z,y,xs,Paired.mapP r fun p q z=>⟨z.1,ht _ _ z.2.1,z.2.2⟩,ob,es,ep,k _ _ (.inl rfl) e,c⟩
 | set S n=>obtain ⟨ob,es,ep,t,e,c⟩:=x; exact ⟨ob,es,ep,t,k _ _ (.inl rfl) e,c⟩
 | ins C dx fs=>
  obtain ⟨d,z,ne,e,mA,⟨od,es,ep,e2,c⟩,r⟩:=x
  exact ⟨ho _ d,z,ne,k _ _ (.inl rfl) e,mA,⟨od,es,ep,k _ _ (.inr d) e2,c⟩,r⟩
 | own y=>obtain ⟨ob,e⟩:=x; exact ⟨ob,k _ _ (.inl rfl) e⟩
 | xd fs=>obtain ⟨mA,⟨od,es,ep,e,c⟩,r⟩:=x; exact ⟨mA,⟨od,es,ep,k _ _ (.inl rfl) e,c⟩,r⟩
 | rng lo hi=>obtain ⟨t,u,v,e⟩:=x; exact ⟨t,u,v,k _ _ (.inl rfl) e⟩
 | frz ob u ih=>obtain ⟨e,q⟩:=x; exact ⟨k _ _ (.inl rfl) e,ih q⟩
 | tbl ps=>
  have e:h.get? a=some { cls:=.none,data:=.fields ps }:=x
  show h'.get? a=some { cls:=.none,data:=.fields ps }
  exact k a _ (.inl rfl) e
 | met f y=>
  have e:h.get? a=some (PySem.W.methodObj (.ref f) (.ref y)):=x
  show h'.get? a=some (PySem.W.methodObj (.ref f) (.ref y))
  exact k a _ (.inl rfl) e
 | ext φ=>obtain ⟨p,⟨o,e⟩,st⟩:=x; exact ⟨st _ _ p fun o q=>k _ _ (.inl rfl) q,⟨o,k _ _ (.inl rfl) e⟩,st⟩
theorem HOk.lt (x:HOk P w H h) (e:H a=some o):a < h.objs.size:=(x a o e).lt
theorem HOk.fresh (x:HOk P w H h) (e:h.objs.size≤a):H a=none:=by
 cases q:H a with
 | none=>rfl
 | some u=>exact absurd (Nat.lt_of_lt_of_le (x.lt q) e) (Nat.lt_irrefl _)
theorem HOk.kept (x:HOk P w H h) (k:∀ b u,h.get? b=some u→h'.get? b=some u):HOk P w H h':=fun a o e=>
 (x a o e).stay (fun b u _ q=>k b u q) (fun _ q=>q) fun _ _ q=>q
theorem HOk.laid (x:HOk P w H h) (k:∀ b u,h.get? b=some u→h'.get? b=some u) (hp:h.objs.size≤a) (new:ObjOk P w (upd H a o) h' a o):HOk P w (upd H a o) h':=fun b u e=>by
 have hn:=x.fresh hp
 by_cases hb:b=a
 ·subst hb; rw [upd_same] at e; cases e; exact new
 ·rw [upd_ne hb] at e
  exact (x b u e).stay (fun c v _ q=>k c v q) (fun c q=>by rw [upd_ne (ne_of_none q hn)]; exact q) fun c xs q=>by rw [upd_ne (ne_of_none q hn)]; exact q
end
def Rd (H:Hp) (a:Addr) (u:HO):Prop:=H a=some u∨∃ o,H a=some (.frz o u)
theorem Rd.of {H:Hp} {a:Addr} {u:HO} (h:H a=some u):Rd H a u:=.inl h
theorem Rd.ok {P:Program} {w:World} {H:Hp} {h:Heap} {a:Addr} {u:HO} (r:Rd H a u) (x:HOk P w H h):ObjOk P w H h a u:=by
 rcases r with r | ⟨o,r⟩
 ·exact x a u r
 ·obtain ⟨_,q⟩:=x a _ r
  exact q
def Mut:Option HO→Prop
 | some (.lst _)=>True
 | some (.dK _)=>True
 | some (.dT _)=>True
 | some (.set _ _)=>True
 | some (.ins _ _ _)=>True
 | some (.ext _)=>True
 | _=>False
section
variable {P:Program} {w:World} {H:Hp} {h h':Heap} {x e:Addr} {o':HO}
theorem HOk.write (ok:HOk P w H h) (mu:Mut (H x)) (he:e=x∨H e=some (.own x)) (k:∀ b u,b≠e→h.get? b=some u→h'.get? b=some u) (heo:∃ u,h'.get? e=some u)
  (new:ObjOk P w (upd H x o') h' x o'):HOk P w (upd H x o') h':=fun b u q=>by
 have nown:∀ c y,H c=some (.own y)→c≠x:=fun c y r z=>by subst z; rw [r] at mu; exact mu
 have ntup:∀ c xs,H c=some (.tup xs)→c≠x:=fun c xs r z=>by subst z; rw [r] at mu; exact mu
 by_cases hb:b=x
 ·subst hb; rw [upd_same] at q; cases q; exact new
 ·rw [upd_ne hb] at q
  by_cases hbe:b=e
  ·have q':H b=some (.own x):=by
    rcases he with z | z
    ·exact absurd (hbe.trans z) hb
    ·rw [hbe]; exact z
   rw [q] at q'; cases q'
   obtain ⟨v,hv⟩:=heo
   exact ⟨v,by rw [hbe]; exact hv⟩
  ·refine (ok b u q).stay (fun c v hc r=>k c v ?_ r) (fun c r=>by rw [upd_ne (nown c b r)]; exact r) fun c xs r=>by rw [upd_ne (ntup c xs r)]; exact r
   rcases hc with rfl | hc
   ·exact hbe
   ·rintro rfl
    rcases he with z | z
    ·exact nown c b hc z
    ·rw [hc] at z; cases z; exact hb rfl
end
structure Un (fs ex:List Addr) (H H':Hp) (h h':Heap):Prop where
 keep:∀ b o,h.get? b=some o→H b=none→b∉fs→b∉ex→h'.get? b=some o
 slot:∀ b o,h.get? b=some o→H b=none→b∈fs→b∉ex→∃ sl,h'.get? b=some { o with slots:=sl }
 free:∀ b o,h.get? b=some o→H b=none→b∉ex→H' b=none
 there:∀ b o,h.get? b=some o→b∉ex→∃ o',h'.get? b=some o'
 tups:∀ b xs,H b=some (.tup xs)→H' b=some (.tup xs)
 frzs:∀ b o u,H b=some (.frz o u)→H' b=some (.frz o u)
 tbls:∀ b ps,H b=some (.tbl ps)→∃ more,H' b=some (.tbl (ps++more))
section
variable {fs fs' ex ex':List Addr} {H H1 H2:Hp} {h h1 h2 h':Heap} {a x e:Addr} {o:HO}
theorem Un.any (u:Un fs ex H H1 h h1) {b:Addr} {ob:Obj} (q:h.get? b=some ob) (n:H b=none) (hx:b∉ex):∃ sl,h1.get? b=some { ob with slots:=sl }:=by
 by_cases hb:b∈fs
 ·exact u.slot b ob q n hb hx
 ·exact ⟨ob.slots,u.keep b ob q n hb hx⟩
theorem Un.trans (a:Un fs ex H H1 h h1) (b:Un fs ex H1 H2 h1 h2):Un fs ex H H2 h h2 where
 keep:=fun c ob q n hc hx=>b.keep c ob (a.keep c ob q n hc hx) (a.free c ob q n hx) hc hx
 slot:=fun c ob q n hc hx=>by
  obtain ⟨sl,e1⟩:=a.slot c ob q n hc hx
  obtain ⟨sl',e2⟩:=b.slot c _ e1 (a.free c ob q n hx) hc hx
  exact ⟨sl',e2⟩
 free:=fun c ob q n hx=>by
  obtain ⟨o',e1⟩:=a.there c ob q hx
  exact b.free c o' e1 (a.free c ob q n hx) hx
 there:=fun c ob q hx=>by
  obtain ⟨o',e1⟩:=a.there c ob q hx
  exact b.there c o' e1 hx
 tups:=fun c xs q=>b.tups c xs (a.tups c xs q)
 frzs:=fun c ob xs q=>b.frzs c ob xs (a.frzs c ob xs q)
 tbls:=fun c ps q=>by
  obtain ⟨m1,e1⟩:=a.tbls c ps q
  obtain ⟨m2,e2⟩:=b.tbls c _ e1
  exact ⟨m1++m2,by rw [e2,Array.append_assoc]⟩
theorem Un.kept (k:∀ b u,h.get? b=some u→h'.get? b=some u):Un fs ex H H h h':=
 ⟨fun b ob q _ _ _=>k b ob q,fun b ob q _ _ _=>⟨ob.slots,k b ob q⟩,fun _ _ _ n _=>n,fun b ob q _=>⟨ob,k b ob q⟩,fun _ _ q=>q,fun _ _ _ q=>q,fun _ ps q=>⟨#[],by rw [q]; simp⟩⟩
theorem Un.refl:Un fs ex H H h h:=Un.kept fun _ _ q=>q
theorem Un.laid (k:∀ b u,h.get? b=some u→h'.get? b=some u) (hp:h.objs.size≤a) (hn:H a=none):Un fs ex H (upd H a o) h h' where
 keep:=fun b u q _ _ _=>k b u q
 slot:=fun b u q _ _ _=>⟨u.slots,k b u q⟩
 free:=fun b u q n _=>by rw [upd_ne (Nat.ne_of_lt (Nat.lt_of_lt_of_le (Heap.lt_size q) hp))]; exact n
 there:=fun b u q _=>⟨u,k b u q⟩
 tups:=fun b xs q=>by rw [upd_ne (ne_of_none q hn)]; exact q
 frzs:=fun b u xs q=>by rw [upd_ne (ne_of_none q hn)]; exact q
 tbls:=fun b ps q=>⟨#[],by rw [upd_ne (ne_of_none q hn),q]; simp⟩
theorem Un.write (mu:Mut (H x)) (he:e=x∨H e=some (.own x)) (k:∀ b u,b≠e→h.get? b=some u→h'.get? b=some u) (heo:∃ u,h'.get? e=some u):Un fs ex H (upd H x o) h h':=by
 have hx:∀ b,H b=none→b≠x:=fun b n z=>by subst z; rw [n] at mu; exact mu
 have hb:∀ b,H b=none→b≠e:=fun b n z=>by
  subst z
  rcases he with r | r
  ·exact hx b n r
  ·rw [n] at r; cases r
 have hm:∀ b u,H b=some u→¬ Mut (some u)→b≠x:=fun b u q nm z=>by subst z; rw [q] at mu; exact nm mu
 refine ⟨fun b u q n _ _=>k b u (hb b n) q,fun b u q n _ _=>⟨u.slots,k b u (hb b n) q⟩,fun b u q n _=>by rw [upd_ne (hx b n)]; exact n,fun b u q _=>?_,
  fun b xs q=>by rw [upd_ne (hm b _ q fun z=>z)]; exact q,fun b u xs q=>by rw [upd_ne (hm b _ q fun z=>z)]; exact q,fun b ps q=>⟨#[],by rw [upd_ne (hm b _ q fun z=>z),q]; simp⟩⟩
 by_cases hbe:b=e
 ·subst hbe; exact heo
 ·exact ⟨u,k b u hbe q⟩
theorem Un.mono (u:Un fs ex H H1 h h1) (hs:∀ b∈fs,b∈fs') (hx:∀ b∈ex,b∈ex'):Un fs' ex' H H1 h h1:=
 ⟨fun b ob q n hb he=>u.keep b ob q n (fun z=>hb (hs b z)) fun z=>he (hx b z),fun _ _ q n _ he=>u.any q n fun z=>he (hx _ z),fun b ob q n he=>u.free b ob q n fun z=>he (hx b z),fun b ob q he=>u.there b ob q fun z=>he (hx b z),u.tups,u.frzs,u.tbls⟩
end
def trk (h:Heap) (H:Hp):List Addr:=(List.range h.objs.size).filter fun a=>(H a).isSome
def hidT (h:Heap) (H:Hp):Heap:=PySem.W.hideAll h (trk h H)
theorem hidT_size (h:Heap) (H:Hp):(hidT h H).objs.size=h.objs.size:=PySem.W.hideAll_size _ _
theorem hidT_get {h:Heap} {H:Hp} {b:Addr} {o:Obj} (e:h.get? b=some o) (n:H b=none):(hidT h H).get? b=some o:=
 PySem.W.hideAll_get _ e fun hm=>by
  have q:(H b).isSome=true:=(List.mem_filter.mp hm).2
  rw [n] at q; simp at q
theorem of_hidT {h:Heap} {H:Hp} {b:Addr} {o:Obj} (e:(hidT h H).get? b=some o):h.get? b=some o∧H b=none:=by
 have e':h.get? b=some o:=PySem.W.of_hideAll (trk h H) e
 refine ⟨e',?_⟩
 cases q:H b with
 | none=>rfl
 | some x=>
  have hm:b∈trk h H:=List.mem_filter.mpr ⟨List.mem_range.mpr (Heap.lt_size e'),by simp [q]⟩
  have z:(hidT h H).get? b=none:=PySem.W.hideAll_none (trk h H) hm
  rw [z] at e; cases e
def allNews (g h:Heap) (L:Addr):List (Addr × Obj):=(List.range h.objs.size).filterMap fun a=>if a=L∨(g.get? a).isSome=true then none else (h.get? a).map fun o=>(a,o)
def rest (g h:Heap) (L d:Addr):List (Addr × Obj):=(allNews g h L).filter fun p=>decide (p.1≠d)
structure Mod (K:PySem.W.Frag) (mg:Str→Option Value) (base:Heap):Prop where
 kin:K.In base
 glob:base.Ns mainGlobals mg
 blt:∃ mb,base.Ns builtinsNs mb∧∀ x:Str,x≠"__name__"→mb x=bootBuiltins x
 nolimit:base.NoLimit
structure Cx where
 prog:Program
 w:World
 K:PySem.W.Frag
 mg:Str→Option Value
 base:Heap
 A:Around
 N:List Str
 s₀:Shared
 H₀:Hp
 env:Env
 outer:List Env
 stack:List Env
 ex:List Addr
 fn:Str→Bool
 calm:Bool
 pn:List (Addr × Obj)
 xe:Value→Shared→Prop
def frs (l:List Env):List Addr:=l.filterMap (·.frame)
abbrev Cx.fs (X:Cx):List Addr:=frs X.outer
def Vis (sc:Scope) (x:Str):Prop:=sc.names.lookup x=some .local∨sc.names.lookup x=some .cell∨sc.names.lookup x=some .free
def Loc (sc:Scope) (x:Str):Prop:=sc.names.lookup x=some .local∨sc.names.lookup x=some .cell
def Look (env:Env) (h:Heap) (m:Str→Option Value) (x:Str) (u:Value):Prop:=
 (env.kindOf x=some .local∧m x=some u)∨((env.kindOf x=some .cell∨env.kindOf x=some .free)∧∃ c,env.cells.lookup x=some c∧h.IsCell c (some u))
structure Cx.Ok (X:Cx):Prop where
 mod:Mod X.K X.mg X.base
 kind:X.env.scope.kind=.function
 glob:X.env.globals=mainGlobals
 blt:X.env.builtins=builtinsNs
 above:X.s₀.heap.objs.size≤X.env.locals
 inj:∀ x y c,X.env.cells.lookup x=some c→X.env.cells.lookup y=some c→x=y
 has:∀ x,(X.env.kindOf x=some .cell∨X.env.kindOf x=some .free)→∃ c,X.env.cells.lookup x=some c
 cab:∀ x c,X.fn x=true→X.env.cells.lookup x=some c→X.s₀.heap.objs.size≤c
 hd:X.calm=true→X.A.handled=none
 frames:X.A.frames=some X.stack
 stk:X.stack=X.outer∨(X.stack=X.env::X.outer∧X.env.frame=some X.env.locals)
 exf:∀ b∈X.ex,b≠X.env.locals∧∀ x c,X.env.cells.lookup x=some c→c≠b
 bs:∀ b o,X.base.get? b=some o→X.s₀.heap.get? b=some o∧X.H₀ b=none
 bsz:X.base.objs.size≤X.s₀.heap.objs.size
 noex:∀ b o,X.base.get? b=some o→b∉X.ex
 exfs:∀ b∈X.ex,b∉X.fs
 funs:X.s₀.heap.FunFrames X.base X.outer
 frf:∀ b∈X.fs,X.H₀ b=none
structure Inv (X:Cx) (pins:List (Addr × Obj)) (σ:List (Option V)) (H:Hp) (s:Shared):Prop where
 ok:X.Ok
 os:s.os=X.s₀.os
 bare:AllBare s.gens
 base:Un X.fs X.ex X.H₀ H X.s₀.heap s.heap
 loc:∃ m,s.heap.Ns X.env.locals m∧∀ (i:Nat) (x:Str) (v:V),X.N[i]?=some x→σ[i]?=some (some v)→Vis X.env.scope x→∃ u,RelV v u∧Look X.env s.heap m x u
 cell:∀ x c,X.env.cells.lookup x=some c→∃ v,s.heap.IsCell c v
 free:H X.env.locals=none
 freeC:∀ x c,X.env.cells.lookup x=some c→H c=none
 pin:∀ p∈X.pn++pins,s.heap.get? p.1=some p.2∧H p.1=none∧p.1≠X.env.locals∧p.1∉X.fs∧∀ v,p.2.data≠.cell v
 hok:HOk X.prog X.w H s.heap
 len:σ.length=X.N.length
section
variable {X:Cx} {pins:List (Addr × Obj)} {σ:List (Option V)} {H H':Hp} {s:Shared} {h':Heap}
theorem Cx.Ok.nofr (ok:X.Ok) {b:Addr} {o:Obj} (e:X.base.get? b=some o):b∉X.fs:=fun hb=>by
 have:=(ok.funs.mem hb).1
 rw [e] at this; cases this
theorem Inv.bs (I:Inv X pins σ H s):∀ b o,X.base.get? b=some o→s.heap.get? b=some o∧H b=none:=fun b o e=>
 ⟨I.base.keep b o (I.ok.bs b o e).1 (I.ok.bs b o e).2 (I.ok.nofr e) (I.ok.noex b o e),I.base.free b o (I.ok.bs b o e).1 (I.ok.bs b o e).2 (I.ok.noex b o e)⟩
theorem Inv.bk (I:Inv X pins σ H s):∀ b o,X.base.get? b=some o→s.heap.get? b=some o:=fun b o e=>(I.bs b o e).1
theorem Inv.mod (I:Inv X pins σ H s):Mod X.K X.mg X.base:=I.ok.mod
theorem Inv.kIn (I:Inv X pins σ H s):X.K.In s.heap:=I.ok.mod.kin.keeps I.bk
theorem Inv.nolimit (I:Inv X pins σ H s):s.heap.NoLimit:=I.ok.mod.nolimit.keeps I.bk
theorem Inv.fr (I:Inv X pins σ H s):∃ m,Fr X.base X.env.locals s.heap m:=
 let ⟨m,hn,_⟩:=I.loc
 ⟨m,hn,I.bk,Nat.le_trans I.ok.bsz I.ok.above⟩
theorem Inv.lt (I:Inv X pins σ H s):X.env.locals < s.heap.objs.size:=let ⟨_,hn,_⟩:=I.loc; hn.lt
theorem Inv.sz (I:Inv X pins σ H s):X.s₀.heap.objs.size≤s.heap.objs.size:=Nat.le_trans I.ok.above (Nat.le_of_lt I.lt)
theorem Inv.nofs (I:Inv X pins σ H s) {a:Addr} (h:s.heap.objs.size≤a):a∉X.fs:=fun hb=>by
 obtain ⟨_,o,ho,_⟩:=I.ok.funs.mem hb
 exact absurd (Nat.lt_of_lt_of_le (Heap.lt_size ho) (Nat.le_trans I.sz h)) (Nat.lt_irrefl _)
theorem Inv.cne (I:Inv X pins σ H s):∀ x c,X.env.cells.lookup x=some c→c≠X.env.locals:=fun x c e z=>by
 obtain ⟨v,o,ho,hd⟩:=I.cell x c e
 obtain ⟨m,⟨o',es,ep,ho',hd',_⟩,_⟩:=I.loc
 rw [z,ho'] at ho; cases ho; rw [hd'] at hd; cases hd
theorem Inv.funs (I:Inv X pins σ H s):s.heap.FunFrames X.base X.outer:=by
 have all:∀ (l:List Env),(∀ b∈frs l,b∈X.fs)→X.s₀.heap.FunFrames X.base l→s.heap.FunFrames X.base l:=by
  intro l
  induction l with
  | nil=>intro _ _; trivial
  | cons env r ih=>
   intro hs hl
   obtain ⟨hk,⟨L,o,hf,hn,ho,hd⟩,hr⟩:=hl
   have hL:L∈X.fs:=hs L (by unfold frs; rw [List.filterMap_cons,hf]; exact List.mem_cons_self)
   obtain ⟨sl,e⟩:=I.base.slot L o ho (I.ok.frf L hL) hL fun z=>I.ok.exfs L z hL
   exact ⟨hk,⟨L,_,hf,hn,e,hd⟩,ih (fun b hb=>hs b (by unfold frs; rw [List.filterMap_cons,hf]; exact List.mem_cons_of_mem _ hb)) hr⟩
 exact all X.outer (fun _ hb=>hb) I.ok.funs
theorem Inv.stack (I:Inv X pins σ H s):s.heap.FunFrames X.base X.stack:=by
 rcases I.ok.stk with e | ⟨e,hf⟩
 ·rw [e]; exact I.funs
 ·rw [e]
  obtain ⟨m,hn,_⟩:=I.loc
  refine .cons (by rw [I.ok.kind]; decide) hf hn ?_ I.funs
  exact Heap.get?_none_of_le (Nat.le_trans I.ok.bsz I.ok.above)
theorem Inv.stkSub (I:Inv X pins σ H s):∀ b∈frs X.stack,b∈X.env.locals::X.fs:=fun b hb=>by
 rcases I.ok.stk with e | ⟨e,hf⟩
 ·rw [e] at hb; exact List.mem_cons_of_mem _ hb
 ·rw [e] at hb
  unfold frs at hb
  rw [List.filterMap_cons,hf] at hb
  exact hb
theorem Inv.stkFree (I:Inv X pins σ H s):∀ b∈frs X.stack,H b=none:=fun b hb=>by
 rcases List.mem_cons.mp (I.stkSub b hb) with e | hb
 ·rw [e]; exact I.free
 ·obtain ⟨_,o,ho,_⟩:=I.ok.funs.mem hb
  exact I.base.free b o ho (I.ok.frf b hb) fun z=>I.ok.exfs b z hb
theorem Inv.step {g':Array GenState} {t':Nat} {d':Drawn} {ch:List Addr} (I:Inv X pins σ H s)
  (hch:∀ b∈ch,(b∈X.ex∨X.s₀.heap.objs.size≤b)∧b≠X.env.locals∧(∀ x c,X.env.cells.lookup x=some c→c≠b)∧∀ p∈X.pn++pins,p.1≠b)
  (keep:∀ b o,b≠X.env.locals→b∉X.fs→b∉ch→s.heap.get? b=some o→H b=none→h'.get? b=some o)
  (slot:∀ b o,b≠X.env.locals→b∈X.fs→b∉ch→s.heap.get? b=some o→H b=none→∃ sl,h'.get? b=some { o with slots:=sl }) (free:∀ b o,b∉ch→s.heap.get? b=some o→H b=none→H' b=none)
  (there:∀ b o,b∉ch→s.heap.get? b=some o→∃ o',h'.get? b=some o')
  (tups:∀ b xs,H b=some (.tup xs)→H' b=some (.tup xs)) (frzs:∀ b o u,H b=some (.frz o u)→H' b=some (.frz o u)) (tbls:∀ b ps,H b=some (.tbl ps)→∃ more,H' b=some (.tbl (ps++more)))
  (ns:∀ m,s.heap.Ns X.env.locals m→h'.Ns X.env.locals m) (hok:HOk X.prog X.w H' h') (hg:AllBare g') :
  Inv X pins σ H' { s with heap:=h',gens:=g',drawn:=d',toks:=t' }:=by
 have neL:∀ b o,X.s₀.heap.get? b=some o→b≠X.env.locals:=fun b o e=>Nat.ne_of_lt (Nat.lt_of_lt_of_le (Heap.lt_size e) I.ok.above)
 have neC:∀ b o,X.s₀.heap.get? b=some o→b∉X.ex→b∉ch:=fun b o e hx hb=>by
  rcases (hch b hb).1 with z | z
  ·exact hx z
  ·exact absurd (Nat.lt_of_lt_of_le (Heap.lt_size e) z) (Nat.lt_irrefl _)
 have cellK:∀ x c,X.env.cells.lookup x=some c→∀ v,s.heap.IsCell c v→h'.IsCell c v:=fun x c e v ⟨o,ho,hd⟩=>by
  have nch:c∉ch:=fun z=>(hch c z).2.2.1 x c e rfl
  by_cases hc:c∈X.fs
  ·obtain ⟨sl,q⟩:=slot c o (I.cne x c e) hc nch ho (I.freeC x c e)
   exact ⟨_,q,hd⟩
  ·exact ⟨o,keep c o (I.cne x c e) hc nch ho (I.freeC x c e),hd⟩
 refine ⟨I.ok,I.os,hg,⟨fun b o e n hb hx=>?_,fun b o e n hb hx=>?_,fun b o e n hx=>?_,fun b o e hx=>?_,fun b xs e=>tups b xs (I.base.tups b xs e),fun b o xs e=>frzs b o xs (I.base.frzs b o xs e),fun b ps e=>?_⟩,?_,fun x c e=>?_,?_,fun x c e=>?_,fun p hp=>?_,hok,I.len⟩
 ·exact keep b o (neL b o e) hb (neC b o e hx) (I.base.keep b o e n hb hx) (I.base.free b o e n hx)
 ·obtain ⟨sl,e1⟩:=I.base.slot b o e n hb hx
  obtain ⟨sl',e2⟩:=slot b _ (neL b o e) hb (neC b o e hx) e1 (I.base.free b o e n hx)
  exact ⟨sl',e2⟩
 ·obtain ⟨o',e1⟩:=I.base.there b o e hx
  exact free b o' (neC b o e hx) e1 (I.base.free b o e n hx)
 ·obtain ⟨o',e1⟩:=I.base.there b o e hx
  exact there b o' (neC b o e hx) e1
 ·obtain ⟨m1,e1⟩:=I.base.tbls b ps e
  obtain ⟨m2,e2⟩:=tbls b _ e1
  exact ⟨m1++m2,by rw [e2,Array.append_assoc]⟩
 ·obtain ⟨m,hn,hl⟩:=I.loc
  refine ⟨m,ns m hn,fun i x v e1 e2 e3=>?_⟩
  obtain ⟨u,r,l⟩:=hl i x v e1 e2 e3
  refine ⟨u,r,?_⟩
  rcases l with l | ⟨k,c,e,z⟩
  ·exact .inl l
  ·exact .inr ⟨k,c,e,cellK x c e _ z⟩
 ·obtain ⟨v,z⟩:=I.cell x c e
  exact ⟨v,cellK x c e v z⟩
 ·obtain ⟨m,⟨o,_,_,ho,_⟩,_⟩:=I.loc
  exact free _ o (fun z=>(hch _ z).2.1 rfl) ho I.free
 ·obtain ⟨v,o,ho,hd⟩:=I.cell x c e
  exact free c o (fun z=>(hch c z).2.2.1 x c e rfl) ho (I.freeC x c e)
 ·obtain ⟨e,n,ne,nf,d⟩:=I.pin p hp
  have nch:p.1∉ch:=fun z=>(hch p.1 z).2.2.2 p hp rfl
  exact ⟨keep p.1 p.2 ne nf nch e n,free p.1 p.2 nch e n,ne,nf,d⟩
theorem Inv.un {t':Nat} (I:Inv X pins σ H s) (u:Un X.fs [] H H' s.heap h') (hok:HOk X.prog X.w H' h'):Inv X pins σ H' { s with heap:=h',toks:=t' }:=by
 obtain ⟨m,⟨o,es,ep,ho,r⟩,_⟩:=id I.loc
 obtain ⟨sl,hL⟩:=u.any ho I.free (by simp)
 exact I.step (g':=s.gens) (d':=s.drawn) (ch:=[]) (fun _ z=>nomatch z) (fun b o _ hb _ e n=>u.keep b o e n hb (by simp)) (fun b o _ hb _ e n=>u.slot b o e n hb (by simp)) (fun b o _ e n=>u.free b o e n (by simp)) (fun b o _ e=>u.there b o e (by simp)) u.tups u.frzs u.tbls (fun m' hm=>by
  obtain ⟨o',es',ep',ho',r'⟩:=hm
  rw [ho] at ho'; cases ho'
  exact ⟨_,es',ep',hL,r'⟩) hok I.bare
theorem Inv.call {g':Array GenState} {t':Nat} {d':Drawn} {ch:List Addr} (I:Inv X pins σ H s) (u:Un (frs X.stack) ch H H' s.heap h') (hok:HOk X.prog X.w H' h') (hg:AllBare g')
  (hch:∀ b∈ch,(b∈X.ex∨X.s₀.heap.objs.size≤b)∧b≠X.env.locals∧(∀ x c,X.env.cells.lookup x=some c→c≠b)∧∀ p∈X.pn++pins,p.1≠b) :
  Inv X pins σ H' { s with heap:=h',gens:=g',drawn:=d',toks:=t' }:=by
 obtain ⟨m,⟨o,es,ep,ho,r⟩,_⟩:=id I.loc
 obtain ⟨sl,hL⟩:=u.any ho I.free fun z=>(hch _ z).2.1 rfl
 exact I.step (ch:=ch) hch (fun b o hL hb hc e n=>u.keep b o e n (fun z=>(List.mem_cons.mp (I.stkSub b z)).elim hL hb) hc) (fun b o _ _ hc e n=>u.any e n hc) (fun b o hc e n=>u.free b o e n hc) (fun b o hc e=>u.there b o e hc) u.tups u.frzs u.tbls (fun m' hm=>by
  obtain ⟨o',es',ep',ho',r'⟩:=hm
  rw [ho] at ho'; cases ho'
  exact ⟨_,es',ep',hL,r'⟩) hok hg
theorem Inv.turned {t':Nat} {it:Addr} (I:Inv X pins σ H s) (k:∀ b o,b≠it→s.heap.get? b=some o→h'.get? b=some o) (hn:H it=none) (hL:it≠X.env.locals)
  (h1:it∈X.ex∨X.s₀.heap.objs.size≤it) (h2:∀ x c,X.env.cells.lookup x=some c→c≠it) (h3:∀ p∈X.pn++pins,p.1≠it):Inv X pins σ H { s with heap:=h',toks:=t' }:=by
 have nit:∀ b u,H b=some u→b≠it:=fun b u e z=>by rw [z,hn] at e; cases e
 refine I.step (g':=s.gens) (d':=s.drawn) (ch:=[it]) (fun b hb=>?_) (fun b o _ _ hc e _=>k b o (fun z=>hc (by simp [z])) e) (fun b o _ _ hc e _=>⟨o.slots,k b o (fun z=>hc (by simp [z])) e⟩) (fun _ _ _ _ n=>n)
  (fun b o hc e=>⟨o,k b o (fun z=>hc (by simp [z])) e⟩) (fun _ _ e=>e) (fun _ _ _ e=>e) (fun b ps e=>⟨#[],by rw [e]; simp⟩) (fun m hm=>?_) (fun b u e=>?_) I.bare
 ·have e:b=it:=by simpa using hb
  subst e
  exact ⟨h1,hL,h2,h3⟩
 ·obtain ⟨o,es,ep,ho,r⟩:=hm
  exact ⟨o,es,ep,k _ o (Ne.symm hL) ho,r⟩
 ·refine (I.hok b u e).stay (fun c v hc q=>k c v ?_ q) (fun _ q=>q) fun _ _ q=>q
  rcases hc with z | z
  ·rw [z]; exact nit b u e
  ·exact nit c _ z
theorem Inv.tok (I:Inv X pins σ H s) (t:Nat):Inv X pins σ H { s with toks:=t }:=I.un (h':=s.heap) (t':=t) Un.refl I.hok
theorem Inv.kept {t':Nat} (I:Inv X pins σ H s) (k:∀ b u,s.heap.get? b=some u→h'.get? b=some u):Inv X pins σ H { s with heap:=h',toks:=t' }:=I.un (Un.kept k) (I.hok.kept k)
theorem Inv.laid {a:Addr} {o:HO} {t':Nat} (I:Inv X pins σ H s) (k:∀ b u,s.heap.get? b=some u→h'.get? b=some u) (hp:s.heap.objs.size≤a) (new:ObjOk X.prog X.w (upd H a o) h' a o) :
  Inv X pins σ (upd H a o) { s with heap:=h',toks:=t' }:=I.un (Un.laid k hp (I.hok.fresh hp)) (I.hok.laid k hp new)
theorem Inv.write {x e:Addr} {o:HO} {t':Nat} (I:Inv X pins σ H s) (mu:Mut (H x)) (he:e=x∨H e=some (.own x)) (k:∀ b u,b≠e→s.heap.get? b=some u→h'.get? b=some u) (heo:∃ u,h'.get? e=some u)
  (new:ObjOk X.prog X.w (upd H x o) h' x o):Inv X pins σ (upd H x o) { s with heap:=h',toks:=t' }:=I.un (Un.write mu he k heo) (I.hok.write mu he k heo new)
theorem Inv.weak {σ':List (Option V)} (I:Inv X pins σ H s) (hl:σ'.length=σ.length) (w:∀ (i:Nat) v,σ'[i]?=some (some v)→σ[i]?=some (some v)):Inv X pins σ' H s:=
 ⟨I.ok,I.os,I.bare,I.base,let ⟨m,hn,hl'⟩:=I.loc; ⟨m,hn,fun i x v e1 e2 e3=>hl' i x v e1 (w i v e2) e3⟩,I.cell,I.free,I.freeC,I.pin,I.hok,hl.trans I.len⟩
theorem Inv.pins_of {pins':List (Addr × Obj)} (I:Inv X pins σ H s) (h:∀ p∈pins',s.heap.get? p.1=some p.2∧H p.1=none∧p.1≠X.env.locals∧p.1∉X.fs∧∀ v,p.2.data≠.cell v):Inv X pins' σ H s:=
 ⟨I.ok,I.os,I.bare,I.base,I.loc,I.cell,I.free,I.freeC,fun p hp=>(List.mem_append.mp hp).elim (fun z=>I.pin p (List.mem_append_left _ z)) (h p),I.hok,I.len⟩
theorem nodup_ix {N:List Str} (hN:N.Nodup) {i j:Nat} {x:Str} (a:N[i]?=some x) (b:N[j]?=some x):i=j:=by
 obtain ⟨h1,e1⟩:=List.getElem?_eq_some_iff.mp a
 obtain ⟨h2,e2⟩:=List.getElem?_eq_some_iff.mp b
 exact (List.getElem_inj hN).mp (e1.trans e2.symm)
theorem store_ok2 {M:Model} {A:Around} {E:Value→Shared→Prop} {i:Nat} {x:Str} {v:V} {u:Value} {Q:Unit→Shared→Prop} (I:Inv X pins σ H s) (hN:X.N.Nodup) (hi:X.N[i]?=some x) (hx:Loc X.env.scope x) (r:RelV v u)
  (h:∀ s',Inv X pins (σ.set i (some v)) H s'→(∃ a,Heap.SameBut a s.heap s'.heap∧(a=X.env.locals∨X.env.cells.lookup x=some a))→Q () s') (hf:X.fn x=true∨X.env.scope.names.lookup x=some .local:=by first | exact .inl rfl | exact .inr rfl | assumption):wpAny M A (storeName X.env x u) Q E s:=by
 obtain ⟨m,hn,hl⟩:=id I.loc
 have hcls:(X.env.scope.kind == .class || (X.env.scope.kind == .module && X.env.locals != X.env.globals))=false:=by rw [I.ok.kind]; rfl
 have hiσ:i < σ.length:=by rw [I.len]; exact (List.getElem?_eq_some_iff.mp hi).1
 have cne:=I.cne
 have tracked:∀ {a:Addr} {h':Heap},(∃ o,s.heap.get? a=some o∧H a=none)→Heap.SameBut a s.heap h'→HOk X.prog X.w H h':=fun {a h'} ha hs b ob e=>by
  obtain ⟨_,_,hfree⟩:=ha
  refine (I.hok b ob e).stay (fun c w' hc q=>(hs.2 c ?_).trans q) (fun _ q=>q) fun _ _ q=>q
  rintro rfl
  rcases hc with rfl | hc
  ·rw [hfree] at e; cases e
  ·rw [hfree] at hc; cases hc
 rcases hx with hk | hk
 ·refine wpAny_storeName_local hk hn (fun h' hn' hs=>?_) hcls
  obtain ⟨oL,_,_,hoL,_⟩:=id hn
  refine h _ ⟨I.ok,I.os,I.bare,⟨fun b o e n hb hx=>?_,fun b o e n hb hx=>?_,I.base.free,fun b o e hx=>?_,I.base.tups,I.base.frzs,I.base.tbls⟩,⟨_,hn',fun j y v' e1 e2 e3=>?_⟩,fun y c e=>?_,I.free,I.freeC,fun p hp=>?_,tracked ⟨oL,hoL,I.free⟩ hs,by simpa using I.len⟩ ⟨_,hs,.inl rfl⟩
  ·exact (hs.2 b (Nat.ne_of_lt (Nat.lt_of_lt_of_le (Heap.lt_size e) I.ok.above))).trans (I.base.keep b o e n hb hx)
  ·obtain ⟨sl,e1⟩:=I.base.slot b o e n hb hx
   exact ⟨sl,(hs.2 b (Nat.ne_of_lt (Nat.lt_of_lt_of_le (Heap.lt_size e) I.ok.above))).trans e1⟩
  ·obtain ⟨o',e1⟩:=I.base.there b o e hx
   exact ⟨o',(hs.2 b (Nat.ne_of_lt (Nat.lt_of_lt_of_le (Heap.lt_size e) I.ok.above))).trans e1⟩
  ·by_cases hj:j=i
   ·subst hj
    rw [hi] at e1; cases e1
    rw [List.getElem?_set_self hiσ] at e2
    cases e2
    exact ⟨u,r,.inl ⟨hk,by simp⟩⟩
   ·rw [List.getElem?_set_ne (Ne.symm hj)] at e2
    obtain ⟨u',r',q⟩:=hl j y v' e1 e2 e3
    refine ⟨u',r',?_⟩
    rcases q with ⟨k,e⟩ | ⟨k,c,e,z⟩
    ·refine .inl ⟨k,?_⟩
     have:y≠x:=fun e=>hj (nodup_ix hN e1 (e ▸ hi))
     simp [this,e]
    ·exact .inr ⟨k,c,e,z.sameBut hs (cne y c e)⟩
  ·obtain ⟨w',z⟩:=I.cell y c e
   exact ⟨w',z.sameBut hs (cne y c e)⟩
  ·obtain ⟨e,n,ne,nf,d⟩:=I.pin p hp
   exact ⟨(hs.2 p.1 ne).trans e,n,ne,nf,d⟩
 ·have hfn:X.fn x=true:=by
   rcases hf with z | z
   ·exact z
   ·rw [z] at hk; cases hk
  obtain ⟨c,hc⟩:=I.ok.has x (.inl hk)
  obtain ⟨w',z⟩:=I.cell x c hc
  refine wpAny_storeName_cell I.ok.kind hk hc z (fun h' hc' hs=>?_)
  obtain ⟨oc,hoc,hocd⟩:=id z
  refine h { s with heap:=h' } ⟨I.ok,I.os,I.bare,⟨fun b o e n hb hx=>?_,fun b o e n hb hx=>?_,I.base.free,fun b o e hx=>?_,I.base.tups,I.base.frzs,I.base.tbls⟩,⟨m,hn.sameBut hs (Ne.symm (cne x c hc)),fun j y v' e1 e2 e3=>?_⟩,fun y c' e=>?_,I.free,I.freeC,fun p hp=>?_,tracked ⟨oc,hoc,I.freeC x c hc⟩ hs,by simpa using I.len⟩ ⟨c,hs,.inr hc⟩
  ·exact (hs.2 b (Nat.ne_of_lt (Nat.lt_of_lt_of_le (Heap.lt_size e) (I.ok.cab x c hfn hc)))).trans (I.base.keep b o e n hb hx)
  ·obtain ⟨sl,e1⟩:=I.base.slot b o e n hb hx
   exact ⟨sl,(hs.2 b (Nat.ne_of_lt (Nat.lt_of_lt_of_le (Heap.lt_size e) (I.ok.cab x c hfn hc)))).trans e1⟩
  ·obtain ⟨o',e1⟩:=I.base.there b o e hx
   exact ⟨o',(hs.2 b (Nat.ne_of_lt (Nat.lt_of_lt_of_le (Heap.lt_size e) (I.ok.cab x c hfn hc)))).trans e1⟩
  ·by_cases hj:j=i
   ·subst hj
    rw [hi] at e1; cases e1
    rw [List.getElem?_set_self hiσ] at e2
    cases e2
    exact ⟨u,r,.inr ⟨.inl hk,c,hc,hc'⟩⟩
   ·rw [List.getElem?_set_ne (Ne.symm hj)] at e2
    obtain ⟨u',r',q⟩:=hl j y v' e1 e2 e3
    refine ⟨u',r',?_⟩
    rcases q with q | ⟨k,c',e,z'⟩
    ·exact .inl q
    ·refine .inr ⟨k,c',e,z'.sameBut hs ?_⟩
     rintro rfl
     exact hj (nodup_ix hN e1 (I.ok.inj _ _ _ e hc ▸ hi))
  ·by_cases hcc:c'=c
   ·subst hcc; exact ⟨_,hc'⟩
   ·obtain ⟨w2,z2⟩:=I.cell y c' e
    exact ⟨w2,z2.sameBut hs hcc⟩
  ·obtain ⟨e,n,ne,nf,d⟩:=I.pin p hp
   refine ⟨(hs.2 p.1 ?_).trans e,n,ne,nf,d⟩
   intro q
   rw [q,hoc] at e
   have q':oc=p.2:=Option.some.inj e
   exact d w' (by rw [← q']; exact hocd)
theorem store_ok {M:Model} {A:Around} {E:Value→Shared→Prop} {i:Nat} {x:Str} {v:V} {u:Value} {Q:Unit→Shared→Prop} (I:Inv X pins σ H s) (hN:X.N.Nodup) (hi:X.N[i]?=some x) (hx:Loc X.env.scope x) (r:RelV v u)
  (h:∀ s',Inv X pins (σ.set i (some v)) H s'→Q () s') (hf:X.fn x=true∨X.env.scope.names.lookup x=some .local:=by first | exact .inl rfl | exact .inr rfl | assumption):wpAny M A (storeName X.env x u) Q E s:=
 store_ok2 I hN hi hx r (fun s' I' _=>h s' I') hf
theorem Inv.call' {s':Shared} {ch:List Addr} (I:Inv X pins σ H s) (ho:s'.os=s.os) (u:Un (frs X.stack) ch H H' s.heap s'.heap) (hok:HOk X.prog X.w H' s'.heap) (hg:AllBare s'.gens)
  (hch:∀ b∈ch,(b∈X.ex∨X.s₀.heap.objs.size≤b)∧b≠X.env.locals∧(∀ x c,X.env.cells.lookup x=some c→c≠b)∧∀ p∈X.pn++pins,p.1≠b):Inv X pins σ H' s':=by
 obtain ⟨h',g',d',t',o'⟩:=s'
 have e:o'=s.os:=ho
 subst e
 exact I.call (g':=g') (t':=t') (d':=d') u hok hg hch
end
abbrev XK:=Value→Option Addr→Hp→Prop
abbrev St:=List (Option V)
abbrev VK:=V→Hp→Prop
abbrev TE:=St→Hp→VK→Prop
abbrev TT:=St→Hp→(Bool→Hp→Prop)→Prop
abbrev TA:=St→Hp→(List V→Hp→Prop)→Prop
structure Ends where
 nx:St→Hp→Prop
 rt:VK
 bk:St→Hp→Prop:=fun _ _=>False
 ct:St→Hp→Prop:=fun _ _=>False
abbrev TS:=Ends→St→Hp→Prop
def EP (X:Cx) (pins:List (Addr × Obj)) (σ:St) (Q:VK) (u:Value) (s':Shared):Prop:=∃ v H',Inv X pins σ H' s'∧RelV v u∧Q v H'
def TP (X:Cx) (pins:List (Addr × Obj)) (σ:St) (Q:Bool→Hp→Prop) (b:Bool) (s':Shared):Prop:=∃ H',Inv X pins σ H' s'∧Q b H'
def AP (X:Cx) (pins:List (Addr × Obj)) (σ:St) (Q:List V→Hp→Prop) (us:List Value) (s':Shared):Prop:=∃ vs H',Inv X pins σ H' s'∧Vals vs us∧Q vs H'
def SP (X:Cx) (pins:List (Addr × Obj)) (D:Ends) (f:Flow) (s':Shared):Prop:=
 match f with
 | .next=>∃ σ' H',Inv X pins σ' H' s'∧D.nx σ' H'
 | .brk=>∃ σ' H',Inv X pins σ' H' s'∧D.bk σ' H'
 | .cont=>∃ σ' H',Inv X pins σ' H' s'∧D.ct σ' H'
 | .ret u=>∃ v σ' H',Inv X pins σ' H' s'∧RelV v u∧D.rt v H'
def PE (X:Cx) (e:Expr) (t:TE):Prop:=
 ∀ (pins:List (Addr × Obj)) (s:Shared) (σ:St) (H:Hp) (Q:VK),Inv X pins σ H s→t σ H Q→wpAny (model X.prog X.w) X.A (eval e X.env) (EP X pins σ Q) X.xe s
def PT (X:Cx) (e:Expr) (t:TT):Prop:=
 ∀ (pins:List (Addr × Obj)) (s:Shared) (σ:St) (H:Hp) (Q:Bool→Hp→Prop),Inv X pins σ H s→t σ H Q→wpAny (model X.prog X.w) X.A (isTrue e X.env (eval e X.env)) (TP X pins σ Q) X.xe s
def PW (X:Cx) (e:Expr) (t:TT):Prop:=
 ∀ (whole:Sem Value) (pins:List (Addr × Obj)) (s:Shared) (σ:St) (H:Hp) (Q:Bool→Hp→Prop),Inv X pins σ H s→t σ H Q→wpAny (model X.prog X.w) X.A (isTrue e X.env whole) (TP X pins σ Q) X.xe s
theorem PW.pt {X:Cx} {e:Expr} {t:TT} (h:PW X e t):PT X e t:=h _
def PA (X:Cx) (es:List Expr) (t:TA):Prop:=
 ∀ (pos:Pos) (pins:List (Addr × Obj)) (s:Shared) (σ:St) (H:Hp) (Q:List V→Hp→Prop),Inv X pins σ H s→t σ H Q→wpAny (model X.prog X.w) X.A (spliced (backTo pos (starEach es X.env))) (AP X pins σ Q) X.xe s
def PS (X:Cx) (st:Stmt) (t:TS):Prop:=
 ∀ (pins:List (Addr × Obj)) (s:Shared) (σ:St) (H:Hp) (D:Ends),Inv X pins σ H s→t D σ H→wpAny (model X.prog X.w) X.A (exec st X.env) (SP X pins D) X.xe s
def PSs (X:Cx) (st:List Stmt) (t:TS):Prop:=
 ∀ (pins:List (Addr × Obj)) (s:Shared) (σ:St) (H:Hp) (D:Ends),Inv X pins σ H s→t D σ H→wpAny (model X.prog X.w) X.A (execs st X.env) (SP X pins D) X.xe s
theorem thn {α:Type} {t:Sem α} {Q Q':α→Shared→Prop} {M:Model} {A:Around} {E:Value→Shared→Prop} {s:Shared} (h:wpAny M A t Q E s) (hQ:∀ a s,Q a s→Q' a s):wpAny M A t Q' E s:=wpAny_mono h hQ fun _ _ x=>x
section
variable {X:Cx}
def tVar (i:Nat):TE:=fun σ H Q=>ExQ Q (fun v Q=>σ[i]?=some (some v)∧Q v H)
def tC (v:V):TE:=fun _ H Q=>Q v H
theorem pe_var {i:Nat} {x:Str} {pos:Pos} (hN:X.N[i]?=some x) (hv:Vis X.env.scope x) (hd:(x == ("__debug__":Str))=false:=by decide) (hcd:(x == ("__classdict__":Str))=false:=by decide):PE X (.Name x pos) (tVar i):=by
 intro pins s σ H Q I h
 obtain ⟨v,e,h⟩:=h
 obtain ⟨m,hn,hl⟩:=I.loc
 obtain ⟨u,r,l⟩:=hl i x v hN e hv
 have fin:EP X pins σ Q u s:=⟨v,H,I,r,h⟩
 rcases l with ⟨hk,hm⟩ | ⟨hk,c,hc,hcell⟩
 ·exact wpAny_Name (wpAny_loadName_local I.ok.kind hk hn hm fin) hd
 ·rcases hk with hk | hk
  ·exact wpAny_Name (wpAny_loadName_cell I.ok.kind hk hc hcell fin) hd
  ·exact wpAny_Name (wpAny_loadName_free I.ok.kind hk hc hcell fin hcd) hd
theorem pe_int {i j pos}:PE X (.Constant (.int i) j pos) (tC (.int i)):=fun _ _ _ H _ I h=>wpAny_Constant_int ⟨.int i,H,I.tok _,⟨_,rfl⟩,h⟩
theorem pe_bl {b j pos}:PE X (.Constant (.bool b) j pos) (tC (.bl b)):=fun _ _ _ H _ I h=>Constant_bool ⟨.bl b,H,I,rfl,h⟩
theorem pe_non {j pos}:PE X (.Constant .none j pos) (tC .non):=fun _ _ _ H _ I h=>Constant_none ⟨.non,H,I,rfl,h⟩
theorem pe_str {x j pos}:PE X (.Constant (.str x) j pos) (tC (.str x)):=fun _ _ _ H _ I h=>Calls.Constant_str ⟨.str x,H,I.tok _,⟨_,rfl⟩,h⟩
def Gl (X:Cx) (x:Str):Prop:=X.env.kindOf x=some .globalImplicit
theorem ld_glob {E:Value→Shared→Prop} {pins:List (Addr × Obj)} {s:Shared} {σ:St} {H:Hp} {x:Str} {u:Value} {pos:Pos} {Q:Value→Shared→Prop} (I:Inv X pins σ H s) (hg:Gl X x) (hm:X.mg x=some u) (h:Q u s)
  (hd:(x == ("__debug__":Str))=false:=by decide):wpAny (model X.prog X.w) X.A (eval (.Name x pos) X.env) Q E s:=
 Calls.Name_function_global I.ok.kind hg (Calls.loadGlobal_global (by rw [I.ok.glob]; exact I.mod.glob.keeps I.bk) hm h) hd
theorem ld_blt {E:Value→Shared→Prop} {pins:List (Addr × Obj)} {s:Shared} {σ:St} {H:Hp} {x:Str} {u:Value} {pos:Pos} {Q:Value→Shared→Prop} (I:Inv X pins σ H s) (hg:Gl X x) (hm:X.mg x=none) (hv:bootBuiltins x=some u) (h:Q u s)
  (hn:x≠"__name__":=by decide) (hd:(x == ("__debug__":Str))=false:=by decide):wpAny (model X.prog X.w) X.A (eval (.Name x pos) X.env) Q E s:=by
 obtain ⟨mb,h1,h2⟩:=I.mod.blt
 exact Calls.Name_function_global I.ok.kind hg (Calls.loadGlobal_builtin (by rw [I.ok.glob]; exact I.mod.glob.keeps I.bk) hm (by rw [I.ok.blt]; exact h1.keeps I.bk) ((h2 x hn).trans hv) h) hd
theorem pe_glob {x:Str} {v:V} {u:Value} {pos:Pos} (hg:Gl X x) (hm:X.mg x=some u) (r:RelV v u) (hd:(x == ("__debug__":Str))=false:=by decide):PE X (.Name x pos) (tC v):=
 fun _ _ _ H _ I h=>ld_glob I hg hm ⟨v,H,I,r,h⟩ hd
theorem pe_bltn {x:Str} {v:V} {u:Value} {pos:Pos} (hg:Gl X x) (hm:X.mg x=none) (hv:bootBuiltins x=some u) (r:RelV v u) (hn:x≠"__name__":=by decide) (hd:(x == ("__debug__":Str))=false:=by decide):PE X (.Name x pos) (tC v):=
 fun _ _ _ H _ I h=>ld_blt I hg hm hv ⟨v,H,I,r,h⟩ hn hd
variable {a b:Expr} {ta tb:TE} {pos:Pos}
def PC (X:Cx) (op:CmpOp) (a b:Expr) (t:TE):Prop:=
 ∀ (pins:List (Addr × Obj)) (s:Shared) (σ:St) (H:Hp) (Q:VK),Inv X pins σ H s→t σ H Q→
  wpAny (model X.prog X.w) X.A (eval a X.env) (fun v s₁=>wpAny (model X.prog X.w) X.A (eval b X.env) (fun u s₂=>wpAny (model X.prog X.w) X.A (compareOp op v u) (EP X pins σ Q) X.xe s₂) X.xe s₁) X.xe s
theorem nobehind (b:Expr) {op:CmpOp} (h:op≠.In) (h2:op≠.NotIn):behindInMarks op b=false:=by
 have e1:(op == CmpOp.In)=false:=by cases op <;> first | rfl | exact absurd rfl h
 have e2:(op == CmpOp.NotIn)=false:=by cases op <;> first | rfl | exact absurd rfl h2
 cases b <;> simp [behindInMarks,e1,e2]
def tB (t:TE):TT:=fun σ H Q=>t σ H fun x H1=>ExQ Q (fun c Q=>x=.bl c∧Q c H1)
theorem pt_cmp {op:CmpOp} {t:TE} (h:PC X op a b t) (h1:behindInMarks op b=false:=by first | exact nobehind _ (by decide) (by decide) | rfl):PT X (.Compare a [op] [b] pos) (tB t):=by
 intro pins s σ H Q I hw
 refine wpAny_isTrue_Compare1 (thn (h pins s σ H _ I hw) fun v s1 h1=>thn h1 fun u s2 h2=>thn h2 fun c s3 hpat=>?_) h1
 obtain ⟨x,H1,I1,r1,q1⟩:=hpat
 obtain ⟨d,rfl,q⟩:=q1
 cases r1
 exact wpAny_truthy_bool ⟨H1,I1,q⟩
theorem pt_val {e:Expr} {t:TE} (h:PE X e t) (he:∀ whole,isTrue e X.env whole=(do let v ← whole; standAt e.pos; holding [v] (truthy v)):=by intro _; rfl):PT X e (tB t):=by
 intro pins s σ H Q I hw
 refine isTrue_plain (thn (h pins s σ H _ I hw) fun v s1 hpat=>?_) (he _)
 obtain ⟨x,H1,I1,r1,q1⟩:=hpat
 obtain ⟨d,rfl,q⟩:=q1
 cases r1
 exact wpAny_truthy_bool ⟨H1,I1,q⟩
variable {tA tB':TT} {rest:List Expr}
def tAnd (t u:TT):TT:=fun σ H Q=>t σ H fun c H1=>if c=true then u σ H1 Q else Q false H1
def tOr (t u:TT):TT:=fun σ H Q=>t σ H fun c H1=>if c=true then Q true H1 else u σ H1 Q
def tNot (t:TT):TT:=fun σ H Q=>t σ H fun c H1=>Q (!c) H1
theorem pw_and1 (ha:PT X a tA):PW X (.BoolOp .And [a] pos) tA:=by
 intro wh pins s σ H Q I h
 refine isTrue_and (thn (ha pins s σ H Q I h) fun c s1 e=>?_)
 cases c with
 | true=>exact isTrue_and_nil e
 | false=>exact e
theorem pw_or1 (ha:PT X a tA):PW X (.BoolOp .Or [a] pos) tA:=by
 intro wh pins s σ H Q I h
 refine isTrue_or (thn (ha pins s σ H Q I h) fun c s1 e=>?_)
 cases c with
 | false=>exact isTrue_or_nil e
 | true=>exact e
theorem pw_and (ha:PT X a tA) (hb:PW X (.BoolOp .And (b::rest) pos) tB'):PW X (.BoolOp .And (a::b::rest) pos) (tAnd tA tB'):=by
 intro wh pins s σ H Q I h
 refine isTrue_and (thn (ha pins s σ H _ I h) fun c s1 hpat=>?_)
 obtain ⟨H1,I1,q1⟩:=hpat
 cases c with
 | true=>exact hb wh pins s1 σ H1 Q I1 q1
 | false=>exact ⟨H1,I1,q1⟩
theorem pw_or (ha:PT X a tA) (hb:PW X (.BoolOp .Or (b::rest) pos) tB'):PW X (.BoolOp .Or (a::b::rest) pos) (tOr tA tB'):=by
 intro wh pins s σ H Q I h
 refine isTrue_or (thn (ha pins s σ H _ I h) fun c s1 hpat=>?_)
 obtain ⟨H1,I1,q1⟩:=hpat
 cases c with
 | true=>exact ⟨H1,I1,q1⟩
 | false=>exact hb wh pins s1 σ H1 Q I1 q1
theorem pt_not (ha:PT X a tA):PT X (.UnaryOp .Not a pos) (tNot tA):=by
 intro pins s σ H Q I h
 exact isTrue_not (ha pins s σ H (fun c H1=>Q (!c) H1) I h)
def tAndV (ta tb:TE):TE:=fun σ H Q=>ta σ H fun x H1=>ExQ Q (fun c Q=>x=.bl c∧if c=true then tb σ H1 Q else Q (.bl false) H1)
def tOrV (ta tb:TE):TE:=fun σ H Q=>ta σ H fun x H1=>ExQ Q (fun c Q=>x=.bl c∧if c=true then Q (.bl true) H1 else tb σ H1 Q)
theorem pe_one {op} {t:TE} (h:PE X a t):PE X (.BoolOp op [a] pos) t:=fun pins s σ H Q I hw=>BoolOp_one (h pins s σ H Q I hw)
theorem pe_and (ha:PE X a ta) (hb:PE X (.BoolOp .And (b::rest) pos) tb):PE X (.BoolOp .And (a::b::rest) pos) (tAndV ta tb):=by
 intro pins s σ H Q I h
 refine BoolOp_and (thn (ha pins s σ H _ I h) fun v s1 hpat=>?_)
 obtain ⟨x,H1,I1,r1,q1⟩:=hpat
 obtain ⟨c,rfl,q1⟩:=q1
 cases r1
 refine wpAny_truthy_bool ?_
 cases c with
 | true=>exact hb pins s1 σ H1 Q I1 q1
 | false=>exact ⟨.bl false,H1,I1,rfl,q1⟩
theorem pe_or (ha:PE X a ta) (hb:PE X (.BoolOp .Or (b::rest) pos) tb):PE X (.BoolOp .Or (a::b::rest) pos) (tOrV ta tb):=by
 intro pins s σ H Q I h
 refine BoolOp_or (thn (ha pins s σ H _ I h) fun v s1 hpat=>?_)
 obtain ⟨x,H1,I1,r1,q1⟩:=hpat
 obtain ⟨c,rfl,q1⟩:=q1
 cases r1
 refine wpAny_truthy_bool ?_
 cases c with
 | false=>exact hb pins s1 σ H1 Q I1 q1
 | true=>exact ⟨.bl true,H1,I1,rfl,q1⟩
def tIf (t:TT) (ta tb:TE):TE:=fun σ H Q=>t σ H fun c H1=>if c=true then ta σ H1 Q else tb σ H1 Q
theorem pe_ifExp {c:Expr} (hc:PT X c tA) (ha:PE X a ta) (hb:PE X b tb):PE X (.IfExp c a b pos) (tIf tA ta tb):=by
 intro pins s σ H Q I h
 refine wpAny_IfExp (thn (hc pins s σ H _ I h) fun d s1 hpat=>?_)
 obtain ⟨H1,I1,q1⟩:=hpat
 cases d with
 | true=>exact ha pins s1 σ H1 Q I1 q1
 | false=>exact hb pins s1 σ H1 Q I1 q1
end
def SqL (K:PySem.W.Frag) (H:Hp) (a:Addr) (xs:List V):Prop:=
 Rd H a (.lst xs)∨
  ∃ (o:Obj) (its:Array Value) (n:Nat),K.lookup a=some o∧o.cls=.type "list"∧o.dict=none∧o.data=.seq its n∧its.size≤sizeLine∧Vals xs its.toList
def SqT (K:PySem.W.Frag) (H:Hp) (a:Addr) (xs:List V):Prop:=
 Rd H a (.tup xs)∨
  ∃ (o:Obj) (its:Array Value) (n:Nat),K.lookup a=some o∧o.cls=.type "tuple"∧o.data=.seq its n∧its.size≤sizeLine∧Vals xs its.toList
def absV:Value→Option V
 | .none=>some .non
 | .bool b=>some (.bl b)
 | .int i _=>some (.int i)
 | .str x _=>some (.str x)
 | .bytes b _=>some (.byt b)
 | .float b _=>some (.flt b)
 | .ref a=>some (.ref a)
 | .type n=>some (.ty n)
 | _=>none
theorem RelV.abs {x:V} {u:Value} (r:RelV x u):absV u=some x:=by
 cases x with
 | non=>cases r; rfl
 | bl _=>cases r; rfl
 | int _=>obtain ⟨t,rfl⟩:=r; rfl
 | str _=>obtain ⟨t,rfl⟩:=r; rfl
 | byt _=>obtain ⟨t,rfl⟩:=r; rfl
 | flt _=>obtain ⟨t,rfl⟩:=r; rfl
 | ref _=>cases r; rfl
 | ty _=>cases r; rfl
theorem RelV.inj {x y:V} {u:Value} (r:RelV x u) (q:RelV y u):x=y:=Option.some.inj (r.abs.symm.trans q.abs)
theorem Vals.inj:∀ {xs ys:List V} {us:List Value},Vals xs us→Vals ys us→xs=ys
 | _,_,_,.nil,.nil=>rfl
 | _,_,_,.cons r t,.cons r' t'=>by rw [r.inj r',Vals.inj t t']
section
variable {X:Cx} {pins:List (Addr × Obj)} {σ:St} {H:Hp} {s:Shared} {a:Addr} {xs ys:List V}
theorem SqL.of {K:PySem.W.Frag} (h:H a=some (.lst xs)):SqL K H a xs:=.inl (.inl h)
theorem SqT.of {K:PySem.W.Frag} (h:H a=some (.tup xs)):SqT K H a xs:=.inl (.inl h)
theorem Inv.list (I:Inv X pins σ H s) (h:SqL X.K H a xs):∃ its:List Value,Vals xs its∧PlainL s.heap a its.toArray∧xs.length≤sizeLine:=by
 rcases h with h | ⟨o,its,n,hk,hc,hd,hs,hz,r⟩
 ·obtain ⟨z,its,n,r,e⟩:=h.ok I.hok
  exact ⟨its,r,⟨_,n,e,rfl,rfl,rfl⟩,z⟩
 ·refine ⟨its.toList,r,⟨o,n,I.kIn a o hk,hc,hd,by simpa using hs⟩,?_⟩
  have e:=r.length
  simp only [Array.length_toList] at e
  omega
theorem Inv.tuple (I:Inv X pins σ H s) (h:SqT X.K H a xs):∃ its:List Value,Vals xs its∧IsTup s.heap a its.toArray∧xs.length≤sizeLine:=by
 rcases h with h | ⟨o,its,n,hk,hc,hs,hz,r⟩
 ·obtain ⟨z,its,r,p⟩:=h.ok I.hok
  exact ⟨its,r,p,z⟩
 ·refine ⟨its.toList,r,⟨o,I.kIn a o hk,hc,n,by simpa using hs⟩,?_⟩
  have e:=r.length
  simp only [Array.length_toList] at e
  omega
theorem Inv.list_inj (I:Inv X pins σ H s) (h:SqL X.K H a xs) (h':SqL X.K H a ys):xs=ys:=by
 obtain ⟨its,r,⟨o,n,e,_,_,d⟩,_⟩:=I.list h
 obtain ⟨its',r',⟨o',n',e',_,_,d'⟩,_⟩:=I.list h'
 rw [e] at e'; cases e'
 rw [d] at d'
 injection d' with d1 _
 have:its=its':=by simpa using congrArg Array.toList d1
 subst this
 exact r.inj r'
theorem Inv.tuple_inj (I:Inv X pins σ H s) (h:SqT X.K H a xs) (h':SqT X.K H a ys):xs=ys:=by
 obtain ⟨its,r,⟨o,e,_,n,d⟩,_⟩:=I.tuple h
 obtain ⟨its',r',⟨o',e',_,n',d'⟩,_⟩:=I.tuple h'
 rw [e] at e'; cases e'
 rw [d] at d'
 injection d' with d1 _
 have:its=its':=by simpa using congrArg Array.toList d1
 subst this
 exact r.inj r'
end
abbrev Cx.wish (X:Cx) (E:Value→Shared→Prop):Cx:={ X with xe:=E }
abbrev Cx.nox (X:Cx):Cx:=X.wish fun _ _=>False
theorem Cx.Ok.wish {X:Cx} (ok:X.Ok) (E:Value→Shared→Prop):(X.wish E).Ok:=
 ⟨ok.mod,ok.kind,ok.glob,ok.blt,ok.above,ok.inj,ok.has,ok.cab,ok.hd,ok.frames,ok.stk,ok.exf,ok.bs,ok.bsz,ok.noex,ok.exfs,ok.funs,ok.frf⟩
theorem Cx.Ok.unwish {X:Cx} {E:Value→Shared→Prop} (ok:(X.wish E).Ok):X.Ok:=
 ⟨ok.mod,ok.kind,ok.glob,ok.blt,ok.above,ok.inj,ok.has,ok.cab,ok.hd,ok.frames,ok.stk,ok.exf,ok.bs,ok.bsz,ok.noex,ok.exfs,ok.funs,ok.frf⟩
section
variable {X:Cx} {pins:List (Addr × Obj)} {σ:St} {H:Hp} {s:Shared} {E:Value→Shared→Prop}
theorem Inv.wish (I:Inv X pins σ H s) (E:Value→Shared→Prop):Inv (X.wish E) pins σ H s:=⟨I.ok.wish E,I.os,I.bare,I.base,I.loc,I.cell,I.free,I.freeC,I.pin,I.hok,I.len⟩
theorem Inv.unwish (I:Inv (X.wish E) pins σ H s):Inv X pins σ H s:=⟨I.ok.unwish,I.os,I.bare,I.base,I.loc,I.cell,I.free,I.freeC,I.pin,I.hok,I.len⟩
theorem SP.unwish {D:Ends} {f:Flow} {s':Shared} (h:SP (X.wish E) pins D f s'):SP X pins D f s':=by
 cases f with
 | next=>obtain ⟨σ',H',I,q⟩:=h; exact ⟨σ',H',I.unwish,q⟩
 | brk=>obtain ⟨σ',H',I,q⟩:=h; exact ⟨σ',H',I.unwish,q⟩
 | cont=>obtain ⟨σ',H',I,q⟩:=h; exact ⟨σ',H',I.unwish,q⟩
 | ret u=>obtain ⟨v,σ',H',I,r,q⟩:=h; exact ⟨v,σ',H',I.unwish,r,q⟩
theorem PE.nox {e:Expr} {t:TE} (h:PE X.nox e t):PE X e t:=fun pins s σ H Q I hw=>
 wpAny_mono (h pins s σ H Q (I.wish _) hw) (fun _ _ hp2=>by obtain ⟨v,H',I',r,q⟩:=hp2; exact ⟨v,H',I'.unwish,r,q⟩) fun _ _ z=>False.elim z
theorem PT.nox {e:Expr} {t:TT} (h:PT X.nox e t):PT X e t:=fun pins s σ H Q I hw=>
 wpAny_mono (h pins s σ H Q (I.wish _) hw) (fun _ _ hp2=>by obtain ⟨H',I',q⟩:=hp2; exact ⟨H',I'.unwish,q⟩) fun _ _ z=>False.elim z
theorem PSs.nox {st:List Stmt} {t:TS} (h:PSs X.nox st t):PSs X st t:=fun pins s σ H D I hw=>
 wpAny_mono (h pins s σ H D (I.wish _) hw) (fun _ _ q=>q.unwish) fun _ _ z=>False.elim z
end
section
variable {X:Cx} {st:Stmt} {rest:List Stmt} {t u:TS} {e:Expr} {te:TE} {pos:Pos}
def tNext:TS:=fun D σ H=>D.nx σ H
def tSeq (t u:TS):TS:=fun D σ H=>t { D with nx:=u D } σ H
theorem pss_nil:PSs X [] tNext:=fun _ _ σ H _ I h=>wpAny_execs_nil ⟨σ,H,I,h⟩
theorem pss_cons (h1:PS X st t) (h2:PSs X rest u):PSs X (st::rest) (tSeq t u):=by
 intro pins s σ H D I h
 refine wpAny_execs_cons (thn (h1 pins s σ H { D with nx:=u D } I h) fun f s1 q=>?_)
 cases f with
 | next=>
  obtain ⟨σ',H',I',q⟩:=q
  exact h2 pins s1 σ' H' D I' q
 | ret v=>exact q
 | brk=>exact q
 | cont=>exact q
theorem pss_one (h1:PS X st t):PSs X [st] t:=by
 intro pins s σ H D I h
 refine wpAny_execs_cons (thn (h1 pins s σ H D I h) fun f s1 q=>?_)
 cases f with
 | next=>exact wpAny_execs_nil q
 | ret v=>exact q
 | brk=>exact q
 | cont=>exact q
theorem Inv.quiet {pins:List (Addr × Obj)} {σ:St} {H:Hp} {s:Shared} (I:Inv X pins σ H s):interactive X.env=false:=by simp [interactive,I.ok.kind]
def tDrop (te:TE):TS:=fun D σ H=>te σ H fun _ H1=>D.nx σ H1
theorem ps_expr (he:PE X e te) (hs:swapsWith e none pos.line X.env=pure false:=by rfl):PS X (.Expr e pos) (tDrop te):=by
 intro pins s σ H D I h
 exact wpAny_Expr_any (thn (he pins s σ H _ I h) fun v s1 hp2=>by obtain ⟨x,H1,I1,r1,q1⟩:=hp2; exact ⟨σ,H1,I1,q1⟩) I.quiet hs
def tRet (te:TE):TS:=fun D σ H=>te σ H D.rt
theorem ps_ret (he:PE X e te):PS X (.Return (some e) pos) (tRet te):=by
 intro pins s σ H D I h
 exact wpAny_Return_some (thn (he pins s σ H _ I h) fun v s1 hp2=>by obtain ⟨x,H1,I1,r1,q1⟩:=hp2; exact ⟨x,σ,H1,I1,r1,q1⟩)
def tIfS (c:TT) (t u:TS):TS:=fun D σ H=>c σ H fun b H1=>if b=true then t D σ H1 else u D σ H1
theorem ps_if {c:Expr} {a b:List Stmt} {tc:TT} (hc:PT X c tc) (ha:PSs X a t) (hb:PSs X b u):PS X (.If c a b pos) (tIfS tc t u):=by
 intro pins s σ H D I h
 refine wpAny_If (thn (hc pins s σ H _ I h) fun d s1 hpat=>?_)
 obtain ⟨H1,I1,q1⟩:=hpat
 cases d with
 | true=>exact ha pins s1 σ H1 D I1 q1
 | false=>exact hb pins s1 σ H1 D I1 q1
end
abbrev TG:=V→St→Hp→(St→Hp→Prop)→Prop
abbrev TGs:=List V→St→Hp→(St→Hp→Prop)→Prop
def PG (X:Cx) (target:Expr) (t:TG):Prop:=
 ∀ (pins:List (Addr × Obj)) (s:Shared) (σ:St) (H:Hp) (v:V) (u:Value) (Q:St→Hp→Prop),Inv X pins σ H s→RelV v u→t v σ H Q→
  wpAny (model X.prog X.w) X.A (assign target X.env u) (fun _ s'=>∃ σ' H',Inv X pins σ' H' s'∧Q σ' H') X.xe s
def PGs (X:Cx) (ts:List Expr) (t:TGs):Prop:=
 ∀ (pins:List (Addr × Obj)) (s:Shared) (σ:St) (H:Hp) (vs:List V) (us:List Value) (Q:St→Hp→Prop),Inv X pins σ H s→Vals vs us→t vs σ H Q→
  wpAny (model X.prog X.w) X.A (assignInOrder ((assignEach ts X.env).map (·.2)) us) (fun _ s'=>∃ σ' H',Inv X pins σ' H' s'∧Q σ' H') X.xe s
section
variable {X:Cx} {pos:Pos}
def gName (i:Nat):TG:=fun v σ H Q=>Q (σ.set i (some v)) H
theorem pg_name {i:Nat} {x:Str} (hN:X.N.Nodup) (hi:X.N[i]?=some x) (hx:Loc X.env.scope x) (hf:X.fn x=true∨X.env.scope.names.lookup x=some .local:=by first | exact .inl rfl | exact .inr rfl | assumption):PG X (.Name x pos) (gName i):=by
 intro pins s σ H v u Q I r h
 exact wpAny_assign_Name (store_ok I hN hi hx r (fun s' I'=>⟨_,H,I',h⟩) hf)
def gNil:TGs:=fun vs σ H Q=>vs=[]∧Q σ H
def gCons (t:TG) (u:TGs):TGs:=fun vs σ H Q=>ExQ Q (fun v Q=>ExQ Q (fun r Q=>vs=v::r∧t v σ H fun σ' H'=>u r σ' H' Q))
theorem pgs_nil:PGs X [] gNil:=by
 intro pins s σ H vs us Q I r h
 obtain ⟨e,h⟩:=h
 subst e
 cases r
 exact assignInOrder_nil ⟨σ,H,I,h⟩
theorem pgs_cons {e:Expr} {es:List Expr} {t:TG} {u:TGs} (h1:PG X e t) (h2:PGs X es u)
  (hs:(assignEach (e::es) X.env).map (·.2)=assign e X.env::(assignEach es X.env).map (·.2):=by rfl):PGs X (e::es) (gCons t u):=by
 intro pins s σ H vs us Q I r h
 obtain ⟨v,vr,e1,h⟩:=h
 subst e1
 cases r with
 | cons r rr=>
  rw [hs]
  refine assignInOrder_cons (thn (h1 pins s σ H _ _ _ I r h) fun _ s1 hpat=>?_)
  obtain ⟨σ1,H1,I1,q1⟩:=hpat
  exact h2 pins s1 σ1 H1 _ _ Q I1 rr q1
def gTup (K:PySem.W.Frag) (n:Nat) (t:TGs):TG:=fun v σ H Q=>ExQ Q (fun a Q=>ExQ Q (fun xs Q=>v=.ref a∧SqT K H a xs∧xs.length=n∧t xs σ H Q))
theorem pg_tup {es:List Expr} {k:Nat} {t:TGs} {n:Nat} (hc:X.calm=true) (h:PGs X es t)
  (hn:(assignEach es X.env).length=n:=by rfl) (hst:(assignEach es X.env).findIdx? (·.1)=none:=by rfl):PG X (.Tuple es k pos) (gTup X.K n t):=by
 intro pins s σ H v u Q I r hw
 obtain ⟨a,xs,e1,hq,hl,hw⟩:=hw
 subst e1
 cases r
 obtain ⟨its,rv,ht,hz⟩:=I.tuple hq
 refine assign_Tuple_tuple (I.ok.hd hc) ht (by simp [hn,← hl,rv.length]) hst fun h' hx=>?_
 have I1:Inv X pins σ H { s with heap:=h' }:=I.kept (t':=s.toks) fun b o e=>hx b o (Nat.ne_of_lt (Heap.lt_size e)) e
 exact h pins _ σ H xs _ Q I1 (by simpa using rv) hw
def tAsg (te:TE) (g:TG):TS:=fun D σ H=>te σ H fun x H1=>g x σ H1 D.nx
theorem ps_asg {tg e:Expr} {te:TE} {g:TG} (he:PE X e te) (hg:PG X tg g) (hs:swapsWithSole [tg] e pos.line X.env=pure false:=by rfl) (hw:swappedStores [tg] e X.env=pure none:=by rfl)
  (h1:(assignEach [tg] X.env).map (·.2)=[assign tg X.env]:=by rfl):PS X (.Assign [tg] e pos) (tAsg te g):=by
 intro pins s σ H D I h
 refine wpAny_Assign_stores (thn (he pins s σ H _ I h) fun v s1 hpat=>?_) hs hw
 obtain ⟨x,H1,I1,r1,q1⟩:=hpat
 rw [h1]
 exact thn (hg pins s1 σ H1 x v _ I1 r1 q1) fun _ s2 q=>q
theorem ps_set {i:Nat} {x:Str} {e:Expr} {te:TE} {pos':Pos} (hN:X.N.Nodup) (hi:X.N[i]?=some x) (hx:Loc X.env.scope x) (he:PE X e te) (hs:swapsWith e (some (.Name x pos')) pos.line X.env=pure false:=by rfl) (hf:X.fn x=true∨X.env.scope.names.lookup x=some .local:=by first | exact .inl rfl | exact .inr rfl | assumption) :
  PS X (.Assign [.Name x pos'] e pos) (tAsg te (gName i)):=by
 intro pins s σ H D I h
 refine wpAny_Assign_Name (thn (he pins s σ H _ I h) fun v s1 hpat=>?_) hs
 obtain ⟨y,H1,I1,r1,q1⟩:=hpat
 exact store_ok I1 hN hi hx r1 (fun s2 I2=>⟨_,H1,I2,q1⟩) hf
end
section
variable {X:Cx} {pos:Pos}
def tWhile (c:TT) (tb:TS):TS:=fun D σ H=>∃ W:Nat→St→Hp→Prop,(∃ m,W m σ H)∧∀ m σ H,W m σ H→
 c σ H fun b H1=>if b=true then ∃ N:St→Hp→Prop,(∀ σ' H',N σ' H'→∃ m',m' < m∧W m' σ' H')∧tb { D with nx:=N,ct:=N,bk:=D.nx } σ H1 else D.nx σ H1
theorem ps_while {c:Expr} {body:List Stmt} {tc:TT} {tb:TS} (hp:PassesOwn (model X.prog X.w) X.A X.env X.xe) (hc:PT X c tc) (hb:PSs X body tb):PS X (.While c body [] pos) (tWhile tc tb):=by
 intro pins s σ H D I h
 obtain ⟨W,⟨m0,w0⟩,turn⟩:=h
 refine wpAny_While (codeAny_whileLoop (fun n s'=>∃ σ' H',Inv X pins σ' H' s'∧W n σ' H') ?_ m0 ⟨σ,H,I,w0⟩)
 rintro n s1 ⟨σ1,H1,I1,w1⟩
 refine wpAny_passesOwn hp (thn (hc pins s1 σ1 H1 _ I1 (turn n σ1 H1 w1)) fun b s2 hpat=>?_)
 obtain ⟨H2,I2,q2⟩:=hpat
 cases b with
 | true=>
  obtain ⟨N,hN,q2⟩:=q2
  rw [if_pos rfl]
  refine wpAny_passesOwn hp (thn (hb pins s2 σ1 H2 _ I2 q2) fun f s3 q3=>?_)
  cases f with
  | next=>
   obtain ⟨σ3,H3,I3,n3⟩:=q3
   obtain ⟨m',hm,w3⟩:=hN σ3 H3 n3
   exact ⟨m',hm,σ3,H3,I3,w3⟩
  | cont=>
   obtain ⟨σ3,H3,I3,n3⟩:=q3
   obtain ⟨m',hm,w3⟩:=hN σ3 H3 n3
   exact ⟨m',hm,σ3,H3,I3,w3⟩
  | brk=>exact q3
  | ret v=>exact q3
 | false=>
  rw [if_neg Bool.false_ne_true]
  exact wpAny_execs_nil ⟨σ1,H2,I2,q2⟩
end
structure It where
 go:Nat→Hp→Prop
 yld:Nat→Hp→V→Hp→Prop
 stop:Nat→Hp→Prop
def FpOk (X:Cx) (pins:List (Addr × Obj)) (H:Hp) (b:Addr):Prop:=
 H b=none∧b≠X.env.locals∧b∉X.fs∧(b∈X.ex∨X.s₀.heap.objs.size≤b)∧(∀ x c,X.env.cells.lookup x=some c→c≠b)∧∀ p∈X.pn++pins,p.1≠b
theorem Inv.fpOk {X:Cx} {pins:List (Addr × Obj)} {σ:St} {H H':Hp} {s:Shared} {b:Addr} (I:Inv X pins σ H s) (hb:s.heap.objs.size≤b) (hn:H' b=none):FpOk X pins H' b:=by
 refine ⟨hn,Nat.ne_of_gt (Nat.lt_of_lt_of_le I.lt hb),I.nofs hb,.inr (Nat.le_trans I.sz hb),fun x c e z=>?_,fun p hp z=>?_⟩
 ·obtain ⟨v,q⟩:=I.cell x c e
  exact absurd (Nat.lt_of_lt_of_le q.lt (by rw [z]; exact hb)) (Nat.lt_irrefl _)
 ·exact absurd (Nat.lt_of_lt_of_le (Heap.lt_size (I.pin p hp).1) (by rw [z]; exact hb)) (Nat.lt_irrefl _)
structure Turn (P:Program) (w:World) (K:PySem.W.Frag) (tg:Expr) (J:It) (fp:List Addr) (it:Addr) (tn:Nat→Heap→Prop):Prop where
 mem:it∈fp
 obj:∀ i h,tn i h→∀ b∈fp,∃ o,h.get? b=some o∧∀ v,o.data≠.cell v
 keep:∀ i h h',tn i h→(∀ b∈fp,∀ o,h.get? b=some o→h'.get? b=some o)→tn i h'
 item:∀ (X:Cx),X.prog=P→X.w=w→X.K=K→X.calm=true→∀ (i:Nat) (pins:List (Addr × Obj)) (s:Shared) (σ:St) (H:Hp) (E:Value→Shared→Prop),Inv X pins σ H s→(∀ b∈fp,FpOk X pins H b)→tn i s.heap→J.go i H→
  wpAny (model P w) X.A (pyNext (.ref it)) (fun r s1=>∃ u,r=some u∧
   wpAny (model P w) X.A (letOwnedTupleGo tg (.ref it) u) (fun _ s2=>∃ x H',Inv X pins σ H' s2∧RelV x u∧J.yld i H x H'∧tn (i + 1) s2.heap∧∀ b∈fp,H' b=none) E s1) E s
 done:∀ (X:Cx),X.prog=P→X.w=w→X.K=K→X.calm=true→∀ (i:Nat) (pins:List (Addr × Obj)) (s:Shared) (σ:St) (H:Hp) (E:Value→Shared→Prop),Inv X pins σ H s→(∀ b∈fp,FpOk X pins H b)→tn i s.heap→J.stop i H→
  wpAny (model P w) X.A (pyNext (.ref it)) (fun r s1=>r=none∧Inv X pins σ H s1) E s
 self:∀ (A:Around) (i:Nat) (s:Shared) (Q:Value→Shared→Prop) (E:Value→Shared→Prop),tn i s.heap→Q (.ref it) s→wpAny (model P w) A (pyIter (.ref it)) Q E s
abbrev TI:=St→Hp→(It→Hp→Prop)→Prop
def PIE (X:Cx) (pins:List (Addr × Obj)) (σ:St) (tg:Expr) (R:It→Hp→Prop) (itv:Value) (s2:Shared):Prop:=
 ∃ (it:Addr) (fp:List Addr) (tn:Nat→Heap→Prop) (J:It) (H':Hp),itv=.ref it∧Inv X pins σ H' s2∧Turn X.prog X.w X.K tg J fp it tn∧tn 0 s2.heap∧(∀ b∈fp,FpOk X pins H' b)∧R J H'
def PI (X:Cx) (tg iter:Expr) (wi:TI):Prop:=
 ∀ (pins:List (Addr × Obj)) (s:Shared) (σ:St) (H:Hp) (R:It→Hp→Prop),Inv X pins σ H s→wi σ H R→
  wpAny (model X.prog X.w) X.A (eval iter X.env) (fun v s1=>wpAny (model X.prog X.w) X.A (pyIter v) (PIE X pins σ tg R) X.xe s1) X.xe s
theorem go_of {M:Model} {A:Around} {E:Value→Shared→Prop} {s:Shared} {tg:Expr} {it:Addr} {u:Value} {o:Obj} {n:String} {vs:Array Value} {Q:Unit→Shared→Prop} (ho:s.heap.get? it=some o) (hc:o.cls=.type n) (hd:o.data=.fields vs)
  (hn:["enumerate", "zip", "dict_itemiterator", "dict_reverseitemiterator", "odict_iterator", "itertools.zip_longest", "itertools.pairwise"].contains n=false) (hQ:Q () s):wpAny M A (letOwnedTupleGo tg (.ref it) u) Q E s:=by
 unfold letOwnedTupleGo
 cases tg <;> first
  | exact wpAny_pure hQ
  | (cases u <;> first
    | exact wpAny_pure hQ
    | (refine wpAny_bind (wpAny_load ho ?_)
       rw [hc,hd]
       show wpAny M A (if (["enumerate", "zip", "dict_itemiterator", "dict_reverseitemiterator", "odict_iterator", "itertools.zip_longest", "itertools.pairwise"].contains n && vs[0]? == some (rawInt _))=true then _ else _) Q E s
       rw [if_neg (by intro h; rw [hn,Bool.false_and] at h; cases h)]
       exact wpAny_pure hQ))
def Itl (K:PySem.W.Frag) (a:Addr):It:=
 ⟨fun i H=>∃ xs x,SqL K H a xs∧xs[i]?=some x,fun i H x H'=>H'=H∧∀ xs,SqL K H a xs→xs[i]?=some x,fun i H=>∃ xs,SqL K H a xs∧xs.length≤i⟩
def Itt (K:PySem.W.Frag) (a:Addr):It:=
 ⟨fun i H=>∃ xs x,SqT K H a xs∧xs[i]?=some x,fun i H x H'=>H'=H∧∀ xs,SqT K H a xs→xs[i]?=some x,fun i H=>∃ xs,SqT K H a xs∧xs.length≤i⟩
def Itr (lo:Int) (n:Nat):It:=⟨fun i _=>i < n,fun i H x H'=>H'=H∧x=.int (lo + i),fun i _=>n≤i⟩
theorem turn_list {P:Program} {w:World} {K:PySem.W.Frag} {tg:Expr} (a it:Addr):Turn P w K tg (Itl K a) [it] it (fun i h=>h.IsListIter it a i) where
 mem:=by simp
 obj:=fun i h st b hb=>by
  have e:b=it:=by simpa using hb
  subst e
  obtain ⟨o,e,c,d⟩:=st
  exact ⟨o,e,fun v z=>by rw [d] at z; cases z⟩
 keep:=fun i h h' st k=>st.at fun o e=>k it (by simp) o e
 item:=by
  intro X hP hw hK hc i pins s σ H E I hf st hg
  subst hP hw hK
  obtain ⟨xs,x,hq,hx⟩:=hg
  obtain ⟨its,rv,p,hz⟩:=I.list hq
  obtain ⟨u,hu,ru⟩:=rv.get hx
  obtain ⟨f0,f1,f2,f3,f4,f5⟩:=hf it (by simp)
  refine wpAny_pyNext_list_item st p.isList (x:=u) (by simpa using hu) fun h' st' sb=>?_
  have I1:Inv X pins σ H { s with heap:=h' }:=I.turned (t':=s.toks) (fun b o hb e=>(sb.2 b hb).trans e) f0 f1 f3 f4 f5
  obtain ⟨o,e,c,d⟩:=id st'
  exact ⟨u,rfl,go_of (s:={ s with heap:=h' }) e c d (by decide) ⟨x,H,I1,ru,⟨rfl,fun ys hy=>by rw [I.list_inj hy hq]; exact hx⟩,st',fun b hb=>(hf b hb).1⟩⟩
 done:=by
  intro X hP hw hK hc i pins s σ H E I hf st hg
  subst hP hw hK
  obtain ⟨xs,hq,hx⟩:=hg
  obtain ⟨its,rv,p,hz⟩:=I.list hq
  obtain ⟨f0,f1,f2,f3,f4,f5⟩:=hf it (by simp)
  have hl:=rv.length
  exact wpAny_pyNext_list_end (I.ok.hd hc) st p.isList (by simp; omega) fun h' eb=>⟨rfl,I.turned (t':=s.toks) (fun b o hb e=>eb b o hb e) f0 f1 f3 f4 f5⟩
 self:=fun _ _ _ _ _ st h=>wpAny_pyIter_listiter st h
theorem turn_tuple {P:Program} {w:World} {K:PySem.W.Frag} {tg:Expr} (a it:Addr):Turn P w K tg (Itt K a) [it] it (fun i h=>h.IsTupleIter it a i) where
 mem:=by simp
 obj:=fun i h st b hb=>by
  have e:b=it:=by simpa using hb
  subst e
  obtain ⟨o,e,c,d⟩:=st
  exact ⟨o,e,fun v z=>by rw [d] at z; cases z⟩
 keep:=fun i h h' st k=>st.at fun o e=>k it (by simp) o e
 item:=by
  intro X hP hw hK hc i pins s σ H E I hf st hg
  subst hP hw hK
  obtain ⟨xs,x,hq,hx⟩:=hg
  obtain ⟨its,rv,p,hz⟩:=I.tuple hq
  obtain ⟨u,hu,ru⟩:=rv.get hx
  obtain ⟨f0,f1,f2,f3,f4,f5⟩:=hf it (by simp)
  refine wpAny_pyNext_tuple_item st (show s.heap.IsTuple a its.toArray from p) (x:=u) (by simpa using hu) fun h' st' sb=>?_
  have I1:Inv X pins σ H { s with heap:=h' }:=I.turned (t':=s.toks) (fun b o hb e=>(sb.2 b hb).trans e) f0 f1 f3 f4 f5
  obtain ⟨o,e,c,d⟩:=id st'
  exact ⟨u,rfl,go_of (s:={ s with heap:=h' }) e c d (by decide) ⟨x,H,I1,ru,⟨rfl,fun ys hy=>by rw [I.tuple_inj hy hq]; exact hx⟩,st',fun b hb=>(hf b hb).1⟩⟩
 done:=by
  intro X hP hw hK hc i pins s σ H E I hf st hg
  subst hP hw hK
  obtain ⟨xs,hq,hx⟩:=hg
  obtain ⟨its,rv,p,hz⟩:=I.tuple hq
  obtain ⟨f0,f1,f2,f3,f4,f5⟩:=hf it (by simp)
  have hl:=rv.length
  exact wpAny_pyNext_tuple_end (I.ok.hd hc) st (show s.heap.IsTuple a its.toArray from p) (by simp; omega) fun h' eb=>⟨rfl,I.turned (t':=s.toks) (fun b o hb e=>eb b o hb e) f0 f1 f3 f4 f5⟩
 self:=fun _ _ _ _ _ st h=>wpAny_pyIter_tupleiter st h
theorem turn_range {P:Program} {w:World} {K:PySem.W.Frag} {tg:Expr} (it:Addr) (lo:Int) (n:Nat):Turn P w K tg (Itr lo n) [it] it (fun i h=>IsRangeIter h it (lo + (i:Nat) * 1) ((n:Int) - (i:Nat)) 1) where
 mem:=by simp
 obj:=fun i h st b hb=>by
  have e:b=it:=by simpa using hb
  subst e
  exact ⟨_,st,fun v z=>by
   have z':Data.fields _=Data.cell v:=z
   cases z'⟩
 keep:=fun i h h' st k=>k it (by simp) _ st
 item:=by
  intro X hP hw hK hc i pins s σ H E I hf st hg
  subst hP hw hK
  obtain ⟨f0,f1,f2,f3,f4,f5⟩:=hf it (by simp)
  have W:=Walks.range (prog:=X.prog) (w:=X.w) (I.ok.hd hc) it lo 1 n
  refine W.item i s _ _ hg st fun v h' tk hv st' kk=>?_
  obtain ⟨t,rfl⟩:=hv
  have I1:Inv X pins σ H { s with heap:=h',toks:=tk }:=I.turned (fun b o hb e=>kk b o (by simpa using hb) e) f0 f1 f3 f4 f5
  refine ⟨_,rfl,go_of (s:={ s with heap:=h',toks:=tk }) (n:="range_iterator") st' rfl rfl (by decide) ⟨.int (lo + i),H,I1,⟨t,?_⟩,⟨rfl,rfl⟩,st',fun b hb=>(hf b hb).1⟩⟩
  rw [Int.mul_one]
 done:=by
  intro X hP hw hK hc i pins s σ H E I hf st hg
  subst hP hw hK
  obtain ⟨f0,f1,f2,f3,f4,f5⟩:=hf it (by simp)
  exact wpAny_pyNext_range_end (I.ok.hd hc) st (by have:n≤i:=hg; omega) fun h' eb=>⟨rfl,I.turned (t':=s.toks) (fun b o hb e=>eb b o hb e) f0 f1 f3 f4 f5⟩
 self:=fun _ _ _ _ _ st h=>wpAny_pyIter_rangeiter st h
section
variable {X:Cx} {tg:Expr}
def iList (K:PySem.W.Frag) (tl:TE):TI:=fun σ H R=>tl σ H fun x H1=>ExQ R (fun a R=>x=.ref a∧(∃ xs,SqL K H1 a xs)∧R (Itl K a) H1)
def iTup (K:PySem.W.Frag) (tl:TE):TI:=fun σ H R=>tl σ H fun x H1=>ExQ R (fun a R=>x=.ref a∧(∃ xs,SqT K H1 a xs)∧R (Itt K a) H1)
theorem pi_list {l:Expr} {tl:TE} (hl:PE X l tl):PI X tg l (iList X.K tl):=by
 intro pins s σ H R I h
 refine thn (hl pins s σ H _ I h) fun v s1 hpat=>?_
 obtain ⟨x,H1,I1,r1,q1⟩:=hpat
 obtain ⟨a,e,⟨xs,hq⟩,q⟩:=q1
 subst e
 cases r1
 obtain ⟨its,rv,p,hz⟩:=I1.list hq
 refine wpAny_pyIter_list p.isList ?_
 refine ⟨s1.heap.objs.size,[s1.heap.objs.size],_,_,H1,rfl,I1.kept (t':=s1.toks) fun b o e=>Heap.get?_push_of_some _ e,turn_list a _,⟨_,Heap.get?_push_size _ rfl,rfl,rfl⟩,fun b hb=>?_,q⟩
 have e:b=s1.heap.objs.size:=by simpa using hb
 subst e
 exact I1.fpOk (Nat.le_refl _) (I1.hok.fresh (Nat.le_refl _))
theorem pi_tup {l:Expr} {tl:TE} (hl:PE X l tl):PI X tg l (iTup X.K tl):=by
 intro pins s σ H R I h
 refine thn (hl pins s σ H _ I h) fun v s1 hpat=>?_
 obtain ⟨x,H1,I1,r1,q1⟩:=hpat
 obtain ⟨a,e,⟨xs,hq⟩,q⟩:=q1
 subst e
 cases r1
 obtain ⟨its,rv,p,hz⟩:=I1.tuple hq
 refine wpAny_pyIter_tuple (show s1.heap.IsTuple a its.toArray from p) ?_
 refine ⟨s1.heap.objs.size,[s1.heap.objs.size],_,_,H1,rfl,I1.kept (t':=s1.toks) fun b o e=>Heap.get?_push_of_some _ e,turn_tuple a _,⟨_,Heap.get?_push_size _ rfl,rfl,rfl⟩,fun b hb=>?_,q⟩
 have e:b=s1.heap.objs.size:=by simpa using hb
 subst e
 exact I1.fpOk (Nat.le_refl _) (I1.hok.fresh (Nat.le_refl _))
theorem range_it {pins:List (Addr × Obj)} {σ:St} {H:Hp} {s:Shared} {R:It→Hp→Prop} {E:Value→Shared→Prop} {lo hi:Int} {t u v:Tok} {tk:Nat} (I:Inv X pins σ H s) (h1:-(2 ^ 62)≤lo) (h2:lo < 2 ^ 62) (h3:-(2 ^ 62)≤hi) (h4:hi < 2 ^ 62)
  (q:R (Itr lo (hi - lo).toNat) H):wpAny (model X.prog X.w) X.A (pyIter (.ref s.heap.objs.size)) (PIE X pins σ tg R) E { s with heap:=s.heap.push { cls:=.type "range",data:=.fields #[.int lo t,.int hi u,.int 1 v] },toks:=tk }:=by
 refine wpAny_pyIter_range (IsRange.new ..) (small_one h1 h2 h3 h4) ?_
 have I1:Inv X pins σ H { s with heap:=s.heap.push { cls:=.type "range",data:=.fields #[.int lo t,.int hi u,.int 1 v] },toks:=tk }:=I.kept fun b o e=>Heap.get?_push_of_some _ e
 refine ⟨(s.heap.push { cls:=.type "range",data:=.fields #[.int lo t,.int hi u,.int 1 v] }).objs.size,[(s.heap.push { cls:=.type "range",data:=.fields #[.int lo t,.int hi u,.int 1 v] }).objs.size],_,_,H,rfl,
  I1.kept (t':=tk) fun b o e=>Heap.get?_push_of_some _ e,turn_range _ lo (hi - lo).toNat,?_,fun b hb=>?_,q⟩
 ·have e1:lo + ((0:Nat):Int) * 1=lo:=by simp
  have e2:(((hi - lo).toNat:Nat):Int) - ((0:Nat):Int)=Builtin.Range.rangeSize lo hi 1:=by rw [rangeSize_one]; split <;> omega
  show IsRangeIter _ _ (lo + ((0:Nat):Int) * 1) ((((hi - lo).toNat:Nat):Int) - ((0:Nat):Int)) 1
  rw [e1,e2]
  exact Heap.get?_push_size _ rfl
 ·have e:b=(s.heap.push { cls:=.type "range",data:=.fields #[.int lo t,.int hi u,.int 1 v] }).objs.size:=by simpa using hb
  subst e
  exact I1.fpOk (Nat.le_refl _) (I1.hok.fresh (Nat.le_refl _))
def iRng1 (ta:TA):TI:=fun σ H R=>ta σ H fun vs H1=>ExQ R (fun (j:Int) R=>vs=[.int j]∧-(2 ^ 62)≤j∧j < 2 ^ 62∧R (Itr 0 j.toNat) H1)
theorem pi_range1 {a:Expr} {ta:TA} {p pos:Pos} (hg:Gl X "range") (hm:X.mg "range" = none) (ha:PA X [a] ta) (hs:starEach [a] X.env=[(false,eval a X.env)]:=by rfl):PI X tg (.Call (.Name "range" p) [a] [] pos) (iRng1 ta):=by
 intro pins s σ H R I h
 refine Call_ (ld_blt I hg hm boot_range (PyProof.Rows.callWith_type1 (thn (ha pos pins s σ H _ I h) fun us s1 hpat=>?_) hs rfl))
 obtain ⟨vs,H1,I1,r1,q1⟩:=hpat
 obtain ⟨j,e,q1,q2,q⟩:=q1
 subst e
 cases r1 with
 | cons r rr=>
  cases rr
  obtain ⟨t,rfl⟩:=r
  exact call_range_1 (range_it I1 (by omega) (by omega) q1 q2 (by simpa using q))
def tFor (wi:TI) (g:TG) (tb:TS):TS:=fun D σ H=>wi σ H fun J H1=>∃ W:Nat→Nat→St→Hp→Prop,(∃ m,W 0 m σ H1)∧∀ i m σ H,W i m σ H→
 (J.stop i H∧D.nx σ H)∨(J.go i H∧∃ N:St→Hp→Prop,(∀ σ' H',N σ' H'→∃ m',m' < m∧W (i + 1) m' σ' H')∧∀ x H',J.yld i H x H'→g x σ H' fun σ2 H2=>tb { D with nx:=N,ct:=N,bk:=D.nx } σ2 H2)
def pinsAt (fp:List Addr) (h:Heap):List (Addr × Obj):=fp.filterMap fun b=>(h.get? b).map fun o=>(b,o)
theorem mem_pinsAt {fp:List Addr} {h:Heap} {b:Addr} {o:Obj} (hb:b∈fp) (e:h.get? b=some o):(b,o)∈pinsAt fp h:=List.mem_filterMap.mpr ⟨b,hb,by rw [e]; rfl⟩
theorem of_pinsAt {fp:List Addr} {h:Heap} {p:Addr × Obj} (hp:p∈pinsAt fp h):p.1∈fp∧h.get? p.1=some p.2:=by
 obtain ⟨b,hb,e⟩:=List.mem_filterMap.mp hp
 cases q:h.get? b with
 | none=>rw [q] at e; cases e
 | some o=>
  rw [q] at e
  have e':(b,o)=p:=Option.some.inj e
  subst e'
  exact ⟨hb,q⟩
theorem Inv.pinned {pins:List (Addr × Obj)} {σ:St} {H:Hp} {s:Shared} {fp:List Addr} (I:Inv X pins σ H s) (hf:∀ b∈fp,FpOk X pins H b) (ho:∀ b∈fp,∃ o,s.heap.get? b=some o∧∀ v,o.data≠.cell v):Inv X (pins++pinsAt fp s.heap) σ H s:=
 I.pins_of fun p hp=>(List.mem_append.mp hp).elim (fun z=>I.pin p (List.mem_append_right _ z)) fun z=>by
  obtain ⟨hb,e⟩:=of_pinsAt z
  obtain ⟨f0,f1,f2,_⟩:=hf p.1 hb
  obtain ⟨o,e',d⟩:=ho p.1 hb
  rw [e] at e'; cases e'
  exact ⟨e,f0,f1,f2,d⟩
theorem Inv.unpinned {pins pl:List (Addr × Obj)} {σ:St} {H:Hp} {s:Shared} (I:Inv X (pins++pl) σ H s):Inv X pins σ H s:=I.pins_of fun p hp=>I.pin p (List.mem_append_right _ (List.mem_append_left _ hp))
theorem ps_for {iter:Expr} {body:List Stmt} {wi:TI} {g:TG} {tb:TS} {pos:Pos} (hp:PassesOwn (model X.prog X.w) X.A X.env X.xe) (hc:X.calm=true) (hi:PI X tg iter wi) (hg:PG X tg g) (hb:PSs X body tb)
  (hs:∀ x,foldedSetIterable iter X.env x=pure x:=by intro _; rfl):PS X (.For tg iter body [] pos) (tFor wi g tb):=by
 intro pins s σ H D I h
 refine wpAny_For (thn (hi pins s σ H _ I h) fun v s1 h1=>thn h1 fun itv s2 h2=>?_) hs
 obtain ⟨it,fp,tn,J,H2,e,I2,T,st2,f2,W,⟨m0,w0⟩,turn⟩:=h2
 subst e
 -- what stays true of the iterator's objects through the loop
 have stat:∀ {H':Hp},(∀ b∈fp,H' b=none)→∀ b∈fp,FpOk X pins H' b:=fun hn b hb=>⟨hn b hb,(f2 b hb).2⟩
 refine codeAny_forLoop_any (fun n s'=>∃ i σ' H',Inv X pins σ' H' s'∧tn i s'.heap∧(∀ b∈fp,H' b=none)∧W i n σ' H') ?_ m0 ⟨0,σ,H2,I2,st2,fun b hb=>(f2 b hb).1,w0⟩
 rintro n s3 ⟨i,σ3,H3,I3,st3,fr3,w3⟩
 rcases turn i n σ3 H3 w3 with ⟨stop,qn⟩ | ⟨go,N,hN,step⟩
 ·refine wpAny_passesOwn hp (thn (T.done X rfl rfl rfl hc i pins s3 σ3 H3 X.xe I3 (stat fr3) st3 stop) fun r s4 hpat=>?_)
  obtain ⟨hr,I4⟩:=hpat
  subst hr
  exact wpAny_execs_nil ⟨σ3,H3,I4,qn⟩
 ·refine wpAny_passesOwn hp (thn (T.item X rfl rfl rfl hc i pins s3 σ3 H3 X.xe I3 (stat fr3) st3 go) fun r s4 hpat=>?_)
  obtain ⟨u,hr,h4⟩:=hpat
  subst hr
  refine wpAny_passesOwn hp (thn h4 fun _ s5 hpat=>?_)
  obtain ⟨x,H5,I5,r5,y5,st5,fr5⟩:=hpat
  have I5':=I5.pinned (stat fr5) (T.obj _ _ st5)
  refine wpAny_passesOwn hp (thn (hg _ s5 σ3 H5 x u _ I5' r5 (step x H5 y5)) fun _ s6 hpat=>?_)
  obtain ⟨σ6,H6,I6,q6⟩:=hpat
  refine wpAny_passesOwn hp (thn (hb _ s6 σ6 H6 _ I6 q6) fun f s7 q7=>?_)
  have again:∀ {σ7:St} {H7:Hp},Inv X (pins++pinsAt fp s5.heap) σ7 H7 s7→N σ7 H7→∃ m,m < n∧∃ i σ' H',Inv X pins σ' H' s7∧tn i s7.heap∧(∀ b∈fp,H' b=none)∧W i m σ' H':=fun {σ7 H7} I7 n7=>by
   obtain ⟨m',hm,w7⟩:=hN σ7 H7 n7
   refine ⟨m',hm,i + 1,σ7,H7,I7.unpinned,T.keep _ _ _ st5 fun b hb o e=>(I7.pin (b,o) (List.mem_append_right _ (List.mem_append_right _ (mem_pinsAt hb e)))).1,fun b hb=>?_,w7⟩
   obtain ⟨o,e,d⟩:=T.obj _ _ st5 b hb
   exact (I7.pin (b,o) (List.mem_append_right _ (List.mem_append_right _ (mem_pinsAt hb e)))).2.1
  cases f with
  | next=>obtain ⟨σ7,H7,I7,n7⟩:=q7; exact again I7 n7
  | cont=>obtain ⟨σ7,H7,I7,n7⟩:=q7; exact again I7 n7
  | brk=>obtain ⟨σ7,H7,I7,q7⟩:=q7; exact ⟨σ7,H7,I7.unpinned,q7⟩
  | ret v=>obtain ⟨x7,σ7,H7,I7,r7,q7⟩:=q7; exact ⟨x7,σ7,H7,I7.unpinned,r7,q7⟩
end
theorem for_list {K:PySem.W.Frag} {a:Addr} {xs:List V} {g:TG} {tb:TS} {D:Ends} {σ:St} {H:Hp} (Pv:Nat→St→Hp→Prop) (h0:Pv 0 σ H) (hl:∀ i σ H,i≤xs.length→Pv i σ H→SqL K H a xs)
  (hs:∀ i x σ H,xs[i]?=some x→Pv i σ H→g x σ H fun σ2 H2=>tb { D with nx:=Pv (i + 1),ct:=Pv (i + 1),bk:=D.nx } σ2 H2) (hd:∀ σ H,Pv xs.length σ H→D.nx σ H) :
  ∃ W:Nat→Nat→St→Hp→Prop,(∃ m,W 0 m σ H)∧∀ i m σ H,W i m σ H→
   ((Itl K a).stop i H∧D.nx σ H)∨((Itl K a).go i H∧∃ N:St→Hp→Prop,(∀ σ' H',N σ' H'→∃ m',m' < m∧W (i + 1) m' σ' H')∧∀ x H',(Itl K a).yld i H x H'→g x σ H' fun σ2 H2=>tb { D with nx:=N,ct:=N,bk:=D.nx } σ2 H2):=by
 refine ⟨fun i m σ H=>m=xs.length - i∧i≤xs.length∧Pv i σ H,⟨xs.length,by simp,Nat.zero_le _,h0⟩,?_⟩
 rintro i m σ H ⟨rfl,hi,p⟩
 have q:=hl i σ H hi p
 by_cases hlt:i < xs.length
 ·refine .inr ⟨⟨xs,xs[i],q,by simp [hlt]⟩,Pv (i + 1),fun σ' H' p'=>⟨xs.length - (i + 1),by omega,rfl,hlt,p'⟩,fun x H' y=>?_⟩
  obtain ⟨e,y⟩:=y
  subst e
  exact hs i x σ _ (y xs q) p
 ·have e:i=xs.length:=by omega
  subst e
  exact .inl ⟨⟨xs,q,Nat.le_refl _⟩,hd σ H p⟩
theorem for_tup {K:PySem.W.Frag} {a:Addr} {xs:List V} {g:TG} {tb:TS} {D:Ends} {σ:St} {H:Hp} (Pv:Nat→St→Hp→Prop) (h0:Pv 0 σ H) (hl:∀ i σ H,i≤xs.length→Pv i σ H→SqT K H a xs)
  (hs:∀ i x σ H,xs[i]?=some x→Pv i σ H→g x σ H fun σ2 H2=>tb { D with nx:=Pv (i + 1),ct:=Pv (i + 1),bk:=D.nx } σ2 H2) (hd:∀ σ H,Pv xs.length σ H→D.nx σ H) :
  ∃ W:Nat→Nat→St→Hp→Prop,(∃ m,W 0 m σ H)∧∀ i m σ H,W i m σ H→
   ((Itt K a).stop i H∧D.nx σ H)∨((Itt K a).go i H∧∃ N:St→Hp→Prop,(∀ σ' H',N σ' H'→∃ m',m' < m∧W (i + 1) m' σ' H')∧∀ x H',(Itt K a).yld i H x H'→g x σ H' fun σ2 H2=>tb { D with nx:=N,ct:=N,bk:=D.nx } σ2 H2):=by
 refine ⟨fun i m σ H=>m=xs.length - i∧i≤xs.length∧Pv i σ H,⟨xs.length,by simp,Nat.zero_le _,h0⟩,?_⟩
 rintro i m σ H ⟨rfl,hi,p⟩
 have q:=hl i σ H hi p
 by_cases hlt:i < xs.length
 ·refine .inr ⟨⟨xs,xs[i],q,by simp [hlt]⟩,Pv (i + 1),fun σ' H' p'=>⟨xs.length - (i + 1),by omega,rfl,hlt,p'⟩,fun x H' y=>?_⟩
  obtain ⟨e,y⟩:=y
  subst e
  exact hs i x σ _ (y xs q) p
 ·have e:i=xs.length:=by omega
  subst e
  exact .inl ⟨⟨xs,q,Nat.le_refl _⟩,hd σ H p⟩
theorem for_range {lo:Int} {n:Nat} {g:TG} {tb:TS} {D:Ends} {σ:St} {H:Hp} (Pv:Nat→St→Hp→Prop) (h0:Pv 0 σ H)
  (hs:∀ i σ H,i < n→Pv i σ H→g (.int (lo + i)) σ H fun σ2 H2=>tb { D with nx:=Pv (i + 1),ct:=Pv (i + 1),bk:=D.nx } σ2 H2) (hd:∀ σ H,Pv n σ H→D.nx σ H) :
  ∃ W:Nat→Nat→St→Hp→Prop,(∃ m,W 0 m σ H)∧∀ i m σ H,W i m σ H→
   ((Itr lo n).stop i H∧D.nx σ H)∨((Itr lo n).go i H∧∃ N:St→Hp→Prop,(∀ σ' H',N σ' H'→∃ m',m' < m∧W (i + 1) m' σ' H')∧∀ x H',(Itr lo n).yld i H x H'→g x σ H' fun σ2 H2=>tb { D with nx:=N,ct:=N,bk:=D.nx } σ2 H2):=by
 refine ⟨fun i m σ H=>m=n - i∧i≤n∧Pv i σ H,⟨n,by simp,Nat.zero_le _,h0⟩,?_⟩
 rintro i m σ H ⟨rfl,hi,p⟩
 by_cases hlt:i < n
 ·refine .inr ⟨hlt,Pv (i + 1),fun σ' H' p'=>⟨n - (i + 1),by omega,rfl,hlt,p'⟩,fun x H' y=>?_⟩
  obtain ⟨e,y⟩:=y
  subst e y
  exact hs i σ _ hlt p
 ·have e:i=n:=by omega
  subst e
  exact .inl ⟨Nat.le_refl _,hd σ H p⟩
theorem while_by {c:TT} {tb:TS} {D:Ends} {σ:St} {H:Hp} (Pv:St→Hp→Prop) (μ:St→Hp→Nat) (h0:Pv σ H)
  (hs:∀ σ H,Pv σ H→c σ H fun b H1=>if b=true then tb { D with nx:=fun σ' H'=>Pv σ' H'∧μ σ' H' < μ σ H,ct:=fun σ' H'=>Pv σ' H'∧μ σ' H' < μ σ H,bk:=D.nx } σ H1 else D.nx σ H1)
  (mono:∀ σ H Q Q',(∀ b H1,Q b H1→Q' b H1)→c σ H Q→c σ H Q'):tWhile c tb D σ H:=by
 refine ⟨fun m σ H=>m=μ σ H∧Pv σ H,⟨_,rfl,h0⟩,?_⟩
 rintro m σ H ⟨rfl,p⟩
 refine mono σ H _ _ (fun b H1 q=>?_) (hs σ H p)
 cases b with
 | true=>exact ⟨_,fun σ' H' hp2=>by obtain ⟨p',l⟩:=hp2; exact ⟨_,l,rfl,p'⟩,q⟩
 | false=>exact q
abbrev R2:=V→V→Hp→VK→Prop
def OpR (X:Cx) (f:Value→Value→Sem Value) (r:R2):Prop:=
 ∀ (pins:List (Addr × Obj)) (s:Shared) (σ:St) (H:Hp) (x y:V) (v u:Value) (Q:VK),Inv X pins σ H s→RelV x v→RelV y u→r x y H Q→
  wpAny (model X.prog X.w) X.A (f v u) (EP X pins σ Q) X.xe s
def UnR (X:Cx) (f:Value→Sem Value) (r:V→Hp→VK→Prop):Prop:=
 ∀ (pins:List (Addr × Obj)) (s:Shared) (σ:St) (H:Hp) (x:V) (v:Value) (Q:VK),Inv X pins σ H s→RelV x v→r x H Q→
  wpAny (model X.prog X.w) X.A (f v) (EP X pins σ Q) X.xe s
def CallR (X:Cx) (f:Value) (r:List V→Hp→VK→Prop):Prop:=
 ∀ (pins:List (Addr × Obj)) (s:Shared) (σ:St) (H:Hp) (xs:List V) (us:List Value) (Q:VK),Inv X pins σ H s→Vals xs us→r xs H Q→
  wpAny (model X.prog X.w) X.A (call f us) (EP X pins σ Q) X.xe s
def TruR (X:Cx) (r:V→Hp→(Bool→Hp→Prop)→Prop):Prop:=
 ∀ (pins:List (Addr × Obj)) (s:Shared) (σ:St) (H:Hp) (x:V) (v:Value) (Q:Bool→Hp→Prop),Inv X pins σ H s→RelV x v→r x H Q→
  wpAny (model X.prog X.w) X.A (truthy v) (TP X pins σ Q) X.xe s
def tOp (r:R2) (ta tb:TE):TE:=fun σ H Q=>ta σ H fun x H1=>tb σ H1 fun y H2=>r x y H2 Q
def tUn (r:V→Hp→VK→Prop) (ta:TE):TE:=fun σ H Q=>ta σ H fun x H1=>r x H1 Q
def rI (C:Int→Int→Prop) (g:Int→Int→V):R2:=fun x y H Q=>ExQ Q (fun i Q=>ExQ Q (fun j Q=>x=.int i∧y=.int j∧C i j∧Q (g i j) H))
def rI0 (g:Int→Int→V):R2:=fun x y H Q=>ExQ Q (fun i Q=>ExQ Q (fun j Q=>x=.int i∧y=.int j∧Q (g i j) H))
def rU (g:Int→V):V→Hp→VK→Prop:=fun x H Q=>ExQ Q (fun i Q=>x=.int i∧Q (g i) H)
section
variable {X:Cx} {a b c:Expr} {ta tb tc:TE} {pos:Pos}
theorem binT (ha:PE X a ta) (hb:PE X b tb) {pins:List (Addr × Obj)} {s:Shared} {σ:St} {H:Hp} {R:V→V→Hp→Prop} (I:Inv X pins σ H s)
  (h:ta σ H fun x H1=>tb σ H1 fun y H2=>R x y H2) {Q:Value→Shared→Prop} {f:Value→Value→Sem Value}
  (hf:∀ v u s2 x y H2,Inv X pins σ H2 s2→RelV x v→RelV y u→R x y H2→wpAny (model X.prog X.w) X.A (f v u) Q X.xe s2) :
  wpAny (model X.prog X.w) X.A (eval a X.env) (fun v s₁=>wpAny (model X.prog X.w) X.A (eval b X.env) (fun u s₂=>wpAny (model X.prog X.w) X.A (f v u) Q X.xe s₂) X.xe s₁) X.xe s:=by
 refine thn (ha pins s σ H _ I h) fun v s1 hpat=>?_
 obtain ⟨x,H1,I1,r1,q1⟩:=hpat
 refine thn (hb pins s1 σ H1 _ I1 q1) fun u s2 hpat=>?_
 obtain ⟨y,H2,I2,r2,q2⟩:=hpat
 exact hf v u s2 x y H2 I2 r1 r2 q2
theorem pe_op {op:Operator} {r:R2} (ho:OpR X (binaryOp op) r) (ha:PE X a ta) (hb:PE X b tb):PE X (.BinOp a op b pos) (tOp r ta tb):=by
 intro pins s σ H Q I h
 exact wpAny_BinOp (binT ha hb I h fun v u s2 x y H2 I2 rx ry q=>ho pins s2 σ H2 x y v u Q I2 rx ry q)
theorem pe_un {op:UnaryOp} {r:V→Hp→VK→Prop} (ho:UnR X (unaryOp op) r) (ha:PE X a ta):PE X (.UnaryOp op a pos) (tUn r ta):=by
 intro pins s σ H Q I h
 exact UnaryOp_ (thn (ha pins s σ H _ I h) fun v s1 hp2=>by obtain ⟨x,H1,I1,r1,q1⟩:=hp2; exact ho pins s1 σ H1 x v Q I1 r1 q1)
theorem opI {f:Value→Value→Sem Value} {C:Int→Int→Prop} {g:Int→Int→Int}
  (rule:∀ (i j:Int) (t u:Tok) (s:Shared) (Q:Value→Shared→Prop) (E:Value→Shared→Prop),C i j→Q (.int (g i j) s.toks) { s with toks:=s.toks + 1 }→wpAny (model X.prog X.w) X.A (f (.int i t) (.int j u)) Q E s) :
  OpR X f (rI C fun i j=>.int (g i j)):=by
 intro pins s σ H x y v u Q I rx ry h
 obtain ⟨i,j,rfl,rfl,hc,q⟩:=h
 obtain ⟨t,rfl⟩:=rx
 obtain ⟨t',rfl⟩:=ry
 exact rule i j t t' s _ _ hc ⟨.int (g i j),H,I.tok _,⟨_,rfl⟩,q⟩
theorem opI0 {f:Value→Value→Sem Value} {g:Int→Int→Int}
  (rule:∀ (i j:Int) (t u:Tok) (s:Shared) (Q:Value→Shared→Prop) (E:Value→Shared→Prop),Q (.int (g i j) s.toks) { s with toks:=s.toks + 1 }→wpAny (model X.prog X.w) X.A (f (.int i t) (.int j u)) Q E s) :
  OpR X f (rI0 fun i j=>.int (g i j)):=by
 intro pins s σ H x y v u Q I rx ry h
 obtain ⟨i,j,rfl,rfl,q⟩:=h
 obtain ⟨t,rfl⟩:=rx
 obtain ⟨t',rfl⟩:=ry
 exact rule i j t t' s _ _ ⟨.int (g i j),H,I.tok _,⟨_,rfl⟩,q⟩
theorem opB0 {f:Value→Value→Sem Value} {g:Int→Int→Bool}
  (rule:∀ (i j:Int) (t u:Tok) (s:Shared) (Q:Value→Shared→Prop) (E:Value→Shared→Prop),Q (.bool (g i j)) s→wpAny (model X.prog X.w) X.A (f (.int i t) (.int j u)) Q E s) :
  OpR X f (rI0 fun i j=>.bl (g i j)):=by
 intro pins s σ H x y v u Q I rx ry h
 obtain ⟨i,j,rfl,rfl,q⟩:=h
 obtain ⟨t,rfl⟩:=rx
 obtain ⟨t',rfl⟩:=ry
 exact rule i j t t' s _ _ ⟨.bl (g i j),H,I,rfl,q⟩
def CDiv (i j:Int):Prop:=0 < j∧j < 1073741824
def CPow (i j:Int):Prop:=0≤j∧j≤1000000∧i.natAbs < 2 ^ 64
def CMul (i j:Int):Prop:=(-(2 ^ 64) < i∧i < 2 ^ 64)∨(-(2 ^ 64) < j∧j < 2 ^ 64)
theorem CMul.ok {i j:Int} (h:CMul i j):IntMulOk i j:=by
 rcases h with ⟨h1,h2⟩ | ⟨h1,h2⟩
 ·exact .of_left (intBits_le_64 h1 h2)
 ·exact .of_right (intBits_le_64 h1 h2)
theorem two_pow_nn (k:Nat):(0:Int)≤2 ^ k:=by
 rw [two_pow_cast]
 exact Int.natCast_nonneg _
theorem op_add:OpR X (binaryOp .Add) (rI0 fun i j=>.int (i + j)):=opI0 fun _ _ _ _ _ _ _ q=>add_int q
theorem op_sub:OpR X (binaryOp .Sub) (rI0 fun i j=>.int (i - j)):=opI0 fun _ _ _ _ _ _ _ q=>sub_int q
theorem op_mul:OpR X (binaryOp .Mult) (rI CMul fun i j=>.int (i * j)):=opI fun _ _ _ _ _ _ _ hc q=>mul_int q hc.ok
theorem op_fdiv:OpR X (binaryOp .FloorDiv) (rI CDiv fun i j=>.int (i / j)):=opI fun i j _ _ _ _ _ hc q=>by
 have h1:(0:Int) < j:=hc.1
 have h2:j < 1073741824:=hc.2
 exact floordiv_int (by omega) (by rw [Int.fdiv_eq_ediv_of_nonneg i (by omega)]; exact q) (.inl (PyProof.noPylong_small (by omega)))
theorem op_mod:OpR X (binaryOp .Mod) (rI (fun _ j=>0 < j) fun i j=>.int (i % j)):=opI fun i j _ _ _ _ _ hc q=>by
 have h1:(0:Int) < j:=hc
 exact mod_int' (by omega) (by rw [Int.fmod_eq_emod_of_nonneg i (by omega)]; exact q)
theorem op_pow:OpR X (binaryOp .Pow) (rI CPow fun i j=>.int (i ^ j.toNat)):=opI fun _ _ _ _ _ _ _ hc q=>pow_int_small hc.1 hc.2.1 hc.2.2 q
theorem op_shr:OpR X (binaryOp .RShift) (rI (fun _ j=>0≤j) fun i j=>.int (i / 2 ^ j.toNat)):=opI fun i j _ _ _ _ _ hc q=>
 rshift_int hc (by rw [Int.fdiv_eq_ediv_of_nonneg i (two_pow_nn _)]; exact q)
theorem unI {f:Value→Sem Value} {g:Int→Int}
  (rule:∀ (i:Int) (t:Tok) (s:Shared) (Q:Value→Shared→Prop) (E:Value→Shared→Prop),Q (.int (g i) s.toks) { s with toks:=s.toks + 1 }→wpAny (model X.prog X.w) X.A (f (.int i t)) Q E s) :
  UnR X f (rU fun i=>.int (g i)):=by
 intro pins s σ H x v Q I rx h
 obtain ⟨i,rfl,q⟩:=h
 obtain ⟨t,rfl⟩:=rx
 exact rule i t s _ _ ⟨.int (g i),H,I.tok _,⟨_,rfl⟩,q⟩
theorem un_neg:UnR X (unaryOp .USub) (rU fun i=>.int (-i)):=unI fun _ _ _ _ _ q=>neg_int q
end
def scal:V→V→Bool
 | .non,.non=>true | .non,.int _=>true | .int _,.non=>true | .non,.bl _=>true | .bl _,.non=>true | .non,.str _=>true | .str _,.non=>true
 | .int _,.int _=>true | .bl _,.bl _=>true | .str _,.str _=>true | .byt _,.byt _=>true
 | .int _,.str _=>true | .str _,.int _=>true | .bl _,.str _=>true | .str _,.bl _=>true
 | _,_=>false
def rEq:R2:=fun x y H Q=>scal x y=true∧Q (.bl (decide (x=y))) H
def rNe:R2:=fun x y H Q=>scal x y=true∧Q (.bl (!decide (x=y))) H
theorem dec_int {i j:Int}:decide (V.int i=V.int j)=(i == j):=by
 rw [Bool.eq_iff_iff]
 simp
theorem dec_bl {i j:Bool}:decide (V.bl i=V.bl j)=(i == j):=by
 rw [Bool.eq_iff_iff]
 simp
theorem dec_str {i j:Str}:decide (V.str i=V.str j)=(i == j):=by
 rw [Bool.eq_iff_iff]
 simp
theorem dec_byt {i j:Array UInt8}:decide (V.byt i=V.byt j)=(i.toList == j.toList):=by
 rw [Bool.eq_iff_iff]
 cases i
 cases j
 simp
section
variable {X:Cx} {a b c:Expr} {ta tb tc:TE} {pos:Pos}
theorem fin_bl {pins:List (Addr × Obj)} {σ:St} {H:Hp} {s:Shared} {Q:VK} {k k':Bool} (I:Inv X pins σ H s) (q:Q (.bl k) H) (e:k=k'):EP X pins σ Q (.bool k') s:=by
 subst e
 exact ⟨.bl k,H,I,rfl,q⟩
theorem op_eq:OpR X (compareOp .Eq) rEq:=by
 intro pins s σ H x y v u Q I rx ry h
 obtain ⟨hs,q⟩:=h
 cases x with
 | non=>
  cases rx
  cases y with
  | non=>cases ry; exact PySem.EqNone.eq_none_none (fin_bl I q (by simp))
  | bl j=>cases ry; exact PySem.EqNone.eq_none_bool (fin_bl I q (by simp))
  | int j=>obtain ⟨t',rfl⟩:=ry; exact PySem.EqNone.eq_none_int (fin_bl I q (by simp))
  | str j=>obtain ⟨t',rfl⟩:=ry; exact PySem.EqNone.eq_none_str (fin_bl I q (by simp))
  | _=>exact absurd (show false=true from hs) Bool.false_ne_true
 | bl i=>
  cases rx
  cases y with
  | non=>cases ry; exact PySem.EqNone.eq_bool_none (fin_bl I q (by simp))
  | bl j=>cases ry; exact eq_bool (fin_bl I q dec_bl)
  | str j=>obtain ⟨t',rfl⟩:=ry; exact PySem.EqMixed.eq_bool_str (fin_bl I q (by simp))
  | _=>exact absurd (show false=true from hs) Bool.false_ne_true
 | int i=>
  obtain ⟨t,rfl⟩:=rx
  cases y with
  | non=>cases ry; exact PySem.EqNone.eq_int_none (fin_bl I q (by simp))
  | int j=>obtain ⟨t',rfl⟩:=ry; exact eq_int (fin_bl I q dec_int)
  | str j=>obtain ⟨t',rfl⟩:=ry; exact PySem.EqMixed.eq_int_str (fin_bl I q (by simp))
  | _=>exact absurd (show false=true from hs) Bool.false_ne_true
 | str i=>
  obtain ⟨t,rfl⟩:=rx
  cases y with
  | non=>cases ry; exact PySem.EqNone.eq_str_none (fin_bl I q (by simp))
  | bl j=>cases ry; exact PySem.EqMixed.eq_str_bool (fin_bl I q (by simp))
  | int j=>obtain ⟨t',rfl⟩:=ry; exact PySem.EqMixed.eq_str_int (fin_bl I q (by simp))
  | str j=>obtain ⟨t',rfl⟩:=ry; exact eq_str (fin_bl I q dec_str)
  | _=>exact absurd (show false=true from hs) Bool.false_ne_true
 | byt i=>
  obtain ⟨t,rfl⟩:=rx
  cases y with
  | byt j=>obtain ⟨t',rfl⟩:=ry; exact PySem.W.eq_bytes (fin_bl I q dec_byt)
  | _=>exact absurd (show false=true from hs) Bool.false_ne_true
 | _=>cases y <;> exact absurd (show false=true from hs) Bool.false_ne_true
theorem op_ne:OpR X (compareOp .NotEq) rNe:=by
 intro pins s σ H x y v u Q I rx ry h
 obtain ⟨hs,q⟩:=h
 cases x with
 | non=>
  cases rx
  cases y with
  | non=>cases ry; exact PySem.EqNone.ne_none_none (fin_bl I q (by simp))
  | bl j=>cases ry; exact PySem.EqNone.ne_none_bool (fin_bl I q (by simp))
  | int j=>obtain ⟨t',rfl⟩:=ry; exact PySem.EqNone.ne_none_int (fin_bl I q (by simp))
  | str j=>obtain ⟨t',rfl⟩:=ry; exact PySem.EqNone.ne_none_str (fin_bl I q (by simp))
  | _=>exact absurd (show false=true from hs) Bool.false_ne_true
 | bl i=>
  cases rx
  cases y with
  | non=>cases ry; exact PySem.EqNone.ne_bool_none (fin_bl I q (by simp))
  | bl j=>cases ry; exact ne_bool (fin_bl I q (congrArg not dec_bl))
  | str j=>obtain ⟨t',rfl⟩:=ry; exact PySem.EqMixed.ne_bool_str (fin_bl I q (by simp))
  | _=>exact absurd (show false=true from hs) Bool.false_ne_true
 | int i=>
  obtain ⟨t,rfl⟩:=rx
  cases y with
  | non=>cases ry; exact PySem.EqNone.ne_int_none (fin_bl I q (by simp))
  | int j=>obtain ⟨t',rfl⟩:=ry; exact ne_int (fin_bl I q (congrArg not dec_int))
  | str j=>obtain ⟨t',rfl⟩:=ry; exact PySem.EqMixed.ne_int_str (fin_bl I q (by simp))
  | _=>exact absurd (show false=true from hs) Bool.false_ne_true
 | str i=>
  obtain ⟨t,rfl⟩:=rx
  cases y with
  | non=>cases ry; exact PySem.EqNone.ne_str_none (fin_bl I q (by simp))
  | bl j=>cases ry; exact PySem.EqMixed.ne_str_bool (fin_bl I q (by simp))
  | int j=>obtain ⟨t',rfl⟩:=ry; exact PySem.EqMixed.ne_str_int (fin_bl I q (by simp))
  | str j=>obtain ⟨t',rfl⟩:=ry; exact ne_str (fin_bl I q (congrArg not dec_str))
  | _=>exact absurd (show false=true from hs) Bool.false_ne_true
 | byt i=>
  obtain ⟨t,rfl⟩:=rx
  cases y with
  | byt j=>obtain ⟨t',rfl⟩:=ry; exact PySem.W.ne_bytes (fin_bl I q (congrArg not dec_byt))
  | _=>exact absurd (show false=true from hs) Bool.false_ne_true
 | _=>cases y <;> exact absurd (show false=true from hs) Bool.false_ne_true
theorem op_lt:OpR X (compareOp .Lt) (rI0 fun i j=>.bl (decide (i < j))):=opB0 fun _ _ _ _ _ _ _ q=>lt_int q
theorem op_le:OpR X (compareOp .LtE) (rI0 fun i j=>.bl (decide (i≤j))):=opB0 fun _ _ _ _ _ _ _ q=>le_int q
theorem op_gt:OpR X (compareOp .Gt) (rI0 fun i j=>.bl (decide (j < i))):=opB0 fun _ _ _ _ _ _ _ q=>gt_int q
theorem op_ge:OpR X (compareOp .GtE) (rI0 fun i j=>.bl (decide (j≤i))):=opB0 fun _ _ _ _ _ _ _ q=>ge_int q
theorem op_in_str:OpR X (compareOp .In) (fun x y H Q=>∃ i j,x=.str i∧y=.str j∧Q (.bl (!(Builtin.Str.occurrences j i 0 j.length 1).isEmpty)) H):=by
 intro pins s σ H x y v u Q I rx ry h
 obtain ⟨i,j,rfl,rfl,q⟩:=h
 obtain ⟨t,rfl⟩:=rx
 obtain ⟨t',rfl⟩:=ry
 exact in_str (fin_bl I q rfl)
theorem op_isN:OpR X (compareOp .Is) (fun x y H Q=>y=.non∧Q (.bl (decide (x=.non))) H):=by
 intro pins s σ H x y v u Q I rx ry h
 obtain ⟨rfl,q⟩:=h
 cases ry
 refine is_none_gen (fin_bl I q ?_)
 cases x <;> first
  | (cases rx; rfl)
  | (obtain ⟨t,rfl⟩:=rx; rfl)
theorem OpR.or {f:Value→Value→Sem Value} {r r':R2} (h:OpR X f r) (h':OpR X f r'):OpR X f (fun x y H Q=>r x y H Q∨r' x y H Q):=by
 intro pins s σ H x y v u Q I rx ry q
 rcases q with q | q
 ·exact h pins s σ H x y v u Q I rx ry q
 ·exact h' pins s σ H x y v u Q I rx ry q
theorem nomark (b:Expr) {op:CmpOp} (h:op≠.In:=by decide) (h2:op≠.NotIn:=by decide):behindInMarks op b=false:=by
 have e1:(op == CmpOp.In)=false:=by cases op <;> first | rfl | exact absurd rfl h
 have e2:(op == CmpOp.NotIn)=false:=by cases op <;> first | rfl | exact absurd rfl h2
 cases b <;> simp [behindInMarks,e1,e2]
theorem pe_cmpR {op:CmpOp} {r:R2} (ho:OpR X (compareOp op) r) (ha:PE X a ta) (hb:PE X b tb) (hm:behindInMarks op b=false):PE X (.Compare a [op] [b] pos) (tOp r ta tb):=by
 intro pins s σ H Q I h
 exact wpAny_Compare1 (binT ha hb I h fun v u s2 x y H2 I2 rx ry q=>ho pins s2 σ H2 x y v u Q I2 rx ry q) hm
def tTest (t:TE):TT:=fun σ H Q=>t σ H fun x H'=>ExQ Q (fun k Q=>x=.bl k∧Q k H')
theorem pt_cmpR {op:CmpOp} {r:R2} (ho:OpR X (compareOp op) r) (ha:PE X a ta) (hb:PE X b tb) (hm:behindInMarks op b=false):PT X (.Compare a [op] [b] pos) (tTest (tOp r ta tb)):=by
 intro pins s σ H Q I h
 refine wpAny_isTrue_Compare1 (thn (ha pins s σ H _ I h) fun v s1 hpat=>?_) hm
 obtain ⟨x,H1,I1,r1,q1⟩:=hpat
 refine thn (hb pins s1 σ H1 _ I1 q1) fun u s2 hpat=>?_
 obtain ⟨y,H2,I2,r2,q2⟩:=hpat
 refine thn (ho pins s2 σ H2 x y v u _ I2 r1 r2 q2) fun c s3 hpat=>?_
 obtain ⟨z,H3,I3,r3,k,e,q3⟩:=hpat
 subst e
 cases r3
 exact wpAny_truthy_bool ⟨H3,I3,q3⟩
def tChain (r r':R2) (ta tb tc:TE):TE:=fun σ H Q=>ta σ H fun x H1=>tb σ H1 fun y H2=>r x y H2 fun z H3=>ExQ Q (fun k Q=>z=.bl k∧
 (if k=true then tc σ H3 fun w' H4=>r' y w' H4 Q else Q (.bl false) H3))
theorem pe_chain {op op':CmpOp} {r r':R2} (ho:OpR X (compareOp op) r) (ho':OpR X (compareOp op') r') (ha:PE X a ta) (hb:PE X b tb) (hc:PE X c tc)
  (hm:lastMarks [op,op'] [b,c]=false:=by with_unfolding_all rfl):PE X (.Compare a [op,op'] [b,c] pos) (tChain r r' ta tb tc):=by
 intro pins s σ H Q I h
 refine Compare_chain (thn (ha pins s σ H _ I h) fun v s1 hpat=>?_) hm
 obtain ⟨x,H1,I1,r1,q1⟩:=hpat
 refine chain_link (thn (hb pins s1 σ H1 _ I1 q1) fun u s2 hpat=>?_)
 obtain ⟨y,H2,I2,r2,q2⟩:=hpat
 refine thn (ho pins s2 σ H2 x y v u _ I2 r1 r2 q2) fun d s3 hpat=>?_
 obtain ⟨z,H3,I3,r3,k,e,q3⟩:=hpat
 subst e
 cases r3
 refine wpAny_truthy_bool ?_
 cases k with
 | false=>exact ite_ff ⟨.bl false,H3,I3,rfl,q3⟩
 | true=>exact ite_tt (chain_last (thn (hc pins s3 σ H3 _ I3 q3) fun w' s4 hp2=>by obtain ⟨z',H4,I4,r4,q4⟩:=hp2; exact ho' pins s4 σ H4 y z' u w' Q I4 r2 r4 q4))
theorem pt_chain {op op':CmpOp} {r r':R2} (ho:OpR X (compareOp op) r) (ho':OpR X (compareOp op') r') (ha:PE X a ta) (hb:PE X b tb) (hc:PE X c tc)
  (hm:lastMarks [op,op'] [b,c]=false:=by with_unfolding_all rfl):PT X (.Compare a [op,op'] [b,c] pos) (tTest (tChain r r' ta tb tc)):=by
 intro pins s σ H Q I h
 refine isTrue_chain (thn (ha pins s σ H _ I h) fun v s1 hpat=>?_) hm
 obtain ⟨x,H1,I1,r1,q1⟩:=hpat
 refine test_link (thn (hb pins s1 σ H1 _ I1 q1) fun u s2 hpat=>?_)
 obtain ⟨y,H2,I2,r2,q2⟩:=hpat
 refine thn (ho pins s2 σ H2 x y v u _ I2 r1 r2 q2) fun d s3 hpat=>?_
 obtain ⟨z,H3,I3,r3,k,e,q3⟩:=hpat
 subst e
 cases r3
 refine wpAny_truthy_bool ?_
 cases k with
 | false=>
  obtain ⟨k',e',q'⟩:=q3
  cases e'
  exact ite_ff ⟨H3,I3,q'⟩
 | true=>
  refine ite_tt (test_last (thn (hc pins s3 σ H3 _ I3 q3) fun w' s4 hpat=>?_))
  obtain ⟨z',H4,I4,r4,q4⟩:=hpat
  refine thn (ho' pins s4 σ H4 y z' u w' _ I4 r2 r4 q4) fun d' s5 hpat=>?_
  obtain ⟨z2,H5,I5,r5,k2,e2,q5⟩:=hpat
  subst e2
  cases r5
  exact wpAny_truthy_bool ⟨H5,I5,q5⟩
def TruV (K:PySem.W.Frag) (x:V) (H:Hp) (k:Bool):Prop:=
 match x with
 | .non=>k=false
 | .bl b=>k=b
 | .int i=>k=(i != 0)
 | .str y=>y.length≤sizeLine∧k=((y.length:Int) != 0)
 | .byt y=>y.size≤sizeLine∧k=((y.size:Int) != 0)
 | .ref p=>(∃ xs,SqL K H p xs∧k=!xs.isEmpty)∨(∃ xs,SqT K H p xs∧k=!xs.isEmpty)∨∃ kvs,H p=some (.dK kvs)∧k=!kvs.isEmpty
 | _=>False
theorem isEmpty_kv {κ:Type} {kvs:List (κ × V)} {vs:List (κ × Value)} (r:KV kvs vs):(!vs.isEmpty)=!kvs.isEmpty:=by
 cases r <;> rfl
theorem isEmpty_of {xs:List V} {its:List Value} (r:Vals xs its):(!its.toArray.isEmpty)=!xs.isEmpty:=by
 cases r <;> simp
theorem line63:(sizeLine:Nat) < 2 ^ 63:=by rw [sizeLine_eq]; decide
theorem tru_ok:TruR X (fun x H Q=>∃ k,TruV X.K x H k∧Q k H):=by
 intro pins s σ H x v Q I rx h
 obtain ⟨k,e,q⟩:=h
 have hl:=line63
 have hs:sizeLine=16777216:=sizeLine_eq
 cases x with
 | non=>
  cases rx
  have e':k=false:=e
  subst e'
  exact truthy_none ⟨H,I,q⟩
 | bl b=>
  cases rx
  have e':k=b:=e
  subst e'
  exact wpAny_truthy_bool ⟨H,I,q⟩
 | int i=>
  obtain ⟨t,rfl⟩:=rx
  have e':k=(i != 0):=e
  subst e'
  exact PySem.P.truthy_int ⟨H,I,q⟩
 | str y=>
  obtain ⟨t,rfl⟩:=rx
  obtain ⟨hy,e'⟩:y.length≤sizeLine∧k=((y.length:Int) != 0):=e
  subst e'
  exact PySem.P.truthy_str (by omega) ⟨H,I.tok _,q⟩
 | byt y=>
  obtain ⟨t,rfl⟩:=rx
  obtain ⟨hy,e'⟩:y.size≤sizeLine∧k=((y.size:Int) != 0):=e
  subst e'
  exact PySem.W.truthy_bytes (by omega) ⟨H,I.tok _,q⟩
 | ref p=>
  cases rx
  have e':(∃ xs,SqL X.K H p xs∧k=!xs.isEmpty)∨(∃ xs,SqT X.K H p xs∧k=!xs.isEmpty)∨∃ kvs,H p=some (.dK kvs)∧k=!kvs.isEmpty:=e
  rcases e' with ⟨xs,hx,e'⟩ | ⟨xs,hx,e'⟩ | ⟨kvs,hx,e'⟩
  ·subst e'
   obtain ⟨its,r,pl,hz⟩:=I.list hx
   have hlen:=r.length
   exact wpAny_truthy_list pl.isList (by simp only [List.size_toArray]; omega) ⟨H,I.tok _,by rw [isEmpty_of r]; exact q⟩
  ·subst e'
   obtain ⟨its,r,pl,hz⟩:=I.tuple hx
   have hlen:=r.length
   exact truthy_tuple pl (by simp only [List.size_toArray]; omega) ⟨H,I.tok _,by rw [isEmpty_of r]; exact q⟩
  ·subst e'
   obtain ⟨hz,hS,vs,r,m⟩:kvs.length≤sizeLine∧(p == sysModules)=false∧∃ vs,KV kvs vs∧s.heap.DictOf (mixKind X.prog X.w) p vs:=I.hok p _ hx
   have hlen:kvs.length=vs.length:=Paired.length r
   exact wpAny_truthy_dict hS m (by omega) ⟨H,I.tok _,by rw [isEmpty_kv r]; exact q⟩
 | _=>exact (show False from e).elim
theorem pt_truth (ha:PE X a ta) (he:∀ whole,isTrue a X.env whole=(do let v ← whole; standAt a.pos; holding [v] (truthy v))) :
  PT X a (fun σ H Q=>ta σ H fun x H'=>∃ k,TruV X.K x H' k∧Q k H'):=by
 intro pins s σ H Q I h
 exact isTrue_plain (thn (ha pins s σ H _ I h) fun v s1 hp2=>by obtain ⟨x,H1,I1,r1,q1⟩:=hp2; exact tru_ok pins s1 σ H1 x v Q I1 r1 q1) (he _)
theorem op_add_str:OpR X (binaryOp .Add) (fun x y H Q=>∃ i j,x=.str i∧y=.str j∧i.length + j.length≤sizeLine∧Q (.str (i++j)) H):=by
 intro pins s σ H x y v u Q I rx ry h
 obtain ⟨i,j,rfl,rfl,hz,q⟩:=h
 obtain ⟨t,rfl⟩:=rx
 obtain ⟨t',rfl⟩:=ry
 exact add_str (fun t' tk=>⟨.str (i++j),H,I.tok _,⟨_,rfl⟩,q⟩) hz
theorem vals1 {x:V} {us:List Value} (r:Vals [x] us):∃ u,us=[u]∧RelV x u:=by
 cases r with
 | cons r1 r2=>cases r2; exact ⟨_,rfl,r1⟩
theorem call_int1:CallR X (.type "int") (fun xs H Q=>(∃ i,xs=[.int i]∧Q (.int i) H)∨∃ k,xs=[.bl k]∧Q (.int (if k then 1 else 0)) H):=by
 intro pins s σ H xs us Q I r h
 rcases h with ⟨i,rfl,q⟩ | ⟨k,rfl,q⟩
 ·obtain ⟨u,rfl,t,rfl⟩:=vals1 r
  exact call_int_int ⟨.int i,H,I,⟨_,rfl⟩,q⟩
 ·obtain ⟨u,rfl,r1⟩:=vals1 r
  cases r1
  exact call_int_bool ⟨.int (if k then 1 else 0),H,I.tok _,⟨_,rfl⟩,q⟩
theorem call_str_int:CallR X (.type "str") (fun xs H Q=>∃ i,xs=[.int i]∧i.natAbs.log2 < 1920∧Q (.str (toString i)) H):=by
 intro pins s σ H xs us Q I r h
 obtain ⟨i,rfl,hz,q⟩:=h
 obtain ⟨u,rfl,t,rfl⟩:=vals1 r
 exact PySem.P.str_of_int hz ⟨.str _,H,I.tok _,⟨_,rfl⟩,q⟩
end
structure ObjM (h:Heap) (x dx C:Addr) (mA:Str→Option Value):Prop where
 obj:h.get? x=some (PySem.W.instObj C dx)
 ns:h.Ns1 dx mA
 ne:dx≠x
theorem lookIn_ns {h:Heap} {dx:Addr} {mA:Str→Option Value} (n:h.Ns1 dx mA):∃ od,h.get? dx=some od∧∀ name,PySem.W.lookIn name od=some (mA name):=by
 obtain ⟨o,es,ep,ho,hd,hk,_,hm⟩:=n
 refine ⟨o,ho,fun name=>?_⟩
 have e:=hm name
 unfold nsFind findBy at e
 rw [← Array.find?_toList] at e
 unfold PySem.W.lookIn
 rw [hd]
 dsimp only
 split
 ·rename_i y q
  rw [q] at e
  exact congrArg some e
 ·rename_i q
  rw [q] at e
  have a:es.toList.any (·.refKey)=false:=by
   rw [List.any_eq_false]
   intro y hy
   obtain ⟨z,t,hkey⟩:=hk y (Array.mem_toList_iff.mp hy)
   simp [DictEntry.refKey,hkey]
  have a':¬ es.toList.any (·.refKey)=true:=by rw [a]; exact Bool.false_ne_true
  rw [if_neg a']
  exact congrArg some e
theorem ObjM.look {h:Heap} {x dx C:Addr} {mA:Str→Option Value} (I:ObjM h x dx C mA):∃ od,PySem.W.InstAt h x (PySem.W.instObj C dx) C (some od)∧∀ name,PySem.W.lookIn name od=some (mA name):=
 let ⟨od,ho,hl⟩:=lookIn_ns I.ns
 ⟨od,⟨I.obj,rfl,rfl,ho⟩,hl⟩
section
variable {prog:Program} {w:World} {A:Around} {E:Value→Shared→Prop} {s:Shared} {K:PySem.W.Frag} {x dx C f:Addr} {mA:Str→Option Value} {name:Str} {v:Value}
end
theorem RelO.some_of {v:V} {o:Option Value} (r:RelO (some v) o):∃ u,o=some u∧RelV v u:=by
 cases o with
 | none=>exact (show False from r).elim
 | some u=>exact ⟨u,rfl,r⟩
theorem handed_of {v:V} {u:Value} (r:RelV v u):PySem.W.handedIn u=true:=by
 cases v with
 | non=>cases (show u=Value.none from r); rfl
 | bl b=>cases (show u=Value.bool b from r); rfl
 | int i=>obtain ⟨t,e⟩:=(show ∃ t,u=Value.int i t from r); cases e; rfl
 | str x=>obtain ⟨t,e⟩:=(show ∃ t,u=Value.str x t from r); cases e; rfl
 | byt b=>obtain ⟨t,e⟩:=(show ∃ t,u=Value.bytes b t from r); cases e; rfl
 | flt b=>obtain ⟨t,e⟩:=(show ∃ t,u=Value.float b t from r); cases e; rfl
 | ref a=>cases (show u=Value.ref a from r); rfl
 | ty n=>cases (show u=Value.type n from r); rfl
section
variable {P:Program} {w:World} {H H':Hp} {h h':Heap} {a C dx:Addr} {fs fs':List (Str × V)}
theorem ins_get (hok:HOk P w H h) (e:H a=some (.ins C dx fs)):∃ mA,ObjM h a dx C mA∧(∀ f,RelO (fs.lookup f) (mA f))∧PySem.Within mA (fs.map (·.1))∧fs.length≤1000∧H dx=some (.own a):=by
 obtain ⟨d,z,ne,ob,mA,n,r,q⟩:=(show ObjOk P w H h a (.ins C dx fs) from hok a _ e)
 exact ⟨mA,⟨ob,n,ne⟩,r,q,z,d⟩
end
structure Cls (K:PySem.W.Frag) (C:Addr):Prop where
 pg:PySem.W.plainGet K C Str.empty=true
 hd:PySem.W.hasDictIn K C=true
 po:PySem.W.plainOver K C=true
 sa:PySem.W.findIn K (.ref C) "__setattr__" = some (some (.builtin "object.__setattr__"))
theorem Cls.get {K:PySem.W.Frag} {C:Addr} (c:Cls K C) (f:Str):PySem.W.plainGet K C f=true:=c.pg
def NoAttr (K:PySem.W.Frag) (C:Addr) (f:Str):Prop:=PySem.W.findIn K (.ref C) f=some none
theorem NoAttr.taker {K:PySem.W.Frag} {C:Addr} {f:Str} (n:NoAttr K C f):PySem.W.takerIn K C f=some none:=by
 unfold PySem.W.takerIn
 rw [show PySem.W.findIn K (.ref C) f=some none from n]
 rfl
structure Con (K:PySem.W.Frag) (C:Addr) (f:Str) (v:V) (u:Value):Prop where
 at_:PySem.W.findIn K (.ref C) f=some (some u)
 rel:RelV v u
 get:PySem.W.specialIn K u "__get__" = some none
 cp:PySem.W.copiedNames.contains f=false
structure Meth (K:PySem.W.Frag) (C:Addr) (m:Str) (f:Addr):Prop where
 at_:PySem.W.findIn K (.ref C) m=some (some (.ref f))
 fn:PySem.W.isFn K (.ref f)=true
 kp:PySem.W.keepIn K (.ref f)=true
section
variable {X:Cx} {pins:List (Addr × Obj)} {σ:St} {H:Hp} {s:Shared} {a C dx:Addr} {fs:List (Str × V)} {f:Str} {v:V} {A:Around} {E:Value→Shared→Prop}
theorem Inv.made (I:Inv X pins σ H s):Inv X pins σ (upd (upd H s.heap.objs.size (.own (s.heap.objs.size + 1))) (s.heap.objs.size + 1) (.ins C s.heap.objs.size []))
  { s with heap:=(s.heap.push PySem.W.emptyDict).push (PySem.W.instObj C s.heap.objs.size) }:=by
 have e1:(s.heap.push PySem.W.emptyDict).get? s.heap.objs.size=some PySem.W.emptyDict:=Heap.get?_push_size s.heap rfl
 have e2:((s.heap.push PySem.W.emptyDict).push (PySem.W.instObj C s.heap.objs.size)).get? (s.heap.objs.size + 1)=some (PySem.W.instObj C s.heap.objs.size):=by
  have:=Heap.get?_push_size (s.heap.push PySem.W.emptyDict) (o:=PySem.W.instObj C s.heap.objs.size) rfl
  rwa [Heap.size_push] at this
 have e3:(s.heap.push PySem.W.emptyDict).Ns s.heap.objs.size (fun _=>none):=⟨PySem.W.emptyDict,#[],_,e1,rfl,(fun e he=>absurd he (by simp)),fun _=>rfl⟩
 have I1:=I.laid (a:=s.heap.objs.size) (o:=.own (s.heap.objs.size + 1)) (h':=s.heap.push PySem.W.emptyDict) (t':=s.toks) (fun b u q=>Heap.get?_push_of_some _ q) (Nat.le_refl _) ⟨_,e1⟩
 refine I1.laid (a:=s.heap.objs.size + 1) (o:=.ins C s.heap.objs.size []) (t':=s.toks) (fun b u q=>Heap.get?_push_of_some _ q) (Nat.le_of_eq (Heap.size_push _ _)) ?_
 have ne:s.heap.objs.size≠s.heap.objs.size + 1:=Nat.ne_of_lt (Nat.lt_succ_self _)
 refine ⟨by rw [upd_ne ne,upd_same],Nat.zero_le _,ne,e2,fun _=>none,(Heap.Ns1.of_empty e3).at fun o q=>Heap.get?_push_of_some _ q,fun _=>True.intro,fun y hy=>absurd rfl hy⟩
theorem attr_of {prog:Program} {w:World} {env:Env} {e:Expr} {f:Str} {pos:Pos} {s:Shared} {Q:Value→Shared→Prop} (hb:attributeBase e f env (eval e env)=eval e env)
  (h:wpAny (model prog w) A (eval e env) (fun o s₁=>wpAny (model prog w) A (getAttr o f true) Q E s₁) E s):wpAny (model prog w) A (eval (.Attribute e f pos) env) Q E s:=
 Attribute_any_ h (by rw [arm_eval_Attribute,hb])
end
section
variable {X:Cx} {o e value:Expr} {f:Str} {pos pos' tpos:Pos} {ta tv:TE}
end
section
variable {X:Cx} {pins:List (Addr × Obj)} {σ:St} {H:Hp} {s:Shared} {A:Around} {E:Value→Shared→Prop} {Q:Value→Shared→Prop} {c:Value} {b:Bool}
inductive TyOf (K:PySem.W.Frag) (H:Hp):V→Value→Prop where
 | non:TyOf K H .non (.type "NoneType")
 | bl (x:Bool):TyOf K H (.bl x) (.type "bool")
 | int (i:Int):TyOf K H (.int i) (.type "int")
 | str (x:Str):TyOf K H (.str x) (.type "str")
 | flt (x:UInt64):TyOf K H (.flt x) (.type "float")
 | lst {a:Addr} {xs:List V} (e:H a=some (.lst xs)):TyOf K H (.ref a) (.type "list")
 | frz {a:Addr} {o:Obj} {xs:List V} (e:H a=some (.frz o (.lst xs))):TyOf K H (.ref a) (.type "list")
 | tup {a:Addr} {xs:List V} (e:H a=some (.tup xs)):TyOf K H (.ref a) (.type "tuple")
 | dK {a:Addr} {kvs:List (Key × V)} (e:H a=some (.dK kvs)):TyOf K H (.ref a) (.type "dict")
 | dT {a:Addr} {kvs:List (List Key × V)} (e:H a=some (.dT kvs)):TyOf K H (.ref a) (.type "dict")
 | ins {a C dx:Addr} {fs:List (Str × V)} (e:H a=some (.ins C dx fs)) (cl:Cls K C) (ha:PySem.W.findIn K (.ref C) "__class__" = some (some (.builtin "object.__class__")))
   (hn:PySem.W.specialIn K (.builtin "object.__class__") "__get__" = some (some (.builtin "getset_descriptor.__get__"))) (htk:PySem.W.takesIn K (.builtin "object.__class__")=some true)
   (hm:PySem.W.mroIn K C (.type "object")=some true):TyOf K H (.ref a) (.ref C)
theorem isinst_ok {x:V} {u t:Value} (I:Inv X pins σ H s) (rx:RelV x u) (ty:TyOf X.K H x t) (e:PySem.W.kitOne X.K t c=some b) (h:∀ tk,Q (.bool b) { s with toks:=tk }) :
  wpAny (model X.prog X.w) A (call (.builtin "isinstance") [u,c]) Q E s:=by
 cases ty with
 | non=>cases (show u=Value.none from rx); exact PySem.W.kia_one PySem.W.kitx_none I.kIn True.intro e (fun z=>nomatch z) h
 | bl y=>cases (show u=Value.bool y from rx); exact PySem.W.kia_one PySem.W.kitx_bool I.kIn True.intro e (fun z=>nomatch z) h
 | int i=>obtain ⟨t,q⟩:=(show ∃ t,u=Value.int i t from rx); cases q; exact PySem.W.kia_one PySem.W.kitx_int I.kIn True.intro e (fun z=>nomatch z) h
 | str y=>obtain ⟨t,q⟩:=(show ∃ t,u=Value.str y t from rx); cases q; exact PySem.W.kia_one PySem.W.kitx_str I.kIn True.intro e (fun z=>nomatch z) h
 | flt y=>obtain ⟨t,q⟩:=(show ∃ t,u=Value.float y t from rx); cases q; exact PySem.W.kia_one PySem.W.kitx_float I.kIn True.intro e (fun z=>nomatch z) h
 | @lst a xs ea=>
  cases (show u=Value.ref a from rx)
  obtain ⟨_,_,n,_,h1⟩:=(show ObjOk X.prog X.w H s.heap a (.lst xs) from I.hok a _ ea)
  exact PySem.W.kia_one PySem.W.kitx_list I.kIn ⟨_,h1,rfl⟩ e (fun z=>nomatch z) h
 | @frz a ob xs ea=>
  cases (show u=Value.ref a from rx)
  obtain ⟨_,_,_,n,_,h1⟩:=(show ObjOk X.prog X.w H s.heap a (.frz ob (.lst xs)) from I.hok a _ ea)
  exact PySem.W.kia_one PySem.W.kitx_list I.kIn ⟨_,h1,rfl⟩ e (fun z=>nomatch z) h
 | @tup a xs ea=>
  cases (show u=Value.ref a from rx)
  obtain ⟨_,_,_,p⟩:=(show ObjOk X.prog X.w H s.heap a (.tup xs) from I.hok a _ ea)
  obtain ⟨o,h1,h2,_⟩:=p
  exact PySem.W.kia_one PySem.W.kitx_tuple I.kIn ⟨o,h1,h2⟩ e (fun z=>nomatch z) h
 | @dK a kvs ea=>
  cases (show u=Value.ref a from rx)
  obtain ⟨_,_,vs,_,p⟩:=(show ObjOk X.prog X.w H s.heap a (.dK kvs) from I.hok a _ ea)
  obtain ⟨o,es,ep,h1,h2,_⟩:=p
  exact PySem.W.kia_one PySem.W.kitx_dict I.kIn ⟨o,h1,h2.1⟩ e (fun z=>nomatch z) h
 | @dT a kvs ea=>
  cases (show u=Value.ref a from rx)
  obtain ⟨_,_,xs,_,o,es,ep,h1,h2,_⟩:=(show ObjOk X.prog X.w H s.heap a (.dT kvs) from I.hok a _ ea)
  exact PySem.W.kia_one PySem.W.kitx_dict I.kIn ⟨o,h1,h2.1⟩ e (fun z=>nomatch z) h
 | @ins a C dx fs ea cl ha hn htk hm=>
  cases (show u=Value.ref a from rx)
  obtain ⟨mA,O,_⟩:=ins_get I.hok ea
  obtain ⟨od,J,_⟩:=O.look
  exact PySem.W.kia_one (PySem.W.kitx_own (cl.get _) cl.hd ha hn htk hm) I.kIn J e (fun z=>nomatch z) h
end
structure Room (k:Nat) (A:Around):Prop where
 hd:A.handled=none
 dp:A.depth + 3 * k + 5 < recursionLimit
 un:A.units + 16 * k + 200 < cLine
theorem Room.mono {j k:Nat} {A:Around} (r:Room k A) (h:j≤k):Room j A:=⟨r.hd,by have:=r.dp; omega,by have:=r.un; omega⟩
theorem Room.deeper {k:Nat} {A:Around} (r:Room (k + 1) A) (env:Env):Room k (A.deeper env):=
 ⟨r.hd,by have:=r.dp; show A.depth + 1 + 3 * k + 5 < _; omega,by have:=r.un; show A.units + 3 + 16 * k + 200 < _; omega⟩
theorem Room.in1 {k:Nat} {A:Around} (r:Room (k + 1) A):Room k A.in1:=
 ⟨r.hd,by have:=r.dp; show A.depth + 3 * k + 5 < _; omega,by have:=r.un; show A.units + 1 + 16 * k + 200 < _; omega⟩
theorem make_depth {A:Around} {C:Addr} {us:List Value} {kw:List (Str × Value)}:(A.under (.builtin "type.__call__" ⟨.ref C::us,kw⟩)).depth=A.depth + 1:=by
 first | rfl | simp [Around.under,Code.weight,Code.isCreation,Code.isGuard,Code.isCaller,Code.frames,Code.isFrame,guardIds]
theorem make_units {A:Around} {C:Addr} {us:List Value} {kw:List (Str × Value)}:(A.under (.builtin "type.__call__" ⟨.ref C::us,kw⟩)).units=A.units + 1:=by
 first | rfl | simp [Around.under,Code.cUnits,Code.frames,Code.isFrame]
theorem Room.make {k:Nat} {A:Around} (r:Room (k + 1) A) (C:Addr) (us:List Value) (kw:List (Str × Value)):Room k (A.under (.builtin "type.__call__" ⟨.ref C::us,kw⟩)):=
 ⟨r.hd,by have:=r.dp; rw [make_depth]; omega,by have:=r.un; rw [make_units]; omega⟩
theorem Room.depth {k:Nat} {A:Around} (r:Room k A):A.depth < recursionLimit:=by have:=r.dp; omega
theorem Room.units {k:Nat} {A:Around} (r:Room k A):A.units + 64 < cLine:=by have:=r.un; omega
def tNil:TA:=fun _ H Q=>Q [] H
def tCons (ta:TE) (tr:TA):TA:=fun σ H Q=>ta σ H fun x H1=>tr σ H1 fun xs H2=>Q (x::xs) H2
section
variable {X:Cx} {e:Expr} {es:List Expr} {te:TE} {t:TA} {pos:Pos}
theorem pa_nil:PA X [] tNil:=fun _ _ _ _ H Q I h=>Calls.spliced_nil ⟨[],H,I,.nil,h⟩
theorem pa_cons (ha:PE X e te) (hr:PA X es t) (hs:starEach (e::es) X.env=(false,eval e X.env)::starEach es X.env:=by rfl):PA X (e::es) (tCons te t):=by
 intro pos pins s σ H Q I h
 rw [hs]
 show wpAny _ _ (spliced ((false,eval e X.env)::backTo pos (starEach es X.env))) _ _ s
 refine Calls.spliced_cons (thn (ha pins s σ H _ I h) fun u s1 hpat=>?_)
 obtain ⟨x,H1,I1,r1,q1⟩:=hpat
 exact thn (hr pos pins s1 σ H1 _ I1 q1) fun us s2 hp2=>by obtain ⟨xs,H2,I2,r2,q2⟩:=hp2; exact ⟨x::xs,H2,I2,.cons r1 r2,q2⟩
def tTup (t:TA):TE:=fun σ H Q=>t σ H fun xs H1=>xs.length≤sizeLine∧∀ p,H1 p=none→Q (.ref p) (upd H1 p (.tup xs))
def tLst (t:TA):TE:=fun σ H Q=>t σ H fun xs H1=>xs.length≤sizeLine∧∀ p,H1 p=none→Q (.ref p) (upd H1 p (.lst xs))
theorem pe_tup {x1} (h:PA X es t):PE X (.Tuple es x1 pos) (tTup t):=by
 intro pins s σ H Q I hq
 refine wpAny_Tuple_spliced (thn (h pos pins s σ H _ I hq) fun us s1 ⟨xs,H1,I1,r,z,q⟩=>⟨by rw [← r.length]; exact z,?_⟩)
 have hf:H1 s1.heap.objs.size=none:=I1.hok.fresh (Nat.le_refl _)
 refine ⟨.ref s1.heap.objs.size,upd H1 s1.heap.objs.size (.tup xs),I1.laid (t':=s1.toks) (fun b u e=>Heap.get?_push_of_some _ e) (Nat.le_refl _) ?_,rfl,q _ hf⟩
 exact ⟨z,us,r,⟨_,Heap.get?_push_size _ rfl,rfl,_,rfl⟩⟩
theorem pe_lst (h:PA X es t):PE X (.List es pos) (tLst t):=by
 intro pins s σ H Q I hq
 refine wpAny_List_spliced (thn (h pos pins s σ H _ I hq) fun us s1 ⟨xs,H1,I1,r,z,q⟩=>⟨by rw [← r.length]; exact z,?_⟩)
 have hf:H1 s1.heap.objs.size=none:=I1.hok.fresh (Nat.le_refl _)
 refine ⟨.ref s1.heap.objs.size,upd H1 s1.heap.objs.size (.lst xs),I1.laid (t':=s1.toks) (fun b u e=>Heap.get?_push_of_some _ e) (Nat.le_refl _) ?_,rfl,q _ hf⟩
 exact ⟨z,us,0,r,Heap.get?_push_size _ rfl⟩
end
abbrev Sp:=List V→Hp→VK→XK→Prop
abbrev CXT:=List Env→Hp→Shared→XK→Value→Shared→Prop
structure Env0 (P:Program) (w:World) (K:PySem.W.Frag) (mg:Str→Option Value) (base:Heap) (A:Around) (outer:List Env) (s:Shared) (H:Hp):Prop where
 frames:A.frames=some outer
 mod:Mod K mg base
 bs:∀ b o,base.get? b=some o→s.heap.get? b=some o∧H b=none
 bsz:base.objs.size≤s.heap.objs.size
 funs:s.heap.FunFrames base outer
 frf:∀ b∈frs outer,H b=none
 hok:HOk P w H s.heap
 bare:AllBare s.gens
def CE (outer:List Env) (P:Program) (w:World) (H:Hp) (s:Shared) (Q:VK) (u:Value) (s':Shared):Prop:=
 ∃ v H',s'.os=s.os∧AllBare s'.gens∧Un (frs outer) [] H H' s.heap s'.heap∧HOk P w H' s'.heap∧RelV v u∧Q v H'
def CR (CX:CXT) (outer:List Env) (P:Program) (w:World) (H:Hp) (s:Shared) (Q:VK) (E:XK) (r:Result) (s':Shared):Prop:=
 match r with
 | .ok (.ret u)=>CE outer P w H s Q u s'
 | .ok _=>False
 | .error e=>CX outer H s E e s'
structure FnOk (P:Program) (w:World) (K:PySem.W.Frag) (mg:Str→Option Value) (base:Heap) (CX:CXT) (k:Nat) (f:Addr) (fd:FuncData) (ps:List Str) (sp:Sp):Prop where
 len:∀ vs H Q E,sp vs H Q E→vs.length=ps.length
 run:∀ (A:Around) (outer:List Env) (s:Shared) (H:Hp) (args:Args) (us:List Value) (vs:List V) (Q:VK) (E:XK),Room k A→Env0 P w K mg base A outer s H→BindsTo s fd args (ps.zip us)→Vals vs us→sp vs H Q E→
  codeAny (model P w) A (.call (.ref f) args) (CR CX outer P w H s Q E) s
theorem FnOk.mono {P:Program} {w:World} {K:PySem.W.Frag} {mg:Str→Option Value} {base:Heap} {CX:CXT} {j k:Nat} {f:Addr} {fd:FuncData} {ps:List Str} {sp:Sp} (F:FnOk P w K mg base CX j f fd ps sp) (h:j≤k) :
  FnOk P w K mg base CX k f fd ps sp:=⟨F.len,fun A outer s H args us vs Q E hr=>F.run A outer s H args us vs Q E (hr.mono h)⟩
theorem Env0.make {P:Program} {w:World} {K:PySem.W.Frag} {mg:Str→Option Value} {base:Heap} {A:Around} {outer:List Env} {s:Shared} {H:Hp} (e:Env0 P w K mg base A outer s H) (C:Addr) (us:List Value) (kw:List (Str × Value)) :
  Env0 P w K mg base (A.under (.builtin "type.__call__" ⟨.ref C::us,kw⟩)) outer s H:=⟨by first | exact e.frames | (simpa [Around.under,Code.envs,Code.isFrame,pushEnvs] using e.frames),e.mod,e.bs,e.bsz,e.funs,e.frf,e.hok,e.bare⟩
theorem Env0.in1 {P:Program} {w:World} {K:PySem.W.Frag} {mg:Str→Option Value} {base:Heap} {A:Around} {outer:List Env} {s:Shared} {H:Hp} (e:Env0 P w K mg base A outer s H) :
  Env0 P w K mg base A.in1 outer s H:=⟨e.frames,e.mod,e.bs,e.bsz,e.funs,e.frf,e.hok,e.bare⟩
section
variable {X:Cx} {pins:List (Addr × Obj)} {σ:St} {H:Hp} {s s':Shared}
theorem Inv.env0 (I:Inv X pins σ H s):Env0 X.prog X.w X.K X.mg X.base X.A X.stack s H:=
 ⟨I.ok.frames,I.ok.mod,I.bs,Nat.le_trans I.ok.bsz I.sz,I.stack,I.stkFree,I.hok,I.bare⟩
theorem Inv.after {Q:VK} {u:Value} (I:Inv X pins σ H s) (h:CE X.stack X.prog X.w H s Q u s'):EP X pins σ Q u s':=by
 obtain ⟨v,H',os,bare,un,hok,r,q⟩:=h
 obtain ⟨hh,g,d,t,os'⟩:=s'
 obtain rfl:os'=s.os:=os
 exact ⟨v,H',I.call (h':=hh) (g':=g) (d':=d) (t':=t) (ch:=[]) un hok bare (fun b z=>absurd z (by simp)),r,q⟩
end
def tCall (sp:Sp) (dvs:List V) (E:XK) (t:TA):TE:=fun σ H Q=>t σ H fun vs H1=>sp (vs++dvs) H1 Q E
def Binds (K:PySem.W.Frag) (fd:FuncData) (ps:List Str) (ds:List Value):Prop:=
 ∀ (s:Shared) (us:List Value),K.In s.heap→(us++ds).length=ps.length→BindsTo s fd ⟨us,[]⟩ (ps.zip (us++ds))
theorem Binds.all {K:PySem.W.Frag} {fd:FuncData} {ps:List Str} (h:∀ us:List Value,us.length=ps.length→bindArgs fd ⟨us,[]⟩=pure (ps.zip us)):Binds K fd ps []:=fun s us _ hl=>by
 rw [List.append_nil] at hl ⊢
 exact .of_eq (h us hl)
def Passes (CX:CXT) (X:Cx) (E:XK):Prop:=∀ (pins:List (Addr × Obj)) (σ:St) (H:Hp) (s:Shared) (e:Value) (s':Shared),Inv X pins σ H s→CX X.stack H s E e s'→X.xe e s'
section
variable {X:Cx} {CX:CXT} {k:Nat} {f C:Addr} {fd:FuncData} {ps:List Str} {sp:Sp} {dvs:List V} {ds:List Value} {E:XK} {x m:Str} {p pos apos:Pos} {e o:Expr} {es:List Expr} {ta:TE} {t:TA}
theorem run_fn {pins:List (Addr × Obj)} {σ:St} {H:Hp} {s:Shared} {Q:VK} {us:List Value} {vs:List V} (F:FnOk X.prog X.w X.K X.mg X.base CX k f fd ps sp) (hr:Room k X.A) (hb:Binds X.K fd ps ds) (hd:Vals dvs ds) (hx:Passes CX X E)
  (I:Inv X pins σ H s) (r:Vals vs us) (h:sp (vs++dvs) H Q E):wpAny (model X.prog X.w) X.A (call (.ref f) us) (EP X pins σ Q) X.xe s:=by
 have r2:Vals (vs++dvs) (us++ds):=r.append hd
 have hl:(us++ds).length=ps.length:=by rw [← r2.length]; exact F.len _ _ _ _ h
 refine wpAny_call (codeAny_mono (F.run X.A X.stack s H ⟨us,[]⟩ (us++ds) (vs++dvs) Q E hr I.env0 (hb s us I.kIn hl) r2 h) fun r s' hq=>?_)
 cases r with
 | error e=>exact hx pins σ H s e s' I hq
 | ok fl=>
  cases fl with
  | ret u=>exact I.after hq
  | next=>exact False.elim hq
  | brk=>exact False.elim hq
  | cont=>exact False.elim hq
theorem pe_call (F:FnOk X.prog X.w X.K X.mg X.base CX k f fd ps sp) (hr:Room k X.A) (hg:Gl X x) (hm:X.mg x=some (.ref f)) (hk:PySem.W.keepIn X.K (.ref f)=true) (hb:Binds X.K fd ps ds) (hd:Vals dvs ds) (hx:Passes CX X E)
  (ha:PA X (e::es) t) (hdb:(x == ("__debug__":Str))=false:=by decide) (he:starEach (e::es) X.env=(false,eval e X.env)::starEach es X.env:=by rfl) (hpl:(backTo pos (starEach es X.env)).any (·.1)=false:=by rfl) :
  PE X (.Call (.Name x p) (e::es) [] pos) (tCall sp dvs E t):=by
 intro pins s σ H Q I h
 refine wpAny_Call_Name_kw (ld_glob I hg hm ?_ hdb)
 refine PySem.W.callWith_K (h₀:=X.base) I.ok.mod.kin hk (thn (ha pos pins s σ H _ I h) fun us s1 hpat=>?_) he hpl
 obtain ⟨vs,H1,I1,r,q⟩:=hpat
 refine ⟨I1.kIn,?_⟩
 exact run_fn F hr hb hd hx I1 r q
structure Mk (K:PySem.W.Frag) (C f:Addr):Prop where
 makes:PySem.W.makesIn K C=true
 init:PySem.W.findIn K (.ref C) "__init__" = some (some (.ref f))
 fn:PySem.W.isFn K (.ref f)=true
 kp:PySem.W.keepIn K (.ref C)=true
end
section
variable {X:Cx} {CX:CXT} {k:Nat} {f C:Addr} {fd:FuncData} {ps ks:List Str} {sp:Sp} {E:XK} {x m:Str} {p pos apos kpos:Pos} {e o:Expr} {es:List Expr} {kws:List Keyword} {te ta:TE} {t tk:TA} {nm:Option Str}
structure KBinds (K:PySem.W.Frag) (fd:FuncData) (ps ks:List Str) (g:List Value→List Value→List Value) (gV:List V→List V→List V):Prop where
 to:∀ (s:Shared) (us ws:List Value),K.In s.heap→(g us ws).length=ps.length→BindsTo s fd ⟨us,ks.zip ws⟩ (ps.zip (g us ws))
 rel:∀ {vs:List V} {us:List Value} {zs:List V} {ws:List Value},Vals vs us→Vals zs ws→Vals (gV vs zs) (g us ws)
variable {g:List Value→List Value→List Value} {gV:List V→List V→List V}
end
structure FnScope (N P:List Str) (sc:Scope):Prop where
 kind:sc.kind=.function
 co:sc.isCoroutine=false
 gen:sc.isGenerator=false
 nd:N.Nodup
 pre:N.take P.length=P
 par:∀ x∈P,sc.names.lookup x=some .local∨sc.names.lookup x=some .cell
 nofree:∀ y∈sc.names,y.2≠.free
theorem bindL_out {kindOf:Str→Option NameKind} {x:Str}:∀ {binds:List (Str × Value)} {m:Str→Option Value},(∀ v,(x,v)∉binds)→bindL kindOf binds m x=m x
 | [],_,_=>rfl
 | (n,v)::r,m,h=>by
  unfold bindL
  rw [bindL_out fun w hw=>h w (List.mem_cons_of_mem _ hw)]
  split
  ·have:x≠n:=by rintro rfl; exact h v List.mem_cons_self
   simp [this]
  ·rfl
theorem bindC_out {kindOf:Str→Option NameKind} {x:Str}:∀ {binds:List (Str × Value)} {m:Str→Option Value},(∀ v,(x,v)∉binds)→bindC kindOf binds m x=m x
 | [],_,_=>rfl
 | (n,v)::r,m,h=>by
  unfold bindC
  rw [bindC_out fun w hw=>h w (List.mem_cons_of_mem _ hw)]
  split
  ·rfl
  ·have:x≠n:=by rintro rfl; exact h v List.mem_cons_self
   simp [this]
theorem bindL_get {kindOf:Str→Option NameKind} {x:Str} {v:Value}:∀ {P:List Str} {vs:List Value} {i:Nat} {m:Str→Option Value},P.Nodup→P[i]?=some x→vs[i]?=some v→kindOf x=some .local→
  bindL kindOf (P.zip vs) m x=some v
 | [],_,_,_,_,h,_,_=>by simp at h
 | _::_,[],_,_,_,_,h,_=>by simp at h
 | p::P,w::vs,0,m,nd,h1,h2,hk=>by
  simp at h1 h2; subst h1; subst h2
  show bindL kindOf ((p,w)::P.zip vs) m p=_
  unfold bindL
  rw [bindL_out fun v hv=>(List.nodup_cons.mp nd).1 (List.of_mem_zip hv).1,if_pos hk]
  simp
 | p::P,w::vs,i + 1,m,nd,h1,h2,hk=>by
  show bindL kindOf ((p,w)::P.zip vs) m x=_
  unfold bindL
  exact bindL_get (i:=i) (List.nodup_cons.mp nd).2 (by simpa using h1) (by simpa using h2) hk
theorem bindC_get {kindOf:Str→Option NameKind} {x:Str} {v:Value}:∀ {P:List Str} {vs:List Value} {i:Nat} {m:Str→Option Value},P.Nodup→P[i]?=some x→vs[i]?=some v→kindOf x≠some .local→
  bindC kindOf (P.zip vs) m x=some v
 | [],_,_,_,_,h,_,_=>by simp at h
 | _::_,[],_,_,_,_,h,_=>by simp at h
 | p::P,w::vs,0,m,nd,h1,h2,hk=>by
  simp at h1 h2; subst h1; subst h2
  show bindC kindOf ((p,w)::P.zip vs) m p=_
  unfold bindC
  rw [bindC_out fun v hv=>(List.nodup_cons.mp nd).1 (List.of_mem_zip hv).1,if_neg hk]
  simp
 | p::P,w::vs,i + 1,m,nd,h1,h2,hk=>by
  show bindC kindOf ((p,w)::P.zip vs) m x=_
  unfold bindC
  exact bindC_get (i:=i) (List.nodup_cons.mp nd).2 (by simpa using h1) (by simpa using h2) hk
def start (N:List Str) (vs:List V):St:=vs.map some++List.replicate (N.length - vs.length) none
def cxOf (CX:CXT) (P:Program) (w:World) (K:PySem.W.Frag) (mg:Str→Option Value) (base:Heap) (N:List Str) (qual:Str) (scope:Scope) (f:Addr) (cd:Value) (A:Around) (outer:List Env) (s:Shared) (H:Hp) (E:XK):Cx where
 prog:=P
 w:=w
 K:=K
 mg:=mg
 base:=base
 A:=A.deeper (envOfC qual scope s.heap.objs.size f cd)
 N:=N
 s₀:=s
 H₀:=H
 env:=envOfC qual scope s.heap.objs.size f cd
 outer:=outer
 stack:=envOfC qual scope s.heap.objs.size f cd::outer
 ex:=[]
 calm:=true
 fn:=fun _=>true
 pn:=[]
 xe:=fun e s'=>wpAny (model P w) (A.deeper (envOfC qual scope s.heap.objs.size f cd)) (leaving (envOfC qual scope s.heap.objs.size f cd) e) (fun _ s''=>CX outer H s E e s'') (fun e' s''=>CX outer H s E e' s'') s'
theorem cell_has {sc:Scope} {n:Nat} {x:Str} (h:sc.names.lookup x=some .cell):∃ c,(cellsFrom n sc.names []).lookup x=some c:=by
 have q:=PySem.W.cellsFrom_some sc.names n [] (.inl h)
 exact Option.isSome_iff_exists.mp q
theorem inv_start {CX:CXT} {P:Program} {w:World} {K:PySem.W.Frag} {mg:Str→Option Value} {base:Heap} {N ps:List Str} {qual:Str} {scope:Scope} {f:Addr} {cd:Value} {A:Around} {outer:List Env} {s s1:Shared} {H:Hp} {E:XK} {us:List Value} {vs:List V}
  (S:FnScope N ps scope) (hd:A.handled=none) (e0:Env0 P w K mg base A outer s H) (hl:vs.length=ps.length) (r:Vals vs us)
  (x:InCallC s s.heap.objs.size (bindL (envOfC qual scope s.heap.objs.size f cd).kindOf (ps.zip us) fun _=>none) (cellsFrom (s.heap.objs.size + 1) scope.names []) (bindC (envOfC qual scope s.heap.objs.size f cd).kindOf (ps.zip us) fun _=>none) s1) :
  Inv (cxOf CX P w K mg base N qual scope f cd A outer s H E) [] (start N vs) H s1:=by
 have hpl:ps.length≤N.length:=by have:=congrArg List.length S.pre; rw [List.length_take] at this; omega
 obtain ⟨h1,tk,rfl,hk⟩:=x.done
 have noA:∀ b:Addr,b∉(cxOf CX P w K mg base N qual scope f cd A outer s H E).ex:=fun b z=>absurd (show b∈([]:List Addr) from z) (by simp)
 refine ⟨⟨e0.mod,S.kind,rfl,rfl,Nat.le_refl _,fun y z c h1 h2=>?_,fun y hy=>?_,fun y c _ h=>?_,fun _=>hd,Around.frames_deeper e0.frames,.inr ⟨rfl,rfl⟩,fun b z=>absurd z (noA b),e0.bs,e0.bsz,fun b _ _=>noA b,fun b z=>absurd z (noA b),e0.funs,e0.frf⟩,
  rfl,e0.bare,Un.kept hk,⟨_,x.toInCall.ns,fun i y v h1 h2 h3=>?_⟩,fun y c h=>⟨_,x.cell y c h⟩,e0.hok.fresh (Nat.le_refl _),fun y c h=>?_,fun p hp=>absurd (show p∈([]:List (Addr × Obj)) from hp) (by simp),e0.hok.kept hk,?_⟩
 ·exact name_of_addr x.apart (PySem.mem_of_lookup h1) (PySem.mem_of_lookup h2)
 ·have hy:scope.names.lookup y=some .cell∨scope.names.lookup y=some .free:=hy
  rcases hy with hy | hy
  ·exact cell_has hy
  ·exact absurd rfl (S.nofree _ (PySem.mem_of_lookup hy))
 ·exact Nat.le_of_lt (x.above y c (PySem.mem_of_lookup h))
 ·have hi:i < vs.length:=by
   unfold start at h2
   by_cases hi:i < vs.length
   ·exact hi
   ·rw [List.getElem?_append_right (by simpa using hi)] at h2
    rw [List.getElem?_replicate] at h2
    split at h2 <;> cases h2
  have ha:vs[i]?=some v:=by
   unfold start at h2
   rw [List.getElem?_append_left (by simpa using hi),List.getElem?_map] at h2
   cases e:vs[i]? with
   | none=>rw [e] at h2; cases h2
   | some a=>rw [e] at h2; cases h2; rfl
  obtain ⟨u,hu,rv⟩:=r.get ha
  have hp:ps[i]?=some y:=by
   rw [← S.pre,List.getElem?_take_of_lt (by omega)]; exact h1
  have ndP:ps.Nodup:=by rw [← S.pre]; exact S.nd.sublist (List.take_sublist _ _)
  refine ⟨u,rv,?_⟩
  rcases S.par y (List.mem_of_getElem? hp) with k | k
  ·exact .inl ⟨k,bindL_get ndP hp hu k⟩
  ·obtain ⟨c,e⟩:=cell_has (n:=s.heap.objs.size + 1) k
   refine .inr ⟨.inl k,c,e,?_⟩
   have q:=x.cell y c e
   rw [bindC_get ndP hp hu (by show scope.names.lookup y≠_; rw [k]; decide)] at q
   exact q
 ·exact e0.hok.fresh (Nat.le_of_lt (x.above y c (PySem.mem_of_lookup h)))
 ·unfold start
  show _=N.length
  rw [List.length_append,List.length_map,List.length_replicate]
  omega
theorem fn_of {CX:CXT} {P:Program} {w:World} {K:PySem.W.Frag} {mg:Str→Option Value} {base:Heap} {k:Nat} {f:Addr} {name qual:Str} {params:Arguments} {body:List Stmt} {scope:Scope} {dV kV doc pm cdv ct oc:Value} {an od:Option Addr}
  {osl:Array (Option Value)} {N ps:List Str} {sp:Sp} (lk:K.lookup f=some ⟨oc,od,.func (PySem.W.fnOf name qual params body scope dV kV doc pm an cdv ct),osl⟩) (hcd:PySem.W.codeIn K cdv qual=true) (S:FnScope N ps scope)
  (len:∀ vs H Q E,sp vs H Q E→vs.length=ps.length)
  (hbody:∀ (A:Around) (outer:List Env) (s:Shared) (H:Hp) (vs:List V) (Q:VK) (E:XK),Room k (A.deeper (envOfC qual scope s.heap.objs.size f cdv))→sp vs H Q E→
   ∃ t,PSs (cxOf CX P w K mg base N qual scope f cdv A outer s H E) body t∧t { nx:=fun _ H'=>Q .non H',rt:=Q } (start N vs) H) :
  FnOk P w K mg base CX (k + 1) f (PySem.W.fnOf name qual params body scope dV kV doc pm an cdv ct) ps sp:=by
 refine ⟨len,fun A outer s H args us vs Q E hr e0 hb r hsp=>?_⟩
 have hl:=len _ _ _ _ hsp
 have KX:K.In s.heap:=e0.mod.kin.keeps fun b o e=>(e0.bs b o e).1
 have lim:s.heap.NoLimit:=e0.mod.nolimit.keeps fun b o e=>(e0.bs b o e).1
 have hkind:∀ y∈ps.zip us,scope.names.lookup y.1=some .local∨(scope.names.lookup y.1=some .cell∧((cellsFrom (s.heap.objs.size + 1) scope.names []).lookup y.1).isSome=true):=fun ⟨n,v⟩ hy=>by
  rcases S.par n (List.of_mem_zip hy).1 with q | q
  ·exact .inl q
  ·exact .inr ⟨q,PySem.W.cellsFrom_some _ _ _ (.inl q)⟩
 refine codeAny_call_function hr.depth (KX _ _ lk) rfl S.co S.gen rfl (PySem.W.codeRec_of KX hcd) (hb _ _ _ _ ?_)
 refine wpAny_newFunctionEnv_cells S.kind hkind fun env he s1 x=>?_
 subst he
 refine ⟨lim.keeps x.toInCall.keep,codeAny_func ?_⟩
 obtain ⟨t,ht,hq⟩:=hbody A outer s H vs Q E (hr.deeper _) hsp
 have I:Inv (cxOf CX P w K mg base N qual scope f cdv A outer s H E) [] (start N vs) H s1:=inv_start S hr.hd e0 hl r x
 refine wpAny_mono (ht [] s1 (start N vs) H _ I hq) (fun fl s' hs=>?_) fun e s' hs=>hs
 have fin:∀ {σ':St} {H':Hp} {v:V} {u:Value},Inv (cxOf CX P w K mg base N qual scope f cdv A outer s H E) [] σ' H' s'→RelV v u→Q v H'→CE outer P w H s Q u s':=
  fun {σ' H' v u} J rv q=>⟨v,H',J.os,J.bare,J.base,J.hok,rv,q⟩
 cases fl with
 | ret u=>
  obtain ⟨v,σ',H',J,rv,q⟩:=hs
  exact fin J rv q
 | next=>
  obtain ⟨σ',H',J,q⟩:=hs
  exact fin (v:=V.non) (u:=Value.none) J rfl q
 | brk=>
  obtain ⟨_,_,_,q⟩:=hs
  exact False.elim q
 | cont=>
  obtain ⟨_,_,_,q⟩:=hs
  exact False.elim q
section
variable {X:Cx} {x:Str} {p pos:Pos} {e:Expr} {es:List Expr} {t:TA} {id T:String} {r:List V→Hp→VK→Prop}
def tCB (r:List V→Hp→VK→Prop) (t:TA):TE:=fun σ H Q=>t σ H fun vs H1=>r vs H1 Q
theorem pe_callB (hc:CallR X (.builtin id) r) (hg:Gl X x) (hm:X.mg x=none) (hv:bootBuiltins x=some (.builtin id)) (ha:PA X (e::es) t) (hn:x≠"__name__":=by decide) (hdb:(x == ("__debug__":Str))=false:=by decide)
  (he:starEach (e::es) X.env=(false,eval e X.env)::starEach es X.env:=by rfl) (hpl:(backTo pos (starEach es X.env)).any (·.1)=false:=by rfl):PE X (.Call (.Name x p) (e::es) [] pos) (tCB r t):=by
 intro pins s σ H Q I h
 refine wpAny_Call_Name_kw (ld_blt I hg hm hv ?_ hn hdb)
 exact PyProof.Rows.callWith_builtin1 (thn (ha pos pins s σ H _ I h) fun us s1 hp2=>by obtain ⟨vs,H1,I1,r1,q1⟩:=hp2; exact hc pins s1 σ H1 vs us Q I1 r1 q1) he hpl
theorem pe_callTy (hc:CallR X (.type T) r) (hg:Gl X x) (hm:X.mg x=none) (hv:bootBuiltins x=some (.type T)) (ha:PA X (e::es) t) (hn:x≠"__name__":=by decide) (hdb:(x == ("__debug__":Str))=false:=by decide)
  (he:starEach (e::es) X.env=(false,eval e X.env)::starEach es X.env:=by rfl) (hpl:(backTo pos (starEach es X.env)).any (·.1)=false:=by rfl):PE X (.Call (.Name x p) (e::es) [] pos) (tCB r t):=by
 intro pins s σ H Q I h
 refine wpAny_Call_Name_kw (ld_blt I hg hm hv ?_ hn hdb)
 exact PyProof.Rows.callWith_type1 (thn (ha pos pins s σ H _ I h) fun us s1 hp2=>by obtain ⟨vs,H1,I1,r1,q1⟩:=hp2; exact hc pins s1 σ H1 vs us Q I1 r1 q1) he hpl
end
end L2
namespace HT
open PySem PyProof.Rows
section
open PySem.SeqAt
open PySem.AutoSeq1 (wpAny_loadPart')
open PySem.MeetsSeq PySem.MeetsSeq2 PySem.MeetsSeq3
end
section
variable {prog:Program} {w:World} {A:Around} {E:Value→Shared→Prop} {s:Shared}
def sIx (n d:Nat):Option Int→Nat
 | none=>d
 | some v=>if v < 0 then (v + (n:Int)).toNat else min v.toNat n
theorem sIx_none (n d:Nat):sIx n d none=d:=rfl
theorem sIx_nat (n d k:Nat):sIx n d (some (k:Int))=min k n:=by
 show (if (k:Int) < 0 then ((k:Int) + (n:Int)).toNat else min (k:Int).toNat n)=min k n
 rw [if_neg (by omega),Int.toNat_natCast]
theorem sIx_le (n d:Nat) (hd:d≤n) (o:Option Int):sIx n d o≤n:=by
 cases o with
 | none=>exact hd
 | some v=>
  show (if v < 0 then (v + (n:Int)).toNat else min v.toNat n)≤n
  by_cases hv:v < 0
  ·rw [if_pos hv]; omega
  ·rw [if_neg hv]; exact Nat.min_le_right _ _
theorem clip_eq (v:Int) (n d:Nat):(if v < 0 then max (v + (n:Int)) 0 else min v (n:Int))=((sIx n d (some v):Nat):Int):=by
 show (if v < 0 then max (v + (n:Int)) 0 else min v (n:Int))=(((if v < 0 then (v + (n:Int)).toNat else min v.toNat n):Nat):Int)
 by_cases hv:v < 0
 ·simp only [if_pos hv]; omega
 ·simp only [if_neg hv]; omega
theorem adjust_gen (lo hi:Option Int) (n:Nat):Builtin.Slice.sliceAdjust lo hi 1 (n:Int)=(((sIx n 0 lo:Nat):Int),((sIx n n hi:Nat):Int)):=by
 have h1:¬ ((1:Int) < 0):=by omega
 unfold Builtin.Slice.sliceAdjust
 simp only [h1,if_false]
 refine Prod.ext ?_ ?_
 ·cases lo with
  | none=>rfl
  | some v=>exact clip_eq v n 0
 ·cases hi with
  | none=>rfl
  | some v=>exact clip_eq v n n
theorem places_gen (i j:Nat):Builtin.Slice.slicePlaces (i:Int) (j:Int) 1=j - i:=by
 unfold Builtin.Slice.slicePlaces
 have h1:(1:Int) > 0:=by omega
 simp only [h1,if_true,Int.ediv_one]
 split <;> omega
theorem slicePart_ {v:Value} {o:Option Int} {Q:Option Int→Shared→Prop} (p:IsPart v o) (h:Q o s):wpAny (model prog w) A (Builtin.Slice.slicePartIndex v) Q E s:=by
 cases p with
 | none=>exact slicePart_none h
 | int i t=>exact slicePart_int h
theorem sliceApplied_gen {sl:Addr} {vl vu:Value} {lo hi:Option Int} {n:Nat} {Q:Int × Int × Nat→Shared→Prop} (hs:s.heap.IsSliceOf sl vl vu .none) (pl:IsPart vl lo) (pu:IsPart vu hi)
  (h:Q (((sIx n 0 lo:Nat):Int),1,sIx n n hi - sIx n 0 lo) s):wpAny (model prog w) A (Builtin.Slice.sliceApplied (.ref sl) (pure (n:Int))) Q E s:=by
 obtain ⟨os,hos,hcs,hds⟩:=id hs
 unfold Builtin.Slice.sliceApplied Builtin.Slice.sliceFields
 refine wpAny_bind (wpAny_bind (wpAny_field hos hds (x:=vl) rfl (wpAny_bind (wpAny_field hos hds (x:=vu) rfl (wpAny_bind (wpAny_field hos hds (x:=.none) rfl (wpAny_pure ?_)))))))
 refine wpAny_bind (slicePart_none ?_)
 show wpAny _ _ (if ((1:Int) == 0)=true then _ else _) _ _ s
 rw [if_neg (by decide)]
 refine wpAny_bind (slicePart_ pl (wpAny_bind (slicePart_ pu (wpAny_bind (wpAny_pure ?_)))))
 show wpAny _ _ (match Builtin.Slice.sliceAdjust lo hi 1 (n:Int) with | (lo,hi)=>pure (lo,(1:Int),Builtin.Slice.slicePlaces lo hi 1)) _ _ s
 rw [adjust_gen lo hi n]
 show wpAny _ _ (pure (((sIx n 0 lo:Nat):Int),(1:Int),Builtin.Slice.slicePlaces ((sIx n 0 lo:Nat):Int) ((sIx n n hi:Nat):Int) 1)) _ _ s
 rw [places_gen]
 exact wpAny_pure h
theorem pick_gen (xs:Array Value) (i k:Nat):((List.range k).filterMap fun (m:Nat)=>xs[((i:Int) + (m:Int) * 1).toNat]?).toArray=((xs.toList.drop i).take k).toArray:=by
 have e:(fun (m:Nat)=>xs[((i:Int) + (m:Int) * 1).toNat]?)=fun m=>xs[i + m]?:=by
  funext m
  have:((i:Int) + (m:Int) * 1).toNat=i + m:=by omega
  rw [this]
 rw [e]
 have:=pick_run xs i k
 rw [List.filterMap_map] at this
 have e2:((fun x=>xs[x]?) ∘ fun x=>i + x)=fun m=>xs[i + m]?:=rfl
 rw [e2] at this
 rw [this]
theorem getItem_tuple_cut {t sl:Addr} {items:Array Value} {vl vu:Value} {lo hi:Option Int} {Q:Value→Shared→Prop} (ht:IsTup s.heap t items) (hs:s.heap.IsSliceOf sl vl vu .none) (pl:IsPart vl lo) (pu:IsPart vu hi)
  (hw:¬ (sIx items.size 0 lo=0∧sIx items.size items.size hi=items.size))
  (h:Q (.ref s.heap.objs.size) { s with heap:=s.heap.push { cls:=.type "tuple",data:=.seq ((items.toList.drop (sIx items.size 0 lo)).take (sIx items.size items.size hi - sIx items.size 0 lo)).toArray } })
  (hsz:items.size≤sizeLine):wpAny (model prog w) A (getItem (.ref t) (.ref sl)) Q E s:=by
 have htake:sizeOk (.seq ((items.toList.drop (sIx items.size 0 lo)).take (sIx items.size items.size hi - sIx items.size 0 lo)).toArray):=by
  show ((items.toList.drop (sIx items.size 0 lo)).take (sIx items.size items.size hi - sIx items.size 0 lo)).toArray.size≤sizeLine
  rw [List.size_toArray,List.length_take,List.length_drop,Array.length_toList]
  omega
 have hj:sIx items.size items.size hi≤items.size:=sIx_le _ _ (Nat.le_refl _) hi
 obtain ⟨os,hos,hcs,hds⟩:=id hs
 have hTs:s.TypeIs (.ref sl) "slice":=⟨os,hos,hcs⟩
 unfold getItem
 try with_reducible refine wpAny_holding ?_
 first | refine wpAny_bind (wpAny_pure ?_) | skip
 refine wpAny_bind (wpAny_sequenceKey ht.typeIs (by decide) ?_)
 refine wpAny_bind (wpAny_callSpecial?_slot (name:=Str.ofString "__getitem__") ht.typeIs PyProof.Rows.slot_tuple_getitem
  (wpAny_call_entry PyProof.Rows.slot_tuple_getitem ht.typeIs entry_tuple_getitem ?_ (args_tuple_getitem _ _)))
 show wpAny _ _ (Builtin.Tuple.tupleItemsOf (.ref t) >>= _) _ _ s
 refine wpAny_bind (tupleItemsOf_ ht ?_)
 refine wpAny_bind (wpAny_typeOf hTs ?_)
 rw [if_pos (by decide)]
 refine wpAny_bind (sliceApplied_gen hs pl pu ?_)
 have hno:¬ ((((sIx items.size 0 lo:Nat):Int) == 0 && (1:Int) == 1 && (sIx items.size items.size hi - sIx items.size 0 lo) == items.size)=true):=by
  intro q
  rw [Bool.and_eq_true,Bool.and_eq_true] at q
  have q1:((sIx items.size 0 lo:Nat):Int)=0:=eq_of_beq q.1.1
  have q2:sIx items.size items.size hi - sIx items.size 0 lo=items.size:=eq_of_beq q.2
  exact hw ⟨by omega,by omega⟩
 show wpAny _ _ (if (((sIx items.size 0 lo:Nat):Int) == 0 && (1:Int) == 1 && (sIx items.size items.size hi - sIx items.size 0 lo) == items.size)=true then _ else _) _ _ s
 rw [if_neg hno,pick_gen]
 first
  | exact wpAny_bind (m:=Builtin.Tuple.tupleExact _) (wpAny_newObj_type (wpAny_pure ⟨_,rfl,wpAny_pure h⟩) htake)
  | exact wpAny_bind (m:=Builtin.Tuple.tupleExact _) (wpAny_newObj_type (wpAny_bind (wpAny_pure (wpAny_pure ⟨_,rfl,wpAny_pure h⟩))) htake)
  | exact wpAny_bind (wpAny_bind (m:=Builtin.Tuple.tupleExact _) (wpAny_newObj_type (wpAny_pure (wpAny_pure ⟨_,rfl,wpAny_pure h⟩)) htake))
  | exact wpAny_bind (wpAny_bind (m:=Builtin.Tuple.tupleExact _) (wpAny_newObj_type (wpAny_pure ⟨_,rfl,wpAny_pure h⟩) htake))
end
end HT
namespace L2
open PySem PySem.Spec PyProof.Rows
abbrev TO:=St→Hp→(Option Int→Hp→Prop)→Prop
def PO (X:Cx) (e:Option Expr) (t:TO):Prop:=
 ∀ (pins:List (Addr × Obj)) (s:Shared) (σ:St) (H:Hp) (Q:Option Int→Hp→Prop),Inv X pins σ H s→t σ H Q→
  wpAny (model X.prog X.w) X.A (evalPart e X.env) (fun u s'=>∃ o H',Inv X pins σ H' s'∧IsPart u o∧Q o H') X.xe s
def tNoPart:TO:=fun _ H Q=>Q none H
def tPart (t:TE):TO:=fun σ H Q=>t σ H fun x H1=>ExQ Q (fun i Q=>x=.int i∧Q (some i) H1)
section
variable {X:Cx} {e:Expr} {te:TE} {lo hi:Option Expr} {tl th:TO} {pos p2:Pos}
theorem po_none:PO X none tNoPart:=by
 intro pins s σ H Q I h
 rw [evalPart_none]
 exact wpAny_pure ⟨none,H,I,.none,h⟩
theorem po_some (h:PE X e te):PO X (some e) (tPart te):=by
 intro pins s σ H Q I hw
 rw [evalPart_some]
 refine thn (h pins s σ H _ I hw) fun u s1 hpat=>?_
 obtain ⟨x,H1,I1,r1,q1⟩:=hpat
 obtain ⟨i,rfl,q⟩:=q1
 obtain ⟨t,rfl⟩:=r1
 exact ⟨some i,H1,I1,.int i t,q⟩
def SlR (X:Cx) (r:V→Option Int→Option Int→Hp→VK→Prop):Prop:=
 ∀ (pins:List (Addr × Obj)) (s:Shared) (σ:St) (H:Hp) (x:V) (v vl vu:Value) (lo hi:Option Int) (sl:Addr) (Q:VK),Inv X pins σ H s→RelV x v→s.heap.IsSliceOf sl vl vu .none→IsPart vl lo→IsPart vu hi→r x lo hi H Q→
  ∃ T id,typeLookup (.type T) "__getitem__" = pure (some (.builtin id))∧s.TypeIs v T∧wpAny (model X.prog X.w) X.A (getItem v (.ref sl)) (EP X pins σ Q) X.xe s
theorem SlR.or {r r':V→Option Int→Option Int→Hp→VK→Prop} (h:SlR X r) (h':SlR X r'):SlR X (fun x lo hi H Q=>r x lo hi H Q∨r' x lo hi H Q):=by
 intro pins s σ H x v vl vu lo hi sl Q I rx hs pl pu q
 rcases q with q | q
 ·exact h pins s σ H x v vl vu lo hi sl Q I rx hs pl pu q
 ·exact h' pins s σ H x v vl vu lo hi sl Q I rx hs pl pu q
def tSl (r:V→Option Int→Option Int→Hp→VK→Prop) (te:TE) (tl th:TO):TE:=fun σ H Q=>te σ H fun x H1=>tl σ H1 fun l H2=>th σ H2 fun u H3=>r x l u H3 Q
theorem pe_slice {r:V→Option Int→Option Int→Hp→VK→Prop} (hr:SlR X r) (he:PE X e te) (hl:PO X lo tl) (hu:PO X hi th):PE X (.Subscript e (.Slice lo hi none p2) pos) (tSl r te tl th):=by
 intro pins s σ H Q I h
 refine Subscript_ (thn (he pins s σ H _ I h) fun v s1 hpat=>?_)
 obtain ⟨x,H1,I1,r1,q1⟩:=hpat
 refine wpAny_Slice (thn (hl pins s1 σ H1 _ I1 q1) fun vl s2 hpat=>?_)
 obtain ⟨l,H2,I2,pl,q2⟩:=hpat
 refine thn (hu pins s2 σ H2 _ I2 q2) fun vu s3 hpat=>?_
 obtain ⟨u,H3,I3,pu,q3⟩:=hpat
 rw [evalPart_none]
 refine wpAny_pure ?_
 have I4:Inv X pins σ H3 { s3 with heap:=s3.heap.push { cls:=.type "slice",data:=.fields #[vl,vu,.none] } }:=I3.kept (t':=s3.toks) fun b ob q=>Heap.get?_push_of_some _ q
 obtain ⟨T,id,hT,ht,hg⟩:=hr pins { s3 with heap:=s3.heap.push { cls:=.type "slice",data:=.fields #[vl,vu,.none] } } σ H3 x v vl vu l u s3.heap.objs.size Q I4 r1 (Heap.IsSliceOf.new ..) pl pu q3
 show wpAny (model X.prog X.w) X.A (subscriptTail e (.Slice lo hi none p2) v (.ref s3.heap.objs.size)) (EP X pins σ Q) X.xe { s3 with heap:=s3.heap.push { cls:=.type "slice",data:=.fields #[vl,vu,.none] } }
 exact tail_any (ops:=[.ref s3.heap.objs.size,v]) ht hT hg (by with_unfolding_all rfl)
def cutV (xs:List V) (lo hi:Option Int):List V:=(xs.drop (HT.sIx xs.length 0 lo)).take (HT.sIx xs.length xs.length hi - HT.sIx xs.length 0 lo)
theorem cutV_length (xs:List V) (lo hi:Option Int):(cutV xs lo hi).length≤xs.length:=by
 unfold cutV
 rw [List.length_take,List.length_drop]
 omega
def rSlT (K:PySem.W.Frag):V→Option Int→Option Int→Hp→VK→Prop:=fun x lo hi H Q=>ExQ Q (fun a Q=>ExQ Q (fun xs Q=>x=.ref a∧SqT K H a xs∧
 ¬ (HT.sIx xs.length 0 lo=0∧HT.sIx xs.length xs.length hi=xs.length)∧∀ p,H p=none→Q (.ref p) (upd H p (.tup (cutV xs lo hi)))))
theorem sl_tup:SlR X (rSlT X.K):=by
 intro pins s σ H x v vl vu lo hi sl Q I rx hs pl pu h
 obtain ⟨a,xs,rfl,hx,hw,q⟩:=h
 cases rx
 obtain ⟨its,r,ht,hz⟩:=I.tuple hx
 have hlen:its.toArray.size=xs.length:=by rw [List.size_toArray]; exact r.length.symm
 refine ⟨"tuple",_,PyProof.Rows.slot_tuple_getitem.lookup,ht.typeIs,?_⟩
 refine HT.getItem_tuple_cut ht hs pl pu (by rw [hlen]; exact hw) ?_ (by rw [hlen]; exact hz)
 rw [hlen]
 refine ⟨.ref s.heap.objs.size,_,I.laid (t':=s.toks) (o:=.tup (cutV xs lo hi)) (fun b ob q=>Heap.get?_push_of_some _ q) (Nat.le_refl _) ?_,rfl,q _ (I.hok.fresh (Nat.le_refl _))⟩
 exact ⟨Nat.le_trans (cutV_length xs lo hi) hz,_,(r.drop (HT.sIx xs.length 0 lo)).take (HT.sIx xs.length xs.length hi - HT.sIx xs.length 0 lo),IsTup.new _ _⟩
end
def ixN (n:Nat) (i:Int):Option Nat:=if 0≤i then (if i < n then some i.toNat else none) else if -(n:Int)≤i then some (i + n).toNat else none
def atI {α:Type} (xs:List α) (i:Int):Option α:=(ixN xs.length i).bind fun j=>xs[j]?
theorem ixN_seq {n:Nat} {i:Int} {j:Nat} (h:ixN n i=some j):seqIndex? i n=some j∧j < n∧-(n:Int)≤i∧i < n:=by
 unfold ixN at h
 by_cases h0:0≤i
 ·rw [if_pos h0] at h
  by_cases h1:i < n
  ·rw [if_pos h1] at h
   have e:i.toNat=j:=Option.some.inj h
   exact ⟨by rw [seqIndex_of h0 h1,e],by omega,by omega,h1⟩
  ·rw [if_neg h1] at h; cases h
 ·rw [if_neg h0] at h
  by_cases h1:-(n:Int)≤i
  ·rw [if_pos h1] at h
   have e:(i + n).toNat=j:=Option.some.inj h
   exact ⟨by rw [seqIndex_neg (by omega) h1,e],by omega,h1,by omega⟩
  ·rw [if_neg h1] at h; cases h
theorem atI_get {α:Type} {xs:List α} {i:Int} {v:α} (h:atI xs i=some v):∃ j,seqIndex? i xs.length=some j∧xs[j]?=some v∧j < xs.length∧-(xs.length:Int)≤i∧i < xs.length:=by
 unfold atI at h
 cases e:ixN xs.length i with
 | none=>rw [e] at h; cases h
 | some j=>
  rw [e] at h
  obtain ⟨h1,h2,h3,h4⟩:=ixN_seq e
  exact ⟨j,h1,h,h2,h3,h4⟩
theorem atI_nat {α:Type} {xs:List α} {j:Nat} {v:α} (h:xs[j]?=some v):atI xs (j:Int)=some v:=by
 have hj:j < xs.length:=(List.getElem?_eq_some_iff.mp h).1
 have e:ixN xs.length (j:Int)=some j:=by
  unfold ixN
  rw [if_pos (by omega),if_pos (by omega)]; simp
 unfold atI; rw [e]; exact h
def PlainIx (b:Expr):Prop:=∀ o i,subscripted b false o i=operate [o,i] (getItem o i)
def IxR (X:Cx) (r:R2):Prop:=
 ∀ (value slice:Expr) (pins:List (Addr × Obj)) (s:Shared) (σ:St) (H:Hp) (x y:V) (v u:Value) (Q:VK),Inv X pins σ H s→RelV x v→RelV y u→r x y H Q→
  subscripted slice false v u=operate [v,u] (getItem v u)→wpAny (model X.prog X.w) X.A (subscriptTail value slice v u) (EP X pins σ Q) X.xe s
def MtR (X:Cx) (id:String) (r:V→List V→Hp→VK→Prop):Prop:=
 ∀ (pins:List (Addr × Obj)) (s:Shared) (σ:St) (H:Hp) (x:V) (xs:List V) (v:Value) (us:List Value) (Q:VK),Inv X pins σ H s→RelV x v→Vals xs us→r x xs H Q→
  wpAny (model X.prog X.w) X.A (call (.builtin id) (v::us)) (EP X pins σ Q) X.xe s
section
variable {X:Cx} {a b:Expr} {ta tb:TE} {pos:Pos}
theorem IxR.or {r r':R2} (h:IxR X r) (h':IxR X r'):IxR X (fun x y H Q=>r x y H Q∨r' x y H Q):=by
 intro value slice pins s σ H x y v u Q I rx ry q hs
 rcases q with q | q
 ·exact h value slice pins s σ H x y v u Q I rx ry q hs
 ·exact h' value slice pins s σ H x y v u Q I rx ry q hs
theorem MtR.or {id:String} {r r':V→List V→Hp→VK→Prop} (h:MtR X id r) (h':MtR X id r'):MtR X id (fun x xs H Q=>r x xs H Q∨r' x xs H Q):=by
 intro pins s σ H x xs v us Q I rx rs q
 rcases q with q | q
 ·exact h pins s σ H x xs v us Q I rx rs q
 ·exact h' pins s σ H x xs v us Q I rx rs q
theorem pe_ix {r:R2} (hr:IxR X r) (ha:PE X a ta) (hb:PE X b tb) (hs:PlainIx b):PE X (.Subscript a b pos) (tOp r ta tb):=by
 intro pins s σ H Q I h
 exact Subscript_ (binT ha hb I h fun v u s2 x y H2 I2 rx ry q=>hr a b pins s2 σ H2 x y v u Q I2 rx ry q (hs _ _))
def rIxL (K:PySem.W.Frag):R2:=fun x y H Q=>ExQ Q (fun p Q=>ExQ Q (fun xs Q=>ExQ Q (fun i Q=>ExQ Q (fun v Q=>x=.ref p∧y=.int i∧SqL K H p xs∧atI xs i=some v∧Q v H))))
def rIxT (K:PySem.W.Frag):R2:=fun x y H Q=>ExQ Q (fun p Q=>ExQ Q (fun xs Q=>ExQ Q (fun i Q=>ExQ Q (fun v Q=>x=.ref p∧y=.int i∧SqT K H p xs∧atI xs i=some v∧Q v H))))
def rIxS:R2:=fun x y H Q=>ExQ Q (fun z Q=>ExQ Q (fun i Q=>ExQ Q (fun c Q=>x=.str z∧y=.int i∧z.length≤sizeLine∧atI z.cps.toList i=some c∧Q (.str ⟨#[c]⟩) H)))
theorem ix_list:IxR X (rIxL X.K):=by
 intro value slice pins s σ H x y v u Q I rx ry h hs
 obtain ⟨p,xs,i,z,rfl,rfl,hq,he,q⟩:=h
 cases rx
 obtain ⟨t,rfl⟩:=ry
 obtain ⟨its,r,pl,hz⟩:=I.list hq
 obtain ⟨j,h1,h2,h3,h4,h5⟩:=atI_get he
 obtain ⟨w,ew,rw'⟩:=r.get h2
 have hl:=r.length
 have hn:=line63
 have fin:EP X pins σ Q w s:=⟨z,H,I,rw',q⟩
 by_cases h0:0≤i
 ·have hj:i.toNat=j:=by
   rw [seqIndex_of h0 h5] at h1
   exact Option.some.inj h1
  exact item_listR pl.isList h0 (by omega) (by rw [hj]; simpa using ew) fin hs
 ·have hj:(i + (its.toArray.size:Int)).toNat=j:=by
   rw [seqIndex_neg (by omega) h4] at h1
   rw [List.size_toArray,← hl]
   exact Option.some.inj h1
  exact subscriptTail_builtinR (x:=w) pl.isList.typeIs slot_list_getitem.lookup
   (wpAny_getItem_list_neg (Q:=fun r s'=>r=w∧EP X pins σ Q r s') pl.isList (by omega) (by rw [List.size_toArray] <;> omega) (by omega) (by rw [hj]; simpa using ew) ⟨rfl,fin⟩) hs
theorem ix_tup:IxR X (rIxT X.K):=by
 intro value slice pins s σ H x y v u Q I rx ry h hs
 obtain ⟨p,xs,i,z,rfl,rfl,hq,he,q⟩:=h
 cases rx
 obtain ⟨t,rfl⟩:=ry
 obtain ⟨its,r,pl,hz⟩:=I.tuple hq
 obtain ⟨j,h1,h2,h3,h4,h5⟩:=atI_get he
 obtain ⟨w,ew,rw'⟩:=r.get h2
 have hl:=r.length
 have hn:=line63
 have fin:EP X pins σ Q w s:=⟨z,H,I,rw',q⟩
 exact subscriptTail_builtinR (x:=w) pl.typeIs slot_tuple_getitem.lookup
  (getItem_tuple (j:=j) (Q:=fun r s'=>r=w∧EP X pins σ Q r s') pl (by omega) (by omega) (by rw [List.size_toArray,← hl]; exact h1) (by simpa using ew) ⟨rfl,fin⟩) hs
theorem ix_str:IxR X rIxS:=by
 intro value slice pins s σ H x y v u Q I rx ry h hs
 obtain ⟨z,i,c,rfl,rfl,hz,he,q⟩:=h
 obtain ⟨t,rfl⟩:=rx
 obtain ⟨t',rfl⟩:=ry
 obtain ⟨j,h1,h2,h3,h4,h5⟩:=atI_get he
 have hl:z.cps.toList.length=z.length:=by simp [Str.length]
 rw [hl] at h1 h4 h5
 have hn:=line63
 exact tail_any (typeIs_str s z t) slot_str_getitem.lookup (getItem_str (c:=c) (by
  have e1:decide (i < -(2 ^ 63:Int))=false:=decide_eq_false (by omega)
  have e2:decide (i ≥ 2 ^ 63)=false:=decide_eq_false (by omega)
  rw [e1,e2,Bool.or_false]) (by rw [h1]; simpa using h2) ⟨.str ⟨#[c]⟩,H,I.tok _,⟨_,rfl⟩,q⟩) hs
theorem Inv.lst {pins:List (Addr × Obj)} {σ:St} {H:Hp} {s:Shared} {p:Addr} {xs:List V} (I:Inv X pins σ H s) (h:H p=some (.lst xs)) :
  ∃ (its:List Value) (n:Nat),Vals xs its∧s.heap.get? p=some { cls:=.type "list",data:=.seq its.toArray n }∧xs.length≤sizeLine:=by
 obtain ⟨z,its,n,r,e⟩:=I.hok p _ h
 exact ⟨its,n,r,e,z⟩
theorem slice_bounds (lo hi:Option Int) (n:Nat):(sliceBounds lo hi none n).1=((HT.sIx n 0 lo:Nat):Int)∧(sliceBounds lo hi none n).2.1=((HT.sIx n n hi:Nat):Int)∧(sliceBounds lo hi none n).2.2=1:=by
 refine ⟨?_,?_,rfl⟩
 ·cases lo with
  | none=>simp [sliceBounds,HT.sIx]
  | some i=>
   simp only [sliceBounds,HT.sIx,Option.getD_none,show (1:Int) > 0 by decide,if_true]
   by_cases h:i < 0
   ·simp only [h,if_true] <;> omega
   ·simp only [h,if_false] <;> omega
 ·cases hi with
  | none=>simp [sliceBounds,HT.sIx]
  | some i=>
   simp only [sliceBounds,HT.sIx,Option.getD_none,show (1:Int) > 0 by decide,if_true]
   by_cases h:i < 0
   ·simp only [h,if_true] <;> omega
   ·simp only [h,if_false] <;> omega
theorem slicePick_cut (its:List Value) (lo hi:Option Int):slicePick its.toArray lo hi none=((its.drop (HT.sIx its.length 0 lo)).take (HT.sIx its.length its.length hi - HT.sIx its.length 0 lo)).toArray:=by
 obtain ⟨h1,h2,h3⟩:=slice_bounds lo hi its.toArray.size
 unfold slicePick
 rw [h1,h2,h3]
 simp only [sliceRange_one,pick_run,List.size_toArray] <;> rfl
def rSlL (K:PySem.W.Frag):V→Option Int→Option Int→Hp→VK→Prop:=fun x lo hi H Q=>ExQ Q (fun a Q=>ExQ Q (fun xs Q=>x=.ref a∧SqL K H a xs∧∀ p,H p=none→Q (.ref p) (upd H p (.lst (cutV xs lo hi)))))
theorem sl_list:SlR X (rSlL X.K):=by
 intro pins s σ H x v vl vu lo hi sl Q I rx hs pl pu h
 obtain ⟨a,xs,rfl,hx,q⟩:=h
 cases rx
 obtain ⟨its,r,ht,hz⟩:=I.list hx
 have hlen:=r.length
 refine ⟨"list",_,slot_list_getitem.lookup,ht.isList.typeIs,?_⟩
 refine wpAny_getItem_list_slice ht.isList hs pl pu .none (by simp) ?_ (by rw [List.size_toArray] <;> omega)
 rw [slicePick_cut,← hlen]
 refine ⟨.ref s.heap.objs.size,_,I.laid (t':=s.toks) (o:=.lst (cutV xs lo hi)) (fun b ob q=>Heap.get?_push_of_some _ q) (Nat.le_refl _) ?_,rfl,q _ (I.hok.fresh (Nat.le_refl _))⟩
 exact ⟨Nat.le_trans (cutV_length xs lo hi) hz,_,0,(r.drop (HT.sIx xs.length 0 lo)).take (HT.sIx xs.length xs.length hi - HT.sIx xs.length 0 lo),Heap.get?_push_size _ rfl⟩
def flatV:V→Bool
 | .non=>true
 | .bl _=>true
 | .int _=>true
 | .str _=>true
 | _=>false
def eqV:V→V→Bool
 | .non,.non=>true
 | .bl a,.bl b=>a == b
 | .bl a,.int b=>(if a then 1 else 0) == b
 | .int a,.bl b=>a == (if b then 1 else 0)
 | .int a,.int b=>a == b
 | .str a,.str b=>a == b
 | _,_=>false
theorem eqAt_V {A:Around} {s:Shared} {y x:V} {u v:Value} (ry:RelV y u) (rx:RelV x v) (fy:flatV y=true) (fx:flatV x=true):SeqAt.EqAt A s u v (eqV y x):=by
 cases y with
 | non=>
  cases ry
  cases x with
  | non=>cases rx; exact SeqAt.EqAt.same _
  | bl b=>cases rx; exact SeqAt.EqAt.none_bool b
  | int b=>obtain ⟨t,rfl⟩:=rx; exact SeqAt.EqAt.none_int b t
  | str b=>obtain ⟨t,rfl⟩:=rx; exact SeqAt.EqAt.none_str b t
  | _=>exact absurd (show false=true from fx) Bool.false_ne_true
 | bl a=>
  cases ry
  cases x with
  | non=>cases rx; exact SeqAt.EqAt.bool_none a
  | bl b=>cases rx; exact SeqAt.EqAt.bool_bool a b
  | int b=>obtain ⟨t,rfl⟩:=rx; exact SeqAt.EqAt.bool_int a b t
  | str b=>obtain ⟨t,rfl⟩:=rx; exact SeqAt.EqAt.bool_str a b t
  | _=>exact absurd (show false=true from fx) Bool.false_ne_true
 | int a=>
  obtain ⟨t',rfl⟩:=ry
  cases x with
  | non=>cases rx; exact SeqAt.EqAt.int_none a t'
  | bl b=>cases rx; exact SeqAt.EqAt.int_bool a t' b
  | int b=>obtain ⟨t,rfl⟩:=rx; exact SeqAt.EqAt.int_int a t' b t
  | str b=>obtain ⟨t,rfl⟩:=rx; exact SeqAt.EqAt.int_str a t' b t
  | _=>exact absurd (show false=true from fx) Bool.false_ne_true
 | str a=>
  obtain ⟨t',rfl⟩:=ry
  cases x with
  | non=>cases rx; exact SeqAt.EqAt.str_none a t'
  | bl b=>cases rx; exact SeqAt.EqAt.str_bool a t' b
  | int b=>obtain ⟨t,rfl⟩:=rx; exact SeqAt.EqAt.str_int a t' b t
  | str b=>obtain ⟨t,rfl⟩:=rx; exact SeqAt.EqAt.str_str a t' b t
  | _=>exact absurd (show false=true from fx) Bool.false_ne_true
 | _=>exact absurd (show false=true from fy) Bool.false_ne_true
def eqU (x:V) (u:Value):Bool:=match u with
 | .none=>eqV .non x
 | .bool b=>eqV (.bl b) x
 | .int i _=>eqV (.int i) x
 | .str z _=>eqV (.str z) x
 | _=>false
theorem eqU_of {x y:V} {u:Value} (r:RelV y u) (f:flatV y=true):eqU x u=eqV y x:=by
 cases y with
 | non=>cases r; rfl
 | bl b=>cases r; rfl
 | int i=>obtain ⟨t,rfl⟩:=r; rfl
 | str z=>obtain ⟨t,rfl⟩:=r; rfl
 | _=>exact absurd (show false=true from f) Bool.false_ne_true
theorem any_eqU {x:V}:∀ {xs:List V} {us:List Value},Vals xs us→xs.all flatV=true→us.any (eqU x)=xs.any fun y=>eqV y x
 | _,_,.nil,_=>rfl
 | y::xs,u::us,.cons r t,f=>by
  rw [List.all_cons,Bool.and_eq_true] at f
  rw [List.any_cons,List.any_cons,eqU_of r f.1,any_eqU t f.2]
theorem mem_eqAt {A:Around} {s:Shared} {x:V} {v:Value} (rx:RelV x v) (fx:flatV x=true):∀ {xs:List V} {us:List Value},Vals xs us→xs.all flatV=true→∀ u∈us,SeqAt.EqAt A s u v (eqU x u)
 | _,_,.nil,_=>fun u hu=>by cases hu
 | y::xs,u::us,.cons r t,f=>fun u' hu=>by
  rw [List.all_cons,Bool.and_eq_true] at f
  rcases List.mem_cons.mp hu with rfl | hu
  ·rw [eqU_of r f.1]; exact eqAt_V r rx f.1 fx
  ·exact mem_eqAt rx fx t f.2 u' hu
def inV (x:V) (xs:List V):Bool:=xs.any fun y=>eqV y x
def rIn (K:PySem.W.Frag) (neg:Bool):R2:=fun x y H Q=>ExQ Q (fun p Q=>ExQ Q (fun xs Q=>y=.ref p∧(SqL K H p xs∨SqT K H p xs)∧flatV x=true∧xs.all flatV=true∧Q (.bl (if neg then !inV x xs else inV x xs)) H))
theorem op_in_seq:OpR X (compareOp .In) (rIn X.K false):=by
 intro pins s σ H x y v u Q I rx ry h
 obtain ⟨p,xs,rfl,hq,fx,fs,q⟩:=h
 cases ry
 rcases hq with hq | hq
 ·obtain ⟨its,r,pl,hz⟩:=I.list hq
  refine SeqAt.in_listAt (eqU x) pl.isList (fun w hw=>mem_eqAt rx fx r fs w (by simpa using hw)) ⟨.bl _,H,I,rfl,?_⟩
  rw [show its.toArray.any (eqU x)=its.any (eqU x) by simp,any_eqU r fs]
  exact q
 ·obtain ⟨its,r,pl,hz⟩:=I.tuple hq
  refine SeqAt.in_tupleAt (eqU x) pl (fun w hw=>mem_eqAt rx fx r fs w (by simpa using hw)) ⟨.bl _,H,I,rfl,?_⟩
  rw [show its.toArray.any (eqU x)=its.any (eqU x) by simp,any_eqU r fs]
  exact q
theorem call_len_seq:CallR X (.builtin "len") (fun xs H Q=>∃ p ys,xs=[.ref p]∧(SqL X.K H p ys∨SqT X.K H p ys)∧Q (.int ys.length) H):=by
 intro pins s σ H xs us Q I r h
 obtain ⟨p,ys,rfl,hq,q⟩:=h
 obtain ⟨u,rfl,rx⟩:=vals1 r
 cases rx
 have hn:=line63
 rcases hq with hq | hq
 ·obtain ⟨its,r',pl,hz⟩:=I.list hq
  have hlen:=r'.length
  exact Calls.call_len_list pl.isList (by simp only [List.size_toArray] <;> omega) ⟨.int ys.length,H,I.tok _,⟨s.toks + 1,by rw [List.size_toArray,hlen]⟩,q⟩
 ·obtain ⟨its,r',pl,hz⟩:=I.tuple hq
  have hlen:=r'.length
  exact len_tuple pl (by simp only [List.size_toArray] <;> omega) ⟨.int ys.length,H,I.tok _,⟨s.toks + 1,by rw [List.size_toArray,hlen]⟩,q⟩
theorem call_len_str:CallR X (.builtin "len") (fun xs H Q=>∃ z,xs=[.str z]∧z.length≤sizeLine∧Q (.int z.length) H):=by
 intro pins s σ H xs us Q I r h
 obtain ⟨z,rfl,hz,q⟩:=h
 obtain ⟨u,rfl,t,rfl⟩:=vals1 r
 have hn:=line63
 exact len_str (by omega) ⟨.int z.length,H,I.tok _,⟨_,rfl⟩,q⟩
theorem CallR.or {f:Value} {r r':List V→Hp→VK→Prop} (h:CallR X f r) (h':CallR X f r'):CallR X f (fun xs H Q=>r xs H Q∨r' xs H Q):=by
 intro pins s σ H xs us Q I rs q
 rcases q with q | q
 ·exact h pins s σ H xs us Q I rs q
 ·exact h' pins s σ H xs us Q I rs q
theorem call_tuple_of:CallR X (.type "tuple") (fun xs H Q=>∃ p ys,xs=[.ref p]∧((SqL X.K H p ys∧∀ l,H l=none→Q (.ref l) (upd H l (.tup ys)))∨(SqT X.K H p ys∧Q (.ref p) H))):=by
 intro pins s σ H xs us Q I r h
 obtain ⟨p,ys,rfl,h⟩:=h
 obtain ⟨u,rfl,rx⟩:=vals1 r
 cases rx
 rcases h with ⟨hq,q⟩ | ⟨hq,q⟩
 ·obtain ⟨its,r',pl,hz⟩:=I.list hq
  have hlen:=r'.length
  refine call_tuple_list pl.isList (fun h' kp=>?_) (by simp only [List.size_toArray] <;> omega)
  have I1:Inv X pins σ H { s with heap:=h' }:=I.kept (t':=s.toks) kp
  have I2:Inv X pins σ (upd H h'.objs.size (.tup ys)) { s with heap:=h'.push { cls:=.type "tuple",data:=.seq its.toArray } }:=
   I1.laid (t':=s.toks) (fun b o e=>Heap.get?_push_of_some _ e) (Nat.le_refl _) (show ObjOk X.prog X.w _ _ _ (.tup ys) from ⟨hz,its,r',IsTup.new _ _⟩)
  exact ⟨.ref h'.objs.size,_,I2,rfl,q _ (I1.hok.fresh (Nat.le_refl _))⟩
 ·obtain ⟨its,r',pl,hz⟩:=I.tuple hq
  exact call_tuple_same pl ⟨.ref p,H,I,rfl,q⟩
def tyV (K:PySem.W.Frag) (T:String) (x:V) (H:Hp):Prop:=match x with
 | .str _=>T = "str"
 | .int _=>T = "int"
 | .ref p=>(T = "list"∧∃ xs,SqL K H p xs)∨(T = "tuple"∧∃ o,K.lookup p=some o∧o.cls=.type "tuple"∧o.dict=none)∨
   (T = "dict"∧((∃ kvs,H p=some (.dK kvs))∨∃ kvs,H p=some (.dT kvs)))∨(T = "set"∧∃ S n,H p=some (.set S n))
 | _=>False
theorem tyV_is {pins:List (Addr × Obj)} {σ:St} {H:Hp} {s:Shared} {T:String} {x:V} {v:Value} (I:Inv X pins σ H s) (r:RelV x v) (ty:tyV X.K T x H) :
  s.TypeIs v T∧∀ a,v=.ref a→∃ ob,s.heap.get? a=some ob∧ob.dict=none:=by
 cases x with
 | str z=>
  obtain ⟨t,rfl⟩:=r
  cases (show T = "str" from ty)
  exact ⟨typeIs_str s z t,fun _ e=>nomatch e⟩
 | int i=>
  obtain ⟨t,rfl⟩:=r
  cases (show T = "int" from ty)
  exact ⟨typeIs_int s i t,fun _ e=>nomatch e⟩
 | ref p=>
  cases r
  rcases ty with ⟨rfl,xs,hq⟩ | ⟨rfl,o,hk,hc,hd⟩ | ⟨rfl,hk⟩ | ⟨rfl,S,n,hk⟩
  ·obtain ⟨its,_,pl,_⟩:=I.list hq
   refine ⟨pl.isList.typeIs,fun a e=>?_⟩
   cases e
   obtain ⟨o,n,e,c,hd,_⟩:=pl
   exact ⟨o,e,hd⟩
  ·refine ⟨⟨o,I.kIn p o hk,hc⟩,fun a e=>?_⟩
   cases e
   exact ⟨o,I.kIn _ o hk,hd⟩
  ·have z:∃ o,s.heap.get? p=some o∧o.ExactDict:=by
    rcases hk with ⟨kvs,hk⟩ | ⟨kvs,hk⟩
    ·obtain ⟨_,_,_,_,o,_,_,e,ex,_⟩:=I.hok p _ hk
     exact ⟨o,e,ex⟩
    ·obtain ⟨_,_,_,_,o,_,_,e,ex,_⟩:=I.hok p _ hk
     exact ⟨o,e,ex⟩
   obtain ⟨o,e,ex⟩:=z
   refine ⟨⟨o,e,ex.1⟩,fun a e2=>?_⟩
   cases e2
   exact ⟨o,e,ex.2.1⟩
  ·obtain ⟨o,_,_,_,e,ex,_⟩:=I.hok p _ hk
   refine ⟨⟨o,e,ex.1⟩,fun a e2=>?_⟩
   cases e2
   exact ⟨o,e,ex.2.1⟩
 | _=>exact False.elim ty
def tBM0 (K:PySem.W.Frag) (T:String) (r:V→List V→Hp→VK→Prop) (to:TE):TE:=fun σ H Q=>to σ H fun x H1=>tyV K T x H1∧r x [] H1 Q
def tBM (K:PySem.W.Frag) (T:String) (r:V→List V→Hp→VK→Prop) (to:TE) (t:TA):TE:=fun σ H Q=>to σ H fun x H1=>tyV K T x H1∧t σ H1 fun xs H2=>r x xs H2 Q
variable {o e:Expr} {es:List Expr} {to:TE} {t:TA} {name:Str} {apos cpos:Pos} {T id:String} {r:V→List V→Hp→VK→Prop}
theorem pe_bm0 (pa:PlainAttrs T) (slot:Slot T name id) (hty:typeOf (.builtin id)=pure (.type "method_descriptor")) (hm:MtR X id r) (ho:PE X o to)
  (hbase:attributeBase o name X.env (eval o X.env)=eval o X.env:=by rfl) (hline:(apos.endLine == cpos.line)=true:=by rfl):PE X (.Call (.Attribute o name apos) [] [] cpos) (tBM0 X.K T r to):=by
 intro pins s σ H Q I h
 refine wpAny_Call_method0_late hbase hline (thn (ho pins s σ H _ I h) fun v s1 hpat=>?_)
 obtain ⟨x,H1,I1,r1,ty,q1⟩:=hpat
 obtain ⟨h1,h2⟩:=tyV_is I1 r1 ty
 exact ⟨T,id,pa,slot,hty,h1,h2,Calls.callWith_builtin rfl (PySem.evalArgs_none (hm pins s1 σ H1 x [] v [] Q I1 r1 .nil q1))⟩
theorem pe_bm (pa:PlainAttrs T) (slot:Slot T name id) (hty:typeOf (.builtin id)=pure (.type "method_descriptor")) (hm:MtR X id r) (ho:PE X o to) (ha:PA X (e::es) t)
  (hbase:attributeBase o name X.env (eval o X.env)=eval o X.env:=by rfl)
  (hfew:((backTo cpos (starEach (e::es) X.env)).all (fun x=>!x.1) && (backToKw cpos (keywordEach [] X.env)).all (fun x=>x.1.isSome)
   && decide ((e::es).length + ([]:List Keyword).length + (if ([]:List Keyword).isEmpty then 0 else 1) < 30))=true:=by rfl)
  (hline:(apos.endLine == cpos.line)=true:=by rfl) (hs:starEach (e::es) X.env=(false,eval e X.env)::starEach es X.env:=by rfl) (hplain:(backTo cpos (starEach es X.env)).any (·.1)=false:=by rfl) :
  PE X (.Call (.Attribute o name apos) (e::es) [] cpos) (tBM X.K T r to t):=by
 intro pins s σ H Q I h
 refine wpAny_Call_method_late hbase hfew hline rfl (thn (ho pins s σ H _ I h) fun v s1 hpat=>?_)
 obtain ⟨x,H1,I1,r1,ty,q1⟩:=hpat
 obtain ⟨h1,h2⟩:=tyV_is I1 r1 ty
 refine ⟨T,id,pa,slot,hty,h1,h2,?_⟩
 have hA:=ha cpos pins s1 σ H1 _ I1 q1
 rw [hs] at hA ⊢
 refine Calls.callWith_builtin (by show (false || (backTo cpos (starEach es X.env)).any (·.1))=false; rw [hplain] <;> rfl) (Calls.evalArgs_plain ?_)
 exact thn hA fun us s2 hp2=>by obtain ⟨vs,H2,I2,r2,q2⟩:=hp2; exact hm pins s2 σ H2 x vs v us Q I2 r1 r2 q2
/- xs.append(e),list.index on a module's tuple .. are MtR facts of 06m -/
end
def MtM (X:Cx) (id:String) (r:V→List V→Hp→VK→Prop):Prop:=
 ∀ (pins:List (Addr × Obj)) (s:Shared) (σ:St) (H:Hp) (x:V) (xs:List V) (v:Value) (us:List Value) (Q:VK),Inv X pins σ H s→RelV x v→Vals xs us→r x xs H Q→
  wpAny (model X.prog X.w) X.A (call (.builtin id) (v::us)) (EP X pins σ Q) X.xe s
theorem Vals.zero {us:List Value} (h:Vals [] us):us=[]:=by
 cases h
 rfl
theorem Vals.consI {x:V} {xs:List V} {us:List Value} (h:Vals (x::xs) us):∃ u r,us=u::r∧RelV x u∧Vals xs r:=by
 cases h with
 | cons r t=>exact ⟨_,_,rfl,r,t⟩
theorem Vals.one {x:V} {us:List Value} (h:Vals [x] us):∃ u,us=[u]∧RelV x u:=by
 obtain ⟨u,r,rfl,a,t⟩:=h.consI
 obtain rfl:=t.zero
 exact ⟨u,rfl,a⟩
theorem Vals.two {x y:V} {us:List Value} (h:Vals [x,y] us):∃ u v,us=[u,v]∧RelV x u∧RelV y v:=by
 obtain ⟨u,r,rfl,a,t⟩:=h.consI
 obtain ⟨v,rfl,b⟩:=t.one
 exact ⟨u,v,rfl,a,b⟩
theorem Vals.dropLast {xs:List V} {us:List Value} (h:Vals xs us):Vals xs.dropLast us.dropLast:=by
 induction h with
 | nil=>exact .nil
 | cons r t ih=>
  cases t with
  | nil=>exact .nil
  | cons q t'=>exact .cons r ih
theorem Vals.eraseIdx:∀ {xs:List V} {us:List Value} (i:Nat),Vals xs us→Vals (xs.eraseIdx i) (us.eraseIdx i)
 | _,_,_,.nil=>.nil
 | _,_,0,.cons _ t=>t
 | _,_,i + 1,.cons r t=>.cons r (Vals.eraseIdx i t)
theorem Vals.reverse {xs:List V} {us:List Value} (h:Vals xs us):Vals xs.reverse us.reverse:=by
 induction h with
 | nil=>exact .nil
 | cons r t ih=>rw [List.reverse_cons,List.reverse_cons]; exact Vals.append ih (.cons r .nil)
theorem erase_last {α:Type} (l:List α):l.eraseIdx (l.length - 1)=l.dropLast:=by
 induction l with
 | nil=>rfl
 | cons a r ih=>
  cases r with
  | nil=>rfl
  | cons b r=>
   have e:(a::b::r).length - 1=((b::r).length - 1) + 1:=by
    have h1:(a::b::r).length=r.length + 2:=rfl
    have h2:(b::r).length=r.length + 1:=rfl
    omega
   rw [e,List.eraseIdx_cons_succ,ih]
   all_goals rfl
section
variable {X:Cx} {pins:List (Addr × Obj)} {σ:St} {H:Hp} {s:Shared} {l b:Addr} {xs ys zs:List V}
theorem Inv.lset {its its':List Value} {n:Nat} {f:Array Value→Array Value} {t':Nat} (I:Inv X pins σ H s) (hH:H l=some (.lst xs))
  (e:s.heap.get? l=some { cls:=.type "list",data:=.seq its.toArray n }) (hf:f its.toArray=its'.toArray) (hv:Vals ys its') (hz:ys.length≤sizeLine) :
  Inv X pins σ (upd H l (.lst ys)) { s with heap:=s.heap.update l (Obj.mapSeq f),toks:=t' }:=by
 have q:=PySem.IsL.update e f
 rw [hf] at q
 refine I.write (x:=l) (e:=l) (by rw [hH]; exact trivial) (.inl rfl) (fun b' u hb hu=>(Heap.get?_update_other s.heap (Obj.mapSeq f) (Ne.symm hb)).trans hu) ⟨_,q⟩ ?_
 exact ⟨hz,its',_,hv,q⟩
theorem Inv.lnew {its:List Value} {t':Nat} (I:Inv X pins σ H s) (hv:Vals ys its) (hz:ys.length≤sizeLine) :
  Inv X pins σ (upd H s.heap.objs.size (.lst ys)) { s with heap:=s.heap.push { cls:=.type "list",data:=.seq its.toArray },toks:=t' }:=
 I.laid (fun _ _ q=>Heap.get?_push_of_some _ q) (Nat.le_refl _) ⟨hz,its,0,hv,Heap.get?_push_size _ rfl⟩
theorem Inv.fresh (I:Inv X pins σ H s):H s.heap.objs.size=none:=I.hok.fresh (Nat.le_refl _)
theorem Inv.lstM (I:Inv X pins σ H s) (hH:H l=some (.lst xs)):xs.length≤sizeLine∧∃ (its:List Value) (n:Nat),Vals xs its∧xs.length=its.length∧s.heap.get? l=some { cls:=.type "list",data:=.seq its.toArray n }:=by
 obtain ⟨z,its,n,r,e⟩:=I.hok l _ hH
 exact ⟨z,its,n,r,r.length,e⟩
theorem notLongL {n:Nat} (h:n≤sizeLine):Builtin.List.listTooLong n=false:=by
 unfold Builtin.List.listTooLong
 exact decide_eq_false (by omega)
end
section
variable {X:Cx}
def rAppend:V→List V→Hp→VK→Prop:=fun x vs H Q=>ExQ Q (fun l Q=>ExQ Q (fun xs Q=>ExQ Q (fun y Q=>x=.ref l∧vs=[y]∧H l=some (.lst xs)∧xs.length < sizeLine∧Q .non (upd H l (.lst (xs++[y]))))))
theorem mt_append:MtM X "list.append" rAppend:=by
 intro pins s σ H x vs v us Q I rx rv h
 obtain ⟨l,xs,y,rfl,rfl,hH,hz,q⟩:=h
 cases rx
 obtain ⟨u,rfl,ru⟩:=rv.one
 obtain ⟨z,its,n,r,hl,e⟩:=I.lstM hH
 refine call_meets F.slot_list_append ⟨_,e,rfl⟩ F.entry_list_append (F.args_list_append_2 _ _) (PySem.list_append l its.toArray n u (by rw [List.size_toArray]; omega)) ⟨e,?_⟩
 refine ⟨.non,_,I.lset (its':=its++[u]) hH e (by simp) (r.append (.cons ru .nil)) ?_,rfl,q⟩
 rw [List.length_append,List.length_singleton]
 omega
def rExtend:V→List V→Hp→VK→Prop:=fun x vs H Q=>ExQ Q (fun l Q=>ExQ Q (fun b Q=>ExQ Q (fun xs Q=>ExQ Q (fun zs Q=>x=.ref l∧vs=[.ref b]∧H l=some (.lst xs)∧H b=some (.lst zs)∧xs.length + zs.length≤sizeLine∧Q .non (upd H l (.lst (xs++zs)))))))
theorem mt_extend:MtM X "list.extend" rExtend:=by
 intro pins s σ H x vs v us Q I rx rv h
 obtain ⟨l,b,xs,zs,rfl,rfl,hH,hB,hz,q⟩:=h
 cases rx
 obtain ⟨u,rfl,ru⟩:=rv.one
 cases ru
 obtain ⟨z,its,n,r,hl,e⟩:=I.lstM hH
 obtain ⟨z2,its2,n2,r2,hl2,e2⟩:=I.lstM hB
 have hsz:its.toArray.size + its2.toArray.size≤sizeLine:=by rw [List.size_toArray,List.size_toArray]; omega
 have hlong:¬ (!its.toArray.isEmpty && Builtin.List.listTooLong (its.toArray.size + its2.toArray.size))=true:=by
  rw [notLongL hsz,Bool.and_false]
  exact Bool.false_ne_true
 refine call_meets F.slot_list_extend ⟨_,e,rfl⟩ F.entry_list_extend (F.args_list_extend_2 _ _)
  (AutoSeq1.list_extend_list_list_0 l its.toArray n b its2.toArray n2 hlong (by rw [List.size_toArray]; omega) (by omega)) ⟨e,e2,?_⟩
 refine ⟨.non,_,I.lset (its':=its++its2) hH e (by simp) (r.append r2) ?_,rfl,q⟩
 rw [List.length_append]
 omega
def rPop:V→List V→Hp→VK→Prop:=fun x vs H Q=>ExQ Q (fun l Q=>ExQ Q (fun xs Q=>ExQ Q (fun y Q=>x=.ref l∧vs=[]∧H l=some (.lst xs)∧xs[xs.length - 1]?=some y∧Q y (upd H l (.lst xs.dropLast)))))
theorem mt_pop:MtM X "list.pop" rPop:=by
 intro pins s σ H x vs v us Q I rx rv h
 obtain ⟨l,xs,y,rfl,rfl,hH,hy,q⟩:=h
 cases rx
 have hus:=rv.zero
 subst hus
 obtain ⟨z,its,n,r,hl,e⟩:=I.lstM hH
 obtain ⟨u,hu,ru⟩:=r.get hy
 have hy':its.toArray[its.toArray.size - 1]?=some u:=by
  show its.toArray[its.length - 1]?=some u
  rw [← Array.getElem?_toList,← hl]
  exact hu
 refine call_meets F.slot_list_pop ⟨_,e,rfl⟩ F.entry_list_pop (F.args_list_pop_1 _) (MeetsSeq.list_pop_last l its.toArray n u hy' (by rw [List.size_toArray]; omega)) ⟨e,?_⟩
 refine ⟨y,_,I.lset (its':=its.dropLast) hH e ?_ r.dropLast ?_,ru,q⟩
 ·show its.toArray.eraseIdxIfInBounds (its.toArray.size - 1)=its.dropLast.toArray
  rw [List.size_toArray,List.eraseIdxIfInBounds_toArray,erase_last]
 ·rw [List.length_dropLast]
  omega
def rCat:R2:=fun x y H Q=>ExQ Q (fun l Q=>ExQ Q (fun b Q=>ExQ Q (fun xs Q=>ExQ Q (fun zs Q=>x=.ref l∧y=.ref b∧H l=some (.lst xs)∧H b=some (.lst zs)∧xs.length + zs.length≤sizeLine∧∀ p,H p=none→Q (.ref p) (upd H p (.lst (xs++zs)))))))
theorem op_cat:OpR X (binaryOp .Add) rCat:=by
 intro pins s σ H x y v u Q I rx ry h
 obtain ⟨l,b,xs,zs,rfl,rfl,hH,hB,hz,q⟩:=h
 cases rx
 cases ry
 obtain ⟨z,its,n,r,hl,e⟩:=I.lstM hH
 obtain ⟨z2,its2,n2,r2,hl2,e2⟩:=I.lstM hB
 refine PySem.P.add_list e e2 ?_ (by rw [List.size_toArray,List.size_toArray]; omega)
 have ea:its.toArray++its2.toArray=(its++its2).toArray:=by simp
 rw [ea]
 exact ⟨.ref _,_,I.lnew (t':=s.toks) (r.append r2) (by rw [List.length_append]; omega),rfl,q _ I.fresh⟩
end
section
variable {prog:Program} {w:World} {A:Around} {E:Value→Shared→Prop} {s:Shared}
set_option maxRecDepth 100000 in
end
section
variable {X:Cx}
end
end L2
namespace Att
open PySem PySem.W PySem.Calls PyProof.Rows
theorem ints_of_wellAll {P:Params} {h:Heap}:∀ (ns:List Int) (vs:List Value),WellAll P h vs (ns.map WData.int)→IntsAre vs ns:=by
 intro ns
 induction ns with
 | nil=>
  intro vs w
  rw [List.map_nil] at w
  cases w
  exact .nil
 | cons n ns ih=>
  intro vs w
  rw [List.map_cons] at w
  cases w with
  | cons a b=>
   cases a
   exact .cons _ _ (ih _ b)
theorem script_of {l:OpenLaw} {n:Nat} (hn:l.most=some n) {P:Params} {h:Heap} {args:List WData} {vals:List Value}
  (hpre:l.row.toRowW.claim.pre args=true) (hwl:WellAll P h vals args) :
  ∃ a vs ns,vals=[Value.ref a]∧args=[WData.list (ns.map WData.int)]∧h.get? a=some { cls:=.type "list",data:=.seq vs.toArray }∧IntsAre vs ns∧ns.length≤n:=by
 have hsh:WShape.hasAll [] args [.list .int]=true:=(pre_splitW hpre).1
 have hc:l.pre.holds [] { args:=args }=true:=(pre_splitW hpre).2
 obtain ⟨d,r,rfl,h1,h2⟩:=hasAllW_cons hsh
 obtain rfl:=hasAllW_nil h2
 obtain ⟨xs,rfl,h3⟩:=hasW_list h1
 obtain ⟨ns,rfl⟩:=items_int h3
 have hlen:ns.length≤n:=by
  unfold OpenLaw.pre at hc
  have h4:(WTm.not (.lt (.lit (.int (n:Int))) (.len (.arg 0)))).holds [] { args:=[.list (ns.map .int)] }=true:=by
   have h4:=(holds_andW hc).1
   rw [hn] at h4
   exact h4
  have h5:=condW_of h4 (w_not (w_lt w_lit (w_len_list (w_arg rfl))))
  rw [List.length_map] at h5
  refine Nat.le_of_not_lt fun q=>?_
  have q':(n:Int) < ((ns.length:Nat):Int):=by omega
  first
   | (rw [decide_eq_true q'] at h5; exact absurd h5 (by decide))
   | (simp at h5; omega)
 cases hwl with
 | cons w1 w2=>
  cases w2
  cases w1 with
  | list ho hall=>exact ⟨_,_,ns,rfl,rfl,ho,ints_of_wellAll ns _ hall,hlen⟩
theorem post_true (l:OpenLaw) (args:List WData):l.row.toRowW.claim.post args (.bool true) args=true:=
 postW_of (r:=l.row.toRowW) (X:=(true == true))
  (show WShape.has [] (.bool true) .bool=true by first | rfl | decide | simp [WShape.has,WShape.arms,WShape.armsAll])
  (show (WTm.eq .res (.lit (.bool true))).value [] { args:=args,res:=some (.bool true),after:=args }=some (.bool (true == true)) from w_eq_bool (w_res rfl) w_lit) rfl
theorem attach_call {l:OpenLaw} {n:Nat} {q:Program} {loose:List Str} {XP:(Str→Option Value)→Heap→Prop} {YP:World→Heap→Prop} {d:DefRec}
  (hn:l.most=some n) (hdf:d.params.defaults=[])
  (call:∀ (w:World) (s₀ s₁:Shared) (mg mb:Str→Option Value) (fa:Addr) (o:Obj) (pm cd doc:Value) (a:Addr) (vs:List Value) (ns:List Int),
   Ground q loose [] XP w s₀ mg mb s₁.heap→YP w s₁.heap→
   s₁.heap.get? fa=some o→o.data=.func (docDef d.name d.params d.body d.scope pm cd doc)→s₁.heap.CodeRec cd d.name→mg d.name=some (.ref fa)→
   s₁.heap.get? a=some { cls:=.type "list",data:=.seq vs.toArray }→IntsAre vs ns→ns.length≤n→s₁.gens=#[]→
   codeAny (model l.prog w) callerA (.call (.ref fa) ⟨[.ref a],[]⟩) (fun r s'=>r=.ok (.ret (.bool true))∧OldK s₁.heap s'.heap∧s'.os=s₁.os∧AllBare s'.gens) s₁) :
  WalkO q loose XP YP l.row.toRowW d [] (fun f vs=>PySem.call f vs):=by
 intro w s₀ s₁ mg mb G Y fa o pm cd doc dV kV ho hd hcd hD hmg hg args vals as hpre hlay hrd hwl hlo
 obtain rfl:dV=.none:=Dflts.none hD hdf
 obtain rfl:kV=.none:=Dflts.noKw hD
 obtain ⟨a,vs,ns,rfl,rfl,hobj,hints,hlen⟩:=script_of hn hpre hwl
 refine enter_call (codeAny_mono (call w s₀ s₁ mg mb fa o pm cd doc a vs ns G Y ho (fd_plain hd) hcd hmg hobj hints hlen hg) fun r s' hq=>?_)
 obtain ⟨rfl,h2,h3,h4⟩:=hq
 exact ⟨.inl ⟨.bool true,.bool true,[],rfl,fun _=>rfl,.bool true,post_true l _,fun _=>⟨List.Pairwise.nil,fun _ hm=>(nomatch hm)⟩⟩,h2,h3,h4⟩
section
variable {prog:Program} {w:World} {A:Around} {E:Value→Shared→Prop} {s:Shared} {K:Frag}
def ledger (h:Heap) (L d:Addr):List (Addr × Obj):=(List.range h.objs.size).filterMap fun a=>if a=L∨a=d then none else (h.get? a).map fun o=>(a,o)
end
end Att
namespace L2
open PySem PySem.Spec PyProof.Rows
theorem vals_ints:∀ {vs:List Value} {ns:List Int},IntsAre vs ns→Vals (ns.map V.int) vs
 | _,_,.nil=>.nil
 | _,_,.cons n t h=>.cons ⟨t,rfl⟩ (vals_ints h)
def Only (H:Hp):Prop:=∀ b,H b=none∨∃ o xs,H b=some (.frz o (.lst xs))
theorem law_call {P:Program} {w:World} {K:PySem.W.Frag} {mg mb:Str→Option Value} {CX:CXT} {k:Nat} {fa a:Addr} {fd:FuncData} {x:Str} {sp:Sp} {s₁:Shared} {vs:List Value} {ns:List Int}
  (KX:K.In s₁.heap) (hns:s₁.heap.Ns mainGlobals mg) (hb:s₁.heap.Ns builtinsNs mb) (hbb:∀ x:Str,x≠"__name__"→mb x=bootBuiltins x) (hlim:s₁.heap.NoLimit) (hg:s₁.gens=#[])
  (ha:s₁.heap.get? a=some { cls:=.type "list",data:=.seq vs.toArray }) (hi:IntsAre vs ns) (hl:ns.length≤sizeLine) (hr:Room k callerA)
  (F:∀ base:Heap,K.In base→base.Ns mainGlobals mg→FnOk P w K mg base CX k fa fd [x] sp) (hbind:∀ (s:Shared) (u:Value),BindsTo s fd ⟨[u],[]⟩ [(x,u)])
  (hsp:∀ H:Hp,Only H→SqL K H a (ns.map V.int)→sp [.ref a] H (fun v _=>v=.bl true) fun _ _ _=>False)
  (hCX:∀ H e s',CX [] H s₁ (fun _ _ _=>False) e s'→False) :
  codeAny (model P w) callerA (.call (.ref fa) ⟨[.ref a],[]⟩) (fun r s'=>r=.ok (.ret (.bool true))∧OldK s₁.heap s'.heap∧s'.os=s₁.os∧AllBare s'.gens) s₁:=by
 have rv:=vals_ints hi
 have lenV:=hi.length
 -- from an abstract heap in which nothing but the script may be tracked
 have core:∀ H:Hp,Only H→SqL K H a (ns.map V.int)→HOk P w H s₁.heap→(∀ b,H b≠none→b=a)→(H a≠none→K.lookup a=none)→
   codeAny (model P w) callerA (.call (.ref fa) ⟨[.ref a],[]⟩) (fun r s'=>r=.ok (.ret (.bool true))∧OldK s₁.heap s'.heap∧s'.os=s₁.os∧AllBare s'.gens) s₁:=by
  intro H hO hS hok hA hK
  have base_of:∀ {b:Addr} {o:Obj},s₁.heap.get? b=some o→H b=none→(hidT s₁.heap H).get? b=some o:=fun e n=>hidT_get e n
  have noA:∀ {b:Addr} {o:Obj} {es:Array DictEntry} {ep:Nat},s₁.heap.get? b=some o→o.data=.dict es ep→H b=none:=fun {b o es ep} e d=>by
   cases q:H b with
   | none=>rfl
   | some u=>
    have e':b=a:=hA b (by rw [q]; simp)
    subst e'
    rw [ha] at e; cases e
    have d':Data.seq vs.toArray _=Data.dict es ep:=d
    cases d'
  have nsK:∀ {b:Addr} {m:Str→Option Value},s₁.heap.Ns b m→(hidT s₁.heap H).Ns b m:=fun {b m} hp1=>by obtain ⟨o,es,ep,e,d,r⟩:=hp1; exact ⟨o,es,ep,base_of e (noA e d),d,r⟩
  have hKb:K.In (hidT s₁.heap H):=fun b o e=>base_of (KX b o e) (by
   cases q:H b with
   | none=>rfl
   | some u=>
    have e':b=a:=hA b (by rw [q]; simp)
    subst e'
    rw [hK (by rw [q]; simp)] at e; cases e)
  have hM:Mod K mg (hidT s₁.heap H):=⟨hKb,nsK hns,⟨mb,nsK hb,hbb⟩,let ⟨mc,h1,h2⟩:=hlim; ⟨mc,nsK h1,h2⟩⟩
  have e0:Env0 P w K mg (hidT s₁.heap H) callerA [] s₁ H:=⟨rfl,hM,fun b o e=>of_hidT e,Nat.le_of_eq (hidT_size _ _),trivial,fun b hb=>absurd (show b∈([]:List Addr) from hb) (by simp),hok,.of_eq hg⟩
  refine codeAny_mono ((F _ hKb (nsK hns)).run callerA [] s₁ H ⟨[.ref a],[]⟩ [.ref a] [.ref a] _ _ hr e0 (hbind s₁ (.ref a)) (.cons rfl .nil) (hsp H hO hS)) fun r s' h=>?_
  cases r with
  | error e=>exact (hCX H e s' h).elim
  | ok fl=>
   cases fl with
   | next=>exact False.elim h
   | brk=>exact False.elim h
   | cont=>exact False.elim h
   | ret u=>
    obtain ⟨v,H',os,bare,un,hok',r',q⟩:=h
    have q':v=.bl true:=q
    subst q'
    obtain rfl:u=Value.bool true:=r'
    refine ⟨rfl,OldK.of_keep fun b o e=>?_,os,bare⟩
    cases q:H b with
    | none=>exact un.keep b o e q (by intro z; exact absurd (show b∈([]:List Addr) from z) (by simp)) (by simp)
    | some u=>
     rcases hO b with z | ⟨ob,xs,z⟩
     ·rw [q] at z; cases z
     ·have z2:=un.frzs b ob _ z
      obtain ⟨e1,_⟩:=hok b _ z
      obtain ⟨e2,_⟩:=hok' b _ z2
      rw [e] at e1; cases e1
      exact e2
 cases hk:K.lookup a with
 | some o=>
  -- the script is one of the module's own objects
  have e:=KX a o hk
  rw [ha] at e
  cases e
  refine core (fun _=>none) (fun _=>.inl rfl) (.inr ⟨_,vs.toArray,_,hk,rfl,rfl,rfl,by rw [List.size_toArray,lenV]; exact hl,by simpa using rv⟩) (fun b u z=>by have z':(none:Option HO)=some u:=z; cases z') (fun b z=>absurd rfl z) fun z=>absurd rfl z
 | none=>
  refine core (fun b=>if b=a then some (.frz { cls:=.type "list",data:=.seq vs.toArray } (.lst (ns.map V.int))) else none) (fun b=>?_) (.inl (.inr ⟨{ cls:=.type "list",data:=.seq vs.toArray },if_pos rfl⟩)) (fun b u z=>?_) (fun b z=>?_) fun _=>hk
  ·by_cases hb:b=a
   ·exact .inr ⟨_,_,if_pos hb⟩
   ·exact .inl (if_neg hb)
  ·by_cases hb:b=a
   ·have z':=(if_pos hb).symm.trans z
    cases z'
    subst hb
    exact ⟨ha,by rw [List.length_map]; exact hl,vs,_,rv,ha⟩
   ·have z':=(if_neg hb).symm.trans z
    cases z'
  ·by_cases hb:b=a
   ·exact hb
   ·exact absurd (if_neg hb) z
abbrev KOf {K:PySem.W.Frag} {h:Heap} (_:K.In h):PySem.W.Frag:=K
theorem walk_of {l:PySem.W.OpenLaw} {n k:Nat} {q:Program} {loose:List Str} {XP:(Str→Option Value)→Heap→Prop} {YP:World→Heap→Prop} {d:DefRec} {K:Params→PySem.W.Frag} {CX:World→CXT} {sp:World→Sp} {x:Str}
  (hn:l.most=some n) (hn2:n≤sizeLine) (hdf:d.params.defaults=[]) (hr:Room k callerA)
  (hY:∀ (w:World) (h:Heap),YP w h→(K w.params).In h)
  (F:∀ (w:World) (mg:Str→Option Value) (fa:Addr) (h:Heap),(K w.params).In h→h.Ns mainGlobals mg→mg d.name=some (.ref fa)→
   ∃ fd:FuncData,(∀ (s:Shared) (u:Value),BindsTo s fd ⟨[u],[]⟩ [(x,u)])∧
    ∀ base:Heap,(K w.params).In base→base.Ns mainGlobals mg→FnOk l.prog w (K w.params) mg base (CX w) k fa fd [x] (sp w))
  (hsp:∀ (w:World) (H:Hp) (a:Addr) (ns:List Int),ns.length≤n→Only H→SqL (K w.params) H a (ns.map V.int)→sp w [.ref a] H (fun v _=>v=.bl true) fun _ _ _=>False)
  (hCX:∀ (w:World) (H:Hp) (s:Shared) (e:Value) (s':Shared),CX w [] H s (fun _ _ _=>False) e s'→False) :
  PySem.W.WalkO q loose XP YP l.row.toRowW d [] (fun f vs=>PySem.call f vs):=by
 refine Att.attach_call hn hdf fun w s₀ s₁ mg mb fa o pm cd doc a vs ns G Y ho hd hcd hmg hobj hints hlen hg=>?_
 have KX:=hY w _ Y
 obtain ⟨fd,hb,hF⟩:=F w mg fa _ KX G.T.g hmg
 exact law_call KX G.T.g G.T.b G.T.builtins G.T.nolimit hg hobj hints (Nat.le_trans hlen hn2) hr hF hb (fun H hO hS=>hsp w H a ns hlen hO hS) fun H e s'=>hCX w H s₁ e s'
end L2
/- THE LAST THEOREM (shape; LID,My.* are yours):
   My.Adr: a structure of the addresses that your layer names (classes,functions); My.Txt K t: a structure (Prop) of the equations over K;
   My.txt_mk:{K} {implicit addresses ..} (e1:nsIn K mainGlobals "law" = some (some (.ref f))) (e2:K.lookup f=some ⟨oc,od,.func (fnOf "law" "law" params body scope dV kV doc pm an cdv ct),sl⟩) (e3:codeIn K cdv "law" = true) ..:∃ t,My.Txt K t
set_option maxRecDepth 100000 in
set_option maxHeartbeats 0 in
theorem PySem.Challenge.cw_LID_holds:PySem.Challenge.rw_LID.Holds:=by
 w_on; o_law; k_head; (case hw=>w_witness2)
 k_fill
 refine L2.walk_of (l:=PySem.Challenge.rw_LID) (n:=63) (k:=40) (x:="script") (CX:=fun w=>..) (sp:=fun _=>My.sp_law) rfl (by decide) rfl ⟨rfl,by decide,by decide⟩ (fun w h Y=>PySem.W.kIn_of Y) ?F ?S ?C
 case F=>
  intro w mg fa h KX G hmg
  have T:∃ t,My.Txt (L2.KOf KX) t:=by
   dsimp only [L2.KOf]                          -- K must stand as «<heap const> w.params» for k_is
   refine' My.txt_mk ?e1 ?e2 ?e3 ..
   (case e1=>PySem.W.k_is)                    -- in the order: a name -> its address -> its object -> its parts
   (case e2=>PySem.W.k_is)
   ..
  obtain ⟨t,T⟩:=T
  have e0:=hmg.symm.trans (PySem.W.mg_of KX G T.law)
  cases e0                                       -- fa is the law's own address
  exact ⟨_,fun s u=>.of_eq rfl,fun base kb nb=>My.law_fn T kb nb⟩     -- if «.of_eq rfl» comes too early: refine' ⟨_,?b,fun base kb nb=>My.law_fn T kb nb⟩; exact fun s u=>.of_eq rfl
 case S=>exact fun w H a ns hl hO hS=>..
 case C=>exact ..
(the tactic k_is has no namespace: write k_is) -/
namespace L2
open PySem PySem.Spec PyProof.Rows
def inClass (s:Stmt) (j:Nat):Stmt:=match s with
 | .ClassDef _ _ _ body _ _ _ _ _ _ _=>body.getD j (.Pass ⟨0,0,0,0⟩)
 | _=>.Pass ⟨0,0,0,0⟩
def defArgs (s:Stmt):Arguments:=match s with
 | .FunctionDef _ a _ _ _ _ _ _ _ _=>a
 | _=>{ posonlyargs:=[],args:=[],vararg:=none,kwonlyargs:=[],kw_defaults:=[],kwarg:=none,defaults:=[] }
def defBody (s:Stmt):List Stmt:=match s with
 | .FunctionDef _ _ b _ _ _ _ _ _ _=>b
 | _=>[]
def defScope (s:Stmt):Scope:=match s with
 | .FunctionDef _ _ _ _ _ _ sc _ _ _=>sc
 | _=>{ kind:=.function,names:=[],isGenerator:=false,isCoroutine:=false }
abbrev CX0:CXT:=fun _ _ _ _ _ _=>False
abbrev E0:XK:=fun _ _ _=>False
theorem pass0 {X:Cx}:Passes CX0 X E0:=fun _ _ _ _ _ _ _ h=>h.elim
structure Fun (K:PySem.W.Frag) (x qual:Str) (st:Stmt) (f:Addr) (fd:FuncData):Prop where
 ex:∃ (oc:Value) (od:Option Addr) (kV doc pm:Value) (an:Option Addr) (cdv ct:Value) (osl:Array (Option Value)),
  fd=PySem.W.fnOf x qual (defArgs st) (defBody st) (defScope st) .none kV doc pm an cdv ct∧K.lookup f=some ⟨oc,od,.func fd,osl⟩∧PySem.W.codeIn K cdv qual=true
 kp:PySem.W.keepIn K (.ref f)=true
section
variable {P:Program} {w:World} {K:PySem.W.Frag} {mg:Str→Option Value} {base:Heap}
theorem Fun.ok {x qual:Str} {st:Stmt} {f:Addr} {fd:FuncData} {N ps:List Str} {k:Nat} {sp:Sp} (F:Fun K x qual st f fd) (S:FnScope N ps (defScope st)) (len:∀ vs H Q E,sp vs H Q E→vs.length=ps.length)
  (hbody:∀ (cdv:Value) (A:Around) (outer:List Env) (s:Shared) (H:Hp) (vs:List V) (Q:VK) (E:XK),Room k (A.deeper (envOfC qual (defScope st) s.heap.objs.size f cdv))→sp vs H Q E→
   ∃ t,PSs (cxOf CX0 P w K mg base N qual (defScope st) f cdv A outer s H E).nox (defBody st) t∧t { nx:=fun _ H'=>Q .non H',rt:=Q } (start N vs) H):FnOk P w K mg base CX0 (k + 1) f fd ps sp:=by
 obtain ⟨oc,od,kV,doc,pm,an,cdv,ct,osl,rfl,lk,hcd⟩:=F.ex
 refine fn_of lk hcd S len fun A outer s H vs Q E hr hsp=>?_
 obtain ⟨t,h,q⟩:=hbody cdv A outer s H vs Q E hr hsp
 exact ⟨t,h.nox,q⟩
theorem Fun.binds {x qual:Str} {st:Stmt} {f:Addr} {fd:FuncData} {ps:List Str} (F:Fun K x qual st f fd)
  (h:∀ (kV doc pm:Value) (an:Option Addr) (cdv ct:Value) (us:List Value),us.length=ps.length→bindArgs (PySem.W.fnOf x qual (defArgs st) (defBody st) (defScope st) .none kV doc pm an cdv ct) ⟨us,[]⟩=pure (ps.zip us)):Binds K fd ps []:=by
 obtain ⟨oc,od,kV,doc,pm,an,cdv,ct,osl,rfl,lk,hcd⟩:=F.ex
 exact .all (h kV doc pm an cdv ct)
theorem fun_mk {x qual:Str} {st:Stmt} {f:Addr} {oc:Value} {od an:Option Addr} {osl:Array (Option Value)} {kV doc pm cdv ct:Value} (l:K.lookup f=some ⟨oc,od,.func (PySem.W.fnOf x qual (defArgs st) (defBody st) (defScope st) .none kV doc pm an cdv ct),osl⟩)
  (c:PySem.W.codeIn K cdv qual=true) (k:PySem.W.keepIn K (.ref f)=true):Fun K x qual st f (PySem.W.fnOf x qual (defArgs st) (defBody st) (defScope st) .none kV doc pm an cdv ct):=⟨⟨oc,od,kV,doc,pm,an,cdv,ct,osl,rfl,l,c⟩,k⟩
end
theorem small1000 {n:Nat} (h:n≤1000):n < sizeLine:=Nat.lt_of_le_of_lt h (by decide)
section
variable {X:Cx}
theorem pv (i:Nat) {x:Str} {pos:Pos} (hN:X.N[i]?=some x:=by rfl) (hv:Vis X.env.scope x:=by first | exact Or.inl rfl | exact Or.inr (Or.inl rfl) | exact Or.inr (Or.inr rfl)) (hd:(x == ("__debug__":Str))=false:=by decide)
  (hcd:(x == ("__classdict__":Str))=false:=by decide):PE X (.Name x pos) (tVar i):=pe_var hN hv hd hcd
end
theorem iteF {A B:Prop} (h:B):if false=true then A else B:=by
 rw [if_neg Bool.false_ne_true]
 exact h
theorem iteT {A B:Prop} (h:A):if true=true then A else B:=by
 rw [if_pos rfl]
 exact h
theorem ite2 {c A B:Prop} [Decidable c] (h1:c→A) (h2:¬ c→B):if c then A else B:=by
 by_cases h:c
 ·rw [if_pos h]
  exact h1 h
 ·rw [if_neg h]
  exact h2 h
def Same (H H':Hp):Prop:=∀ b o,H b=some o→H' b=some o
theorem Same.refl (H:Hp):Same H H:=fun _ _ h=>h
theorem Same.trans {H H1 H2:Hp} (a:Same H H1) (b:Same H1 H2):Same H H2:=fun c o h=>b c o (a c o h)
theorem Same.free {H H':Hp} (e:Same H H') {l:Addr} (h:H' l=Option.none):H l=Option.none:=by
 cases q:H l with
 | none=>rfl
 | some o=>
  rw [e l o q] at h
  cases h
theorem Same.seq {K:PySem.W.Frag} {H H':Hp} {a:Addr} {xs:List V} (e:Same H H') (h:SqL K H a xs):SqL K H' a xs:=by
 rcases h with (h | ⟨o,h⟩) | h
 ·exact .inl (.inl (e _ _ h))
 ·exact .inl (.inr ⟨o,e _ _ h⟩)
 ·exact .inr h
abbrev Cx.cmp (X:Cx) (scope:Scope) (cl:List (Str × Addr)) (vars:List Str) (C:Addr) (s:Shared) (H:Hp) (fp:List Addr) (pins:List (Addr × Obj)):Cx:=
 { X with N:=vars++X.N,s₀:=s,H₀:=H,env:=compEnvC scope cl C X.env,outer:=X.stack,stack:=X.stack,ex:=fp,fn:=fun _=>false,pn:=X.pn++pins,xe:=fun _ _=>False }
structure CmpScope (X:Cx) (scope:Scope):Prop where
 kind:scope.kind=.function
 nocell:∀ y∈scope.names,y.2≠.cell
 names:∀ y∈scope.names,y.2=.local→scope.names.lookup y.1=some .local
 free:∀ y∈scope.names,y.2=.free→X.env.scope.names.lookup y.1=some .cell∨X.env.scope.names.lookup y.1=some .free
 locs:∀ x∈X.N,scope.names.lookup x≠some .local
def cmpB (N:List Str) (so sc:Scope):Bool:=decide (sc.kind=.function) && sc.names.all (fun y=>decide (y.2≠.cell)) && sc.names.all (fun y=>decide (y.2=.local→sc.names.lookup y.1=some .local)) &&
 sc.names.all (fun y=>decide (y.2=.free→so.names.lookup y.1=some .cell∨so.names.lookup y.1=some .free)) && N.all (fun x=>decide (sc.names.lookup x≠some .local))
theorem cmp_ok {X:Cx} {scope:Scope} {N:List Str} {so:Scope} (hN:X.N=N) (hs:X.env.scope=so) (h:cmpB N so scope=true):CmpScope X scope:=by
 unfold cmpB at h
 simp only [Bool.and_eq_true,List.all_eq_true,decide_eq_true_eq] at h
 obtain ⟨⟨⟨⟨h1,h2⟩,h3⟩,h4⟩,h5⟩:=h
 subst hN hs
 exact ⟨h1,h2,h3,h4,h5⟩
theorem closure_go {env:Env}:∀ (names:List (Str × NameKind)) (acc:List (Str × Addr)),(∀ y∈names,y.2=.free→∃ c,env.cells.lookup y.1=some c)→(∀ p∈acc,env.cells.lookup p.1=some p.2)→
  ∃ cl,(forIn names acc (fun x cs=>(match x with | (name,kind)=>if (kind == NameKind.free)=true then do let c ← cellOf env name; pure (ForInStep.yield ((name,c)::cs)) else pure (ForInStep.yield cs):Sem (ForInStep (List (Str × Addr))))))=pure cl∧
   (∀ p∈cl,env.cells.lookup p.1=some p.2)∧(∀ p∈acc,p∈cl)∧∀ y∈names,y.2=.free→∃ c,(y.1,c)∈cl:=by
 intro names
 induction names with
 | nil=>intro acc _ h; exact ⟨acc,rfl,h,fun _ z=>z,fun y hy=>by cases hy⟩
 | cons y r ih=>
  intro acc hn ha
  obtain ⟨n,k⟩:=y
  by_cases hk:k=.free
  ·subst hk
   obtain ⟨c,hc⟩:=hn (n,.free) List.mem_cons_self rfl
   obtain ⟨cl,e,h1,h2,h3⟩:=ih ((n,c)::acc) (fun y hy=>hn y (List.mem_cons_of_mem _ hy)) (fun p hp=>by
    rcases List.mem_cons.mp hp with rfl | hp
    ·exact hc
    ·exact ha p hp)
   refine ⟨cl,?_,h1,fun p hp=>h2 p (List.mem_cons_of_mem _ hp),fun y hy hf=>?_⟩
   ·rw [List.forIn_cons]
    have e1:cellOf env n=pure c:=by unfold cellOf; rw [hc]
    simp only [beq_self_eq_true,if_true]
    rw [e1]
    exact e
   ·rcases List.mem_cons.mp hy with rfl | hy
    ·exact ⟨c,h2 _ List.mem_cons_self⟩
    ·exact h3 y hy hf
  ·obtain ⟨cl,e,h1,h2,h3⟩:=ih acc (fun y hy=>hn y (List.mem_cons_of_mem _ hy)) ha
   refine ⟨cl,?_,h1,h2,fun y hy hf=>?_⟩
   ·rw [List.forIn_cons]
    have hb:(k == NameKind.free)=false:=by simpa using hk
    simp only [hb,Bool.false_eq_true,if_false]
    exact e
   ·rcases List.mem_cons.mp hy with rfl | hy
    ·exact absurd hf hk
    ·exact h3 y hy hf
theorem closure_ok {scope:Scope} {env:Env} (h:∀ y∈scope.names,y.2=.free→∃ c,env.cells.lookup y.1=some c) :
  ∃ cl,closureFor scope env=pure cl∧(∀ p∈cl,env.cells.lookup p.1=some p.2)∧∀ y∈scope.names,y.2=.free→∃ c,(y.1,c)∈cl:=by
 obtain ⟨cl,e,h1,_,h3⟩:=closure_go (env:=env) scope.names [] h (fun p hp=>by cases hp)
 refine ⟨cl,?_,h1,h3⟩
 unfold closureFor
 dsimp only
 rw [e]
 rfl
theorem lookup_relabel {env:Env}:∀ {names:List (Str × NameKind)} {x:Str} {k:NameKind},
  (names.map fun (n,k)=>if (k == NameKind.free && env.scope.kind == .function && env.kindOf n == some .cell) then (n,NameKind.cell) else (n,k)).lookup x=some k→
  names.lookup x=some k∨(k=.cell∧names.lookup x=some .free)
 | [],_,_,h=>by simp at h
 | (n,k0)::r,x,k,h=>by
  have ih:=@lookup_relabel env r x k
  change List.lookup x ((if (k0 == NameKind.free && env.scope.kind == .function && env.kindOf n == some .cell)=true then (n,NameKind.cell) else (n,k0))::_)=_ at h
  by_cases hc:(k0 == NameKind.free && env.scope.kind == .function && env.kindOf n == some .cell)=true
  ·rw [if_pos hc] at h
   cases hx:x == n with
   | true=>
    simp only [List.lookup_cons,hx] at h ⊢
    have hk0:k0=.free:=by
     simp only [Bool.and_eq_true] at hc
     simpa using hc.1.1
    subst hk0
    cases h
    exact .inr ⟨rfl,rfl⟩
   | false=>
    simp only [List.lookup_cons,hx] at h ⊢
    exact ih h
  ·rw [if_neg hc] at h
   cases hx:x == n with
   | true=>
    simp only [List.lookup_cons,hx] at h ⊢
    exact .inl h
   | false=>
    simp only [List.lookup_cons,hx] at h ⊢
    exact ih h
theorem lookup_mem {α β:Type} [BEq α] [LawfulBEq α]:∀ {l:List (α × β)} {x:α} {b:β},(x,b)∈l→∃ c,l.lookup x=some c
 | (y,c)::r,x,b,h=>by
  cases hx:x == y with
  | true=>exact ⟨c,by simp only [List.lookup_cons,hx]⟩
  | false=>
   have hr:(x,b)∈r:=by
    rcases List.mem_cons.mp h with e | e
    ·cases e; simp at hx
    ·exact e
   obtain ⟨c',e⟩:=lookup_mem hr
   exact ⟨c',by simp only [List.lookup_cons,hx]; exact e⟩
section
variable {X:Cx} {pins:List (Addr × Obj)} {σ:St} {H:Hp} {s:Shared}
theorem inv_cmp {scope:Scope} {cl:List (Str × Addr)} {vars:List Str} {h1:Heap} {t1:Nat} {fp:List Addr} (hc:X.calm=true) (S:CmpScope X scope) (I:Inv X pins σ H s)
  (c1:∀ p∈cl,X.env.cells.lookup p.1=some p.2) (c2:∀ y∈scope.names,y.2=.free→∃ c,(y.1,c)∈cl) (hns:h1.Ns s.heap.objs.size (fun _=>none)) (hk:∀ b o,s.heap.get? b=some o→h1.get? b=some o)
  (f:∀ b∈fp,FpOk X pins H b) (fo:∀ b∈fp,b < s.heap.objs.size) :
  Inv (X.cmp scope cl vars s.heap.objs.size s H fp pins) [] (List.replicate vars.length none++σ) H { s with heap:=h1,toks:=t1 }:=by
 have cl1:∀ x c,cl.lookup x=some c→X.env.cells.lookup x=some c:=fun x c e=>c1 (x,c) (PySem.mem_of_lookup e)
 have fsub:∀ b∈frs X.stack,b∈X.env.locals::X.fs:=I.stkSub
 refine ⟨⟨I.ok.mod,S.kind,I.ok.glob,I.ok.blt,Nat.le_refl _,fun x y c h1 h2=>I.ok.inj x y c (cl1 x c h1) (cl1 y c h2),fun x hx=>?_,fun x c hf=>absurd hf (by simp),I.ok.hd,I.ok.frames,.inl rfl,
   fun b hb=>⟨Nat.ne_of_lt (fo b hb),fun x c e=>(f b hb).2.2.2.2.1 x c (cl1 x c e)⟩,I.bs,Nat.le_trans I.ok.bsz I.sz,fun b o e hb=>?_,fun b hb hm=>?_,I.stack,I.stkFree⟩,
  rfl,I.bare,Un.kept hk,⟨_,hns,fun i x v e1 e2 e3=>?_⟩,fun x c e=>?_,I.hok.fresh (Nat.le_refl _),fun x c e=>I.freeC x c (cl1 x c e),fun p hp=>?_,I.hok.kept hk,?_⟩
 ·-- has
  have hx':(relabel scope X.env).names.lookup x=some .cell∨(relabel scope X.env).names.lookup x=some .free:=hx
  have hfree:scope.names.lookup x=some .free:=by
   rcases hx' with q | q
   ·rcases lookup_relabel q with z | ⟨_,z⟩
    ·exact absurd rfl (S.nocell _ (PySem.mem_of_lookup z))
    ·exact z
   ·rcases lookup_relabel q with z | ⟨z,_⟩
    ·exact z
    ·cases z
  obtain ⟨c,hm⟩:=c2 _ (PySem.mem_of_lookup hfree) rfl
  exact lookup_mem hm
 ·-- noex
  rcases (f b hb).2.2.2.1 with z | z
  ·exact I.ok.noex b o e z
  ·exact absurd (Nat.lt_of_lt_of_le (Heap.lt_size (I.ok.bs b o e).1) z) (Nat.lt_irrefl _)
 ·-- exfs
  rcases List.mem_cons.mp (fsub b hm) with z | z
  ·exact (f b hb).2.1 z
  ·exact (f b hb).2.2.1 z
 ·-- loc
  have hi:vars.length≤i:=by
   by_cases hi:i < vars.length
   ·rw [List.getElem?_append_left (by simpa using hi),List.getElem?_replicate,if_pos hi] at e2
    cases e2
   ·omega
  rw [List.getElem?_append_right (by simpa using hi),List.length_replicate] at e2
  have e1':X.N[i - vars.length]?=some x:=by
   rw [← List.getElem?_append_right hi]; exact e1
  have hfree:scope.names.lookup x=some .free:=by
   rcases e3 with q | q | q
   ·rcases lookup_relabel q with z | ⟨z,_⟩
    ·exact absurd z (S.locs x (List.mem_of_getElem? e1'))
    ·cases z
   ·rcases lookup_relabel q with z | ⟨_,z⟩
    ·exact absurd rfl (S.nocell _ (PySem.mem_of_lookup z))
    ·exact z
   ·rcases lookup_relabel q with z | ⟨z,_⟩
    ·exact z
    ·cases z
  have hout:=S.free _ (PySem.mem_of_lookup hfree) rfl
  obtain ⟨m,hn,hl⟩:=I.loc
  obtain ⟨u,r,lk⟩:=hl _ x v e1' e2 (by rcases hout with z | z; exact .inr (.inl z); exact .inr (.inr z))
  refine ⟨u,r,.inr ⟨?_,?_⟩⟩
  ·rcases e3 with q | q | q
   ·rcases lookup_relabel q with z | ⟨z,_⟩
    ·exact absurd z (S.locs x (List.mem_of_getElem? e1'))
    ·cases z
   ·exact .inl q
   ·exact .inr q
  ·obtain ⟨c0,hm⟩:=c2 _ (PySem.mem_of_lookup hfree) rfl
   obtain ⟨c,hc'⟩:=lookup_mem hm
   refine ⟨c,hc',?_⟩
   rcases lk with ⟨z,_⟩ | ⟨_,c',e',z⟩
   ·have z':X.env.scope.names.lookup x=some .local:=z
    rcases hout with y | y
    ·rw [y] at z'; cases z'
    ·rw [y] at z'; cases z'
   ·rw [cl1 x c hc'] at e'; cases e'
    exact z.keeps hk
 ·-- cell
  obtain ⟨v,z⟩:=I.cell x c (cl1 x c e)
  exact ⟨v,z.keeps hk⟩
 ·-- pins
  have hp':p∈X.pn++pins:=by simpa using hp
  obtain ⟨e,n,ne,nf,d⟩:=I.pin p hp'
  refine ⟨hk _ _ e,n,Nat.ne_of_lt (Heap.lt_size e),fun hm=>?_,d⟩
  rcases List.mem_cons.mp (fsub p.1 hm) with z | z
  ·exact ne z
  ·exact nf z
 ·show (List.replicate vars.length none++σ).length=(vars++X.N).length
  rw [List.length_append,List.length_append,List.length_replicate,I.len]
theorem inv_cmp_end {scope:Scope} {cl:List (Str × Addr)} {vars:List Str} {H':Hp} {σ':St} {s':Shared} {h':Heap} {fp:List Addr} (I:Inv X pins σ H s)
  (f:∀ b∈fp,FpOk X pins H b) (J:Inv (X.cmp scope cl vars s.heap.objs.size s H fp pins) [] σ' H' s') (hs:Heap.SameBut s.heap.objs.size s'.heap h'):Inv X pins σ H' { s' with heap:=h' }:=by
 have u:Un (frs X.stack) fp H H' s.heap s'.heap:=J.base
 have ne:∀ b o,s.heap.get? b=some o→b≠s.heap.objs.size:=fun b o e=>Nat.ne_of_lt (Heap.lt_size e)
 have u':Un (frs X.stack) fp H H' s.heap h':=⟨fun b o e n hb hx=>(hs.2 b (ne b o e)).trans (u.keep b o e n hb hx),fun b o e n hb hx=>by
   obtain ⟨sl,z⟩:=u.slot b o e n hb hx
   exact ⟨sl,(hs.2 b (ne b o e)).trans z⟩,u.free,fun b o e hx=>by
   obtain ⟨o',z⟩:=u.there b o e hx
   exact ⟨o',(hs.2 b (ne b o e)).trans z⟩,u.tups,u.frzs,u.tbls⟩
 have hn:H' s.heap.objs.size=none:=J.free
 have ok:HOk X.prog X.w H' h':=fun b o e=>by
  refine (J.hok b o e).stay (fun c v hc q=>(hs.2 c ?_).trans q) (fun _ q=>q) fun _ _ q=>q
  rintro rfl
  rcases hc with z | z
  ·rw [← z,hn] at e; cases e
  ·rw [hn] at z; cases z
 exact I.call' (s':={ s' with heap:=h' }) (ch:=fp) J.os u' ok J.bare fun b hb=>⟨(f b hb).2.2.2.1,(f b hb).2.1,(f b hb).2.2.2.2.1,(f b hb).2.2.2.2.2⟩
end
section
variable {prog:Program} {w:World} {A:Around} {R:Result→Shared→Prop} {s:Shared}
theorem codeAny_compLoop_go {elt target iter:Expr} {ifs:List Expr} {scope:Scope} {pos:Pos} {it acc:Value} {env:Env} (I:Nat→Shared→Prop)
  (turn:∀ n s,I n s→wpAny (model prog w) A (pyNext it) (fun r s₁=>match r with
   | none=>R (.ok .next) s₁
   | some v=>wpAny (model prog w) A (letOwnedTupleGo target it v) (fun _ s₂=>wpAny (model prog w) A (assign target env v) (fun _ s₂=>
     wpAny (model prog w) A (forIn ifs true fun c r=>if r=true then do let ok ← isTrue c env (eval c env); pure (ForInStep.yield ok) else pure (ForInStep.yield r)) (fun ok s₃=>
      if ok=true then wpAny (model prog w) A (eval elt env) (fun x s₄=>
       wpAny (model prog w) A (call (.builtin "list.append") [acc,x]) (fun _ s₅=>∃ m,m < n∧I m s₅) (fun _ _=>False) s₄) (fun _ _=>False) s₃
      else ∃ m,m < n∧I m s₃) (fun _ _=>False) s₂) (fun _ _=>False) s₂) (fun _ _=>False) s₁) (fun _ _=>False) s)
  (n:Nat) (h:I n s):codeAny (model prog w) A (.compLoop (.ListComp elt [⟨target,iter,ifs,0⟩] scope pos) 0 it acc env) R s:=by
 refine codeAny_loop rfl I (fun n s hI=>?_) n h
 show wpAny _ A ((compTurn (.ListComp elt [⟨target,iter,ifs,0⟩] scope pos) 0 it acc env).onRaise (fun x=>do noteFrame x env; theTreesLotGoes x)) _ _ s
 refine wpAny_noted ?_
 rw [compTurn_list]
 have no:∀ {E:Value→Shared→Prop} (e:Value) (s:Shared),False→E e s:=fun _ _ h=>h.elim
 refine wpAny_bind (wpAny_standAt (wpAny_bind (wpAny_mono (turn n s hI) (fun r s₁ h₁=>?_) no)))
 cases r with
 | none=>exact wpAny_pure h₁
 | some v=>
  refine wpAny_bind (wpAny_mono h₁ (fun _ s₂ h₂=>?_) no)
  refine wpAny_bind (wpAny_mono h₂ (fun _ s₂ h₂=>wpAny_bind (wpAny_mono h₂ (fun ok s₃ h₃=>?_) no)) no)
  cases ok with
  | false=>exact wpAny_pure ⟨rfl,h₃⟩
  | true=>
   exact wpAny_bind (wpAny_bind (wpAny_mono h₃ (fun x s₄ h₄=>wpAny_bind (wpAny_mono h₄ (fun _ s₅ h₅=>wpAny_pure (wpAny_pure ⟨rfl,h₅⟩)) no)) no))
end
def PIfs (X:Cx) (ifs:List Expr) (t:TT):Prop:=
 ∀ (pins:List (Addr × Obj)) (s:Shared) (σ:St) (H:Hp) (Q:Bool→Hp→Prop),Inv X pins σ H s→t σ H Q→
  wpAny (model X.prog X.w) X.A (forIn ifs true fun c r=>if r=true then do let ok ← isTrue c X.env (eval c X.env); pure (ForInStep.yield ok) else pure (ForInStep.yield r)) (TP X pins σ Q) X.xe s
def tTrue:TT:=fun _ H Q=>Q true H
theorem pifs_nil {X:Cx}:PIfs X [] tTrue:=fun pins s σ H Q I h=>wpAny_tests_nil ⟨H,I,h⟩
theorem pifs_one {X:Cx} {c:Expr} {t:TT} (h:PT X c t):PIfs X [c] t:=fun pins s σ H Q I q=>wpAny_tests_one (h pins s σ H Q I q)
def tCompW (J:It) (vn:Nat) (g:TG) (tc:TT) (te:TE) (σ:St) (p:Addr) (H1:Hp) (Q:Hp→Prop):Prop:=
 ∃ W:Nat→Nat→Hp→Prop,(∃ m,W 0 m (upd H1 p (.lst [])))∧∀ i m H,W i m H→
  (J.stop i H∧Q H)∨(J.go i H∧∃ N:Hp→Prop,(∀ H',N H'→∃ m',m' < m∧W (i + 1) m' H')∧∀ x H',J.yld i H x H'→g x (List.replicate vn none++σ) H' fun σ2 H2=>(∃ τ:St,σ2=τ++σ∧τ.length=vn)∧tc σ2 H2 fun b H3=>
   if b=true then te σ2 H3 fun v H4=>∃ acc,H4 p=some (.lst acc)∧acc.length < sizeLine∧N (upd H4 p (.lst (acc++[v]))) else N H3)
def tComp (wi:TI) (vn:Nat) (g:TG) (tc:TT) (te:TE):TE:=fun σ H Q=>wi σ H fun J H1=>∀ p,H1 p=none→tCompW J vn g tc te σ p H1 (Q (.ref p))
section
variable {X:Cx}
theorem comp_block {elt tg iter:Expr} {ifs:List Expr} {scope:Scope} {pos:Pos} {vars:List Str} {g:TG} {tc:TT} {te:TE} {cl:List (Str × Addr)} (hc:X.calm=true) (S:CmpScope X scope)
  (hg:∀ cl C s H fp pins,PG (X.cmp scope cl vars C s H fp pins) tg g) (ht:∀ cl C s H fp pins,PIfs (X.cmp scope cl vars C s H fp pins) ifs tc) (he:∀ cl C s H fp pins,PE (X.cmp scope cl vars C s H fp pins) elt te)
  (c1:∀ p∈cl,X.env.cells.lookup p.1=some p.2) (c2:∀ y∈scope.names,y.2=.free→∃ c,(y.1,c)∈cl)
  {pins:List (Addr × Obj)} {s:Shared} {σ:St} {H:Hp} {it:Addr} {fp:List Addr} {tn:Nat→Heap→Prop} {J:It} {E:Value→Shared→Prop} (I:Inv X pins σ H s) (T:Turn X.prog X.w X.K tg J fp it tn) (st:tn 0 s.heap) (f:∀ b∈fp,FpOk X pins H b)
  {Q:Addr→Hp→Prop} (q:∀ p,H p=none→tCompW J vars.length g tc te σ p H (Q p)) {RR:Value→Addr→Result→Shared→Prop}
  (hRR:∀ (p C:Addr) (s':Shared) (H':Hp) (m:Str→Option Value),s'.heap.Ns C m→H' C=none→C≠X.env.locals→(∀ x c,X.env.cells.lookup x=some c→c≠C)→(∀ p∈X.pn++pins,p.1≠C)→X.s₀.heap.objs.size≤C→
   (∀ h',Heap.SameBut C s'.heap h'→Inv X pins σ H' { s' with heap:=h' })→Q p H'→RR (.ref p) C (.ok .next) s') :
  wpAny (model X.prog X.w) X.A (newList []) (fun acc s₃=>wpAny (model X.prog X.w) X.A (newFunctionEnv scope X.env.globals cl [] X.env.qual none .none (some X.env)) (fun cenv s₄=>
   codeAny (model X.prog X.w) X.A (.compStart (.ListComp elt [⟨tg,iter,ifs,0⟩] scope pos) 0 (.ref it) acc { cenv with scope:=relabel scope X.env }) (RR acc cenv.locals) s₄) E s₃) E s:=by
 refine wpAny_newObj_type (wpAny_newFunctionEnv S.nocell (by intro y hy; simp at hy) (fun h₁ hns hsb=>?_) S.kind)
 dsimp only at hns hsb ⊢
 have I3:Inv X pins σ (upd H s.heap.objs.size (.lst [])) { s with heap:=s.heap.push { cls:=.type "list",data:=.seq ([]:List Value).toArray },toks:=s.toks }:=I.lnew (its:=[]) .nil (Nat.zero_le _)
 generalize hs3:({ s with heap:=s.heap.push { cls:=.type "list",data:=.seq ([]:List Value).toArray },toks:=s.toks }:Shared)=s3 at I3
 have hp:H s.heap.objs.size=none:=I.fresh
 have eh:s3.heap=s.heap.push { cls:=.type "list",data:=.seq ([]:List Value).toArray }:=by rw [← hs3]
 have sz3:s3.heap.objs.size=s.heap.objs.size + 1:=by rw [eh,Heap.size_push]
 rw [← eh] at hns hsb
 have fo:∀ b∈fp,b < s.heap.objs.size:=fun b hb=>by
  obtain ⟨o,e,_⟩:=T.obj _ _ st b hb
  exact Heap.lt_size e
 have f3:∀ b∈fp,FpOk X pins (upd H s.heap.objs.size (.lst [])) b:=fun b hb=>by
  refine ⟨?_,(f b hb).2⟩
  rw [upd_ne (Nat.ne_of_lt (fo b hb))]; exact (f b hb).1
 have fo3:∀ b∈fp,b < s3.heap.objs.size:=fun b hb=>by rw [sz3]; exact Nat.lt_succ_of_lt (fo b hb)
 have up:∀ b o,s3.heap.get? b=some o→h₁.get? b=some o:=fun b o e=>hsb.extBut b o (Nat.ne_of_lt (Heap.lt_size e)) (Heap.get?_push_of_some _ e)
 have st1:tn 0 h₁:=T.keep 0 _ _ st fun b hb o e=>up b o (by rw [eh]; exact Heap.get?_push_of_some _ e)
 have I4:Inv (X.cmp scope cl vars s3.heap.objs.size s3 (upd H s.heap.objs.size (.lst [])) fp pins) [] (List.replicate vars.length none++σ) (upd H s.heap.objs.size (.lst [])) { s3 with heap:=h₁,toks:=s3.toks + ([]:List (Str × Value)).length }:=
  inv_cmp hc S I3 c1 c2 hns up f3 fo3
 obtain ⟨W,⟨m0,w0⟩,turn⟩:=q _ hp
 have es:({ s3 with heap:=h₁,toks:=s3.toks + ([]:List (Str × Value)).length }:Shared)={ s with heap:=h₁,toks:=s.toks + ([]:List (Str × Value)).length }:=by rw [← hs3]
 -- what stays true of the iterator's objects
 have stat:∀ {H':Hp},(∀ b∈fp,H' b=none)→∀ b∈fp,FpOk (X.cmp scope cl vars s3.heap.objs.size s3 (upd H s.heap.objs.size (.lst [])) fp pins) [] H' b:=fun hn b hb=>by
  refine ⟨hn b hb,Nat.ne_of_lt (fo3 b hb),fun hm=>?_,.inl hb,fun x c e=>(f b hb).2.2.2.2.1 x c (c1 (x,c) (PySem.mem_of_lookup e)),fun p hp=>(f b hb).2.2.2.2.2 p (by simpa using hp)⟩
  rcases List.mem_cons.mp (I3.stkSub b hm) with z | z
  ·exact (f b hb).2.1 z
  ·exact (f b hb).2.2.1 z
 have loop:∀ s₄:Shared,s₄={ s3 with heap:=h₁,toks:=s3.toks + ([]:List (Str × Value)).length }→
   codeAny (model X.prog X.w) X.A (.compLoop (.ListComp elt [⟨tg,iter,ifs,0⟩] scope pos) 0 (.ref it) (.ref s.heap.objs.size) (compEnvC scope cl s3.heap.objs.size X.env)) (RR (.ref s.heap.objs.size) s3.heap.objs.size) s₄:=by
  rintro s₄ rfl
  refine codeAny_compLoop_go (fun n s'=>∃ i H',Inv (X.cmp scope cl vars s3.heap.objs.size s3 (upd H s.heap.objs.size (.lst [])) fp pins) [] (List.replicate vars.length none++σ) H' s'∧tn i s'.heap∧(∀ b∈fp,H' b=none)∧W i n H') ?_ m0
   ⟨0,_,I4,st1,fun b hb=>(f3 b hb).1,w0⟩
  rintro n s5 ⟨i,H5,I5,st5,fr5,w5⟩
  rcases turn i n H5 w5 with ⟨stop,qn⟩ | ⟨go,N,hN,step⟩
  ·refine thn (T.done (X.cmp scope cl vars s3.heap.objs.size s3 (upd H s.heap.objs.size (.lst [])) fp pins) rfl rfl rfl hc i [] s5 _ H5 _ I5 (stat fr5) st5 stop) fun r s6 hpat=>?_
   obtain ⟨hr,I6⟩:=hpat
   subst hr
   obtain ⟨m,hn,_⟩:=id I6.loc
   refine hRR _ _ s6 H5 m hn I6.free ?_ ?_ ?_ ?_ (fun h' hs'=>inv_cmp_end I3 f3 I6 hs') qn
   ·exact Nat.ne_of_gt I3.lt
   ·intro x c e z
    obtain ⟨v,hv⟩:=I3.cell x c e
    exact absurd hv.lt (by rw [z]; exact Nat.lt_irrefl _)
   ·intro p hp z
    obtain ⟨e,_⟩:=I3.pin p hp
    exact absurd (Heap.lt_size e) (by rw [z]; exact Nat.lt_irrefl _)
   ·exact I3.sz
  ·refine thn (T.item (X.cmp scope cl vars s3.heap.objs.size s3 (upd H s.heap.objs.size (.lst [])) fp pins) rfl rfl rfl hc i [] s5 _ H5 _ I5 (stat fr5) st5 go) fun r s6 hpat=>?_
   obtain ⟨u,hr,h6⟩:=hpat
   subst hr
   refine thn h6 fun _ s7 hpat=>?_
   obtain ⟨x,H7,I7,r7,y7,st7,fr7⟩:=hpat
   have I7':=I7.pinned (stat fr7) (T.obj _ _ st7)
   refine thn (hg _ _ _ _ _ _ _ s7 _ H7 x u _ I7' r7 (step x H7 y7)) fun _ s8 hpat=>?_
   obtain ⟨σ8,H8,I8,⟨τ,e8,l8⟩,q8⟩:=hpat
   have back:∀ {H9:Hp} {s9:Shared} {m':Nat},Inv (X.cmp scope cl vars s3.heap.objs.size s3 (upd H s.heap.objs.size (.lst [])) fp pins) ([]++pinsAt fp s7.heap) σ8 H9 s9→m' < n→W (i + 1) m' H9→
     ∃ m,m < n∧∃ i H',Inv (X.cmp scope cl vars s3.heap.objs.size s3 (upd H s.heap.objs.size (.lst [])) fp pins) [] (List.replicate vars.length none++σ) H' s9∧tn i s9.heap∧(∀ b∈fp,H' b=none)∧W i m H':=by
    intro H9 s9 m' I9 hm w9
    refine ⟨m',hm,i + 1,H9,(I9.unpinned (pins:=[])).weak ?_ ?_,T.keep _ _ _ st7 fun b hb o e=>(I9.pin (b,o) (List.mem_append_right _ (List.mem_append_right _ (mem_pinsAt hb e)))).1,fun b hb=>?_,w9⟩
    ·rw [e8,List.length_append,List.length_append,List.length_replicate,l8]
    ·intro j v ej
     by_cases hj:j < vars.length
     ·rw [List.getElem?_append_left (by simpa using hj),List.getElem?_replicate,if_pos hj] at ej
      cases ej
     ·rw [List.getElem?_append_right (by simpa using hj),List.length_replicate] at ej
      rw [e8,List.getElem?_append_right (by omega),l8]
      exact ej
    ·obtain ⟨o,e,d⟩:=T.obj _ _ st7 b hb
     exact (I9.pin (b,o) (List.mem_append_right _ (List.mem_append_right _ (mem_pinsAt hb e)))).2.1
   refine thn (ht _ _ _ _ _ _ _ s8 σ8 H8 _ I8 q8) fun b s9 hpat=>?_
   obtain ⟨H9,I9,q9⟩:=hpat
   cases b with
   | false=>
    rw [if_neg Bool.false_ne_true] at q9 ⊢
    obtain ⟨m',hm,w9⟩:=hN _ q9
    exact back I9 hm w9
   | true=>
    rw [if_pos rfl] at q9 ⊢
    refine thn (he _ _ _ _ _ _ _ s9 σ8 H9 _ I9 q9) fun y s10 hpat=>?_
    obtain ⟨v,H10,I10,r10,acc,a10,z10,w10⟩:=hpat
    refine thn (mt_append _ s10 σ8 H10 (.ref s.heap.objs.size) [v] (.ref s.heap.objs.size) [y] (fun _ H11=>N H11) I10 rfl (.cons r10 .nil) ⟨_,acc,v,rfl,rfl,a10,z10,w10⟩) fun _ s11 hpat=>?_
    obtain ⟨_,H11,I11,_,w11⟩:=hpat
    obtain ⟨m',hm,w12⟩:=hN _ w11
    exact back I11 hm w12
 have fin:=codeAny_compStart_list (loop _ rfl) (T.self X.A 0 { s3 with heap:=h₁,toks:=s3.toks + ([]:List (Str × Value)).length } _ _ st1 (loop _ rfl))
 subst hs3
 exact fin
theorem pe_comp {elt tg iter:Expr} {ifs:List Expr} {scope:Scope} {pos:Pos} (vars:List Str) {wi:TI} {g:TG} {tc:TT} {te:TE} (hc:X.calm=true) (S:CmpScope X scope) (hi:PI X tg iter wi)
  (hg:∀ cl C s H fp pins,PG (X.cmp scope cl vars C s H fp pins) tg g) (ht:∀ cl C s H fp pins,PIfs (X.cmp scope cl vars C s H fp pins) ifs tc) (he:∀ cl C s H fp pins,PE (X.cmp scope cl vars C s H fp pins) elt te)
  (hs:∀ x,foldedSetIterable iter X.env x=pure x:=by intro _; rfl):PE X (.ListComp elt [⟨tg,iter,ifs,0⟩] scope pos) (tComp wi vars.length g tc te):=by
 intro pins s σ H Q I h
 obtain ⟨cl,hcl,c1,c2⟩:=closure_ok (scope:=scope) (env:=X.env) fun y hy hf=>I.ok.has y.1 (by rcases S.free y hy hf with z | z; exact .inl z; exact .inr z)
 rw [eval_ListComp]
 refine wpAny_comprehension_free (use:=none) rfl hs hcl S.kind S.names (thn (hi pins s σ H _ I h) fun v s1 h1=>thn h1 fun itv s2 h2=>?_)
 obtain ⟨it,fp,tn,J,H2,e,I2,T,st2,f2,q⟩:=h2
 subst e
 refine comp_block (vars:=vars) (Q:=fun p=>Q (.ref p)) hc S hg ht he c1 c2 I2 T st2 f2 q (RR:=fun acc C=>compPost (model X.prog X.w) X.A X.xe none (EP X pins σ Q) acc C) ?_
 intro p C s' H' m hn _ _ _ _ _ back hq
 exact ⟨m,hn,fun h' hs'=>⟨.ref p,H',back h' hs',rfl,hq⟩⟩
def tSetComp (i:Nat) (wi:TI) (vn:Nat) (g:TG) (tc:TT) (te:TE):TS:=fun D σ H=>tComp wi vn g tc te σ H fun v H1=>D.nx (σ.set i (some v)) H1
theorem ps_setcomp {elt tg iter:Expr} {ifs:List Expr} {scope:Scope} {pos spos py:Pos} {i:Nat} {y:Str} (vars:List Str) {wi:TI} {g:TG} {tc:TT} {te:TE} (hc:X.calm=true) (S:CmpScope X scope)
  (hN:X.N.Nodup) (hy:X.N[i]?=some y) (hl:Loc X.env.scope y) (hi:PI X tg iter wi)
  (hg:∀ cl C s H fp pins,PG (X.cmp scope cl vars C s H fp pins) tg g) (ht:∀ cl C s H fp pins,PIfs (X.cmp scope cl vars C s H fp pins) ifs tc) (he:∀ cl C s H fp pins,PE (X.cmp scope cl vars C s H fp pins) elt te)
  (hsw:swapsWith (.ListComp elt [⟨tg,iter,ifs,0⟩] scope pos) (some (.Name y py)) spos.line X.env=pure true)
  (hf:X.fn y=true∨X.env.scope.names.lookup y=some .local:=by first | exact .inl rfl | exact .inr rfl | assumption)
  (hs:∀ x,foldedSetIterable iter X.env x=pure x:=by intro _; rfl) :
  PS X (.Assign [.Name y py] (.ListComp elt [⟨tg,iter,ifs,0⟩] scope pos) spos) (tSetComp i wi vars.length g tc te):=by
 intro pins s σ H D I h
 obtain ⟨cl,hcl,c1,c2⟩:=closure_ok (scope:=scope) (env:=X.env) fun y hy hf=>I.ok.has y.1 (by rcases S.free y hy hf with z | z; exact .inl z; exact .inr z)
 rw [exec_Assign_Name_used _ _ _ _ hsw]
 refine wpAny_bind (wpAny_standAt (wpAny_bind ?_))
 show wpAny _ X.A (do let _ ← comprehension (.ListComp elt [⟨tg,iter,ifs,0⟩] scope pos) scope X.env _ (newList []) false (eval iter X.env) (some (assign (.Name y py) X.env))) _ _ s
 refine wpAny_bind (wpAny_mono (wpAny_comprehension_free (use:=some (assign (.Name y py) X.env)) (Q:=fun _ s'=>SP X pins D .next s') rfl hs hcl S.kind S.names
  (thn (hi pins s σ H _ I h) fun v s1 h1=>thn h1 fun itv s2 h2=>?_)) (fun _ s' hq=>wpAny_pure (wpAny_pure hq)) fun _ _ e=>e)
 obtain ⟨it,fp,tn,J,H2,e,I2,T,st2,f2,q⟩:=h2
 subst e
 refine comp_block (vars:=vars) (Q:=fun p H1=>D.nx (σ.set i (some (.ref p))) H1) hc S hg ht he c1 c2 I2 T st2 f2 q (RR:=fun acc C=>compPost (model X.prog X.w) X.A X.xe (some (assign (.Name y py) X.env)) (fun _ s'=>SP X pins D .next s') acc C) ?_
 intro p C s' H' m hn hC hL hcells hpins hsz back hq
 have I':Inv X pins σ H' s':=by have:=back s'.heap (.refl ..); exact this
 show wpAny _ X.A (assign (.Name y py) X.env (.ref p)) _ _ _
 refine wpAny_assign_Name (store_ok2 I' hN hy hl (v:=.ref p) (u:=.ref p) rfl (fun s'' I'' hpat=>?_) hf)
 obtain ⟨a,sb,ha⟩:=hpat
 have hCa:C≠a:=by
  rcases ha with z | z
  ·rw [z]; exact hL
  ·exact fun w=>hcells _ _ z w.symm
 refine ⟨m,hn.sameBut sb hCa,fun h' hs'=>⟨_,H',I''.turned (t':=s''.toks) (it:=C) (fun b o hb e=>(hs'.2 b hb).trans e) hC hL (.inr hsz) hcells hpins,hq⟩⟩
end
theorem comp_range {lo:Int} {n vn:Nat} {g:TG} {tc:TT} {te:TE} {σ:St} {p:Addr} {H1:Hp} {Q:Hp→Prop} (Pv:Nat→Hp→Prop) (h0:Pv 0 (upd H1 p (.lst [])))
  (hs:∀ i H,i < n→Pv i H→g (.int (lo + i)) (List.replicate vn none++σ) H fun σ2 H2=>(∃ τ:St,σ2=τ++σ∧τ.length=vn)∧tc σ2 H2 fun b H3=>
   if b=true then te σ2 H3 fun v H4=>∃ acc,H4 p=some (.lst acc)∧acc.length < sizeLine∧Pv (i + 1) (upd H4 p (.lst (acc++[v]))) else Pv (i + 1) H3) (hd:∀ H,Pv n H→Q H):tCompW (Itr lo n) vn g tc te σ p H1 Q:=by
 refine ⟨fun i m H=>i≤n∧m=n - i∧Pv i H,⟨n,Nat.zero_le _,rfl,h0⟩,fun i m H hw=>?_⟩
 obtain ⟨hi,rfl,hp⟩:=hw
 by_cases hl:i < n
 ·refine .inr ⟨hl,Pv (i + 1),fun H' h'=>⟨n - (i + 1),by omega,by omega,rfl,h'⟩,fun x H' hy=>?_⟩
  obtain ⟨e1,e2⟩:=hy
  subst e1 e2
  exact hs i _ hl hp
 ·have e:i=n:=by omega
  subst e
  exact .inl ⟨Nat.le_refl _,hd H hp⟩
theorem comp_list {K:PySem.W.Frag} {a:Addr} {xs:List V} {vn:Nat} {g:TG} {tc:TT} {te:TE} {σ:St} {p:Addr} {H1:Hp} {Q:Hp→Prop} (Pv:Nat→Hp→Prop) (h0:Pv 0 (upd H1 p (.lst []))) (hl:∀ i H,i≤xs.length→Pv i H→SqL K H a xs)
  (hs:∀ i x H,xs[i]?=some x→Pv i H→g x (List.replicate vn none++σ) H fun σ2 H2=>(∃ τ:St,σ2=τ++σ∧τ.length=vn)∧tc σ2 H2 fun b H3=>
   if b=true then te σ2 H3 fun v H4=>∃ acc,H4 p=some (.lst acc)∧acc.length < sizeLine∧Pv (i + 1) (upd H4 p (.lst (acc++[v]))) else Pv (i + 1) H3) (hd:∀ H,Pv xs.length H→Q H):tCompW (Itl K a) vn g tc te σ p H1 Q:=by
 refine ⟨fun i m H=>i≤xs.length∧m=xs.length - i∧Pv i H,⟨xs.length,Nat.zero_le _,rfl,h0⟩,fun i m H hw=>?_⟩
 obtain ⟨hi,rfl,hp⟩:=hw
 have hq:=hl i H hi hp
 by_cases hlt:i < xs.length
 ·refine .inr ⟨⟨xs,xs[i],hq,List.getElem?_eq_getElem hlt⟩,Pv (i + 1),fun H' h'=>⟨xs.length - (i + 1),by omega,by omega,rfl,h'⟩,fun x H' hy=>?_⟩
  obtain ⟨e1,e2⟩:=hy
  subst e1
  exact hs i x _ (e2 xs hq) hp
 ·have e:i=xs.length:=by omega
  subst e
  exact .inl ⟨⟨xs,hq,Nat.le_refl _⟩,hd H hp⟩
theorem comp_tup {K:PySem.W.Frag} {a:Addr} {xs:List V} {vn:Nat} {g:TG} {tc:TT} {te:TE} {σ:St} {p:Addr} {H1:Hp} {Q:Hp→Prop} (Pv:Nat→Hp→Prop) (h0:Pv 0 (upd H1 p (.lst []))) (hl:∀ i H,i≤xs.length→Pv i H→SqT K H a xs)
  (hs:∀ i x H,xs[i]?=some x→Pv i H→g x (List.replicate vn none++σ) H fun σ2 H2=>(∃ τ:St,σ2=τ++σ∧τ.length=vn)∧tc σ2 H2 fun b H3=>
   if b=true then te σ2 H3 fun v H4=>∃ acc,H4 p=some (.lst acc)∧acc.length < sizeLine∧Pv (i + 1) (upd H4 p (.lst (acc++[v]))) else Pv (i + 1) H3) (hd:∀ H,Pv xs.length H→Q H):tCompW (Itt K a) vn g tc te σ p H1 Q:=by
 refine ⟨fun i m H=>i≤xs.length∧m=xs.length - i∧Pv i H,⟨xs.length,Nat.zero_le _,rfl,h0⟩,fun i m H hw=>?_⟩
 obtain ⟨hi,rfl,hp⟩:=hw
 have hq:=hl i H hi hp
 by_cases hlt:i < xs.length
 ·refine .inr ⟨⟨xs,xs[i],hq,List.getElem?_eq_getElem hlt⟩,Pv (i + 1),fun H' h'=>⟨xs.length - (i + 1),by omega,by omega,rfl,h'⟩,fun x H' hy=>?_⟩
  obtain ⟨e1,e2⟩:=hy
  subst e1
  exact hs i x _ (e2 xs hq) hp
 ·have e:i=xs.length:=by omega
  subst e
  exact .inl ⟨⟨xs,hq,Nat.le_refl _⟩,hd H hp⟩
end L2
namespace ZT
open PySem PySem.Spec PyProof.Rows
section
variable {prog:Program} {w:World} {A:Around} {E:Value→Shared→Prop} {s:Shared}
theorem next_item {it t:Addr} {i:Nat} {items:Array Value} {x:Value} {Q:Value→Shared→Prop} (hit:s.heap.IsTupleIter it t i) (ht:s.heap.IsTuple t items) (hx:items[i]?=some x)
  (hQ:∀ h',h'.IsTupleIter it t (i + 1)→Heap.SameBut it s.heap h'→Q x { s with heap:=h' }):wpAny (model prog w) A (Builtin.SmallTypes.nextOf (.ref it)) Q E s:=by
 obtain ⟨o,ho,hc,hd⟩:=id hit
 obtain ⟨ol,hol,_,nl,hdl⟩:=ht
 unfold Builtin.SmallTypes.nextOf
 refine wpAny_bind (wpAny_callSpecial?_slot (name:=Str.ofString "__next__") hit.typeIs F.slot_tuple_iterator_next (wpAny_call_entry F.slot_tuple_iterator_next hit.typeIs F.entry_tuple_iterator_next ?_ (F.args_tuple_iterator_next_1 _)))
 change wpAny _ _ (field (.ref it) 0 >>= _) _ _ s
 refine wpAny_bind (wpAny_field ho hd (x:=.ref t) rfl ?_)
 change wpAny _ _ (if (Value.ref t == Value.none)=true then _ else _) _ _ s
 rw [if_neg (show ¬ ((Value.ref t == Value.none)=true) from Bool.false_ne_true)]
 change wpAny _ _ (field (.ref it) 1 >>= _) _ _ s
 refine wpAny_bind (wpAny_field ho hd (x:=.int i 0) rfl ?_)
 change wpAny _ _ (seqItems? (.ref t) >>= _) _ _ s
 refine wpAny_bind (wpAny_seqItems hol hdl ?_)
 simp only [Int.toNat_natCast,hx]
 refine wpAny_bind (wpAny_setField ho hd (by simp) (wpAny_pure ⟨x,rfl,wpAny_pure (hQ _ ?_ (Heap.SameBut.update ..))⟩))
 exact ⟨_,Heap.get?_update_self _ ho (Obj.isFreed_of_fields (Obj.data_mapFields hd _)),(Obj.cls_mapFields ..).trans hc,by rw [Obj.data_mapFields hd]; simp [rawInt]⟩
theorem next_end {it t:Addr} {i:Nat} {items:Array Value} {Q:Value→Shared→Prop} (hh:A.handled=none) (hit:s.heap.IsTupleIter it t i) (ht:s.heap.IsTuple t items) (hx:items[i]?=none)
  (hE:∀ h' e,Heap.ExtBut it s.heap h'→(∃ o,h'.get? e=some o∧o.cls=.type "StopIteration")→E (.ref e) { s with heap:=h' }):wpAny (model prog w) A (Builtin.SmallTypes.nextOf (.ref it)) Q E s:=by
 obtain ⟨o,ho,hc,hd⟩:=id hit
 obtain ⟨ol,hol,_,nl,hdl⟩:=ht
 unfold Builtin.SmallTypes.nextOf
 refine wpAny_bind (wpAny_callSpecial?_slot (name:=Str.ofString "__next__") hit.typeIs F.slot_tuple_iterator_next (wpAny_call_entry F.slot_tuple_iterator_next hit.typeIs F.entry_tuple_iterator_next ?_ (F.args_tuple_iterator_next_1 _)))
 change wpAny _ _ (field (.ref it) 0 >>= _) _ _ s
 refine wpAny_bind (wpAny_field ho hd (x:=.ref t) rfl ?_)
 change wpAny _ _ (if (Value.ref t == Value.none)=true then _ else _) _ _ s
 rw [if_neg (show ¬ ((Value.ref t == Value.none)=true) from Bool.false_ne_true)]
 change wpAny _ _ (field (.ref it) 1 >>= _) _ _ s
 refine wpAny_bind (wpAny_field ho hd (x:=.int i 0) rfl ?_)
 change wpAny _ _ (seqItems? (.ref t) >>= _) _ _ s
 refine wpAny_bind (wpAny_seqItems hol hdl ?_)
 simp only [Int.toNat_natCast,hx]
 refine wpAny_bind (wpAny_rule (wpAny_bind (wpAny_setField ho hd (by simp) ?_)))
 change wpAny _ _ (newExc (.type "StopIteration") [] >>= _) _ _ _
 refine wpAny_bind ?_
 simp only [newExc,newTuple]
 refine wpAny_bind (wpAny_newObj_type ?_ (by size_fits))
 refine wpAny_bind (m:=firstArgMember _ _) (wpAny_of_eq (a:=Value.none) (by first | rfl | (simp only [firstArgMember]; rfl)) ?_)
 refine wpAny_newObj_type ?_ (by size_fits)
 simp only [raiseNew]
 refine wpAny_bind (wpAny_handled ?_)
 first | rw [show A.in1.handled=none from hh] | rw [hh]
 refine wpAny_bind (wpAny_pure (wpAny_throw ?_))
 exact hE _ _ (((Heap.SameBut.update ..).extBut.push _).push _) ⟨_,Heap.get?_push_size _ rfl,rfl⟩
abbrev IsZ (h:Heap) (z TI TO:Addr) (f0 f1:Value):Prop:=h.get? z=some { cls:=.type "zip",dict:=none,data:=.fields #[f0,f1,.bool false,.ref TI,.ref TO],slots:=#[] }
structure Zt (h:Heap) (z TI TO i1 i2 l1 l2:Addr) (xs ys:Array Value) (k:Nat):Prop where
 ti:IsPair h TI (.ref i1) (.ref i2)
 to:∃ a b,IsPair h TO a b
 n1:h.IsTupleIter i1 l1 k
 n2:h.IsTupleIter i2 l2 k
 t1:h.IsTuple l1 xs
 t2:h.IsTuple l2 ys
theorem tupleAt {h h':Heap} {a:Addr} {items:Array Value} (x:h.IsTuple a items) (k:∀ o,h.get? a=some o→h'.get? a=some o):h'.IsTuple a items:=let ⟨o,e,r⟩:=x; ⟨o,k o e,r⟩
theorem first_item {z TI TO i1 i2 l1 l2:Addr} {k:Nat} {xs ys:Array Value} {x y:Value} {Q:Value→Shared→Prop} (D:ZipApart z TI TO i1 i2 l1 l2) (hz:IsZ s.heap z TI TO .none (.bool false)) (Z:Zt s.heap z TI TO i1 i2 l1 l2 xs ys k)
  (hx:xs[k]?=some x) (hy:ys[k]?=some y)
  (hQ:∀ h',IsZ h' z TI TO (rawInt s.heap.objs.size) (.bool false)→Zt h' z TI TO i1 i2 l1 l2 xs ys (k + 1)→IsPair h' s.heap.objs.size x y→
   (∀ c o,c≠z→c≠TO→c≠i1→c≠i2→s.heap.get? c=some o→h'.get? c=some o)→Q (.ref s.heap.objs.size) { s with heap:=h' }) :
  wpAny (model prog w) A (Builtin.«zip.__next__» ⟨[.ref z],[]⟩) (fun fin s'=>∃ v,fin=.done (.ret v)∧Q v s') E s:=by
 obtain ⟨hTI,⟨a,b,hTO⟩,h1,h2,hl1,hl2⟩:=Z
 change wpAny _ _ (field (.ref z) 2 >>= _) _ _ _
 refine wpAny_bind (wpAny_field hz rfl (x:=.bool false) rfl ?_)
 change wpAny _ _ (field (.ref z) 3 >>= _) _ _ _
 refine wpAny_bind (wpAny_field hz rfl (x:=.ref TI) rfl ?_)
 refine wpAny_bind (wpAny_seqItems hTI rfl ?_)
 change wpAny _ _ (Builtin.SmallTypes.ownedTupleIsFree (.ref z) >>= _) _ _ _
 refine wpAny_bind ?_
 unfold Builtin.SmallTypes.ownedTupleIsFree
 refine wpAny_bind (wpAny_field hz rfl (x:=.none) rfl (wpAny_pure ?_))
 simp only [if_true]
 refine wpAny_bind (wpAny_rule ?_)
 refine wpAny_bind (wpAny_field hz rfl (x:=.ref TO) rfl ?_)
 refine wpAny_bind (wpAny_setField_rec hz (by simp) fun g1 z1 b1=>?_)
 replace z1:IsZ g1 z TI TO .ellipsis (.bool false):=z1
 refine wpAny_bind ?_
 simp only [List.zipIdx_cons,List.zipIdx_nil,List.forIn_cons,List.forIn_nil]
 refine wpAny_bind (wpAny_bind (wpAny_onRaise ?_))
 change wpAny _ _ (Builtin.SmallTypes.nextOf (.ref i1) >>= _) _ _ _
 refine wpAny_bind (next_item (h1.extBut b1.extBut D.i1z) (hl1.extBut b1.extBut D.l1z) hx fun g2 n2 b2=>wpAny_pure ?_)
 have o2:IsPair g2 TO a b:=b2.extBut _ _ D.TOi1 (b1.extBut _ _ D.TOz hTO)
 refine wpAny_bind (wpAny_seqItems o2 rfl ?_)
 refine wpAny_bind (wpAny_updateSeq_pair o2 fun g3 o3 b3=>?_)
 replace o3:IsPair g3 TO x b:=o3
 refine wpAny_bind (wpAny_letGo (wpAny_pure ?_))
 refine wpAny_bind (wpAny_bind (wpAny_onRaise ?_))
 change wpAny _ _ (Builtin.SmallTypes.nextOf (.ref i2) >>= _) _ _ _
 refine wpAny_bind (next_item (((h2.extBut b1.extBut D.i2z).extBut b2.extBut D.i12.symm).extBut b3.extBut D.TOi2.symm) (((hl2.extBut b1.extBut D.l2z).extBut b2.extBut D.l2i1).extBut b3.extBut D.l2TO) hy fun g4 n4 b4=>wpAny_pure ?_)
 have o4:IsPair g4 TO x b:=b4.extBut _ _ D.TOi2 o3
 refine wpAny_bind (wpAny_seqItems o4 rfl ?_)
 refine wpAny_bind (wpAny_updateSeq_pair o4 fun g5 o5 b5=>?_)
 replace o5:IsPair g5 TO x y:=o5
 refine wpAny_bind (wpAny_letGo (wpAny_pure (wpAny_pure ?_)))
 refine wpAny_bind (wpAny_seqItems o5 rfl ?_)
 refine wpAny_bind (wpAny_newTuple ?_)
 have hsz:g5.objs.size=s.heap.objs.size:=by rw [b5.1,b4.1,b3.1,b2.1,b1.1]
 have z5:IsZ g5 z TI TO .ellipsis (.bool false):=b5.extBut _ _ D.TOz.symm (b4.extBut _ _ D.i2z.symm (b3.extBut _ _ D.TOz.symm (b2.extBut _ _ D.i1z.symm z1)))
 have k5:∀ c o,c≠z→c≠TO→c≠i1→c≠i2→s.heap.get? c=some o→g5.get? c=some o:=fun c o c1 c2 c3 c4 e=>
  b5.extBut _ _ c2 (b4.extBut _ _ c4 (b3.extBut _ _ c2 (b2.extBut _ _ c3 (b1.extBut _ _ c1 e))))
 have m1:g5.IsTupleIter i1 l1 (k + 1):=((n2.extBut b3.extBut D.TOi1.symm).extBut b4.extBut D.i12).extBut b5.extBut D.TOi1.symm
 have m2:g5.IsTupleIter i2 l2 (k + 1):=n4.extBut b5.extBut D.TOi2.symm
 have zlt:z < g5.objs.size:=Heap.lt_size z5
 change wpAny _ _ (Builtin.SmallTypes.ownedTupleHandOut (.ref z) (.ref g5.objs.size) >>= _) _ _ _
 refine wpAny_bind ?_
 unfold Builtin.SmallTypes.ownedTupleHandOut
 have z6:IsZ (g5.push { cls:=.type "tuple",data:=.seq #[x,y] }) z TI TO .ellipsis (.bool false):=Heap.get?_push_of_some _ z5
 refine wpAny_bind (wpAny_setField_rec z6 (by simp) fun g7 z7 b7=>?_)
 replace z7:IsZ g7 z TI TO (rawInt g5.objs.size) (.bool false):=z7
 refine wpAny_setField_rec z7 (by simp) fun g8 z8 b8=>?_
 replace z8:IsZ g8 z TI TO (rawInt g5.objs.size) (.bool false):=z8
 have up:∀ c o,c≠z→g5.get? c=some o→g8.get? c=some o:=fun c o c1 e=>b8.extBut _ _ c1 (b7.extBut _ _ c1 (Heap.get?_push_of_some _ e))
 have p8:IsPair g8 g5.objs.size x y:=b8.extBut _ _ (Nat.ne_of_gt zlt) (b7.extBut _ _ (Nat.ne_of_gt zlt) (Heap.get?_push_size _ rfl))
 rw [hsz] at z8 p8
 refine wpAny_pure ⟨_,rfl,?_⟩
 change Q (.ref g5.objs.size) _
 rw [hsz]
 have all:∀ c o,c≠z→c≠TO→c≠i1→c≠i2→s.heap.get? c=some o→g8.get? c=some o:=fun c o c1 c2 c3 c4 e=>up c o c1 (k5 c o c1 c2 c3 c4 e)
 exact hQ g8 z8 ⟨all _ _ D.TIz D.TITO D.TIi1 D.TIi2 hTI,⟨x,y,up _ _ D.TOz o5⟩,m1.at fun o e=>up _ o D.i1z e,m2.at fun o e=>up _ o D.i2z e,tupleAt hl1 fun o e=>all _ o D.l1z D.l1TO D.l1i1 D.l1i2 e,
  tupleAt hl2 fun o e=>all _ o D.l2z D.l2TO D.l2i1 D.l2i2 e⟩ p8 all
theorem more_item {z TI TO i1 i2 l1 l2 T:Addr} {k:Nat} {f:Bool} {oT:Obj} {xs ys:Array Value} {x y:Value} {Q:Value→Shared→Prop} (D:ZipApart z TI TO i1 i2 l1 l2) (hz:IsZ s.heap z TI TO (rawInt T) (.bool f)) (hT:s.heap.get? T=some oT)
  (Z:Zt s.heap z TI TO i1 i2 l1 l2 xs ys k) (hx:xs[k]?=some x) (hy:ys[k]?=some y)
  (hQ:∀ h',IsZ h' z TI TO (rawInt T) (.bool true)→Zt h' z TI TO i1 i2 l1 l2 xs ys (k + 1)→IsPair h' s.heap.objs.size x y→
   (∀ c o,c≠z→c≠TO→c≠i1→c≠i2→s.heap.get? c=some o→h'.get? c=some o)→Q (.ref s.heap.objs.size) { s with heap:=h' }) :
  wpAny (model prog w) A (Builtin.«zip.__next__» ⟨[.ref z],[]⟩) (fun fin s'=>∃ v,fin=.done (.ret v)∧Q v s') E s:=by
 obtain ⟨hTI,⟨a,b,hTO⟩,h1,h2,hl1,hl2⟩:=Z
 change wpAny _ _ (field (.ref z) 2 >>= _) _ _ _
 refine wpAny_bind (wpAny_field hz rfl (x:=.bool false) rfl ?_)
 change wpAny _ _ (field (.ref z) 3 >>= _) _ _ _
 refine wpAny_bind (wpAny_field hz rfl (x:=.ref TI) rfl ?_)
 refine wpAny_bind (wpAny_seqItems hTI rfl ?_)
 change wpAny _ _ (Builtin.SmallTypes.ownedTupleIsFree (.ref z) >>= _) _ _ _
 refine wpAny_bind ?_
 unfold Builtin.SmallTypes.ownedTupleIsFree
 refine wpAny_bind (wpAny_field hz rfl (x:=rawInt T) rfl ?_)
 change wpAny _ _ (loadIfAlive ((T:Int).toNat) >>= _) _ _ _
 rw [Int.toNat_natCast]
 refine wpAny_bind (PySem.W.kdx_alive hT ?_)
 simp only [Option.isNone_some,Bool.false_eq_true,if_false]
 refine wpAny_bind (wpAny_field hz rfl (x:=.bool f) rfl ?_)
 have tailOk:∀ g1:Heap,IsZ g1 z TI TO (rawInt T) (.bool true)→Heap.SameBut z s.heap g1→∀ {g2:Heap},g2.IsTupleIter i1 l1 (k + 1)→Heap.SameBut i1 g1 g2→∀ {g3:Heap},g3.IsTupleIter i2 l2 (k + 1)→Heap.SameBut i2 g2 g3→
   Q (.ref g3.objs.size) { s with heap:=g3.push { cls:=.type "tuple",data:=.seq #[x,y] } }:=by
  intro g1 z1 b1 g2 n2 b2 g3 n3 b3
  have hsz:g3.objs.size=s.heap.objs.size:=by rw [b3.1,b2.1,b1.1]
  have k3:∀ c o,c≠z→c≠i1→c≠i2→s.heap.get? c=some o→(g3.push { cls:=.type "tuple",data:=.seq #[x,y] }).get? c=some o:=fun c o c1 c2 c3 e=>
   Heap.get?_push_of_some _ (b3.extBut _ _ c3 (b2.extBut _ _ c2 (b1.extBut _ _ c1 e)))
  have z3:IsZ (g3.push { cls:=.type "tuple",data:=.seq #[x,y] }) z TI TO (rawInt T) (.bool true):=Heap.get?_push_of_some _ (b3.extBut _ _ D.i2z.symm (b2.extBut _ _ D.i1z.symm z1))
  have p3:IsPair (g3.push { cls:=.type "tuple",data:=.seq #[x,y] }) g3.objs.size x y:=Heap.get?_push_size _ rfl
  rw [hsz] at p3 ⊢
  refine hQ _ z3 ⟨k3 _ _ D.TIz D.TIi1 D.TIi2 hTI,⟨a,b,k3 _ _ D.TOz D.TOi1 D.TOi2 hTO⟩,(n2.extBut b3.extBut D.i12).at fun o e=>Heap.get?_push_of_some _ e,n3.at fun o e=>Heap.get?_push_of_some _ e,
   tupleAt hl1 fun o e=>k3 _ o D.l1z D.l1i1 D.l1i2 e,tupleAt hl2 fun o e=>k3 _ o D.l2z D.l2i1 D.l2i2 e⟩ p3 fun c o c1 _ c3 c4 e=>k3 c o c1 c3 c4 e
 cases f with
 | true=>
  rw [if_neg (show ¬ ((Value.bool true != Value.bool true)=true) from Bool.false_ne_true)]
  refine wpAny_pure ?_
  simp only [Bool.false_eq_true,if_false,← Array.forIn_toList,List.forIn_cons,List.forIn_nil]
  refine wpAny_bind (wpAny_bind (wpAny_bind (wpAny_holding ?_)))
  change wpAny _ _ (Builtin.SmallTypes.nextOf (.ref i1) >>= _) _ _ _
  refine wpAny_bind (next_item h1 hl1 hx fun g2 n2 b2=>wpAny_pure (wpAny_pure ?_))
  refine wpAny_bind (wpAny_bind (wpAny_holding ?_))
  change wpAny _ _ (Builtin.SmallTypes.nextOf (.ref i2) >>= _) _ _ _
  refine wpAny_bind (next_item (h2.extBut b2.extBut D.i12.symm) (hl2.extBut b2.extBut D.l2i1) hy fun g3 n3 b3=>wpAny_pure (wpAny_pure (wpAny_pure ?_)))
  refine wpAny_bind (wpAny_newTuple (hsz:=by show 2≤sizeLine; decide) (wpAny_pure ⟨_,rfl,?_⟩))
  exact tailOk s.heap hz (.refl ..) n2 b2 n3 b3
 | false=>
  rw [if_pos (show (Value.bool false != Value.bool true)=true from rfl)]
  refine wpAny_bind (wpAny_setField_rec hz (by simp) fun g1 z1 b1=>?_)
  replace z1:IsZ g1 z TI TO (rawInt T) (.bool true):=z1
  refine wpAny_pure ?_
  simp only [Bool.false_eq_true,if_false,← Array.forIn_toList,List.forIn_cons,List.forIn_nil]
  refine wpAny_bind (wpAny_bind (wpAny_bind (wpAny_holding ?_)))
  change wpAny _ _ (Builtin.SmallTypes.nextOf (.ref i1) >>= _) _ _ _
  refine wpAny_bind (next_item (h1.extBut b1.extBut D.i1z) (hl1.extBut b1.extBut D.l1z) hx fun g2 n2 b2=>wpAny_pure (wpAny_pure ?_))
  refine wpAny_bind (wpAny_bind (wpAny_holding ?_))
  change wpAny _ _ (Builtin.SmallTypes.nextOf (.ref i2) >>= _) _ _ _
  refine wpAny_bind (next_item ((h2.extBut b1.extBut D.i2z).extBut b2.extBut D.i12.symm) ((hl2.extBut b1.extBut D.l2z).extBut b2.extBut D.l2i1) hy fun g3 n3 b3=>wpAny_pure (wpAny_pure (wpAny_pure ?_)))
  refine wpAny_bind (wpAny_newTuple (hsz:=by show 2≤sizeLine; decide) (wpAny_pure ⟨_,rfl,?_⟩))
  exact tailOk g1 z1 b1 n2 b2 n3 b3
theorem zip_end {z TI TO i1 i2 l1 l2:Addr} {k:Nat} {f0:Value} {f:Bool} {xs ys:Array Value} {Q:Fin→Shared→Prop} (hh:A.handled=none) (D:ZipApart z TI TO i1 i2 l1 l2) (hz:IsZ s.heap z TI TO f0 (.bool f))
  (hf:f0=.none∨∃ T oT,f0=rawInt ((T:Nat):Int)∧s.heap.get? T=some oT) (Z:Zt s.heap z TI TO i1 i2 l1 l2 xs ys k) (hend:xs[k]?=none∨ys[k]?=none)
  (hE:∀ h' e,(∀ c o,c≠z→c≠TO→c≠i1→c≠i2→s.heap.get? c=some o→h'.get? c=some o)→(∃ o,h'.get? e=some o∧o.cls=.type "StopIteration")→E (.ref e) { s with heap:=h' }) :
  wpAny (model prog w) A (Builtin.«zip.__next__» ⟨[.ref z],[]⟩) Q E s:=by
 obtain ⟨hTI,⟨a,b,hTO⟩,h1,h2,hl1,hl2⟩:=Z
 change wpAny _ _ (field (.ref z) 2 >>= _) _ _ _
 refine wpAny_bind (wpAny_field hz rfl (x:=.bool false) rfl ?_)
 change wpAny _ _ (field (.ref z) 3 >>= _) _ _ _
 refine wpAny_bind (wpAny_field hz rfl (x:=.ref TI) rfl ?_)
 refine wpAny_bind (wpAny_seqItems hTI rfl ?_)
 change wpAny _ _ (Builtin.SmallTypes.ownedTupleIsFree (.ref z) >>= _) _ _ _
 refine wpAny_bind ?_
 unfold Builtin.SmallTypes.ownedTupleIsFree
 rcases hf with rfl | ⟨T,oT,rfl,hT⟩
 ·refine wpAny_bind (wpAny_field hz rfl (x:=.none) rfl (wpAny_pure ?_))
  simp only [if_true]
  refine wpAny_bind (wpAny_rule ?_)
  refine wpAny_bind (wpAny_field hz rfl (x:=.ref TO) rfl ?_)
  refine wpAny_bind (wpAny_setField_rec hz (by simp) fun g1 z1 b1=>?_)
  replace z1:IsZ g1 z TI TO .ellipsis (.bool f):=z1
  refine wpAny_bind ?_
  simp only [List.zipIdx_cons,List.zipIdx_nil,List.forIn_cons,List.forIn_nil]
  refine wpAny_bind (wpAny_bind (wpAny_onRaise ?_))
  change wpAny _ _ (Builtin.SmallTypes.nextOf (.ref i1) >>= _) _ _ _
  cases hx:xs[k]? with
  | none=>
   refine wpAny_bind (next_end hh (h1.extBut b1.extBut D.i1z) (hl1.extBut b1.extBut D.l1z) hx fun g2 e b2 he=>?_)
   obtain ⟨oe,hoe,hce⟩:=he
   have z2:IsZ g2 z TI TO .ellipsis (.bool f):=b2 _ _ D.i1z.symm z1
   have hez:e≠z:=fun x=>by subst x; rw [z2] at hoe; cases hoe; simp at hce
   exact wpAny_setField_rec z2 (by simp) fun g3 _ b3=>hE g3 e (fun c o c1 _ c3 _ x=>b3.extBut _ _ c1 (b2 _ _ c3 (b1.extBut _ _ c1 x))) ⟨oe,b3.extBut _ _ hez hoe,hce⟩
  | some x=>
   have hy:ys[k]?=none:=by rcases hend with h | h; rw [hx] at h; cases h; exact h
   refine wpAny_bind (next_item (h1.extBut b1.extBut D.i1z) (hl1.extBut b1.extBut D.l1z) hx fun g2 n2 b2=>wpAny_pure ?_)
   have o2:IsPair g2 TO a b:=b2.extBut _ _ D.TOi1 (b1.extBut _ _ D.TOz hTO)
   refine wpAny_bind (wpAny_seqItems o2 rfl ?_)
   refine wpAny_bind (wpAny_updateSeq_pair o2 fun g3 o3 b3=>?_)
   refine wpAny_bind (wpAny_letGo (wpAny_pure ?_))
   refine wpAny_bind (wpAny_bind (wpAny_onRaise ?_))
   change wpAny _ _ (Builtin.SmallTypes.nextOf (.ref i2) >>= _) _ _ _
   refine wpAny_bind (next_end hh (((h2.extBut b1.extBut D.i2z).extBut b2.extBut D.i12.symm).extBut b3.extBut D.TOi2.symm) (((hl2.extBut b1.extBut D.l2z).extBut b2.extBut D.l2i1).extBut b3.extBut D.l2TO) hy fun g4 e b4 he=>?_)
   obtain ⟨oe,hoe,hce⟩:=he
   have z4:IsZ g4 z TI TO .ellipsis (.bool f):=b4 _ _ D.i2z.symm (b3.extBut _ _ D.TOz.symm (b2.extBut _ _ D.i1z.symm z1))
   have hez:e≠z:=fun x=>by subst x; rw [z4] at hoe; cases hoe; simp at hce
   exact wpAny_setField_rec z4 (by simp) fun g5 _ b5=>hE g5 e (fun c o c1 c2 c3 c4 x=>b5.extBut _ _ c1 (b4 _ _ c4 (b3.extBut _ _ c2 (b2.extBut _ _ c3 (b1.extBut _ _ c1 x))))) ⟨oe,b5.extBut _ _ hez hoe,hce⟩
 ·refine wpAny_bind (wpAny_field hz rfl (x:=rawInt T) rfl ?_)
  change wpAny _ _ (loadIfAlive ((T:Int).toNat) >>= _) _ _ _
  rw [Int.toNat_natCast]
  refine wpAny_bind (PySem.W.kdx_alive hT ?_)
  simp only [Option.isNone_some,Bool.false_eq_true,if_false]
  refine wpAny_bind (wpAny_field hz rfl (x:=.bool f) rfl ?_)
  have fin:∀ g1:Heap,Heap.SameBut z s.heap g1→(xs[k]?=none→∀ {g2:Heap} {e:Addr},Heap.ExtBut i1 g1 g2→(∃ o,g2.get? e=some o∧o.cls=.type "StopIteration")→E (.ref e) { s with heap:=g2 })∧
    (∀ {g2 g3:Heap} {e:Addr},Heap.SameBut i1 g1 g2→Heap.ExtBut i2 g2 g3→(∃ o,g3.get? e=some o∧o.cls=.type "StopIteration")→E (.ref e) { s with heap:=g3 }):=fun g1 b1=>
   ⟨fun _ {g2 e} b2 he=>hE g2 e (fun c o c1 _ c3 _ x=>b2 _ _ c3 (b1.extBut _ _ c1 x)) he,fun {g2 g3 e} b2 b3 he=>hE g3 e (fun c o c1 _ c3 c4 x=>b3 _ _ c4 (b2.extBut _ _ c3 (b1.extBut _ _ c1 x))) he⟩
  cases f with
  | true=>
   rw [if_neg (show ¬ ((Value.bool true != Value.bool true)=true) from Bool.false_ne_true)]
   refine wpAny_pure ?_
   simp only [Bool.false_eq_true,if_false,← Array.forIn_toList,List.forIn_cons,List.forIn_nil]
   refine wpAny_bind (wpAny_bind (wpAny_bind (wpAny_holding ?_)))
   change wpAny _ _ (Builtin.SmallTypes.nextOf (.ref i1) >>= _) _ _ _
   cases hx:xs[k]? with
   | none=>exact wpAny_bind (next_end hh h1 hl1 hx fun g2 e b2 he=>(fin s.heap (.refl ..)).1 hx b2 he)
   | some x=>
    have hy:ys[k]?=none:=by rcases hend with h | h; rw [hx] at h; cases h; exact h
    refine wpAny_bind (next_item h1 hl1 hx fun g2 n2 b2=>wpAny_pure (wpAny_pure ?_))
    refine wpAny_bind (wpAny_bind (wpAny_holding ?_))
    change wpAny _ _ (Builtin.SmallTypes.nextOf (.ref i2) >>= _) _ _ _
    exact wpAny_bind (next_end hh (h2.extBut b2.extBut D.i12.symm) (hl2.extBut b2.extBut D.l2i1) hy fun g3 e b3 he=>(fin s.heap (.refl ..)).2 b2 b3 he)
  | false=>
   rw [if_pos (show (Value.bool false != Value.bool true)=true from rfl)]
   refine wpAny_bind (wpAny_setField_rec hz (by simp) fun g1 z1 b1=>?_)
   refine wpAny_pure ?_
   simp only [Bool.false_eq_true,if_false,← Array.forIn_toList,List.forIn_cons,List.forIn_nil]
   refine wpAny_bind (wpAny_bind (wpAny_bind (wpAny_holding ?_)))
   change wpAny _ _ (Builtin.SmallTypes.nextOf (.ref i1) >>= _) _ _ _
   cases hx:xs[k]? with
   | none=>exact wpAny_bind (next_end hh (h1.extBut b1.extBut D.i1z) (hl1.extBut b1.extBut D.l1z) hx fun g2 e b2 he=>(fin g1 b1).1 hx b2 he)
   | some x=>
    have hy:ys[k]?=none:=by rcases hend with h | h; rw [hx] at h; cases h; exact h
    refine wpAny_bind (next_item (h1.extBut b1.extBut D.i1z) (hl1.extBut b1.extBut D.l1z) hx fun g2 n2 b2=>wpAny_pure (wpAny_pure ?_))
    refine wpAny_bind (wpAny_bind (wpAny_holding ?_))
    change wpAny _ _ (Builtin.SmallTypes.nextOf (.ref i2) >>= _) _ _ _
    exact wpAny_bind (next_end hh ((h2.extBut b1.extBut D.i2z).extBut b2.extBut D.i12.symm) ((hl2.extBut b1.extBut D.l2z).extBut b2.extBut D.l2i1) hy fun g3 e b3 he=>(fin g1 b1).2 b2 b3 he)
theorem zip_no_len:typeLookup (.type "zip") "__len__" = pure none:=by rw [typeLookup_type,builtinLookup_eq_fast]; kernel_rfl
theorem zip_no_hint:typeLookup (.type "zip") "__length_hint__" = pure none:=by rw [typeLookup_type,builtinLookup_eq_fast]; kernel_rfl
def Pairs (h:Heap) (S:Addr) (xs ys:Array Value) (acc:Array Value):Prop:=∀ (j:Nat) (v:Value),acc[j]?=some v→∃ T x y,v=.ref T∧xs[j]?=some x∧ys[j]?=some y∧S < T∧IsPair h T x y
theorem loop {R:Result→Shared→Prop} {z TI TO i1 i2 l1 l2 S:Addr} {xs ys:Array Value} {res:Value} (hh:A.handled=none) (D:ZipApart z TI TO i1 i2 l1 l2) (hS1:∀ b∈[z,TI,TO,i1,i2,l1,l2],S≠b) (hn:min xs.size ys.size≤sizeLine) :
  ∀ (r k:Nat) (s:Shared) (acc:Array Value) (c:Nat) (f0:Value) (f:Bool),min xs.size ys.size - k=r→k≤min xs.size ys.size→Zt s.heap z TI TO i1 i2 l1 l2 xs ys k→IsZ s.heap z TI TO f0 (.bool f)→
   ((f0=.none∧f=false)∨∃ T oT,f0=rawInt ((T:Nat):Int)∧s.heap.get? T=some oT∧∀ b∈[z,TO,i1,i2,S],T≠b)→
   s.heap.get? S=some { cls:=.type "list",dict:=none,data:=.seq acc c,slots:=#[] }→acc.size=k→Pairs s.heap S xs ys acc→(∀ (j:Nat) (T:Addr),acc[j]?=some (.ref T)→∀ b∈[z,TO,i1,i2,S],T≠b)→
   (∀ h' acc' c',(∀ b o,b≠S→b≠z→b≠TO→b≠i1→b≠i2→s.heap.get? b=some o→h'.get? b=some o)→h'.get? S=some { cls:=.type "list",dict:=none,data:=.seq acc' c',slots:=#[] }→
    acc'.size=min xs.size ys.size→Pairs h' S xs ys acc'→R (.ok (.ret res)) { s with heap:=h' })→
   codeAny (model prog w) A (.builtin "list.extend.loop" ⟨[.ref S,.ref z,res],[]⟩) R s:=by
 intro r
 have Sz:S≠z:=hS1 z (by simp)
 have STO:S≠TO:=hS1 TO (by simp)
 have Si1:S≠i1:=hS1 i1 (by simp)
 have Si2:S≠i2:=hS1 i2 (by simp)
 induction r with
 | zero=>
  intro k s acc c f0 f hr hk Z hz hf hS ha hp hap hR
  have hkn:k=min xs.size ys.size:=by omega
  refine codeAny_builtin F.entry_extend_loop ?_
  rw [Around.under_plainId F.plain_extend_loop _]
  change wpAny _ A.in1 (pyNext (.ref z) >>= _) _ _ s
  have hT:s.TypeIs (.ref z) "zip":=⟨_,hz,rfl⟩
  have hend:xs[k]?=none∨ys[k]?=none:=by
   rcases Nat.le_total xs.size ys.size with h | h
   ·exact .inl (Array.getElem?_eq_none (by rw [hkn,Nat.min_eq_left h]; exact Nat.le_refl _))
   ·exact .inr (Array.getElem?_eq_none (by rw [hkn,Nat.min_eq_right h]; exact Nat.le_refl _))
  refine wpAny_bind ?_
  unfold pyNext
  refine wpAny_bind (wpAny_attempt (wpAny_callSpecial?_slot (name:=Str.ofString "__next__") hT F.slot_zip_next (wpAny_call_entry F.slot_zip_next hT F.entry_zip_next
   (zip_end hh D hz (by rcases hf with ⟨e,_⟩ | ⟨T,oT,e,eT,_⟩; exact .inl e; exact .inr ⟨T,oT,e,eT⟩) Z hend fun h' e kp he=>?_) (F.args_zip_next_1 _))))
  obtain ⟨o,ho,hc⟩:=he
  refine wpAny_bind (wpAny_isInstance (T:="StopIteration") (b:=true) ⟨o,ho,hc⟩ isSubtype_stop ?_)
  refine wpAny_pure (wpAny_pure ?_)
  refine hR h' acc c (fun b o _ b1 b2 b3 b4 e=>kp b o b1 b2 b3 b4 e) (kp _ _ Sz STO Si1 Si2 hS) (by omega) (fun j v e=>?_)
  obtain ⟨T,x,y,rfl,ex,ey,lt,pr⟩:=hp j v e
  have q:=hap j T e
  exact ⟨T,x,y,rfl,ex,ey,lt,kp _ _ (q z (by simp)) (q TO (by simp)) (q i1 (by simp)) (q i2 (by simp)) pr⟩
 | succ r ih=>
  intro k s acc c f0 f hr hk Z hz hf hS ha hp hap hR
  have hkx:k < xs.size:=by omega
  have hky:k < ys.size:=by omega
  refine codeAny_builtin F.entry_extend_loop ?_
  rw [Around.under_plainId F.plain_extend_loop _]
  change wpAny _ A.in1 (pyNext (.ref z) >>= _) _ _ s
  have hT:s.TypeIs (.ref z) "zip":=⟨_,hz,rfl⟩
  have slt:∀ {b:Addr} {o:Obj},s.heap.get? b=some o→s.heap.objs.size≠b:=fun e=>Nat.ne_of_gt (Heap.lt_size e)
  obtain ⟨o1,e1,_⟩:=id Z.n1
  obtain ⟨o2,e2,_⟩:=id Z.n2
  obtain ⟨a0,b0,e3⟩:=id Z.to
  have newAp:∀ b∈[z,TO,i1,i2,S],s.heap.objs.size≠b:=by
   intro b hb
   simp only [List.mem_cons,List.not_mem_nil,or_false] at hb
   rcases hb with rfl | rfl | rfl | rfl | rfl
   ·exact slt hz
   ·exact slt e3
   ·exact slt e1
   ·exact slt e2
   ·exact slt hS
  -- what follows when the pair has come
  have next:∀ (h':Heap) (f0':Value) (f':Bool),IsZ h' z TI TO f0' (.bool f')→((f0'=.none∧f'=false)∨∃ T oT,f0'=rawInt ((T:Nat):Int)∧h'.get? T=some oT∧∀ b∈[z,TO,i1,i2,S],T≠b)→
    Zt h' z TI TO i1 i2 l1 l2 xs ys (k + 1)→IsPair h' s.heap.objs.size xs[k] ys[k]→(∀ c o,c≠z→c≠TO→c≠i1→c≠i2→s.heap.get? c=some o→h'.get? c=some o)→
    wpAny (model prog w) A.in1 (updateSeq S (·.push (.ref s.heap.objs.size)) >>= fun _=>again (.builtin "list.extend.loop" ⟨[.ref S,.ref z,res],[]⟩))
     (fun fin s'=>match fin with | .done f=>R (.ok f) s' | .again c'=>c'.quiet=true∧codeAny (model prog w) A c' R s') (fun e s'=>R (.error e) s') { s with heap:=h' }:=by
   intro h' f0' f' z' hf' Z' pr kp
   have S':h'.get? S=some { cls:=.type "list",dict:=none,data:=.seq acc c,slots:=#[] }:=kp _ _ Sz STO Si1 Si2 hS
   refine wpAny_bind (wpAny_updateSeq S' rfl (wpAny_pure ⟨plainId_quiet F.plain_extend_loop _,?_⟩) (by rw [ha]; omega) (by show (acc.push _).size≤sizeLine + 1; rw [Array.size_push,ha]; omega))
   have oth:∀ b o,b≠S→h'.get? b=some o→(h'.update S (Obj.mapSeq (·.push (Value.ref s.heap.objs.size)))).get? b=some o:=fun b o hb e=>(Heap.get?_update_other _ _ (Ne.symm hb)).trans e
   have S7:∀ b∈[z,TI,TO,i1,i2,l1,l2],b≠S:=fun b hb=>(hS1 b hb).symm
   refine ih (k + 1) _ (acc.push (.ref s.heap.objs.size)) _ f0' f' (by omega) (by omega) ?_ (oth _ _ Sz.symm z') ?_ (Heap.get?_update_self _ S' rfl) (by rw [Array.size_push,ha]) ?_ ?_ ?_
   ·obtain ⟨q1,⟨qa,qb,q2⟩,q3,q4,q5,q6⟩:=Z'
    exact ⟨oth _ _ (S7 TI (by simp)) q1,⟨qa,qb,oth _ _ (S7 TO (by simp)) q2⟩,q3.at fun o e=>oth _ o (S7 i1 (by simp)) e,q4.at fun o e=>oth _ o (S7 i2 (by simp)) e,tupleAt q5 fun o e=>oth _ o (S7 l1 (by simp)) e,tupleAt q6 fun o e=>oth _ o (S7 l2 (by simp)) e⟩
   ·rcases hf' with q | ⟨T,oT,q1,q2,q3⟩
    ·exact .inl q
    ·exact .inr ⟨T,oT,q1,oth _ _ (q3 S (by simp)) q2,q3⟩
   ·intro j v e
    rw [Array.getElem?_push] at e
    split at e
    ·rename_i ej
     cases e
     rw [ha] at ej
     subst ej
     exact ⟨_,xs[j],ys[j],rfl,Array.getElem?_eq_getElem hkx,Array.getElem?_eq_getElem hky,Heap.lt_size hS,oth _ _ (newAp S (by simp)) pr⟩
    ·obtain ⟨T,x,y,rfl,ex,ey,lt0,pr0⟩:=hp j v e
     have q:=hap j T e
     exact ⟨T,x,y,rfl,ex,ey,lt0,oth _ _ (q S (by simp)) (kp _ _ (q z (by simp)) (q TO (by simp)) (q i1 (by simp)) (q i2 (by simp)) pr0)⟩
   ·intro j T e
    rw [Array.getElem?_push] at e
    split at e
    ·cases e; exact newAp
    ·exact hap j T e
   ·intro h'' acc' c' kp2 g1 g2 g3
    exact hR h'' acc' c' (fun b o b0 b1 b2 b3 b4 e=>kp2 b o b0 b1 b2 b3 b4 (oth _ _ b0 (kp _ _ b1 b2 b3 b4 e))) g1 g2 g3
  refine wpAny_bind ?_
  unfold pyNext
  rcases hf with ⟨rfl,rfl⟩ | ⟨T,oT,rfl,eT,aT⟩
  ·refine wpAny_bind (wpAny_attempt (wpAny_callSpecial?_slot (name:=Str.ofString "__next__") hT F.slot_zip_next (wpAny_call_entry F.slot_zip_next hT F.entry_zip_next
    (first_item D hz Z (Array.getElem?_eq_getElem hkx) (Array.getElem?_eq_getElem hky) fun h' z' Z' pr kp=>wpAny_pure ?_) (F.args_zip_next_1 _))))
   exact next h' _ false z' (.inr ⟨_,_,rfl,pr,newAp⟩) Z' pr kp
  ·refine wpAny_bind (wpAny_attempt (wpAny_callSpecial?_slot (name:=Str.ofString "__next__") hT F.slot_zip_next (wpAny_call_entry F.slot_zip_next hT F.entry_zip_next
    (more_item D hz eT Z (Array.getElem?_eq_getElem hkx) (Array.getElem?_eq_getElem hky) fun h' z' Z' pr kp=>wpAny_pure ?_) (F.args_zip_next_1 _))))
   exact next h' _ true z' (.inr ⟨T,oT,rfl,kp _ _ (aT z (by simp)) (aT TO (by simp)) (aT i1 (by simp)) (aT i2 (by simp)) eT,aT⟩) Z' pr kp
theorem extend {R:Result→Shared→Prop} {z TI TO i1 i2 l1 l2 S:Addr} {xs ys:Array Value} {res:Value} {c₀:Nat} (hh:A.handled=none) (D:ZipApart z TI TO i1 i2 l1 l2) (hS1:∀ b∈[z,TI,TO,i1,i2,l1,l2],S≠b) (hn:min xs.size ys.size≤sizeLine)
  (Z:Zt s.heap z TI TO i1 i2 l1 l2 xs ys 0) (hz:IsZ s.heap z TI TO .none (.bool false)) (hS:s.heap.get? S=some { cls:=.type "list",data:=.seq #[] c₀ })
  (hR:∀ h' acc' c',(∀ b o,b≠S→b≠z→b≠TO→b≠i1→b≠i2→s.heap.get? b=some o→h'.get? b=some o)→h'.get? S=some { cls:=.type "list",dict:=none,data:=.seq acc' c',slots:=#[] }→
   acc'.size=min xs.size ys.size→Pairs h' S xs ys acc'→R (.ok (.ret res)) { s with heap:=h' }) :
  wpAny (model prog w) A.in1 (Builtin.List.listExtendWith (.ref S) (.ref z) res)
   (fun fin s'=>match fin with | .done f=>R (.ok f) s' | .again c'=>c'.quiet=true∧codeAny (model prog w) A c' R s') (fun e s'=>R (.error e) s') s:=by
 have hT:s.TypeIs (.ref z) "zip":=⟨_,hz,rfl⟩
 have Sz:S≠z:=hS1 z (by simp)
 unfold Builtin.List.listExtendWith
 refine wpAny_bind (wpAny_typeOf hT ?_)
 have q1:Builtin.List.listSameRef (.ref S) (.ref z)=false:=by simp [Builtin.List.listSameRef,Sz]
 have q2:(Value.type "zip" == Value.type "list")=false:=by decide
 have q3:(Value.type "zip" == Value.type "tuple")=false:=by decide
 simp only [q1,q2,q3,Bool.or_false,Bool.false_eq_true,if_false]
 refine wpAny_bind (wpAny_pyIter_slot hT F.slot_zip_iter (wpAny_call_entry F.slot_zip_iter hT F.entry_zip_iter (wpAny_pure ⟨_,rfl, "zip",_,hT,F.slot_zip_next.lookup,?_⟩) (F.args_zip_iter_1 _)))
 refine wpAny_bind (wpAny_holding ?_)
 unfold Builtin.List.listLengthHint
 refine wpAny_bind (wpAny_specialOf hT zip_no_len ?_)
 change wpAny _ A.in1 (specialOf (Value.ref z) (Str.ofString "__length_hint__") >>= _) _ _ _
 refine wpAny_bind (wpAny_specialOf hT zip_no_hint ?_)
 refine wpAny_pure ?_
 change wpAny _ A.in1 (rule "list.extend.makes-room" >>= fun _=>Builtin.List.listTouch (.ref S) >>= fun _=>again (.builtin "list.extend.loop" ⟨[.ref S,.ref z,res],[]⟩)) _ _ _
 refine wpAny_bind (wpAny_rule (wpAny_bind ?_))
 change wpAny _ A.in1 (updateSeq S (·.push .none) >>= fun _=>updateSeq S (·.pop)) _ _ _
 refine wpAny_bind (wpAny_updateSeq hS rfl ?_)
 have S2:=Heap.get?_update_self (Obj.mapSeq (·.push Value.none)) hS rfl
 refine wpAny_updateSeq (hz:=by seq_fits) S2 rfl ?_
 have S3:=Heap.get?_update_self (Obj.mapSeq (·.pop)) S2 rfl
 have oth:∀ b o,b≠S→s.heap.get? b=some o→((s.heap.update S (Obj.mapSeq (·.push Value.none))).update S (Obj.mapSeq (·.pop))).get? b=some o:=
  fun b o hb e=>(Heap.get?_update_other _ _ (Ne.symm hb)).trans ((Heap.get?_update_other _ _ (Ne.symm hb)).trans e)
 have S7:∀ b∈[z,TI,TO,i1,i2,l1,l2],b≠S:=fun b hb=>(hS1 b hb).symm
 obtain ⟨p1,⟨pa,pb,p2⟩,p3,p4,p5,p6⟩:=Z
 refine wpAny_pure ⟨plainId_quiet F.plain_extend_loop _,loop hh D hS1 hn _ 0 _ _ _ .none false rfl (Nat.zero_le _)
  ⟨oth _ _ (S7 TI (by simp)) p1,⟨pa,pb,oth _ _ (S7 TO (by simp)) p2⟩,p3.at fun o e=>oth _ o (S7 i1 (by simp)) e,p4.at fun o e=>oth _ o (S7 i2 (by simp)) e,tupleAt p5 fun o e=>oth _ o (S7 l1 (by simp)) e,tupleAt p6 fun o e=>oth _ o (S7 l2 (by simp)) e⟩
  (oth _ _ Sz.symm hz) (.inl ⟨rfl,rfl⟩) S3 rfl (fun j v e=>by simp at e) (fun j T e=>by simp at e) fun h' acc' c' kp g1 g2 g3=>?_⟩
 exact hR h' acc' c' (fun b o b0 b1 b2 b3 b4 e=>kp b o b0 b1 b2 b3 b4 (oth _ _ b0 e)) g1 g2 g3
theorem call_list {z TI TO i1 i2 l1 l2:Addr} {xs ys:Array Value} {Q:Value→Shared→Prop} (hh:A.handled=none) (D:ZipApart z TI TO i1 i2 l1 l2) (hn:min xs.size ys.size≤sizeLine)
  (Z:Zt s.heap z TI TO i1 i2 l1 l2 xs ys 0) (hz:IsZ s.heap z TI TO .none (.bool false)) (lt:∀ b∈[z,TI,TO,i1,i2,l1,l2],b < s.heap.objs.size)
  (hQ:∀ h' acc' c',(∀ b o,b≠z→b≠TO→b≠i1→b≠i2→s.heap.get? b=some o→h'.get? b=some o)→h'.get? s.heap.objs.size=some { cls:=.type "list",dict:=none,data:=.seq acc' c',slots:=#[] }→
   acc'.size=min xs.size ys.size→Pairs h' s.heap.objs.size xs ys acc'→Q (.ref s.heap.objs.size) { s with heap:=h' }):wpAny (model prog w) A (call (.type "list") [.ref z]) Q E s:=by
 refine callType_codes (Q₁:=fun obj s₁=>obj=.ref s.heap.objs.size∧s₁={ s with heap:=s.heap.push { cls:=.type "list",data:=.seq #[] } }) F.called_list (F.typeCall_list_1 _) F.entry_list_init (code_list_new _ ⟨rfl,rfl⟩) fun obj s₁ h₁=>?_
 obtain ⟨rfl,rfl⟩:=h₁
 have hS:(s.heap.push { cls:=.type "list",data:=.seq #[] }).get? s.heap.objs.size=some { cls:=.type "list",data:=.seq #[] }:=Heap.get?_push_size _ rfl
 refine ⟨⟨_,hS,rfl⟩,F.args_list_init_2 _ _,?_⟩
 change wpAny _ A.in1.in1 (do let old ← Builtin.List.listItems (.ref s.heap.objs.size); Builtin.List.listUpdate (.ref s.heap.objs.size) (fun _=>#[]); letGo old.toList.reverse; Builtin.List.listExtendWith (.ref s.heap.objs.size) (.ref z) .none) _ _ _
 refine wpAny_bind ?_
 unfold Builtin.List.listItems
 refine wpAny_bind (wpAny_seqItems hS rfl (wpAny_pure ?_))
 change wpAny _ A.in1.in1 (updateSeq s.heap.objs.size (fun _=>#[]) >>= fun _=>letGo (#[]:Array Value).toList.reverse >>= fun _=>Builtin.List.listExtendWith (.ref s.heap.objs.size) (.ref z) .none) _ _ _
 refine wpAny_bind (wpAny_updateSeq hS rfl ?_)
 have S2:=Heap.get?_update_self (Obj.mapSeq (fun _=>(#[]:Array Value))) hS rfl
 have oth:∀ b o,b≠s.heap.objs.size→s.heap.get? b=some o→((s.heap.push { cls:=.type "list",data:=.seq #[] }).update s.heap.objs.size (Obj.mapSeq (fun _=>(#[]:Array Value)))).get? b=some o:=
  fun b o hb e=>(Heap.get?_update_other _ _ (Ne.symm hb)).trans (Heap.get?_push_of_some _ e)
 refine wpAny_bind (wpAny_letGo ?_)
 have nS:∀ b∈[z,TI,TO,i1,i2,l1,l2],b≠s.heap.objs.size:=fun b hb=>Nat.ne_of_lt (lt b hb)
 obtain ⟨p1,⟨pa,pb,p2⟩,p3,p4,p5,p6⟩:=Z
 refine extend hh D (fun b hb=>(nS b hb).symm) hn ⟨oth _ _ (nS TI (by simp)) p1,⟨pa,pb,oth _ _ (nS TO (by simp)) p2⟩,p3.at fun o e=>oth _ o (nS i1 (by simp)) e,p4.at fun o e=>oth _ o (nS i2 (by simp)) e,
  tupleAt p5 fun o e=>oth _ o (nS l1 (by simp)) e,tupleAt p6 fun o e=>oth _ o (nS l2 (by simp)) e⟩ (oth _ _ (nS z (by simp)) hz) S2 fun h' acc' c' kp g1 g2 g3=>?_
 refine ⟨rfl,hQ h' acc' c' (fun b o b1 b2 b3 b4 e=>kp b o (Nat.ne_of_lt (Heap.lt_size e)) b1 b2 b3 b4 (oth _ _ (Nat.ne_of_lt (Heap.lt_size e)) e)) g1 g2 g3⟩
abbrev k1 (h:Heap) (l1:Addr):Heap:=h.push { cls:=.type "tuple_iterator",data:=.fields #[.ref l1,.int 0 0] }
abbrev k2 (h:Heap) (l1 l2:Addr):Heap:=(k1 h l1).push { cls:=.type "tuple_iterator",data:=.fields #[.ref l2,.int 0 0] }
abbrev k3 (h:Heap) (l1 l2:Addr):Heap:=(k2 h l1 l2).push { cls:=.type "tuple",data:=.seq #[.ref h.objs.size,.ref (k1 h l1).objs.size] }
abbrev k4 (h:Heap) (l1 l2:Addr):Heap:=(k3 h l1 l2).push { cls:=.type "tuple",data:=.seq #[.none,.none] }
abbrev k5 (h:Heap) (l1 l2:Addr):Heap:=(k4 h l1 l2).push { cls:=.type "zip",data:=.fields #[.none,.bool false,.bool false,.ref (k2 h l1 l2).objs.size,.ref (k3 h l1 l2).objs.size] }
end
theorem meets_new (l1 l2:Addr) (xs ys:Array Value) :
  Meets (Builtin.«zip.__new__» ⟨[.type "zip",.ref l1,.ref l2],[]⟩) (fun _ R s=>s.heap.IsTuple l1 xs∧s.heap.IsTuple l2 ys∧R (.ok (.ret (.ref (k4 s.heap l1 l2).objs.size))) { s with heap:=k5 s.heap l1 l2 }):=
 .of_wp fun prog w A R s h=>by
  obtain ⟨hp,g,d,tk,os⟩:=s; obtain ⟨hl1,hl2,h⟩:=h
  have hsub:=sub_zip
  have t1:Heap.IsTuple (Shared.heap ⟨hp,g,d,tk,os⟩) l1 xs:=hl1
  have t2:Heap.IsTuple (Shared.heap ⟨hp.push { cls:=.type "tuple_iterator",data:=.fields #[.ref l1,.int 0 0] },g,d,tk,os⟩) l2 ys:=Heap.IsTuple.push hl2 _
  wp_walk using wpAny_pyIter_tuple t1,wpAny_pyIter_tuple t2
  exact ⟨_,rfl,h⟩
section
variable {prog:Program} {w:World} {A:Around} {E:Value→Shared→Prop} {s:Shared}
theorem call_zip {l1 l2:Addr} {xs ys:Array Value} {Q:Value→Shared→Prop} (hl1:s.heap.IsTuple l1 xs) (hl2:s.heap.IsTuple l2 ys)
  (h:∀ h',IsZ h' (s.heap.objs.size + 4) (s.heap.objs.size + 2) (s.heap.objs.size + 3) .none (.bool false)→Zt h' (s.heap.objs.size + 4) (s.heap.objs.size + 2) (s.heap.objs.size + 3) s.heap.objs.size (s.heap.objs.size + 1) l1 l2 xs ys 0→
   h'.objs.size=s.heap.objs.size + 5→(∀ c o,s.heap.get? c=some o→h'.get? c=some o)→Q (.ref (s.heap.objs.size + 4)) { s with heap:=h' }) :
  wpAny (model prog w) A (call (.type "zip") [.ref l1,.ref l2]) Q E s:=by
 refine callType_new F.called_zip (by decide) (F.typeCall_zip_2 _ _) (F.newCall_zip_2 _ _) (fun obj=>F.args_object_init_3 obj _ _) F.entry_zip_new (meets_new l1 l2 xs ys) ⟨hl1,hl2,?_⟩
 have z1:(k1 s.heap l1).objs.size=s.heap.objs.size + 1:=Heap.size_push ..
 have z2:(k2 s.heap l1 l2).objs.size=s.heap.objs.size + 2:=by rw [Heap.size_push,z1]
 have z3:(k3 s.heap l1 l2).objs.size=s.heap.objs.size + 3:=by rw [Heap.size_push,z2]
 have z4:(k4 s.heap l1 l2).objs.size=s.heap.objs.size + 4:=by rw [Heap.size_push,z3]
 have z5:(k5 s.heap l1 l2).objs.size=s.heap.objs.size + 5:=by rw [Heap.size_push,z4]
 have g5:(k5 s.heap l1 l2).get? (k4 s.heap l1 l2).objs.size=some _:=Heap.get?_push_size _ rfl
 have g4:(k5 s.heap l1 l2).get? (k3 s.heap l1 l2).objs.size=some _:=Heap.get?_push_of_some _ (Heap.get?_push_size _ rfl)
 have g3:(k5 s.heap l1 l2).get? (k2 s.heap l1 l2).objs.size=some _:=Heap.get?_push_of_some _ (Heap.get?_push_of_some _ (Heap.get?_push_size _ rfl))
 have g2:(k5 s.heap l1 l2).get? (k1 s.heap l1).objs.size=some _:=Heap.get?_push_of_some _ (Heap.get?_push_of_some _ (Heap.get?_push_of_some _ (Heap.get?_push_size _ rfl)))
 have g1:(k5 s.heap l1 l2).get? s.heap.objs.size=some _:=Heap.get?_push_of_some _ (Heap.get?_push_of_some _ (Heap.get?_push_of_some _ (Heap.get?_push_of_some _ (Heap.get?_push_size _ rfl))))
 have kp:∀ c o,s.heap.get? c=some o→(k5 s.heap l1 l2).get? c=some o:=fun c o x=>Heap.get?_push_of_some _ (Heap.get?_push_of_some _ (Heap.get?_push_of_some _ (Heap.get?_push_of_some _ (Heap.get?_push_of_some _ x))))
 show _∧_
 rw [z2,z3,z4] at g5
 rw [z1,z2] at g3
 rw [z3] at g4
 rw [z1] at g2
 rw [z4]
 exact ⟨⟨_,g5,rfl⟩,h _ g5 ⟨g3,⟨_,_,g4⟩,⟨_,g1,rfl,rfl⟩,⟨_,g2,rfl,rfl⟩,tupleAt hl1 fun o e=>kp _ o e,tupleAt hl2 fun o e=>kp _ o e⟩ z5 kp⟩
end
end ZT
namespace L2
open PySem PySem.Spec PyProof.Rows
theorem absV_rel:∀ {u:Value} {x:V},absV u=some x→RelV x u
 | .none,_,h=>by cases h; rfl
 | .bool _,_,h=>by cases h; rfl
 | .int _ t,_,h=>by cases h; exact ⟨t,rfl⟩
 | .str _ t,_,h=>by cases h; exact ⟨t,rfl⟩
 | .bytes _ t,_,h=>by cases h; exact ⟨t,rfl⟩
 | .float _ t,_,h=>by cases h; exact ⟨t,rfl⟩
 | .ref _,_,h=>by cases h; rfl
 | .type _,_,h=>by cases h; rfl
 | .notImplemented,_,h=>by cases h
 | .ellipsis,_,h=>by cases h
 | .builtin _,_,h=>by cases h
def absPair (h:Heap) (b:Addr):Option HO:=match h.get? b with
 | some o=>match o.cls,o.data with
  | .type "tuple",.seq its _=>match its.toList with
   | [u,v]=>match absV u,absV v with
    | some x,some y=>some (.tup [x,y])
    | _,_=>none
   | _=>none
  | _,_=>none
 | none=>none
section
variable {X:Cx} {pins:List (Addr × Obj)} {σ:St} {H H':Hp} {s:Shared}
theorem Inv.grow {h':Heap} {t':Nat} (I:Inv X pins σ H s) (k:∀ b o,s.heap.get? b=some o→h'.get? b=some o) (same:∀ b,b < s.heap.objs.size→H' b=H b) (hok:HOk X.prog X.w H' h'):Inv X pins σ H' { s with heap:=h',toks:=t' }:=by
 have old:∀ b u,H b=some u→H' b=some u:=fun b u e=>by rw [same b (I.hok.lt e)]; exact e
 exact I.un ⟨fun b o e _ _ _=>k b o e,fun b o e _ _ _=>⟨o.slots,k b o e⟩,fun b o e n _=>by rw [same b (Heap.lt_size e)]; exact n,fun b o e _=>⟨o,k b o e⟩,fun b xs e=>old b _ e,fun b o u e=>old b _ e,
  fun b ps e=>⟨#[],by rw [old b _ e]; simp⟩⟩ hok
end
def tListZip (K:PySem.W.Frag) (ta:TA):TE:=fun σ H Q=>ta σ H fun vs H1=>ExQ Q (fun l1 Q=>ExQ Q (fun l2 Q=>ExQ Q (fun xs Q=>ExQ Q (fun ys Q=>vs=[.ref l1,.ref l2]∧SqT K H1 l1 xs∧SqT K H1 l2 ys∧
 ∀ (H2:Hp) (l:Addr) (ps:List V),Same H1 H2→H2 l=some (.lst ps)→H1 l=none→ps.length=min xs.length ys.length→
  (∀ (j:Nat) (x y:V),xs[j]?=some x→ys[j]?=some y→∃ t,ps[j]?=some (.ref t)∧H2 t=some (.tup [x,y]))→Q (.ref l) H2))))
theorem ar7 (n l1 l2:Nat) (h1:l1 < n) (h2:l2 < n):∀ b∈[n + 4,n + 2,n + 3,n,n + 1,l1,l2],b < n + 5:=by
 intro b hb
 simp only [List.mem_cons,List.not_mem_nil,or_false] at hb
 omega
theorem ar4 (n b:Nat) (h:b < n):b≠n + 4∧b≠n + 3∧b≠n∧b≠n + 1:=by omega
section
variable {X:Cx}
theorem pe_listzip {a b:Expr} {ta:TA} {p pos p2 pos2:Pos} (hc:X.calm=true) (gl:Gl X "list") (ml:X.mg "list" = none) (gz:Gl X "zip") (mz:X.mg "zip" = none) (ha:PA X [a,b] ta)
  (h1:starEach [.Call (.Name "zip" p2) [a,b] [] pos2] X.env=(false,eval (.Call (.Name "zip" p2) [a,b] [] pos2) X.env)::starEach [] X.env:=by rfl) (h2:(backTo pos (starEach [] X.env)).any (·.1)=false:=by rfl)
  (h3:starEach [a,b] X.env=(false,eval a X.env)::starEach [b] X.env:=by rfl) (h4:(backTo pos2 (starEach [b] X.env)).any (·.1)=false:=by rfl) :
  PE X (.Call (.Name "list" p) [.Call (.Name "zip" p2) [a,b] [] pos2] [] pos) (tListZip X.K ta):=by
 intro pins s σ H Q I h
 refine wpAny_Call_Name_kw (ld_blt I gl ml PyProof.Rows.boot_list ?_)
 refine PyProof.Rows.callWith_type1 ?_ h1 h2
 rw [h1]
 change wpAny _ _ (spliced ((false,eval (.Call (.Name "zip" p2) [a,b] [] pos2) X.env)::backTo pos (starEach [] X.env))) _ _ s
 refine Calls.spliced_cons ?_
 refine wpAny_Call_Name_kw (ld_blt I gz mz PyProof.Rows.boot_zip ?_)
 refine PyProof.Rows.callWith_type1 (thn (ha pos2 pins s σ H _ I h) fun us s1 hpat=>?_) h3 h4
 obtain ⟨vs,H1,I1,r1,q1⟩:=hpat
 obtain ⟨l1,l2,xs,ys,rfl,t1,t2,q⟩:=q1
 obtain ⟨u1,u2,rfl,e1,e2⟩:=r1.two
 cases e1; cases e2
 obtain ⟨its1,rv1,p1,z1⟩:=I1.tuple t1
 obtain ⟨its2,rv2,p2,z2⟩:=I1.tuple t2
 have lt1:l1 < s1.heap.objs.size:=p1.lt
 have lt2:l2 < s1.heap.objs.size:=p2.lt
 refine ZT.call_zip (xs:=its1.toArray) (ys:=its2.toArray) p1 p2 fun h' hz Z hsz kp=>?_
 refine Calls.spliced_nil ?_
 have ln1:=rv1.length
 have ln2:=rv2.length
 have hn:min its1.toArray.size its2.toArray.size≤sizeLine:=by
  simp only [List.size_toArray]; omega
 refine ZT.call_list (s:={ s1 with heap:=h' }) (I1.ok.hd hc) (zipApart_new lt1 lt2) hn Z hz (fun b hb=>?_) fun h2 acc c kp2 hl ha2 hp=>?_
 ·show b < h'.objs.size
  rw [hsz]
  exact ar7 _ _ _ lt1 lt2 b hb
 ·have old:∀ b o,s1.heap.get? b=some o→h2.get? b=some o:=fun b o e=>by
   obtain ⟨n1,n2,n3,n4⟩:=ar4 _ _ (Heap.lt_size e)
   exact kp2 b o n1 n2 n3 n4 (kp b o e)
  have hS:s1.heap.objs.size≤h'.objs.size:=by omega
  -- the addresses of the pairs
  obtain ⟨ts,hts⟩:∃ ts:List Addr,acc.toList=ts.map Value.ref:=by
   have go:∀ l:List Value,(∀ v∈l,∃ T,v=.ref T)→∃ ts:List Addr,l=ts.map Value.ref:=by
    intro l
    induction l with
    | nil=>intro _; exact ⟨[],rfl⟩
    | cons v r ih=>
     intro hv
     obtain ⟨T,rfl⟩:=hv v List.mem_cons_self
     obtain ⟨ts,rfl⟩:=ih fun w hw=>hv w (List.mem_cons_of_mem _ hw)
     exact ⟨T::ts,rfl⟩
   refine go _ fun v hv=>?_
   obtain ⟨j,hj⟩:=List.getElem?_of_mem hv
   obtain ⟨T,_,_,e,_,_,_⟩:=hp j v (by simpa using hj)
   exact ⟨T,e⟩
  have lts:ts.length=min xs.length ys.length:=by
   have e:=congrArg List.length hts
   rw [List.length_map,Array.length_toList,ha2] at e
   simp only [List.size_toArray] at e
   omega
  let H2:Hp:=fun b=>if b < s1.heap.objs.size then H1 b else if b=h'.objs.size then some (.lst (ts.map V.ref)) else absPair h2 b
  have ht:∀ (j:Nat) (x y:V),xs[j]?=some x→ys[j]?=some y→∃ t,(ts.map V.ref)[j]?=some (.ref t)∧H2 t=some (.tup [x,y]):=by
   intro j x y ex ey
   have hj:j < ts.length:=by
    rw [lts]
    have:=(List.getElem?_eq_some_iff.mp ex).1
    have:=(List.getElem?_eq_some_iff.mp ey).1
    omega
   have ej:acc[j]?=some (.ref ts[j]):=by
    have:acc.toList[j]?=some (.ref ts[j]):=by rw [hts,List.getElem?_map,List.getElem?_eq_getElem hj]; rfl
    simpa using this
   obtain ⟨T,u,v,e,eu,ev,lT,pr⟩:=hp j _ ej
   cases e
   refine ⟨ts[j],by rw [List.getElem?_map,List.getElem?_eq_getElem hj]; rfl,?_⟩
   obtain ⟨u',eu',ru⟩:=rv1.get ex
   obtain ⟨v',ev',rv⟩:=rv2.get ey
   have qu:u=u':=by
    have z:its1[j]?=some u:=by simpa using eu
    rw [eu'] at z; cases z; rfl
   have qv:v=v':=by
    have z:its2[j]?=some v:=by simpa using ev
    rw [ev'] at z; cases z; rfl
   subst qu qv
   have lT':h'.objs.size < ts[j]:=lT
   have hge:¬ ts[j] < s1.heap.objs.size:=Nat.not_lt.mpr (Nat.le_of_lt (Nat.lt_of_le_of_lt hS lT'))
   have hne:ts[j]≠h'.objs.size:=Nat.ne_of_gt lT'
   show (if ts[j] < s1.heap.objs.size then H1 ts[j] else if ts[j]=h'.objs.size then some (.lst (ts.map V.ref)) else absPair h2 ts[j])=_
   rw [if_neg hge,if_neg hne]
   unfold absPair
   have pr':h2.get? ts[j]=some { cls:=.type "tuple",data:=.seq #[u,v] }:=pr
   rw [pr']
   simp only [ru.abs,rv.abs]
  have lz:(ts.map V.ref).length≤sizeLine:=by rw [List.length_map,lts]; simp only [List.size_toArray] at hn; omega
  have I2:Inv X pins σ H2 { s1 with heap:=h2,toks:=s1.toks }:=by
   refine I1.grow old (fun b hb=>if_pos hb) fun b o e=>?_
   have e':(if b < s1.heap.objs.size then H1 b else if b=h'.objs.size then some (.lst (ts.map V.ref)) else absPair h2 b)=some o:=e
   by_cases hb:b < s1.heap.objs.size
   ·rw [if_pos hb] at e'
    refine (I1.hok b o e').stay (fun c v _ q=>old c v q) (fun c q=>?_) fun c zs q=>?_
    ·show (if c < s1.heap.objs.size then H1 c else _)=_
     rw [if_pos (I1.hok.lt q)]; exact q
    ·show (if c < s1.heap.objs.size then H1 c else _)=_
     rw [if_pos (I1.hok.lt q)]; exact q
   ·rw [if_neg hb] at e'
    by_cases hb2:b=h'.objs.size
    ·rw [if_pos hb2] at e'
     cases e'
     subst hb2
     refine ⟨lz,acc.toList,c,?_,?_⟩
     ·rw [hts]
      have:∀ l:List Addr,Vals (l.map V.ref) (l.map Value.ref):=fun l=>by
       induction l with
       | nil=>exact .nil
       | cons a r ih=>exact .cons rfl ih
      exact this ts
     ·have hl':h2.get? h'.objs.size=some { cls:=.type "list",dict:=none,data:=.seq acc c,slots:=#[] }:=hl
      rw [hl',Array.toArray_toList]
    ·rw [if_neg hb2] at e'
     unfold absPair at e'
     cases eo:h2.get? b with
     | none=>rw [eo] at e'; cases e'
     | some ob=>
      rw [eo] at e'
      obtain ⟨cls,dct,dta,sl⟩:=ob
      dsimp only at e'
      split at e'
      ·rename_i its nn
       split at e'
       ·rename_i u v hl2
        split at e'
        ·rename_i x y hx hy
         cases e'
         refine ⟨by show 2≤sizeLine; decide,[u,v],.cons (absV_rel hx) (.cons (absV_rel hy) .nil),_,eo,rfl,nn,?_⟩
         show Data.seq its nn=Data.seq [u,v].toArray nn
         rw [← hl2,Array.toArray_toList]
        ·cases e'
       ·cases e'
      ·cases e'
  have fl:H1 h'.objs.size=none:=by
   cases e:H1 h'.objs.size with
   | none=>rfl
   | some o=>exact absurd (I1.hok.lt e) (Nat.not_lt.mpr hS)
  refine ⟨.ref h'.objs.size,H2,I2,rfl,q H2 h'.objs.size (ts.map V.ref) (fun b o e=>?_) ?_ fl (by rw [List.length_map,lts]) ht⟩
  ·show (if b < s1.heap.objs.size then H1 b else _)=_
   rw [if_pos (I1.hok.lt e)]; exact e
  ·show (if h'.objs.size < s1.heap.objs.size then H1 h'.objs.size else if h'.objs.size=h'.objs.size then some (.lst (ts.map V.ref)) else absPair h2 h'.objs.size)=_
   rw [if_neg (Nat.not_lt.mpr hS),if_pos rfl]
end
inductive D where
 | non | int (i:Int) | str (x:Str) | tup (ds:List D)
mutual
def Is (K:PySem.W.Frag) (H:Hp):D→V→Prop
 | .non,v=>v=.non
 | .int i,v=>v=.int i
 | .str x,v=>v=.str x
 | .tup ds,v=>∃ a xs,v=.ref a∧SqT K H a xs∧IsL K H ds xs
def IsL (K:PySem.W.Frag) (H:Hp):List D→List V→Prop
 | [],vs=>vs=[]
 | d::ds,vs=>∃ v r,vs=v::r∧Is K H d v∧IsL K H ds r
end
def Tups (H H':Hp):Prop:=(∀ b xs,H b=some (.tup xs)→H' b=some (.tup xs))∧∀ b o u,H b=some (.frz o u)→H' b=some (.frz o u)
theorem Same.tups {H H':Hp} (h:Same H H'):Tups H H':=⟨fun b xs e=>h b _ e,fun b o u e=>h b _ e⟩
theorem Tups.refl (H:Hp):Tups H H:=⟨fun _ _ e=>e,fun _ _ _ e=>e⟩
theorem Tups.trans {H H1 H2:Hp} (a:Tups H H1) (b:Tups H1 H2):Tups H H2:=⟨fun c xs e=>b.1 c xs (a.1 c xs e),fun c o u e=>b.2 c o u (a.2 c o u e)⟩
theorem Tups.sq {K:PySem.W.Frag} {H H':Hp} {a:Addr} {xs:List V} (t:Tups H H') (h:SqT K H a xs):SqT K H' a xs:=by
 rcases h with (h | ⟨o,h⟩) | h
 ·exact .inl (.inl (t.1 _ _ h))
 ·exact .inl (.inr ⟨o,t.2 _ _ _ h⟩)
 ·exact .inr h
mutual
theorem Is.mono {K:PySem.W.Frag} {H H':Hp} (t:Tups H H'):∀ {d:D} {v:V},Is K H d v→Is K H' d v
 | .non,_,h=>by unfold Is at h ⊢; exact h
 | .int _,_,h=>by unfold Is at h ⊢; exact h
 | .str _,_,h=>by unfold Is at h ⊢; exact h
 | .tup ds,_,h=>by
  unfold Is at h ⊢
  obtain ⟨a,xs,e,q,l⟩:=h
  exact ⟨a,xs,e,t.sq q,IsL.mono t l⟩
theorem IsL.mono {K:PySem.W.Frag} {H H':Hp} (t:Tups H H'):∀ {ds:List D} {vs:List V},IsL K H ds vs→IsL K H' ds vs
 | [],_,h=>by unfold IsL at h ⊢; exact h
 | d::ds,_,h=>by
  unfold IsL at h ⊢
  obtain ⟨v,r,e,p,q⟩:=h
  exact ⟨v,r,e,Is.mono t p,IsL.mono t q⟩
end
theorem is_non {K:PySem.W.Frag} {H:Hp}:Is K H .non .non:=by unfold Is; rfl
theorem is_int {K:PySem.W.Frag} {H:Hp} {i:Int}:Is K H (.int i) (.int i):=by unfold Is; rfl
theorem is_str {K:PySem.W.Frag} {H:Hp} {x:Str}:Is K H (.str x) (.str x):=by unfold Is; rfl
theorem is_tup {K:PySem.W.Frag} {H:Hp} {a:Addr} {xs:List V} {ds:List D} (h:SqT K H a xs) (l:IsL K H ds xs):Is K H (.tup ds) (.ref a):=by unfold Is; exact ⟨a,xs,rfl,h,l⟩
theorem isl_nil {K:PySem.W.Frag} {H:Hp}:IsL K H [] []:=by unfold IsL; rfl
theorem isl_cons {K:PySem.W.Frag} {H:Hp} {d:D} {ds:List D} {v:V} {vs:List V} (h:Is K H d v) (l:IsL K H ds vs):IsL K H (d::ds) (v::vs):=by unfold IsL; exact ⟨v,vs,rfl,h,l⟩
theorem Is.int_inv {K:PySem.W.Frag} {H:Hp} {i:Int} {v:V} (h:Is K H (.int i) v):v=.int i:=by unfold Is at h; exact h
theorem Is.str_inv {K:PySem.W.Frag} {H:Hp} {i:Str} {v:V} (h:Is K H (.str i) v):v=.str i:=by unfold Is at h; exact h
theorem Is.non_inv {K:PySem.W.Frag} {H:Hp} {v:V} (h:Is K H .non v):v=.non:=by unfold Is at h; exact h
theorem Is.tup_inv {K:PySem.W.Frag} {H:Hp} {ds:List D} {v:V} (h:Is K H (.tup ds) v):∃ a xs,v=.ref a∧SqT K H a xs∧IsL K H ds xs:=by unfold Is at h; exact h
theorem IsL.nil_inv {K:PySem.W.Frag} {H:Hp} {vs:List V} (h:IsL K H [] vs):vs=[]:=by unfold IsL at h; exact h
theorem IsL.cons_inv {K:PySem.W.Frag} {H:Hp} {d:D} {ds:List D} {vs:List V} (h:IsL K H (d::ds) vs):∃ v r,vs=v::r∧Is K H d v∧IsL K H ds r:=by unfold IsL at h; exact h
theorem IsL.length {K:PySem.W.Frag} {H:Hp}:∀ {ds:List D} {vs:List V},IsL K H ds vs→ds.length=vs.length
 | [],_,h=>by rw [h.nil_inv]; rfl
 | d::ds,_,h=>by
  obtain ⟨v,r,rfl,_,q⟩:=h.cons_inv
  simp [IsL.length q]
theorem IsL.get {K:PySem.W.Frag} {H:Hp}:∀ {ds:List D} {vs:List V} {j:Nat} {d:D},IsL K H ds vs→ds[j]?=some d→∃ v,vs[j]?=some v∧Is K H d v
 | [],_,_,_,_,e=>by simp at e
 | d::ds,_,0,_,h,e=>by
  obtain ⟨v,r,rfl,p,_⟩:=h.cons_inv
  simp at e; subst e
  exact ⟨v,rfl,p⟩
 | d::ds,_,j + 1,_,h,e=>by
  obtain ⟨v,r,rfl,_,q⟩:=h.cons_inv
  obtain ⟨v',e',p'⟩:=IsL.get (j:=j) q (by simpa using e)
  exact ⟨v',by simpa using e',p'⟩
theorem IsL.get' {K:PySem.W.Frag} {H:Hp} {ds:List D} {vs:List V} {j:Nat} {v:V} (h:IsL K H ds vs) (e:vs[j]?=some v):∃ d,ds[j]?=some d∧Is K H d v:=by
 have hj:j < ds.length:=by rw [h.length]; exact (List.getElem?_eq_some_iff.mp e).1
 obtain ⟨v',e',p⟩:=h.get (List.getElem?_eq_getElem hj)
 rw [e] at e'; cases e'
 exact ⟨_,List.getElem?_eq_getElem hj,p⟩
theorem IsL.drop {K:PySem.W.Frag} {H:Hp}:∀ {ds:List D} {vs:List V} (n:Nat),IsL K H ds vs→IsL K H (ds.drop n) (vs.drop n)
 | _,_,0,h=>h
 | [],_,n + 1,h=>by rw [h.nil_inv]; exact isl_nil
 | d::ds,_,n + 1,h=>by
  obtain ⟨v,r,rfl,_,q⟩:=h.cons_inv
  exact IsL.drop n q
theorem IsL.append {K:PySem.W.Frag} {H:Hp}:∀ {ds es:List D} {vs ws:List V},IsL K H ds vs→IsL K H es ws→IsL K H (ds++es) (vs++ws)
 | [],_,_,_,h,q=>by rw [h.nil_inv]; exact q
 | d::ds,_,_,_,h,q=>by
  obtain ⟨v,r,rfl,p,t⟩:=h.cons_inv
  exact isl_cons p (IsL.append t q)
mutual
def D.dep:D→Nat
 | .tup ds=>1 + D.depL ds
 | _=>0
def D.depL:List D→Nat
 | []=>0
 | d::ds=>max d.dep (D.depL ds)
end
mutual
def D.beq:D→D→Bool
 | .non,.non=>true
 | .int i,.int j=>i == j
 | .str x,.str y=>x == y
 | .tup ds,.tup es=>D.beqL ds es
 | _,_=>false
def D.beqL:List D→List D→Bool
 | [],[]=>true
 | d::ds,e::es=>D.beq d e && D.beqL ds es
 | _,_=>false
end
mutual
theorem D.beq_iff:∀ (d e:D),D.beq d e=true↔d=e
 | .non,e=>by cases e <;> simp [D.beq]
 | .int i,e=>by cases e <;> simp [D.beq]
 | .str i,e=>by cases e <;> simp [D.beq]
 | .tup ds,e=>by
  cases e with
  | tup es=>simp [D.beq,D.beqL_iff ds es]
  | _=>simp [D.beq]
theorem D.beqL_iff:∀ (ds es:List D),D.beqL ds es=true↔ds=es
 | [],es=>by cases es <;> simp [D.beqL]
 | d::ds,es=>by
  cases es with
  | nil=>simp [D.beqL]
  | cons e es=>simp [D.beqL,D.beq_iff d e,D.beqL_iff ds es]
end
theorem D.beq_self (d:D):D.beq d d=true:=(D.beq_iff d d).mpr rfl
theorem D.beqL_self (d:List D):D.beqL d d=true:=(D.beqL_iff d d).mpr rfl
theorem D.beqL_len:∀ (ds es:List D),D.beqL ds es=true→ds.length=es.length:=fun ds es h=>by rw [(D.beqL_iff ds es).mp h]
theorem D.dep_le:∀ {ds:List D} {d:D},d∈ds→d.dep≤D.depL ds
 | e::ds,d,h=>by
  rcases List.mem_cons.mp h with rfl | h
  ·unfold D.depL; exact Nat.le_max_left ..
  ·unfold D.depL; exact Nat.le_trans (D.dep_le h) (Nat.le_max_right ..)
theorem D.beqL_all:∀ (ds es:List D),((List.range (min ds.length es.length)).all (fun j=>match ds[j]?,es[j]? with | some d,some e=>D.beq d e | _,_=>true) && ds.length == es.length)=D.beqL ds es:=by
 intro ds es
 by_cases hl:ds.length=es.length
 ·rw [Bool.eq_iff_iff,Bool.and_eq_true,List.all_eq_true,D.beqL_iff]
  constructor
  ·rintro ⟨h,_⟩
   refine List.ext_getElem? fun j=>?_
   by_cases hj:j < ds.length
   ·have hj':j < es.length:=by omega
    have q:=h j (List.mem_range.mpr (by omega))
    rw [List.getElem?_eq_getElem hj,List.getElem?_eq_getElem hj'] at q
    rw [List.getElem?_eq_getElem hj,List.getElem?_eq_getElem hj',(D.beq_iff _ _).mp q]
   ·rw [List.getElem?_eq_none (by omega),List.getElem?_eq_none (by omega)]
  ·rintro rfl
   refine ⟨fun j hj=>?_,by simp⟩
   have hj':j < ds.length:=by have:=List.mem_range.mp hj; omega
   rw [List.getElem?_eq_getElem hj']
   exact D.beq_self _
 ·have e1:(ds.length == es.length)=false:=by simpa using hl
  have e2:D.beqL ds es=false:=by
   cases h:D.beqL ds es with
   | false=>rfl
   | true=>exact absurd (D.beqL_len ds es h) hl
  rw [e1,e2,Bool.and_false]
section
variable {X:Cx} {pins:List (Addr × Obj)} {σ:St} {H:Hp} {s:Shared}
mutual
theorem Is.inj (I:Inv X pins σ H s):∀ {d e:D} {v:V},Is X.K H d v→Is X.K H e v→d=e
 | .non,e,_,h,k=>by
  have:=h.non_inv; subst this
  cases e with
  | non=>rfl
  | int i=>cases k.int_inv
  | str i=>cases k.str_inv
  | tup es=>obtain ⟨_,_,q,_⟩:=k.tup_inv; cases q
 | .int i,e,_,h,k=>by
  have:=h.int_inv; subst this
  cases e with
  | non=>cases k.non_inv
  | int j=>cases k.int_inv; rfl
  | str i=>cases k.str_inv
  | tup es=>obtain ⟨_,_,q,_⟩:=k.tup_inv; cases q
 | .str i,e,_,h,k=>by
  have:=h.str_inv; subst this
  cases e with
  | non=>cases k.non_inv
  | int j=>cases k.int_inv
  | str i=>cases k.str_inv; rfl
  | tup es=>obtain ⟨_,_,q,_⟩:=k.tup_inv; cases q
 | .tup ds,e,_,h,k=>by
  obtain ⟨a,xs,rfl,q,l⟩:=h.tup_inv
  cases e with
  | non=>cases k.non_inv
  | int j=>cases k.int_inv
  | str i=>cases k.str_inv
  | tup es=>
   obtain ⟨b,ys,e',q',l'⟩:=k.tup_inv
   cases e'
   have:=I.tuple_inj q q'
   subst this
   rw [IsL.inj I l l']
theorem IsL.inj (I:Inv X pins σ H s):∀ {ds es:List D} {vs:List V},IsL X.K H ds vs→IsL X.K H es vs→ds=es
 | [],es,_,h,k=>by
  have:=h.nil_inv; subst this
  have:=k.length
  simp at this; rw [this]
 | d::ds,es,_,h,k=>by
  obtain ⟨v,r,rfl,p,q⟩:=h.cons_inv
  cases es with
  | nil=>cases k.nil_inv
  | cons e es=>
   obtain ⟨v',r',e',p',q'⟩:=k.cons_inv
   cases e'
   rw [Is.inj I p p',IsL.inj I q q']
end
theorem in1_units (A:Around):A.in1.units=A.units + 1:=rfl
mutual
theorem eqAt_D (I:Inv X pins σ H s):∀ (d:D) (e:D) {A:Around} {v v':V} {u u':Value},Is X.K H d v→Is X.K H e v'→RelV v u→RelV v' u'→A.units + d.dep < cLine→SeqAt.EqAt A s u u' (D.beq d e)
 | .non,e,A,v,v',u,u',h,k,r,r',hu=>by
  have:=h.non_inv; subst this
  have eu:u=.none:=r
  subst eu
  cases e with
  | non=>have:=k.non_inv; subst this; have eu:u'=.none:=r'; subst eu; exact SeqAt.EqAt.same _
  | int i=>have:=k.int_inv; subst this; obtain ⟨t,rfl⟩:=r'; exact SeqAt.EqAt.none_int _ _
  | str i=>have:=k.str_inv; subst this; obtain ⟨t,rfl⟩:=r'; exact SeqAt.EqAt.none_str _ _
  | tup es=>
   obtain ⟨a,xs,rfl,q,l⟩:=k.tup_inv
   have eu:u'=.ref a:=r'
   subst eu
   obtain ⟨its,rv,p,z⟩:=I.tuple q
   exact SeqAt.EqAt.none_tuple p (by have:D.dep .non=0:=by unfold D.dep; rfl
                                     omega)
 | .int i,e,A,v,v',u,u',h,k,r,r',hu=>by
  have:=h.int_inv; subst this
  obtain ⟨t,rfl⟩:=r
  cases e with
  | non=>have:=k.non_inv; subst this; have eu:u'=.none:=r'; subst eu; exact SeqAt.EqAt.int_none _ _
  | int j=>have:=k.int_inv; subst this; obtain ⟨t',rfl⟩:=r'; exact SeqAt.EqAt.int_int _ _ _ _
  | str j=>have:=k.str_inv; subst this; obtain ⟨t',rfl⟩:=r'; exact SeqAt.EqAt.int_str _ _ _ _
  | tup es=>
   obtain ⟨a,xs,rfl,q,l⟩:=k.tup_inv
   have eu:u'=.ref a:=r'
   subst eu
   obtain ⟨its,rv,p,z⟩:=I.tuple q
   exact SeqAt.EqAt.int_tuple _ _ p (by omega)
 | .str i,e,A,v,v',u,u',h,k,r,r',hu=>by
  have:=h.str_inv; subst this
  obtain ⟨t,rfl⟩:=r
  cases e with
  | non=>have:=k.non_inv; subst this; have eu:u'=.none:=r'; subst eu; exact SeqAt.EqAt.str_none _ _
  | int j=>have:=k.int_inv; subst this; obtain ⟨t',rfl⟩:=r'; exact SeqAt.EqAt.str_int _ _ _ _
  | str j=>have:=k.str_inv; subst this; obtain ⟨t',rfl⟩:=r'; exact SeqAt.EqAt.str_str _ _ _ _
  | tup es=>
   obtain ⟨a,xs,rfl,q,l⟩:=k.tup_inv
   have eu:u'=.ref a:=r'
   subst eu
   obtain ⟨its,rv,p,z⟩:=I.tuple q
   exact SeqAt.EqAt.str_tuple _ _ p (by omega)
 | .tup ds,e,A,v,v',u,u',h,k,r,r',hu=>by
  obtain ⟨a,xs,rfl,q,l⟩:=h.tup_inv
  have eu:u=.ref a:=r
  subst eu
  obtain ⟨its,rv,p,z⟩:=I.tuple q
  have hd:D.dep (.tup ds)=1 + D.depL ds:=by conv=>lhs; unfold D.dep
  cases e with
  | non=>have:=k.non_inv; subst this; have eu:u'=.none:=r'; subst eu; exact SeqAt.EqAt.tuple_none p (by omega)
  | int j=>have:=k.int_inv; subst this; obtain ⟨t',rfl⟩:=r'; exact SeqAt.EqAt.tuple_int _ _ p (by omega)
  | str j=>have:=k.str_inv; subst this; obtain ⟨t',rfl⟩:=r'; exact SeqAt.EqAt.tuple_str _ _ p (by omega)
  | tup es=>
   obtain ⟨b,ys,rfl,q',l'⟩:=k.tup_inv
   have eu:u'=.ref b:=r'
   subst eu
   by_cases hab:a=b
   ·subst hab
    have e:=I.tuple_inj q q'
    subst e
    have e:=IsL.inj I l l'
    subst e
    rw [D.beq_self]
    exact SeqAt.EqAt.same _
   ·refine SeqAt.EqAt.of_refs hab ?_
    obtain ⟨its',rv',p',z'⟩:=I.tuple q'
    have ln:=l.length
    have ln':=l'.length
    have lr:=rv.length
    have lr':=rv'.length
    have R:=SeqAt.RcAt.tuples (A:=A) (s:=s) (e:=fun j=>match ds[j]?,es[j]? with | some d,some e=>D.beq d e | _,_=>true) p p' (by omega) (fun j h1 h2=>?_)
    ·have e1:its.toArray.size=ds.length:=by rw [List.size_toArray]; omega
     have e2:its'.toArray.size=es.length:=by rw [List.size_toArray]; omega
     rw [e1,e2,D.beqL_all] at R
     have e3:D.beq (.tup ds) (.tup es)=D.beqL ds es:=by conv=>lhs; unfold D.beq
     rw [e3]
     exact R
    ·have j1:j < ds.length:=by rw [List.size_toArray] at h1; omega
     have j2:j < es.length:=by rw [List.size_toArray] at h2; omega
     obtain ⟨x,ex,ix⟩:=l.get (List.getElem?_eq_getElem j1)
     obtain ⟨y,ey,iy⟩:=l'.get (List.getElem?_eq_getElem j2)
     obtain ⟨w1,ew1,rw1⟩:=rv.get ex
     obtain ⟨w2,ew2,rw2⟩:=rv'.get ey
     have f1:its.toArray[j]=w1:=by
      have:its.toArray[j]?=some w1:=by simpa using ew1
      exact (Array.getElem?_eq_some_iff.mp this).2
     have f2:its'.toArray[j]=w2:=by
      have:its'.toArray[j]?=some w2:=by simpa using ew2
      exact (Array.getElem?_eq_some_iff.mp this).2
     rw [f1,f2]
     try dsimp only
     rw [List.getElem?_eq_getElem j1,List.getElem?_eq_getElem j2]
     have dl:(ds[j]).dep≤D.depL ds:=D.dep_le (List.getElem_mem j1)
     exact eqAt_L I ds j ds[j] (List.getElem?_eq_getElem j1) es[j] ix iy rw1 rw2 (by rw [in1_units]; omega)
theorem eqAt_L (I:Inv X pins σ H s):∀ (ds:List D) (j:Nat) (d:D),ds[j]?=some d→∀ (e:D) {A:Around} {v v':V} {u u':Value},Is X.K H d v→Is X.K H e v'→RelV v u→RelV v' u'→A.units + d.dep < cLine→SeqAt.EqAt A s u u' (D.beq d e)
 | [],_,_,h=>by simp at h
 | d::ds,0,_,h=>by
  simp at h; subst h
  exact fun e {A v v' u u'}=>eqAt_D I d e
 | d::ds,j + 1,_,h=>by
  exact eqAt_L I ds j _ (by simpa using h)
end
def rEqD (K:PySem.W.Frag) (n:Nat) (neg:Bool):R2:=fun x y H Q=>ExQ Q (fun ds Q=>ExQ Q (fun es Q=>Is K H (.tup ds) x∧Is K H (.tup es) y∧D.depL ds < n∧Q (.bl (if neg then !D.beqL ds es else D.beqL ds es)) H))
theorem rc_D (I:Inv X pins σ H s) {A:Around} {ds es:List D} {a b:Addr} (h:Is X.K H (.tup ds) (.ref a)) (k:Is X.K H (.tup es) (.ref b)) (hu:A.units + 1 + D.depL ds < cLine) :
  SeqAt.RcAt A s (.ref a) (.ref b) (D.beqL ds es)∧SeqAt.RcNeAt A s (.ref a) (.ref b) (!D.beqL ds es):=by
 obtain ⟨_,xs,e,q,l⟩:=h.tup_inv
 cases e
 obtain ⟨_,ys,e,q',l'⟩:=k.tup_inv
 cases e
 obtain ⟨its,rv,p,z⟩:=I.tuple q
 obtain ⟨its',rv',p',z'⟩:=I.tuple q'
 have ln:=l.length
 have ln':=l'.length
 have lr:=rv.length
 have lr':=rv'.length
 have e1:its.toArray.size=ds.length:=by rw [List.size_toArray]; omega
 have e2:its'.toArray.size=es.length:=by rw [List.size_toArray]; omega
 have he:∀ j (h1:j < its.toArray.size) (h2:j < its'.toArray.size),SeqAt.EqAt A.in1 s its.toArray[j] its'.toArray[j] ((fun j=>match ds[j]?,es[j]? with | some d,some e=>D.beq d e | _,_=>true) j):=fun j h1 h2=>by
  have j1:j < ds.length:=by omega
  have j2:j < es.length:=by omega
  obtain ⟨x,ex,ix⟩:=l.get (List.getElem?_eq_getElem j1)
  obtain ⟨y,ey,iy⟩:=l'.get (List.getElem?_eq_getElem j2)
  obtain ⟨w1,ew1,rw1⟩:=rv.get ex
  obtain ⟨w2,ew2,rw2⟩:=rv'.get ey
  have f1:its.toArray[j]=w1:=by
   have:its.toArray[j]?=some w1:=by simpa using ew1
   exact (Array.getElem?_eq_some_iff.mp this).2
  have f2:its'.toArray[j]=w2:=by
   have:its'.toArray[j]?=some w2:=by simpa using ew2
   exact (Array.getElem?_eq_some_iff.mp this).2
  rw [f1,f2]
  try dsimp only
  rw [List.getElem?_eq_getElem j1,List.getElem?_eq_getElem j2]
  have dl:(ds[j]).dep≤D.depL ds:=D.dep_le (List.getElem_mem j1)
  exact eqAt_D I _ _ ix iy rw1 rw2 (by rw [in1_units]; omega)
 have R1:=SeqAt.RcAt.tuples p p' (by omega) he
 have R2:=SeqAt.RcNeAt.tuples p p' (by omega) he
 rw [e1,e2,D.beqL_all] at R1 R2
 exact ⟨R1,R2⟩
end
section
variable {X:Cx}
theorem op_neD {n:Nat} (hu:X.A.units + 1 + n < cLine):OpR X (compareOp .NotEq) (rEqD X.K n true):=by
 intro pins s σ H x y v u Q I rx ry h
 obtain ⟨ds,es,h1,h2,hd,q⟩:=h
 obtain ⟨a,_,rfl,_⟩:=h1.tup_inv
 obtain ⟨b,_,rfl,_⟩:=h2.tup_inv
 cases rx; cases ry
 exact (rc_D I h1 h2 (by omega)).2 X.prog X.w X.xe _ ⟨.bl _,H,I,rfl,q⟩
def rIsi (K:PySem.W.Frag):List V→Hp→VK→Prop:=fun xs H Q=>ExQ Q (fun x Q=>ExQ Q (fun T Q=>ExQ Q (fun t Q=>ExQ Q (fun b Q=>xs=[x,.ty T]∧TyOf K H x t∧PySem.W.kitOne K t (.type T)=some b∧Q (.bl b) H))))
theorem call_isi:CallR X (.builtin "isinstance") (rIsi X.K):=by
 intro pins s σ H xs us Q I r h
 obtain ⟨x,T,t,b,rfl,ty,k,q⟩:=h
 obtain ⟨u,w',rfl,rx,rT⟩:=r.two
 have e:w'=.type T:=rT
 subst e
 exact isinst_ok I rx ty k fun tk=>⟨.bl b,H,I.tok tk,rfl,q⟩
end
def Cl (P:Program) (w:World) (K:PySem.W.Frag) (mg:Str→Option Value) (base:Heap) (x:Str) (k:Nat) (ps:List Str) (sp:Sp):Prop:=
 ∃ f fd,FnOk P w K mg base CX0 k f fd ps sp∧Binds K fd ps []∧PySem.W.keepIn K (.ref f)=true∧mg x=some (.ref f)
theorem Cl.mono {P:Program} {w:World} {K:PySem.W.Frag} {mg:Str→Option Value} {base:Heap} {x:Str} {j k:Nat} {ps:List Str} {sp:Sp} (c:Cl P w K mg base x j ps sp) (h:j≤k):Cl P w K mg base x k ps sp:=
 let ⟨f,fd,F,b,kp,m⟩:=c; ⟨f,fd,F.mono h,b,kp,m⟩
theorem Fun.cl {P:Program} {w:World} {K:PySem.W.Frag} {mg:Str→Option Value} {base:Heap} {x:Str} {st:Stmt} {f:Addr} {fd:FuncData} {k:Nat} {ps:List Str} {sp:Sp} (F:Fun K x x st f fd) (ok:FnOk P w K mg base CX0 k f fd ps sp) (m:mg x=some (.ref f))
  (h:∀ (kV doc pm:Value) (an:Option Addr) (cdv ct:Value) (us:List Value),us.length=ps.length→bindArgs (PySem.W.fnOf x x (defArgs st) (defBody st) (defScope st) .none kV doc pm an cdv ct) ⟨us,[]⟩=pure (ps.zip us)):Cl P w K mg base x k ps sp:=
 ⟨f,fd,ok,F.binds h,F.kp,m⟩
def tCl (sp:Sp) (t:TA):TE:=fun σ H Q=>t σ H fun vs H1=>sp vs H1 Q E0
section
variable {X:Cx} {x:Str} {k:Nat} {ps:List Str} {sp:Sp} {p pos:Pos} {e:Expr} {es:List Expr} {t:TA}
theorem pe_cl (c:Cl X.prog X.w X.K X.mg X.base x k ps sp) (hr:Room k X.A) (hg:Gl X x) (ha:PA X (e::es) t) (hdb:(x == ("__debug__":Str))=false:=by decide)
  (he:starEach (e::es) X.env=(false,eval e X.env)::starEach es X.env:=by rfl) (hpl:(backTo pos (starEach es X.env)).any (·.1)=false:=by rfl):PE X (.Call (.Name x p) (e::es) [] pos) (tCl sp t):=by
 obtain ⟨f,fd,F,b,kp,m⟩:=c
 have h:=pe_call (E:=E0) (pos:=pos) (p:=p) F hr hg m kp b .nil pass0 ha hdb he hpl
 have e1:tCall sp [] E0 t=tCl sp t:=by
  funext σ H Q
  unfold tCall tCl
  simp only [List.append_nil]
 rw [e1] at h
 exact h
end
def KD (P:Program) (w:World) (K:PySem.W.Frag) (a:Addr) (kvs:List (Str × V)):Prop:=
 ∀ h:Heap,K.In h→∃ vs,KV (kvs.map fun p=>((Sum.inr p.1:Key),p.2)) vs∧h.DictOf (mixKind P w) a vs
def rIxKD (P:Program) (w:World) (K:PySem.W.Frag):R2:=fun x y H Q=>ExQ Q (fun p Q=>ExQ Q (fun kvs Q=>ExQ Q (fun z Q=>ExQ Q (fun v Q=>x=.ref p∧y=.str z∧KD P w K p kvs∧kvs.lookup z=some v∧Q v H))))
theorem kv_at {kvs:List (Str × V)}:∀ {vs:List (Key × Value)} {z:Str} {v:V},KV (kvs.map fun p=>((Sum.inr p.1:Key),p.2)) vs→kvs.lookup z=some v→∃ u,PySem.valueAt vs (Sum.inr z:Key)=some u∧RelV v u:=by
 induction kvs with
 | nil=>intro vs z v _ h; simp at h
 | cons p r ih=>
  intro vs z v hk h
  obtain ⟨x,y⟩:=p
  cases hk with
  | cons hd tl=>
   rename_i q l2
   obtain ⟨qk,qv⟩:=q
   obtain ⟨e1,e2⟩:=hd
   dsimp only at e1 e2
   subst e1
   by_cases hz:z=x
   ·subst hz
    simp only [List.lookup_cons,beq_self_eq_true] at h
    cases h
    refine ⟨qv,?_,e2⟩
    unfold PySem.valueAt
    simp
   ·have hb:(z == x)=false:=by simpa using hz
    simp only [List.lookup_cons,hb] at h
    obtain ⟨u,e,ru⟩:=ih tl h
    refine ⟨u,?_,ru⟩
    unfold PySem.valueAt at e ⊢
    have hne:¬ ((Sum.inr x:Key)=Sum.inr z):=fun q=>hz (Sum.inr.inj q).symm
    simp only [List.find?_cons,decide_eq_false hne]
    exact e
section
variable {X:Cx}
theorem ix_kd:IxR X (rIxKD X.prog X.w X.K):=by
 intro value slice pins s σ H x y v u Q I rx ry h hs
 obtain ⟨p,kvs,z,w',rfl,rfl,hk,hl,q⟩:=h
 cases rx
 obtain ⟨t,rfl⟩:=ry
 obtain ⟨vs,rel,dd⟩:=hk s.heap I.kIn
 obtain ⟨r,er,rr⟩:=kv_at rel hl
 have fin:∀ s',Inv X pins σ H s'→EP X pins σ Q r s':=fun s' I'=>⟨w',H,I',rr,q⟩
 have hm:=dd.mapOf
 exact subscriptTail_builtinR (x:=r) hm.typeIs slot_dict_getitem.lookup (wpAny_getItem_of (k:=(Sum.inr z:Key)) (mixKind_str _ _ z t) hm er ⟨rfl,fin _ (I.tok _)⟩) hs
end
theorem KD.of {P:Program} {w:World} {K:PySem.W.Frag} {a:Addr} {o:Obj} {es:Array DictEntry} {ep:Nat} {kvs:List (Str × V)} (l:K.lookup a=some o) (hx:o.ExactDict) (hd:o.data=.dict es ep)
  (hp:Paired (fun (p:Str × V) (e:DictEntry)=>e.hash=hashStr w p.1∧(∃ t,e.key=.str p.1 t)∧RelV p.2 e.val) kvs es.toList) (hn:(kvs.map (·.1)).Nodup):KD P w K a kvs:=by
 intro h hk
 have go:∀ (kvs:List (Str × V)) (l:List DictEntry),Paired (fun (p:Str × V) (e:DictEntry)=>e.hash=hashStr w p.1∧(∃ t,e.key=.str p.1 t)∧RelV p.2 e.val) kvs l→
   ∃ vs:List (Key × Value),KV (kvs.map fun p=>((Sum.inr p.1:Key),p.2)) vs∧(∀ e∈l,∃ k,(mixKind P w).is k e.key=true∧e.hash=(mixKind P w).hash k)∧PySem.Pairs (mixKind P w) l vs∧vs.map (·.1)=kvs.map fun p=>(Sum.inr p.1:Key):=by
  intro kvs l hp
  induction hp with
  | nil=>exact ⟨[],.nil,fun e he=>(nomatch he),.nil,rfl⟩
  | @cons p e l1 l2 hd tl ih=>
   obtain ⟨vs,h1,h2,h3,h4⟩:=ih
   obtain ⟨q1,⟨t,q2⟩,q3⟩:=hd
   refine ⟨(Sum.inr p.1,e.val)::vs,.cons ⟨rfl,q3⟩ h1,fun e' he'=>?_,?_,?_⟩
   ·rcases List.mem_cons.mp he' with rfl | he'
    ·exact ⟨Sum.inr p.1,by rw [q2]; exact mixKind_str _ _ _ _,q1⟩
    ·exact h2 e' he'
   ·exact .cons (by rw [q2]; exact mixKind_str _ _ _ _) rfl h3
   ·simp [h4]
 obtain ⟨vs,h1,h2,h3,h4⟩:=go kvs es.toList hp
 refine ⟨vs,h1,o,es,ep,hk a o l,hx,hd,fun e he=>h2 e (by simpa using he),h3,?_⟩
 rw [h4]
 have:(kvs.map fun p=>(Sum.inr p.1:Key))=(kvs.map (·.1)).map Sum.inr:=by simp
 rw [this]
 exact List.Pairwise.map _ (fun a b hab q=>hab (Sum.inr.inj q)) hn
def constV:Expr→Option V
 | .Constant (.int i) _ _=>some (.int i)
 | .Constant (.str x) _ _=>some (.str x)
 | .Constant .none _ _=>some .non
 | .Constant (.bool b) _ _=>some (.bl b)
 | _=>none
def constVs:List Expr→Option (List V)
 | []=>some []
 | e::es=>match constV e,constVs es with
  | some v,some vs=>some (v::vs)
  | _,_=>none
def tCs (vs:List V):TA:=fun _ H Q=>Q vs H
theorem const_star {X:Cx} {e:Expr} {es:List Expr} {v:V} (h:constV e=some v):starEach (e::es) X.env=(false,eval e X.env)::starEach es X.env:=by
 unfold constV at h
 split at h
 ·rfl
 ·rfl
 ·rfl
 ·rfl
 ·cases h
theorem const_pe {X:Cx} {e:Expr} {v:V} (h:constV e=some v):PE X e (tC v):=by
 unfold constV at h
 split at h
 ·cases h; exact pe_int
 ·cases h; exact pe_str
 ·cases h; exact pe_non
 ·cases h; exact pe_bl
 ·cases h
theorem pa_consts {X:Cx}:∀ {es:List Expr} {vs:List V},constVs es=some vs→PA X es (tCs vs)
 | [],vs,h=>by
  cases h
  exact pa_nil
 | e::es,vs,h=>by
  unfold constVs at h
  split at h
  ·rename_i v ws h1 h2
   cases h
   exact pa_cons (const_pe h1) (pa_consts h2) (const_star h1)
  ·cases h
section
variable {X:Cx} {K:PySem.W.Frag}
theorem sl_listK (h:X.K=K):SlR X (rSlL K):=h ▸ sl_list
theorem pg_tupK {es:List Expr} {k:Nat} {t:TGs} {n:Nat} {pos:Pos} (hK:X.K=K) (hc:X.calm=true) (h:PGs X es t)
  (hn:(assignEach es X.env).length=n:=by rfl) (hst:(assignEach es X.env).findIdx? (·.1)=none:=by rfl):PG X (.Tuple es k pos) (gTup K n t):=hK ▸ pg_tup hc h hn hst
end
def Ite (K:PySem.W.Frag) (a:Addr):It:=
 ⟨fun i H=>∃ xs x,SqL K H a xs∧xs[i]?=some x,fun i H x H'=>∃ t,H t=none∧x=.ref t∧∀ xs,SqL K H a xs→∃ v,xs[i]?=some v∧H'=upd H t (.tup [.int i,v]),fun i H=>∃ xs,SqL K H a xs∧xs.length≤i⟩
theorem turn_enum {P:Program} {w:World} {K:PySem.W.Frag} {es:List Expr} {k:Nat} {pos:Pos} (a e it:Addr) (hne:e≠it) :
  Turn P w K (.Tuple es k pos) (Ite K a) [e,it] e (fun i h=>(∃ old,IsEnum h e it (i:Int) old)∧h.IsListIter it a i) where
 mem:=by simp
 obj:=fun i h st b hb=>by
  obtain ⟨⟨old,st1⟩,o,e2,c,d⟩:=st
  simp only [List.mem_cons,List.not_mem_nil,or_false] at hb
  rcases hb with rfl | rfl
  ·exact ⟨_,st1,fun v z=>by cases z⟩
  ·exact ⟨o,e2,fun v z=>by rw [d] at z; cases z⟩
 keep:=fun i h h' st kp=>⟨let ⟨old,z⟩:=st.1; ⟨old,kp e (by simp) _ z⟩,st.2.at fun o q=>kp it (by simp) o q⟩
 item:=by
  intro X hP hw hK hc i pins s σ H E I hf st hg
  subst hP hw hK
  obtain ⟨xs,x,hq,hx⟩:=hg
  obtain ⟨its,rv,p,hz⟩:=I.list hq
  obtain ⟨u,hu,ru⟩:=rv.get hx
  obtain ⟨⟨old,st1⟩,st2⟩:=st
  refine wpAny_pyNext_enum_item st1 st2 p.isList (x:=u) (by simpa using hu) hne fun h1 o1 l1 t1 z1 k1=>?_
  refine ⟨_,rfl,wpAny_letOwnedTupleGo_enum o1 fun h2 o2 b2=>?_⟩
  have hnew:H s.heap.objs.size=none:=I.fresh
  have lte:e < s.heap.objs.size:=Heap.lt_size st1
  have k2:∀ b o,b≠e→b≠it→s.heap.get? b=some o→h2.get? b=some o:=fun b o b1 b2' q=>b2.extBut b o b1 (k1 b o b1 b2' q)
  have t2:h2.get? s.heap.objs.size=some { cls:=.type "tuple",data:=.seq #[.int i s.toks,u] }:=b2.extBut _ _ (Nat.ne_of_gt lte) t1
  have fe:=hf e (by simp)
  have fi:=hf it (by simp)
  have nch:∀ b o,H b=some o→b≠e∧b≠it:=fun b o q=>⟨fun z=>by (rw [z,fe.1] at q; cases q),fun z=>by (rw [z,fi.1] at q; cases q)⟩
  have I2:Inv X pins σ (upd H s.heap.objs.size (.tup [.int i,x])) { s with heap:=h2,gens:=s.gens,drawn:=s.drawn,toks:=s.toks + 1 }:=by
   refine I.step (ch:=[e,it]) (fun b hb=>?_) (fun b o _ _ hc q _=>k2 b o (fun z=>hc (by simp [z])) (fun z=>hc (by simp [z])) q) (fun b o _ _ hc q _=>⟨o.slots,k2 b o (fun z=>hc (by simp [z])) (fun z=>hc (by simp [z])) q⟩)
    (fun b o _ q n=>by rw [upd_ne (Nat.ne_of_lt (Heap.lt_size q))]; exact n) (fun b o hc q=>⟨o,k2 b o (fun z=>hc (by simp [z])) (fun z=>hc (by simp [z])) q⟩)
    (fun b zs q=>by rw [upd_ne (ne_of_none q hnew)]; exact q) (fun b o v q=>by rw [upd_ne (ne_of_none q hnew)]; exact q) (fun b ps q=>⟨#[],by rw [upd_ne (ne_of_none q hnew),q]; simp⟩) (fun m hm=>?_) (fun b o q=>?_) I.bare
   ·simp only [List.mem_cons,List.not_mem_nil,or_false] at hb
    rcases hb with rfl | rfl
    ·exact ⟨fe.2.2.2.1,fe.2.1,fe.2.2.2.2.1,fe.2.2.2.2.2⟩
    ·exact ⟨fi.2.2.2.1,fi.2.1,fi.2.2.2.2.1,fi.2.2.2.2.2⟩
   ·obtain ⟨o,es',ep,ho,r⟩:=hm
    exact ⟨o,es',ep,k2 _ o (Ne.symm fe.2.1) (Ne.symm fi.2.1) ho,r⟩
   ·by_cases hb:b=s.heap.objs.size
    ·subst hb
     rw [upd_same] at q
     cases q
     exact ⟨by show 2≤sizeLine; decide,[.int i s.toks,u],.cons ⟨_,rfl⟩ (.cons ru .nil),_,t2,rfl,_,rfl⟩
    ·rw [upd_ne hb] at q
     refine (I.hok b o q).stay (fun c v hc z=>k2 c v ?_ ?_ z) (fun c z=>by rw [upd_ne (ne_of_none z hnew)]; exact z) fun c zs z=>by rw [upd_ne (ne_of_none z hnew)]; exact z
     ·rcases hc with z' | z'
      ·rw [z']; exact (nch b o q).1
      ·exact (nch c _ z').1
     ·rcases hc with z' | z'
      ·rw [z']; exact (nch b o q).2
      ·exact (nch c _ z').2
  refine ⟨.ref s.heap.objs.size,_,I2,rfl,⟨_,hnew,rfl,fun ys hy=>⟨x,by rw [I.list_inj hy hq]; exact hx,rfl⟩⟩,⟨⟨u,?_⟩,l1.extBut b2.extBut (Ne.symm hne)⟩,fun b hb=>?_⟩
  ·have:((i:Int) + 1)=((i + 1:Nat):Int):=by omega
   rw [← this]; exact o2
  ·simp only [List.mem_cons,List.not_mem_nil,or_false] at hb
   rcases hb with rfl | rfl
   ·rw [upd_ne (Nat.ne_of_lt lte)]; exact fe.1
   ·obtain ⟨oi,ei,_⟩:=st2
    rw [upd_ne (Nat.ne_of_lt (Heap.lt_size ei))]; exact fi.1
 done:=by
  intro X hP hw hK hc i pins s σ H E I hf st hg
  subst hP hw hK
  obtain ⟨xs,hq,hx⟩:=hg
  obtain ⟨its,rv,p,hz⟩:=I.list hq
  obtain ⟨⟨old,st1⟩,st2⟩:=st
  obtain ⟨f0,f1,f2,f3,f4,f5⟩:=hf it (by simp)
  have hl:=rv.length
  exact wpAny_pyNext_enum_end (I.ok.hd hc) st1 st2 p.isList (by simp; omega) fun h' eb=>⟨rfl,I.turned (t':=s.toks) (fun b o hb e=>eb b o hb e) f0 f1 f3 f4 f5⟩
 self:=fun A i s Q E st h=>by
  obtain ⟨old,st1⟩:=st.1
  have hT:s.TypeIs (.ref e) "enumerate":=⟨_,st1,rfl⟩
  exact wpAny_pyIter_slot hT F.slot_enumerate_iter (wpAny_call_entry F.slot_enumerate_iter hT F.entry_enumerate_iter (wpAny_pure ⟨_,rfl, "enumerate",_,hT,F.slot_enumerate_next.lookup,h⟩) (F.args_enumerate_iter_1 _))
section
variable {X:Cx}
def iEnum (K:PySem.W.Frag) (ta:TA):TI:=fun σ H R=>ta σ H fun vs H1=>ExQ R (fun a R=>vs=[.ref a]∧(∃ xs,SqL K H1 a xs)∧R (Ite K a) H1)
theorem pi_enum {es:List Expr} {k:Nat} {post:Pos} {a:Expr} {ta:TA} {p pos:Pos} (hg:Gl X "enumerate") (hm:X.mg "enumerate" = none) (ha:PA X [a] ta) (hs:starEach [a] X.env=[(false,eval a X.env)]:=by rfl) :
  PI X (.Tuple es k post) (.Call (.Name "enumerate" p) [a] [] pos) (iEnum X.K ta):=by
 intro pins s σ H R I h
 refine Call_ (ld_blt I hg hm PyProof.Rows.boot_enumerate (PyProof.Rows.callWith_type1 (thn (ha pos pins s σ H _ I h) fun us s1 hpat=>?_) hs rfl))
 obtain ⟨vs,H1,I1,r1,q1⟩:=hpat
 obtain ⟨l,rfl,⟨xs,hq⟩,q⟩:=q1
 obtain ⟨u,rfl,ru⟩:=r1.one
 cases ru
 obtain ⟨its,rv,pl,hz⟩:=I1.list hq
 refine call_enumerate_list pl.isList fun h' en it sz kp=>?_
 have T:=turn_enum (P:=X.prog) (w:=X.w) (K:=X.K) (es:=es) (k:=k) (pos:=post) l (s1.heap.objs.size + 1) s1.heap.objs.size (Nat.succ_ne_self _)
 have st:(∃ old,IsEnum h' (s1.heap.objs.size + 1) s1.heap.objs.size (((0:Nat)):Int) old)∧h'.IsListIter s1.heap.objs.size l 0:=⟨⟨_,en⟩,it⟩
 have I2:Inv X pins σ H1 { s1 with heap:=h' }:=I1.kept (t':=s1.toks) kp
 refine T.self X.A 0 { s1 with heap:=h' } _ _ st ?_
 refine ⟨_,_,_,_,H1,rfl,I2,T,st,fun b hb=>?_,q⟩
 simp only [List.mem_cons,List.not_mem_nil,or_false] at hb
 rcases hb with rfl | rfl
 ·exact I1.fpOk (Nat.le_succ _) (I1.hok.fresh (Nat.le_succ _))
 ·exact I1.fpOk (Nat.le_refl _) (I1.hok.fresh (Nat.le_refl _))
end
theorem for_enum {K:PySem.W.Frag} {a:Addr} {xs:List V} {g:TG} {tb:TS} {D:Ends} {σ:St} {H:Hp} (Pv:Nat→St→Hp→Prop) (h0:Pv 0 σ H) (hl:∀ i σ H,i≤xs.length→Pv i σ H→SqL K H a xs)
  (hs:∀ i x σ H t,xs[i]?=some x→Pv i σ H→H t=none→g (.ref t) σ (upd H t (.tup [.int (i:Int),x])) fun σ2 H2=>tb { D with nx:=Pv (i + 1),ct:=Pv (i + 1),bk:=D.nx } σ2 H2) (hd:∀ σ H,Pv xs.length σ H→D.nx σ H) :
  ∃ W:Nat→Nat→St→Hp→Prop,(∃ m,W 0 m σ H)∧∀ i m σ H,W i m σ H→
   ((Ite K a).stop i H∧D.nx σ H)∨((Ite K a).go i H∧∃ N:St→Hp→Prop,(∀ σ' H',N σ' H'→∃ m',m' < m∧W (i + 1) m' σ' H')∧∀ x H',(Ite K a).yld i H x H'→g x σ H' fun σ2 H2=>tb { D with nx:=N,ct:=N,bk:=D.nx } σ2 H2):=by
 refine ⟨fun i m σ H=>i≤xs.length∧m=xs.length - i∧Pv i σ H,⟨xs.length,Nat.zero_le _,rfl,h0⟩,fun i m σ H hw=>?_⟩
 obtain ⟨hi,rfl,hp⟩:=hw
 have hq:=hl i σ H hi hp
 by_cases hlt:i < xs.length
 ·refine .inr ⟨⟨xs,xs[i],hq,List.getElem?_eq_getElem hlt⟩,Pv (i + 1),fun σ' H' h'=>⟨xs.length - (i + 1),by omega,by omega,rfl,h'⟩,fun x H' hy=>?_⟩
  obtain ⟨t,nt,rfl,hv⟩:=hy
  obtain ⟨v,ev,rfl⟩:=hv xs hq
  exact hs i v σ H t ev hp nt
 ·have e:i=xs.length:=by omega
  subst e
  exact .inl ⟨⟨xs,hq,Nat.le_refl _⟩,hd σ H hp⟩
section
variable {X:Cx} {pins:List (Addr × Obj)} {σ:St} {H:Hp} {s:Shared}
end
section
variable {X:Cx}
end
end L2
namespace L2
open PySem PySem.Spec PyProof.Rows PySem.W
section
variable {prog:Program} {w:World} {A:Around} {E:Value→Shared→Prop} {h:Heap} {g:Array GenState} {d:Drawn} {t:Nat} {os:OsState}
variable {nm q:Str} {C N:Addr} {bs bm bmB:List Value} {hdct:Bool} {sn:List Str} {sub:List Value} {ab:Bool} {col:Option Bool} {dd:Option Addr} {k0 k1 k2 k3 k5:Option Value} {B newId initId:String}
def madeX (h:Heap) (C:Addr) (rest:List Value):Heap:=
 (h.push { cls:=.type "tuple",data:=.seq rest.toArray }).push { cls:=.ref C,data:=.fields #[.ref h.objs.size,.none,.none,.none,.bool false,.none] }
theorem xc_typeCall (F:ExcBaseFacts B newId initId bmB) (T:OwnTail h bmB bm) {mN:Str→Option Value} {rest:List Value} {fI:Addr} {oI:Obj} {Q:Fin→Shared→Prop}
  (hC:h.get? C=some (excClassObj nm q C N bs bm hdct sn sub ab col dd k0 k1 k2 k3 k5 newId)) (hn:h.Ns N mN) (hi:mN "__init__" = some (.ref fI))
  (hfI:h.get? fI=some oI) (hfc:oI.cls=.type "function")
  (hq:wpAny (model prog w) A (call (.ref fI) (.ref (h.objs.size + 1)::rest)) (fun r s'=>r=.none∧Q (.done (.ret (.ref (h.objs.size + 1)))) s') E ⟨madeX h C rest,g,d,t,os⟩) (hrest:rest.length≤sizeLine) :
  wpAny (model prog w) A (Builtin.«type.__call__» ⟨.ref C::rest,[]⟩) Q E ⟨h,g,d,t,os⟩:=by
 repeat (first | with_reducible refine wpAny_loadPart_at hC ?_ | with_reducible refine wpAny_madeBy_exc hC ?_ | wp_step)
 refine codeAny_call_builtin_code (Code.quiet_builtin _ F.quiet) (wpAny_check_new_subT F T hC ?_)
 refine codeAny_exc_new_subT F T hC ?_ hrest
 show wpAny _ _ _ _ _ _
 rw [show (h.push { cls:=.type "tuple",data:=.seq rest.toArray }).push { cls:=.ref C,data:=.fields #[.ref h.objs.size,.none,.none,.none,.bool false,.none] }=madeX h C rest from rfl]
 generalize hpp:madeX h C rest=hp at hq ⊢
 unfold madeX at hpp
 have kp:∀ b o,h.get? b=some o→hp.get? b=some o:=fun b o e=>by subst hpp; exact Heap.get?_push_of_some _ (Heap.get?_push_of_some _ e)
 have hC₁:=kp _ _ hC
 have hfI₁:=kp _ _ hfI
 have hn₁:hp.Ns N mN:=hn.keeps kp
 have T₁:=T.keeps kp
 have hget:hp.get? (h.objs.size + 1)=some { cls:=.ref C,data:=.fields #[.ref h.objs.size,.none,.none,.none,.bool false,.none] }:=by subst hpp; heap_get
 have hcC:(Value.ref C::bm).contains (.ref C)=true:=by simp
 unfold isInstance
 repeat (first | with_reducible refine wpAny_loadPart_at hget ?_ | (with_reducible refine wpAny_isSubtype_exc hC₁ ?_; rw [hcC]) | wp_step)
 show wpAny _ _ (typeLookup (.ref C) _) _ _ _
 refine wpAny_typeLookup_tail hC₁ hn₁ T₁ F.mroIs F.init.lookup ?_
 rw [hi]
 refine wpAny_holding (wpAny_bind ?_)
 unfold bindSpecial
 refine wpAny_bind (wpAny_typeOf (T:="function") ⟨_,hfI₁,hfc⟩ ?_)
 rw [if_pos (by decide)]
 refine wpAny_pure (wpAny_bind (wpAny_mono hq (fun r s' hr=>?_) fun _ _ x=>x))
 obtain ⟨rfl,hQ⟩:=hr
 wp_walk
 exact hQ
theorem xc_call (F:ExcBaseFacts B newId initId bmB) (T:OwnTail h bmB bm) {mN:Str→Option Value} {rest:List Value} {fI:Addr} {oI:Obj} {Q:Value→Shared→Prop}
  (hC:h.get? C=some (excClassObj nm q C N bs bm hdct sn sub ab col dd k0 k1 k2 k3 k5 newId)) (hn:h.Ns N mN) (hi:mN "__init__" = some (.ref fI))
  (hfI:h.get? fI=some oI) (hfc:oI.cls=.type "function")
  (hq:wpAny (model prog w) (A.under (.builtin "type.__call__" ⟨.ref C::rest,[]⟩)) (call (.ref fI) (.ref (h.objs.size + 1)::rest)) (fun r s'=>r=.none∧Q (.ref (h.objs.size + 1)) s') E ⟨madeX h C rest,g,d,t,os⟩) (hrest:rest.length≤sizeLine) :
  wpAny (model prog w) A (call (.ref C) rest) Q E ⟨h,g,d,t,os⟩:=by
 have f1:=tc_lookup
 have f2:=tc_bind (.ref C)
 have hT:(⟨h,g,d,t,os⟩:Shared).TypeIs (.ref C) "type":=⟨_,hC,rfl⟩
 refine wpAny_call (codeAny_of_tree ?_)
 show wpAny _ _ (callAny (.ref C) _) _ _ _
 repeat (any_goals (first | assumption | with_reducible refine wpAny_loadPart_at hC ?_ | wp_step))
 refine ⟨rfl,?_⟩
 exact codeAny_call_builtin_at (Code.quiet_builtin _ (by decide +kernel)) entry_typeCall (wpAny_check_type_call_sub hC (xc_typeCall F T hC hn hi hfI hfc hq hrest))
end
def overV:List Value→Bool
 | .ref _::r=>overV r
 | l=>l == [.type "ValueError",.type "Exception",.type "BaseException",.type "object"]
def xOver (K:PySem.W.Frag) (C:Addr):Bool:=(PySem.W.clsIn K C).any fun c=>overV c.mro
theorem overV_tail:∀ {l:List Value},overV l=true→(∃ a r,l=.ref a::r∧overV r=true)∨l=[.type "ValueError",.type "Exception",.type "BaseException",.type "object"]:=by
 intro l h
 unfold overV at h
 split at h
 ·exact .inl ⟨_,_,rfl,h⟩
 ·exact .inr (beq_iff_eq.mp h)
theorem overV_passes (x:Value):∀ (n:Nat) {l:List Value},l.length≤n→overV l=true→refuseLoop x "__setattr__" l=pure ()
 | 0,l,hn,h=>by rcases overV_tail h with ⟨a,r,e,_⟩ | e <;> (rw [e] at hn; simp at hn)
 | n + 1,l,hn,h=>by
  rcases overV_tail h with ⟨a,r,e,hr⟩ | e
  ·rw [e,refuseLoop_ref]; exact overV_passes x n (by rw [e] at hn; simpa using hn) hr
  ·rw [e]; exact PySem.F.store_ValueError.passes x
theorem overV_object:∀ (n:Nat) {l:List Value},l.length≤n→overV l=true→l.contains (.type "object")=true
 | 0,l,hn,h=>by rcases overV_tail h with ⟨a,r,e,_⟩ | e <;> (rw [e] at hn; simp at hn)
 | n + 1,l,hn,h=>by
  rcases overV_tail h with ⟨a,r,e,hr⟩ | e
  ·rw [e,List.contains_cons,overV_object n (by rw [e] at hn; simpa using hn) hr,Bool.or_true]
  ·rw [e]; decide
theorem xs_open {prog:Program} {w:World} {A:Around} {s:Shared} {K:PySem.W.Frag} {x C:Addr} {o1:Obj} {o2:Option Obj} {name:Str} {tk:Tok} {v:Value} {R:Result→Shared→Prop} (X:K.In s.heap) (I:PySem.W.InstAt s.heap x o1 C o2) (hp:xOver K C=true) (ht:PySem.W.takerIn K C name=some none)
  (h:∀ b,wpAny (model prog w) A.in1 (Builtin.ObjectAttr.storeInOwnDict (.ref x) (.ref C) (.str name tk) name v b) (fun fin s'=>match fin with | .done f=>R (.ok f) s' | .again c'=>c'.quiet=true∧codeAny (model prog w) A c' R s') (fun e s'=>R (.error e) s') s) :
  codeAny (model prog w) A (.call (.builtin "object.__setattr__") ⟨[.ref x,.str name tk,v],[]⟩) R s:=by
 have SF:=PySem.F.store_ValueError; obtain ⟨c,hc,ho⟩:=PySem.W.any_some hp
 have ne:c.mro.isEmpty=false:=by
  cases z:c.mro with
  | nil=>rw [z] at ho; exact absurd ho (by decide)
  | cons _ _=>rfl
 have sub:PySem.W.Looks (model prog w) s.heap (isInstance (.ref x) (.type "object")) true:=I.type.andThen (PySem.W.looks_mroIn X (by unfold PySem.W.mroIn; rw [hc,Option.bind_some,if_neg (by rw [ne]; decide),overV_object _ (Nat.le_refl _) ho]))
 refine codeAny_call_builtin SF.slot.plain SF.entry (@check_slot (model prog w) _ _ s "object.__setattr__" "object" "__setattr__" (.ref x) [.str name tk,v] [] _ SF.kind SF.split sub (SF.args (.ref x) (.str name tk) v) ?_); obtain ⟨attr,ha,hr⟩:=Option.bind_eq_some_iff.mp ht
 have hm:PySem.W.Looks (model prog w) s.heap (mroOf (.ref C)) c.mro:=(PySem.W.looks_clsIn X hc).andThen .now
 have L3:PySem.W.Looks (model prog w) s.heap (PySem.Builtin.ObjectAttr.storeTaker? attr) none:=by
  cases attr with
  | none=>exact .now
  | some a=>obtain ⟨b,hb,e⟩:=Option.map_eq_some_iff.mp hr; refine (PySem.W.looks_takesIn X hb).andThen ?_; cases b <;> first | exact .now | cases e
 rw [PySem.W.osa_eq,refuse_eq]; refine wpAny_bind (wpAny_bind (I.type.here (wpAny_bind (hm.here ?_))))
 rw [overV_passes _ _ (Nat.le_refl _) ho]; refine wpAny_pure (wpAny_bind (I.type.here (wpAny_bind ((PySem.W.looks_findIn X ha).here (wpAny_bind (L3.here ?_))))))
 exact h _
section
variable {prog:Program} {w:World} {A:Around} {E:Value→Shared→Prop} {s:Shared} {K:PySem.W.Frag}
variable {C x:Addr} {name:Str} {v:Value} {vs:Array Value} {sl:Array (Option Value)}
theorem xs_attr {Q:Unit→Shared→Prop} (X:K.In s.heap) (hs:PySem.W.findIn K (.ref C) "__setattr__" = some (some (.builtin "object.__setattr__"))) (hp:xOver K C=true)
  (ht:PySem.W.takerIn K C name=some none) (hh:PySem.W.hasDictIn K C=true)
  (hx:s.heap.get? x=some ⟨.ref C,none,.fields vs,sl⟩)
  (hq:∀ h',h'.get? x=some ⟨.ref C,some s.heap.objs.size,.fields vs,sl⟩→h'.Ns1 s.heap.objs.size (fun y=>if y=name then some v else none)→
   (∀ b ob,b≠x→s.heap.get? b=some ob→h'.get? b=some ob)→Q () { s with heap:=h',toks:=s.toks + 2 }) :
  wpAny (model prog w) A (setAttr (.ref x) name v) Q E s:=by
 have J:PySem.W.InstAt s.heap x ⟨.ref C,none,.fields vs,sl⟩ C none:=⟨hx,rfl,rfl,True.intro⟩
 refine PySem.W.set_plain X J hs (xs_open (s:={ s with toks:=s.toks + 1 }) X J hp ht fun b=>?_)
 obtain ⟨cd,hcd,hd'⟩:=PySem.W.any_some hh
 refine wpAny_bind (wpAny_pure (wpAny_bind (wpAny_bind (wpAny_loadPart hx ?_))))
 refine wpAny_bind (PySem.W.Looks.here (s:={ s with toks:=s.toks + 1 }) (PySem.W.looks_clsIn X hcd) ?_)
 rw [hd']
 have hx₁:(s.heap.push { cls:=.type "dict",data:=.dict #[] }).get? x=some ⟨.ref C,none,.fields vs,sl⟩:=Heap.get?_push_of_some _ hx
 have hxs:x≠s.heap.objs.size:=Nat.ne_of_lt (Heap.lt_size hx)
 refine wpAny_bind (wpAny_alloc' ?_)
 refine wpAny_bind (wpAny_update' hx₁ ?_)
 refine wpAny_pure ?_
 have hgd:((s.heap.push { cls:=.type "dict",data:=.dict #[] }).update x fun o=>{ cls:=o.cls,dict:=some s.heap.objs.size,data:=o.data,slots:=o.slots }).get? s.heap.objs.size
   = some { cls:=.type "dict",data:=.dict #[] }:=
  (Heap.get?_update_ne _ _ _ _ hxs.symm).trans (Heap.get?_push_at rfl rfl)
 have hnd:((s.heap.push { cls:=.type "dict",data:=.dict #[] }).update x fun o=>{ cls:=o.cls,dict:=some s.heap.objs.size,data:=o.data,slots:=o.slots }).Ns s.heap.objs.size (fun _=>none):=
  ⟨_,#[],_,hgd,rfl,fun e he=>absurd he (by simp),fun _=>rfl⟩
 show wpAny _ _ (Builtin.ObjectAttr.storeInDict s.heap.objs.size (.str name s.toks) name v) _ _ _
 unfold Builtin.ObjectAttr.storeInDict Builtin.ObjectAttr.newKeyGuard
 refine wpAny_bind (wpAny_pure (wpAny_bind (wpAny_nsSet1 (Heap.Ns1.of_empty hnd) fun h' hn' hs=>?_)))
 obtain ⟨oD,esD,epD,hoD,hdD,hcD⟩:=hn'.count (Within.cons name v Within.nil)
 refine wpAny_bind (wpAny_lookBehind hoD (by rw [hdD]; exact pastItsLine_dict (Nat.le_trans hcD (by rw [List.length_cons,List.length_nil,sizeLine_eq]; omega))) ?_)
 refine wpAny_pure (hq h' ((hs.2 x hxs).trans (Heap.get?_update_self _ hx₁ rfl)) hn' fun b ob hbx hb=>?_)
 exact (hs.2 b (Nat.ne_of_lt (Heap.lt_size hb))).trans ((Heap.get?_update_ne _ _ _ _ hbx).trans (Heap.get?_push_of_some _ hb))
end
def XFly (lo:Nat) (base:Heap) (l:List Env) (e:Addr) (c:Value) (od:Option Addr) (fl:Value) (h:Heap):Prop:=
 base.StaysIn h∧base.get? e=none∧h.FunFrames base l∧
  ∃ vs sl T oT ts,h.get? e=some ⟨c,od,.fields vs,sl⟩∧vs[1]?=some (.ref T)∧base.get? T=none∧T≠e∧h.get? T=some oT∧oT.data=.fields ts∧ts[3]?=some fl∧lo≤T
section
variable {M:Model} {A:Around} {E:Value→Shared→Prop} {s:Shared} {base:Heap} {env:Env} {outer l:List Env} {L e:Addr} {c fl head:Value} {od:Option Addr} {vs:Array Value} {sl:Array (Option Value)} {hadNext:Bool} {lo:Nat} {Q:Unit→Shared→Prop}
theorem xf_entry (hfr:A.frames=some (env::outer)) (hl:s.heap.FunFrames base (env::outer)) (hf:env.frame=some L)
  (he:s.heap.get? e=some ⟨c,od,.fields vs,sl⟩) (hkb:base.StaysIn s.heap) (hen:base.get? e=none) (hsz:1 < vs.size) (hlo:lo≤s.heap.objs.size)
  (h:∀ h',XFly lo base (env::outer) e c od (rawInt L) h'→s.heap.UpToSlots h'→Q () { s with heap:=h' }) :
  wpAny M A (do let a ← frameOf env; let pl ← entryPlaceOf L hadNext; let b ← EntryCells.newEntry head a .none (rawInt L) .none pl; setField (.ref e) 1 b) Q E s:=by
 have hene:e∉(env::outer).filterMap (·.frame):=fun hm=>by
  obtain ⟨_,o,ho,hnf⟩:=hl.mem hm
  rw [he] at ho; injection ho with ho; subst ho; exact hnf vs rfl
 refine wpAny_bind (wpAny_frameOf_fun hfr hl hf fun h₁ hs₁=>?_)
 refine wpAny_bind (wpAny_entryPlaceOf fun pl hpl=>?_)
 unfold EntryCells.newEntry newFields
 refine wpAny_bind (wpAny_newObj_type ?_ (hpl.sizeOk5 _ _ _ _ _))
 have he₁:h₁.get? e=some ⟨c,od,.fields vs,sl⟩:=(hs₁.2.1 e hene).trans he
 have kb₁:base.StaysIn h₁:=fun b o hbo=>(hs₁.2.1 b fun hm=>by rw [(hl.mem hm).1] at hbo; cases hbo).trans (hkb b o hbo)
 generalize hoT:({ cls:=.type "traceback",dict:=none,data:=.fields ([head,.ref L,.none,rawInt L,.none]++(if pl.isEmpty then List.replicate 6 Value.none else pl)).toArray }:Obj)=oT
 have he₂:=Heap.get?_push_of_some (h:=h₁) oT he₁
 refine wpAny_setField he₂ rfl hsz (h _ ?_ ?_)
 all_goals
  have hTe:h₁.objs.size≠e:=Nat.ne_of_gt (Heap.lt_size he₁)
  have keep:∀ b o,b≠e→h₁.get? b=some o→((h₁.push oT).update e (Obj.mapFields (·.setIfInBounds 1 (Value.ref h₁.objs.size)))).get? b=some o:=
   fun b o hbe hb=>by
    rw [Heap.get?_update_other _ _ (Ne.symm hbe)]
    exact Heap.get?_push_of_some _ hb
  have noRecord:∀ b o,s.heap.get? b=some o→(∀ vs,o.data≠.fields vs)→b≠e:=fun b o hb hnf q=>by
   rw [q,he] at hb; injection hb with hb; subst hb; exact hnf vs rfl
 ·have he₃:=Heap.get?_update_self (Obj.mapFields (·.setIfInBounds 1 (Value.ref h₁.objs.size))) he₂ rfl
  have hT₃:=(Heap.get?_update_other (h₁.push oT) (Obj.mapFields (·.setIfInBounds 1 (Value.ref h₁.objs.size))) (Ne.symm hTe)).trans (Heap.get?_push_size h₁ (by subst hoT; rfl))
  refine ⟨fun b o hbo=>keep b o (fun q=>by rw [q,hen] at hbo; cases hbo) (kb₁ b o hbo),hen,hl.of_keeps fun b o hb hnf=>?_,vs.setIfInBounds 1 (.ref h₁.objs.size),sl,h₁.objs.size,oT,_,he₃,by simp [hsz],kb₁.fresh,hTe,hT₃,by subst hoT; rfl,?_,by rw [hs₁.1]; exact hlo⟩
  ·obtain ⟨sl,hs⟩:=hs₁.2.2 b o hb
   exact ⟨_,keep b _ (noRecord b o hb hnf) hs,rfl⟩
  ·first | (simp; done) | (rcases hpl with rfl | ⟨_,_,_,_,_,_,_,rfl⟩ <;> simp)
 ·intro b o hb hnf
  obtain ⟨sl,hs⟩:=hs₁.2.2 b o hb
  exact ⟨sl,keep b _ (noRecord b o hb hnf) hs⟩
theorem xf_first (hfr:A.frames=some (env::outer)) (hl:s.heap.FunFrames base (env::outer)) (hf:env.frame=some L)
  (he:s.heap.get? e=some ⟨c,od,.fields vs,sl⟩) (hkb:base.StaysIn s.heap) (hen:base.get? e=none) (h1:vs[1]?=some .none) (hlo:lo≤s.heap.objs.size)
  (h:∀ h',XFly lo base (env::outer) e c od (rawInt L) h'→s.heap.UpToSlots h'→Q () { s with heap:=h' }):wpAny M A (noteFrame (.ref e) env) Q E s:=by
 unfold noteFrame
 simp only [hf]
 refine wpAny_bind (wpAny_field he rfl h1 ?_)
 rw [if_neg (by decide)]
 exact xf_entry hfr hl hf he hkb hen (Array.getElem?_eq_some_iff.mp h1).1 hlo h
theorem xf_next (hfr:A.frames=some (env::outer)) (hf:env.frame=some L) (hx:XFly lo base (env::outer) e c od .none s.heap)
  (h:∀ h',XFly lo base (env::outer) e c od (rawInt L) h'→s.heap.UpToSlots h'→Q () { s with heap:=h' }):wpAny M A (noteFrame (.ref e) env) Q E s:=by
 obtain ⟨hkb,hen,hl,vs,sl,T,oT,ts,he,h1,hnT,hTe,hT,hdT,h3,hloT⟩:=hx
 unfold noteFrame
 simp only [hf]
 refine wpAny_bind (wpAny_field he rfl h1 ?_)
 rw [if_pos (show (Value.ref T != Value.none)=true from by simp)]
 refine wpAny_bind (wpAny_field hT hdT h3 ?_)
 rw [if_neg (show ¬ ((Value.none == rawInt L)=true) from by simp [rawInt])]
 refine wpAny_bind (wpAny_setField hT hdT (Array.getElem?_eq_some_iff.mp h3).1 ?_)
 have other:∀ b,b≠T→(s.heap.update T (Obj.mapFields (·.setIfInBounds 3 Value.none))).get? b=s.heap.get? b:=fun b hb=>Heap.get?_update_other _ _ (Ne.symm hb)
 have noRecord:∀ b o,s.heap.get? b=some o→(∀ vs,o.data≠.fields vs)→b≠T:=fun b o hb hnf q=>by
  rw [q,hT] at hb; injection hb with hb; subst hb; exact hnf ts hdT
 exact xf_entry hfr (hl.of_keeps fun b o hb hnf=>⟨o,(other b (noRecord b o hb hnf)).trans hb,rfl⟩) hf ((other e (Ne.symm hTe)).trans he)
  (fun b o hbo=>(other b fun q=>by rw [q,hnT] at hbo; cases hbo).trans (hkb b o hbo)) hen (Array.getElem?_eq_some_iff.mp h1).1 (Nat.le_of_lt (Nat.lt_of_le_of_lt hloT (Heap.lt_size (Heap.get?_update_self _ hT (Obj.isFreed_of_fields (Obj.data_mapFields hdT _))))))
  fun h' x1 x4=>h h' x1 fun b o hb hnf=>x4 b o ((other b (noRecord b o hb hnf)).trans hb) hnf
theorem xf_land (hx:XFly lo base l e c od fl s.heap) (h:∀ h',XFly lo base l e c od .none h'→s.heap.UpToSlots h'→Q () { s with heap:=h' }):wpAny M A (setFlight (.ref e) none) Q E s:=by
 obtain ⟨hkb,hen,hl,vs,sl,T,oT,ts,he,h1,hnT,hTe,hT,hdT,h3,hloT⟩:=hx
 have hsz3:3 < ts.size:=(Array.getElem?_eq_some_iff.mp h3).1
 have other:∀ b,b≠T→(s.heap.update T (Obj.mapFields (·.setIfInBounds 3 ((none:Option Addr).elim Value.none fun f=>rawInt f)))).get? b=s.heap.get? b:=
  fun b hb=>Heap.get?_update_other _ _ (Ne.symm hb)
 have noRecord:∀ b o,s.heap.get? b=some o→(∀ vs,o.data≠.fields vs)→b≠T:=fun b o hb hnf q=>by
  rw [q,hT] at hb; injection hb with hb; subst hb; exact hnf ts hdT
 unfold setFlight
 refine wpAny_bind (wpAny_field he rfl h1 ?_)
 rw [if_pos (show (Value.ref T != Value.none)=true from by simp)]
 refine wpAny_setField hT hdT hsz3 (h _ ⟨fun b o hbo=>(other b fun q=>by rw [q,hnT] at hbo; cases hbo).trans (hkb b o hbo),hen,
  hl.of_keeps fun b o hb hnf=>⟨o,(other b (noRecord b o hb hnf)).trans hb,rfl⟩,vs,sl,T,_,_,(other e (Ne.symm hTe)).trans he,h1,hnT,hTe,Heap.get?_update_self _ hT (Obj.isFreed_of_fields (Obj.data_mapFields hdT _)),Obj.data_mapFields hdT _,by simp [hsz3],hloT⟩
  fun b o hb hnf=>⟨o.slots,(other b (noRecord b o hb hnf)).trans hb⟩)
theorem xf_leave (hfr:A.frames=some (env::outer)) (hl:s.heap.FunFrames base (env::outer)) (hf:env.frame=some L)
  (he:s.heap.get? e=some ⟨c,od,.fields vs,sl⟩) (hkb:base.StaysIn s.heap) (hen:base.get? e=none) (h1:vs[1]?=some .none) (hlo:lo≤s.heap.objs.size)
  (h:∀ h',XFly lo base (env::outer) e c od .none h'→s.heap.UpToSlots h'→Q () { s with heap:=h' }):wpAny M A (leaving env (.ref e)) Q E s:=by
 unfold leaving
 refine wpAny_bind (xf_first hfr hl hf he hkb hen h1 hlo fun h' x u=>?_)
 exact xf_land (s:={ s with heap:=h' }) x fun h'' y v=>h h'' y (u.trans v)
end
end L2
namespace L2
open PySem PySem.Spec PyProof.Rows
def XNew (e C:Addr) (od:Option Addr):HO:=.ext fun h=>∃ t,h.get? e=some ⟨.ref C,od,.fields #[.ref t,.none,.none,.none,.bool false,.none],#[]⟩
def XHad (e C:Addr) (od:Option Addr):HO:=.ext fun h=>∃ vs sl,h.get? e=some ⟨.ref C,od,.fields vs,sl⟩
section
variable {P:Program} {w:World} {H:Hp} {h:Heap} {e C t:Addr} {od:Option Addr}
theorem XNew.ok (k:h.get? e=some ⟨.ref C,od,.fields #[.ref t,.none,.none,.none,.bool false,.none],#[]⟩):ObjOk P w H h e (XNew e C od):=
 ⟨⟨t,k⟩,⟨_,k⟩,fun _ _ hp2 q=>by obtain ⟨t,p⟩:=hp2; exact ⟨t,q _ p⟩⟩
theorem XHad.ok {vs sl} (k:h.get? e=some ⟨.ref C,od,.fields vs,sl⟩):ObjOk P w H h e (XHad e C od):=
 ⟨⟨vs,sl,k⟩,⟨_,k⟩,fun _ _ hp2 q=>by obtain ⟨vs,sl,p⟩:=hp2; exact ⟨vs,sl,q _ p⟩⟩
theorem XNew.get (x:HOk P w H h) (q:H e=some (XNew e C od)):∃ t,h.get? e=some ⟨.ref C,od,.fields #[.ref t,.none,.none,.none,.bool false,.none],#[]⟩:=(x e _ q).1
theorem XHad.get (x:HOk P w H h) (q:H e=some (XHad e C od)):∃ vs sl,h.get? e=some ⟨.ref C,od,.fields vs,sl⟩:=(x e _ q).1
end
structure XCls (K:PySem.W.Frag) (C:Addr):Prop where
 sa:PySem.W.findIn K (.ref C) "__setattr__" = some (some (.builtin "object.__setattr__"))
 po:xOver K C=true
 hd:PySem.W.hasDictIn K C=true
structure XMk (K:PySem.W.Frag) (C f:Addr):Prop where
 ex:∃ nm q N bs bm hdct sn sub ab col dd k0 k1 k2 k3 k5 newId B initId bmB,K.lookup C=some (excClassObj nm q C N bs bm hdct sn sub ab col dd k0 k1 k2 k3 k5 newId)∧ExcBaseFacts B newId initId bmB∧
  bm.contains (.type "BaseException")=true∧(∀ h,K.In h→OwnTail h bmB bm)∧(∀ h,K.In h→∃ mN,h.Ns N mN∧mN "__init__" = some (.ref f))
 fn:∃ oI,K.lookup f=some oI∧oI.cls=.type "function"
 kp:PySem.W.keepIn K (.ref C)=true
def sXset (K:PySem.W.Frag) (C:Addr) (f:Str) (ta tv:TE):TS:=fun D σ H=>tv σ H fun y H1=>ta σ H1 fun x H2=>ExQ D (fun a D=>x=.ref a∧H2 a=some (XNew a C none)∧NoAttr K C f∧
 ∀ dx,H2 dx=none→dx≠a→D.nx σ (upd (upd H2 dx (.xd [(f,y)])) a (XNew a C (some dx))))
section
variable {X:Cx} {o value:Expr} {f:Str} {pos pos':Pos} {ta tv:TE} {C:Addr}
theorem ps_xset (cl:XCls X.K C) (ha:PE X o ta) (hv:PE X value tv) (hs:swapsWith value (some (.Attribute o f pos')) pos.line X.env=pure false):PS X (.Assign [.Attribute o f pos'] value pos) (sXset X.K C f ta tv):=by
 intro pins s σ H D I h
 refine plainObj_wpAny_Assign_Attribute (thn (hv pins s σ H _ I h) fun u s1 hpat=>?_) hs
 obtain ⟨y,H1,I1,ry,q⟩:=hpat
 refine thn (ha pins s1 σ H1 _ I1 q) fun ov s2 hpat=>?_
 obtain ⟨x,H2,I2,rx,a,ex,ea,n,q2⟩:=hpat
 subst ex
 obtain rfl:ov=Value.ref a:=rx
 obtain ⟨t,hx⟩:=XNew.get I2.hok ea
 refine xs_attr I2.kIn cl.sa cl.po n.taker cl.hd hx fun h' g1 g2 kp=>?_
 have hn:H2 s2.heap.objs.size=none:=I2.hok.fresh (Nat.le_refl _)
 have hne:s2.heap.objs.size≠a:=Nat.ne_of_gt (Heap.lt_size hx)
 have hu:∀ b,b≠a→b≠s2.heap.objs.size→upd (upd H2 s2.heap.objs.size (.xd [(f,y)])) a (XNew a C (some s2.heap.objs.size)) b=H2 b:=fun b h1 h2=>by rw [upd_ne h1,upd_ne h2]
 have hsz:∀ b ob,s2.heap.get? b=some ob→b≠s2.heap.objs.size:=fun b ob e=>Nat.ne_of_lt (Heap.lt_size e)
 have ntr:∀ b ob,H2 b=some ob→b≠s2.heap.objs.size:=fun b ob e z=>by rw [z,hn] at e; cases e
 refine ⟨σ,_,I2.un (t':=s2.toks + 2) (H':=upd (upd H2 s2.heap.objs.size (.xd [(f,y)])) a (XNew a C (some s2.heap.objs.size))) ?_ ?_,q2 _ hn hne⟩
 ·refine ⟨fun b ob e n _ _=>kp b ob (fun z=>by rw [z,ea] at n; cases n) e,fun b ob e n _ _=>⟨ob.slots,kp b ob (fun z=>by rw [z,ea] at n; cases n) e⟩,fun b ob e n _=>?_,fun b ob e _=>?_,fun b xs e=>?_,fun b ob xs e=>?_,fun b ps e=>?_⟩
  ·rw [hu b (fun z=>by rw [z,ea] at n; cases n) (hsz b ob e)]; exact n
  ·by_cases z:b=a
   ·exact ⟨_,by rw [z]; exact g1⟩
   ·exact ⟨ob,kp b ob z e⟩
  ·rw [hu b (fun z=>by rw [z,ea] at e; cases e) (ntr b _ e)]; exact e
  ·rw [hu b (fun z=>by rw [z,ea] at e; cases e) (ntr b _ e)]; exact e
  ·exact ⟨#[],by rw [hu b (fun z=>by rw [z,ea] at e; cases e) (ntr b _ e),e]; simp⟩
 ·intro b ob e
  by_cases z:b=a
  ·subst z
   rw [upd_same] at e; cases e
   exact XNew.ok g1
  ·by_cases z':b=s2.heap.objs.size
   ·subst z'
    rw [upd_ne z,upd_same] at e; cases e
    refine ⟨_,g2,fun f'=>?_⟩
    show RelO (List.lookup f' [(f,y)]) (if f'=f then some u else none)
    by_cases q:f'=f
    ·subst q; simp [List.lookup,RelO]; exact ry
    ·rw [if_neg q,List.lookup,beq_false_of_ne q]; exact True.intro
   ·rw [hu b z z'] at e
    refine (I2.hok b ob e).stay (fun c v hc r=>kp c v ?_ r) (fun c r=>?_) fun c xs r=>?_
    ·rcases hc with rfl | hc
     ·exact z
     ·intro q; rw [q,ea] at hc; cases hc
    ·rw [hu c (fun q=>by rw [q,ea] at r; cases r) (ntr c _ r)]; exact r
    ·rw [hu c (fun q=>by rw [q,ea] at r; cases r) (ntr c _ r)]; exact r
end
section
variable {M:Model} {A:Around} {E:Value→Shared→Prop} {env:Env}
variable {nm q:Str} {C N:Addr} {bs bm:List Value} {hdct:Bool} {sn:List Str} {sub:List Value} {ab:Bool} {col:Option Bool} {dd:Option Addr} {k0 k1 k2 k3 k5:Option Value} {newId:String}
theorem xr_raise {s:Shared} {x:Sem Value} {Q:Flow→Shared→Prop} (hbase:bm.contains (.type "BaseException")=true) (hh:A.handled=none)
  (h:wpAny M A x (fun v s₁=>∃ e t od,v=.ref e∧s₁.heap.get? C=some (excClassObj nm q C N bs bm hdct sn sub ab col dd k0 k1 k2 k3 k5 newId)∧
   s₁.heap.get? e=some ⟨.ref C,od,.fields #[.ref t,.none,.none,.none,.bool false,.none],#[]⟩∧E (.ref e) s₁) E s) :
  wpAny M A (raiseStmt env (some x) none) Q E s:=by
 have hcB:(Value.ref C::bm).contains (.type "BaseException")=true:=by rw [List.contains_cons,hbase,Bool.or_true]
 unfold raiseStmt
 refine wpAny_bind (wpAny_mono h (fun v s₁ h₁=>?_) fun _ _ x=>x)
 obtain ⟨e,t,od,rfl,hC,he,hE⟩:=h₁
 obtain ⟨hp,g,d,tk,os⟩:=s₁
 repeat (first | with_reducible refine wpAny_loadPart_at he ?_ | with_reducible refine wpAny_loadPart_at hC ?_ | (with_reducible refine wpAny_isSubtype_exc hC ?_; rw [hcB]) | wp_step)
 exact wpAny_raiseNew_none hh hE
end
def tRaise (C:Addr) (sp:Sp) (R:Addr→Addr→Hp→Prop) (t:TA):TS:=fun _ σ H=>t σ H fun vs H1=>∀ a,H1 a=none→
 sp (.ref a::vs) (upd H1 a (XNew a C none)) (fun v H2=>v=.non∧∃ dx,H2 a=some (XNew a C (some dx))∧R a dx H2) E0
section
variable {X:Cx} {k:Nat} {f C:Addr} {fd:FuncData} {ps:List Str} {sp:Sp} {x:Str} {np cpos pos:Pos} {e:Expr} {es:List Expr} {t:TA} {R:Addr→Addr→Hp→Prop}
theorem ps_raise (M:XMk X.K C f) (F:FnOk X.prog X.w X.K X.mg X.base CX0 k f fd ps sp) (hr:Room (k + 1) X.A) (hg:Gl X x) (hm:X.mg x=some (.ref C)) (hb:Binds X.K fd ps []) (hps:ps.length≤sizeLine)
  (hthrow:∀ pins σ H s a dx,Inv X pins σ H s→X.s₀.heap.objs.size≤a→H a=some (XNew a C (some dx))→R a dx H→X.xe (.ref a) s)
  (ha:PA X (e::es) t) (hdb:(x == ("__debug__":Str))=false:=by decide) (he:starEach (e::es) X.env=(false,eval e X.env)::starEach es X.env:=by rfl) (hpl:(backTo cpos (starEach es X.env)).any (·.1)=false:=by rfl) :
  PS X (.Raise (some (.Call (.Name x np) (e::es) [] cpos)) none pos) (tRaise C sp R t):=by
 intro pins s σ H D I h
 obtain ⟨nm,q,N,bs,bm,hdct,sn,sub,ab,col,dd,k0,k1,k2,k3,k5,newId,B,initId,bmB,lC,FB,hbase,hT,hN⟩:=M.ex
 obtain ⟨oI,lI,cI⟩:=M.fn
 rw [arm_exec_Raise]
 refine wpAny_bind (wpAny_standAt (xr_raise (C:=C) (nm:=nm) (q:=q) (N:=N) (bs:=bs) (bm:=bm) (hdct:=hdct) (sn:=sn) (sub:=sub) (ab:=ab) (col:=col) (dd:=dd) (k0:=k0) (k1:=k1) (k2:=k2) (k3:=k3) (k5:=k5) (newId:=newId) hbase hr.hd
  (wpAny_bind (wpAny_mono (wpAny_Call_Name_kw (ld_glob I hg hm ?_ hdb)) (fun v s₃ h₃=>wpAny_bind (wpAny_standAt (wpAny_pure h₃))) fun _ _ x=>x))))
 refine PySem.W.callWith_K (h₀:=X.base) I.ok.mod.kin M.kp (thn (ha cpos pins s σ H _ I h) fun us s1 hpat=>?_) he hpl
 obtain ⟨vs,H1,I1,r,q⟩:=hpat
 refine ⟨I1.kIn,?_⟩
 have fr1:H1 (s1.heap.objs.size + 1)=none:=I1.hok.fresh (Nat.le_succ _)
 have hq:=q (s1.heap.objs.size + 1) fr1
 have r2:Vals (V.ref (s1.heap.objs.size + 1)::vs) (Value.ref (s1.heap.objs.size + 1)::us):=.cons rfl r
 have hl:(Value.ref (s1.heap.objs.size + 1)::us).length=ps.length:=by rw [← r2.length]; exact F.len _ _ _ _ hq
 have hus:us.length≤sizeLine:=by have:us.length + 1=ps.length:=hl; omega
 have kpp:∀ b u,s1.heap.get? b=some u→(madeX s1.heap C us).get? b=some u:=fun b u e=>Heap.get?_push_of_some _ (Heap.get?_push_of_some _ e)
 have hget:(madeX s1.heap C us).get? (s1.heap.objs.size + 1)=some ⟨.ref C,none,.fields #[.ref s1.heap.objs.size,.none,.none,.none,.bool false,.none],#[]⟩:=by unfold madeX; heap_get
 have I2:Inv X pins σ (upd H1 (s1.heap.objs.size + 1) (XNew (s1.heap.objs.size + 1) C none)) { s1 with heap:=madeX s1.heap C us }:=I1.laid (t':=s1.toks) kpp (Nat.le_succ _) (XNew.ok hget)
 have szl:X.s₀.heap.objs.size≤s1.heap.objs.size + 1:=Nat.le_succ_of_le I1.sz
 obtain ⟨mN,hn,hi⟩:=hN _ I1.kIn
 obtain ⟨hp,g,d,tk,os⟩:=s1
 refine xc_call FB (hT _ I1.kIn) (I1.kIn _ _ lC) hn hi (I1.kIn _ _ lI) cI ?_ hus
 have hbd:=hb { heap:=madeX hp C us,gens:=g,drawn:=d,toks:=tk,os:=os } (Value.ref (hp.objs.size + 1)::us) I2.kIn (by rw [List.append_nil]; exact hl)
 rw [List.append_nil] at hbd
 refine wpAny_call (codeAny_mono (F.run _ X.stack _ _ ⟨Value.ref (hp.objs.size + 1)::us,[]⟩ _ _ _ E0 (hr.make C us []) (I2.env0.make C us []) hbd r2 hq) fun r s' hq'=>?_)
 cases r with
 | error e=>exact False.elim hq'
 | ok fl=>
  cases fl with
  | ret u=>
   obtain ⟨v,H',I3,rv,ev,dx,ea,hR⟩:=I2.after hq'
   subst ev
   obtain ⟨t,hx⟩:=XNew.get I3.hok ea
   exact ⟨rv,_,t,_,rfl,I3.kIn _ _ lC,hx,hthrow pins σ H' s' _ dx I3 szl ea hR⟩
  | next=>exact False.elim hq'
  | brk=>exact False.elim hq'
  | cont=>exact False.elim hq'
end
theorem ObjOk.has {P:Program} {w:World} {H:Hp} {h:Heap} {a:Addr} {o:HO} (x:ObjOk P w H h a o):∃ u,h.get? a=some u:=by
 cases o with
 | lst xs=>obtain ⟨_,_,_,_,e⟩:=x; exact ⟨_,e⟩
 | tup xs=>obtain ⟨_,_,_,ob,e,_⟩:=x; exact ⟨_,e⟩
 | dK kvs=>obtain ⟨_,_,_,_,o,_,_,e,_⟩:=x; exact ⟨_,e⟩
 | dT kvs=>obtain ⟨_,_,_,_,o,_,_,e,_⟩:=x; exact ⟨_,e⟩
 | set S n=>obtain ⟨o,_,_,_,e,_⟩:=x; exact ⟨_,e⟩
 | ins C dx fs=>obtain ⟨_,_,_,e,_⟩:=x; exact ⟨_,e⟩
 | own y=>obtain ⟨_,e⟩:=x; exact ⟨_,e⟩
 | xd fs=>obtain ⟨_,⟨_,_,_,e,_⟩,_⟩:=x; exact ⟨_,e⟩
 | rng lo hi=>obtain ⟨_,_,_,e⟩:=x; exact ⟨_,e⟩
 | frz ob u=>obtain ⟨e,_⟩:=x; exact ⟨_,e⟩
 | tbl ps=>exact ⟨_,show h.get? a=some _ from x⟩
 | met f y=>exact ⟨_,show h.get? a=some _ from x⟩
 | ext φ=>obtain ⟨_,⟨_,e⟩,_⟩:=x; exact ⟨_,e⟩
def XTr (h:Heap) (a C dx T:Addr):Prop:=∃ vs sl oT ts,h.get? a=some ⟨.ref C,some dx,.fields vs,sl⟩∧vs[1]?=some (.ref T)∧T≠a∧h.get? T=some oT∧oT.data=.fields ts∧ts[3]?=some .none
def CX1 (P:Program) (w:World):CXT:=fun outer H s E e s'=>∃ a C dx T H',e=.ref a∧s'.os=s.os∧AllBare s'.gens∧Un (frs outer) [] H H' s.heap s'.heap∧HOk P w H' s'.heap∧
 s.heap.objs.size≤a∧H' a=some (XHad a C (some dx))∧XTr s'.heap a C dx T∧s.heap.objs.size≤T∧H' T=none∧E (.ref C) (some dx) H'
theorem leave_ok {P:Program} {w:World} {K:PySem.W.Frag} {mg:Str→Option Value} {base:Heap} {N:List Str} {qual:Str} {scope:Scope} {f:Addr} {cd:Value} {A:Around} {outer:List Env} {s₀:Shared} {H₀:Hp} {E:XK}
  {pins:List (Addr × Obj)} {σ:St} {H:Hp} {s:Shared} {a C dx:Addr} (I:Inv (cxOf (CX1 P w) P w K mg base N qual scope f cd A outer s₀ H₀ E) pins σ H s) (hz:s₀.heap.objs.size≤a) (ea:H a=some (XNew a C (some dx)))
  (hE:E (.ref C) (some dx) (upd H a (XHad a C (some dx)))):(cxOf (CX1 P w) P w K mg base N qual scope f cd A outer s₀ H₀ E).xe (.ref a) s:=by
 obtain ⟨t,hx⟩:=XNew.get I.hok ea
 generalize hX:cxOf (CX1 P w) P w K mg base N qual scope f cd A outer s₀ H₀ E=X at I
 have eS:X.stack=X.env::outer:=by subst hX; rfl
 have eO:X.outer=outer:=by subst hX; rfl
 have eF:X.env.frame=some X.env.locals:=by subst hX; rfl
 have es₀:X.s₀=s₀:=by subst hX; rfl
 have eH₀:X.H₀=H₀:=by subst hX; rfl
 have eex:X.ex=[]:=by subst hX; rfl
 have eP:X.prog=P:=by subst hX; rfl
 have ew:X.w=w:=by subst hX; rfl
 have exe:X.xe=fun e s'=>wpAny (model P w) X.A (leaving X.env e) (fun _ s''=>CX1 P w outer H₀ s₀ E e s'') (fun e' s''=>CX1 P w outer H₀ s₀ E e' s'') s':=by subst hX; rfl
 have stk:=I.stack
 have stf:=I.stkFree
 have frm:=I.ok.frames
 have bas:=I.base
 have hok:=I.hok
 have abv:=I.ok.above
 rw [eS] at stk stf frm
 rw [es₀,eH₀,eex,show X.fs=frs outer from by show frs X.outer=_; rw [eO]] at bas
 rw [es₀] at abv
 rw [eP,ew] at hok
 rw [exe]
 clear hX
 have hl:s.heap.FunFrames (PySem.W.hideAll s.heap (a::frs (X.env::outer))) (X.env::outer):=PySem.W.funFrames_hide stk fun env he b hb=>.tail _ (List.mem_filterMap.mpr ⟨env,he,hb⟩)
 refine xf_leave frm hl eF hx (fun b o e=>PySem.W.of_hideAll _ e) (PySem.W.hideAll_none _ (.head _)) rfl (lo:=s.heap.objs.size) (Nat.le_refl _) fun h' fly up=>?_
 obtain ⟨sta,_,_,vs,sl,T,oT,ts,g1,g2,g3,g4,g5,g6,g7,g8⟩:=fly
 have keepB:∀ b o,s.heap.get? b=some o→b≠a→b∉frs (X.env::outer)→h'.get? b=some o:=fun b o e n1 n2=>sta b o (PySem.W.hideAll_get _ e fun z=>(List.mem_cons.mp z).elim n1 n2)
 have frame:∀ b o,b∈frs (X.env::outer)→s.heap.get? b=some o→∃ sl,h'.get? b=some { o with slots:=sl }∧∀ vs,o.data≠.fields vs:=fun b o m e=>by
  obtain ⟨_,o',e',hd⟩:=stk.mem m
  rw [e] at e'; cases e'
  obtain ⟨sl,q⟩:=up b o e hd
  exact ⟨sl,q,hd⟩
 have trk:∀ b u,H b=some u→b∉frs (X.env::outer):=fun b u e m=>by rw [stf b m] at e; cases e
 have sT:s.heap.get? T=none:=Heap.get?_none_of_le g8
 have HT:H T=none:=by
  cases q:H T with
  | none=>rfl
  | some u=>
   obtain ⟨o,e⟩:=(hok T u q).has
   rw [sT] at e; cases e
 have s0a:∀ b o,s₀.heap.get? b=some o→b≠a:=fun b o e z=>absurd (Nat.lt_of_lt_of_le (Heap.lt_size e) hz) (by rw [z]; exact Nat.lt_irrefl _)
 have s0L:∀ b o,s₀.heap.get? b=some o→b≠X.env.locals:=fun b o e z=>absurd (Nat.lt_of_lt_of_le (Heap.lt_size e) abv) (by rw [z]; exact Nat.lt_irrefl _)
 have memS:∀ b,b∈frs (X.env::outer)→b≠X.env.locals→b∈frs outer:=fun b m n=>by
  unfold frs at m ⊢
  rw [List.filterMap_cons,eF] at m
  exact (List.mem_cons.mp m).resolve_left n
 have memO:∀ b,b∈frs outer→b∈frs (X.env::outer):=fun b m=>by
  unfold frs at m ⊢
  rw [List.filterMap_cons,eF]
  exact .tail _ m
 have hn0:∀ b u,H b=some u→(∀ C' d',u≠XNew a C' d')→b≠a:=fun b u e n z=>by rw [z,ea] at e; cases e; exact n _ _ rfl
 refine ⟨a,C,dx,T,upd H a (XHad a C (some dx)),rfl,I.os.trans (by rw [es₀]),I.bare,?_,?_,hz,upd_same,⟨vs,sl,oT,ts,g1,g2,g4,g5,g6,g7⟩,?_,by rw [upd_ne g4]; exact HT,hE⟩
 ·refine ⟨fun b o e n m x=>?_,fun b o e n m x=>?_,fun b o e n x=>?_,fun b o e x=>?_,fun b xs e=>?_,fun b o u e=>?_,fun b ps e=>?_⟩
  ·exact keepB b o (bas.keep b o e n m x) (s0a b o e) fun z=>m (memS b z (s0L b o e))
  ·obtain ⟨sl1,e1⟩:=bas.slot b o e n m x
   obtain ⟨sl2,e2,_⟩:=frame b _ (memO b m) e1
   exact ⟨sl2,e2⟩
  ·rw [upd_ne (s0a b o e)]; exact bas.free b o e n x
  ·obtain ⟨o',e'⟩:=bas.there b o e x
   by_cases m:b∈frs (X.env::outer)
   ·obtain ⟨sl,q,_⟩:=frame b o' m e'
    exact ⟨_,q⟩
   ·exact ⟨o',keepB b o' e' (s0a b o e) m⟩
  ·have q:=bas.tups b xs e
   rw [upd_ne (hn0 b _ q fun _ _ z=>by cases z)]; exact q
  ·have q:=bas.frzs b o u e
   rw [upd_ne (hn0 b _ q fun _ _ z=>by cases z)]; exact q
  ·obtain ⟨m,q⟩:=bas.tbls b ps e
   exact ⟨m,by rw [upd_ne (hn0 b _ q fun _ _ z=>by cases z)]; exact q⟩
 ·intro b u e
  by_cases z:b=a
  ·subst z
   rw [upd_same] at e; cases e
   exact XHad.ok g1
  ·rw [upd_ne z] at e
   refine (hok b u e).stay (fun c v hc r=>?_) (fun c r=>?_) fun c xs r=>?_
   ·rcases hc with rfl | hc
    ·exact keepB c v r z (trk c u e)
    ·exact keepB c v r (hn0 c _ hc fun _ _ z=>by cases z) (trk c _ hc)
   ·rw [upd_ne (hn0 c _ r fun _ _ z=>by cases z)]; exact r
   ·rw [upd_ne (hn0 c _ r fun _ _ z=>by cases z)]; exact r
 ·have:=I.sz
  rw [es₀] at this
  exact Nat.le_trans this g8
theorem Fun.okX {P:Program} {w:World} {K:PySem.W.Frag} {mg:Str→Option Value} {base:Heap} {x qual:Str} {st:Stmt} {f:Addr} {fd:FuncData} {N ps:List Str} {k:Nat} {sp:Sp} (F:Fun K x qual st f fd) (S:FnScope N ps (defScope st)) (len:∀ vs H Q E,sp vs H Q E→vs.length=ps.length)
  (hbody:∀ (cdv:Value) (A:Around) (outer:List Env) (s:Shared) (H:Hp) (vs:List V) (Q:VK) (E:XK),Room k (A.deeper (envOfC qual (defScope st) s.heap.objs.size f cdv))→sp vs H Q E→
   ∃ t,PSs (cxOf (CX1 P w) P w K mg base N qual (defScope st) f cdv A outer s H E) (defBody st) t∧t { nx:=fun _ H'=>Q .non H',rt:=Q } (start N vs) H):FnOk P w K mg base (CX1 P w) (k + 1) f fd ps sp:=by
 obtain ⟨oc,od,kV,doc,pm,an,cdv,ct,osl,rfl,lk,hcd⟩:=F.ex
 exact fn_of lk hcd S len fun A outer s H vs Q E hr hsp=>hbody cdv A outer s H vs Q E hr hsp
abbrev Cx.bear (X:Cx) (pins:List (Addr × Obj)):Cx:={ X with pn:=X.pn++pins,xe:=fun _ _=>False }
abbrev Cx.tryC (X:Cx) (pins:List (Addr × Obj)) (E:XK):Cx:=
 { X with pn:=X.pn++pins,xe:=fun e s'=>∃ pins' σ H s,Inv (X.bear pins) pins' σ H s∧CX1 X.prog X.w X.stack H s E e s' }
abbrev Cx.suiteC (X:Cx) (a:Addr):Cx:={ X with A:=X.A.mark (some (.ref a)),calm:=false,xe:=fun _ _=>False }
section
variable {X:Cx} {pins pins':List (Addr × Obj)} {σ:St} {H:Hp} {s:Shared} {E:XK} {a:Addr}
theorem Inv.toTry (I:Inv X pins σ H s):Inv (X.tryC pins E) [] σ H s:=
 ⟨⟨I.ok.mod,I.ok.kind,I.ok.glob,I.ok.blt,I.ok.above,I.ok.inj,I.ok.has,I.ok.cab,I.ok.hd,I.ok.frames,I.ok.stk,I.ok.exf,I.ok.bs,I.ok.bsz,I.ok.noex,I.ok.exfs,I.ok.funs,I.ok.frf⟩,
  I.os,I.bare,I.base,I.loc,I.cell,I.free,I.freeC,fun p hp=>I.pin p (by simpa using hp),I.hok,I.len⟩
theorem Inv.ofTry (I:Inv (X.tryC pins E) pins' σ H s):Inv X pins σ H s:=
 ⟨⟨I.ok.mod,I.ok.kind,I.ok.glob,I.ok.blt,I.ok.above,I.ok.inj,I.ok.has,I.ok.cab,I.ok.hd,I.ok.frames,I.ok.stk,I.ok.exf,I.ok.bs,I.ok.bsz,I.ok.noex,I.ok.exfs,I.ok.funs,I.ok.frf⟩,
  I.os,I.bare,I.base,I.loc,I.cell,I.free,I.freeC,fun p hp=>I.pin p (List.mem_append_left _ hp),I.hok,I.len⟩
theorem Inv.ofBear (I:Inv (X.bear pins) pins' σ H s):Inv X pins σ H s:=
 ⟨⟨I.ok.mod,I.ok.kind,I.ok.glob,I.ok.blt,I.ok.above,I.ok.inj,I.ok.has,I.ok.cab,I.ok.hd,I.ok.frames,I.ok.stk,I.ok.exf,I.ok.bs,I.ok.bsz,I.ok.noex,I.ok.exfs,I.ok.funs,I.ok.frf⟩,
  I.os,I.bare,I.base,I.loc,I.cell,I.free,I.freeC,fun p hp=>I.pin p (List.mem_append_left _ hp),I.hok,I.len⟩
theorem Inv.tryBear (I:Inv (X.tryC pins E) pins' σ H s):Inv (X.bear pins) pins' σ H s:=
 ⟨⟨I.ok.mod,I.ok.kind,I.ok.glob,I.ok.blt,I.ok.above,I.ok.inj,I.ok.has,I.ok.cab,I.ok.hd,I.ok.frames,I.ok.stk,I.ok.exf,I.ok.bs,I.ok.bsz,I.ok.noex,I.ok.exfs,I.ok.funs,I.ok.frf⟩,
  I.os,I.bare,I.base,I.loc,I.cell,I.free,I.freeC,I.pin,I.hok,I.len⟩
theorem Inv.toSuite (I:Inv X pins σ H s):Inv (X.suiteC a) pins σ H s:=
 ⟨⟨I.ok.mod,I.ok.kind,I.ok.glob,I.ok.blt,I.ok.above,I.ok.inj,I.ok.has,I.ok.cab,(fun z=>nomatch z),I.ok.frames,I.ok.stk,I.ok.exf,I.ok.bs,I.ok.bsz,I.ok.noex,I.ok.exfs,I.ok.funs,I.ok.frf⟩,
  I.os,I.bare,I.base,I.loc,I.cell,I.free,I.freeC,I.pin,I.hok,I.len⟩
theorem Inv.ofSuite (hd:X.calm=true→X.A.handled=none) (I:Inv (X.suiteC a) pins σ H s):Inv X pins σ H s:=
 ⟨⟨I.ok.mod,I.ok.kind,I.ok.glob,I.ok.blt,I.ok.above,I.ok.inj,I.ok.has,I.ok.cab,hd,I.ok.frames,I.ok.stk,I.ok.exf,I.ok.bs,I.ok.bsz,I.ok.noex,I.ok.exfs,I.ok.funs,I.ok.frf⟩,
  I.os,I.bare,I.base,I.loc,I.cell,I.free,I.freeC,I.pin,I.hok,I.len⟩
theorem pass1:Passes (CX1 X.prog X.w) (X.tryC pins E) E:=fun pins' σ H s e s' I q=>⟨pins',σ,H,s,I.tryBear,q⟩
theorem inv_fly {C dx T:Addr} {lo:Nat} {fl:Value} {h':Heap} {t':Nat} (I:Inv X pins σ H s) (ea:H a=some (XHad a C (some dx))) (hT:H T=none) (hlo:X.s₀.heap.objs.size≤T)
  (hTL:T≠X.env.locals) (hTc:∀ x c,X.env.cells.lookup x=some c→c≠T) (hTp:∀ p∈X.pn++pins,p.1≠T)
  (fly:XFly lo (PySem.W.hideAll s.heap (a::T::frs X.stack)) X.stack a (.ref C) (some dx) fl h') (up:s.heap.UpToSlots h'):Inv X pins σ H { s with heap:=h',toks:=t' }:=by
 obtain ⟨sta,_,_,vs,sl,T2,oT,ts,g1,g2,g3,g4,g5,g6,g7,g8⟩:=fly
 have keepB:∀ b o,s.heap.get? b=some o→b≠a→b≠T→b∉frs X.stack→h'.get? b=some o:=fun b o e n1 n2 n3=>
  sta b o (PySem.W.hideAll_get _ e fun z=>(List.mem_cons.mp z).elim n1 fun z=>(List.mem_cons.mp z).elim n2 n3)
 have frame:∀ b o,b∈frs X.stack→s.heap.get? b=some o→∃ sl,h'.get? b=some { o with slots:=sl }:=fun b o m e=>by
  obtain ⟨_,o',e',hd⟩:=I.stack.mem m
  rw [e] at e'; cases e'
  exact up b o e hd
 have trk:∀ b u,H b=some u→b∉frs X.stack:=fun b u e m=>by rw [I.stkFree b m] at e; cases e
 have nT:∀ b u,H b=some u→b≠T:=fun b u e z=>by rw [z,hT] at e; cases e
 refine I.call (t':=t') (g':=s.gens) (d':=s.drawn) (ch:=[T]) ⟨fun b o e n m x=>?_,fun b o e n m x=>frame b o m e,fun b o e n x=>n,fun b o e x=>?_,fun b xs e=>e,fun b o u e=>e,fun b ps e=>⟨#[],by rw [e]; simp⟩⟩ ?_ I.bare fun b hb=>?_
 ·exact keepB b o e (fun z=>by rw [z,ea] at n; cases n) (fun z=>x (by rw [z]; exact .head _)) m
 ·by_cases z:b=a
  ·exact ⟨_,by rw [z]; exact g1⟩
  ·by_cases m:b∈frs X.stack
   ·obtain ⟨sl,q⟩:=frame b o m e
    exact ⟨_,q⟩
   ·exact ⟨o,keepB b o e z (fun z=>x (by rw [z]; exact .head _)) m⟩
 ·intro b u e
  by_cases z:b=a
  ·subst z
   rw [ea] at e; cases e
   exact XHad.ok g1
  ·refine (I.hok b u e).stay (fun c v hc r=>?_) (fun _ r=>r) fun _ _ r=>r
   rcases hc with rfl | hc
   ·exact keepB c v r z (nT c u e) (trk c u e)
   ·exact keepB c v r (fun z=>by rw [z,ea] at hc; cases hc) (nT c _ hc) (trk c _ hc)
 ·obtain rfl:b=T:=by simpa using hb
  exact ⟨.inr hlo,hTL,hTc,hTp⟩
theorem xn_goes {M:Model} {A:Around} {E:Value→Shared→Prop} {Q:Unit→Shared→Prop} {i:Nat} {n:Str} {pos:Pos} (I:Inv X pins σ H s) (hN:X.N.Nodup) (hi:X.N[i]?=some n) (hx:X.env.scope.names.lookup n=some .local)
  (h:∀ s',Inv X pins (σ.set i none) H s'→Q () s'):wpAny M A (do bindName X.env n .none; unbindBehindTheSuite X.env n pos) Q E s:=by
 have hp:(X.env.scope.kind == .class || (X.env.scope.kind == .module && X.env.locals != X.env.globals))=false:=by rw [I.ok.kind]; rfl
 have hl:X.env.kindOf n=some .local:=hx
 refine wpAny_bind (wpAny_bindName (store_ok (v:=.non) I hN hi (.inl hx) rfl (fun s1 I1=>?_) (.inr hx)))
 unfold unbindBehindTheSuite
 refine wpAny_onRaise ?_
 unfold unbindName
 refine wpAny_bind (wpAny_point (wpAny_bind ?_))
 unfold deleteName
 simp only [hl,hp]
 rw [if_neg (by decide)]
 have hiσ:i < σ.length:=by rw [I.len]; exact (List.getElem?_eq_some_iff.mp hi).1
 obtain ⟨m,hn,hlk⟩:=id I1.loc
 have hmn:(m n).isSome=true:=by
  obtain ⟨u,_,q⟩:=hlk i n .non hi (List.getElem?_set_self hiσ) (.inl hx)
  rcases q with ⟨_,e⟩ | ⟨k,_⟩
  ·rw [e]; rfl
  ·rcases k with k | k <;> (rw [hl] at k; cases k)
 refine wpAny_bind (wpAny_nsDel_keeps hn fun h' v hn' hs=>?_)
 rw [hmn]
 simp only [Bool.not_true,Bool.false_eq_true,if_false]
 refine wpAny_pure (wpAny_point (h _ ?_))
 obtain ⟨oL,_,_,hoL,_⟩:=id hn
 refine ⟨I1.ok,I1.os,I1.bare,⟨fun b o e n hb hx=>?_,fun b o e n hb hx=>?_,I1.base.free,fun b o e hx=>?_,I1.base.tups,I1.base.frzs,I1.base.tbls⟩,⟨_,hn',fun j y v' e1 e2 e3=>?_⟩,fun y c e=>?_,I1.free,I1.freeC,fun p hp=>?_,?_,?_⟩
 ·exact (hs.2 b (Nat.ne_of_lt (Nat.lt_of_lt_of_le (Heap.lt_size e) I1.ok.above))).trans (I1.base.keep b o e n hb hx)
 ·obtain ⟨sl,e1⟩:=I1.base.slot b o e n hb hx
  exact ⟨sl,(hs.2 b (Nat.ne_of_lt (Nat.lt_of_lt_of_le (Heap.lt_size e) I1.ok.above))).trans e1⟩
 ·obtain ⟨o',e1⟩:=I1.base.there b o e hx
  exact ⟨o',(hs.2 b (Nat.ne_of_lt (Nat.lt_of_lt_of_le (Heap.lt_size e) I1.ok.above))).trans e1⟩
 ·by_cases hj:j=i
  ·subst hj
   rw [List.getElem?_set_self hiσ] at e2
   cases e2
  ·rw [List.getElem?_set_ne (Ne.symm hj)] at e2
   obtain ⟨u',r',q⟩:=hlk j y v' e1 (by rw [List.getElem?_set_ne (Ne.symm hj)]; exact e2) e3
   refine ⟨u',r',?_⟩
   rcases q with ⟨k,e⟩ | ⟨k,c,e,z⟩
   ·refine .inl ⟨k,?_⟩
    have:y≠n:=fun e=>hj (nodup_ix hN e1 (e ▸ hi))
    simp [this,e]
   ·exact .inr ⟨k,c,e,z.sameBut hs (I1.cne y c e)⟩
 ·obtain ⟨w',z⟩:=I1.cell y c e
  exact ⟨w',z.sameBut hs (I1.cne y c e)⟩
 ·obtain ⟨e,n,ne,nf,d⟩:=I1.pin p hp
  exact ⟨(hs.2 p.1 ne).trans e,n,ne,nf,d⟩
 ·intro b ob e
  refine (I1.hok b ob e).stay (fun c w' hc q=>(hs.2 c ?_).trans q) (fun _ q=>q) fun _ _ q=>q
  rintro rfl
  rcases hc with rfl | hc
  ·rw [I1.free] at e; cases e
  ·rw [I1.free] at hc; cases hc
 ·have:=I.len
  simpa using this
end
def tTry (K:PySem.W.Frag) (S:Addr) (i len:Nat) (E:XK) (tb th:TS):TS:=fun D σ H=>tb D σ H∧∀ a C dx H',H' a=some (XHad a C (some dx))→E (.ref C) (some dx) H'→
 PySem.W.exmOne K (.ref C) (.ref S)=some true∧th { nx:=fun σ' H''=>D.nx (σ'.set i none) H'',rt:=fun _ _=>False } ((List.replicate len none).set i (some (.ref a))) H'
section
variable {X:Cx} {E:XK} {i:Nat} {n x:Str} {S:Addr} {b₀:Stmt} {body suite:List Stmt} {np hpos pos:Pos} {tb th:TS}
theorem ps_try (hst:X.stack=X.env::X.outer) (hfr:X.env.frame=some X.env.locals) (hN:X.N.Nodup) (hi:X.N[i]?=some n) (hx:X.env.scope.names.lookup n=some .local)
  (hg:Gl X x) (hm:X.mg x=some (.ref S)) (hb:∀ pins,PSs (X.tryC pins E) body tb) (hs:∀ a,PSs (X.suiteC a) (b₀::suite) th) (hdb:(x == ("__debug__":Str))=false:=by decide) :
  PS X (.Try body [.ExceptHandler (some (.Name x np)) (some n) (b₀::suite) hpos] [] [] pos) (tTry X.K S i X.N.length E tb th):=by
 intro pins s σ H D I hh
 obtain ⟨h1,h2⟩:=hh
 refine wpAny_Try_except (wpAny_mono (hb pins [] s σ H D I.toTry h1) (fun f s₁ hf=>?_) fun e s₁ he=>?_)
 ·cases f with
  | next=>
   obtain ⟨σ',H',J,q⟩:=hf
   exact wpAny_execs_nil ⟨σ',H',J.ofTry,q⟩
  | brk=>obtain ⟨σ',H',J,q⟩:=hf; exact ⟨σ',H',J.ofTry,q⟩
  | cont=>obtain ⟨σ',H',J,q⟩:=hf; exact ⟨σ',H',J.ofTry,q⟩
  | ret u=>obtain ⟨v,σ',H',J,r,q⟩:=hf; exact ⟨v,σ',H',J.ofTry,r,q⟩
 ·obtain ⟨pins',σ',Hc,sc,Ic,a,C,dx,T,H',rfl,os,bare,un,hok,hza,ea,⟨vs,sl,oT,ts,g1,g2,g4,g5,g6,g7⟩,hzT,hT,hE⟩:=he
  obtain ⟨hex,hth⟩:=h2 a C dx H' ea hE
  have I1:Inv (X.bear pins) pins' σ' H' s₁:=Ic.call' os un hok bare (fun b z=>absurd z (by simp))
  have I2:Inv X pins (List.replicate X.N.length none) H' s₁:=I1.ofBear.weak (by rw [List.length_replicate]; exact I1.len.symm) fun j v e=>by
   rw [List.getElem?_replicate] at e
   split at e <;> cases e
  have hTL:T≠X.env.locals:=Nat.ne_of_gt (Nat.lt_of_lt_of_le Ic.lt hzT)
  have hTc:∀ y c,X.env.cells.lookup y=some c→c≠T:=fun y c e=>by
   obtain ⟨v,o,ho,_⟩:=Ic.cell y c e
   exact Nat.ne_of_lt (Nat.lt_of_lt_of_le (Heap.lt_size ho) hzT)
  have hTp:∀ p∈X.pn++pins,p.1≠T:=fun p hp=>Nat.ne_of_lt (Nat.lt_of_lt_of_le (Heap.lt_size (Ic.pin p (List.mem_append_left _ hp)).1) hzT)
  have hlo:X.s₀.heap.objs.size≤T:=Nat.le_trans Ic.sz hzT
  have frm:=I2.ok.frames
  have fly:XFly X.s₀.heap.objs.size (PySem.W.hideAll s₁.heap (a::T::frs X.stack)) X.stack a (.ref C) (some dx) .none s₁.heap:=
   ⟨fun b o e=>PySem.W.of_hideAll _ e,PySem.W.hideAll_none _ (.head _),PySem.W.funFrames_hide I2.stack fun env he b hb=>.tail _ (.tail _ (List.mem_filterMap.mpr ⟨env,he,hb⟩)),
    vs,sl,T,oT,ts,g1,g2,PySem.W.hideAll_none _ (.tail _ (.head _)),g4,g5,g6,g7,hlo⟩
  have IF:∀ fl h' t',XFly X.s₀.heap.objs.size (PySem.W.hideAll s₁.heap (a::T::frs X.stack)) X.stack a (.ref C) (some dx) fl h'→s₁.heap.UpToSlots h'→Inv X pins (List.replicate X.N.length none) H' { s₁ with heap:=h',toks:=t' }:=
   fun fl h' t' f u=>inv_fly I2 ea hT hlo hTL hTc hTp f u
  rw [hst] at frm fly IF
  refine xf_next frm hfr fly fun h3 fly3 up3=>?_
  refine xf_land (s:={ s₁ with heap:=h3 }) fly3 fun h4 fly4 up4=>?_
  have I4:=IF _ h4 s₁.toks fly4 (up3.trans up4)
  have I4S:Inv (X.suiteC a) pins (List.replicate X.N.length none) H' { s₁ with heap:=h4 }:=I4.toSuite
  refine wpAny_handleBy_cons (codeAny_handlers_test (ld_glob I4S hg hm ?_ hdb)) (by intro q; cases q)
  obtain ⟨vs4,sl4,hx4⟩:=XHad.get I4.hok ea
  have LT:PySem.W.Looks (model X.prog X.w) h4 (typeOf (.ref a)) (.ref C):=(PySem.W.Looks.ld hx4).andThen .now
  refine PySem.W.Looks.here (s:={ s₁ with heap:=h4 }) (PySem.W.exm_one I4.kIn LT hex) ?_
  refine codeAny_handlers_suite_as ?_
  refine xf_land (s:={ s₁ with heap:=h4 }) fly4 fun h5 fly5 up5=>?_
  have I5:=IF _ h5 s₁.toks fly5 ((up3.trans up4).trans up5)
  have I5S:Inv (X.suiteC a) pins (List.replicate X.N.length none) H' { s₁ with heap:=h5 }:=I5.toSuite
  refine store_ok (X:=X.suiteC a) (v:=.ref a) I5S hN hi (.inl hx) rfl (fun s6 I6=>?_) (.inr hx)
  refine wpAny_mono (hs a pins s6 _ H' _ I6 hth) (fun f s7 hf=>?_) fun _ _ z=>z.elim
  cases f with
  | next=>
   obtain ⟨σ7,H7,I7,q⟩:=hf
   exact xn_goes (I7.ofSuite I.ok.hd) hN hi hx fun s8 I8=>⟨_,H7,I8,q⟩
  | brk=>obtain ⟨_,_,_,q⟩:=hf; exact q.elim
  | cont=>obtain ⟨_,_,_,q⟩:=hf; exact q.elim
  | ret u=>obtain ⟨_,_,_,_,_,q⟩:=hf; exact q.elim
end
end L2
namespace L2
open PySem PySem.Spec PyProof.Rows PySem.W
section
variable {prog:Program} {w:World} {A:Around} {E:Value→Shared→Prop} {s:Shared} {K:PySem.W.Frag} {x D:Addr} {ox:Obj} {odo:Option Obj} {name:Str} {v:Value}
theorem xg_by {tk:Tok} {fill ex:Bool} {Q:Value→Shared→Prop} (X:K.In s.heap) (I:InstAt s.heap x ox D odo) (hga:findIn K (.ref D) "__getattribute__" = some (some (.builtin "BaseException.__getattribute__")))
  (hgn:findIn K (.ref D) "__getattr__" = some none) (hm:mroIn K D (.type "BaseException")=some true)
  (h:∀ A',wpAny (model prog w) A' (Builtin.«object.__getattribute__» ⟨[.ref x,.str name tk],[]⟩) (fun fin s'=>match fin with | .done (.ret v)=>wpAny (model prog w) A (handedOut v) Q E s' | _=>False) (fun _ _=>False) s) :
  wpAny (model prog w) A (getAttrBy (.ref x) (.str name tk) fill ex) Q E s:=by
 obtain ⟨hh,g,d,t,os⟩:=s
 have L0:=I.type (M:=model prog w)
 have L1:=looks_findIn (M:=model prog w) X hga
 have L2:=looks_findIn (M:=model prog w) X hgn
 have hx0:(ex && onTheHeap (Value.builtin "BaseException.__getattribute__"))=false:=by cases ex <;> rfl
 have hx2:(Value.builtin "BaseException.__getattribute__" == Value.builtin "object.__getattribute__")=false:=by decide +kernel
 unfold getAttrBy
 refine wpAny_holding (wpAny_bind (L0.at (wpAny_bind (L1.at ?_))))
 show wpAny _ _ (if onTheHeap (Value.ref D) && (Value.builtin "BaseException.__getattribute__" == Value.builtin "object.__getattribute__") then _ else _) _ _ _
 rw [hx2,Bool.and_false,if_neg Bool.false_ne_true]
 unfold getAttrByItsOwn hookBefore
 refine wpAny_bind ?_
 show wpAny _ _ (typeLookup (.ref D) "__getattr__") _ _ _
 refine L2.at (wpAny_bind (wpAny_attempt (wpAny_holding ?_)))
 unfold callGetattribute
 rw [hx0,if_neg Bool.false_ne_true]
 unfold boundAndCalled
 have hk:builtinKind "BaseException.__getattribute__" = some .slot:=by decide +kernel
 have hsplit:splitId "BaseException.__getattribute__" = some ("BaseException", "__getattribute__"):=by decide +kernel
 have LI:Looks (model prog w) hh (isInstance (.ref x) (.type "BaseException")) true:=L0.andThen (looks_mroIn X hm)
 have ha:argsOk "BaseException.__getattribute__" ⟨[.ref x,.str name tk],[]⟩:=PySem.F.args_bexc_ga (.ref x) (.str name tk)
 refine wpAny_bind ?_
 rw [PySem.F.attr_ValueError.ga.bind (.ref x)]
 refine wpAny_pure ?_
 show wpAny _ _ (call (.builtin "BaseException.__getattribute__") [.ref x,.str name tk]) _ _ _
 refine wpAny_call ?_
 refine codeAny_call_builtin PySem.F.attr_ValueError.ga.plain PySem.F.entry_bexc_ga ?_
 refine check_slot (s:={ heap:=hh,gens:=g,drawn:=d,toks:=t,os:=os }) (i:="BaseException.__getattribute__") (owner:="BaseException") (n:="__getattribute__") (self:=.ref x) (rest:=[.str name tk]) (kw:=[]) hk hsplit LI ha ?_
 refine wpAny_mono (h _) (fun fin s' z=>?_) fun _ _ z=>z.elim
 rcases fin with (_ | _ | _ | _) | _ <;> first | exact z | exact z.elim
theorem xg_entry_value {tk:Tok} {Q:PySem.Fin→Shared→Prop} (X:K.In s.heap) (I:InstAt s.heap x ox D odo) (hf:findObj K D odo name=some (.value v)) (h:Q (.done (.ret v)) s) :
  wpAny (model prog w) A (Builtin.«object.__getattribute__» ⟨[.ref x,.str name tk],[]⟩) Q E s:=by
 obtain ⟨hh,gg,d,t,os⟩:=s
 have L0:=I.type (M:=model prog w)
 have L1:=looks_find (M:=model prog w) X I hf
 unfold Builtin.«object.__getattribute__»
 repeat (first | with_reducible refine L0.at ?_ | with_reducible refine L1.at ?_ | wp_step)
 exact h
theorem xg_entry_bind {tk:Tok} {a:Value} {g:String} {Q:PySem.Fin→Shared→Prop} (X:K.In s.heap) (I:InstAt s.heap x ox D odo) (hf:findObj K D odo name=some (.bind (.builtin g) a))
  (h:codeAny (model prog w) A (.call (.builtin g) ⟨[a,.ref x,.ref D],[]⟩) (fun r s'=>match r with | .ok (.ret v)=>Q (.done (.ret v)) s' | .ok _=>False | .error e=>E e s') s) :
  wpAny (model prog w) A (Builtin.«object.__getattribute__» ⟨[.ref x,.str name tk],[]⟩) Q E s:=by
 obtain ⟨hh,gg,d,t,os⟩:=s
 have L0:=I.type (M:=model prog w)
 have L1:=looks_find (M:=model prog w) X I hf
 unfold Builtin.«object.__getattribute__»
 repeat (first | with_reducible refine L0.at ?_ | with_reducible refine L1.at ?_ | wp_step)
 refine codeAny_mono h fun r s' hq=>?_
 rcases r with _ | (_ | _ | _ | _) <;> first | exact hq | exact wpAny_pure hq
end
end L2
namespace L2
open PySem PySem.Spec PyProof.Rows
structure XGet (K:PySem.W.Frag) (C:Addr):Prop where
 ga:PySem.W.findIn K (.ref C) "__getattribute__" = some (some (.builtin "BaseException.__getattribute__"))
 gn:PySem.W.findIn K (.ref C) "__getattr__" = some none
 mb:PySem.W.mroIn K C (.type "BaseException")=some true
 hd:PySem.W.hasDictIn K C=true
 cl:PySem.W.findIn K (.ref C) "__class__" = some (some (.builtin "object.__class__"))
 cg:PySem.W.specialIn K (.builtin "object.__class__") "__get__" = some (some (.builtin "getset_descriptor.__get__"))
 ct:PySem.W.takesIn K (.builtin "object.__class__")=some true
 mo:PySem.W.mroIn K C (.type "object")=some true
section
variable {prog:Program} {w:World} {A:Around} {E:Value→Shared→Prop} {s:Shared} {K:PySem.W.Frag} {x C:Addr} {ox:Obj} {od:Obj} {name:Str} {v:Value}
theorem xg_attr {ex:Bool} {Q:Value→Shared→Prop} (X:K.In s.heap) (I:PySem.W.InstAt s.heap x ox C (some od)) (g:XGet K C) (hf:PySem.W.findObj K C (some od) name=some (.value v)) (hv:PySem.W.handedIn v=true)
  (h:Q v { s with toks:=s.toks + 1 }):wpAny (model prog w) A (getAttr (.ref x) name ex) Q E s:=by
 unfold getAttr
 refine wpAny_bind (wpAny_mkText ?_)
 refine xg_by (s:={ s with toks:=s.toks + 1 }) X I g.ga g.gn g.mb fun A'=>?_
 refine xg_entry_value (s:={ s with toks:=s.toks + 1 }) X I hf ?_
 show wpAny _ _ (handedOut v) _ _ _
 rw [PySem.W.handedOut_of hv]
 exact wpAny_pure h
theorem xg_class {Q:Option Value→Shared→Prop} (X:K.In s.heap) (I:PySem.W.InstAt s.heap x ox C (some od)) (g:XGet K C) (h:Q (some (.ref C)) { s with toks:=s.toks + 1 }) :
  wpAny (model prog w) A (getAttr? (.ref x) "__class__") Q E s:=by
 have hf:PySem.W.findObj K C (some od) "__class__" = some (.bind (.builtin "getset_descriptor.__get__") (.builtin "object.__class__")):=
  PySem.W.findObj_data (by obtain ⟨cd,hc,_⟩:=PySem.W.any_some g.hd; rw [hc]; rfl) g.cl g.cg g.ct
 unfold getAttr? getAttrBy?
 refine wpAny_bind (wpAny_mkText ?_)
 refine wpAny_bind (wpAny_attempt ?_)
 refine xg_by (s:={ s with toks:=s.toks + 1 }) X I g.ga g.gn g.mb fun A'=>?_
 refine xg_entry_bind (s:={ s with toks:=s.toks + 1 }) X I hf ?_
 refine PySem.W.class_get (s:={ s with toks:=s.toks + 1 }) (ox:=ox) (od:=some od) X I g.mo ?_
 show wpAny _ _ (handedOut (.ref C)) _ _ _
 rw [PySem.W.handedOut_of (v:=.ref C) rfl]
 exact wpAny_pure (wpAny_pure h)
theorem kitx_x (g:XGet K C):PySem.W.KitX K (.ref x) (.ref C) (fun h=>PySem.W.InstAt h x ox C (some od)) where
 ty:=fun _ _ _ I=>I.type
 it:=fun _ _ X _=>by
  obtain ⟨cdD,hcD,_⟩:=PySem.W.any_some g.hd
  unfold PySem.W.clsIn at hcD
  split at hcD
  ·rename_i c' d' cd' sl' ho
   intro A' Q' E' s' k q
   unfold isType loadHead
   exact wpAny_bind (wpAny_loadPart (k _ _ (X _ _ ho)) (wpAny_pure q))
  ·cases hcD
 ne:=fun h tp dd its n sl X htp=>by
  obtain ⟨cdD,hcD,_⟩:=PySem.W.any_some g.hd
  refine Bool.eq_false_iff.mpr fun q=>?_
  have e:C=tp:=Value.ref.inj (beq_iff_eq.mp q)
  subst e
  unfold PySem.W.clsIn at hcD
  split at hcD
  ·rename_i c' d' cd' sl' ho
   have:=(X _ _ ho).symm.trans htp
   cases this
  ·cases hcD
 ca:=fun X I h=>xg_class X I g h
end
section
variable {X:Cx} {pins:List (Addr × Obj)} {σ:St} {H:Hp} {s:Shared} {a C dx:Addr} {fs:List (Str × V)}
theorem XHad.inst (I:Inv X pins σ H s) (ea:H a=some (XHad a C (some dx))) (ed:H dx=some (.xd fs)) :
  ∃ (ox od:Obj) (mA:Str→Option Value),PySem.W.InstAt s.heap a ox C (some od)∧(∀ n,PySem.W.lookIn n od=some (mA n))∧ox.dict=some dx∧∀ f,RelO (fs.lookup f) (mA f):=by
 obtain ⟨vs,sl,hx⟩:=XHad.get I.hok ea
 obtain ⟨mA,hn,r⟩:=(show ObjOk X.prog X.w H s.heap dx (.xd fs) from I.hok dx _ ed)
 obtain ⟨od,ho,hl⟩:=lookIn_ns hn
 exact ⟨_,od,mA,⟨hx,rfl,rfl,ho⟩,hl,rfl,r⟩
def tXfld (K:PySem.W.Frag) (ta:TE) (f:Str):TE:=fun σ H Q=>ta σ H fun x H1=>ExQ Q (fun a Q=>ExQ Q (fun C Q=>ExQ Q (fun dx Q=>ExQ Q (fun fs Q=>ExQ Q (fun v Q=>x=.ref a∧H1 a=some (XHad a C (some dx))∧H1 dx=some (.xd fs)∧XGet K C∧NoAttr K C f∧fs.lookup f=some v∧Q v H1)))))
theorem pe_xfld {e:Expr} {f:Str} {pos:Pos} {ta:TE} (he:PE X e ta) (hb:attributeBase e f X.env (eval e X.env)=eval e X.env):PE X (.Attribute e f pos) (tXfld X.K ta f):=by
 intro pins s σ H Q I h
 refine attr_of hb (thn (he pins s σ H _ I h) fun u s1 hpat=>?_)
 obtain ⟨x,H1,I1,rx,a,C,dx,fs,v,ex,ea,ed,g,n,l,q⟩:=hpat
 subst ex
 obtain rfl:u=Value.ref a:=rx
 obtain ⟨ox,od,mA,J,hl,hd,r⟩:=XHad.inst I1 ea ed
 obtain ⟨u',hu,ru⟩:=RelO.some_of (v:=v) (o:=mA f) (by rw [← l]; exact r f)
 exact xg_attr I1.kIn J g (PySem.W.findObj_own g.hd n rfl (by rw [hl,hu])) (handed_of ru) ⟨v,H1,I1.tok _,ru,q⟩
def rIsX (K:PySem.W.Frag):List V→Hp→VK→Prop:=fun xs H Q=>ExQ Q (fun a Q=>ExQ Q (fun C Q=>ExQ Q (fun dx Q=>ExQ Q (fun fs Q=>ExQ Q (fun c Q=>ExQ Q (fun cv Q=>ExQ Q (fun b Q=>xs=[.ref a,c]∧H a=some (XHad a C (some dx))∧H dx=some (.xd fs)∧XGet K C∧
 ((∃ S,c=.ref S∧cv=Value.ref S)∨∃ T,c=.ty T∧cv=Value.type T)∧PySem.W.kitOne K (.ref C) cv=some b∧Q (.bl b) H)))))))
theorem call_isX:CallR X (.builtin "isinstance") (rIsX X.K):=by
 intro pins s σ H xs us Q I r h
 obtain ⟨a,C,dx,fs,c,cv,b,rfl,ea,ed,g,rc,k,q⟩:=h
 obtain ⟨u,u2,rfl,rx,r2⟩:=r.two
 obtain rfl:u=Value.ref a:=rx
 have e2:u2=cv:=by
  rcases rc with ⟨S,rfl,rfl⟩ | ⟨T,rfl,rfl⟩
  ·exact r2
  ·exact r2
 subst e2
 obtain ⟨ox,od,mA,J,_⟩:=XHad.inst I ea ed
 exact PySem.W.kia_one (kitx_x g) I.kIn J k (fun z=>nomatch z) fun tk=>⟨.bl b,H,I.tok tk,rfl,q⟩
end
def ClX (P:Program) (w:World) (K:PySem.W.Frag) (mg:Str→Option Value) (base:Heap) (x:Str) (k:Nat) (ps:List Str) (sp:Sp):Prop:=
 ∃ (f:Addr) (fd:FuncData),FnOk P w K mg base (CX1 P w) k f fd ps sp∧Binds K fd ps []∧PySem.W.keepIn K (.ref f)=true∧mg x=some (.ref f)
theorem Fun.clX {P:Program} {w:World} {K:PySem.W.Frag} {mg:Str→Option Value} {base:Heap} {x:Str} {st:Stmt} {f:Addr} {fd:FuncData} {k:Nat} {ps:List Str} {sp:Sp} (F:Fun K x x st f fd) (ok:FnOk P w K mg base (CX1 P w) k f fd ps sp) (m:mg x=some (.ref f))
  (h:∀ (kV doc pm:Value) (an:Option Addr) (cdv ct:Value) (us:List Value),us.length=ps.length→bindArgs (PySem.W.fnOf x x (defArgs st) (defBody st) (defScope st) .none kV doc pm an cdv ct) ⟨us,[]⟩=pure (ps.zip us)):ClX P w K mg base x k ps sp:=
 ⟨f,fd,ok,F.binds h,F.kp,m⟩
def tClX (sp:Sp) (E:XK) (t:TA):TE:=fun σ H Q=>t σ H fun vs H1=>sp vs H1 Q E
section
variable {X:Cx} {x:Str} {k:Nat} {ps:List Str} {sp:Sp} {p pos:Pos} {e:Expr} {es:List Expr} {t:TA} {E:XK} {pins:List (Addr × Obj)}
theorem pe_clx (c:ClX X.prog X.w X.K X.mg X.base x k ps sp) (hr:Room k X.A) (hg:Gl X x) (ha:PA (X.tryC pins E) (e::es) t) (hdb:(x == ("__debug__":Str))=false:=by decide)
  (he:starEach (e::es) X.env=(false,eval e X.env)::starEach es X.env:=by rfl) (hpl:(backTo pos (starEach es X.env)).any (·.1)=false:=by rfl):PE (X.tryC pins E) (.Call (.Name x p) (e::es) [] pos) (tClX sp E t):=by
 obtain ⟨f,fd,F,b,kp,m⟩:=c
 have h:=pe_call (X:=X.tryC pins E) (CX:=CX1 X.prog X.w) (E:=E) (pos:=pos) (p:=p) F hr hg m kp b .nil pass1 ha hdb he hpl
 have e1:tCall sp [] E t=tClX sp E t:=by
  funext σ H Q
  unfold tCall tClX
  simp only [List.append_nil]
 rw [e1] at h
 exact h
end
def spXInit (C:Addr) (f:Str):Sp:=fun vs H Q _=>ExQ Q (fun a Q=>ExQ Q (fun v Q=>vs=[.ref a,v]∧H a=some (XNew a C none)∧∀ dx,H dx=none→dx≠a→Q .non (upd (upd H dx (.xd [(f,v)])) a (XNew a C (some dx)))))
structure XErr (P:Program) (w:World) (K:PySem.W.Frag) (mg:Str→Option Value) (base:Heap) (x:Str) (k:Nat) (ps:List Str) (C:Addr) (f:Str):Prop where
 ex:∃ fI fd,XMk K C fI∧FnOk P w K mg base CX0 k fI fd ps (spXInit C f)∧Binds K fd ps []
 mg:mg x=some (.ref C)
 len:ps.length≤sizeLine
def tRz (C:Addr) (f:Str) (E:XK) (t:TA):TS:=tRaise C (spXInit C f) (fun a dx H2=>E (.ref C) (some dx) (upd H2 a (XHad a C (some dx)))) t
theorem rz_intro {C:Addr} {f:Str} {E:XK} {v:V} {H1:Hp} (h:∀ a dx H2,H1 a=none→H1 dx=none→dx≠a→Same H1 H2→H2 a=some (XHad a C (some dx))→H2 dx=some (.xd [(f,v)])→E (.ref C) (some dx) H2) :
  ∀ a,H1 a=none→spXInit C f [.ref a,v] (upd H1 a (XNew a C none)) (fun u H2=>u=.non∧∃ dx,H2 a=some (XNew a C (some dx))∧E (.ref C) (some dx) (upd H2 a (XHad a C (some dx)))) E0:=by
 intro a ha
 refine ⟨a,v,rfl,upd_same,fun dx hdx hne=>⟨rfl,dx,upd_same,h a dx _ ha (by rw [upd_ne hne] at hdx; exact hdx) hne (fun b o e=>?_) upd_same ?_⟩⟩
 ·have h1:b≠a:=ne_of_none e ha
  have h2:b≠dx:=ne_of_none e (by rw [upd_ne hne] at hdx; exact hdx)
  rw [upd_ne h1,upd_ne h1,upd_ne h2,upd_ne h1]
  exact e
 ·rw [upd_ne hne,upd_ne hne,upd_same]
section
variable {P:Program} {w:World} {K:PySem.W.Frag} {mg:Str→Option Value} {base:Heap} {N:List Str} {qual:Str} {scope:Scope} {fa:Addr} {cd:Value} {A:Around} {outer:List Env} {s₀:Shared} {H₀:Hp} {E:XK}
variable {x:Str} {k:Nat} {ps:List Str} {C:Addr} {f:Str} {np cpos pos:Pos} {e:Expr} {es:List Expr} {t:TA}
theorem ps_rz (c:XErr P w K mg base x k ps C f) (hr:Room (k + 1) (A.deeper (envOfC qual scope s₀.heap.objs.size fa cd))) (hg:Gl (cxOf (CX1 P w) P w K mg base N qual scope fa cd A outer s₀ H₀ E) x)
  (ha:PA (cxOf (CX1 P w) P w K mg base N qual scope fa cd A outer s₀ H₀ E) (e::es) t) (hdb:(x == ("__debug__":Str))=false:=by decide)
  (he:starEach (e::es) (envOfC qual scope s₀.heap.objs.size fa cd)=(false,eval e (envOfC qual scope s₀.heap.objs.size fa cd))::starEach es (envOfC qual scope s₀.heap.objs.size fa cd):=by rfl)
  (hpl:(backTo cpos (starEach es (envOfC qual scope s₀.heap.objs.size fa cd))).any (·.1)=false:=by rfl) :
  PS (cxOf (CX1 P w) P w K mg base N qual scope fa cd A outer s₀ H₀ E) (.Raise (some (.Call (.Name x np) (e::es) [] cpos)) none pos) (tRz C f E t):=by
 obtain ⟨fI,fd,M,F,b⟩:=c.ex
 exact ps_raise M F hr hg c.mg b c.len (fun pins σ H s a dx I hz ea hR=>leave_ok I hz ea hR) ha hdb he hpl
end
section
variable {X:Cx}
theorem bools_of:∀ {bs:List Bool} {us:List Value},Vals (bs.map V.bl) us→LSm.BoolsAre us bs
 | [],_,.nil=>.nil
 | b::bs,_,.cons r t=>by
  cases (show _=Value.bool b from r)
  exact .cons b (bools_of t)
def rAll (K:PySem.W.Frag):List V→Hp→VK→Prop:=fun xs H Q=>ExQ Q (fun (p:Addr) Q=>ExQ Q (fun (bs:List Bool) Q=>xs=[.ref p]∧SqL K H p (bs.map V.bl)∧Q (.bl (bs.all id)) H))
theorem call_all (hc:X.calm=true):CallR X (.builtin "all") (rAll X.K):=by
 intro pins s σ H xs us Q I r h
 obtain ⟨p,bs,rfl,hs,q⟩:=h
 obtain ⟨u,rfl,ru⟩:=r.one
 obtain rfl:u=Value.ref p:=ru
 obtain ⟨its,rv,hl,_⟩:=I.list hs
 have hb:=bools_of rv
 have hl':s.heap.IsList p its.toArray:=hl.isList
 have hlt:p < s.heap.objs.size:=by obtain ⟨_,e,_⟩:=hl'; exact Heap.lt_size e
 refine call_all_walk (wpAny_pyIter_list hl' ?_)
 refine ⟨s.heap.objs.size,[s.heap.objs.size,p],[s.heap.objs.size],its.toArray.size,_,_,fun i=>(bs[i]?).getD true,rfl,Walks.list (A:=X.A.in1) (I.ok.hd hc) _ p (Nat.ne_of_lt hlt) its.toArray,
  ⟨⟨_,Heap.get?_push_size _ rfl,rfl,rfl⟩,hl'.push _⟩,fun i v s' Q' E' hP hQ=>?_,fun h' tk hk=>?_⟩
 ·obtain ⟨b,e,rfl⟩:=hb.get i v (by simpa using hP)
  simp only [e,Option.getD_some] at hQ
  exact wpAny_truthy_bool hQ
 ·have e:((List.range its.toArray.size).all fun i=>(bs[i]?).getD true)=bs.all id:=by
   rw [List.size_toArray,hb.length]; exact LSm.range_all bs
  rw [e]
  exact ⟨.bl (bs.all id),H,I.kept (t':=tk) (LSm.kept_iter hk),rfl,q⟩
end
section
variable {κ:Type} [DecidableEq κ]
def valV (kvs:List (κ × V)) (k:κ):Option V:=(kvs.find? fun kv=>decide (kv.1=k)).map (·.2)
def putK (kvs:List (κ × V)) (k:κ) (v:V):List (κ × V):=
 if (kvs.any fun kv=>decide (kv.1=k))=true then kvs.map (fun kv=>if kv.1=k then (kv.1,v) else kv) else kvs++[(k,v)]
def dropK (kvs:List (κ × V)) (k:κ):List (κ × V):=kvs.filter fun kv=>decide (kv.1≠k)
theorem valV_nil {k:κ}:valV ([]:List (κ × V)) k=none:=rfl
theorem valV_pos {p:κ × V} {r:List (κ × V)} {k:κ} (e:p.1=k):valV (p::r) k=some p.2:=by simp [valV,List.find?_cons,e]
theorem valV_neg {p:κ × V} {r:List (κ × V)} {k:κ} (e:¬ p.1=k):valV (p::r) k=valV r k:=by simp [valV,List.find?_cons,e]
theorem valV_any (k:κ):∀ kvs:List (κ × V),(kvs.any fun kv=>decide (kv.1=k))=(valV kvs k).isSome
 | []=>rfl
 | p::r=>by
  rw [List.any_cons]
  by_cases e:p.1=k
  ·simp only [valV_pos e,decide_eq_true e,Bool.true_or,Option.isSome_some]
  ·rw [valV_neg e,decide_eq_false e,Bool.false_or]; exact valV_any k r
theorem valV_map (k j:κ) (y:V):∀ kvs:List (κ × V),valV (kvs.map fun kv=>if kv.1=k then (kv.1,y) else kv) j=(valV kvs j).map fun x=>if j=k then y else x
 | []=>rfl
 | p::r=>by
  have ih:=valV_map k j y r
  rw [List.map_cons]
  by_cases h:p.1=k
  ·rw [if_pos h]
   by_cases e:p.1=j
   ·rw [valV_pos (p:=(p.1,y)) e,valV_pos e,Option.map_some,if_pos (e.symm.trans h)]
   ·rw [valV_neg (p:=(p.1,y)) e,valV_neg e,ih]
  ·rw [if_neg h]
   by_cases e:p.1=j
   ·rw [valV_pos (p:=p) e,valV_pos e,Option.map_some,if_neg (fun z=>h (e.trans z))]
   ·rw [valV_neg (p:=p) e,valV_neg e,ih]
theorem valV_snoc (k j:κ) (y:V):∀ kvs:List (κ × V),valV kvs k=none→valV (kvs++[(k,y)]) j=if j=k then some y else valV kvs j
 | [],_=>by
  by_cases e:k=j
  ·rw [if_pos e.symm]; exact valV_pos (p:=(k,y)) e
  ·rw [if_neg (fun z=>e z.symm)]; exact valV_neg (p:=(k,y)) e
 | p::r,hn=>by
  rw [List.cons_append]
  have hk:¬ p.1=k:=fun z=>by rw [valV_pos z] at hn; cases hn
  rw [valV_neg hk] at hn
  have ih:=valV_snoc k j y r hn
  by_cases e:p.1=j
  ·rw [valV_pos e,valV_pos e,if_neg (fun z=>hk (e.trans z))]
  ·rw [valV_neg e,valV_neg e,ih]
theorem valV_put (kvs:List (κ × V)) (k j:κ) (y:V):valV (putK kvs k y) j=if j=k then some y else valV kvs j:=by
 unfold putK
 by_cases a:(kvs.any fun kv=>decide (kv.1=k))=true
 ·rw [if_pos a,valV_map]
  rw [valV_any] at a
  by_cases e:j=k
  ·obtain ⟨x,hx⟩:=Option.isSome_iff_exists.mp a
   rw [if_pos e,e,hx,Option.map_some,if_pos rfl]
  ·rw [if_neg e]
   cases valV kvs j with
   | none=>rfl
   | some x=>rw [Option.map_some,if_neg e]
 ·rw [if_neg a]
  refine valV_snoc k j y kvs ?_
  rw [valV_any] at a
  cases q:valV kvs k with
  | none=>rfl
  | some x=>rw [q] at a; exact (a rfl).elim
theorem length_putK (kvs:List (κ × V)) (k:κ) (v:V):(putK kvs k v).length≤kvs.length + 1:=by
 unfold putK
 split
 ·rw [List.length_map]; omega
 ·rw [List.length_append,List.length_cons,List.length_nil]; omega
theorem putK_new {kvs:List (κ × V)} {k:κ} (v:V) (h:valV kvs k=none):putK kvs k v=kvs++[(k,v)]:=by
 unfold putK
 rw [valV_any,h]
 exact if_neg (by decide)
theorem RelO.isSome_eq {o:Option V} {u:Option Value} (r:RelO o u):o.isSome=u.isSome:=by
 cases o with
 | none=>cases u with
  | none=>rfl
  | some _=>exact (show False from r).elim
 | some _=>cases u with
  | none=>exact (show False from r).elim
  | some _=>rfl
theorem RelO.getD {o:Option V} {u:Option Value} {d:V} {d':Value} (r:RelO o u) (rd:RelV d d'):RelV (o.getD d) (u.getD d'):=by
 cases o with
 | none=>cases u with
  | none=>exact rd
  | some _=>exact (show False from r).elim
 | some _=>cases u with
  | none=>exact (show False from r).elim
  | some _=>exact r
theorem KV.val {kvs:List (κ × V)} {vs:List (κ × Value)} (r:KV kvs vs) (k:κ):RelO (valV kvs k) (valueAt vs k):=by
 unfold KV at r
 induction r with
 | nil=>exact True.intro
 | @cons p q ps qs h t ih=>
  obtain ⟨h1,h2⟩:=h
  by_cases e:p.1=k
  ·have e':q.1=k:=h1.symm.trans e
   have b:valueAt (q::qs) k=some q.2:=by simp [valueAt,List.find?_cons,e']
   rw [valV_pos e,b]; exact h2
  ·have e':¬ q.1=k:=fun z=>e (h1.trans z)
   have b:valueAt (q::qs) k=valueAt qs k:=by simp [valueAt,List.find?_cons,e']
   rw [valV_neg e,b]; exact ih
theorem KV.any {kvs:List (κ × V)} {vs:List (κ × Value)} (r:KV kvs vs) (k:κ):(kvs.any fun kv=>decide (kv.1=k))=vs.any fun kv=>decide (kv.1=k):=by
 unfold KV at r
 induction r with
 | nil=>rfl
 | cons h t ih=>rw [List.any_cons,List.any_cons,ih,h.1]
theorem KV.repl {kvs:List (κ × V)} {vs:List (κ × Value)} (r:KV kvs vs) (k:κ) {y:V} {u:Value} (ry:RelV y u) :
  KV (kvs.map fun kv=>if kv.1=k then (kv.1,y) else kv) (vs.map fun kv=>if kv.1=k then (kv.1,u) else kv):=by
 unfold KV at r ⊢
 induction r with
 | nil=>exact .nil
 | @cons p q ps qs h t ih=>
  rw [List.map_cons,List.map_cons]
  refine .cons ?_ ih
  obtain ⟨h1,h2⟩:=h
  by_cases e:p.1=k
  ·rw [if_pos e,if_pos (h1.symm.trans e)]; exact ⟨h1,ry⟩
  ·rw [if_neg e,if_neg (fun z=>e (h1.trans z))]; exact ⟨h1,h2⟩
theorem KV.put {kvs:List (κ × V)} {vs:List (κ × Value)} (r:KV kvs vs) (k:κ) {y:V} {u:Value} (ry:RelV y u):KV (putK kvs k y) (stored vs k u):=by
 unfold putK stored
 rw [r.any k]
 by_cases e:(vs.any fun kv=>decide (kv.1=k))=true
 ·rw [if_pos e,if_pos e]; exact r.repl k ry
 ·rw [if_neg e,if_neg e]; exact Paired.snoc r ⟨rfl,ry⟩
theorem KV.drop {kvs:List (κ × V)} {vs:List (κ × Value)} (r:KV kvs vs) (k:κ):KV (dropK kvs k) (without vs k):=by
 unfold KV at r ⊢
 unfold dropK without
 induction r with
 | nil=>exact .nil
 | @cons p q ps qs h t ih=>
  obtain ⟨h1,h2⟩:=h
  rw [List.filter_cons,List.filter_cons]
  by_cases e:p.1=k
  ·have a:¬ decide (p.1≠k)=true:=by simp [e]
   have b:¬ decide (q.1≠k)=true:=by simp [h1.symm.trans e]
   rw [if_neg a,if_neg b]; exact ih
  ·have e':¬ q.1=k:=fun z=>e (h1.trans z)
   have a:decide (p.1≠k)=true:=by simp [e]
   have b:decide (q.1≠k)=true:=by simp [e']
   rw [if_pos a,if_pos b]; exact .cons ⟨h1,h2⟩ ih
theorem KV.keys {kvs:List (κ × V)} {vs:List (κ × Value)} (r:KV kvs vs):kvs.map (·.1)=vs.map (·.1):=by
 unfold KV at r
 induction r with
 | nil=>rfl
 | cons h t ih=>rw [List.map_cons,List.map_cons,ih,h.1]
theorem KV.length {kvs:List (κ × V)} {vs:List (κ × Value)} (r:KV kvs vs):kvs.length=vs.length:=Paired.length r
end
theorem kV_is {P:Program} {w:World} {k:Key} {u:Value} (r:RelV (kV k) u):(mixKind P w).is k u=true:=by
 cases k with
 | inl i=>obtain ⟨t,e⟩:=(show ∃ t,u=Value.int i t from r); subst e; exact mixKind_int P w i t
 | inr x=>obtain ⟨t,e⟩:=(show ∃ t,u=Value.str x t from r); subst e; exact mixKind_str P w x t
theorem items_are {P:Program} {w:World}:∀ {ks:List Key} {us:List Value},Vals (ks.map kV) us→ItemsAre (mixKind P w) ks us
 | [],_,r=>by rw [List.map_nil] at r; cases r; exact .nil
 | k::ks,_,r=>by
  rw [List.map_cons] at r
  cases r with
  | cons h t=>exact .cons (kV_is h) (items_are t)
abbrev KT (H:Hp):List (List Key × V)→List (List Key × Addr × Value)→Prop:=Paired fun p q=>p.1=q.1∧H q.2.1=some (.tup (p.1.map kV))∧RelV p.2 q.2.2
theorem KT.val {H:Hp} {kvs:List (List Key × V)} {xs:List (List Key × Addr × Value)} (r:KT H kvs xs) (k:List Key):RelO (valV kvs k) ((atKey xs k).map (·.2)):=by
 induction r with
 | nil=>exact True.intro
 | @cons p q ps qs h t ih=>
  obtain ⟨h1,_,h2⟩:=h
  by_cases e:p.1=k
  ·have e':q.1=k:=h1.symm.trans e
   have b:atKey (q::qs) k=some q.2:=by simp [atKey,List.find?_cons,e']
   rw [valV_pos e,b]; exact h2
  ·have e':¬ q.1=k:=fun z=>e (h1.trans z)
   have b:atKey (q::qs) k=atKey qs k:=by simp [atKey,List.find?_cons,e']
   rw [valV_neg e,b]; exact ih
theorem KT.repl {H:Hp} {kvs:List (List Key × V)} {xs:List (List Key × Addr × Value)} (r:KT H kvs xs) (k:List Key) {y:V} {u:Value} (ry:RelV y u) :
  KT H (kvs.map fun kv=>if kv.1=k then (kv.1,y) else kv) (xs.map (putAt k u)):=by
 induction r with
 | nil=>exact .nil
 | @cons p q ps qs h t ih=>
  rw [List.map_cons,List.map_cons]
  refine .cons ?_ ih
  obtain ⟨h1,h2,h3⟩:=h
  unfold putAt
  by_cases e:p.1=k
  ·rw [if_pos e,if_pos (h1.symm.trans e)]; exact ⟨h1,h2,ry⟩
  ·rw [if_neg e,if_neg (fun z=>e (h1.trans z))]; exact ⟨h1,h2,h3⟩
theorem KT.put {H:Hp} {kvs:List (List Key × V)} {xs:List (List Key × Addr × Value)} (r:KT H kvs xs) (k:List Key) {b:Addr} {y:V} {u:Value} (hb:H b=some (.tup (k.map kV))) (ry:RelV y u) :
  KT H (putK kvs k y) (storedH xs k b u):=by
 have e:(kvs.any fun kv=>decide (kv.1=k))=(atKey xs k).isSome:=by
  rw [valV_any,(r.val k).isSome_eq,Option.isSome_map]
 unfold putK storedH
 rw [e]
 by_cases q:(atKey xs k).isSome=true
 ·rw [if_pos q,if_pos q]; exact r.repl k ry
 ·rw [if_neg q,if_neg q]; exact Paired.snoc r ⟨rfl,hb,ry⟩
theorem KT.keeps {H H':Hp} {kvs:List (List Key × V)} {xs:List (List Key × Addr × Value)} (r:KT H kvs xs) (ht:∀ b ys,H b=some (.tup ys)→H' b=some (.tup ys)):KT H' kvs xs:=
 Paired.mapP r fun _ _ z=>⟨z.1,ht _ _ z.2.1,z.2.2⟩
section
variable {P:Program} {w:World} {H:Hp} {h:Heap} {a:Addr}
theorem rd_of {u:HO} (ok:HOk P w H h) (e:Rd H a u):ObjOk P w H h a u:=e.ok ok
theorem dk_rd {kvs:List (Key × V)} (ok:HOk P w H h) (e:Rd H a (.dK kvs)):kvs.length≤sizeLine∧(a == sysModules)=false∧∃ vs,KV kvs vs∧h.DictOf (mixKind P w) a vs:=
 show ObjOk P w H h a (.dK kvs) from rd_of ok e
theorem dk_of {kvs:List (Key × V)} (ok:HOk P w H h) (e:H a=some (.dK kvs)):kvs.length≤sizeLine∧(a == sysModules)=false∧∃ vs,KV kvs vs∧h.DictOf (mixKind P w) a vs:=dk_rd ok (.inl e)
theorem key_of {ks:List Key} (ok:HOk P w H h) (e:H a=some (.tup (ks.map kV))):(tupleKind (mixKind P w)).is h ks a:=by
 obtain ⟨_,its,r,o,h1,h2,n,h3⟩:=(show ObjOk P w H h a (.tup (ks.map kV)) from ok a _ e)
 exact ⟨o,its.toArray,n,h1,h2,h3,by simpa using items_are r⟩
theorem dt_rd {kvs:List (List Key × V)} (ok:HOk P w H h) (e:Rd H a (.dT kvs)):kvs.length≤sizeLine∧(a == sysModules)=false∧
  ∃ xs,KT H kvs xs∧h.DictOfH (tupleKind (mixKind P w)) a xs:=by
 obtain ⟨z,y,xs,r,o,es,ep,h1,h2,h3,h4,h5⟩:=(show ObjOk P w H h a (.dT kvs) from rd_of ok e)
 refine ⟨z,y,xs,r,o,es,ep,h1,h2,h3,h4,fun x hx=>?_,h5⟩
 have all:∀ {l:List (List Key × V)} {m:List (List Key × Addr × Value)},KT H l m→∀ x∈m,(tupleKind (mixKind P w)).is h x.1 x.2.1:=by
  intro l m q
  induction q with
  | nil=>intro x hx; exact nomatch hx
  | @cons p q ps qs hq t ih=>
   intro x hx
   rcases List.mem_cons.mp hx with e | hx
   ·subst e
    exact key_of ok (by rw [← hq.1]; exact hq.2.1)
   ·exact ih x hx
 exact all r x hx
theorem dt_of {kvs:List (List Key × V)} (ok:HOk P w H h) (e:H a=some (.dT kvs)):kvs.length≤sizeLine∧(a == sysModules)=false∧
  ∃ xs,KT H kvs xs∧h.DictOfH (tupleKind (mixKind P w)) a xs:=dt_rd ok (.inl e)
end
def DGet (H:Hp) (a:Addr) (y:V) (r:Option V):Prop:=
 (∃ kvs k,Rd H a (.dK kvs)∧y=kV k∧r=valV kvs k)∨∃ kvs k b,Rd H a (.dT kvs)∧y=.ref b∧H b=some (.tup (k.map kV))∧r=valV kvs k
def DPut (H:Hp) (a:Addr) (y v:V) (H':Hp):Prop:=
 (∃ kvs k,H a=some (.dK kvs)∧y=kV k∧kvs.length < sizeLine∧H'=upd H a (.dK (putK kvs k v)))∨
 ∃ kvs k b,H a=some (.dT kvs)∧y=.ref b∧H b=some (.tup (k.map kV))∧kvs.length < sizeLine∧H'=upd H a (.dT (putK kvs k v))
theorem DGet.k {H:Hp} {a:Addr} {kvs:List (Key × V)} {k:Key} (e:H a=some (.dK kvs)):DGet H a (kV k) (valV kvs k):=.inl ⟨kvs,k,.inl e,rfl,rfl⟩
theorem DGet.t {H:Hp} {a b:Addr} {kvs:List (List Key × V)} {k:List Key} (e:H a=some (.dT kvs)) (eb:H b=some (.tup (k.map kV))):DGet H a (.ref b) (valV kvs k):=.inr ⟨kvs,k,b,.inl e,rfl,eb,rfl⟩
theorem DPut.k {H:Hp} {a:Addr} {kvs:List (Key × V)} {k:Key} {v:V} (e:H a=some (.dK kvs)) (hl:kvs.length < sizeLine):DPut H a (kV k) v (upd H a (.dK (putK kvs k v))):=.inl ⟨kvs,k,e,rfl,hl,rfl⟩
theorem DPut.t {H:Hp} {a b:Addr} {kvs:List (List Key × V)} {k:List Key} {v:V} (e:H a=some (.dT kvs)) (eb:H b=some (.tup (k.map kV))) (hl:kvs.length < sizeLine) :
  DPut H a (.ref b) v (upd H a (.dT (putK kvs k v))):=.inr ⟨kvs,k,b,e,rfl,eb,hl,rfl⟩
section
variable {X:Cx} {pins:List (Addr × Obj)} {σ:St} {H:Hp} {s:Shared} {a:Addr} {y v:V} {u r:Value} {o:Option V} {A:Around} {E:Value→Shared→Prop}
theorem Inv.big (I:Inv X pins σ H s):sysModules < s.heap.objs.size:=by
 have h:mainGlobals < s.heap.objs.size:=(I.mod.glob.keeps I.bk).lt
 exact Nat.lt_trans (by decide) h
theorem d_getItem {Q:Value→Shared→Prop} (hu:A.units + 1 < cLine) (I:Inv X pins σ H s) (g:DGet H a y (some v)) (ry:RelV y u) (h:∀ w' s',Inv X pins σ H s'→RelV v w'→Q w' s') :
  wpAny (model X.prog X.w) A (getItem (.ref a) u) Q E s:=by
 rcases g with ⟨kvs,k,e,ey,l⟩ | ⟨kvs,k,b,e,ey,eb,l⟩
 ·subst ey
  obtain ⟨z,hd,vs,rel,dd⟩:=dk_rd I.hok e
  obtain ⟨w',hw,rw'⟩:=RelO.some_of (v:=v) (o:=valueAt vs k) (by rw [l]; exact rel.val k)
  exact wpAny_getItem_of (kV_is ry) dd.mapOf hw (h w' _ (I.tok _) rw')
 ·subst ey
  cases (show u=Value.ref b from ry)
  obtain ⟨z,hd,xs,rel,dd⟩:=dt_rd I.hok e
  obtain ⟨w',hw,rw'⟩:=RelO.some_of (v:=v) (o:=(atKey xs k).map (·.2)) (by rw [l]; exact rel.val k)
  obtain ⟨p,hp,hp2⟩:=Option.map_eq_some_iff.mp hw
  refine wpAny_getItem_heap (tupleKind_room_in1 hu) (key_of I.hok eb) dd hp ?_
  rw [hp2]
  exact h w' _ (I.tok _) rw'
theorem d_notIn {Q:Value→Shared→Prop} (hu:A.units + 1 < cLine) (I:Inv X pins σ H s) (g:DGet H a y o) (ry:RelV y u) (h:∀ s',Inv X pins σ H s'→Q (.bool (!o.isSome)) s') :
  wpAny (model X.prog X.w) A (compareOp .NotIn u (.ref a)) Q E s:=by
 rcases g with ⟨kvs,k,e,ey,l⟩ | ⟨kvs,k,b,e,ey,eb,l⟩
 ·subst ey
  obtain ⟨z,hd,vs,rel,dd⟩:=dk_rd I.hok e
  refine wpAny_notIn_of (kV_is ry) hd dd.mapOf ?_
  rw [← (rel.val k).isSome_eq,← l]
  exact h _ (I.tok _)
 ·subst ey
  cases (show u=Value.ref b from ry)
  obtain ⟨z,hd,xs,rel,dd⟩:=dt_rd I.hok e
  refine wpAny_notIn_heap (tupleKind_room_in1 hu) (key_of I.hok eb) hd dd ?_
  have q:=(rel.val k).isSome_eq
  rw [Option.isSome_map] at q
  rw [← q,← l]
  exact h _ (I.tok _)
theorem d_write {h':Heap} {t':Nat} {ob:HO} (I:Inv X pins σ H s) (mu:Mut (H a)) (hs:Heap.SameBut a s.heap h') (he:∃ q,h'.get? a=some q) (new:ObjOk X.prog X.w (upd H a ob) h' a ob) :
  Inv X pins σ (upd H a ob) { s with heap:=h',toks:=t' }:=
 I.write (x:=a) (e:=a) mu (.inl rfl) (fun b q hb z=>(hs.2 b hb).trans z) he new
theorem dk_new {P:Program} {w:World} {H':Hp} {h':Heap} {kvs:List (Key × V)} {vs:List (Key × Value)} (z:kvs.length≤sizeLine) (hd:(a == sysModules)=false) (rel:KV kvs vs) (dd:h'.DictOf (mixKind P w) a vs) :
  ObjOk P w H' h' a (.dK kvs):=⟨z,hd,vs,rel,dd⟩
theorem d_setItem {H':Hp} {Q:Unit→Shared→Prop} (hu:A.units + 1 < cLine) (I:Inv X pins σ H s) (g:DPut H a y v H') (ry:RelV y u) (rv:RelV v r) (h:∀ s',Inv X pins σ H' s'→Q () s') :
  wpAny (model X.prog X.w) A (setItem (.ref a) u r) Q E s:=by
 rcases g with ⟨kvs,k,e,ey,l,eH⟩ | ⟨kvs,k,b,e,ey,eb,l,eH⟩
 ·subst ey eH
  obtain ⟨z,hd,vs,rel,dd⟩:=dk_of I.hok e
  have hz:vs.length≤sizeLine:=by rw [← rel.length]; exact z
  have hl:(putK kvs k v).length≤sizeLine:=by have:=length_putK kvs k v; omega
  refine wpAny_setItem_pairs (hsz:=hz) (kV_is ry) dd fun h' dd' hs=>h _ ?_
  have he:∃ q,h'.get? a=some q:=let ⟨q,_,_,hq,_⟩:=dd'; ⟨q,hq⟩
  exact d_write I (by rw [e]; exact True.intro) hs he (dk_new hl hd (rel.put k rv) dd')
 ·subst ey eH
  cases (show u=Value.ref b from ry)
  obtain ⟨z,hd,xs,rel,dd⟩:=dt_of I.hok e
  have hz:xs.length≤sizeLine:=by rw [← Paired.length rel]; exact z
  have hl:(putK kvs k v).length≤sizeLine:=by have:=length_putK kvs k v; omega
  refine wpAny_setItem_heap (hsz:=hz) (tupleKind_room_in1 hu) (key_of I.hok eb) dd fun h' dd' hs=>h _ ?_
  obtain ⟨q,es,ep,hq,h2,h3,h4,_,h5⟩:=dd'
  refine d_write I (by rw [e]; exact True.intro) hs ⟨q,hq⟩ ⟨hl,hd,_,(rel.put k eb rv).keeps fun c ys ec=>?_,q,es,ep,hq,h2,h3,h4,h5⟩
  rw [upd_ne (ne_of ec e (fun z=>nomatch z))]
  exact ec
end
section
variable {X:Cx} {pins:List (Addr × Obj)} {σ:St} {H:Hp} {s:Shared} {a:Addr} {kvs:List (Key × V)} {k:Key} {u:Value} {A:Around} {E:Value→Shared→Prop}
end
def NoSl (i:Expr):Prop:=∀ ov iv,subscripted i false ov iv=operate [ov,iv] (getItem ov iv)
theorem subD_of {prog:Program} {w:World} {A:Around} {E:Value→Shared→Prop} {s:Shared} {env:Env} {value slice:Expr} {pos:Pos} {T id:String} {Q:Value→Shared→Prop}
  (hl:typeLookup (.type T) "__getitem__" = pure (some (.builtin id))) (hs:NoSl slice)
  (h:wpAny (model prog w) A (eval value env) (fun o s₁=>wpAny (model prog w) A (eval slice env) (fun i s₂=>s₂.TypeIs o T∧wpAny (model prog w) A (getItem o i) Q E s₂) E s₁) E s) :
  wpAny (model prog w) A (eval (.Subscript value slice pos) env) Q E s:=by
 refine Subscript_ (wpAny_mono h (fun o s₁ h₁=>wpAny_mono h₁ (fun i s₂ h₂=>?_) fun _ _ x=>x) fun _ _ x=>x)
 obtain ⟨hT,h₂⟩:=h₂
 unfold subscriptTail
 refine wpAny_bind ?_
 rw [getitemInPython_of_ne hT.not_modules]
 refine wpAny_bind (wpAny_specialOf hT hl ?_)
 have fin:wpAny (model prog w) A (subscripted slice false o i) (fun r s₃=>wpAny (model prog w) A (letTemporaryGo value o r >>= fun _=>pure r) Q E s₃) E s₂:=by
  rw [hs o i]
  exact wpAny_operating (wpAny_mono h₂ (fun r s₃ h₃=>wpAny_bind (wpAny_letTemporaryGo (wpAny_pure h₃))) fun _ _ x=>x)
 first
  | exact wpAny_pure (wpAny_bind fin)
  | exact wpAny_bind (wpAny_pure (wpAny_bind fin))
  | exact wpAny_bind fin
theorem dict_typeIs {X:Cx} {pins:List (Addr × Obj)} {σ:St} {H:Hp} {s:Shared} {a:Addr} {y:V} {o:Option V} (I:Inv X pins σ H s) (g:DGet H a y o):s.TypeIs (.ref a) "dict":=by
 rcases g with ⟨kvs,k,e,_,_⟩ | ⟨kvs,k,b,e,_,_,_⟩
 ·obtain ⟨_,_,vs,_,dd⟩:=dk_rd I.hok e
  exact dd.typeIs
 ·obtain ⟨_,_,xs,_,dd⟩:=dt_rd I.hok e
  exact dd.typeIs
def tDGet (td ty:TE):TE:=fun σ H Q=>td σ H fun x H1=>ty σ H1 fun y H2=>ExQ Q (fun a Q=>ExQ Q (fun v Q=>x=.ref a∧DGet H2 a y (some v)∧Q v H2))
def tDNotIn (ty td:TE):TE:=fun σ H Q=>ty σ H fun y H1=>td σ H1 fun x H2=>ExQ Q (fun a Q=>ExQ Q (fun o Q=>x=.ref a∧DGet H2 a y o∧Q (.bl (!o.isSome)) H2))
def sDPut (td ty tv:TE):TS:=fun D σ H=>tv σ H fun v H1=>td σ H1 fun x H2=>ty σ H2 fun y H3=>ExQ D (fun a D=>ExQ D (fun H4 D=>x=.ref a∧DPut H3 a y v H4∧D.nx σ H4))
section
variable {X:Cx} {o i e value:Expr} {pos pos' tpos:Pos} {td ty tv:TE}
theorem pe_dget (hu:X.A.units + 1 < cLine) (ho:PE X o td) (hi:PE X i ty) (hs:NoSl i):PE X (.Subscript o i pos) (tDGet td ty):=by
 intro pins s σ H Q I h
 refine subD_of PySem.F.slot_dict_getitem.lookup hs (thn (ho pins s σ H _ I h) fun u s1 hpat=>?_)
 obtain ⟨x,H1,I1,rx,q1⟩:=hpat
 refine thn (hi pins s1 σ H1 _ I1 q1) fun iv s2 hpat=>?_
 obtain ⟨y,H2,I2,ry,a,v,ex,g,q2⟩:=hpat
 subst ex
 obtain rfl:u=Value.ref a:=rx
 exact ⟨dict_typeIs I2 g,d_getItem hu I2 g ry fun w' s3 I3 rw'=>⟨v,H2,I3,rw',q2⟩⟩
theorem pc_dnotin (hu:X.A.units + 1 < cLine) (hi:PE X i ty) (ho:PE X o td):PC X .NotIn i o (tDNotIn ty td):=by
 intro pins s σ H Q I h
 refine thn (hi pins s σ H _ I h) fun iv s1 hpat=>?_
 obtain ⟨y,H1,I1,ry,q1⟩:=hpat
 refine thn (ho pins s1 σ H1 _ I1 q1) fun u s2 hpat=>?_
 obtain ⟨x,H2,I2,rx,a,ov,ex,g,q2⟩:=hpat
 subst ex
 obtain rfl:u=Value.ref a:=rx
 exact d_notIn hu I2 g ry fun s3 I3=>⟨.bl (!ov.isSome),H2,I3,rfl,q2⟩
theorem ps_dput (hu:X.A.units + 1 < cLine) (ho:PE X o td) (hi:PE X i ty) (hv:PE X value tv) (hs:swapsWith value (some (.Subscript o i pos')) pos.line X.env=pure false) :
  PS X (.Assign [.Subscript o i pos'] value pos) (sDPut td ty tv):=by
 intro pins s σ H D I h
 refine wpAny_Assign_Subscript (thn (hv pins s σ H _ I h) fun r s1 hpat=>?_) hs
 obtain ⟨v,H1,I1,rv,q1⟩:=hpat
 refine thn (ho pins s1 σ H1 _ I1 q1) fun u s2 hpat=>?_
 obtain ⟨x,H2,I2,rx,q2⟩:=hpat
 refine thn (hi pins s2 σ H2 _ I2 q2) fun iv s3 hpat=>?_
 obtain ⟨y,H3,I3,ry,a,H4,ex,g,q3⟩:=hpat
 subst ex
 obtain rfl:u=Value.ref a:=rx
 exact d_setItem hu I3 g ry rv fun s4 I4=>⟨σ,H4,I4,q3⟩
end
theorem dk_empty {P:Program} {w:World} {H:Hp} (h:Heap) (hb:sysModules < h.objs.size):ObjOk P w H (h.push { cls:=.type "dict",data:=.dict #[] }) h.objs.size (.dK []):=
 ⟨Nat.zero_le _,beq_eq_false_iff_ne.mpr (Ne.symm (Nat.ne_of_lt hb)),[],.nil,Heap.DictOf.new h⟩
def tDNewK:TE:=fun _ H Q=>∀ p,H p=none→Q (.ref p) (upd H p (.dK []))
section
variable {X:Cx} {pos:Pos}
theorem pe_dnewK:PE X (.Dict [] [] pos) tDNewK:=fun pins s σ H Q I h=>
 wpAny_Dict_empty ⟨.ref s.heap.objs.size,_,I.laid (a:=s.heap.objs.size) (o:=.dK []) (t':=s.toks) (fun _ _ q=>Heap.get?_push_of_some _ q) (Nat.le_refl _) (dk_empty s.heap I.big),rfl,h _ (I.hok.fresh (Nat.le_refl _))⟩
end
def tPairs:List (TE × TE)→St→Hp→(List (V × V)→Hp→Prop)→Prop
 | [],_,H,Q=>Q [] H
 | (tk,tv)::r,σ,H,Q=>tk σ H fun x H1=>tv σ H1 fun y H2=>tPairs r σ H2 fun ps H3=>Q ((x,y)::ps) H3
abbrev VV:List (V × V)→List (Value × Value)→Prop:=Paired fun p q=>RelV p.1 q.1∧RelV p.2 q.2
def PPs (X:Cx) (pos:Pos) (keys:List (Option Expr)) (values:List Expr) (trs:List (TE × TE)):Prop:=
 ∀ (pins:List (Addr × Obj)) (s:Shared) (σ:St) (H:Hp) (Q:List (V × V)→Hp→Prop),Inv X pins σ H s→tPairs trs σ H Q→
  wpAny (model X.prog X.w) X.A (evalPairs (pairTrees keys values X.env pos)) (fun vs s'=>∃ ps H',Inv X pins σ H' s'∧VV ps vs∧Q ps H') X.xe s
theorem pps_nil {X:Cx} {pos:Pos}:PPs X pos [] [] []:=fun pins s σ H Q I h=>pairTrees_nil_walk ⟨[],H,I,.nil,h⟩
theorem pps_cons {X:Cx} {pos:Pos} {k v:Expr} {ks:List (Option Expr)} {vs:List Expr} {tk tv:TE} {trs:List (TE × TE)} (hk:PE X k tk) (hv:PE X v tv) (hr:PPs X pos ks vs trs) :
  PPs X pos (some k::ks) (v::vs) ((tk,tv)::trs):=fun pins s σ H Q I h=>
 pairTrees_cons_walk (thn (hk pins s σ H _ I h) fun u s1 ⟨x,H1,I1,rx,q1⟩=>thn (hv pins s1 σ H1 _ I1 q1) fun w2 s2 ⟨y,H2,I2,ry,q2⟩=>
  thn (hr pins s2 σ H2 _ I2 q2) fun ws s3 hp2=>by obtain ⟨ps,H3,I3,rel,q3⟩:=hp2; exact ⟨(x,y)::ps,H3,I3,.cons ⟨rx,ry⟩ rel,q3⟩)
def mergeK (kvs more:List (Key × V)):List (Key × V):=more.foldl (fun acc kv=>putK acc kv.1 kv.2) kvs
theorem KV.merge:∀ {more:List (Key × V)} {rs:List (Key × Value)} {kvs:List (Key × V)} {vs:List (Key × Value)},KV more rs→KV kvs vs→KV (mergeK kvs more) (merged vs rs):=by
 intro more rs kvs vs r
 unfold KV at r
 induction r generalizing kvs vs with
 | nil=>intro q; exact q
 | @cons p q ps qs h t ih=>
  intro r0
  have e:KV (putK kvs p.1 p.2) (stored vs q.1 q.2):=by
   have:=r0.put p.1 h.2
   rw [← h.1]; exact this
  exact ih e
theorem length_mergeK:∀ (more kvs:List (Key × V)),(mergeK kvs more).length≤kvs.length + more.length
 | [],kvs=>by show kvs.length≤kvs.length + 0; omega
 | p::r,kvs=>by
  have h1:=length_mergeK r (putK kvs p.1 p.2)
  have h2:=length_putK kvs p.1 p.2
  show (mergeK (putK kvs p.1 p.2) r).length≤_
  rw [List.length_cons]; omega
theorem carries_of {P:Program} {w:World}:∀ {kvs:List (Key × V)} {ws:List (Value × Value)},VV (kvs.map fun kv=>(kV kv.1,kv.2)) ws→∃ rs,Carries (mixKind P w) ws rs∧KV kvs rs
 | [],_,r=>by rw [List.map_nil] at r; cases r; exact ⟨[],True.intro,.nil⟩
 | p::kvs,_,r=>by
  rw [List.map_cons] at r
  cases r with
  | @cons a b as bs h t=>
   obtain ⟨rs,c,q⟩:=carries_of (P:=P) (w:=w) t
   obtain ⟨b1,b2⟩:=b
   exact ⟨(p.1,b2)::rs,⟨kV_is h.1,rfl,c⟩,.cons ⟨rfl,h.2⟩ q⟩
def tDisp (trs:List (TE × TE)):TE:=fun σ H Q=>∀ p,H p=none→tPairs trs σ (upd H p (.dK [])) fun ps H2=>H2 p=some (.dK [])∧∃ kvs:List (Key × V),ps=kvs.map (fun kv=>(kV kv.1,kv.2))∧kvs.length≤15∧Q (.ref p) (upd H2 p (.dK (mergeK [] kvs)))
theorem pe_disp {X:Cx} {pos:Pos} {keys:List (Option Expr)} {values:List Expr} {trs:List (TE × TE)} (h:PPs X pos keys values trs) (hall:keys.all (·.isSome)=true) (hl:keys.length=values.length) (h0:keys≠[])
  (h15:keys.length≤15):PE X (.Dict keys values pos) (tDisp trs):=by
 intro pins s σ H Q I q
 have hn:=I.hok.fresh (Nat.le_refl s.heap.objs.size)
 have I1:=I.laid (a:=s.heap.objs.size) (o:=.dK []) (h':=s.heap.push { cls:=.type "dict",data:=.dict #[] }) (t':=s.toks) (fun _ _ q=>Heap.get?_push_of_some _ q) (Nat.le_refl _) (dk_empty s.heap I.big)
 refine wpAny_Dict_walk (knd:=mixKind X.prog X.w) hall hl h0 h15 (thn (h pins _ σ _ _ I1 (q _ hn)) fun ws s2 hpat=>?_)
 obtain ⟨ps,H2,I2,rel,e,kvs,ep,lk,q2⟩:=hpat
 subst ep
 obtain ⟨rs,c,rk⟩:=carries_of (P:=X.prog) (w:=X.w) rel
 obtain ⟨z,hd,vs0,r0,dd⟩:=dk_of I2.hok e
 cases r0
 refine ⟨rs,c,dd,fun h' dd' hs=>⟨.ref s.heap.objs.size,_,?_,rfl,q2⟩⟩
 have hz:(mergeK [] kvs).length≤sizeLine:=by
  have h1:=length_mergeK kvs []
  rw [List.length_nil] at h1
  rw [sizeLine_eq]; omega
 have he:∃ q,h'.get? s.heap.objs.size=some q:=let ⟨q,_,_,hq,_⟩:=dd'; ⟨q,hq⟩
 exact d_write I2 (by rw [e]; exact True.intro) hs he (dk_new hz hd (rk.merge .nil) dd')
structure M1 (X:Cx) (o:Expr) (m:Str) (apos:Pos) (e:Expr) (cpos:Pos):Prop where
 base:attributeBase o m X.env (eval o X.env)=eval o X.env
 few:((backTo cpos (starEach [e] X.env)).all (fun x=>!x.1) && (backToKw cpos (keywordEach [] X.env)).all (fun x=>x.1.isSome)
  && decide (([e]:List Expr).length + ([]:List Keyword).length + (if ([]:List Keyword).isEmpty then 0 else 1) < 30))=true
 line:(apos.endLine == cpos.line)=true
 trees:backTo cpos (starEach [e] X.env)=[(false,eval e X.env)]
structure M2 (X:Cx) (o:Expr) (m:Str) (apos:Pos) (e f:Expr) (cpos:Pos):Prop where
 base:attributeBase o m X.env (eval o X.env)=eval o X.env
 few:((backTo cpos (starEach [e,f] X.env)).all (fun x=>!x.1) && (backToKw cpos (keywordEach [] X.env)).all (fun x=>x.1.isSome)
  && decide (([e,f]:List Expr).length + ([]:List Keyword).length + (if ([]:List Keyword).isEmpty then 0 else 1) < 30))=true
 line:(apos.endLine == cpos.line)=true
 trees:backTo cpos (starEach [e,f] X.env)=[(false,eval e X.env),(false,eval f X.env)]
section
variable {X:Cx} {pins:List (Addr × Obj)} {σ:St} {H:Hp} {s:Shared} {a:Addr} {y d:V} {u r:Value} {o:Option V} {A:Around} {E:Value→Shared→Prop}
end
section
variable {X:Cx} {o e f:Expr} {apos cpos:Pos} {td ty tx:TE}
end
section
variable {X:Cx} {pins:List (Addr × Obj)} {σ:St} {H:Hp} {s:Shared} {a:Addr} {kvs:List (Key × V)} {A:Around} {E:Value→Shared→Prop}
end
section
variable {X:Cx} {pins:List (Addr × Obj)} {σ:St} {H:Hp} {s:Shared} {a:Addr} {y:V} {u:Value} {A:Around} {E:Value→Shared→Prop}
end
section
variable {κ:Type} [DecidableEq κ]
end
section
variable {X:Cx}
end
section
end
section
variable {X:Cx}
def rDUpd:V→List V→Hp→VK→Prop:=fun x vs H Q=>ExQ Q (fun d Q=>ExQ Q (fun o Q=>ExQ Q (fun kvs Q=>ExQ Q (fun more Q=>x=.ref d∧vs=[.ref o]∧d≠o∧H d=some (.dK kvs)∧H o=some (.dK more)∧kvs.length + more.length≤sizeLine∧Q .non (upd H d (.dK (mergeK kvs more)))))))
theorem mt_dupd:MtM X "dict.update" rDUpd:=by
 intro pins s σ H x vs v us Q I rx rv h
 obtain ⟨d,o,kvs,more,rfl,rfl,hne,hd,ho,hz,q⟩:=h
 cases rx
 obtain ⟨u,rfl,ru⟩:=rv.one
 cases ru
 obtain ⟨z1,b1,vs1,r1,dd1⟩:=dk_of I.hok hd
 obtain ⟨z2,b2,vs2,r2,dd2⟩:=dk_of I.hok ho
 have l1:=r1.length
 have l2:=r2.length
 refine call_meetsIn PySem.F.slot_dict_update dd1.typeIs PySem.F.entry_dict_update (PySem.F.args_dict_update_2 _ _) (meets_dict_update (mixKind X.prog X.w) d o hne b2) ⟨vs1,vs2,dd1,dd2,by omega,fun h' hm _ hs=>?_⟩
 have lm:=length_mergeK more kvs
 have he:∃ q,h'.get? d=some q:=let ⟨q,_,_,hq,_⟩:=hm; ⟨q,hq⟩
 exact ⟨.non,_,d_write (t':=s.toks) I (by rw [hd]; exact True.intro) hs he (dk_new (by omega) b1 (r2.merge r1) hm),rfl,q⟩
end
inductive T where
 | d (d:D) | lst (ts:List T) | tup (ts:List T)
mutual
def IsT (K:PySem.W.Frag) (H:Hp):T→V→Prop
 | .d d,v=>Is K H d v
 | .lst ts,v=>∃ a xs,v=.ref a∧SqL K H a xs∧IsTL K H ts xs
 | .tup ts,v=>∃ a xs,v=.ref a∧SqT K H a xs∧IsTL K H ts xs
def IsTL (K:PySem.W.Frag) (H:Hp):List T→List V→Prop
 | [],vs=>vs=[]
 | t::ts,vs=>∃ v r,vs=v::r∧IsT K H t v∧IsTL K H ts r
end
mutual
def T.dep:T→Nat
 | .d x=>x.dep
 | .lst ts=>1 + T.depL ts
 | .tup ts=>1 + T.depL ts
def T.depL:List T→Nat
 | []=>0
 | t::ts=>max t.dep (T.depL ts)
end
section
variable {K:PySem.W.Frag} {H:Hp}
theorem ist_d {d:D} {v:V} (h:Is K H d v):IsT K H (.d d) v:=by unfold IsT; exact h
theorem ist_lst {ts:List T} {a:Addr} {xs:List V} (q:SqL K H a xs) (l:IsTL K H ts xs):IsT K H (.lst ts) (.ref a):=by unfold IsT; exact ⟨a,xs,rfl,q,l⟩
theorem ist_tup {ts:List T} {a:Addr} {xs:List V} (q:SqT K H a xs) (l:IsTL K H ts xs):IsT K H (.tup ts) (.ref a):=by unfold IsT; exact ⟨a,xs,rfl,q,l⟩
theorem istl_nil:IsTL K H [] []:=by unfold IsTL; rfl
theorem istl_cons {t:T} {ts:List T} {v:V} {vs:List V} (h:IsT K H t v) (l:IsTL K H ts vs):IsTL K H (t::ts) (v::vs):=by unfold IsTL; exact ⟨v,vs,rfl,h,l⟩
theorem IsTL.length:∀ {ts:List T} {vs:List V},IsTL K H ts vs→ts.length=vs.length
 | [],vs,h=>by unfold IsTL at h; rw [h]; rfl
 | t::ts,vs,h=>by
  unfold IsTL at h
  obtain ⟨v,r,rfl,_,l⟩:=h
  rw [List.length_cons,List.length_cons,IsTL.length l]
theorem istl_ds:∀ {ds:List D} {vs:List V},IsL K H ds vs→IsTL K H (ds.map T.d) vs
 | [],vs,h=>by rw [h.nil_inv]; exact istl_nil
 | d::ds,vs,h=>by
  obtain ⟨v,r,rfl,a,b⟩:=h.cons_inv
  exact istl_cons (ist_d a) (istl_ds b)
end
section
variable {X:Cx} {pins:List (Addr × Obj)} {σ:St} {H:Hp} {s:Shared}
def SameAt (A:Around) (s:Shared) (us us':List Value):Prop:=∀ (j:Nat) u u',us[j]?=some u→us'[j]?=some u'→SeqAt.EqAt A s u u' true
theorem all_true (n:Nat):(List.range n).all (fun _=>true)=true:=by simp
theorem sat_get {A:Around} {us us':List Value} (h:SameAt A s us us'):∀ j (h1:j < us.toArray.size) (h2:j < us'.toArray.size),SeqAt.EqAt A s us.toArray[j] us'.toArray[j] ((fun _=>true) j):=fun j h1 h2=>
 h j _ _ (by rw [List.size_toArray] at h1; simp [h1]) (by rw [List.size_toArray] at h2; simp [h2])
mutual
theorem eqAt_T (I:Inv X pins σ H s):∀ (t:T) {A:Around} {v v':V} {u u':Value},IsT X.K H t v→IsT X.K H t v'→RelV v u→RelV v' u'→A.units + t.dep < cLine→SeqAt.EqAt A s u u' true
 | .d d,A,v,v',u,u',h,k,r,r',hu=>by
  unfold IsT at h k
  have e:T.dep (.d d)=d.dep:=by unfold T.dep; rfl
  have:=eqAt_D I d d h k r r' (by rw [← e]; exact hu)
  rw [D.beq_self] at this
  exact this
 | .lst ts,A,v,v',u,u',h,k,r,r',hu=>by
  unfold IsT at h k
  obtain ⟨a,xs,rfl,q,l⟩:=h
  obtain ⟨b,ys,rfl,q',l'⟩:=k
  cases r; cases r'
  have e:T.dep (.lst ts)=1 + T.depL ts:=by conv=>lhs; unfold T.dep
  by_cases hab:a=b
  ·subst hab; exact SeqAt.EqAt.same _
  ·obtain ⟨its,rv,p,z⟩:=I.list q
   obtain ⟨its',rv',p',z'⟩:=I.list q'
   have R:=SeqAt.RcAt.lists (A:=A) (s:=s) (e:=fun _=>true) p.isList p'.isList (by rw [List.size_toArray,List.size_toArray,← rv.length,← rv'.length,← l.length,← l'.length]) (by omega) (sat_get (eqAt_TL I ts l l' rv rv' (by rw [in1_units]; omega)))
   rw [all_true] at R
   exact SeqAt.EqAt.of_refs hab R
 | .tup ts,A,v,v',u,u',h,k,r,r',hu=>by
  unfold IsT at h k
  obtain ⟨a,xs,rfl,q,l⟩:=h
  obtain ⟨b,ys,rfl,q',l'⟩:=k
  cases r; cases r'
  have e:T.dep (.tup ts)=1 + T.depL ts:=by conv=>lhs; unfold T.dep
  by_cases hab:a=b
  ·subst hab; exact SeqAt.EqAt.same _
  ·obtain ⟨its,rv,p,z⟩:=I.tuple q
   obtain ⟨its',rv',p',z'⟩:=I.tuple q'
   have R:=SeqAt.RcAt.tuples (A:=A) (s:=s) (e:=fun _=>true) p p' (by omega) (sat_get (eqAt_TL I ts l l' rv rv' (by rw [in1_units]; omega)))
   have es:its.toArray.size=its'.toArray.size:=by rw [List.size_toArray,List.size_toArray,← rv.length,← rv'.length,← l.length,← l'.length]
   rw [all_true,es,beq_self_eq_true] at R
   exact SeqAt.EqAt.of_refs hab R
theorem eqAt_TL (I:Inv X pins σ H s):∀ (ts:List T) {A:Around} {xs ys:List V} {us us':List Value},IsTL X.K H ts xs→IsTL X.K H ts ys→Vals xs us→Vals ys us'→A.units + T.depL ts < cLine→SameAt A s us us'
 | [],A,xs,ys,us,us',l,l',rv,rv',hu=>by
  unfold IsTL at l l'
  subst l
  cases rv
  intro j u u' h; simp at h
 | t::ts,A,xs,ys,us,us',l,l',rv,rv',hu=>by
  unfold IsTL at l l'
  obtain ⟨x,r,rfl,i,l⟩:=l
  obtain ⟨y,r',rfl,i',l'⟩:=l'
  cases rv with | cons q1 rv=>cases rv' with | cons q2 rv'=>
  have e:T.depL (t::ts)=max t.dep (T.depL ts):=by conv=>lhs; unfold T.depL
  intro j u u' h h'
  match j,h,h' with
  | 0,h,h'=>cases h; cases h'; exact eqAt_T I t i i' q1 q2 (by omega)
  | j + 1,h,h'=>exact eqAt_TL I ts l l' rv rv' (by omega) j u u' (by simpa using h) (by simpa using h')
end
end
def rEqT (K:PySem.W.Frag) (n:Nat) (neg:Bool):R2:=fun x y H Q=>ExQ Q (fun ts Q=>((IsT K H (.lst ts) x∧IsT K H (.lst ts) y)∨(IsT K H (.tup ts) x∧IsT K H (.tup ts) y))∧T.depL ts < n∧Q (.bl (!neg)) H)
section
variable {X:Cx} {pins:List (Addr × Obj)} {σ:St} {H:Hp} {s:Shared}
theorem rc_T (I:Inv X pins σ H s) {A:Around} {ts:List T} {x y:V} {u u':Value} (h:(IsT X.K H (.lst ts) x∧IsT X.K H (.lst ts) y)∨(IsT X.K H (.tup ts) x∧IsT X.K H (.tup ts) y)) (r:RelV x u) (r':RelV y u') (hu:A.units + 1 + T.depL ts < cLine) :
  SeqAt.RcAt A s u u' true∧SeqAt.RcNeAt A s u u' false:=by
 rcases h with ⟨h,k⟩ | ⟨h,k⟩
 ·unfold IsT at h k
  obtain ⟨a,xs,rfl,q,l⟩:=h
  obtain ⟨b,ys,rfl,q',l'⟩:=k
  cases r; cases r'
  obtain ⟨its,rv,p,z⟩:=I.list q
  obtain ⟨its',rv',p',z'⟩:=I.list q'
  have es:its.toArray.size=its'.toArray.size:=by rw [List.size_toArray,List.size_toArray,← rv.length,← rv'.length,← l.length,← l'.length]
  have sa:=sat_get (eqAt_TL (A:=A.in1) I ts l l' rv rv' (by rw [in1_units]; omega))
  have R:=SeqAt.RcAt.lists (A:=A) (e:=fun _=>true) p.isList p'.isList es (by omega) sa
  have R2:=SeqAt.RcNeAt.lists (A:=A) (e:=fun _=>true) p.isList p'.isList es (by omega) sa
  rw [all_true] at R R2
  exact ⟨R,R2⟩
 ·unfold IsT at h k
  obtain ⟨a,xs,rfl,q,l⟩:=h
  obtain ⟨b,ys,rfl,q',l'⟩:=k
  cases r; cases r'
  obtain ⟨its,rv,p,z⟩:=I.tuple q
  obtain ⟨its',rv',p',z'⟩:=I.tuple q'
  have es:its.toArray.size=its'.toArray.size:=by rw [List.size_toArray,List.size_toArray,← rv.length,← rv'.length,← l.length,← l'.length]
  have sa:=sat_get (eqAt_TL (A:=A.in1) I ts l l' rv rv' (by rw [in1_units]; omega))
  have R:=SeqAt.RcAt.tuples (A:=A) (e:=fun _=>true) p p' (by omega) sa
  have R2:=SeqAt.RcNeAt.tuples (A:=A) (e:=fun _=>true) p p' (by omega) sa
  rw [all_true,es,beq_self_eq_true] at R R2
  exact ⟨R,R2⟩
end
section
variable {X:Cx}
theorem op_eqT {n:Nat} (hu:X.A.units + 1 + n < cLine):OpR X (compareOp .Eq) (rEqT X.K n false):=by
 intro pins s σ H x y v u Q I rx ry h
 obtain ⟨ts,h1,hd,q⟩:=h
 exact (rc_T I h1 rx ry (by omega)).1 X.prog X.w X.xe _ ⟨.bl _,H,I,rfl,q⟩
theorem op_neT {n:Nat} (hu:X.A.units + 1 + n < cLine):OpR X (compareOp .NotEq) (rEqT X.K n true):=by
 intro pins s σ H x y v u Q I rx ry h
 obtain ⟨ts,h1,hd,q⟩:=h
 exact (rc_T I h1 rx ry (by omega)).2 X.prog X.w X.xe _ ⟨.bl _,H,I,rfl,q⟩
end
def ClM (P:Program) (w:World) (K:PySem.W.Frag) (mg:Str→Option Value) (base:Heap) (C:Addr) (m:Str) (k:Nat) (ps:List Str) (sp:Sp):Prop:=
 ∃ (f:Addr) (fd:FuncData),Cls K C∧Meth K C m f∧FnOk P w K mg base CX0 k f fd ps sp∧Binds K fd ps []
theorem ClM.mono {P:Program} {w:World} {K:PySem.W.Frag} {mg:Str→Option Value} {base:Heap} {C:Addr} {m:Str} {j k:Nat} {ps:List Str} {sp:Sp} (c:ClM P w K mg base C m j ps sp) (h:j≤k):ClM P w K mg base C m k ps sp:=
 let ⟨f,fd,a,b,F,d⟩:=c; ⟨f,fd,a,b,F.mono h,d⟩
section
variable {X:Cx} {x m:Str} {k:Nat} {ps:List Str} {sp:Sp} {p pos apos:Pos} {o e:Expr} {es:List Expr} {ta:TE} {t:TA} {C:Addr}
end
section
variable {X:Cx} {K:PySem.W.Frag}
end
section
variable {X:Cx} {o e value:Expr} {f:Str} {pos pos' tpos:Pos} {ta tv:TE} {C:Addr}
end
section
variable {X:Cx}
end
section
variable {X:Cx} {pins:List (Addr × Obj)} {σ:List (Option V)} {H:Hp} {s:Shared}
end
section
variable {X:Cx}
end
section
variable {X:Cx}
end
section
variable {X:Cx}
end
section
variable {prog:Program} {w:World} {A:Around} {E:Value→Shared→Prop} {s:Shared}
end
section
variable {X:Cx} {pos:Pos}
end
section
variable {X:Cx}
end
section
variable {X:Cx}
theorem strs_of:∀ {ts:List Str} {us:List Value},Vals (ts.map V.str) us→∃ l:List (Str × Tok),us=strValues l∧l.map (·.1)=ts
 | [],us,h=>⟨[],by cases h; rfl,rfl⟩
 | x::ts,us,h=>by
  obtain ⟨u,r,rfl,a,t⟩:=h.consI
  obtain ⟨tk,rfl⟩:=a
  obtain ⟨l,rfl,e⟩:=strs_of t
  exact ⟨(x,tk)::l,rfl,by rw [List.map_cons,e]⟩
theorem vals_strs:∀ (l:List (Str × Tok)),Vals ((l.map (·.1)).map V.str) (strValues l)
 | []=>.nil
 | (x,t)::l=>.cons ⟨t,rfl⟩ (vals_strs l)
def rJoin (K:PySem.W.Frag):V→List V→Hp→VK→Prop:=fun x vs H Q=>∃ (z:Str) (a:Addr) (ts:List Str),x=.str z∧vs=[.ref a]∧SqL K H a (ts.map V.str)∧JoinOk z ts=true∧Q (.str (Txt.join z ts)) H
theorem mt_join:MtM X "str.join" (rJoin X.K):=by
 intro pins s σ H x vs v us Q I rx rv h
 obtain ⟨z,a,ts,rfl,rfl,hs,ok,q⟩:=h
 obtain ⟨t,rfl⟩:=rx
 obtain ⟨u,rfl,ru⟩:=rv.one
 cases (show u=Value.ref a from ru)
 obtain ⟨its,r,pl,hz⟩:=I.list hs
 obtain ⟨l,rfl,e⟩:=strs_of r
 exact PySem.SC.join pl.isList e ok fun t' k=>⟨.str _,H,I.tok k,⟨_,rfl⟩,q⟩
def rStarts:V→List V→Hp→VK→Prop:=fun x vs H Q=>∃ (z y:Str),x=.str z∧vs=[.str y]∧Q (.bl (decide (0 + y.length≤z.length) && Builtin.Str.subAt z y 0)) H
theorem mt_starts:MtM X "str.startswith" rStarts:=by
 intro pins s σ H x vs v us Q I rx rv h
 obtain ⟨z,y,rfl,rfl,q⟩:=h
 obtain ⟨t,rfl⟩:=rx
 obtain ⟨u,rfl,ru⟩:=rv.one
 obtain ⟨t2,rfl⟩:=ru
 exact call_meets F.slot_str_startswith (typeIs_str _ _ _) F.entry_str_startswith (F.args_str_startswith_2 _ _) (gives_str_startswith z y t t2).meets ⟨.bl _,H,I,rfl,q⟩
theorem call_int_txt:CallR X (.type "int") (fun xs H Q=>∃ (x:Str) (n:Int),xs=[.str x]∧PySem.intText? x=some n∧x.length≤640∧Q (.int n) H):=by
 intro pins s σ H xs us Q I r h
 obtain ⟨x,n,rfl,hx,hl,q⟩:=h
 obtain ⟨u,rfl,ru⟩:=r.one
 obtain ⟨t,rfl⟩:=ru
 exact PySem.W.KIN.call_text hx hl ⟨.int n,H,I.tok _,⟨_,rfl⟩,q⟩
def rSplit:V→List V→Hp→VK→Prop:=fun x vs H Q=>∃ (z y:Str),x=.str z∧vs=[.str y]∧(y.length == 0)=false∧z.length≤sizeLine∧(Builtin.Str.partsBetween z (Builtin.Str.occurrences z y 0 z.length (z.length + 1)) y.length).length≤sizeLine∧∀ p,H p=none→Q (.ref p) (upd H p (.lst ((Txt.split z y).map V.str)))
theorem mt_split:MtM X "str.split" rSplit:=by
 intro pins s σ H x vs v us Q I rx rv h
 obtain ⟨z,y,rfl,rfl,hy,hsz,hsz2,q⟩:=h
 obtain ⟨t,rfl⟩:=rx
 obtain ⟨u,rfl,ru⟩:=rv.one
 obtain ⟨t2,rfl⟩:=ru
 have fin:∀ (l:List (Str × Tok)) (k:Nat),l.map (·.1)=Txt.split z y→(Txt.split z y).length≤sizeLine→EP X pins σ Q (.ref s.heap.objs.size) { s with toks:=k,heap:=s.heap.push { cls:=.type "list",data:=.seq (strValues l).toArray } }:=fun l k e hl=>by
  refine ⟨.ref s.heap.objs.size,upd H s.heap.objs.size (.lst ((Txt.split z y).map V.str)),I.laid (t':=k) (fun b o e=>Heap.get?_push_of_some _ e) (Nat.le_refl _) ?_,rfl,q _ (I.hok.fresh (Nat.le_refl _))⟩
  exact ⟨by rw [List.length_map]; exact hl,strValues l,0,by rw [← e]; exact vals_strs l,Heap.get?_push_size _ rfl⟩
 have one:(1:Nat)≤sizeLine:=by decide
 cases h1:(decide (z.length < y.length) || decide (Builtin.Str.strKind z < Builtin.Str.strKind y))
 ·cases hf:(Builtin.Str.occurrences z y 0 z.length (z.length + 1)).isEmpty
  ·have e:Txt.split z y=Builtin.Str.partsBetween z (Builtin.Str.occurrences z y 0 z.length (z.length + 1)) y.length:=(if_neg (ne_true_of_eq_false h1)).trans (if_neg (ne_true_of_eq_false hf))
   refine call_meets F.slot_str_split (typeIs_str _ _ _) F.entry_str_split (F.args_str_split_2 _ _) (meets_str_split_sep z y t t2 h1 hy hf hsz hsz2) ?_
   show wants _ _ _ { s with toks:=_,heap:=s.heap.push { cls:=.type "list",data:=.seq (strsFrom s.toks (Builtin.Str.partsBetween z (Builtin.Str.occurrences z y 0 z.length (z.length + 1)) y.length)).toArray } }
   rw [strsFrom_eq]
   exact fin _ _ ((numbered_texts _ _).trans e.symm) (by rw [e]; exact hsz2)
  ·have e:Txt.split z y=[z]:=(if_neg (ne_true_of_eq_false h1)).trans (if_pos hf)
   exact call_meets F.slot_str_split (typeIs_str _ _ _) F.entry_str_split (F.args_str_split_2 _ _) (meets_str_split_not_found z y t t2 h1 hy hf) (fin [(z,t)] s.toks e.symm (by rw [e]; exact one))
 ·have e:Txt.split z y=[z]:=if_pos h1
  exact call_meets F.slot_str_split (typeIs_str _ _ _) F.entry_str_split (F.args_str_split_2 _ _) (meets_str_split_cannot_occur z y t t2 h1) (fin [(z,t)] s.toks e.symm (by rw [e]; exact one))
end
def Its (x:Str):It:=⟨fun i _=>i < x.cps.size,fun i H v H'=>H'=H∧∃ c,x.cps[i]?=some c∧v=.str ⟨#[c]⟩,fun i _=>x.cps.size≤i⟩
theorem turn_str {P:Program} {w:World} {K:PySem.W.Frag} {tg:Expr} (x:Str) (t:Tok) (it:Addr):Turn P w K tg (Its x) [it] it (fun i h=>h.IsStrIter it "str_ascii_iterator" x t i) where
 mem:=by simp
 obj:=fun i h st b hb=>by
  have e:b=it:=by simpa using hb
  subst e
  obtain ⟨o,e,c,d⟩:=st
  exact ⟨o,e,fun v z=>by rw [d] at z; cases z⟩
 keep:=fun i h h' st k=>by
  obtain ⟨o,e,r⟩:=st
  exact ⟨o,k it (by simp) o e,r⟩
 item:=by
  intro X hP hw hK hc i pins s σ H E I hf st hg
  subst hP hw hK
  obtain ⟨f0,f1,f2,f3,f4,f5⟩:=hf it (by simp)
  have hx:x.cps[i]?=some (x.cps[i]'hg):=Array.getElem?_eq_getElem hg
  refine wpAny_pyNext_ascii_item st hx fun h' st' sb=>?_
  have I1:Inv X pins σ H { s with heap:=h',toks:=s.toks + 1 }:=I.turned (t':=s.toks + 1) (fun b o hb e=>(sb.2 b hb).trans e) f0 f1 f3 f4 f5
  obtain ⟨o,e,c,d⟩:=id st'
  exact ⟨_,rfl,go_of (s:={ s with heap:=h',toks:=s.toks + 1 }) e c d (by decide) ⟨.str ⟨#[x.cps[i]'hg]⟩,H,I1,⟨_,rfl⟩,⟨rfl,_,hx,rfl⟩,st',fun b hb=>(hf b hb).1⟩⟩
 done:=by
  intro X hP hw hK hc i pins s σ H E I hf st hg
  subst hP hw hK
  obtain ⟨f0,f1,f2,f3,f4,f5⟩:=hf it (by simp)
  exact wpAny_pyNext_ascii_end (I.ok.hd hc) st (Array.getElem?_eq_none hg) fun h' eb=>⟨rfl,I.turned (t':=s.toks) (fun b o hb e=>eb b o hb e) f0 f1 f3 f4 f5⟩
 self:=fun _ _ _ _ _ st h=>wpAny_pyIter_striter_ascii st h
section
variable {X:Cx} {tg:Expr}
def iStr (tl:TE):TI:=fun σ H R=>tl σ H fun x H1=>ExQ R (fun z R=>x=.str z∧z.cps.all (· < 128)=true∧R (Its z) H1)
theorem pi_str {l:Expr} {tl:TE} (hl:PE X l tl):PI X tg l (iStr tl):=by
 intro pins s σ H R I h
 refine thn (hl pins s σ H _ I h) fun v s1 hpat=>?_
 obtain ⟨x,H1,I1,r1,q1⟩:=hpat
 obtain ⟨z,e,ha,q⟩:=q1
 subst e
 obtain ⟨t,rfl⟩:=r1
 refine wpAny_pyIter_ascii ha ?_
 refine ⟨s1.heap.objs.size,[s1.heap.objs.size],_,_,H1,rfl,I1.kept (t':=s1.toks) fun b o e=>Heap.get?_push_of_some _ e,turn_str z t _,⟨_,Heap.get?_push_size _ rfl,rfl,rfl⟩,fun b hb=>?_,q⟩
 have e:b=s1.heap.objs.size:=by simpa using hb
 subst e
 exact I1.fpOk (Nat.le_refl _) (I1.hok.fresh (Nat.le_refl _))
end
theorem comp_str {x:Str} {vn:Nat} {g:TG} {tc:TT} {te:TE} {σ:St} {p:Addr} {H1:Hp} {Q:Hp→Prop} (Pv:Nat→Hp→Prop) (h0:Pv 0 (upd H1 p (.lst [])))
  (hs:∀ i c H,x.cps[i]?=some c→Pv i H→g (.str ⟨#[c]⟩) (List.replicate vn none++σ) H fun σ2 H2=>(∃ τ:St,σ2=τ++σ∧τ.length=vn)∧tc σ2 H2 fun b H3=>
   if b=true then te σ2 H3 fun v H4=>∃ acc,H4 p=some (.lst acc)∧acc.length < sizeLine∧Pv (i + 1) (upd H4 p (.lst (acc++[v]))) else Pv (i + 1) H3) (hd:∀ H,Pv x.cps.size H→Q H):tCompW (Its x) vn g tc te σ p H1 Q:=by
 refine ⟨fun i m H=>i≤x.cps.size∧m=x.cps.size - i∧Pv i H,⟨x.cps.size,Nat.zero_le _,rfl,h0⟩,fun i m H hw=>?_⟩
 obtain ⟨hi,rfl,hp⟩:=hw
 by_cases hl:i < x.cps.size
 ·refine .inr ⟨hl,Pv (i + 1),fun H' h'=>⟨x.cps.size - (i + 1),by omega,by omega,rfl,h'⟩,fun v H' hy=>?_⟩
  obtain ⟨e1,c,hc,e2⟩:=hy
  subst e1 e2
  exact hs i c _ hc hp
 ·refine .inl ⟨by show x.cps.size≤i; omega,hd _ ?_⟩
  have e:i=x.cps.size:=by omega
  rw [← e]; exact hp
section
variable {X:Cx} {o e:Expr} {apos cpos:Pos} {td ty:TE}
end
def ItrS (lo c:Int) (n:Nat):It:=⟨fun i _=>i < n,fun i H x H'=>H'=H∧x=.int (lo + i * c),fun i _=>n≤i⟩
theorem turn_rangeS {P:Program} {w:World} {K:PySem.W.Frag} {tg:Expr} (it:Addr) (lo c:Int) (n:Nat):Turn P w K tg (ItrS lo c n) [it] it (fun i h=>IsRangeIter h it (lo + (i:Nat) * c) ((n:Int) - (i:Nat)) c) where
 mem:=by simp
 obj:=fun i h st b hb=>by
  have e:b=it:=by simpa using hb
  subst e
  exact ⟨_,st,fun v z=>by
   have z':Data.fields _=Data.cell v:=z
   cases z'⟩
 keep:=fun i h h' st k=>k it (by simp) _ st
 item:=by
  intro X hP hw hK hc i pins s σ H E I hf st hg
  subst hP hw hK
  obtain ⟨f0,f1,f2,f3,f4,f5⟩:=hf it (by simp)
  have W:=Walks.range (prog:=X.prog) (w:=X.w) (I.ok.hd hc) it lo c n
  refine W.item i s _ _ hg st fun v h' tk hv st' kk=>?_
  obtain ⟨t,rfl⟩:=hv
  have I1:Inv X pins σ H { s with heap:=h',toks:=tk }:=I.turned (fun b o hb e=>kk b o (by simpa using hb) e) f0 f1 f3 f4 f5
  exact ⟨_,rfl,go_of (s:={ s with heap:=h',toks:=tk }) (n:="range_iterator") st' rfl rfl (by decide) ⟨.int (lo + i * c),H,I1,⟨t,rfl⟩,⟨rfl,rfl⟩,st',fun b hb=>(hf b hb).1⟩⟩
 done:=by
  intro X hP hw hK hc i pins s σ H E I hf st hg
  subst hP hw hK
  obtain ⟨f0,f1,f2,f3,f4,f5⟩:=hf it (by simp)
  exact wpAny_pyNext_range_end (I.ok.hd hc) st (by have:n≤i:=hg; omega) fun h' eb=>⟨rfl,I.turned (t':=s.toks) (fun b o hb e=>eb b o hb e) f0 f1 f3 f4 f5⟩
 self:=fun _ _ _ _ _ st h=>wpAny_pyIter_rangeiter st h
section
variable {X:Cx} {tg:Expr}
def iRng3 (ta:TA):TI:=fun σ H R=>ta σ H fun vs H1=>∃ (i j c:Int) (n:Nat),vs=[.int i,.int j,.int c]∧c≠0∧Builtin.divisionGoesByPylong (j - i) c=false∧Builtin.Range.small i j c=true∧Builtin.Range.rangeSize i j c=(n:Int)∧R (ItrS i c n) H1
theorem pi_range3 {a b d:Expr} {ta:TA} {p pos:Pos} (hg:Gl X "range") (hm:X.mg "range" = none) (ha:PA X [a,b,d] ta) (hs:starEach [a,b,d] X.env=(false,eval a X.env)::starEach [b,d] X.env:=by rfl) (hz:((backTo pos (starEach [b,d] X.env)).any fun x=>x.fst)=false:=by rfl) :
  PI X tg (.Call (.Name "range" p) [a,b,d] [] pos) (iRng3 ta):=by
 intro pins s σ H R I h
 refine Call_ (ld_blt I hg hm PyProof.Rows.boot_range (PyProof.Rows.callWith_type1 (thn (ha pos pins s σ H _ I h) fun us s1 hp=>?_) hs hz))
 obtain ⟨vs,H1,I1,r1,i,j,c,n,rfl,hc,hdv,hsm,hn,q⟩:=hp
 obtain ⟨u,r,rfl,ru,r2⟩:=r1.consI
 obtain ⟨u2,u3,rfl,ru2,ru3⟩:=r2.two
 obtain ⟨t,rfl⟩:=ru
 obtain ⟨t2,rfl⟩:=ru2
 obtain ⟨t3,rfl⟩:=ru3
 refine PySem.call_range_3 hc ?_ (.inl hdv)
 refine wpAny_pyIter_range (IsRange.new ..) hsm ?_
 have I2:Inv X pins σ H1 { s1 with heap:=s1.heap.push { cls:=.type "range",data:=.fields #[.int i t,.int j t2,.int c t3] } }:=I1.kept fun b o e=>Heap.get?_push_of_some _ e
 refine ⟨(s1.heap.push { cls:=.type "range",data:=.fields #[.int i t,.int j t2,.int c t3] }).objs.size,[(s1.heap.push { cls:=.type "range",data:=.fields #[.int i t,.int j t2,.int c t3] }).objs.size],_,_,H1,rfl,I2.kept (t':=s1.toks) fun b o e=>Heap.get?_push_of_some _ e,turn_rangeS _ i c n,?_,fun b hb=>?_,q⟩
 ·show IsRangeIter _ _ (i + ((0:Nat):Int) * c) ((n:Int) - ((0:Nat):Int)) c
  rw [show i + ((0:Nat):Int) * c=i by simp,show (n:Int) - ((0:Nat):Int)=Builtin.Range.rangeSize i j c by rw [hn]; simp]
  exact Heap.get?_push_size _ rfl
 ·have e:b=(s1.heap.push { cls:=.type "range",data:=.fields #[.int i t,.int j t2,.int c t3] }).objs.size:=by simpa using hb
  subst e
  exact I2.fpOk (Nat.le_refl _) (I2.hok.fresh (Nat.le_refl _))
end
theorem comp_rangeS {lo c:Int} {n vn:Nat} {g:TG} {tc:TT} {te:TE} {σ:St} {p:Addr} {H1:Hp} {Q:Hp→Prop} (Pv:Nat→Hp→Prop) (h0:Pv 0 (upd H1 p (.lst [])))
  (hs:∀ i H,i < n→Pv i H→g (.int (lo + i * c)) (List.replicate vn none++σ) H fun σ2 H2=>(∃ τ:St,σ2=τ++σ∧τ.length=vn)∧tc σ2 H2 fun b H3=>
   if b=true then te σ2 H3 fun v H4=>∃ acc,H4 p=some (.lst acc)∧acc.length < sizeLine∧Pv (i + 1) (upd H4 p (.lst (acc++[v]))) else Pv (i + 1) H3) (hd:∀ H,Pv n H→Q H):tCompW (ItrS lo c n) vn g tc te σ p H1 Q:=by
 refine ⟨fun i m H=>i≤n∧m=n - i∧Pv i H,⟨n,Nat.zero_le _,rfl,h0⟩,fun i m H hw=>?_⟩
 obtain ⟨hi,rfl,hp⟩:=hw
 by_cases hl:i < n
 ·refine .inr ⟨hl,Pv (i + 1),fun H' h'=>⟨n - (i + 1),by omega,by omega,rfl,h'⟩,fun x H' hy=>?_⟩
  obtain ⟨e1,e2⟩:=hy
  subst e1 e2
  exact hs i _ hl hp
 ·refine .inl ⟨by show n≤i; omega,hd _ ?_⟩
  have e:i=n:=by omega
  rw [← e]; exact hp
section
variable {prog:Program} {w:World} {A:Around} {E:Value→Shared→Prop} {s:Shared}
theorem typeK {T nid:String} {B:Builtin} {args:List Value} {kw:List (Str × Value)} {S:PySem.Spec} {Q:Value→Shared→Prop} (ft:TypeCalled T nid "object.__init__") (hne:(some nid != some "object.__new__")=true)
  (hct:checkTypeCall T ⟨args,kw⟩=pure ()) (hcn:checkBuiltinCall nid ⟨.type T::args,kw⟩=pure ()) (hok:∀ ob,argsOk "object.__init__" ⟨ob::args,kw⟩) (entry:entryFor table nid=some B) (g:Meets (B ⟨.type T::args,kw⟩) S)
  (h:S A.in1 (wants (fun ob s1=>s1.TypeIs ob T∧Q ob s1) E) s)
  (hi:∀ ob,Meets (Builtin.«object.__init__» ⟨ob::args,kw⟩) (fun _ R s=>s.TypeIs ob T∧R (.ok (.ret .none)) s)):wpAny (model prog w) A (call (.type T) args kw) Q E s:=by
 obtain ⟨c,tl,hmro⟩:=ft.mro
 have hmade:=ft.made
 have hsub:=ft.sub
 refine wpAny_call (codeAny_of_tree ?_)
 change wpAny _ _ (callAny (.type T) _) _ _ _
 refine wpAny_pure ⟨Code.quiet_builtin _ (by decide +kernel),codeAny_builtin F.entry_type_call ?_⟩
 rw [Around.under_plain (weight_type_call_type T args kw) (units_type_call_type T args kw)]
 have e1:=ft.notType
 have e2:=ft.canCreate
 repeat (any_goals (first | assumption | wp_step))
 refine codeAny_mono (codeAny_call_builtin ft.plain entry (wpAny_of_eq hcn (g prog w A.in1 _ s h))) fun r s1 hr=>?_
 cases r with
 | error e=>exact hr
 | ok fl=>
  cases fl with
  | ret ob=>
   obtain ⟨hT,hq⟩:=hr
   have l1:=ft.init.lookup
   have l2:=ft.init.bind ob
   repeat (any_goals (first | assumption | wp_step))
   refine codeAny_mono (R:=fun r s2=>r=Except.ok (Flow.ret .none)∧s2=s1) (codeAny_call_builtin ft.init.plain F.entry_object_init (ft.init.check _ _ _ _ _ _ _ _ hT (hok ob) (hi ob prog w A.in1 (fun r s2=>r=Except.ok (Flow.ret .none)∧s2=s1) s1 ⟨hT,rfl,rfl⟩))) fun r2 s2 hr2=>?_
   obtain ⟨rfl,rfl⟩:=hr2
   repeat (any_goals (first | assumption | wp_step))
  | _=>exact hr.elim
end
abbrev kwStart (v:Value):List (Str × Value):=[(Str.ofString "start",v)]
theorem tc_enum (a v:Value):checkTypeCall "enumerate" ⟨[a],kwStart v⟩=pure ():=by kernel_rfl
theorem nc_enum (a v:Value):checkBuiltinCall "enumerate.__new__" ⟨[.type "enumerate",a],kwStart v⟩=pure ():=by kernel_rfl
theorem enum_start (l:Addr) (items:Array Value) (n:Nat) (dct:Option Addr) (sl:Array (Option Value)) (t:Tok) :
  Meets (Builtin.«enumerate.__new__» ⟨[.type "enumerate",.ref l],kwStart (.int 1 t)⟩) (fun _ R s=>s.heap.get? l=some { cls:=.type "list",dict:=dct,data:=.seq items n,slots:=sl }∧
   R (.ok (.ret (.ref (s.heap.push { cls:=.type "list_iterator",data:=.fields #[.ref l,.int 0 0] }).objs.size)))
    { s with heap:=(s.heap.push { cls:=.type "list_iterator",data:=.fields #[.ref l,.int 0 0] }).push { cls:=.type "enumerate",data:=.fields #[.none,.bool false,.ref s.heap.objs.size,rawInt 1,.none,.none] } }):=
 .of_wp fun prog w A R s h=>by
  obtain ⟨hp,g,d,tk,os⟩:=s
  obtain ⟨hl,h⟩:=h
  have hs:=sub_enumerate
  have hL:Heap.IsList (Shared.heap ⟨hp,g,d,tk,os⟩) l items:=⟨_,hl,rfl,n,rfl⟩
  wp_walk using AutoSeq1.wpAny_loadPart' hl
  refine wpAny_stack_any fun st=>wpAny_pure ?_
  split
  ·rename_i c _ _ _ _ _
   cases (c == Value.type "enumerate")
   ·wp_walk using AutoSeq1.wpAny_loadPart' hl,wpAny_pyIter_list hL
    exact ⟨_,rfl,h⟩
   ·wp_walk using AutoSeq1.wpAny_loadPart' hl,wpAny_pyIter_list hL
    exact ⟨_,rfl,h⟩
  ·wp_walk using AutoSeq1.wpAny_loadPart' hl,wpAny_pyIter_list hL
   exact ⟨_,rfl,h⟩
theorem init_kw {T nid:String} {ob a:Value} {kw:List (Str × Value)} (hl:typeLookup (.type T) "__init__" = pure (some (.builtin "object.__init__"))) (hm:Bind.madeBy (.type T)=pure (some nid)) (hne:(some nid != some "object.__new__")=true) :
  Meets (Builtin.«object.__init__» ⟨[ob,a],kw⟩) (fun _ R s=>s.TypeIs ob T∧R (.ok (.ret .none)) s):=by
 refine Meets.of_wp fun prog w A R s hs=>?_
 obtain ⟨hT,hq⟩:=hs
 repeat (any_goals (first | assumption | wp_step))
 exact ⟨_,rfl,hq⟩
theorem ai_enum (ob a v:Value):argsOk "object.__init__" ⟨[ob,a],kwStart v⟩:=by unfold argsOk; kernel_rfl
section
variable {prog:Program} {w:World} {A:Around} {E:Value→Shared→Prop} {s:Shared}
theorem call_enum1 {l:Addr} {items:Array Value} {t:Tok} {Q:Value→Shared→Prop} (hL:s.heap.IsList l items)
  (h:∀ g,IsEnum g (s.heap.objs.size + 1) s.heap.objs.size 1 .none→g.IsListIter s.heap.objs.size l 0→g.objs.size=s.heap.objs.size + 2→(∀ b o,s.heap.get? b=some o→g.get? b=some o)→Q (.ref (s.heap.objs.size + 1)) { s with heap:=g }) :
  wpAny (model prog w) A (call (.type "enumerate") [.ref l] (kwStart (.int 1 t))) Q E s:=by
 obtain ⟨⟨c,dct,dt,sl⟩,hl,hc,n,hd⟩:=hL
 replace hc:c=.type "list":=hc
 replace hd:dt=.seq items n:=hd
 subst hc hd
 refine typeK F.called_enumerate (by decide) (tc_enum _ _) (nc_enum _ _) (fun ob=>ai_enum ob _ _) F.entry_enumerate_new (enum_start l items n dct sl t) ⟨hl,?_⟩ (fun ob=>init_kw F.called_enumerate.init.lookup F.called_enumerate.made (by decide))
 have hz:(s.heap.push { cls:=.type "list_iterator",data:=.fields #[.ref l,.int 0 0] }).objs.size=s.heap.objs.size + 1:=Heap.size_push ..
 change _∧_
 rw [hz]
 have he:IsEnum ((s.heap.push { cls:=.type "list_iterator",data:=.fields #[.ref l,.int 0 0] }).push { cls:=.type "enumerate",data:=.fields #[.none,.bool false,.ref s.heap.objs.size,rawInt 1,.none,.none] }) (s.heap.objs.size + 1) s.heap.objs.size 1 .none:=by
  have:=Heap.get?_push_size (s.heap.push { cls:=.type "list_iterator",data:=.fields #[.ref l,.int 0 0] }) (o:={ cls:=.type "enumerate",data:=.fields #[.none,.bool false,.ref s.heap.objs.size,rawInt 1,.none,.none] }) rfl
  rw [hz] at this
  exact this
 exact ⟨⟨_,he,rfl⟩,h _ he ⟨_,Heap.get?_push_of_some _ (Heap.get?_push_size _ rfl),rfl,rfl⟩ (by rw [Heap.size_push,hz]) fun b o x=>Heap.get?_push_of_some _ (Heap.get?_push_of_some _ x)⟩
theorem enum_item {e it l:Addr} {i:Nat} {j:Int} {items:Array Value} {x old:Value} {Q:Value→Shared→Prop} (he:IsEnum s.heap e it j old) (hit:s.heap.IsListIter it l i) (hl:s.heap.IsList l items) (hx:items[i]?=some x) (hne:e≠it)
  (hQ:∀ g,IsEnumOut g e it (j + 1) x s.heap.objs.size→g.IsListIter it l (i + 1)→g.get? s.heap.objs.size=some { cls:=.type "tuple",data:=.seq #[.int j s.toks,x] }→g.objs.size=s.heap.objs.size + 1→
   (∀ b o,b≠e→b≠it→s.heap.get? b=some o→g.get? b=some o)→Q (.ref s.heap.objs.size) { s with heap:=g,toks:=s.toks + 1 }) :
  wpAny (model prog w) A (Builtin.«enumerate.__next__» ⟨[.ref e],[]⟩) (fun fin s'=>∃ v,fin=.done (.ret v)∧Q v s') E s:=by
 obtain ⟨hp,gg,d,tk,os⟩:=s
 change wpAny _ _ (field (.ref e) 2 >>= _) _ _ _
 refine wpAny_bind (wpAny_field he rfl (x:=.ref it) rfl ?_)
 refine wpAny_bind (wpAny_nextOf_list_item hit hl hx fun g1 n1 b1=>?_)
 replace b1:Heap.SameBut it hp g1:=b1
 have e1:IsEnum g1 e it j old:=(b1.2 e hne).trans he
 change wpAny _ _ (field (.ref e) 3 >>= _) _ _ ⟨g1,gg,d,tk,os⟩
 refine wpAny_bind (wpAny_field e1 rfl (x:=rawInt j) rfl ?_)
 change wpAny _ _ (field (.ref e) 4 >>= _) _ _ ⟨g1,gg,d,tk,os⟩
 refine wpAny_bind (wpAny_field e1 rfl (x:=.none) rfl ?_)
 change wpAny _ _ (mkInt j >>= _) _ _ ⟨g1,gg,d,tk,os⟩
 refine wpAny_bind (wpAny_mkInt ?_)
 change wpAny _ _ (setField (.ref e) 3 (rawInt (j + 1)) >>= _) _ _ ⟨g1,gg,d,tk + 1,os⟩
 refine wpAny_bind (wpAny_setField_rec e1 (by simp) fun g2 e2 b2=>?_)
 replace b2:Heap.SameBut e g1 g2:=b2
 replace e2:IsEnum g2 e it (j + 1) old:=e2
 change wpAny _ _ (setField (.ref e) 4 .none >>= _) _ _ ⟨g2,gg,d,tk + 1,os⟩
 refine wpAny_bind (wpAny_setField_rec e2 (by simp) fun g3 e3 b3=>?_)
 replace b3:Heap.SameBut e g2 g3:=b3
 replace e3:IsEnum g3 e it (j + 1) old:=e3
 change wpAny _ _ (newTuple [.int j tk,x] >>= _) _ _ ⟨g3,gg,d,tk + 1,os⟩
 refine wpAny_bind (wpAny_newTuple ?_)
 have sz:g3.objs.size=hp.objs.size:=by rw [b3.1,b2.1,b1.1]
 have lt:e < hp.objs.size:=Heap.lt_size he
 obtain ⟨g4,hg4⟩:∃ g4,g3.push { cls:=.type "tuple",data:=.seq #[.int j tk,x] }=g4:=⟨_,rfl⟩
 have e4:IsEnum g4 e it (j + 1) old:=by rw [← hg4]; exact Heap.get?_push_of_some _ e3
 have t4:g4.get? hp.objs.size=some { cls:=.type "tuple",data:=.seq #[.int j tk,x] }:=by rw [← hg4,← sz]; exact Heap.get?_push_size _ rfl
 have z4:g4.objs.size=hp.objs.size + 1:=by rw [← hg4,Heap.size_push,sz]
 have k4:∀ b o,b≠e→b≠it→hp.get? b=some o→g4.get? b=some o:=fun b o c1 c2 q=>by
  rw [← hg4]; exact Heap.get?_push_of_some _ (b3.extBut b o c1 (b2.extBut b o c1 (b1.extBut b o c2 q)))
 have n4:g4.IsListIter it l (i + 1):=by
  rw [← hg4]
  obtain ⟨o,ho,r⟩:=(n1.extBut b2.extBut (Ne.symm hne)).extBut b3.extBut (Ne.symm hne)
  exact ⟨o,Heap.get?_push_of_some _ ho,r⟩
 change wpAny _ _ (Builtin.SmallTypes.ownedTupleIsFree (.ref e) >>= _) _ _ ⟨_,gg,d,tk + 1,os⟩
 rw [sz,hg4]
 clear e3 b3 e2 b2 e1 b1 n1 sz hg4
 refine wpAny_bind ?_
 unfold Builtin.SmallTypes.ownedTupleIsFree
 refine wpAny_bind (wpAny_field e4 rfl (x:=.none) rfl (wpAny_pure ?_))
 simp only [if_true]
 refine wpAny_bind (wpAny_rule ?_)
 refine wpAny_bind (wpAny_field e4 rfl (x:=old) rfl ?_)
 refine wpAny_bind (wpAny_setField_rec e4 (by simp) fun g5 e5 b5=>?_)
 replace b5:Heap.SameBut e g4 g5:=b5
 replace e5:IsEnum g5 e it (j + 1) x:=e5
 change wpAny _ _ (Builtin.SmallTypes.ownedTupleHandOut (.ref e) (.ref hp.objs.size) >>= _) _ _ ⟨g5,gg,d,tk + 1,os⟩
 refine wpAny_bind ?_
 unfold Builtin.SmallTypes.ownedTupleHandOut
 refine wpAny_bind (wpAny_setField_rec e5 (by simp) fun g6 e6 b6=>?_)
 replace b6:Heap.SameBut e g5 g6:=b6
 replace e6:IsEnumOut g6 e it (j + 1) x hp.objs.size:=e6
 refine wpAny_setField_rec e6 (by simp) fun g7 e7 b7=>?_
 replace b7:Heap.SameBut e g6 g7:=b7
 replace e7:IsEnumOut g7 e it (j + 1) x hp.objs.size:=e7
 have up:∀ b o,b≠e→g4.get? b=some o→g7.get? b=some o:=fun b o c q=>b7.extBut b o c (b6.extBut b o c (b5.extBut b o c q))
 refine wpAny_bind (wpAny_letGo (wpAny_pure ⟨_,rfl,hQ g7 e7 ?_ (up _ _ (Nat.ne_of_gt lt) t4) (by rw [b7.1,b6.1,b5.1,z4]) fun b o c1 c2 q=>up b o c1 (k4 b o c1 c2 q)⟩))
 obtain ⟨o,ho,r⟩:=n4
 exact ⟨o,up _ _ (Ne.symm hne) ho,r⟩
theorem next_enum {e it l:Addr} {i:Nat} {j:Int} {items:Array Value} {x old:Value} {Q:Option Value→Shared→Prop} (he:IsEnum s.heap e it j old) (hit:s.heap.IsListIter it l i) (hl:s.heap.IsList l items) (hx:items[i]?=some x) (hne:e≠it)
  (hQ:∀ g,IsEnumOut g e it (j + 1) x s.heap.objs.size→g.IsListIter it l (i + 1)→g.get? s.heap.objs.size=some { cls:=.type "tuple",data:=.seq #[.int j s.toks,x] }→g.objs.size=s.heap.objs.size + 1→
   (∀ b o,b≠e→b≠it→s.heap.get? b=some o→g.get? b=some o)→Q (some (.ref s.heap.objs.size)) { s with heap:=g,toks:=s.toks + 1 }):wpAny (model prog w) A (pyNext (.ref e)) Q E s:=by
 have hT:s.TypeIs (.ref e) "enumerate":=⟨_,he,rfl⟩
 unfold pyNext
 exact wpAny_bind (wpAny_attempt (wpAny_callSpecial?_slot (name:=Str.ofString "__next__") hT F.slot_enumerate_next (wpAny_call_entry F.slot_enumerate_next hT F.entry_enumerate_next (enum_item he hit hl hx hne fun g a b c d k=>wpAny_pure (hQ g a b c d k)) (F.args_enumerate_next_1 _))))
theorem next_enum_end {e it l:Addr} {i:Nat} {j:Int} {items:Array Value} {old:Value} {Q:Option Value→Shared→Prop} (hh:A.handled=none) (he:IsEnum s.heap e it j old) (hit:s.heap.IsListIter it l i) (hl:s.heap.IsList l items) (hx:items[i]?=none)
  (hQ:∀ g,Heap.ExtBut it s.heap g→Q none { s with heap:=g }):wpAny (model prog w) A (pyNext (.ref e)) Q E s:=by
 have hT:s.TypeIs (.ref e) "enumerate":=⟨_,he,rfl⟩
 unfold pyNext
 refine wpAny_bind (wpAny_attempt (wpAny_callSpecial?_slot (name:=Str.ofString "__next__") hT F.slot_enumerate_next (wpAny_call_entry F.slot_enumerate_next hT F.entry_enumerate_next ?_ (F.args_enumerate_next_1 _))))
 change wpAny _ _ (field (.ref e) 2 >>= _) _ _ _
 refine wpAny_bind (wpAny_field he rfl (x:=.ref it) rfl ?_)
 refine wpAny_bind (wpAny_nextOf_list_end hh hit hl hx fun g x b1 hx1=>?_)
 obtain ⟨o,ho,hc⟩:=hx1
 refine wpAny_bind (wpAny_isInstance (T:="StopIteration") (b:=true) ⟨o,ho,hc⟩ isSubtype_stop ?_)
 exact wpAny_pure (hQ _ b1)
end
def Ite1 (K:PySem.W.Frag) (a:Addr):It:=
 ⟨fun i H=>∃ xs x,SqL K H a xs∧xs[i]?=some x,fun i H x H'=>∃ t,H t=none∧x=.ref t∧∀ xs,SqL K H a xs→∃ v,xs[i]?=some v∧H'=upd H t (.tup [.int ((i:Int) + 1),v]),fun i H=>∃ xs,SqL K H a xs∧xs.length≤i⟩
theorem turn_enum1 {P:Program} {w:World} {K:PySem.W.Frag} {es:List Expr} {k:Nat} {pos:Pos} (a e it:Addr) (hne:e≠it) :
  Turn P w K (.Tuple es k pos) (Ite1 K a) [e,it] e (fun i h=>(∃ old,IsEnum h e it ((i:Int) + 1) old)∧h.IsListIter it a i) where
 mem:=by simp
 obj:=fun i h st b hb=>by
  obtain ⟨⟨old,st1⟩,o,e2,c,d⟩:=st
  simp only [List.mem_cons,List.not_mem_nil,or_false] at hb
  rcases hb with rfl | rfl
  ·exact ⟨_,st1,fun v z=>by cases z⟩
  ·exact ⟨o,e2,fun v z=>by rw [d] at z; cases z⟩
 keep:=fun i h h' st kp=>⟨let ⟨old,z⟩:=st.1; ⟨old,kp e (by simp) _ z⟩,st.2.at fun o q=>kp it (by simp) o q⟩
 item:=by
  intro X hP hw hK hc i pins s σ H E I hf st hg
  subst hP hw hK
  obtain ⟨xs,x,hq,hx⟩:=hg
  obtain ⟨its,rv,p,hz⟩:=I.list hq
  obtain ⟨u,hu,ru⟩:=rv.get hx
  obtain ⟨⟨old,st1⟩,st2⟩:=st
  refine next_enum st1 st2 p.isList (x:=u) (by simpa using hu) hne fun h1 o1 l1 t1 z1 k1=>?_
  refine ⟨_,rfl,wpAny_letOwnedTupleGo_enum o1 fun h2 o2 b2=>?_⟩
  have hnew:H s.heap.objs.size=none:=I.fresh
  have lte:e < s.heap.objs.size:=Heap.lt_size st1
  have k2:∀ b o,b≠e→b≠it→s.heap.get? b=some o→h2.get? b=some o:=fun b o b1 b2' q=>b2.extBut b o b1 (k1 b o b1 b2' q)
  have t2:h2.get? s.heap.objs.size=some { cls:=.type "tuple",data:=.seq #[.int ((i:Int) + 1) s.toks,u] }:=b2.extBut _ _ (Nat.ne_of_gt lte) t1
  have fe:=hf e (by simp)
  have fi:=hf it (by simp)
  have nch:∀ b o,H b=some o→b≠e∧b≠it:=fun b o q=>⟨fun z=>by (rw [z,fe.1] at q; cases q),fun z=>by (rw [z,fi.1] at q; cases q)⟩
  have I2:Inv X pins σ (upd H s.heap.objs.size (.tup [.int ((i:Int) + 1),x])) { s with heap:=h2,gens:=s.gens,drawn:=s.drawn,toks:=s.toks + 1 }:=by
   refine I.step (ch:=[e,it]) (fun b hb=>?_) (fun b o _ _ hc q _=>k2 b o (fun z=>hc (by simp [z])) (fun z=>hc (by simp [z])) q) (fun b o _ _ hc q _=>⟨o.slots,k2 b o (fun z=>hc (by simp [z])) (fun z=>hc (by simp [z])) q⟩)
    (fun b o _ q n=>by rw [upd_ne (Nat.ne_of_lt (Heap.lt_size q))]; exact n) (fun b o hc q=>⟨o,k2 b o (fun z=>hc (by simp [z])) (fun z=>hc (by simp [z])) q⟩)
    (fun b zs q=>by rw [upd_ne (ne_of_none q hnew)]; exact q) (fun b o v q=>by rw [upd_ne (ne_of_none q hnew)]; exact q) (fun b ps q=>⟨#[],by rw [upd_ne (ne_of_none q hnew),q]; simp⟩) (fun m hm=>?_) (fun b o q=>?_) I.bare
   ·simp only [List.mem_cons,List.not_mem_nil,or_false] at hb
    rcases hb with rfl | rfl
    ·exact ⟨fe.2.2.2.1,fe.2.1,fe.2.2.2.2.1,fe.2.2.2.2.2⟩
    ·exact ⟨fi.2.2.2.1,fi.2.1,fi.2.2.2.2.1,fi.2.2.2.2.2⟩
   ·obtain ⟨o,es',ep,ho,r⟩:=hm
    exact ⟨o,es',ep,k2 _ o (Ne.symm fe.2.1) (Ne.symm fi.2.1) ho,r⟩
   ·by_cases hb:b=s.heap.objs.size
    ·subst hb
     rw [upd_same] at q
     cases q
     exact ⟨by show 2≤sizeLine; decide,[.int ((i:Int) + 1) s.toks,u],.cons ⟨_,rfl⟩ (.cons ru .nil),_,t2,rfl,_,rfl⟩
    ·rw [upd_ne hb] at q
     refine (I.hok b o q).stay (fun c v hc z=>k2 c v ?_ ?_ z) (fun c z=>by rw [upd_ne (ne_of_none z hnew)]; exact z) fun c zs z=>by rw [upd_ne (ne_of_none z hnew)]; exact z
     ·rcases hc with z' | z'
      ·rw [z']; exact (nch b o q).1
      ·exact (nch c _ z').1
     ·rcases hc with z' | z'
      ·rw [z']; exact (nch b o q).2
      ·exact (nch c _ z').2
  refine ⟨.ref s.heap.objs.size,_,I2,rfl,⟨_,hnew,rfl,fun ys hy=>⟨x,by rw [I.list_inj hy hq]; exact hx,rfl⟩⟩,⟨⟨u,?_⟩,l1.extBut b2.extBut (Ne.symm hne)⟩,fun b hb=>?_⟩
  ·have:((i:Int) + 1 + 1)=(((i + 1:Nat):Int) + 1):=by omega
   rw [← this]; exact o2
  ·simp only [List.mem_cons,List.not_mem_nil,or_false] at hb
   rcases hb with rfl | rfl
   ·rw [upd_ne (Nat.ne_of_lt lte)]; exact fe.1
   ·obtain ⟨oi,ei,_⟩:=st2
    rw [upd_ne (Nat.ne_of_lt (Heap.lt_size ei))]; exact fi.1
 done:=by
  intro X hP hw hK hc i pins s σ H E I hf st hg
  subst hP hw hK
  obtain ⟨xs,hq,hx⟩:=hg
  obtain ⟨its,rv,p,hz⟩:=I.list hq
  obtain ⟨⟨old,st1⟩,st2⟩:=st
  obtain ⟨f0,f1,f2,f3,f4,f5⟩:=hf it (by simp)
  have hl:=rv.length
  exact next_enum_end (I.ok.hd hc) st1 st2 p.isList (by simp; omega) fun h' eb=>⟨rfl,I.turned (t':=s.toks) (fun b o hb e=>eb b o hb e) f0 f1 f3 f4 f5⟩
 self:=fun A i s Q E st h=>by
  obtain ⟨old,st1⟩:=st.1
  have hT:s.TypeIs (.ref e) "enumerate":=⟨_,st1,rfl⟩
  exact wpAny_pyIter_slot hT F.slot_enumerate_iter (wpAny_call_entry F.slot_enumerate_iter hT F.entry_enumerate_iter (wpAny_pure ⟨_,rfl, "enumerate",_,hT,F.slot_enumerate_next.lookup,h⟩) (F.args_enumerate_iter_1 _))
theorem comp_enum1 {K:PySem.W.Frag} {a:Addr} {xs:List V} {vn:Nat} {g:TG} {tc:TT} {te:TE} {σ:St} {p:Addr} {H1:Hp} {Q:Hp→Prop} (Pv:Nat→Hp→Prop) (h0:Pv 0 (upd H1 p (.lst []))) (hl:∀ i H,i≤xs.length→Pv i H→SqL K H a xs)
  (hs:∀ i x H t,xs[i]?=some x→Pv i H→H t=none→g (.ref t) (List.replicate vn none++σ) (upd H t (.tup [.int ((i:Int) + 1),x])) fun σ2 H2=>(∃ τ:St,σ2=τ++σ∧τ.length=vn)∧tc σ2 H2 fun b H3=>
   if b=true then te σ2 H3 fun v H4=>∃ acc,H4 p=some (.lst acc)∧acc.length < sizeLine∧Pv (i + 1) (upd H4 p (.lst (acc++[v]))) else Pv (i + 1) H3) (hd:∀ H,Pv xs.length H→Q H):tCompW (Ite1 K a) vn g tc te σ p H1 Q:=by
 refine ⟨fun i m H=>i≤xs.length∧m=xs.length - i∧Pv i H,⟨xs.length,Nat.zero_le _,rfl,h0⟩,fun i m H hw=>?_⟩
 obtain ⟨hi,rfl,hp⟩:=hw
 have hq:=hl i H hi hp
 by_cases hlt:i < xs.length
 ·refine .inr ⟨⟨xs,xs[i],hq,List.getElem?_eq_getElem hlt⟩,Pv (i + 1),fun H' h'=>⟨xs.length - (i + 1),by omega,by omega,rfl,h'⟩,fun x H' hy=>?_⟩
  obtain ⟨t,nt,rfl,hv⟩:=hy
  obtain ⟨v,ev,rfl⟩:=hv xs hq
  exact hs i v H t ev hp nt
 ·have e:i=xs.length:=by omega
  subst e
  exact .inl ⟨⟨xs,hq,Nat.le_refl _⟩,hd H hp⟩
section
variable {M:Model} {A:Around} {E:Value→Shared→Prop} {s:Shared}
theorem with_kw {pos:Pos} {T:String} {args:List (Bool × Sem Value)} {kws:List (Option Str × Sem Value)} {Q:Value→Shared→Prop} (h1:args.any (·.1)=false) (h2:kws.any (·.1.isNone)=false)
  (h:wpAny M A (evalArgs (.type T) true args kws) (fun a s1=>wpAny M A (call (.type T) a.pos a.kw) Q E s1) E s):wpAny M A (callWith pos (.type T) [] args kws) Q E s:=by
 unfold callWith
 refine wpAny_bind (wpAny_holding (wpAny_mono h (fun a s1 q=>wpAny_bind (wpAny_standAt ?_)) fun _ _ x=>x))
 simp only [h1,h2,Bool.or_false]
 refine wpAny_bind (wpAny_pure ?_)
 exact wpAny_bind (wpAny_mono q (fun r s2 hr=>wpAny_bind (wpAny_holding (wpAny_point (wpAny_pure hr)))) fun _ _ x=>x)
end
section
variable {X:Cx}
def iEnum1 (K:PySem.W.Frag) (ta:TA):TI:=fun σ H R=>ta σ H fun vs H1=>∃ a,vs=[.ref a]∧(∃ xs,SqL K H1 a xs)∧R (Ite1 K a) H1
theorem pi_enum1 {es:List Expr} {k cj:Nat} {post:Pos} {a:Expr} {ta:TA} {p pos q1 q2:Pos} (hg:Gl X "enumerate") (hm:X.mg "enumerate" = none) (ha:PA X [a] ta) (hs:starEach [a] X.env=[(false,eval a X.env)]:=by rfl) :
  PI X (.Tuple es k post) (.Call (.Name "enumerate" p) [a] [⟨some (Str.ofString "start"),.Constant (.int 1) cj q1,q2⟩] pos) (iEnum1 X.K ta):=by
 intro pins s σ H R I h
 refine wpAny_Call_Name_kw (ld_blt I hg hm PyProof.Rows.boot_enumerate ?_)
 have hb:∃ x,backTo pos (starEach [a] X.env)=[(false,x)]:=by rw [hs]; exact ⟨_,rfl⟩
 obtain ⟨x,hb⟩:=hb
 have hA:=ha pos pins s σ H _ I h
 rw [hb] at hA ⊢
 refine with_kw rfl rfl (evalArgs_kwB rfl ?_)
 refine thn hA fun us s1 hp=>?_
 obtain ⟨vs,H1,I1,r1,l,rfl,⟨xs,hq⟩,q⟩:=hp
 obtain ⟨u,rfl,ru⟩:=r1.one
 cases (show u=Value.ref l from ru)
 refine kws_cons (wpAny_Constant_int (kws_nil ?_))
 obtain ⟨its,rv,pl,hz⟩:=I1.list hq
 refine call_enum1 (s:={ s1 with toks:=s1.toks + 1 }) pl.isList fun h' en it sz kp=>?_
 have T:=turn_enum1 (P:=X.prog) (w:=X.w) (K:=X.K) (es:=es) (k:=k) (pos:=post) l (s1.heap.objs.size + 1) s1.heap.objs.size (Nat.succ_ne_self _)
 have st:(∃ old,IsEnum h' (s1.heap.objs.size + 1) s1.heap.objs.size (((0:Nat):Int) + 1) old)∧h'.IsListIter s1.heap.objs.size l 0:=⟨⟨_,en⟩,it⟩
 have I2:Inv X pins σ H1 { s1 with heap:=h',toks:=s1.toks + 1 }:=I1.kept (t':=s1.toks + 1) kp
 refine T.self X.A 0 { s1 with heap:=h',toks:=s1.toks + 1 } _ _ st ?_
 refine ⟨_,_,_,_,H1,rfl,I2,T,st,fun b hb=>?_,q⟩
 simp only [List.mem_cons,List.not_mem_nil,or_false] at hb
 rcases hb with rfl | rfl
 ·exact I1.fpOk (Nat.le_succ _) (I1.hok.fresh (Nat.le_succ _))
 ·exact I1.fpOk (Nat.le_refl _) (I1.hok.fresh (Nat.le_refl _))
end
structure Sub (P:Program) (w:World) (it:Addr) (src:List Addr) (St:Nat→Heap→Prop) (Vl:Nat→Value→Prop) (n:Nat):Prop where
 keep:∀ k h h',St k h→(∀ b,(b=it∨b∈src)→∀ o,h.get? b=some o→h'.get? b=some o)→St k h'
 obj:∀ k h,St k h→∃ o,h.get? it=some o∧∀ v,o.data≠.cell v
 item:∀ (A:Around) (E:Value→Shared→Prop) (s:Shared) (Q:Value→Shared→Prop) (k:Nat),St k s.heap→k < n→(∀ g x tk,Vl k x→St (k + 1) g→Heap.SameBut it s.heap g→Q x { s with heap:=g,toks:=tk })→wpAny (model P w) A (Builtin.SmallTypes.nextOf (.ref it)) Q E s
 stop:∀ (A:Around) (E:Value→Shared→Prop) (s:Shared) (Q:Value→Shared→Prop) (k:Nat),A.handled=none→St k s.heap→n≤k→(∀ g e,Heap.ExtBut it s.heap g→(∃ o,g.get? e=some o∧o.cls=.type "StopIteration")→E (.ref e) { s with heap:=g })→wpAny (model P w) A (Builtin.SmallTypes.nextOf (.ref it)) Q E s
theorem sub_tup {P:Program} {w:World} {it t:Addr} {items:Array Value} (hne:t≠it):Sub P w it [t] (fun k h=>h.IsTupleIter it t k∧h.IsTuple t items) (fun k x=>items[k]?=some x) items.size where
 keep:=fun k h h' st kp=>⟨st.1.at fun o q=>kp it (.inl rfl) o q,ZT.tupleAt st.2 fun o q=>kp t (.inr (by simp)) o q⟩
 obj:=fun k h st=>by
  obtain ⟨o,e,c,d⟩:=st.1
  exact ⟨o,e,fun v z=>by rw [d] at z; cases z⟩
 item:=fun A E s Q k st hk q=>ZT.next_item st.1 st.2 (Array.getElem?_eq_getElem hk) fun g n1 b1=>q g _ s.toks (Array.getElem?_eq_getElem hk) ⟨n1,ZT.tupleAt st.2 fun o e=>b1.extBut _ _ hne e⟩ b1
 stop:=fun A E s Q k hh st hk q=>ZT.next_end hh st.1 st.2 (Array.getElem?_eq_none hk) fun g e b1 he=>q g e b1 he
theorem sub_lst {P:Program} {w:World} {it t:Addr} {items:Array Value} (hne:t≠it):Sub P w it [t] (fun k h=>h.IsListIter it t k∧h.IsList t items) (fun k x=>items[k]?=some x) items.size where
 keep:=fun k h h' st kp=>⟨st.1.at fun o q=>kp it (.inl rfl) o q,let ⟨o,e,r⟩:=st.2; ⟨o,kp t (.inr (by simp)) o e,r⟩⟩
 obj:=fun k h st=>by
  obtain ⟨o,e,c,d⟩:=st.1
  exact ⟨o,e,fun v z=>by rw [d] at z; cases z⟩
 item:=fun A E s Q k st hk q=>wpAny_nextOf_list_item st.1 st.2 (Array.getElem?_eq_getElem hk) fun g n1 b1=>q g _ s.toks (Array.getElem?_eq_getElem hk) ⟨n1,let ⟨o,e,r⟩:=st.2; ⟨o,b1.extBut _ _ hne e,r⟩⟩ b1
 stop:=fun A E s Q k hh st hk q=>wpAny_nextOf_list_end hh st.1 st.2 (Array.getElem?_eq_none hk) fun g e b1 he=>q g e b1 he
structure Apart (z TI TO i1 i2:Addr) (s1 s2:List Addr):Prop where
 TIz:TI≠z
 TOz:TO≠z
 i1z:i1≠z
 i2z:i2≠z
 TITO:TI≠TO
 TIi1:TI≠i1
 TIi2:TI≠i2
 TOi1:TO≠i1
 TOi2:TO≠i2
 i12:i1≠i2
 a1:∀ b∈s1,b≠z∧b≠TO∧b≠i1∧b≠i2
 a2:∀ b∈s2,b≠z∧b≠TO∧b≠i1∧b≠i2
section
variable {prog:Program} {w:World} {A:Around} {E:Value→Shared→Prop} {s:Shared} {z TI TO i1 i2:Addr} {s1 s2:List Addr} {St1 St2:Nat→Heap→Prop} {V1 V2:Nat→Value→Prop} {n1 n2 k:Nat}
theorem zip_item (D:Apart z TI TO i1 i2 s1 s2) (S1:Sub prog w i1 s1 St1 V1 n1) (S2:Sub prog w i2 s2 St2 V2 n2) {Q:Value→Shared→Prop} (hz:IsZip s.heap z TI TO .none) (hTI:IsPair s.heap TI (.ref i1) (.ref i2)) (hTO:∃ a b,IsPair s.heap TO a b) (h1:St1 k s.heap) (h2:St2 k s.heap)
  (k1:k < n1) (k2:k < n2)
  (hQ:∀ g x y tk,V1 k x→V2 k y→IsZip g z TI TO (rawInt s.heap.objs.size)→(∃ a b,IsPair g TO a b)→St1 (k + 1) g→St2 (k + 1) g→IsPair g s.heap.objs.size x y→
   (∀ c o,c≠z→c≠TO→c≠i1→c≠i2→s.heap.get? c=some o→g.get? c=some o)→Q (.ref s.heap.objs.size) { s with heap:=g,toks:=tk }) :
  wpAny (model prog w) A (Builtin.«zip.__next__» ⟨[.ref z],[]⟩) (fun fin s'=>∃ v,fin=.done (.ret v)∧Q v s') E s:=by
 obtain ⟨a,b,hTO⟩:=hTO
 change wpAny _ _ (field (.ref z) 2 >>= _) _ _ _
 refine wpAny_bind (wpAny_field hz rfl (x:=.bool false) rfl ?_)
 change wpAny _ _ (field (.ref z) 3 >>= _) _ _ _
 refine wpAny_bind (wpAny_field hz rfl (x:=.ref TI) rfl ?_)
 refine wpAny_bind (wpAny_seqItems hTI rfl ?_)
 change wpAny _ _ (Builtin.SmallTypes.ownedTupleIsFree (.ref z) >>= _) _ _ _
 refine wpAny_bind ?_
 unfold Builtin.SmallTypes.ownedTupleIsFree
 refine wpAny_bind (wpAny_field hz rfl (x:=.none) rfl (wpAny_pure ?_))
 simp only [if_true]
 refine wpAny_bind (wpAny_rule ?_)
 refine wpAny_bind (wpAny_field hz rfl (x:=.ref TO) rfl ?_)
 refine wpAny_bind (wpAny_setField_rec hz (by simp) fun g1 z1 b1=>?_)
 replace z1:IsZip g1 z TI TO .ellipsis:=z1
 refine wpAny_bind ?_
 simp only [List.zipIdx_cons,List.zipIdx_nil,List.forIn_cons,List.forIn_nil]
 refine wpAny_bind (wpAny_bind (wpAny_onRaise ?_))
 change wpAny _ _ (Builtin.SmallTypes.nextOf (.ref i1) >>= _) _ _ _
 have m1:St1 k g1:=S1.keep k _ _ h1 fun c hc o q=>by
  have hc':c≠z:=by
   rcases hc with e | e
   ·rw [e]; exact D.i1z
   ·exact (D.a1 c e).1
  exact b1.extBut _ _ hc' q
 refine wpAny_bind (S1.item _ _ _ _ k m1 k1 fun g2 x tk2 hx m2 b2=>wpAny_pure ?_)
 have o2:IsPair g2 TO a b:=b2.extBut _ _ D.TOi1 (b1.extBut _ _ D.TOz hTO)
 refine wpAny_bind (wpAny_seqItems o2 rfl ?_)
 refine wpAny_bind (wpAny_updateSeq_pair o2 fun g3 o3 b3=>?_)
 replace o3:IsPair g3 TO x b:=o3
 refine wpAny_bind (wpAny_letGo (wpAny_pure ?_))
 refine wpAny_bind (wpAny_bind (wpAny_onRaise ?_))
 change wpAny _ _ (Builtin.SmallTypes.nextOf (.ref i2) >>= _) _ _ _
 have l3:St2 k g3:=S2.keep k _ _ h2 fun c hc o q=>by
  have hc':c≠z∧c≠TO∧c≠i1:=by
   rcases hc with e | e
   ·rw [e]; exact ⟨D.i2z,D.TOi2.symm,D.i12.symm⟩
   ·exact ⟨(D.a2 c e).1,(D.a2 c e).2.1,(D.a2 c e).2.2.1⟩
  exact b3.extBut _ _ hc'.2.1 (b2.extBut _ _ hc'.2.2 (b1.extBut _ _ hc'.1 q))
 refine wpAny_bind (S2.item _ _ _ _ k l3 k2 fun g4 y tk4 hy l4 b4=>wpAny_pure ?_)
 have o4:IsPair g4 TO x b:=b4.extBut _ _ D.TOi2 o3
 refine wpAny_bind (wpAny_seqItems o4 rfl ?_)
 refine wpAny_bind (wpAny_updateSeq_pair o4 fun g5 o5 b5=>?_)
 replace o5:IsPair g5 TO x y:=o5
 refine wpAny_bind (wpAny_letGo (wpAny_pure (wpAny_pure ?_)))
 refine wpAny_bind (wpAny_seqItems o5 rfl ?_)
 refine wpAny_bind (wpAny_newTuple ?_)
 have hsz:g5.objs.size=s.heap.objs.size:=by rw [b5.1,b4.1,b3.1,b2.1,b1.1]
 have z5:IsZip g5 z TI TO .ellipsis:=b5.extBut _ _ D.TOz.symm (b4.extBut _ _ D.i2z.symm (b3.extBut _ _ D.TOz.symm (b2.extBut _ _ D.i1z.symm z1)))
 have q5:∀ c o,c≠z→c≠TO→c≠i1→c≠i2→s.heap.get? c=some o→g5.get? c=some o:=fun c o c1 c2 c3 c4 e=>
  b5.extBut _ _ c2 (b4.extBut _ _ c4 (b3.extBut _ _ c2 (b2.extBut _ _ c3 (b1.extBut _ _ c1 e))))
 have m5:St1 (k + 1) g5:=S1.keep _ _ _ m2 fun c hc o q=>by
  have hc':c≠TO∧c≠i2:=by
   rcases hc with e | e
   ·rw [e]; exact ⟨D.TOi1.symm,D.i12⟩
   ·exact ⟨(D.a1 c e).2.1,(D.a1 c e).2.2.2⟩
  exact b5.extBut _ _ hc'.1 (b4.extBut _ _ hc'.2 (b3.extBut _ _ hc'.1 q))
 have l5:St2 (k + 1) g5:=S2.keep _ _ _ l4 fun c hc o q=>by
  have hc':c≠TO:=by
   rcases hc with e | e
   ·rw [e]; exact D.TOi2.symm
   ·exact (D.a2 c e).2.1
  exact b5.extBut _ _ hc' q
 have zlt:z < g5.objs.size:=Heap.lt_size z5
 change wpAny _ _ (Builtin.SmallTypes.ownedTupleHandOut (.ref z) (.ref g5.objs.size) >>= _) _ _ _
 refine wpAny_bind ?_
 unfold Builtin.SmallTypes.ownedTupleHandOut
 have z6:IsZip (g5.push { cls:=.type "tuple",data:=.seq #[x,y] }) z TI TO .ellipsis:=Heap.get?_push_of_some _ z5
 refine wpAny_bind (wpAny_setField_rec z6 (by simp) fun g7 z7 b7=>?_)
 replace z7:IsZip g7 z TI TO (rawInt g5.objs.size):=z7
 refine wpAny_setField_rec z7 (by simp) fun g8 z8 b8=>?_
 replace z8:IsZip g8 z TI TO (rawInt g5.objs.size):=z8
 have up:∀ c o,c≠z→g5.get? c=some o→g8.get? c=some o:=fun c o c1 e=>b8.extBut _ _ c1 (b7.extBut _ _ c1 (Heap.get?_push_of_some _ e))
 have p8:IsPair g8 g5.objs.size x y:=b8.extBut _ _ (Nat.ne_of_gt zlt) (b7.extBut _ _ (Nat.ne_of_gt zlt) (Heap.get?_push_size _ rfl))
 rw [hsz] at z8 p8
 refine wpAny_pure ⟨_,rfl,?_⟩
 change Q (.ref g5.objs.size) _
 rw [hsz]
 refine hQ g8 x y _ hx hy z8 ⟨x,y,up _ _ D.TOz o5⟩ (S1.keep _ _ _ m5 fun c hc o q=>up c o ?_ q) (S2.keep _ _ _ l5 fun c hc o q=>up c o ?_ q) p8 fun c o c1 c2 c3 c4 e=>up c o c1 (q5 c o c1 c2 c3 c4 e)
 ·rcases hc with e | e
  ·rw [e]; exact D.i1z
  ·exact (D.a1 c e).1
 ·rcases hc with e | e
  ·rw [e]; exact D.i2z
  ·exact (D.a2 c e).1
theorem zip_stop (D:Apart z TI TO i1 i2 s1 s2) (S1:Sub prog w i1 s1 St1 V1 n1) {Q:Fin→Shared→Prop} (hh:A.handled=none) (hz:IsZip s.heap z TI TO .none) (hTI:IsPair s.heap TI (.ref i1) (.ref i2)) (h1:St1 k s.heap) (k1:n1≤k)
  (hE:∀ g e,(∀ c o,c≠z→c≠TO→c≠i1→c≠i2→s.heap.get? c=some o→g.get? c=some o)→(∃ o,g.get? e=some o∧o.cls=.type "StopIteration")→E (.ref e) { s with heap:=g }) :
  wpAny (model prog w) A (Builtin.«zip.__next__» ⟨[.ref z],[]⟩) Q E s:=by
 change wpAny _ _ (field (.ref z) 2 >>= _) _ _ _
 refine wpAny_bind (wpAny_field hz rfl (x:=.bool false) rfl ?_)
 change wpAny _ _ (field (.ref z) 3 >>= _) _ _ _
 refine wpAny_bind (wpAny_field hz rfl (x:=.ref TI) rfl ?_)
 refine wpAny_bind (wpAny_seqItems hTI rfl ?_)
 change wpAny _ _ (Builtin.SmallTypes.ownedTupleIsFree (.ref z) >>= _) _ _ _
 refine wpAny_bind ?_
 unfold Builtin.SmallTypes.ownedTupleIsFree
 refine wpAny_bind (wpAny_field hz rfl (x:=.none) rfl (wpAny_pure ?_))
 simp only [if_true]
 refine wpAny_bind (wpAny_rule ?_)
 refine wpAny_bind (wpAny_field hz rfl (x:=.ref TO) rfl ?_)
 refine wpAny_bind (wpAny_setField_rec hz (by simp) fun g1 z1 b1=>?_)
 replace z1:IsZip g1 z TI TO .ellipsis:=z1
 refine wpAny_bind ?_
 simp only [List.zipIdx_cons,List.zipIdx_nil,List.forIn_cons,List.forIn_nil]
 refine wpAny_bind (wpAny_bind (wpAny_onRaise ?_))
 change wpAny _ _ (Builtin.SmallTypes.nextOf (.ref i1) >>= _) _ _ _
 have m1:St1 k g1:=S1.keep k _ _ h1 fun c hc o q=>by
  have hc':c≠z:=by
   rcases hc with e | e
   ·rw [e]; exact D.i1z
   ·exact (D.a1 c e).1
  exact b1.extBut _ _ hc' q
 refine wpAny_bind (S1.stop _ _ _ _ k hh m1 k1 fun g2 e b2 he=>?_)
 obtain ⟨oe,hoe,hce⟩:=he
 have z2:IsZip g2 z TI TO .ellipsis:=b2 _ _ D.i1z.symm z1
 have hez:e≠z:=fun x=>by subst x; rw [z2] at hoe; cases hoe; simp at hce
 exact wpAny_setField_rec z2 (by simp) fun g3 _ b3=>hE g3 e (fun c o c1 _ c3 _ x=>b3.extBut _ _ c1 (b2 _ _ c3 (b1.extBut _ _ c1 x))) ⟨oe,b3.extBut _ _ hez hoe,hce⟩
theorem next_zip (D:Apart z TI TO i1 i2 s1 s2) (S1:Sub prog w i1 s1 St1 V1 n1) (S2:Sub prog w i2 s2 St2 V2 n2) {Q:Option Value→Shared→Prop} (hz:IsZip s.heap z TI TO .none) (hTI:IsPair s.heap TI (.ref i1) (.ref i2)) (hTO:∃ a b,IsPair s.heap TO a b) (h1:St1 k s.heap) (h2:St2 k s.heap)
  (k1:k < n1) (k2:k < n2)
  (hQ:∀ g x y tk,V1 k x→V2 k y→IsZip g z TI TO (rawInt s.heap.objs.size)→(∃ a b,IsPair g TO a b)→St1 (k + 1) g→St2 (k + 1) g→IsPair g s.heap.objs.size x y→
   (∀ c o,c≠z→c≠TO→c≠i1→c≠i2→s.heap.get? c=some o→g.get? c=some o)→Q (some (.ref s.heap.objs.size)) { s with heap:=g,toks:=tk }) :
  wpAny (model prog w) A (pyNext (.ref z)) Q E s:=by
 have hT:s.TypeIs (.ref z) "zip":=⟨_,hz,rfl⟩
 unfold pyNext
 exact wpAny_bind (wpAny_attempt (wpAny_callSpecial?_slot (name:=Str.ofString "__next__") hT F.slot_zip_next (wpAny_call_entry F.slot_zip_next hT F.entry_zip_next (zip_item D S1 S2 hz hTI hTO h1 h2 k1 k2 fun g x y tk a b c d e f p q=>wpAny_pure (hQ g x y tk a b c d e f p q)) (F.args_zip_next_1 _))))
theorem next_zip_end (D:Apart z TI TO i1 i2 s1 s2) (S1:Sub prog w i1 s1 St1 V1 n1) {Q:Option Value→Shared→Prop} (hh:A.handled=none) (hz:IsZip s.heap z TI TO .none) (hTI:IsPair s.heap TI (.ref i1) (.ref i2)) (h1:St1 k s.heap) (k1:n1≤k)
  (hQ:∀ g,(∀ c o,c≠z→c≠TO→c≠i1→c≠i2→s.heap.get? c=some o→g.get? c=some o)→Q none { s with heap:=g }):wpAny (model prog w) A (pyNext (.ref z)) Q E s:=by
 have hT:s.TypeIs (.ref z) "zip":=⟨_,hz,rfl⟩
 unfold pyNext
 refine wpAny_bind (wpAny_attempt (wpAny_callSpecial?_slot (name:=Str.ofString "__next__") hT F.slot_zip_next (wpAny_call_entry F.slot_zip_next hT F.entry_zip_next (zip_stop D S1 hh hz hTI h1 k1 fun g e kp he=>?_) (F.args_zip_next_1 _))))
 obtain ⟨o,ho,hc⟩:=he
 refine wpAny_bind (wpAny_isInstance (T:="StopIteration") (b:=true) ⟨o,ho,hc⟩ isSubtype_stop ?_)
 exact wpAny_pure (hQ _ kp)
end
structure Src where
 rd:PySem.W.Frag→Hp→List V→Prop
 itr:Heap→Addr→Nat→Prop
 src:List Addr
structure SrcOk (S:Src):Prop where
 keepI:∀ h h' it k,S.itr h it k→(∀ o,h.get? it=some o→h'.get? it=some o)→S.itr h' it k
 objI:∀ h it k,S.itr h it k→∃ o,h.get? it=some o∧∀ v,o.data≠.cell v
 inj:∀ (X:Cx) pins σ H s xs ys,Inv X pins σ H s→S.rd X.K H xs→S.rd X.K H ys→xs=ys
 sub:∀ (X:Cx) pins σ H s xs it,Inv X pins σ H s→S.rd X.K H xs→(∀ b∈S.src,b≠it)→∃ (St:Nat→Heap→Prop) (Vl:Nat→Value→Prop),Sub X.prog X.w it S.src St Vl xs.length∧(∀ k,S.itr s.heap it k→St k s.heap)∧(∀ k h,St k h→S.itr h it k)∧∀ k v u,xs[k]?=some u→Vl k v→RelV u v
def ItP (K:PySem.W.Frag) (S1 S2:Src):It:=
 ⟨fun i H=>∃ xs ys,S1.rd K H xs∧S2.rd K H ys∧i < xs.length∧i < ys.length,fun i H x H'=>∃ t,H t=none∧x=.ref t∧∀ xs ys,S1.rd K H xs→S2.rd K H ys→∃ v u,xs[i]?=some v∧ys[i]?=some u∧H'=upd H t (.tup [v,u]),fun i H=>∃ xs,S1.rd K H xs∧xs.length≤i⟩
theorem turn_zipP {P:Program} {w:World} {K:PySem.W.Frag} {es:List Expr} {k:Nat} {pos:Pos} {z TI TO i1 i2:Addr} {S1 S2:Src} (O1:SrcOk S1) (O2:SrcOk S2) (D:Apart z TI TO i1 i2 S1.src S2.src) :
  Turn P w K (.Tuple es k pos) (ItP K S1 S2) [z,TI,TO,i1,i2] z (fun i h=>IsZip h z TI TO .none∧IsPair h TI (.ref i1) (.ref i2)∧(∃ x y,IsPair h TO x y)∧S1.itr h i1 i∧S2.itr h i2 i) where
 mem:=by simp
 obj:=fun i h st c hc=>by
  obtain ⟨st1,st2,⟨x,y,st3⟩,st4,st5⟩:=st
  simp only [List.mem_cons,List.not_mem_nil,or_false] at hc
  rcases hc with rfl | rfl | rfl | rfl | rfl
  ·exact ⟨_,st1,fun v z=>by cases z⟩
  ·exact ⟨_,st2,fun v z=>by cases z⟩
  ·exact ⟨_,st3,fun v z=>by cases z⟩
  ·exact O1.objI _ _ _ st4
  ·exact O2.objI _ _ _ st5
 keep:=fun i h h' st kp=>⟨kp z (by simp) _ st.1,kp TI (by simp) _ st.2.1,let ⟨x,y,q⟩:=st.2.2.1; ⟨x,y,kp TO (by simp) _ q⟩,O1.keepI _ _ _ _ st.2.2.2.1 fun o q=>kp i1 (by simp) o q,O2.keepI _ _ _ _ st.2.2.2.2 fun o q=>kp i2 (by simp) o q⟩
 item:=by
  intro X hP hw hK hc i pins s σ H E I hf st hg
  subst hP hw hK
  obtain ⟨xs,ys,hq,hq2,hx,hy⟩:=hg
  obtain ⟨st1,st2,st3,st4,st5⟩:=st
  obtain ⟨T1,V1,U1,a1,c1,r1⟩:=O1.sub X pins σ H s xs i1 I hq (fun b hb=>(D.a1 b hb).2.2.1)
  obtain ⟨T2,V2,U2,a2,c2,r2⟩:=O2.sub X pins σ H s ys i2 I hq2 (fun b hb=>(D.a2 b hb).2.2.2)
  have ex:=List.getElem?_eq_getElem hx
  have ey:=List.getElem?_eq_getElem hy
  refine next_zip D U1 U2 st1 st2 st3 (a1 i st4) (a2 i st5) hx hy fun h1 u u2 tk v1 v2 o1 to1 m1 m2 t1 k1=>?_
  refine ⟨_,rfl,wpAny_letOwnedTupleGo_zip o1 fun h2 o2 b2=>?_⟩
  have ru:=r1 i u _ ex v1
  have ru2:=r2 i u2 _ ey v2
  have hnew:H s.heap.objs.size=none:=I.fresh
  have ltz:z < s.heap.objs.size:=Heap.lt_size st1
  have k2:∀ c o,c≠z→c≠TO→c≠i1→c≠i2→s.heap.get? c=some o→h2.get? c=some o:=fun c o c1 c2 c3 c4 q=>b2.extBut c o c1 (k1 c o c1 c2 c3 c4 q)
  have t2:h2.get? s.heap.objs.size=some { cls:=.type "tuple",data:=.seq #[u,u2] }:=b2.extBut _ _ (Nat.ne_of_gt ltz) t1
  have fz:=hf z (by simp)
  have fTI:=hf TI (by simp)
  have fTO:=hf TO (by simp)
  have f1:=hf i1 (by simp)
  have f2:=hf i2 (by simp)
  have nch:∀ c o,H c=some o→c≠z∧c≠TO∧c≠i1∧c≠i2:=fun c o q=>⟨fun e=>by (rw [e,fz.1] at q; cases q),fun e=>by (rw [e,fTO.1] at q; cases q),fun e=>by (rw [e,f1.1] at q; cases q),fun e=>by (rw [e,f2.1] at q; cases q)⟩
  have kc:∀ c o,¬ c∈[z,TO,i1,i2]→s.heap.get? c=some o→h2.get? c=some o:=fun c o hc q=>k2 c o (fun e=>hc (by simp [e])) (fun e=>hc (by simp [e])) (fun e=>hc (by simp [e])) (fun e=>hc (by simp [e])) q
  have I2:Inv X pins σ (upd H s.heap.objs.size (.tup [xs[i],ys[i]])) { s with heap:=h2,gens:=s.gens,drawn:=s.drawn,toks:=tk }:=by
   refine I.step (ch:=[z,TO,i1,i2]) (fun c hc=>?_) (fun c o _ _ hc q _=>kc c o hc q) (fun c o _ _ hc q _=>⟨o.slots,kc c o hc q⟩)
    (fun c o _ q n=>by rw [upd_ne (Nat.ne_of_lt (Heap.lt_size q))]; exact n) (fun c o hc q=>⟨o,kc c o hc q⟩)
    (fun c zs q=>by rw [upd_ne (ne_of_none q hnew)]; exact q) (fun c o v q=>by rw [upd_ne (ne_of_none q hnew)]; exact q) (fun c ps q=>⟨#[],by rw [upd_ne (ne_of_none q hnew),q]; simp⟩) (fun m hm=>?_) (fun c o q=>?_) I.bare
   ·simp only [List.mem_cons,List.not_mem_nil,or_false] at hc
    rcases hc with rfl | rfl | rfl | rfl
    ·exact ⟨fz.2.2.2.1,fz.2.1,fz.2.2.2.2.1,fz.2.2.2.2.2⟩
    ·exact ⟨fTO.2.2.2.1,fTO.2.1,fTO.2.2.2.2.1,fTO.2.2.2.2.2⟩
    ·exact ⟨f1.2.2.2.1,f1.2.1,f1.2.2.2.2.1,f1.2.2.2.2.2⟩
    ·exact ⟨f2.2.2.2.1,f2.2.1,f2.2.2.2.2.1,f2.2.2.2.2.2⟩
   ·obtain ⟨o,es',ep,ho,r⟩:=hm
    exact ⟨o,es',ep,k2 _ o (Ne.symm fz.2.1) (Ne.symm fTO.2.1) (Ne.symm f1.2.1) (Ne.symm f2.2.1) ho,r⟩
   ·by_cases hb:c=s.heap.objs.size
    ·subst hb
     rw [upd_same] at q
     cases q
     exact ⟨by show 2≤sizeLine; decide,[u,u2],.cons ru (.cons ru2 .nil),_,t2,rfl,_,rfl⟩
    ·rw [upd_ne hb] at q
     refine (I.hok c o q).stay (fun d v hd e=>?_) (fun d e=>by rw [upd_ne (ne_of_none e hnew)]; exact e) fun d zs e=>by rw [upd_ne (ne_of_none e hnew)]; exact e
     have nd:d≠z∧d≠TO∧d≠i1∧d≠i2:=by
      rcases hd with z' | z'
      ·rw [z']; exact nch c o q
      ·exact nch d _ z'
     exact k2 d v nd.1 nd.2.1 nd.2.2.1 nd.2.2.2 e
  obtain ⟨xo,yo,to2⟩:=to1
  refine ⟨.ref s.heap.objs.size,_,I2,rfl,⟨_,hnew,rfl,fun xs' ys' hy1 hy2=>⟨xs[i],ys[i],by rw [O1.inj X pins σ H s _ _ I hy1 hq]; exact ex,by rw [O2.inj X pins σ H s _ _ I hy2 hq2]; exact ey,rfl⟩⟩,
   ⟨o2,b2.extBut _ _ D.TIz (k1 _ _ D.TIz D.TITO D.TIi1 D.TIi2 st2),⟨_,_,b2.extBut _ _ D.TOz to2⟩,O1.keepI _ _ _ _ (c1 _ _ m1) fun o q=>b2.extBut _ _ D.i1z q,O2.keepI _ _ _ _ (c2 _ _ m2) fun o q=>b2.extBut _ _ D.i2z q⟩,fun c hc=>?_⟩
  obtain ⟨oc,ec⟩:∃ oc,s.heap.get? c=some oc:=by
   obtain ⟨x3,y3,st3⟩:=st3
   simp only [List.mem_cons,List.not_mem_nil,or_false] at hc
   rcases hc with rfl | rfl | rfl | rfl | rfl
   ·exact ⟨_,st1⟩
   ·exact ⟨_,st2⟩
   ·exact ⟨_,st3⟩
   ·obtain ⟨o,e,_⟩:=O1.objI _ _ _ st4
    exact ⟨o,e⟩
   ·obtain ⟨o,e,_⟩:=O2.objI _ _ _ st5
    exact ⟨o,e⟩
  rw [upd_ne (Nat.ne_of_lt (Heap.lt_size ec))]; exact (hf c hc).1
 done:=by
  intro X hP hw hK hc i pins s σ H E I hf st hg
  subst hP hw hK
  obtain ⟨xs,hq,hx⟩:=hg
  obtain ⟨st1,st2,st3,st4,st5⟩:=st
  obtain ⟨T1,V1,U1,a1,c1,r1⟩:=O1.sub X pins σ H s xs i1 I hq (fun b hb=>(D.a1 b hb).2.2.1)
  have fz:=hf z (by simp)
  have fTO:=hf TO (by simp)
  have f1:=hf i1 (by simp)
  have f2:=hf i2 (by simp)
  refine next_zip_end D U1 (I.ok.hd hc) st1 st2 (a1 i st4) hx fun h' eb=>⟨rfl,?_⟩
  have nch:∀ c o,H c=some o→c≠z∧c≠TO∧c≠i1∧c≠i2:=fun c o q=>⟨fun e=>by (rw [e,fz.1] at q; cases q),fun e=>by (rw [e,fTO.1] at q; cases q),fun e=>by (rw [e,f1.1] at q; cases q),fun e=>by (rw [e,f2.1] at q; cases q)⟩
  have kc:∀ c o,¬ c∈[z,TO,i1,i2]→s.heap.get? c=some o→h'.get? c=some o:=fun c o hc q=>eb c o (fun e=>hc (by simp [e])) (fun e=>hc (by simp [e])) (fun e=>hc (by simp [e])) (fun e=>hc (by simp [e])) q
  refine I.step (g':=s.gens) (d':=s.drawn) (t':=s.toks) (ch:=[z,TO,i1,i2]) (fun c hc=>?_) (fun c o _ _ hc q _=>kc c o hc q) (fun c o _ _ hc q _=>⟨o.slots,kc c o hc q⟩) (fun _ _ _ _ n=>n) (fun c o hc q=>⟨o,kc c o hc q⟩)
   (fun _ _ e=>e) (fun _ _ _ e=>e) (fun c ps q=>⟨#[],by rw [q]; simp⟩) (fun m hm=>?_) (fun c o q=>?_) I.bare
  ·simp only [List.mem_cons,List.not_mem_nil,or_false] at hc
   rcases hc with rfl | rfl | rfl | rfl
   ·exact ⟨fz.2.2.2.1,fz.2.1,fz.2.2.2.2.1,fz.2.2.2.2.2⟩
   ·exact ⟨fTO.2.2.2.1,fTO.2.1,fTO.2.2.2.2.1,fTO.2.2.2.2.2⟩
   ·exact ⟨f1.2.2.2.1,f1.2.1,f1.2.2.2.2.1,f1.2.2.2.2.2⟩
   ·exact ⟨f2.2.2.2.1,f2.2.1,f2.2.2.2.2.1,f2.2.2.2.2.2⟩
  ·obtain ⟨o,es',ep,ho,r⟩:=hm
   exact ⟨o,es',ep,eb _ o (Ne.symm fz.2.1) (Ne.symm fTO.2.1) (Ne.symm f1.2.1) (Ne.symm f2.2.1) ho,r⟩
  ·refine (I.hok c o q).stay (fun d v hd e=>?_) (fun d e=>e) fun d zs e=>e
   have nd:d≠z∧d≠TO∧d≠i1∧d≠i2:=by
    rcases hd with z' | z'
    ·rw [z']; exact nch c o q
    ·exact nch d _ z'
   exact eb d v nd.1 nd.2.1 nd.2.2.1 nd.2.2.2 e
 self:=fun A i s Q E st h=>wpAny_pyIter_zip st.1 h
def srcT (a:Addr):Src:=⟨fun K H xs=>SqT K H a xs,fun h it k=>h.IsTupleIter it a k,[a]⟩
def srcL (a:Addr):Src:=⟨fun K H xs=>SqL K H a xs,fun h it k=>h.IsListIter it a k,[a]⟩
def signsV (x:Str):List V:=x.cps.toList.map fun c=>V.str ⟨#[c]⟩
theorem okT (a:Addr):SrcOk (srcT a) where
 keepI:=fun h h' it k st kp=>st.at fun o q=>kp o q
 objI:=fun h it k st=>by
  obtain ⟨o,e,c,d⟩:=st
  exact ⟨o,e,fun v z=>by rw [d] at z; cases z⟩
 inj:=fun X pins σ H s xs ys I h1 h2=>I.tuple_inj h1 h2
 sub:=fun X pins σ H s xs it I h hne=>by
  obtain ⟨its,rv,p,hz⟩:=I.tuple h
  have hl:=rv.length
  have S:=sub_tup (P:=X.prog) (w:=X.w) (items:=its.toArray) (hne a (List.mem_singleton.mpr rfl))
  rw [List.size_toArray,← hl] at S
  refine ⟨_,_,S,fun k st=>⟨st,p⟩,fun k h st=>st.1,fun k v u hu hv=>?_⟩
  obtain ⟨v',e,r⟩:=rv.get hu
  have:its.toArray[k]?=some v':=by simpa using e
  rw [this] at hv
  cases hv
  exact r
theorem okL (a:Addr):SrcOk (srcL a) where
 keepI:=fun h h' it k st kp=>st.at fun o q=>kp o q
 objI:=fun h it k st=>by
  obtain ⟨o,e,c,d⟩:=st
  exact ⟨o,e,fun v z=>by rw [d] at z; cases z⟩
 inj:=fun X pins σ H s xs ys I h1 h2=>I.list_inj h1 h2
 sub:=fun X pins σ H s xs it I h hne=>by
  obtain ⟨its,rv,p,hz⟩:=I.list h
  have hl:=rv.length
  have S:=sub_lst (P:=X.prog) (w:=X.w) (items:=its.toArray) (hne a (List.mem_singleton.mpr rfl))
  rw [List.size_toArray,← hl] at S
  refine ⟨_,_,S,fun k st=>⟨st,p.isList⟩,fun k h st=>st.1,fun k v u hu hv=>?_⟩
  obtain ⟨v',e,r⟩:=rv.get hu
  have:its.toArray[k]?=some v':=by simpa using e
  rw [this] at hv
  cases hv
  exact r
section
variable {prog:Program} {w:World} {A:Around} {E:Value→Shared→Prop} {s:Shared}
theorem sign_item {it:Addr} {x:Str} {t:Tok} {i c:Nat} {Q:Value→Shared→Prop} (st:s.heap.IsStrIter it "str_ascii_iterator" x t i) (hx:x.cps[i]?=some c)
  (q:∀ g,g.IsStrIter it "str_ascii_iterator" x t (i + 1)→Heap.SameBut it s.heap g→Q (.str ⟨#[c]⟩ s.toks) { s with heap:=g,toks:=s.toks + 1 }):wpAny (model prog w) A (Builtin.SmallTypes.nextOf (.ref it)) Q E s:=by
 obtain ⟨o,ho,hc,hd⟩:=id st
 unfold Builtin.SmallTypes.nextOf
 refine wpAny_bind (wpAny_callSpecial?_slot (name:=Str.ofString "__next__") st.typeIs F.slot_str_ascii_iterator_next (wpAny_call_entry F.slot_str_ascii_iterator_next st.typeIs F.entry_str_ascii_iterator_next ?_ (F.args_str_ascii_iterator_next_1 _)))
 change wpAny _ _ (field (.ref it) 0 >>= _) _ _ s
 refine wpAny_bind (wpAny_field ho hd (x:=.str x t) rfl ?_)
 change wpAny _ _ (field (.ref it) 1 >>= _) _ _ s
 refine wpAny_bind (wpAny_field ho hd (x:=.int i 0) rfl ?_)
 simp only [Int.toNat_natCast,hx]
 refine wpAny_bind (wpAny_setField ho hd (by simp) (wpAny_bind (wpAny_mkStr (wpAny_pure ⟨_,rfl,wpAny_pure (q _ ?_ (Heap.SameBut.update ..))⟩) (by change 1≤sizeLine; decide))))
 exact ⟨_,Heap.get?_update_self _ ho (Obj.isFreed_of_fields (Obj.data_mapFields hd _)),(Obj.cls_mapFields ..).trans hc,by rw [Obj.data_mapFields hd]; simp [rawInt]⟩
theorem sign_end {it:Addr} {x:Str} {t:Tok} {i:Nat} {Q:Value→Shared→Prop} (hh:A.handled=none) (st:s.heap.IsStrIter it "str_ascii_iterator" x t i) (hx:x.cps[i]?=none)
  (hE:∀ g e,Heap.ExtBut it s.heap g→(∃ o,g.get? e=some o∧o.cls=.type "StopIteration")→E (.ref e) { s with heap:=g }):wpAny (model prog w) A (Builtin.SmallTypes.nextOf (.ref it)) Q E s:=by
 obtain ⟨o,ho,hc,hd⟩:=id st
 unfold Builtin.SmallTypes.nextOf
 refine wpAny_bind (wpAny_callSpecial?_slot (name:=Str.ofString "__next__") st.typeIs F.slot_str_ascii_iterator_next (wpAny_call_entry F.slot_str_ascii_iterator_next st.typeIs F.entry_str_ascii_iterator_next ?_ (F.args_str_ascii_iterator_next_1 _)))
 change wpAny _ _ (field (.ref it) 0 >>= _) _ _ s
 refine wpAny_bind (wpAny_field ho hd (x:=.str x t) rfl ?_)
 change wpAny _ _ (field (.ref it) 1 >>= _) _ _ s
 refine wpAny_bind (wpAny_field ho hd (x:=.int i 0) rfl ?_)
 simp only [Int.toNat_natCast,hx]
 refine wpAny_bind (wpAny_rule (wpAny_bind (wpAny_setField ho hd (by simp) (wpAny_bind (wpAny_letGo ?_)))))
 change wpAny _ _ (newExc (.type "StopIteration") [] >>= _) _ _ _
 refine wpAny_bind ?_
 simp only [newExc,newTuple]
 refine wpAny_bind (wpAny_newObj_type ?_ (by size_fits))
 refine wpAny_bind (m:=firstArgMember _ _) (wpAny_of_eq (a:=Value.none) (by first | rfl | (simp only [firstArgMember]; rfl)) ?_)
 refine wpAny_newObj_type ?_ (by size_fits)
 simp only [raiseNew]
 refine wpAny_bind (wpAny_handled ?_)
 first | rw [show A.in1.handled=none from hh] | rw [hh]
 refine wpAny_bind (wpAny_pure (wpAny_throw ?_))
 exact hE _ _ (((Heap.SameBut.update ..).extBut.push _).push _) ⟨_,Heap.get?_push_size _ rfl,rfl⟩
end
theorem sub_str {P:Program} {w:World} {it:Addr} {x:Str} {t:Tok}:Sub P w it [] (fun k h=>h.IsStrIter it "str_ascii_iterator" x t k) (fun k v=>∃ c tk,x.cps[k]?=some c∧v=.str ⟨#[c]⟩ tk) x.cps.size where
 keep:=fun k h h' st kp=>by
  obtain ⟨o,e,r⟩:=st
  exact ⟨o,kp it (.inl rfl) o e,r⟩
 obj:=fun k h st=>by
  obtain ⟨o,e,c,d⟩:=st
  exact ⟨o,e,fun v z=>by rw [d] at z; cases z⟩
 item:=fun A E s Q k st hk q=>sign_item st (Array.getElem?_eq_getElem hk) fun g n1 b1=>q g _ (s.toks + 1) ⟨_,_,Array.getElem?_eq_getElem hk,rfl⟩ n1 b1
 stop:=fun A E s Q k hh st hk q=>sign_end hh st (Array.getElem?_eq_none hk) fun g e b1 he=>q g e b1 he
def srcS (x:Str) (t:Tok):Src:=⟨fun _ _ xs=>xs=signsV x,fun h it k=>h.IsStrIter it "str_ascii_iterator" x t k,[]⟩
theorem okS (x:Str) (t:Tok):SrcOk (srcS x t) where
 keepI:=fun h h' it k st kp=>by
  obtain ⟨o,e,r⟩:=st
  exact ⟨o,kp o e,r⟩
 objI:=fun h it k st=>by
  obtain ⟨o,e,c,d⟩:=st
  exact ⟨o,e,fun v z=>by rw [d] at z; cases z⟩
 inj:=fun X pins σ H s xs ys I h1 h2=>h1.trans h2.symm
 sub:=fun X pins σ H s xs it I h hne=>by
  have h:xs=signsV x:=h
  subst h
  have S:=sub_str (P:=X.prog) (w:=X.w) (it:=it) (x:=x) (t:=t)
  have hl:x.cps.size=(signsV x).length:=by unfold signsV; rw [List.length_map,Array.length_toList]
  rw [hl] at S
  refine ⟨_,_,S,fun k st=>st,fun k h st=>st,fun k v u hu hv=>?_⟩
  obtain ⟨c,tk,hc,rfl⟩:=hv
  unfold signsV at hu
  rw [List.getElem?_map,Array.getElem?_toList,hc] at hu
  cases hu
  exact ⟨_,rfl⟩
abbrev zq (h:Heap) (o1 o2:Obj):Heap:=((((h.push o1).push o2).push { cls:=.type "tuple",data:=.seq #[.ref h.objs.size,.ref (h.push o1).objs.size] }).push { cls:=.type "tuple",data:=.seq #[.none,.none] }).push
 { cls:=.type "zip",data:=.fields #[.none,.bool false,.bool false,.ref ((h.push o1).push o2).objs.size,.ref (((h.push o1).push o2).push { cls:=.type "tuple",data:=.seq #[.ref h.objs.size,.ref (h.push o1).objs.size] }).objs.size] }
theorem zq_size (h:Heap) (o1 o2:Obj):(((((h.push o1).push o2).push { cls:=.type "tuple",data:=.seq #[.ref h.objs.size,.ref (h.push o1).objs.size] }).push { cls:=.type "tuple",data:=.seq #[.none,.none] })).objs.size=h.objs.size + 4:=by
 rw [Heap.size_push,Heap.size_push,Heap.size_push,Heap.size_push]
theorem zip_new_TL (l1 l2:Addr) (xs ys:Array Value):Meets (Builtin.«zip.__new__» ⟨[.type "zip",.ref l1,.ref l2],[]⟩) (fun _ R s=>s.heap.IsTuple l1 xs∧s.heap.IsList l2 ys∧
  R (.ok (.ret (.ref (s.heap.objs.size + 4)))) { s with heap:=zq s.heap { cls:=.type "tuple_iterator",data:=.fields #[.ref l1,.int 0 0] } { cls:=.type "list_iterator",data:=.fields #[.ref l2,.int 0 0] } }):=
 .of_wp fun prog w A R s h=>by
  obtain ⟨hp,g,d,tk,os⟩:=s
  obtain ⟨hl1,hl2,h⟩:=h
  have hs:=sub_zip
  have t1:Heap.IsTuple (Shared.heap ⟨hp,g,d,tk,os⟩) l1 xs:=hl1
  have t2:Heap.IsList (Shared.heap ⟨hp.push { cls:=.type "tuple_iterator",data:=.fields #[.ref l1,.int 0 0] },g,d,tk,os⟩) l2 ys:=Heap.IsList.push hl2 _
  rw [← zq_size hp { cls:=.type "tuple_iterator",data:=.fields #[.ref l1,.int 0 0] } { cls:=.type "list_iterator",data:=.fields #[.ref l2,.int 0 0] }] at h
  wp_walk using wpAny_pyIter_tuple t1,wpAny_pyIter_list t2
  exact ⟨_,rfl,h⟩
theorem zip_new_ST (x:Str) (t:Tok) (l2:Addr) (ys:Array Value) (ha:x.cps.all (· < 128)=true):Meets (Builtin.«zip.__new__» ⟨[.type "zip",.str x t,.ref l2],[]⟩) (fun _ R s=>s.heap.IsTuple l2 ys∧
  R (.ok (.ret (.ref (s.heap.objs.size + 4)))) { s with heap:=zq s.heap { cls:=.type "str_ascii_iterator",data:=.fields #[.str x t,.int 0 0] } { cls:=.type "tuple_iterator",data:=.fields #[.ref l2,.int 0 0] } }):=
 .of_wp fun prog w A R s h=>by
  obtain ⟨hp,g,d,tk,os⟩:=s
  obtain ⟨hl2,h⟩:=h
  have hs:=sub_zip
  have t2:Heap.IsTuple (Shared.heap ⟨hp.push { cls:=.type "str_ascii_iterator",data:=.fields #[.str x t,.int 0 0] },g,d,tk,os⟩) l2 ys:=Heap.IsTuple.push hl2 _
  rw [← zq_size hp { cls:=.type "str_ascii_iterator",data:=.fields #[.str x t,.int 0 0] } { cls:=.type "tuple_iterator",data:=.fields #[.ref l2,.int 0 0] }] at h
  wp_walk using wpAny_pyIter_ascii ha,wpAny_pyIter_tuple t2
  exact ⟨_,rfl,h⟩
theorem zq_at (h:Heap) (o1 o2:Obj) (f1:o1.isFreed=false) (f2:o2.isFreed=false):IsZip (zq h o1 o2) (h.objs.size + 4) (h.objs.size + 2) (h.objs.size + 3) .none∧IsPair (zq h o1 o2) (h.objs.size + 2) (.ref h.objs.size) (.ref (h.objs.size + 1))∧IsPair (zq h o1 o2) (h.objs.size + 3) .none .none∧
  (zq h o1 o2).get? h.objs.size=some o1∧(zq h o1 o2).get? (h.objs.size + 1)=some o2∧∀ c o,h.get? c=some o→(zq h o1 o2).get? c=some o:=by
 have z1:(h.push o1).objs.size=h.objs.size + 1:=Heap.size_push ..
 have z2:((h.push o1).push o2).objs.size=h.objs.size + 2:=by rw [Heap.size_push,z1]
 have z3:(((h.push o1).push o2).push { cls:=.type "tuple",data:=.seq #[.ref h.objs.size,.ref (h.push o1).objs.size] }).objs.size=h.objs.size + 3:=by rw [Heap.size_push,z2]
 have z4:=zq_size h o1 o2
 have g5:(zq h o1 o2).get? _=some _:=Heap.get?_push_size _ rfl
 have g4:(zq h o1 o2).get? _=some _:=Heap.get?_push_of_some _ (Heap.get?_push_size _ rfl)
 have g3:(zq h o1 o2).get? _=some _:=Heap.get?_push_of_some _ (Heap.get?_push_of_some _ (Heap.get?_push_size _ rfl))
 have g2:(zq h o1 o2).get? _=some o2:=Heap.get?_push_of_some _ (Heap.get?_push_of_some _ (Heap.get?_push_of_some _ (Heap.get?_push_size _ f2)))
 have g1:(zq h o1 o2).get? _=some o1:=Heap.get?_push_of_some _ (Heap.get?_push_of_some _ (Heap.get?_push_of_some _ (Heap.get?_push_of_some _ (Heap.get?_push_size _ f1))))
 rw [z4,z2,z3] at g5
 rw [z3] at g4
 rw [z2,z1] at g3
 rw [z1] at g2
 exact ⟨g5,g3,g4,g1,g2,fun c o x=>Heap.get?_push_of_some _ (Heap.get?_push_of_some _ (Heap.get?_push_of_some _ (Heap.get?_push_of_some _ (Heap.get?_push_of_some _ x))))⟩
theorem ap_nat (n:Nat):n + 2≠n + 4∧n + 3≠n + 4∧n≠n + 4∧n + 1≠n + 4∧n + 2≠n + 3∧n + 2≠n∧n + 2≠n + 1∧n + 3≠n∧n + 3≠n + 1∧n≠n + 1:=by omega
theorem ap_lt {b n:Nat} (h:b < n):b≠n + 4∧b≠n + 3∧b≠n∧b≠n + 1:=by omega
theorem apart_new {n:Nat} {s1 s2:List Addr} (h1:∀ b∈s1,b < n) (h2:∀ b∈s2,b < n):Apart (n + 4) (n + 2) (n + 3) n (n + 1) s1 s2:=
 let ⟨e1,e2,e3,e4,e5,e6,e7,e8,e9,e10⟩:=ap_nat n
 ⟨e1,e2,e3,e4,e5,e6,e7,e8,e9,e10,fun b hb=>ap_lt (h1 b hb),fun b hb=>ap_lt (h2 b hb)⟩
section
variable {X:Cx}
theorem zip_pie {es:List Expr} {k:Nat} {post:Pos} {pins:List (Addr × Obj)} {σ:St} {H1:Hp} {s1:Shared} {R:It→Hp→Prop} {E:Value→Shared→Prop} {S1 S2:Src} {o1 o2:Obj} (I1:Inv X pins σ H1 s1) (O1:SrcOk S1) (O2:SrcOk S2) (f1:o1.isFreed=false) (f2:o2.isFreed=false)
  (l1:∀ b∈S1.src,b < s1.heap.objs.size) (l2:∀ b∈S2.src,b < s1.heap.objs.size) (m1:∀ h it,h.get? it=some o1→S1.itr h it 0) (m2:∀ h it,h.get? it=some o2→S2.itr h it 0) (q:R (ItP X.K S1 S2) H1) :
  wpAny (model X.prog X.w) X.A (pyIter (.ref (s1.heap.objs.size + 4))) (PIE X pins σ (.Tuple es k post) R) E { s1 with heap:=zq s1.heap o1 o2 }:=by
 obtain ⟨c1,c2,c3,c4,c5,kp⟩:=zq_at s1.heap o1 o2 f1 f2
 have T:=turn_zipP (P:=X.prog) (w:=X.w) (K:=X.K) (es:=es) (k:=k) (pos:=post) O1 O2 (apart_new l1 l2)
 have st:IsZip (zq s1.heap o1 o2) (s1.heap.objs.size + 4) (s1.heap.objs.size + 2) (s1.heap.objs.size + 3) .none∧IsPair (zq s1.heap o1 o2) (s1.heap.objs.size + 2) (.ref s1.heap.objs.size) (.ref (s1.heap.objs.size + 1))∧(∃ x y,IsPair (zq s1.heap o1 o2) (s1.heap.objs.size + 3) x y)∧S1.itr (zq s1.heap o1 o2) s1.heap.objs.size 0∧S2.itr (zq s1.heap o1 o2) (s1.heap.objs.size + 1) 0:=
  ⟨c1,c2,⟨_,_,c3⟩,m1 _ _ c4,m2 _ _ c5⟩
 have I2:Inv X pins σ H1 { s1 with heap:=zq s1.heap o1 o2 }:=I1.kept (t':=s1.toks) kp
 refine T.self X.A 0 { s1 with heap:=zq s1.heap o1 o2 } _ _ st ?_
 refine ⟨_,_,_,_,H1,rfl,I2,T,st,fun c hc=>?_,q⟩
 have hn:s1.heap.objs.size≤c:=by
  simp only [List.mem_cons,List.not_mem_nil,or_false] at hc
  rcases hc with e | e | e | e | e <;> rw [e]
  ·exact Nat.le_add_right _ _
  ·exact Nat.le_add_right _ _
  ·exact Nat.le_add_right _ _
  ·exact Nat.le_refl _
  ·exact Nat.le_add_right _ _
 exact I1.fpOk hn (I1.hok.fresh hn)
def iZipTL (K:PySem.W.Frag) (ta:TA):TI:=fun σ H R=>ta σ H fun vs H1=>∃ a b,vs=[.ref a,.ref b]∧(∃ xs,SqT K H1 a xs)∧(∃ ys,SqL K H1 b ys)∧R (ItP K (srcT a) (srcL b)) H1
theorem pi_zipTL {es:List Expr} {k:Nat} {post:Pos} {a b:Expr} {ta:TA} {p pos:Pos} (hg:Gl X "zip") (hm:X.mg "zip" = none) (ha:PA X [a,b] ta) (hs:starEach [a,b] X.env=(false,eval a X.env)::starEach [b] X.env:=by rfl) (hz:((backTo pos (starEach [b] X.env)).any fun x=>x.fst)=false:=by rfl) :
  PI X (.Tuple es k post) (.Call (.Name "zip" p) [a,b] [] pos) (iZipTL X.K ta):=by
 intro pins s σ H R I h
 refine Call_ (ld_blt I hg hm PyProof.Rows.boot_zip (PyProof.Rows.callWith_type1 (thn (ha pos pins s σ H _ I h) fun us s1 hp=>?_) hs hz))
 obtain ⟨vs,H1,I1,r1,l1,l2,rfl,⟨xs,hq⟩,⟨ys,hq2⟩,q⟩:=hp
 obtain ⟨u,u2,rfl,ru,ru2⟩:=r1.two
 cases (show u=Value.ref l1 from ru)
 cases (show u2=Value.ref l2 from ru2)
 obtain ⟨its,rv,pl,hz⟩:=I1.tuple hq
 obtain ⟨its2,rv2,pl2,hz2⟩:=I1.list hq2
 have lt1:l1 < s1.heap.objs.size:=by obtain ⟨_,e,_⟩:=pl; exact Heap.lt_size e
 have lt2:l2 < s1.heap.objs.size:=by obtain ⟨_,e,_⟩:=pl2.isList; exact Heap.lt_size e
 refine callType_new F.called_zip (by decide) (F.typeCall_zip_2 _ _) (F.newCall_zip_2 _ _) (fun obj=>F.args_object_init_3 obj _ _) F.entry_zip_new (zip_new_TL l1 l2 its.toArray its2.toArray) ⟨pl,pl2.isList,?_⟩
 obtain ⟨c1,_⟩:=zq_at s1.heap { cls:=.type "tuple_iterator",data:=.fields #[.ref l1,.int 0 0] } { cls:=.type "list_iterator",data:=.fields #[.ref l2,.int 0 0] } rfl rfl
 exact ⟨⟨_,c1,rfl⟩,zip_pie I1 (okT l1) (okL l2) rfl rfl (fun b hb=>by rw [List.mem_singleton.mp (show b∈[l1] from hb)]; exact lt1) (fun b hb=>by rw [List.mem_singleton.mp (show b∈[l2] from hb)]; exact lt2) (fun h it e=>⟨_,e,rfl,rfl⟩) (fun h it e=>⟨_,e,rfl,rfl⟩) q⟩
def iZipST (K:PySem.W.Frag) (ta:TA):TI:=fun σ H R=>ta σ H fun vs H1=>∃ x b,vs=[.str x,.ref b]∧x.cps.all (· < 128)=true∧(∃ ys,SqT K H1 b ys)∧∀ t,R (ItP K (srcS x t) (srcT b)) H1
theorem pi_zipST {es:List Expr} {k:Nat} {post:Pos} {a b:Expr} {ta:TA} {p pos:Pos} (hg:Gl X "zip") (hm:X.mg "zip" = none) (ha:PA X [a,b] ta) (hs:starEach [a,b] X.env=(false,eval a X.env)::starEach [b] X.env:=by rfl) (hz:((backTo pos (starEach [b] X.env)).any fun x=>x.fst)=false:=by rfl) :
  PI X (.Tuple es k post) (.Call (.Name "zip" p) [a,b] [] pos) (iZipST X.K ta):=by
 intro pins s σ H R I h
 refine Call_ (ld_blt I hg hm PyProof.Rows.boot_zip (PyProof.Rows.callWith_type1 (thn (ha pos pins s σ H _ I h) fun us s1 hp=>?_) hs hz))
 obtain ⟨vs,H1,I1,r1,x,l2,rfl,hasc,⟨ys,hq2⟩,q⟩:=hp
 obtain ⟨u,u2,rfl,ru,ru2⟩:=r1.two
 obtain ⟨t,rfl⟩:=ru
 cases (show u2=Value.ref l2 from ru2)
 obtain ⟨its2,rv2,pl2,hz2⟩:=I1.tuple hq2
 have lt2:l2 < s1.heap.objs.size:=by obtain ⟨_,e,_⟩:=pl2; exact Heap.lt_size e
 refine callType_new F.called_zip (by decide) (F.typeCall_zip_2 _ _) (F.newCall_zip_2 _ _) (fun obj=>F.args_object_init_3 obj _ _) F.entry_zip_new (zip_new_ST x t l2 its2.toArray hasc) ⟨pl2,?_⟩
 obtain ⟨c1,_⟩:=zq_at s1.heap { cls:=.type "str_ascii_iterator",data:=.fields #[.str x t,.int 0 0] } { cls:=.type "tuple_iterator",data:=.fields #[.ref l2,.int 0 0] } rfl rfl
 exact ⟨⟨_,c1,rfl⟩,zip_pie I1 (okS x t) (okT l2) rfl rfl (fun b hb=>by cases hb) (fun b hb=>by rw [List.mem_singleton.mp (show b∈[l2] from hb)]; exact lt2) (fun h it e=>⟨_,e,rfl,rfl⟩) (fun h it e=>⟨_,e,rfl,rfl⟩) (q t)⟩
end
theorem for_zipP {K:PySem.W.Frag} {S1 S2:Src} {xs ys:List V} {g:TG} {tb:TS} {D:Ends} {σ:St} {H:Hp} (Pv:Nat→St→Hp→Prop) (hlen:xs.length=ys.length) (h0:Pv 0 σ H) (hl:∀ i σ H,i≤xs.length→Pv i σ H→S1.rd K H xs∧S2.rd K H ys)
  (hs:∀ i x y σ H t,xs[i]?=some x→ys[i]?=some y→Pv i σ H→H t=none→g (.ref t) σ (upd H t (.tup [x,y])) fun σ2 H2=>tb { D with nx:=Pv (i + 1),ct:=Pv (i + 1),bk:=D.nx } σ2 H2) (hd:∀ σ H,Pv xs.length σ H→D.nx σ H) :
  ∃ W:Nat→Nat→St→Hp→Prop,(∃ m,W 0 m σ H)∧∀ i m σ H,W i m σ H→
   ((ItP K S1 S2).stop i H∧D.nx σ H)∨((ItP K S1 S2).go i H∧∃ N:St→Hp→Prop,(∀ σ' H',N σ' H'→∃ m',m' < m∧W (i + 1) m' σ' H')∧∀ x H',(ItP K S1 S2).yld i H x H'→g x σ H' fun σ2 H2=>tb { D with nx:=N,ct:=N,bk:=D.nx } σ2 H2):=by
 refine ⟨fun i m σ H=>i≤xs.length∧m=xs.length - i∧Pv i σ H,⟨xs.length,Nat.zero_le _,rfl,h0⟩,fun i m σ H hw=>?_⟩
 obtain ⟨hi,rfl,hp⟩:=hw
 obtain ⟨hq,hq2⟩:=hl i σ H hi hp
 by_cases hlt:i < xs.length
 ·refine .inr ⟨⟨xs,ys,hq,hq2,hlt,by omega⟩,Pv (i + 1),fun σ' H' h'=>⟨xs.length - (i + 1),by omega,by omega,rfl,h'⟩,fun x H' hy=>?_⟩
  obtain ⟨t,nt,rfl,hv⟩:=hy
  obtain ⟨v,u,ev,eu,rfl⟩:=hv xs ys hq hq2
  exact hs i v u σ H t ev eu hp nt
 ·have e:i=xs.length:=by omega
  subst e
  exact .inl ⟨⟨xs,hq,Nat.le_refl _⟩,hd σ H hp⟩
theorem comp_zipP {K:PySem.W.Frag} {S1 S2:Src} {xs ys:List V} {vn:Nat} {g:TG} {tc:TT} {te:TE} {σ:St} {p:Addr} {H1:Hp} {Q:Hp→Prop} (Pv:Nat→Hp→Prop) (hlen:xs.length=ys.length) (h0:Pv 0 (upd H1 p (.lst []))) (hl:∀ i H,i≤xs.length→Pv i H→S1.rd K H xs∧S2.rd K H ys)
  (hs:∀ i x y H t,xs[i]?=some x→ys[i]?=some y→Pv i H→H t=none→g (.ref t) (List.replicate vn none++σ) (upd H t (.tup [x,y])) fun σ2 H2=>(∃ τ:St,σ2=τ++σ∧τ.length=vn)∧tc σ2 H2 fun b H3=>
   if b=true then te σ2 H3 fun v H4=>∃ acc,H4 p=some (.lst acc)∧acc.length < sizeLine∧Pv (i + 1) (upd H4 p (.lst (acc++[v]))) else Pv (i + 1) H3) (hd:∀ H,Pv xs.length H→Q H):tCompW (ItP K S1 S2) vn g tc te σ p H1 Q:=by
 refine ⟨fun i m H=>i≤xs.length∧m=xs.length - i∧Pv i H,⟨xs.length,Nat.zero_le _,rfl,h0⟩,fun i m H hw=>?_⟩
 obtain ⟨hi,rfl,hp⟩:=hw
 obtain ⟨hq,hq2⟩:=hl i H hi hp
 by_cases hlt:i < xs.length
 ·refine .inr ⟨⟨xs,ys,hq,hq2,hlt,by omega⟩,Pv (i + 1),fun H' h'=>⟨xs.length - (i + 1),by omega,by omega,rfl,h'⟩,fun x H' hy=>?_⟩
  obtain ⟨t,nt,rfl,hv⟩:=hy
  obtain ⟨v,u,ev,eu,rfl⟩:=hv xs ys hq hq2
  exact hs i v u H t ev eu hp nt
 ·have e:i=xs.length:=by omega
  subst e
  exact .inl ⟨⟨xs,hq,Nat.le_refl _⟩,hd H hp⟩
section
variable {X:Cx}
def rSlS:V→Option Int→Option Int→Hp→VK→Prop:=fun x lo hi H Q=>∃ z,x=.str z∧z.length≤sizeLine∧Q (.str (Txt.slice z lo hi)) H
theorem sl_str:SlR X rSlS:=by
 intro pins s σ H x v vl vu lo hi sl Q I rx hs pl pu h
 obtain ⟨z,rfl,hz,q⟩:=h
 obtain ⟨t,rfl⟩:=rx
 refine ⟨"str",_,F.slot_str_getitem.lookup,typeIs_str _ _ _,?_⟩
 have fin:∀ (l u:Option (Int × Tok)),l.map (·.1)=lo→u.map (·.1)=hi→(sliceMade z t l u none).post (EP X pins σ Q) s:=fun l u e1 e2=>by
  subst e1 e2
  cases l <;> cases u <;> exact post_val_or_str ⟨Nat.le_trans (Txt.slice_le z _ _) hz,fun t' k=>⟨.str _,H,I.tok k,⟨_,rfl⟩,q⟩⟩
 cases pl with
 | none=>
  cases pu with
  | none=>exact wpAny_getItem_str_slice (l:=none) (u:=none) (st:=none) hs rfl (fin none none rfl rfl)
  | int j tj=>exact wpAny_getItem_str_slice (l:=none) (u:=some (j,tj)) (st:=none) hs rfl (fin none (some (j,tj)) rfl rfl)
 | int i ti=>
  cases pu with
  | none=>exact wpAny_getItem_str_slice (l:=some (i,ti)) (u:=none) (st:=none) hs rfl (fin (some (i,ti)) none rfl rfl)
  | int j tj=>exact wpAny_getItem_str_slice (l:=some (i,ti)) (u:=some (j,tj)) (st:=none) hs rfl (fin (some (i,ti)) (some (j,tj)) rfl rfl)
end
theorem fm_congr {α β:Type} {f g:α→Option β}:∀ {l:List α},(∀ a∈l,f a=g a)→l.filterMap f=l.filterMap g
 | [],_=>rfl
 | a::l,h=>by rw [List.filterMap_cons,List.filterMap_cons,h a List.mem_cons_self,fm_congr fun x hx=>h x (List.mem_cons_of_mem _ hx)]
theorem ind_from (k n:Nat) (h:k≤n):Builtin.Str.strSliceIndices (some (k:Int)) none 1 n=(List.range (n - k)).map fun j=>k + j:=by
 unfold Builtin.Str.strSliceIndices sliceRange
 have e1:¬ ((k:Int) < 0):=by omega
 have e2:max (0:Int) (min (k:Int) (n:Int))=(k:Int):=by omega
 simp only [show (1:Int) > 0 from by decide,if_true,e1,if_false,e2]
 have e3:(if (k:Int) < (n:Int) then ((n:Int) - (k:Int) + 1 - 1) / 1 else 0).toNat=n - k:=by
  split
  ·rw [Int.ediv_one]; omega
  ·omega
 rw [e3]
 refine List.map_congr_left fun j _=>?_
 omega
theorem pick_from (l:List Nat) (k:Nat):∀ (m:Nat),k + m=l.length→((List.range m).map fun j=>k + j).filterMap (fun i=>l[i]?)=l.drop k:=fun m hm=>by
 rw [List.filterMap_map]
 have e:∀ j∈List.range m,(fun j=>l[k + j]?) j=some ((l.drop k).getD j 0):=fun j hj=>by
  have hj':=List.mem_range.mp hj
  have hl:k + j < l.length:=by omega
  show l[k + j]?=_
  rw [List.getD_eq_getElem?_getD,List.getElem?_drop,List.getElem?_eq_getElem hl]
  rfl
 have e2:(List.range m).filterMap (fun j=>l[k + j]?)=(List.range m).map fun j=>(l.drop k).getD j 0:=by
  rw [← List.filterMap_eq_map]
  exact fm_congr fun j hj=>e j hj
 refine Eq.trans e2 ?_
 refine List.ext_getElem? fun j=>?_
 rw [List.getElem?_map]
 by_cases hj:j < m
 ·rw [List.getElem?_range hj]
  have hl:k + j < l.length:=by omega
  show some ((l.drop k).getD j 0)=_
  rw [List.getD_eq_getElem?_getD,List.getElem?_drop,List.getElem?_eq_getElem hl]
  rfl
 ·rw [List.getElem?_eq_none (by rw [List.length_range]; omega),List.getElem?_eq_none (by rw [List.length_drop]; omega)]
  rfl
theorem slice_from (x:Str) (k:Nat) (h:k≤x.length):(Txt.slice x (some (k:Int)) none).cps.toList=x.cps.toList.drop k:=by
 unfold Txt.slice
 rw [ind_from k x.length h]
 have hl:x.cps.toList.length=x.length:=Array.length_toList
 split
 ·rename_i hc
  simp only [List.length_map,List.length_range,Bool.and_eq_true,beq_iff_eq] at hc
  have:k=0∨x.length=0:=by omega
  rcases this with rfl | h0
  ·rfl
  ·have:x.cps.toList=[]:=List.eq_nil_of_length_eq_zero (by omega)
   rw [this,List.drop_nil]
 ·have:=pick_from x.cps.toList k (x.length - k) (by omega)
  rw [← this]
  show List.filterMap _ _=_
  exact fm_congr fun i _=>by rw [Array.getElem?_toList]
section
variable {X:Cx}
end
section
variable {M:Model} {A:Around} {E:Value→Shared→Prop} {s:Shared} {base:Heap} {env:Env} {outer l:List Env} {L e:Addr} {c fl:Value} {od:Option Addr} {lo:Nat} {Q:Unit→Shared→Prop}
theorem xf_any (hfr:A.frames=some (env::outer)) (hf:env.frame=some L) (hx:XFly lo base (env::outer) e c od fl s.heap)
  (h:∀ h',XFly lo base (env::outer) e c od (rawInt L) h'→s.heap.UpToSlots h'→Q () { s with heap:=h' }):wpAny M A (noteFrame (.ref e) env) Q E s:=by
 have hx0:=hx
 obtain ⟨hkb,hen,hl,vs,sl,T,oT,ts,he,h1,hnT,hTe,hT,hdT,h3,hloT⟩:=hx
 unfold noteFrame
 simp only [hf]
 refine wpAny_bind (wpAny_field he rfl h1 ?_)
 rw [if_pos (show (Value.ref T != Value.none)=true from by simp)]
 refine wpAny_bind (wpAny_field hT hdT h3 ?_)
 by_cases hfl:fl=rawInt L
 ·subst hfl
  rw [if_pos (beq_self_eq_true _)]
  exact wpAny_pure (h s.heap hx0 fun b o hb _=>⟨o.slots,hb⟩)
 rw [if_neg (show ¬ ((fl == rawInt L)=true) from fun z=>hfl (by simpa using z))]
 refine wpAny_bind (wpAny_setField hT hdT (Array.getElem?_eq_some_iff.mp h3).1 ?_)
 have other:∀ b,b≠T→(s.heap.update T (Obj.mapFields (·.setIfInBounds 3 Value.none))).get? b=s.heap.get? b:=fun b hb=>Heap.get?_update_other _ _ (Ne.symm hb)
 have noRecord:∀ b o,s.heap.get? b=some o→(∀ vs,o.data≠.fields vs)→b≠T:=fun b o hb hnf q=>by
  rw [q,hT] at hb; injection hb with hb; subst hb; exact hnf ts hdT
 exact xf_entry hfr (hl.of_keeps fun b o hb hnf=>⟨o,(other b (noRecord b o hb hnf)).trans hb,rfl⟩) hf ((other e (Ne.symm hTe)).trans he)
  (fun b o hbo=>(other b fun q=>by rw [q,hnT] at hbo; cases hbo).trans (hkb b o hbo)) hen (Array.getElem?_eq_some_iff.mp h1).1 (Nat.le_of_lt (Nat.lt_of_le_of_lt hloT (Heap.lt_size (Heap.get?_update_self _ hT (Obj.isFreed_of_fields (Obj.data_mapFields hdT _))))))
  fun h' x1 x4=>h h' x1 fun b o hb hnf=>x4 b o ((other b (noRecord b o hb hnf)).trans hb) hnf
theorem xf_set (fr:Option Addr) (hx:XFly lo base l e c od fl s.heap) (h:∀ h',XFly lo base l e c od (fr.elim Value.none fun f=>rawInt f) h'→s.heap.UpToSlots h'→Q () { s with heap:=h' }):wpAny M A (setFlight (.ref e) fr) Q E s:=by
 obtain ⟨hkb,hen,hl,vs,sl,T,oT,ts,he,h1,hnT,hTe,hT,hdT,h3,hloT⟩:=hx
 have hsz3:3 < ts.size:=(Array.getElem?_eq_some_iff.mp h3).1
 have other:∀ b,b≠T→(s.heap.update T (Obj.mapFields (·.setIfInBounds 3 (fr.elim Value.none fun f=>rawInt f)))).get? b=s.heap.get? b:=
  fun b hb=>Heap.get?_update_other _ _ (Ne.symm hb)
 have noRecord:∀ b o,s.heap.get? b=some o→(∀ vs,o.data≠.fields vs)→b≠T:=fun b o hb hnf q=>by
  rw [q,hT] at hb; injection hb with hb; subst hb; exact hnf ts hdT
 unfold setFlight
 refine wpAny_bind (wpAny_field he rfl h1 ?_)
 rw [if_pos (show (Value.ref T != Value.none)=true from by simp)]
 refine wpAny_setField hT hdT hsz3 (h _ ⟨fun b o hbo=>(other b fun q=>by rw [q,hnT] at hbo; cases hbo).trans (hkb b o hbo),hen,
  hl.of_keeps fun b o hb hnf=>⟨o,(other b (noRecord b o hb hnf)).trans hb,rfl⟩,vs,sl,T,_,_,(other e (Ne.symm hTe)).trans he,h1,hnT,hTe,Heap.get?_update_self _ hT (Obj.isFreed_of_fields (Obj.data_mapFields hdT _)),Obj.data_mapFields hdT _,by simp [hsz3],hloT⟩
  fun b o hb hnf=>⟨o.slots,(other b (noRecord b o hb hnf)).trans hb⟩)
end
def Flies (X:Cx) (pins:List (Addr × Obj)) (σ:St) (H:Hp) (s:Shared) (a C dx:Addr) (fl:Value):Prop:=
 Inv X pins σ H s∧X.s₀.heap.objs.size≤a∧H a=some (XHad a C (some dx))∧∃ T vs sl oT ts,s.heap.get? a=some ⟨.ref C,some dx,.fields vs,sl⟩∧vs[1]?=some (.ref T)∧T≠a∧s.heap.get? T=some oT∧oT.data=.fields ts∧ts[3]?=some fl∧
  X.s₀.heap.objs.size≤T∧H T=none∧T≠X.env.locals∧(∀ x c,X.env.cells.lookup x=some c→c≠T)∧∀ p∈X.pn++pins,p.1≠T
def XPass (X:Cx) (E:XK):Prop:=∀ pins σ H s a C dx fl,Flies X pins σ H s a C dx fl→E (.ref C) (some dx) H→X.xe (.ref a) s
section
variable {X:Cx} {pins:List (Addr × Obj)} {σ:St} {H:Hp} {s:Shared} {a C dx:Addr} {fl:Value}
theorem Flies.of_cx1 {E:XK} {e:Value} {s':Shared} (I:Inv X pins σ H s) (q:CX1 X.prog X.w X.stack H s E e s'):∃ a C dx H',e=.ref a∧Flies X pins σ H' s' a C dx .none∧E (.ref C) (some dx) H':=by
 obtain ⟨a,C,dx,T,H',rfl,os,bare,un,hok,hza,ea,⟨vs,sl,oT,ts,g1,g2,g4,g5,g6,g7⟩,hzT,hT,hE⟩:=q
 have I2:Inv X pins σ H' s':=I.call' os un hok bare (fun b z=>absurd z (by simp))
 refine ⟨a,C,dx,H',rfl,⟨I2,Nat.le_trans I.sz hza,ea,T,vs,sl,oT,ts,g1,g2,g4,g5,g6,g7,Nat.le_trans I.sz hzT,hT,?_,?_,?_⟩,hE⟩
 ·exact Nat.ne_of_gt (Nat.lt_of_lt_of_le I.lt hzT)
 ·intro y c e
  obtain ⟨v,o,ho,_⟩:=I.cell y c e
  exact Nat.ne_of_lt (Nat.lt_of_lt_of_le (Heap.lt_size ho) hzT)
 ·exact fun p hp=>Nat.ne_of_lt (Nat.lt_of_lt_of_le (Heap.lt_size (I.pin p hp).1) hzT)
theorem Flies.go {fl':Value} {Q:Unit→Shared→Prop} {M:Model} {A:Around} {E:Value→Shared→Prop} {act:Sem Unit} (F:Flies X pins σ H s a C dx fl)
  (hact:∀ lo base,XFly lo base X.stack a (.ref C) (some dx) fl s.heap→(∀ h',XFly lo base X.stack a (.ref C) (some dx) fl' h'→s.heap.UpToSlots h'→Q () { s with heap:=h' })→wpAny M A act Q E s)
  (h:∀ h',Flies X pins σ H { s with heap:=h' } a C dx fl'→Q () { s with heap:=h' }):wpAny M A act Q E s:=by
 obtain ⟨I,hza,ea,T,vs,sl,oT,ts,g1,g2,g4,g5,g6,g7,hlo,hT,hTL,hTc,hTp⟩:=F
 have fly:XFly X.s₀.heap.objs.size (PySem.W.hideAll s.heap (a::T::frs X.stack)) X.stack a (.ref C) (some dx) fl s.heap:=
  ⟨fun b o e=>PySem.W.of_hideAll _ e,PySem.W.hideAll_none _ (.head _),PySem.W.funFrames_hide I.stack fun env he b hb=>.tail _ (.tail _ (List.mem_filterMap.mpr ⟨env,he,hb⟩)),
   vs,sl,T,oT,ts,g1,g2,PySem.W.hideAll_none _ (.tail _ (.head _)),g4,g5,g6,g7,hlo⟩
 refine hact _ _ fly fun h' fly' up=>h h' ?_
 have I':Inv X pins σ H { s with heap:=h',toks:=s.toks }:=inv_fly I ea hT hlo hTL hTc hTp fly' up
 obtain ⟨_,_,_,vs4,sl4,T4,oT4,ts4,k1,k2,k3,k4,k5,k6,k7,k8⟩:=fly'
 have nf:T4∉frs X.stack:=fun m=>by
  obtain ⟨_,o',e',hd⟩:=I'.stack.mem m
  have e':h'.get? T4=some o':=e'
  rw [k5] at e'; cases e'
  exact hd _ k6
 have alt:T4=T∨s.heap.get? T4=none:=by
  cases q:s.heap.get? T4 with
  | none=>exact .inr rfl
  | some o=>
   have:T4∈a::T::frs X.stack:=Classical.byContradiction fun z=>by rw [PySem.W.hideAll_get _ q z] at k3; cases k3
   rcases List.mem_cons.mp this with z | z
   ·exact absurd z k4
   ·rcases List.mem_cons.mp z with z | z
    ·exact .inl z
    ·exact absurd z nf
 refine ⟨I',hza,ea,T4,vs4,sl4,oT4,ts4,k1,k2,k4,k5,k6,k7,k8,?_,?_,?_,?_⟩
 ·rcases alt with rfl | q
  ·exact hT
  ·cases r:H T4 with
   | none=>rfl
   | some u=>
    obtain ⟨o,e⟩:=(I.hok T4 u r).has
    rw [q] at e; cases e
 ·rcases alt with rfl | q
  ·exact hTL
  ·intro z
   obtain ⟨m,⟨o,_,_,ho,_⟩,_⟩:=I.loc
   rw [← z,q] at ho; cases ho
 ·intro x c e
  rcases alt with rfl | q
  ·exact hTc x c e
  ·intro z
   obtain ⟨v,o,ho,_⟩:=I.cell x c e
   rw [z,q] at ho; cases ho
 ·intro p hp
  rcases alt with rfl | q
  ·exact hTp p hp
  ·intro z
   have:=(I.pin p hp).1
   rw [z,q] at this; cases this
theorem Flies.note {env env':Env} {l:List Env} {L:Addr} {Q:Unit→Shared→Prop} {M:Model} {A:Around} {E:Value→Shared→Prop} (F:Flies X pins σ H s a C dx fl) (hst:X.stack=env::l) (hf:env.frame=some L) (hA:A.frames=some X.stack) (hc:env'.frame=env.frame)
  (h:∀ h',Flies X pins σ H { s with heap:=h' } a C dx (rawInt L)→Q () { s with heap:=h' }):wpAny M A (noteFrame (.ref a) env') Q E s:=by
 have e1:noteFrame (.ref a) env'=noteFrame (.ref a) env:=by
  unfold noteFrame PySem.frameOf
  rw [hc]
 rw [e1]
 refine F.go (fun lo base fly k=>?_) h
 rw [hst] at fly k hA
 exact xf_any hA hf fly k
theorem Flies.set (fr:Option Addr) {Q:Unit→Shared→Prop} {M:Model} {A:Around} {E:Value→Shared→Prop} (F:Flies X pins σ H s a C dx fl)
  (h:∀ h',Flies X pins σ H { s with heap:=h' } a C dx (fr.elim Value.none fun f=>rawInt f)→Q () { s with heap:=h' }):wpAny M A (setFlight (.ref a) fr) Q E s:=
 F.go (fun lo base fly k=>xf_set fr fly k) h
end
section
variable {P:Program} {w:World} {K:PySem.W.Frag} {mg:Str→Option Value} {base:Heap} {N:List Str} {qual:Str} {scope:Scope} {fa:Addr} {cd:Value} {A:Around} {outer:List Env} {s₀:Shared} {H₀:Hp} {E:XK}
theorem xpass_fn:XPass (cxOf (CX1 P w) P w K mg base N qual scope fa cd A outer s₀ H₀ E) E:=by
 intro pins σ H s a C dx fl F hE
 generalize hX:cxOf (CX1 P w) P w K mg base N qual scope fa cd A outer s₀ H₀ E=X at F ⊢
 have eS:X.stack=X.env::outer:=by subst hX; rfl
 have eO:X.outer=outer:=by subst hX; rfl
 have eF:X.env.frame=some X.env.locals:=by subst hX; rfl
 have es₀:X.s₀=s₀:=by subst hX; rfl
 have eH₀:X.H₀=H₀:=by subst hX; rfl
 have eex:X.ex=[]:=by subst hX; rfl
 have eP:X.prog=P:=by subst hX; rfl
 have ew:X.w=w:=by subst hX; rfl
 have exe:X.xe=fun e s'=>wpAny (model P w) X.A (leaving X.env e) (fun _ s''=>CX1 P w outer H₀ s₀ E e s'') (fun e' s''=>CX1 P w outer H₀ s₀ E e' s'') s':=by subst hX; rfl
 clear hX
 rw [exe]
 show wpAny (model P w) X.A (leaving X.env (.ref a)) _ _ s
 unfold leaving
 refine wpAny_bind (F.note eS eF F.1.ok.frames rfl fun h3 F3=>F3.set none fun h4 F4=>?_)
 obtain ⟨I4,hza,ea,T4,vs4,sl4,oT4,ts4,k1,k2,k4,k5,k6,k7,k8,nT4,_⟩:=F4
 have bas:=I4.base
 rw [es₀,eH₀,eex,show X.fs=frs outer from by show frs X.outer=_; rw [eO]] at bas
 have hok4:=I4.hok
 rw [eP,ew] at hok4
 exact ⟨a,C,dx,T4,H,rfl,I4.os.trans (by rw [es₀]),I4.bare,bas,hok4,by rw [← es₀]; exact hza,ea,⟨vs4,sl4,oT4,ts4,k1,k2,k4,k5,k6,k7⟩,by rw [← es₀]; exact k8,nT4,hE⟩
theorem pass_fn:Passes (CX1 P w) (cxOf (CX1 P w) P w K mg base N qual scope fa cd A outer s₀ H₀ E) E:=by
 intro pins σ H s e s' I q
 obtain ⟨a,C,dx,H',rfl,F,hE⟩:=Flies.of_cx1 I q
 exact xpass_fn _ _ _ _ _ _ _ _ F hE
variable {x:Str} {k:Nat} {ps:List Str} {sp:Sp} {p pos:Pos} {e:Expr} {es:List Expr} {t:TA}
theorem pe_clf (c:ClX P w K mg base x k ps sp) (hr:Room k (cxOf (CX1 P w) P w K mg base N qual scope fa cd A outer s₀ H₀ E).A) (hg:Gl (cxOf (CX1 P w) P w K mg base N qual scope fa cd A outer s₀ H₀ E) x)
  (ha:PA (cxOf (CX1 P w) P w K mg base N qual scope fa cd A outer s₀ H₀ E) (e::es) t) (hdb:(x == ("__debug__":Str))=false:=by decide)
  (he:starEach (e::es) (cxOf (CX1 P w) P w K mg base N qual scope fa cd A outer s₀ H₀ E).env=(false,eval e (cxOf (CX1 P w) P w K mg base N qual scope fa cd A outer s₀ H₀ E).env)::starEach es (cxOf (CX1 P w) P w K mg base N qual scope fa cd A outer s₀ H₀ E).env:=by rfl)
  (hpl:(backTo pos (starEach es (cxOf (CX1 P w) P w K mg base N qual scope fa cd A outer s₀ H₀ E).env)).any (·.1)=false:=by rfl) :
  PE (cxOf (CX1 P w) P w K mg base N qual scope fa cd A outer s₀ H₀ E) (.Call (.Name x p) (e::es) [] pos) (tClX sp E t):=by
 obtain ⟨f,fd,F,b,kp,m⟩:=c
 have h:=pe_call (X:=cxOf (CX1 P w) P w K mg base N qual scope fa cd A outer s₀ H₀ E) (CX:=CX1 P w) (E:=E) (pos:=pos) (p:=p) F hr hg m kp b .nil pass_fn ha hdb he hpl
 have e1:tCall sp [] E t=tClX sp E t:=by
  funext σ H Q
  unfold tCall tClX
  simp only [List.append_nil]
 rw [e1] at h
 exact h
end
def FlyIn (Y:Cx) (E:XK) (e:Value) (s':Shared):Prop:=∃ (pins':List (Addr × Obj)) (σ':St) (H':Hp) (a C' dx:Addr) (fl:Value),e=.ref a∧Flies Y pins' σ' H' s' a C' dx fl∧E (.ref C') (some dx) H'
abbrev Cx.cmpX (X:Cx) (E:XK) (scope:Scope) (cl:List (Str × Addr)) (vars:List Str) (C:Addr) (s:Shared) (H:Hp) (fp:List Addr) (pins:List (Addr × Obj)):Cx:=
 { X with N:=vars++X.N,s₀:=s,H₀:=H,env:=compEnvC scope cl C X.env,outer:=X.stack,stack:=X.stack,ex:=fp,fn:=fun _=>false,pn:=X.pn++pins,xe:=FlyIn (X.cmp scope cl vars C s H fp pins) E }
section
variable {X:Cx} {E:XK} {scope:Scope} {cl:List (Str × Addr)} {vars:List Str} {Cm:Addr} {sm:Shared} {Hm:Hp} {fp:List Addr} {pm pins:List (Addr × Obj)} {σ:St} {H:Hp} {s:Shared} {a C dx:Addr} {fl:Value}
theorem Inv.toX (I:Inv (X.cmp scope cl vars Cm sm Hm fp pm) pins σ H s):Inv (X.cmpX E scope cl vars Cm sm Hm fp pm) pins σ H s:=I.wish _
theorem Inv.ofX (I:Inv (X.cmpX E scope cl vars Cm sm Hm fp pm) pins σ H s):Inv (X.cmp scope cl vars Cm sm Hm fp pm) pins σ H s:=Inv.unwish (X:=X.cmp scope cl vars Cm sm Hm fp pm) I
theorem pass_cx:Passes (CX1 X.prog X.w) (X.cmpX E scope cl vars Cm sm Hm fp pm) E:=by
 intro pins σ H s e s' I q
 obtain ⟨a,C,dx,H',rfl,F,hE⟩:=Flies.of_cx1 I.ofX q
 exact ⟨_,_,_,_,_,_,_,rfl,F,hE⟩
variable {x:Str} {k:Nat} {ps:List Str} {sp:Sp} {p pos:Pos} {e:Expr} {es:List Expr} {t:TA}
theorem pe_clc (c:ClX X.prog X.w X.K X.mg X.base x k ps sp) (hr:Room k X.A) (hg:Gl (X.cmpX E scope cl vars Cm sm Hm fp pm) x) (ha:PA (X.cmpX E scope cl vars Cm sm Hm fp pm) (e::es) t) (hdb:(x == ("__debug__":Str))=false:=by decide)
  (he:starEach (e::es) (X.cmpX E scope cl vars Cm sm Hm fp pm).env=(false,eval e (X.cmpX E scope cl vars Cm sm Hm fp pm).env)::starEach es (X.cmpX E scope cl vars Cm sm Hm fp pm).env:=by rfl)
  (hpl:(backTo pos (starEach es (X.cmpX E scope cl vars Cm sm Hm fp pm).env)).any (·.1)=false:=by rfl):PE (X.cmpX E scope cl vars Cm sm Hm fp pm) (.Call (.Name x p) (e::es) [] pos) (tClX sp E t):=by
 obtain ⟨f,fd,F,b,kp,m⟩:=c
 have h:=pe_call (X:=X.cmpX E scope cl vars Cm sm Hm fp pm) (CX:=CX1 X.prog X.w) (E:=E) (pos:=pos) (p:=p) F hr hg m kp b .nil pass_cx ha hdb he hpl
 have e1:tCall sp [] E t=tClX sp E t:=by
  funext σ H Q
  unfold tCall tClX
  simp only [List.append_nil]
 rw [e1] at h
 exact h
theorem Flies.up {pd:List (Addr × Obj)} {σ':St} {h':Heap} (I:Inv X pd σ Hm sm) (f:∀ b∈fp,FpOk X pd Hm b) (F:Flies (X.cmp scope cl vars sm.heap.objs.size sm Hm fp pd) pins σ' H s a C dx fl) (hs:Heap.SameBut sm.heap.objs.size s.heap h') :
  Flies X pd σ H { s with heap:=h' } a C dx fl:=by
 obtain ⟨J,hza,ea,T,vs,sl,oT,ts,g1,g2,g4,g5,g6,g7,hlo,hT,hTL,hTc,hTp⟩:=F
 have J0:Inv (X.cmp scope cl vars sm.heap.objs.size sm Hm fp pd) [] σ' H s:=Inv.unpinned (pins:=[]) (pl:=pins) J
 have hza:sm.heap.objs.size≤a:=hza
 have hlo:sm.heap.objs.size≤T:=hlo
 have nC:a≠sm.heap.objs.size:=fun z=>by
  have:=J.free
  have this:H sm.heap.objs.size=none:=this
  rw [← z,ea] at this; cases this
 have nT:T≠sm.heap.objs.size:=hTL
 refine ⟨inv_cmp_end I f J0 hs,Nat.le_trans I.sz hza,ea,T,vs,sl,oT,ts,(hs.2 a nC).trans g1,g2,g4,(hs.2 T nT).trans g5,g6,g7,Nat.le_trans I.sz hlo,hT,?_,?_,?_⟩
 ·exact Nat.ne_of_gt (Nat.lt_of_lt_of_le I.lt hlo)
 ·intro y c e
  obtain ⟨v,o,ho,_⟩:=I.cell y c e
  exact Nat.ne_of_lt (Nat.lt_of_lt_of_le (Heap.lt_size ho) hlo)
 ·exact fun p hp=>Nat.ne_of_lt (Nat.lt_of_lt_of_le (Heap.lt_size (I.pin p hp).1) hlo)
end
section
variable {prog:Program} {w:World} {A:Around} {R:Result→Shared→Prop} {s:Shared}
theorem codeAny_compLoop_goX {elt target iter:Expr} {ifs:List Expr} {scope:Scope} {pos:Pos} {it acc:Value} {env:Env} {EE:Value→Shared→Prop} (hEE:∀ e s,EE e s→notedBy (model prog w) A env (fun e s'=>R (.error e) s') e s) (I:Nat→Shared→Prop)
  (turn:∀ n s,I n s→wpAny (model prog w) A (pyNext it) (fun r s₁=>match r with
   | none=>R (.ok .next) s₁
   | some v=>wpAny (model prog w) A (letOwnedTupleGo target it v) (fun _ s₂=>wpAny (model prog w) A (assign target env v) (fun _ s₂=>
     wpAny (model prog w) A (forIn ifs true fun c r=>if r=true then do let ok ← isTrue c env (eval c env); pure (ForInStep.yield ok) else pure (ForInStep.yield r)) (fun ok s₃=>
      if ok=true then wpAny (model prog w) A (eval elt env) (fun x s₄=>
       wpAny (model prog w) A (call (.builtin "list.append") [acc,x]) (fun _ s₅=>∃ m,m < n∧I m s₅) EE s₄) EE s₃
      else ∃ m,m < n∧I m s₃) EE s₂) EE s₂) EE s₁) EE s)
  (n:Nat) (h:I n s):codeAny (model prog w) A (.compLoop (.ListComp elt [⟨target,iter,ifs,0⟩] scope pos) 0 it acc env) R s:=by
 refine codeAny_loop rfl I (fun n s hI=>?_) n h
 show wpAny _ A ((compTurn (.ListComp elt [⟨target,iter,ifs,0⟩] scope pos) 0 it acc env).onRaise (fun x=>do noteFrame x env; theTreesLotGoes x)) _ _ s
 refine wpAny_noted ?_
 rw [compTurn_list]
 refine wpAny_bind (wpAny_standAt (wpAny_bind (wpAny_mono (turn n s hI) (fun r s₁ h₁=>?_) hEE)))
 cases r with
 | none=>exact wpAny_pure h₁
 | some v=>
  refine wpAny_bind (wpAny_mono h₁ (fun _ s₂ h₂=>?_) hEE)
  refine wpAny_bind (wpAny_mono h₂ (fun _ s₂ h₂=>wpAny_bind (wpAny_mono h₂ (fun ok s₃ h₃=>?_) hEE)) hEE)
  cases ok with
  | false=>exact wpAny_pure ⟨rfl,h₃⟩
  | true=>
   exact wpAny_bind (wpAny_bind (wpAny_mono h₃ (fun x s₄ h₄=>wpAny_bind (wpAny_mono h₄ (fun _ s₅ h₅=>wpAny_pure (wpAny_pure ⟨rfl,h₅⟩)) hEE)) hEE))
end
section
variable {X:Cx}
theorem comp_blockX {elt tg iter:Expr} {ifs:List Expr} {scope:Scope} {pos:Pos} {vars:List Str} {g:TG} {tc:TT} {te:TE} {cl:List (Str × Addr)} {EX:XK} {env₀:Env} {l₀:List Env} {L₀:Addr} (hst:X.stack=env₀::l₀) (hfr:env₀.frame=some L₀) (hfe:X.env.frame=env₀.frame) (hc:X.calm=true) (S:CmpScope X scope)
  (hg:∀ cl C s H fp pins,PG (X.cmpX EX scope cl vars C s H fp pins) tg g) (ht:∀ cl C s H fp pins,PIfs (X.cmpX EX scope cl vars C s H fp pins) ifs tc) (he:∀ cl C s H fp pins,PE (X.cmpX EX scope cl vars C s H fp pins) elt te)
  (c1:∀ p∈cl,X.env.cells.lookup p.1=some p.2) (c2:∀ y∈scope.names,y.2=.free→∃ c,(y.1,c)∈cl)
  {pins:List (Addr × Obj)} {s:Shared} {σ:St} {H:Hp} {it:Addr} {fp:List Addr} {tn:Nat→Heap→Prop} {J:It} {E:Value→Shared→Prop} (I:Inv X pins σ H s) (T:Turn X.prog X.w X.K tg J fp it tn) (st:tn 0 s.heap) (f:∀ b∈fp,FpOk X pins H b)
  {Q:Addr→Hp→Prop} (q:∀ p,H p=none→tCompW J vars.length g tc te σ p H (Q p)) {RR:Value→Addr→Result→Shared→Prop}
  (hRR:∀ (p C:Addr) (s':Shared) (H':Hp) (m:Str→Option Value),s'.heap.Ns C m→H' C=none→C≠X.env.locals→(∀ x c,X.env.cells.lookup x=some c→c≠C)→(∀ p∈X.pn++pins,p.1≠C)→X.s₀.heap.objs.size≤C→
   (∀ h',Heap.SameBut C s'.heap h'→Inv X pins σ H' { s' with heap:=h' })→Q p H'→RR (.ref p) C (.ok .next) s')
  (hRX:∀ (p C:Addr) (s':Shared) (m:Str→Option Value) (H':Hp) (a C' dx:Addr) (fl:Value),s'.heap.Ns C m→(∀ h',Heap.SameBut C s'.heap h'→Flies X pins σ H' { s' with heap:=h' } a C' dx fl)→EX (.ref C') (some dx) H'→RR (.ref p) C (.error (.ref a)) s') :
  wpAny (model X.prog X.w) X.A (newList []) (fun acc s₃=>wpAny (model X.prog X.w) X.A (newFunctionEnv scope X.env.globals cl [] X.env.qual none .none (some X.env)) (fun cenv s₄=>
   codeAny (model X.prog X.w) X.A (.compStart (.ListComp elt [⟨tg,iter,ifs,0⟩] scope pos) 0 (.ref it) acc { cenv with scope:=relabel scope X.env }) (RR acc cenv.locals) s₄) E s₃) E s:=by
 refine wpAny_newObj_type (wpAny_newFunctionEnv S.nocell (by intro y hy; simp at hy) (fun h₁ hns hsb=>?_) S.kind)
 dsimp only at hns hsb ⊢
 have I3:Inv X pins σ (upd H s.heap.objs.size (.lst [])) { s with heap:=s.heap.push { cls:=.type "list",data:=.seq ([]:List Value).toArray },toks:=s.toks }:=I.lnew (its:=[]) .nil (Nat.zero_le _)
 generalize hs3:({ s with heap:=s.heap.push { cls:=.type "list",data:=.seq ([]:List Value).toArray },toks:=s.toks }:Shared)=s3 at I3
 have hp:H s.heap.objs.size=none:=I.fresh
 have eh:s3.heap=s.heap.push { cls:=.type "list",data:=.seq ([]:List Value).toArray }:=by rw [← hs3]
 have sz3:s3.heap.objs.size=s.heap.objs.size + 1:=by rw [eh,Heap.size_push]
 rw [← eh] at hns hsb
 have fo:∀ b∈fp,b < s.heap.objs.size:=fun b hb=>by
  obtain ⟨o,e,_⟩:=T.obj _ _ st b hb
  exact Heap.lt_size e
 have f3:∀ b∈fp,FpOk X pins (upd H s.heap.objs.size (.lst [])) b:=fun b hb=>by
  refine ⟨?_,(f b hb).2⟩
  rw [upd_ne (Nat.ne_of_lt (fo b hb))]; exact (f b hb).1
 have fo3:∀ b∈fp,b < s3.heap.objs.size:=fun b hb=>by rw [sz3]; exact Nat.lt_succ_of_lt (fo b hb)
 have up:∀ b o,s3.heap.get? b=some o→h₁.get? b=some o:=fun b o e=>hsb.extBut b o (Nat.ne_of_lt (Heap.lt_size e)) (Heap.get?_push_of_some _ e)
 have st1:tn 0 h₁:=T.keep 0 _ _ st fun b hb o e=>up b o (by rw [eh]; exact Heap.get?_push_of_some _ e)
 have I4:Inv (X.cmpX EX scope cl vars s3.heap.objs.size s3 (upd H s.heap.objs.size (.lst [])) fp pins) [] (List.replicate vars.length none++σ) (upd H s.heap.objs.size (.lst [])) { s3 with heap:=h₁,toks:=s3.toks + ([]:List (Str × Value)).length }:=
  (inv_cmp hc S I3 c1 c2 hns up f3 fo3).toX
 obtain ⟨W,⟨m0,w0⟩,turn⟩:=q _ hp
 have es:({ s3 with heap:=h₁,toks:=s3.toks + ([]:List (Str × Value)).length }:Shared)={ s with heap:=h₁,toks:=s.toks + ([]:List (Str × Value)).length }:=by rw [← hs3]
 -- what stays true of the iterator's objects
 have stat:∀ {H':Hp},(∀ b∈fp,H' b=none)→∀ b∈fp,FpOk (X.cmpX EX scope cl vars s3.heap.objs.size s3 (upd H s.heap.objs.size (.lst [])) fp pins) [] H' b:=fun hn b hb=>by
  refine ⟨hn b hb,Nat.ne_of_lt (fo3 b hb),fun hm=>?_,.inl hb,fun x c e=>(f b hb).2.2.2.2.1 x c (c1 (x,c) (PySem.mem_of_lookup e)),fun p hp=>(f b hb).2.2.2.2.2 p (by simpa using hp)⟩
  rcases List.mem_cons.mp (I3.stkSub b hm) with z | z
  ·exact (f b hb).2.1 z
  ·exact (f b hb).2.2.1 z
 have loop:∀ s₄:Shared,s₄={ s3 with heap:=h₁,toks:=s3.toks + ([]:List (Str × Value)).length }→
   codeAny (model X.prog X.w) X.A (.compLoop (.ListComp elt [⟨tg,iter,ifs,0⟩] scope pos) 0 (.ref it) (.ref s.heap.objs.size) (compEnvC scope cl s3.heap.objs.size X.env)) (RR (.ref s.heap.objs.size) s3.heap.objs.size) s₄:=by
  rintro s₄ rfl
  refine codeAny_compLoop_goX (EE:=(X.cmpX EX scope cl vars s3.heap.objs.size s3 (upd H s.heap.objs.size (.lst [])) fp pins).xe) (fun e s' hx=>?_) (fun n s'=>∃ i H',Inv (X.cmpX EX scope cl vars s3.heap.objs.size s3 (upd H s.heap.objs.size (.lst [])) fp pins) [] (List.replicate vars.length none++σ) H' s'∧tn i s'.heap∧(∀ b∈fp,H' b=none)∧W i n H') ?_ m0
   ⟨0,_,I4,st1,fun b hb=>(f3 b hb).1,w0⟩
  ·obtain ⟨pins',σ',H',a,C',dx,fl,rfl,F,hE⟩:=hx
   refine F.note (l:=l₀) hst hfr I3.ok.frames hfe fun h3 F3=>?_
   obtain ⟨m,hn,_⟩:=F3.1.loc
   exact hRX _ _ _ m H' a C' dx _ hn (fun h' hs'=>F3.up I3 f3 hs') hE
  rintro n s5 ⟨i,H5,I5,st5,fr5,w5⟩
  rcases turn i n H5 w5 with ⟨stop,qn⟩ | ⟨go,N,hN,step⟩
  ·refine thn (T.done (X.cmpX EX scope cl vars s3.heap.objs.size s3 (upd H s.heap.objs.size (.lst [])) fp pins) rfl rfl rfl hc i [] s5 _ H5 _ I5 (stat fr5) st5 stop) fun r s6 ⟨hr,I6⟩=>?_
   subst hr
   obtain ⟨m,hn,_⟩:=id I6.loc
   refine hRR _ _ s6 H5 m hn I6.free ?_ ?_ ?_ ?_ (fun h' hs'=>inv_cmp_end I3 f3 I6.ofX hs') qn
   ·exact Nat.ne_of_gt I3.lt
   ·intro x c e z
    obtain ⟨v,hv⟩:=I3.cell x c e
    exact absurd hv.lt (by rw [z]; exact Nat.lt_irrefl _)
   ·intro p hp z
    obtain ⟨e,_⟩:=I3.pin p hp
    exact absurd (Heap.lt_size e) (by rw [z]; exact Nat.lt_irrefl _)
   ·exact I3.sz
  ·refine thn (T.item (X.cmpX EX scope cl vars s3.heap.objs.size s3 (upd H s.heap.objs.size (.lst [])) fp pins) rfl rfl rfl hc i [] s5 _ H5 _ I5 (stat fr5) st5 go) fun r s6 ⟨u,hr,h6⟩=>?_
   subst hr
   refine thn h6 fun _ s7 ⟨x,H7,I7,r7,y7,st7,fr7⟩=>?_
   have I7':=I7.pinned (stat fr7) (T.obj _ _ st7)
   refine thn (hg _ _ _ _ _ _ _ s7 _ H7 x u _ I7' r7 (step x H7 y7)) fun _ s8 ⟨σ8,H8,I8,⟨τ,e8,l8⟩,q8⟩=>?_
   have back:∀ {H9:Hp} {s9:Shared} {m':Nat},Inv (X.cmpX EX scope cl vars s3.heap.objs.size s3 (upd H s.heap.objs.size (.lst [])) fp pins) ([]++pinsAt fp s7.heap) σ8 H9 s9→m' < n→W (i + 1) m' H9→
     ∃ m,m < n∧∃ i H',Inv (X.cmpX EX scope cl vars s3.heap.objs.size s3 (upd H s.heap.objs.size (.lst [])) fp pins) [] (List.replicate vars.length none++σ) H' s9∧tn i s9.heap∧(∀ b∈fp,H' b=none)∧W i m H':=by
    intro H9 s9 m' I9 hm w9
    refine ⟨m',hm,i + 1,H9,(I9.unpinned (pins:=[])).weak ?_ ?_,T.keep _ _ _ st7 fun b hb o e=>(I9.pin (b,o) (List.mem_append_right _ (List.mem_append_right _ (mem_pinsAt hb e)))).1,fun b hb=>?_,w9⟩
    ·rw [e8,List.length_append,List.length_append,List.length_replicate,l8]
    ·intro j v ej
     by_cases hj:j < vars.length
     ·rw [List.getElem?_append_left (by simpa using hj),List.getElem?_replicate,if_pos hj] at ej
      cases ej
     ·rw [List.getElem?_append_right (by simpa using hj),List.length_replicate] at ej
      rw [e8,List.getElem?_append_right (by omega),l8]
      exact ej
    ·obtain ⟨o,e,d⟩:=T.obj _ _ st7 b hb
     exact (I9.pin (b,o) (List.mem_append_right _ (List.mem_append_right _ (mem_pinsAt hb e)))).2.1
   refine thn (ht _ _ _ _ _ _ _ s8 σ8 H8 _ I8 q8) fun b s9 ⟨H9,I9,q9⟩=>?_
   cases b with
   | false=>
    rw [if_neg Bool.false_ne_true] at q9 ⊢
    obtain ⟨m',hm,w9⟩:=hN _ q9
    exact back I9 hm w9
   | true=>
    rw [if_pos rfl] at q9 ⊢
    refine thn (he _ _ _ _ _ _ _ s9 σ8 H9 _ I9 q9) fun y s10 ⟨v,H10,I10,r10,acc,a10,z10,w10⟩=>?_
    refine thn (mt_append _ s10 σ8 H10 (.ref s.heap.objs.size) [v] (.ref s.heap.objs.size) [y] (fun _ H11=>N H11) I10 rfl (.cons r10 .nil) ⟨_,acc,v,rfl,rfl,a10,z10,w10⟩) fun _ s11 ⟨_,H11,I11,_,w11⟩=>?_
    obtain ⟨m',hm,w12⟩:=hN _ w11
    exact back I11 hm w12
 have fin:=codeAny_compStart_list (loop _ rfl) (T.self X.A 0 { s3 with heap:=h₁,toks:=s3.toks + ([]:List (Str × Value)).length } _ _ st1 (loop _ rfl))
 subst hs3
 exact fin
theorem compPost_err {use:Option (Value→Sem Unit)} {EX:XK} {QQ:Value→Shared→Prop} {pins:List (Addr × Obj)} {σ:St} {acc:Value} {C:Addr} {s':Shared} {m:Str→Option Value} {H':Hp} {a C' dx:Addr} {fl:Value} (hx:XPass X EX) (hn:s'.heap.Ns C m)
  (F:∀ h',Heap.SameBut C s'.heap h'→Flies X pins σ H' { s' with heap:=h' } a C' dx fl) (hE:EX (.ref C') (some dx) H'):compPost (model X.prog X.w) X.A X.xe use QQ acc C (.error (.ref a)) s':=by
 have h:∃ m,s'.heap.Ns C m∧∀ h',Heap.SameBut C s'.heap h'→∀ cenv:Env,cenv.locals=C→wpAny (model X.prog X.w) X.A (PySem.passOn "comprehension.variables-let-go" (.ref a) cenv:Sem Value) (fun _ _=>False) X.xe { s' with heap:=h' }:=by
  refine ⟨m,hn,fun h' hs' cenv _=>?_⟩
  have F':=F h' hs'
  obtain ⟨I,hza,ea,T,vs,sl,oT,ts,g1,g2,_⟩:=id F'
  unfold PySem.passOn
  refine wpAny_bind (wpAny_field g1 rfl g2 ?_)
  rw [if_neg (show ¬ ((Value.ref T == Value.none)=true) from by simp)]
  refine wpAny_bind (F'.set cenv.frame fun h4 F4=>?_)
  exact wpAny_throw (hx _ _ _ _ _ _ _ _ F4 hE)
 cases use <;> exact h
theorem pe_compX {elt tg iter:Expr} {ifs:List Expr} {scope:Scope} {pos:Pos} (vars:List Str) {wi:TI} {g:TG} {tc:TT} {te:TE} {EX:XK} {env₀:Env} {l₀:List Env} {L₀:Addr} (hx:XPass X EX) (hst:X.stack=env₀::l₀) (hfr:env₀.frame=some L₀) (hfe:X.env.frame=env₀.frame) (hc:X.calm=true) (S:CmpScope X scope) (hi:PI X tg iter wi)
  (hg:∀ cl C s H fp pins,PG (X.cmpX EX scope cl vars C s H fp pins) tg g) (ht:∀ cl C s H fp pins,PIfs (X.cmpX EX scope cl vars C s H fp pins) ifs tc) (he:∀ cl C s H fp pins,PE (X.cmpX EX scope cl vars C s H fp pins) elt te)
  (hs:∀ x,foldedSetIterable iter X.env x=pure x:=by intro _; rfl):PE X (.ListComp elt [⟨tg,iter,ifs,0⟩] scope pos) (tComp wi vars.length g tc te):=by
 intro pins s σ H Q I h
 obtain ⟨cl,hcl,c1,c2⟩:=closure_ok (scope:=scope) (env:=X.env) fun y hy hf=>I.ok.has y.1 (by rcases S.free y hy hf with z | z; exact .inl z; exact .inr z)
 rw [eval_ListComp]
 refine wpAny_comprehension_free (use:=none) rfl hs hcl S.kind S.names (thn (hi pins s σ H _ I h) fun v s1 h1=>thn h1 fun itv s2 h2=>?_)
 obtain ⟨it,fp,tn,J,H2,e,I2,T,st2,f2,q⟩:=h2
 subst e
 refine comp_blockX (vars:=vars) (Q:=fun p=>Q (.ref p)) hst hfr hfe hc S hg ht he c1 c2 I2 T st2 f2 q (RR:=fun acc C=>compPost (model X.prog X.w) X.A X.xe none (EP X pins σ Q) acc C) ?_ (fun p C s' m H' a C' dx fl hn F hE=>compPost_err hx hn F hE)
 intro p C s' H' m hn _ _ _ _ _ back hq
 exact ⟨m,hn,fun h' hs'=>⟨.ref p,H',back h' hs',rfl,hq⟩⟩
theorem ps_setcompX {elt tg iter:Expr} {ifs:List Expr} {scope:Scope} {pos spos py:Pos} {i:Nat} {y:Str} (vars:List Str) {wi:TI} {g:TG} {tc:TT} {te:TE} {EX:XK} {env₀:Env} {l₀:List Env} {L₀:Addr} (hx:XPass X EX) (hst:X.stack=env₀::l₀) (hfr:env₀.frame=some L₀) (hfe:X.env.frame=env₀.frame) (hc:X.calm=true) (S:CmpScope X scope)
  (hN:X.N.Nodup) (hy:X.N[i]?=some y) (hl:Loc X.env.scope y) (hi:PI X tg iter wi)
  (hg:∀ cl C s H fp pins,PG (X.cmpX EX scope cl vars C s H fp pins) tg g) (ht:∀ cl C s H fp pins,PIfs (X.cmpX EX scope cl vars C s H fp pins) ifs tc) (he:∀ cl C s H fp pins,PE (X.cmpX EX scope cl vars C s H fp pins) elt te)
  (hsw:swapsWith (.ListComp elt [⟨tg,iter,ifs,0⟩] scope pos) (some (.Name y py)) spos.line X.env=pure true)
  (hf:X.fn y=true∨X.env.scope.names.lookup y=some .local:=by first | exact .inl rfl | exact .inr rfl | assumption)
  (hs:∀ x,foldedSetIterable iter X.env x=pure x:=by intro _; rfl) :
  PS X (.Assign [.Name y py] (.ListComp elt [⟨tg,iter,ifs,0⟩] scope pos) spos) (tSetComp i wi vars.length g tc te):=by
 intro pins s σ H D I h
 obtain ⟨cl,hcl,c1,c2⟩:=closure_ok (scope:=scope) (env:=X.env) fun y hy hf=>I.ok.has y.1 (by rcases S.free y hy hf with z | z; exact .inl z; exact .inr z)
 rw [exec_Assign_Name_used _ _ _ _ hsw]
 refine wpAny_bind (wpAny_standAt (wpAny_bind ?_))
 show wpAny _ X.A (do let _ ← comprehension (.ListComp elt [⟨tg,iter,ifs,0⟩] scope pos) scope X.env _ (newList []) false (eval iter X.env) (some (assign (.Name y py) X.env))) _ _ s
 refine wpAny_bind (wpAny_mono (wpAny_comprehension_free (use:=some (assign (.Name y py) X.env)) (Q:=fun _ s'=>SP X pins D .next s') rfl hs hcl S.kind S.names
  (thn (hi pins s σ H _ I h) fun v s1 h1=>thn h1 fun itv s2 h2=>?_)) (fun _ s' hq=>wpAny_pure (wpAny_pure hq)) fun _ _ e=>e)
 obtain ⟨it,fp,tn,J,H2,e,I2,T,st2,f2,q⟩:=h2
 subst e
 refine comp_blockX (vars:=vars) (Q:=fun p H1=>D.nx (σ.set i (some (.ref p))) H1) hst hfr hfe hc S hg ht he c1 c2 I2 T st2 f2 q (RR:=fun acc C=>compPost (model X.prog X.w) X.A X.xe (some (assign (.Name y py) X.env)) (fun _ s'=>SP X pins D .next s') acc C) ?_ (fun p C s' m H' a C' dx fl hn F hE=>compPost_err hx hn F hE)
 intro p C s' H' m hn hC hL hcells hpins hsz back hq
 have I':Inv X pins σ H' s':=by have:=back s'.heap (.refl ..); exact this
 show wpAny _ X.A (assign (.Name y py) X.env (.ref p)) _ _ _
 refine wpAny_assign_Name (store_ok2 I' hN hy hl (v:=.ref p) (u:=.ref p) rfl (fun s'' I'' ⟨a,sb,ha⟩=>?_) hf)
 have hCa:C≠a:=by
  rcases ha with z | z
  ·rw [z]; exact hL
  ·exact fun w=>hcells _ _ z w.symm
 refine ⟨m,hn.sameBut sb hCa,fun h' hs'=>⟨_,H',I''.turned (t':=s''.toks) (it:=C) (fun b o hb e=>(hs'.2 b hb).trans e) hC hL (.inr hsz) hcells hpins,hq⟩⟩
end
theorem kv_no {kvs:List (Str × V)}:∀ {vs:List (Key × Value)} {z:Str},KV (kvs.map fun p=>((Sum.inr p.1:Key),p.2)) vs→kvs.lookup z=none→PySem.valueAt vs (Sum.inr z:Key)=none:=by
 induction kvs with
 | nil=>
  intro vs z h _
  cases h
  rfl
 | cons p r ih=>
  intro vs z h hl
  cases h with
  | @cons _ q _ qs hr t=>
   obtain ⟨k,u⟩:=q
   obtain ⟨e1,e2⟩:=hr
   have e1:(Sum.inr p.1:Key)=k:=e1
   subst e1
   rw [List.lookup_cons] at hl
   cases hb:z == p.1 with
   | true=>rw [hb] at hl; cases hl
   | false=>
    rw [hb] at hl
    have:=ih t hl
    unfold PySem.valueAt at this ⊢
    have hne:¬ (Sum.inr p.1:Key)=Sum.inr z:=fun e=>by
     have:=Sum.inr.inj e
     rw [this] at hb
     simp at hb
    simp only [List.find?_cons,hne,decide_false] at this ⊢
    exact this
def tKGet2 (P:Program) (w:World) (K:PySem.W.Frag) (td ty:TE):TE:=fun σ H Q=>td σ H fun x H1=>ExQ Q (fun a Q=>ExQ Q (fun kvs Q=>x=.ref a∧KD P w K a kvs∧(a == sysModules)=false∧ty σ H1 fun y H2=>∃ z,y=.str z∧Q ((kvs.lookup z).getD .non) H2))
section
variable {X:Cx} {o e:Expr} {apos cpos:Pos} {td ty:TE}
theorem pe_kget2 (ho:PE X o td) (he:PE X e ty) (m:M1 X o "get" apos e cpos):PE X (.Call (.Attribute o "get" apos) [e] [] cpos) (tKGet2 X.prog X.w X.K td ty):=by
 intro pins s σ H Q I h
 refine wpAny_Call_method m.base m.few m.line PySem.F.plainAttrs_dict PySem.F.slot_dict_get PySem.F.type_dict_get (thn (ho pins s σ H _ I h) fun u s1 hp=>?_)
 obtain ⟨x,H1,I1,rx,a,kvs,ex,hk,hn,q1⟩:=hp
 subst ex
 obtain rfl:u=Value.ref a:=rx
 obtain ⟨vs,rel,dd⟩:=hk s1.heap I1.kIn
 refine ⟨dd.typeIs,fun b q=>?_,?_⟩
 ·cases q
  obtain ⟨ob,_,_,h1,h2,_⟩:=dd
  exact ⟨ob,h1,h2.2.1⟩
 rw [m.trees]
 refine Calls.callWith_builtin rfl (Calls.evalArgs_plain (Calls.spliced_cons (thn (he pins s1 σ H1 _ I1 q1) fun iv s2 hp2=>Calls.spliced_nil ?_)))
 obtain ⟨y,H2,I2,ry,z,ey,q2⟩:=hp2
 subst ey
 obtain ⟨vs2,rel2,dd2⟩:=hk s2.heap I2.kIn
 obtain ⟨t,rfl⟩:=ry
 refine call_meetsIn PySem.F.slot_dict_get dd2.typeIs PySem.F.entry_dict_get (PySem.F.args_dict_get_2 _ _) (meets_dict_get (mixKind X.prog X.w) a (mixKind_str _ _ z t) hn) ⟨_,dd2.mapOf,?_⟩
 cases hl:kvs.lookup z with
 | some v=>
  obtain ⟨r,er,rr⟩:=kv_at rel2 hl
  rw [hl] at q2
  rw [er]
  exact ⟨v,H2,I2.tok _,rr,q2⟩
 | none=>
  have er:=kv_no rel2 hl
  rw [hl] at q2
  rw [er]
  exact ⟨.non,H2,I2.tok _,rfl,q2⟩
end
section
variable {X:Cx}
def repT (z:Str) (k:Nat):Str:=⟨(List.replicate k z.cps).foldl (·++·) #[]⟩
def rRepS:R2:=fun x y H Q=>∃ (z:Str) (n:Int),x=.str z∧y=.int n∧2≤n∧n≤100∧1≤z.length∧z.length≤100∧(repT z n.toNat).length≤10000∧Q (.str (repT z n.toNat)) H
theorem op_repS:OpR X (binaryOp .Mult) rRepS:=by
 intro pins s σ H x y v u Q I rx ry h
 obtain ⟨z,n,rfl,rfl,h1,h2,h3,h4,h5,q⟩:=h
 obtain ⟨t,rfl⟩:=rx
 obtain ⟨t',rfl⟩:=ry
 have e1:¬ n < 1:=by omega
 have e2:(n == 1 || z.length == 0)=false:=by
  rw [Bool.or_eq_false_iff]
  exact ⟨by simp; omega,by simp; omega⟩
 have hm:z.length * n.toNat≤10000:=Nat.le_trans (Nat.mul_le_mul h4 (show n.toNat≤100 by omega)) (by decide)
 refine PySem.P.mul_str (by rw [decide_eq_false (by omega),decide_eq_false (by omega)]; rfl) (fun _ _=>?_) (fun _ _=>?_) ?_
 ·have:(100:Int)≤(2 ^ 63 - 1) / n:=by
   rw [Int.le_ediv_iff_mul_le (by omega)]; omega
  omega
 ·exact decide_eq_false (by
   have:(10000:Nat)≤sizeLine:=by decide
   omega)
 ·rw [if_neg e1,if_neg (by rw [e2]; decide)]
  refine ⟨?_,.str _,H,I.tok _,⟨_,rfl⟩,q⟩
  exact Nat.le_trans h5 (by decide)
theorem mt_joinK {K:PySem.W.Frag} (h:X.K=K):MtM X "str.join" (rJoin K):=h ▸ mt_join
variable {o e:Expr} {es:List Expr} {to:TE} {t:TA} {name:Str} {apos cpos:Pos} {T id:String} {r:V→List V→Hp→VK→Prop}
theorem pe_bmK {K:PySem.W.Frag} (hK:X.K=K) (pa:PlainAttrs T) (slot:Slot T name id) (hty:typeOf (.builtin id)=pure (.type "method_descriptor")) (hm:MtM X id r) (ho:PE X o to) (ha:PA X (e::es) t)
  (hbase:attributeBase o name X.env (eval o X.env)=eval o X.env:=by rfl)
  (hfew:((backTo cpos (starEach (e::es) X.env)).all (fun x=>!x.1) && (backToKw cpos (keywordEach [] X.env)).all (fun x=>x.1.isSome)
   && decide ((e::es).length + ([]:List Keyword).length + (if ([]:List Keyword).isEmpty then 0 else 1) < 30))=true:=by rfl)
  (hline:(apos.endLine == cpos.line)=true:=by rfl) (hs:starEach (e::es) X.env=(false,eval e X.env)::starEach es X.env:=by rfl) (hplain:(backTo cpos (starEach es X.env)).any (·.1)=false:=by rfl) :
  PE X (.Call (.Attribute o name apos) (e::es) [] cpos) (tBM K T r to t):=by
 subst hK
 exact pe_bm pa slot hty hm ho ha hbase hfew hline hs hplain
theorem pe_cln {x:Str} {k:Nat} {ps:List Str} {sp:Sp} {p pos:Pos} (c:ClX X.prog X.w X.K X.mg X.base x k ps sp) (hr:Room k X.A) (hg:Gl X x) (ha:PA X (e::es) t) (hdb:(x == ("__debug__":Str))=false:=by decide)
  (he:starEach (e::es) X.env=(false,eval e X.env)::starEach es X.env:=by rfl) (hpl:(backTo pos (starEach es X.env)).any (·.1)=false:=by rfl):PE X (.Call (.Name x p) (e::es) [] pos) (tClX sp E0 t):=by
 obtain ⟨f,fd,F,b,kp,m⟩:=c
 have ps0:Passes (CX1 X.prog X.w) X E0:=by
  intro pins σ H s e s' I q
  obtain ⟨_,_,_,_,_,_,_,_,_,_,_,_,_,_,_,z⟩:=q
  exact z.elim
 have h:=pe_call (X:=X) (CX:=CX1 X.prog X.w) (E:=E0) (pos:=pos) (p:=p) F hr hg m kp b .nil ps0 ha hdb he hpl
 have e1:tCall sp [] E0 t=tClX sp E0 t:=by
  funext σ H Q
  unfold tCall tClX
  simp only [List.append_nil]
 rw [e1] at h
 exact h
end
end L2
namespace K15
open PySem PySem.Spec PyProof.Rows L2
def top (i:Nat):Stmt:=PySem.Challenge.pw_lookspare_k15_texts_refused.main.body.getD i (.Pass ⟨0,0,0,0⟩)
abbrev s_cell:Stmt:=top 46
abbrev s_pick:Stmt:=top 47
abbrev s_number:Stmt:=top 48
abbrev s_maybe:Stmt:=top 49
def spPick:Sp:=fun vs H Q _=>ExQ Q (fun (c:Int) Q=>ExQ Q (fun (k:Int) Q=>ExQ Q (fun (m:Int) Q=>vs=[.int c,.int k,.int m]∧0≤k∧k≤1000∧0 < m∧∀ i:Int,0≤i→i < m→Q (.int i) H)))
def spNumber:Sp:=fun vs H Q _=>ExQ Q (fun (c:Int) Q=>vs=[.int c]∧∀ i:Int,-1000≤i→i≤1000→∀ H',Same H H'→Q (.int i) H')
def MaybeV (n:Int) (v:V):Prop:=v=.non∨∃ i:Int,0≤i∧i < n∧v=.int i
def spMaybe:Sp:=fun vs H Q _=>ExQ Q (fun (c:Int) Q=>ExQ Q (fun (n:Int) Q=>vs=[.int c,.int n]∧0≤n∧∀ v,MaybeV n v→Q v H))
def spCell (K:PySem.W.Frag):Sp:=fun vs H Q _=>ExQ Q (fun (a:Addr) Q=>ExQ Q (fun (ns:List Int) Q=>ExQ Q (fun (k:Int) Q=>vs=[.ref a,.int k]∧SqL K H a (ns.map V.int)∧ns.length≤63∧0≤k∧k≤100∧∀ (c:Int) (H':Hp),Same H H'→Q (.int c) H')))
section
variable {P:Program} {w:World} {K:PySem.W.Frag} {mg:Str→Option Value} {base:Heap} {f:Addr} {fd:FuncData} {n:Nat}
local macro_rules | `(tactic| walk_at "s")=>`(tactic| first | exact ⟨by decide,by decide⟩ | exact ⟨by decide,by decide,by decide⟩ | exact Or.inl ⟨by decide,by decide⟩ | exact Or.inr ⟨by decide,by decide⟩ | (show (0:Int) < _; decide) | (show (0:Int)≤_; decide) | (show (0:Int) < _; omega) | (show (0:Int)≤_; omega) | exact ⟨by omega,by omega⟩ | exact Or.inl ⟨by omega,by omega⟩ | exact Or.inr ⟨by omega,by omega⟩)
local macro_rules | `(tactic| walk_at "r")=>`(tactic| repeat (first | (refine ⟨_,rfl,?_⟩) | (refine ⟨_,_,rfl,rfl,?_⟩) | (refine ⟨rfl,?_⟩) | (refine ⟨by walk_at "s",?_⟩) | (refine ⟨Nat.le_of_ble_eq_true rfl,fun _ _=>?_⟩)))
theorem sc_pick:FnScope ["_law_cell_here", "_law_k", "_law_many", "_law_number_here"] ["_law_cell_here", "_law_k", "_law_many"] (defScope s_pick):=⟨rfl,rfl,rfl,by decide +kernel,rfl,by decide +kernel,by decide +kernel⟩
theorem sc_number:FnScope ["_law_cell_here"] ["_law_cell_here"] (defScope s_number):=⟨rfl,rfl,rfl,by decide +kernel,rfl,by decide +kernel,by decide +kernel⟩
theorem sc_maybe:FnScope ["_law_cell_here", "_law_names"] ["_law_cell_here", "_law_names"] (defScope s_maybe):=⟨rfl,rfl,rfl,by decide +kernel,rfl,by decide +kernel,by decide +kernel⟩
theorem sc_cell:FnScope ["_law_script", "_law_k", "_law_far", "_law_cell_here"] ["_law_script", "_law_k"] (defScope s_cell):=⟨rfl,rfl,rfl,by decide +kernel,rfl,by decide +kernel,by decide +kernel⟩
theorem ok_pick (F:Fun K "_law_pick" "_law_pick" s_pick f fd):FnOk P w K mg base CX0 (n + 1) f fd ["_law_cell_here", "_law_k", "_law_many"] spPick:=by
 refine F.ok sc_pick (fun vs H Q E h=>?_) (fun cdv A outer s H vs Q E hr h=>?_)
 ·obtain ⟨c,k,m,rfl,_⟩:=h
  rfl
 obtain ⟨c,k,m,rfl,hk0,hk1,hm,q⟩:=h
 have sc:=sc_pick
 refine ⟨_,(@pss_cons _ _ _ _ _ (ps_if (pt_cmpR op_ge (pv 0) (pe_op op_pow pe_int pe_int) (nomark _)) (pss_one (ps_ret (pe_op op_mod (pe_op op_mod (pe_op op_shr (pv 0) (pe_op op_mul pe_int (pv 1))) pe_int) (pv 2)))) pss_nil)
   (@pss_cons _ _ _ _ _ (ps_set (i:=3) sc.nd rfl (Or.inl rfl) (pe_op op_add (pe_op op_mul (pe_op op_fdiv (pv 0) (pe_op op_add (pe_op op_mul (pv 1) (pv 1)) pe_int)) pe_int) (pe_op op_mul (pe_op op_mod (pv 0) pe_int) pe_int)))
   (@pss_cons _ _ _ _ _ (ps_set (i:=3) sc.nd rfl (Or.inl rfl) (pe_op op_fdiv (pe_op op_mod (pe_op op_add (pv 3) (pe_op op_mul (pv 1) pe_int)) pe_int) pe_int))
   (pss_one (ps_ret (pe_op op_mod (pe_op op_fdiv (pe_op op_mod (pe_op op_mul (pv 3) (pe_op op_add (pe_op op_mod (pv 3) pe_int) pe_int)) pe_int) pe_int) (pv 2))))))),?_⟩
 walk_at "r"
 refine ite2 (fun cc=>?_) (fun cc=>?_)
 ·walk_at "r"
  exact q _ (Int.emod_nonneg _ (by omega)) (Int.emod_lt_of_pos _ hm)
 ·have hkk:0≤k * k∧k * k≤1000000:=⟨Int.mul_nonneg hk0 hk0,by
   have:=Int.mul_le_mul hk1 hk1 hk0 (by decide:(0:Int)≤1000)
   omega⟩
  walk_at "r"
  exact q _ (Int.emod_nonneg _ (by omega)) (Int.emod_lt_of_pos _ hm)
def farB:Nat→Int
 | 0=>1000000
 | i + 1=>38 * farB i
theorem farB_le {i:Nat} (h:i≤6):1000000≤farB i∧farB i≤3010936384000000:=by
 match i,h with
 | 0,_=>decide
 | 1,_=>decide
 | 2,_=>decide
 | 3,_=>decide
 | 4,_=>decide
 | 5,_=>decide
 | 6,_=>decide
 | i + 7,h=>omega
theorem same_new {H:Hp} {p:Addr} (h:H p=none) (o:HO):Same H (upd H p o):=fun b u q=>by rw [upd_ne (ne_of_none q h)]; exact q
theorem ok_number (F:Fun K "_law_number" "_law_number" s_number f fd):FnOk P w K mg base CX0 (n + 1) f fd ["_law_cell_here"] spNumber:=by
 refine F.ok sc_number (fun vs H Q E h=>?_) (fun cdv A outer s H vs Q E hr h=>?_)
 ·obtain ⟨c,rfl,_⟩:=h
  rfl
 obtain ⟨c,rfl,q⟩:=h
 have sc:=sc_number
 refine ⟨_,(@pss_cons _ _ _ _ _ (ps_if (pt_cmpR op_eq (pe_op op_mod (pe_op op_fdiv (pv 0) pe_int) pe_int) pe_int (nomark _)) (pss_one (ps_ret (pe_op op_sub (pe_op op_mod (pv 0) pe_int) pe_int))) pss_nil)
   (@pss_cons _ _ _ _ _ (ps_if (pt_cmpR op_eq (pe_op op_mod (pe_op op_fdiv (pv 0) pe_int) pe_int) pe_int (nomark _)) (pss_one (ps_ret (pe_op op_sub (pe_op op_mod (pv 0) pe_int) pe_int))) pss_nil)
   (pss_one (ps_ret (pe_ix ix_list (pe_lst (pa_cons pe_int (pa_cons (pe_un un_neg pe_int) (pa_cons pe_int pa_nil)))) (pe_op op_mod (pv 0) pe_int) (fun _ _=>rfl)))))),?_⟩
 walk_at "r"
 refine ite2 (fun cc=>?_) (fun cc=>?_)
 ·walk_at "r"
  exact q _ (by omega) (by omega) H (Same.refl H)
 ·walk_at "r"
  refine ite2 (fun cc=>?_) (fun cc=>?_)
  ·walk_at "r"
   exact q _ (by omega) (by omega) H (Same.refl H)
  ·refine ⟨_,rfl,Nat.le_of_ble_eq_true rfl,fun p hp=>?_⟩
   walk_at "r"
   have e3:c % 3=0∨c % 3=1∨c % 3=2:=by omega
   rcases e3 with e | e | e
   ·exact ⟨p,[.int 1000,.int (-1000),.int 0],c % 3,.int 1000,rfl,rfl,SqL.of upd_same,by rw [e]; rfl,q _ (by omega) (by omega) _ (same_new hp _)⟩
   ·exact ⟨p,[.int 1000,.int (-1000),.int 0],c % 3,.int (-1000),rfl,rfl,SqL.of upd_same,by rw [e]; rfl,q _ (by omega) (by omega) _ (same_new hp _)⟩
   ·exact ⟨p,[.int 1000,.int (-1000),.int 0],c % 3,.int 0,rfl,rfl,SqL.of upd_same,by rw [e]; rfl,q _ (by omega) (by omega) _ (same_new hp _)⟩
theorem ok_maybe (F:Fun K "_law_maybe" "_law_maybe" s_maybe f fd):FnOk P w K mg base CX0 (n + 1) f fd ["_law_cell_here", "_law_names"] spMaybe:=by
 refine F.ok sc_maybe (fun vs H Q E h=>?_) (fun cdv A outer s H vs Q E hr h=>?_)
 ·obtain ⟨c,m,rfl,_⟩:=h
  rfl
 obtain ⟨c,m,rfl,hm,q⟩:=h
 have q0:=q .non (.inl rfl)
 have sc:=sc_maybe
 refine ⟨_,(@pss_cons _ _ _ _ _ (ps_if (PW.pt (pw_or (pt_cmpR op_eq (pv 1) pe_int (nomark _)) (pw_or1 (pt_cmpR op_eq (pe_op op_mod (pv 0) pe_int) pe_int (nomark _))))) (pss_one (ps_ret pe_non)) pss_nil)
   (pss_one (ps_ret (pe_op op_mod (pe_op op_fdiv (pv 0) pe_int) (pv 1))))),?_⟩
 walk_at "r"
 refine ite2 (fun cc=>iteT q0) (fun cc=>?_)
 have hm0:m≠0:=fun e=>cc (by rw [e]; rfl)
 walk_at "r"
 refine ite2 (fun cc=>q0) (fun cc=>?_)
 walk_at "r"
 exact q _ (.inr ⟨_,Int.emod_nonneg _ hm0,Int.emod_lt_of_pos _ (by omega),rfl⟩)
theorem ok_cell (F:Fun K "_law_cell" "_law_cell" s_cell f fd) (m_len:mg "len" = none):FnOk P w K mg base CX0 (n + 1) f fd ["_law_script", "_law_k"] (spCell K):=by
 refine F.ok sc_cell (fun vs H Q E h=>?_) (fun cdv A outer s H vs Q E hr h=>?_)
 ·obtain ⟨a,ns,k,rfl,_⟩:=h
  rfl
 obtain ⟨a,ns,k,rfl,hS,h63,hk0,hk1,q⟩:=h
 have sc:=sc_cell
 refine ⟨_,(@pss_cons _ _ _ _ _ (ps_if (pt_cmpR op_lt (pv 1) (pe_callB call_len_seq rfl m_len PySem.boot_len (pa_cons (pv 0) pa_nil)) (nomark _)) (pss_one (ps_ret (pe_ix ix_list (pv 0) (pv 1) (fun _ _=>rfl)))) pss_nil)
   (@pss_cons _ _ _ _ _ (ps_set (i:=2) sc.nd rfl (Or.inl rfl) (pe_op op_mul pe_int (pe_op op_add (pv 1) pe_int)))
   (@pss_cons _ _ _ _ _ (ps_for PassesOwn.never rfl (pi_list (pe_slice sl_list (pv 0) po_none (po_some pe_int))) (pg_name (i:=3) sc.nd rfl (Or.inl rfl)) (pss_one (ps_set (i:=2) sc.nd rfl (Or.inl rfl) (pe_op op_add (pe_op op_mul (pv 2) pe_int) (pe_op op_mod (pv 3) pe_int)))))
   (@pss_cons _ _ _ _ _ (ps_set (i:=2) sc.nd rfl (Or.inl rfl) (pe_op op_fdiv (pe_op op_mod (pe_op op_mul (pv 2) (pv 2)) pe_int) pe_int))
   (pss_one (ps_ret (pe_op op_mod (pe_op op_mul (pv 2) (pe_op op_add (pe_op op_mod (pv 2) pe_int) pe_int)) pe_int))))))),?_⟩
 have hl:(ns.map V.int).length=ns.length:=List.length_map _
 refine ⟨_,rfl,_,rfl,a,_,rfl,.inl hS,?_⟩
 walk_at "r"
 refine ite2 (fun cc=>?_) (fun cc=>?_)
 ·have c':k < (((ns.map V.int).length:Nat):Int):=of_decide_eq_true cc
  rw [hl] at c'
  have hk:k.toNat < ns.length:=by omega
  have ek:k=((k.toNat:Nat):Int):=by omega
  have e:atI (ns.map V.int) k=some (.int ns[k.toNat]):=by
   have e0:atI (ns.map V.int) ((k.toNat:Nat):Int)=some (.int ns[k.toNat]):=atI_nat (by rw [List.getElem?_map,List.getElem?_eq_getElem hk]; rfl)
   rw [← ek] at e0
   exact e0
  exact ⟨_,rfl,_,rfl,a,_,_,_,rfl,rfl,hS,e,q _ H (Same.refl H)⟩
 ·walk_at "r"
  refine ⟨a,_,rfl,hS,fun p hp=>?_⟩
  have hx:∀ (i:Nat) (x:V),(cutV (ns.map V.int) none (some 6))[i]?=some x→∃ v,x=.int v:=fun i x e=>by
   have m:x∈ns.map V.int:=List.mem_of_mem_drop (List.mem_of_mem_take (List.mem_of_getElem? e))
   obtain ⟨v,_,rfl⟩:=List.mem_map.mp m
   exact ⟨v,rfl⟩
  have h6:(cutV (ns.map V.int) none (some 6)).length≤6:=by
   unfold cutV
   rw [List.length_take]
   have:HT.sIx (ns.map V.int).length (ns.map V.int).length (some 6)≤6:=by
    show HT.sIx _ _ (some ((6:Nat):Int))≤6
    rw [HT.sIx_nat]; omega
   omega
  refine ⟨p,rfl,⟨_,SqL.of upd_same⟩,for_list (xs:=cutV (ns.map V.int) none (some 6)) (fun i σ H'=>H'=upd H p (.lst (cutV (ns.map V.int) none (some 6)))∧∃ (far:Int) (y:Option V),σ=[some (.ref a),some (.int k),some (.int far),y]∧0≤far∧far≤farB i)
   ⟨rfl,_,_,rfl,by omega,by show (7907:Int) * (k + 3)≤1000000; omega⟩ (fun i σ H' _ h=>?_) (fun i x σ H' ex h=>?_) (fun σ H' h=>?_)⟩
  ·obtain ⟨rfl,_⟩:=h
   exact SqL.of upd_same
  ·obtain ⟨rfl,far,y,rfl,f0,f1⟩:=h
   obtain ⟨v,rfl⟩:=hx i x ex
   have il:i < 6:=Nat.lt_of_lt_of_le (List.getElem?_eq_some_iff.mp ex).1 h6
   have fb:=farB_le (i:=i) (by omega)
   walk_at "r"
   refine ⟨_,_,rfl,by omega,?_⟩
   show far * 37 + v % 999983≤38 * farB i
   omega
  ·obtain ⟨rfl,far,y,rfl,f0,f1⟩:=h
   have fb:=farB_le h6
   walk_at "r"
   exact q _ _ (same_new hp _)
end
theorem Same.new {H H':Hp} {p:Addr} {o:HO} (s:Same H H') (h:H p=none):Same H (upd H' p o):=fun b u q=>by
 rw [upd_ne (ne_of_none q h)]; exact s b u q
theorem Tups.new {H:Hp} {p:Addr} {o:HO} (h:H p=none):Tups H (upd H p o):=(same_new h o).tups
theorem Tups.lst {H:Hp} {p:Addr} {xs ys:List V} (h:H p=some (.lst xs)):Tups H (upd H p (.lst ys)):=
 ⟨fun b zs e=>by rw [upd_ne (ne_of e h (by intro z; cases z))]; exact e,fun b o u e=>by rw [upd_ne (ne_of e h (by intro z; cases z))]; exact e⟩
theorem none_of_same {H H':Hp} (s:Same H H') {p:Addr} (h:H' p=none):H p=none:=s.free h
theorem ne_p {H:Hp} {p t:Addr} {o:HO} (h:H p=some o) (ht:H t=none):p≠t:=ne_of_none h ht
theorem atI_mod {α:Type} {xs:List α} {c:Int} (h:0 < xs.length):∃ (j:Nat) (v:α),atI xs (c % (xs.length:Int))=some v∧xs[j]?=some v:=by
 have h0:0≤c % (xs.length:Int):=Int.emod_nonneg _ (by omega)
 have h1:c % (xs.length:Int) < xs.length:=Int.emod_lt_of_pos _ (by omega)
 have hj:(c % (xs.length:Int)).toNat < xs.length:=by omega
 have e:c % (xs.length:Int)=(((c % (xs.length:Int)).toNat:Nat):Int):=by omega
 refine ⟨(c % (xs.length:Int)).toNat,xs[(c % (xs.length:Int)).toNat],?_,List.getElem?_eq_getElem hj⟩
 have:=atI_nat (xs:=xs) (j:=(c % (xs.length:Int)).toNat) (List.getElem?_eq_getElem hj)
 rw [← e] at this
 exact this
theorem tTrue_ite {σ:L2.St} {H:Hp} {A B:Hp→Prop} (h:A H):tTrue σ H (fun b H3=>if b=true then A H3 else B H3):=by
 show if true=true then A H else B H
 rw [if_pos rfl]; exact h
theorem small {n:Nat} (h:n≤1000):n≤sizeLine:=Nat.le_of_lt (small1000 h)
theorem at0 (v:V) (vs:List V):atI (v::vs) 0=some v:=atI_nat (j:=0) rfl
theorem at1 (v u:V) (vs:List V):atI (v::u::vs) 1=some u:=atI_nat (j:=1) rfl
theorem at2 (v u w:V) (vs:List V):atI (v::u::w::vs) 2=some w:=atI_nat (j:=2) rfl
theorem at3 (v u w z:V) (vs:List V):atI (v::u::w::z::vs) 3=some z:=atI_nat (j:=3) rfl
theorem at4 (v u w z y:V) (vs:List V):atI (v::u::w::z::y::vs) 4=some y:=atI_nat (j:=4) rfl
theorem str_t {a b:Str} (h:decide (V.str a=V.str b)=true):a=b:=by have:=of_decide_eq_true h; injection this
theorem str_f {a b:Str} (h:¬ decide (V.str a=V.str b)=true):a≠b:=fun e=>h (decide_eq_true (by rw [e]))
def partsL:List (Str × List Str):=[("set",["name", "value", "number", "way"]),("sum",["name", "name", "value", "way"]),("len",["name", "row", "way"]),("take",["name", "way"]),("get",["name", "row", "value", "number", "way"]),("put",["row", "value", "number", "name", "way"]),
 ("tell",["name", "way"]),("test",["value", "value", "number", "way", "way"]),("ask",["bounds", "way", "way"]),("end",[])]
def spParts (K:PySem.W.Frag):Sp:=fun vs H Q _=>ExQ Q (fun (v:V) Q=>ExQ Q (fun (x:Str) Q=>ExQ Q (fun (ds:List D) Q=>ExQ Q (fun (ks:List Str) Q=>vs=[v]∧Is K H (.tup (.str x::ds)) v∧partsL.lookup x=some ks∧
 ∀ (H':Hp) (l:Addr) (ps:List V),Same H H'→H' l=some (.lst ps)→H l=none→ps.length=min ks.length ds.length→
  (∀ (j:Nat) (k:Str) (d:D),ks[j]?=some k→ds[j]?=some d→∃ t v,ps[j]?=some (.ref t)∧H' t=some (.tup [.str k,v])∧Is K H' d v)→Q (.ref l) H'))))
abbrev s_parts:Stmt:=top 10
abbrev s_ways:Stmt:=top 11
structure Tab (P:Program) (w:World) (K:PySem.W.Frag) (mg:Str→Option Value) (a_PARTS:Addr):Prop where
 mp:mg "PARTS" = some (.ref a_PARTS)
 kd:∃ kvs,KD P w K a_PARTS kvs∧(∀ (x:Str) (ks:List Str),partsL.lookup x=some ks→∃ p,kvs.lookup x=some (.ref p)∧∀ H:Hp,SqT K H p (ks.map V.str))∧∀ x:Str,partsL.lookup x=none→kvs.lookup x=none
def waysD (ks:List Str) (ds:List D):List D:=((ks.zip ds).filter (fun (p:Str × D)=>p.1 == ("way":Str))).map (·.2)
theorem zip_take {α β:Type}:∀ (i:Nat) (l:List α) (m:List β),(l.take i).zip (m.take i)=(l.zip m).take i
 | 0,_,_=>by simp
 | i + 1,[],_=>by simp
 | i + 1,_::_,[]=>by simp
 | i + 1,a::l,b::m=>by simp [zip_take i l m]
def spWays (K:PySem.W.Frag):Sp:=fun vs H Q _=>ExQ Q (fun (v:V) Q=>ExQ Q (fun (x:Str) Q=>ExQ Q (fun (ds:List D) Q=>ExQ Q (fun (ks:List Str) Q=>vs=[v]∧Is K H (.tup (.str x::ds)) v∧partsL.lookup x=some ks∧ds.length≤1000∧
 ∀ (H':Hp) (t:Addr) (xs:List V),Same H H'→H' t=some (.tup xs)→IsL K H' (waysD ks ds) xs→Q (.ref t) H'))))
section
variable {P:Program} {w:World} {K:PySem.W.Frag} {mg:Str→Option Value} {base:Heap} {f:Addr} {fd:FuncData} {n:Nat} {a_PARTS:Addr}
theorem sc_parts:FnScope ["line"] ["line"] (defScope s_parts):=⟨rfl,rfl,rfl,by decide +kernel,rfl,by decide +kernel,by decide +kernel⟩
theorem sc_ways:FnScope ["line"] ["line"] (defScope s_ways):=⟨rfl,rfl,rfl,by decide +kernel,rfl,by decide +kernel,by decide +kernel⟩
theorem cut1 (v:V) (vs:List V):cutV (v::vs) (some 1) none=vs:=by
 unfold cutV
 rw [show HT.sIx (v::vs).length 0 (some 1)=min 1 (v::vs).length from HT.sIx_nat _ _ 1,HT.sIx_none]
 simp
theorem ok_parts (F:Fun K "parts" "parts" s_parts f fd) (m_list:mg "list" = none) (m_zip:mg "zip" = none) (T:Tab P w K mg a_PARTS):FnOk P w K mg base CX0 (n + 1) f fd ["line"] (spParts K):=by
 refine F.ok sc_parts (fun vs H Q E h=>?_) (fun cdv A outer s H vs Q E hr h=>?_)
 ·obtain ⟨v,x,ds,ks,rfl,_⟩:=h
  rfl
 obtain ⟨v,x,ds,ks,rfl,hi,hk,q⟩:=h
 have sc:=sc_parts
 have m_PARTS:=T.mp
 refine ⟨_,(pss_one (ps_ret (pe_listzip rfl rfl m_list rfl m_zip (pa_cons (pe_ix ix_kd (pe_glob rfl m_PARTS (v:=.ref a_PARTS) rfl) (pe_ix ix_tup (pv 0) pe_int (fun _ _=>rfl)) (fun _ _=>rfl)) (pa_cons (pe_slice sl_tup (pv 0) (po_some pe_int) po_none) pa_nil))))),?_⟩
 obtain ⟨a,xs,rfl,hq,il0⟩:=hi.tup_inv
 obtain ⟨v0,vs,rfl,i0,il⟩:=il0.cons_inv
 have e0:=i0.str_inv
 subst e0
 obtain ⟨kvs,kd,kk,_⟩:=T.kd
 obtain ⟨p,el,hp⟩:=kk x ks hk
 refine ⟨_,rfl,a,_,0,_,rfl,rfl,hq,at0 _ _,?_⟩
 refine ⟨a_PARTS,kvs,x,_,rfl,rfl,kd,el,?_⟩
 refine ⟨_,rfl,_,rfl,a,_,rfl,hq,?_,fun t ht=>?_⟩
 ·rintro ⟨h1,_⟩
  rw [show HT.sIx (V.str x::vs).length 0 (some 1)=min 1 (V.str x::vs).length from HT.sIx_nat _ _ 1] at h1
  simp at h1
 ·rw [cut1] at *
  have st:Same H (upd H t (.tup vs)):=same_new ht _
  have ln:=il.length
  refine ⟨p,t,ks.map V.str,vs,rfl,hp _,SqT.of upd_same,fun H2 l ps s2 e2 n2 l2 h2=>?_⟩
  refine q H2 l ps (st.trans s2) e2 (none_of_same st n2) (by rw [l2,List.length_map,ln]) fun j k d ek ed=>?_
  obtain ⟨v,ev,iv⟩:=il.get ed
  obtain ⟨t2,et,h3⟩:=h2 j (.str k) v (by rw [List.getElem?_map,ek]; rfl) ev
  exact ⟨t2,v,et,h3,iv.mono (st.trans s2).tups⟩
theorem waysD_take {ks:List Str} {ds:List D} {i:Nat} {k:Str} {d:D} (hk:ks[i]?=some k) (hd:ds[i]?=some d) :
  waysD (ks.take (i + 1)) (ds.take (i + 1))=waysD (ks.take i) (ds.take i)++(if k == ("way":Str) then [d] else []):=by
 unfold waysD
 rw [zip_take,zip_take,List.take_add_one]
 have e:(ks.zip ds)[i]?=some (k,d):=by
  rw [List.getElem?_zip_eq_some]; exact ⟨hk,hd⟩
 rw [e,List.filter_append,List.map_append]
 congr 1
 show List.map (·.2) (List.filter (fun (p:Str × D)=>p.1 == ("way":Str)) [(k,d)])=_
 rw [List.filter_cons]
 cases (k == ("way":Str)) <;> rfl
theorem waysD_all (ks:List Str) (ds:List D):waysD (ks.take (min ks.length ds.length)) (ds.take (min ks.length ds.length))=waysD ks ds:=by
 unfold waysD
 rw [zip_take]
 rw [List.take_of_length_le (by rw [List.length_zip]; exact Nat.le_refl _)]
theorem ok_ways (F:Fun K "ways" "ways" s_ways f fd) (m_tuple:mg "tuple" = none) (c_parts:Cl P w K mg base "parts" n ["line"] (spParts K)):FnOk P w K mg base CX0 (n + 1) f fd ["line"] (spWays K):=by
 refine F.ok sc_ways (fun vs H Q E h=>?_) (fun cdv A outer s H vs Q E hr h=>?_)
 ·obtain ⟨v,x,ds,ks,rfl,_⟩:=h
  rfl
 obtain ⟨v,x,ds,ks,rfl,hi,hk,h1000,q⟩:=h
 have sc:=sc_ways
 refine ⟨_,(pss_one (ps_ret (pe_callTy call_tuple_of rfl m_tuple PyProof.Rows.boot_tuple (pa_cons (pe_comp ["kind", "part"] rfl (cmp_ok (N:=["line"]) (so:=defScope s_ways) rfl rfl (by decide +kernel)) (pi_list (pe_cl c_parts hr rfl (pa_cons (pv 0) pa_nil))) (fun _ _ _ _ _ _=>(pg_tupK (K:=K) (n:=2) rfl rfl (pgs_cons (pg_name (i:=0) (show List.Nodup (α:=Str) ["kind", "part", "line"] by decide +kernel) rfl (Or.inl rfl) (Or.inr rfl)) (pgs_cons (pg_name (i:=1) (show List.Nodup (α:=Str) ["kind", "part", "line"] by decide +kernel) rfl (Or.inl rfl) (Or.inr rfl)) pgs_nil)))) (fun _ _ _ _ _ _=>(pifs_one (pt_cmpR op_eq (pv 0) pe_str (nomark _)))) (fun _ _ _ _ _ _=>(pv 1))) pa_nil)))),?_⟩
 refine ⟨_,rfl,v,x,ds,ks,rfl,hi,hk,fun H1 l ps s1 el nl ln hp=>⟨l,rfl,⟨_,SqL.of el⟩,fun p np=>?_⟩⟩
 refine comp_list (xs:=ps) (fun i H'=>Same H1 H'∧∃ acc,H' p=some (.lst acc)∧acc.length≤i∧IsL K H' (waysD (ks.take i) (ds.take i)) acc) ⟨same_new np _,[],upd_same,Nat.le_refl _,isl_nil⟩ (fun i H' _ h=>SqL.of (h.1 _ _ el)) (fun i y H' ey h=>?_) (fun H' h=>?_)
 ·obtain ⟨sm,acc,ea,la,il⟩:=h
  have hi:i < ps.length:=(List.getElem?_eq_some_iff.mp ey).1
  have hk':i < ks.length:=by omega
  have hd':i < ds.length:=by omega
  obtain ⟨t,v,et,ht,iv⟩:=hp i _ _ (List.getElem?_eq_getElem hk') (List.getElem?_eq_getElem hd')
  rw [et] at ey
  cases ey
  refine ⟨t,_,rfl,SqT.of (sm _ _ ht),rfl,_,_,rfl,_,_,rfl,rfl,⟨[some (.str ks[i]),some v],rfl,rfl⟩,?_⟩
  refine ⟨_,rfl,rfl,_,rfl,ite2 (fun cc=>?_) (fun cc=>?_)⟩
  ·have e:=str_t cc
   refine ⟨_,rfl,acc,ea,small1000 (by omega),Same.new sm np,acc++[v],upd_same,by rw [List.length_append,List.length_singleton]; omega,?_⟩
   rw [waysD_take (List.getElem?_eq_getElem hk') (List.getElem?_eq_getElem hd'),e]
   exact IsL.append (il.mono (Tups.lst ea)) (isl_cons ((iv.mono sm.tups).mono (Tups.lst ea)) isl_nil)
  ·have e:=str_f cc
   refine ⟨sm,acc,ea,by omega,?_⟩
   rw [waysD_take (List.getElem?_eq_getElem hk') (List.getElem?_eq_getElem hd'),show (ks[i] == ("way":Str))=false from by simpa using e]
   simpa using il
 ·obtain ⟨sm,acc,ea,la,il⟩:=h
  rw [ln,waysD_all] at il
  refine ⟨p,acc,rfl,.inl ⟨SqL.of ea,fun t nt=>?_⟩⟩
  exact q _ t acc (s1.trans (sm.trans (same_new nt _))) upd_same (il.mono (Tups.new nt))
abbrev s_is_ask:Stmt:=top 12
theorem sc_is_ask:FnScope ["line"] ["line"] (defScope s_is_ask):=⟨rfl,rfl,rfl,by decide +kernel,rfl,by decide +kernel,by decide +kernel⟩
def spIsAsk (K:PySem.W.Frag):Sp:=fun vs H Q _=>ExQ Q (fun (v:V) Q=>ExQ Q (fun (x:Str) Q=>ExQ Q (fun (ds:List D) Q=>vs=[v]∧Is K H (.tup (.str x::ds)) v∧Q (.bl (decide (x=("ask":Str)))) H)))
theorem ok_is_ask (F:Fun K "is_ask" "is_ask" s_is_ask f fd):FnOk P w K mg base CX0 (n + 1) f fd ["line"] (spIsAsk K):=by
 refine F.ok sc_is_ask (fun vs H Q E h=>?_) (fun cdv A outer s H vs Q E hr h=>?_)
 ·obtain ⟨v,x,ds,rfl,_⟩:=h
  rfl
 obtain ⟨v,x,ds,rfl,hi,q⟩:=h
 have sc:=sc_is_ask
 refine ⟨_,(pss_one (ps_ret (pe_cmpR op_eq (pe_ix ix_tup (pv 0) pe_int (fun _ _=>rfl)) pe_str (nomark _)))),?_⟩
 obtain ⟨a,xs,rfl,hq,il0⟩:=hi.tup_inv
 obtain ⟨v0,vs,rfl,i0,il⟩:=il0.cons_inv
 cases i0.str_inv
 refine ⟨_,rfl,a,_,0,_,rfl,rfl,hq,at0 _ _,rfl,?_⟩
 rw [show decide (V.str x=V.str "ask")=decide (x=("ask":Str)) from decide_eq_decide.mpr ⟨fun z=>V.str.inj z,fun z=>by rw [z]⟩]
 exact q
end
abbrev s_node:Stmt:=top 50
abbrev s_ask:Stmt:=top 51
def NodeD (names rows:Int) (d:D):Prop:=d=.tup [.str "zero"]∨(∃ k:Int,0≤k∧k < names∧d=.tup [.str "name",.int k,.int 0])∨∃ k:Int,0≤k∧k < rows∧d=.tup [.str "len",.int k]
def BoundD (names rows:Int) (d:D):Prop:=∃ a b c,NodeD names rows a∧NodeD names rows b∧-1000≤c∧c≤1000∧d=.tup [a,b,.int c]
def MaybeD (names:Int) (d:D):Prop:=d=.non∨∃ i:Int,0≤i∧i < names∧d=.int i
inductive LineD (names rows at_ many:Int):D→Prop
 | set (x c k:Int) (y:D):0≤x→x < names→MaybeD names y→-1000≤c→c≤1000→0≤k→k < many→LineD names rows at_ many (.tup [.str "set",.int x,y,.int c,.int k])
 | sum (x z k:Int) (w:D):0≤x→x < names→0≤z→z < names→MaybeD names w→0≤k→k < many→LineD names rows at_ many (.tup [.str "sum",.int x,.int z,w,.int k])
 | len (x r k:Int):0≤x→x < names→0≤r→r < rows→0≤k→k < many→LineD names rows at_ many (.tup [.str "len",.int x,.int r,.int k])
 | take (x k:Int):0≤x→x < names→0≤k→k < many→LineD names rows at_ many (.tup [.str "take",.int x,.int k])
 | get (x r c k:Int) (y:D):0≤x→x < names→0≤r→r < rows→MaybeD names y→-1000≤c→c≤1000→0≤k→k < many→LineD names rows at_ many (.tup [.str "get",.int x,.int r,y,.int c,.int k])
 | put (r c z k:Int) (y:D):0≤r→r < rows→MaybeD names y→-1000≤c→c≤1000→0≤z→z < names→0≤k→k < many→LineD names rows at_ many (.tup [.str "put",.int r,y,.int c,.int z,.int k])
 | tell (x k:Int):0≤x→x < names→0≤k→k < many→LineD names rows at_ many (.tup [.str "tell",.int x,.int k])
 | test (y w:D) (c k m:Int):MaybeD names y→MaybeD names w→-1000≤c→c≤1000→0≤k→k < many→0≤m→m < many→LineD names rows at_ many (.tup [.str "test",y,w,.int c,.int k,.int m])
 | ask (bs:List D) (k m:Int):1≤bs.length→bs.length≤4→(∀ b∈bs,BoundD names rows b)→at_ < k→k < many→at_ < m→m < many→LineD names rows at_ many (.tup [.str "ask",.tup bs,.int k,.int m])
 | end_:LineD names rows at_ many (.tup [.str "end"])
def spNode (K:PySem.W.Frag):Sp:=fun vs H Q _=>ExQ Q (fun (c:Int) Q=>ExQ Q (fun (names:Int) Q=>ExQ Q (fun (rows:Int) Q=>vs=[.int c,.int names,.int rows]∧0≤names∧names≤100∧0≤rows∧rows≤100∧∀ (d:D) (v:V) (H':Hp),NodeD names rows d→Same H H'→Is K H' d v→Q v H')))
def spAsk (K:PySem.W.Frag):Sp:=fun vs H Q _=>ExQ Q (fun (c:Int) Q=>ExQ Q (fun (names:Int) Q=>ExQ Q (fun (rows:Int) Q=>ExQ Q (fun (at_:Int) Q=>ExQ Q (fun (many:Int) Q=>vs=[.int c,.int names,.int rows,.int at_,.int many]∧0≤names∧names≤100∧0≤rows∧rows≤100∧0≤at_∧at_ + 1 < many∧
 ∀ (d:D) (v:V) (H':Hp),LineD names rows at_ many d→Same H H'→Is K H' d v→Q v H')))))
section
variable {P:Program} {w:World} {K:PySem.W.Frag} {mg:Str→Option Value} {base:Heap} {f:Addr} {fd:FuncData} {n:Nat}
local macro_rules | `(tactic| walk_at "s")=>`(tactic| first | exact ⟨by decide,by decide⟩ | exact ⟨by decide,by decide,by decide⟩ | exact Or.inl ⟨by decide,by decide⟩ | exact Or.inr ⟨by decide,by decide⟩ | (show (0:Int) < _; decide) | (show (0:Int)≤_; decide) | (show (0:Int) < _; omega) | (show (0:Int)≤_; omega) | exact ⟨by omega,by omega⟩ | exact Or.inl ⟨by omega,by omega⟩ | exact Or.inr ⟨by omega,by omega⟩)
local macro_rules | `(tactic| walk_at "r")=>`(tactic| repeat (first | (refine ⟨_,rfl,?_⟩) | (refine ⟨_,_,rfl,rfl,?_⟩) | (refine ⟨rfl,?_⟩) | (refine ⟨by walk_at "s",?_⟩)))
theorem sc_node:FnScope ["_law_cell_here", "_law_names", "_law_rows_here", "_law_some"] ["_law_cell_here", "_law_names", "_law_rows_here"] (defScope s_node):=⟨rfl,rfl,rfl,by decide +kernel,rfl,by decide +kernel,by decide +kernel⟩
theorem sc_ask:FnScope ["_law_cell_here", "_law_names", "_law_rows_here", "_law_at", "_law_many", "_law_bounds", "_law_k", "_law_ahead", "_law_first", "_law_last"] ["_law_cell_here", "_law_names", "_law_rows_here", "_law_at", "_law_many"] (defScope s_ask):=⟨rfl,rfl,rfl,by decide +kernel,rfl,by decide +kernel,by decide +kernel⟩
theorem ok_node (F:Fun K "_law_node" "_law_node" s_node f fd) (m_len:mg "len" = none) (m_range:mg "range" = none):FnOk P w K mg base CX0 (n + 1) f fd ["_law_cell_here", "_law_names", "_law_rows_here"] (spNode K):=by
 refine F.ok sc_node (fun vs H Q E h=>?_) (fun cdv A outer s H vs Q E hr h=>?_)
 ·obtain ⟨c,names,rows,rfl,_⟩:=h
  rfl
 obtain ⟨c,names,rows,rfl,n0,n1,r0,r1,q⟩:=h
 have sc:=sc_node
 refine ⟨_,(@pss_cons _ _ _ _ _ (ps_set (i:=3) sc.nd rfl (Or.inl rfl) (pe_op op_cat (pe_op op_cat (pe_lst (pa_cons (pe_tup (pa_cons pe_str pa_nil)) pa_nil)) (pe_comp ["_law_k"] rfl (cmp_ok (N:=["_law_cell_here", "_law_names", "_law_rows_here", "_law_some"]) (so:=defScope s_node) rfl rfl (by decide +kernel)) (pi_range1 rfl m_range (pa_cons (pv 1) pa_nil)) (fun _ _ _ _ _ _=>(pg_name (i:=0) (show List.Nodup (α:=Str) ["_law_k", "_law_cell_here", "_law_names", "_law_rows_here", "_law_some"] by decide +kernel) rfl (Or.inl rfl) (Or.inr rfl))) (fun _ _ _ _ _ _=>pifs_nil) (fun _ _ _ _ _ _=>(pe_tup (pa_cons pe_str (pa_cons (pv 0) (pa_cons pe_int pa_nil))))))) (pe_comp ["_law_k"] rfl (cmp_ok (N:=["_law_cell_here", "_law_names", "_law_rows_here", "_law_some"]) (so:=defScope s_node) rfl rfl (by decide +kernel)) (pi_range1 rfl m_range (pa_cons (pv 2) pa_nil)) (fun _ _ _ _ _ _=>(pg_name (i:=0) (show List.Nodup (α:=Str) ["_law_k", "_law_cell_here", "_law_names", "_law_rows_here", "_law_some"] by decide +kernel) rfl (Or.inl rfl) (Or.inr rfl))) (fun _ _ _ _ _ _=>pifs_nil) (fun _ _ _ _ _ _=>(pe_tup (pa_cons pe_str (pa_cons (pv 0) pa_nil)))))))
   (pss_one (ps_ret (pe_ix ix_list (pv 3) (pe_op op_mod (pv 0) (pe_callB call_len_seq rfl m_len PySem.boot_len (pa_cons (pv 3) pa_nil))) (fun _ _=>rfl))))),?_⟩
 refine ⟨Nat.le_of_ble_eq_true rfl,fun t ht=>⟨Nat.le_of_ble_eq_true rfl,fun l hl=>?_⟩⟩
 refine ⟨_,rfl,names,rfl,by omega,by omega,fun p hp=>?_⟩
 have H1s:Same H (upd (upd H t (.tup [.str "zero"])) l (.lst [.ref t])):=(same_new ht _).trans (same_new hl _)
 generalize hH1:upd (upd H t (.tup [.str "zero"])) l (.lst [.ref t])=H1 at H1s hp
 have e_l:H1 l=some (.lst [.ref t]):=by rw [← hH1]; exact upd_same
 have e_t:H1 t=some (.tup [.str "zero"]):=by rw [← hH1,upd_ne (ne_p (upd_same) hl)]; exact upd_same
 refine comp_range (fun i H'=>Same H1 H'∧∃ acc,H' p=some (.lst acc)∧IsL K H' ((List.range i).map fun (k:Nat)=>D.tup [.str "name",.int (k:Int),.int 0]) acc) ⟨same_new hp _,[],upd_same,isl_nil⟩ (fun i H' hi h=>?_) (fun H' h=>?_)
 ·obtain ⟨sm,acc,ea,il⟩:=h
  refine ⟨⟨[some (.int (0 + (i:Int)))],rfl,rfl⟩,?_⟩
  refine tTrue_ite ?_
  refine ⟨_,rfl,Nat.le_of_ble_eq_true rfl,fun t2 ht2=>?_⟩
  have tn:=Tups.new (o:=.tup [.str "name",.int (0 + (i:Int)),.int 0]) ht2
  have ea2:upd H' t2 (.tup [.str "name",.int (0 + (i:Int)),.int 0]) p=some (.lst acc):=by rw [upd_ne (ne_p ea ht2)]; exact ea
  have ln:=il.length
  rw [List.length_map,List.length_range] at ln
  refine ⟨acc,ea2,small1000 (by omega),?_,acc++[.ref t2],upd_same,?_⟩
  ·exact Same.new (Same.new sm (none_of_same sm ht2)) hp
  ·rw [List.range_succ,List.map_append]
   refine IsL.append ((il.mono tn).mono (Tups.lst ea2)) (isl_cons ?_ isl_nil)
   have et:upd (upd H' t2 (.tup [.str "name",.int (0 + (i:Int)),.int 0])) p (.lst (acc++[.ref t2])) t2=some (.tup [.str "name",.int (0 + (i:Int)),.int 0]):=by
    rw [upd_ne (ne_p ea ht2).symm]; exact upd_same
   refine is_tup (SqT.of et) (isl_cons is_str (isl_cons ?_ (isl_cons is_int isl_nil)))
   rw [Int.zero_add]; exact is_int
 ·obtain ⟨sm,acc,ea,il⟩:=h
  have ln:=il.length
  rw [List.length_map,List.length_range] at ln
  have e_l2:=sm _ _ e_l
  refine ⟨l,p,_,acc,rfl,rfl,e_l2,ea,small (by simp; omega),fun l3 hl3=>?_⟩
  refine ⟨_,rfl,rows,rfl,by omega,by omega,fun p4 hp4=>?_⟩
  have t3:=Tups.new (o:=.lst ([.ref t]++acc)) hl3
  have s3:Same H1 (upd H' l3 (.lst ([.ref t]++acc))):=sm.trans (same_new hl3 _)
  have il3:=il.mono t3
  have e3:upd H' l3 (.lst ([.ref t]++acc)) l3=some (.lst ([.ref t]++acc)):=upd_same
  generalize upd H' l3 (.lst ([.ref t]++acc))=H3 at t3 s3 il3 e3 hp4
  refine comp_range (fun i H'=>Same H3 H'∧∃ acc,H' p4=some (.lst acc)∧IsL K H' ((List.range i).map fun (k:Nat)=>D.tup [.str "len",.int (k:Int)]) acc) ⟨same_new hp4 _,[],upd_same,isl_nil⟩ (fun i H' hi h=>?_) (fun H' h=>?_)
  ·obtain ⟨sm,acc,ea,il⟩:=h
   refine ⟨⟨[some (.int (0 + (i:Int)))],rfl,rfl⟩,?_⟩
   refine tTrue_ite ?_
   refine ⟨_,rfl,Nat.le_of_ble_eq_true rfl,fun t2 ht2=>?_⟩
   have tn:=Tups.new (o:=.tup [.str "len",.int (0 + (i:Int))]) ht2
   have ea2:upd H' t2 (.tup [.str "len",.int (0 + (i:Int))]) p4=some (.lst acc):=by rw [upd_ne (ne_p ea ht2)]; exact ea
   have ln:=il.length
   rw [List.length_map,List.length_range] at ln
   refine ⟨acc,ea2,small1000 (by omega),?_,acc++[.ref t2],upd_same,?_⟩
   ·exact Same.new (Same.new sm (none_of_same sm ht2)) hp4
   ·rw [List.range_succ,List.map_append]
    refine IsL.append ((il.mono tn).mono (Tups.lst ea2)) (isl_cons ?_ isl_nil)
    have et:upd (upd H' t2 (.tup [.str "len",.int (0 + (i:Int))])) p4 (.lst (acc++[.ref t2])) t2=some (.tup [.str "len",.int (0 + (i:Int))]):=by
     rw [upd_ne (ne_p ea ht2).symm]; exact upd_same
    refine is_tup (SqT.of et) (isl_cons is_str (isl_cons ?_ isl_nil))
    rw [Int.zero_add]; exact is_int
  ·obtain ⟨sm5,acc5,ea5,il5⟩:=h
   have ln5:=il5.length
   rw [List.length_map,List.length_range] at ln5
   refine ⟨l3,p4,_,acc5,rfl,rfl,sm5 _ _ e3,ea5,small (by simp; omega),fun l6 hl6=>?_⟩
   -- the whole list,by data
   have t6:=Tups.new (o:=.lst (([.ref t]++acc)++acc5)) hl6
   have it:Is K (upd H' l6 (.lst (([.ref t]++acc)++acc5))) (.tup [.str "zero"]) (.ref t):=(is_tup (SqT.of (sm5 _ _ (s3 _ _ e_t))) (isl_cons is_str isl_nil)).mono t6
   have all:=IsL.append (IsL.append (isl_cons it isl_nil) ((il3.mono sm5.tups).mono t6)) (il5.mono t6)
   have e6:upd H' l6 (.lst (([.ref t]++acc)++acc5)) l6=some (.lst (([.ref t]++acc)++acc5)):=upd_same
   have s6:Same H (upd H' l6 (.lst (([.ref t]++acc)++acc5))):=H1s.trans (s3.trans (sm5.trans (same_new hl6 _)))
   generalize upd H' l6 (.lst (([.ref t]++acc)++acc5))=H6 at e6 all s6
   obtain ⟨j,v,ev,ej⟩:=atI_mod (xs:=([.ref t]++acc)++acc5) (c:=c) (by simp)
   refine ⟨_,rfl,_,rfl,_,rfl,l6,_,rfl,.inl (SqL.of e6),_,_,rfl,rfl,by show (0:Int) < _; simp; omega,l6,_,_,v,rfl,rfl,SqL.of e6,ev,?_⟩
   obtain ⟨d,ed,isd⟩:=all.get' ej
   refine q d v H6 ?_ s6 isd
   have md:=List.mem_of_getElem? ed
   rcases List.mem_append.mp md with md | md
   ·rcases List.mem_append.mp md with md | md
    ·rw [List.mem_singleton.mp md]; exact .inl rfl
    ·obtain ⟨k,hk,rfl⟩:=List.mem_map.mp md
     have:=List.mem_range.mp hk
     exact .inr (.inl ⟨k,by omega,by omega,rfl⟩)
   ·obtain ⟨k,hk,rfl⟩:=List.mem_map.mp md
    have:=List.mem_range.mp hk
    exact .inr (.inr ⟨k,by omega,by omega,rfl⟩)
theorem ok_ask (F:Fun K "_law_ask" "_law_ask" s_ask f fd) (m_range:mg "range" = none) (m_tuple:mg "tuple" = none) (c_law_pick:Cl P w K mg base "_law_pick" n ["_law_cell_here", "_law_k", "_law_many"] spPick) (c_law_number:Cl P w K mg base "_law_number" n ["_law_cell_here"] spNumber)
  (c_law_node:Cl P w K mg base "_law_node" n ["_law_cell_here", "_law_names", "_law_rows_here"] (spNode K)):FnOk P w K mg base CX0 (n + 1) f fd ["_law_cell_here", "_law_names", "_law_rows_here", "_law_at", "_law_many"] (spAsk K):=by
 refine F.ok sc_ask (fun vs H Q E h=>?_) (fun cdv A outer s H vs Q E hr h=>?_)
 ·obtain ⟨c,names,rows,at_,many,rfl,_⟩:=h
  rfl
 obtain ⟨c,names,rows,at_,many,rfl,n0,n1,r0,r1,a0,a1,q⟩:=h
 have sc:=sc_ask
 refine ⟨_,(@pss_cons _ _ _ _ _ (ps_set (i:=5) sc.nd rfl (Or.inl rfl) (pe_lst pa_nil))
   (@pss_cons _ _ _ _ _ (ps_for PassesOwn.never rfl (pi_range1 rfl m_range (pa_cons (pe_op op_add pe_int (pe_cl c_law_pick hr rfl (pa_cons (pv 0) (pa_cons pe_int (pa_cons pe_int pa_nil))))) pa_nil)) (pg_name (i:=6) sc.nd rfl (Or.inl rfl)) (@pss_cons _ _ _ _ _ (ps_set (i:=8) sc.nd rfl (Or.inl rfl) (pe_cl c_law_node hr rfl (pa_cons (pe_cl c_law_pick hr rfl (pa_cons (pv 0) (pa_cons (pe_op op_add pe_int (pv 6)) (pa_cons pe_int pa_nil)))) (pa_cons (pv 1) (pa_cons (pv 2) pa_nil)))))
   (@pss_cons _ _ _ _ _ (ps_set (i:=9) sc.nd rfl (Or.inl rfl) (pe_cl c_law_node hr rfl (pa_cons (pe_cl c_law_pick hr rfl (pa_cons (pv 0) (pa_cons (pe_op op_add pe_int (pv 6)) (pa_cons pe_int pa_nil)))) (pa_cons (pv 1) (pa_cons (pv 2) pa_nil)))))
   (pss_one (ps_expr (pe_bm PySem.F.plainAttrs_list PySem.F.slot_list_append PySem.F.type_list_append mt_append (pv 5) (pa_cons (pe_tup (pa_cons (pv 8) (pa_cons (pv 9) (pa_cons (pe_cl c_law_number hr rfl (pa_cons (pe_cl c_law_pick hr rfl (pa_cons (pv 0) (pa_cons (pe_op op_add pe_int (pv 6)) (pa_cons pe_int pa_nil)))) pa_nil)) pa_nil)))) pa_nil)))))))
   (@pss_cons _ _ _ _ _ (ps_set (i:=7) sc.nd rfl (Or.inl rfl) (pe_op op_sub (pe_op op_sub (pv 4) pe_int) (pv 3)))
   (pss_one (ps_ret (pe_tup (pa_cons pe_str (pa_cons (pe_callTy call_tuple_of rfl m_tuple PyProof.Rows.boot_tuple (pa_cons (pv 5) pa_nil)) (pa_cons (pe_op op_add (pe_op op_add (pv 3) pe_int) (pe_cl c_law_pick hr rfl (pa_cons (pv 0) (pa_cons pe_int (pa_cons (pv 7) pa_nil))))) (pa_cons (pe_op op_add (pe_op op_add (pv 3) pe_int) (pe_cl c_law_pick hr rfl (pa_cons (pv 0) (pa_cons pe_int (pa_cons (pv 7) pa_nil))))) pa_nil)))))))))),?_⟩
 refine ⟨Nat.le_of_ble_eq_true rfl,fun l hl=>?_⟩
 refine ⟨_,rfl,c,20,4,rfl,by decide,by decide,by decide,fun i i0 i1=>⟨_,_,rfl,rfl,_,rfl,by omega,by omega,?_⟩⟩
 refine for_range (fun j σ H'=>Same H H'∧∃ acc ds y6 y8 y9,H' l=some (.lst acc)∧IsL K H' ds acc∧ds.length=j∧(∀ d∈ds,BoundD names rows d)∧
   σ=[some (.int c),some (.int names),some (.int rows),some (.int at_),some (.int many),some (.ref l),y6,none,y8,y9]) ⟨same_new hl _,[],[],_,_,_,upd_same,isl_nil,rfl,fun d hd=>by simp at hd,rfl⟩ (fun j σ H' hj h=>?_) (fun σ H' h=>?_)
 ·obtain ⟨sm,acc,ds,y6,y8,y9,el,il,ln,hb,rfl⟩:=h
  have hj4:j < 4:=by omega
  refine ⟨_,rfl,_,rfl,_,_,rfl,rfl,c,_,1000,rfl,by omega,by omega,by decide,fun k1 k10 k11=>?_⟩
  refine ⟨_,rfl,_,rfl,k1,names,rows,rfl,n0,n1,r0,r1,fun d1 v1 H1 nd1 s1 is1=>?_⟩
  refine ⟨_,rfl,_,rfl,_,_,rfl,rfl,c,_,1000,rfl,by omega,by omega,by decide,fun k2 k20 k21=>?_⟩
  refine ⟨_,rfl,_,rfl,k2,names,rows,rfl,n0,n1,r0,r1,fun d2 v2 H2 nd2 s2 is2=>?_⟩
  have el2:=s2 _ _ (s1 _ _ el)
  refine ⟨_,rfl,.inl ⟨rfl,_,SqL.of el2⟩,_,rfl,_,rfl,_,rfl,_,rfl,_,_,rfl,rfl,c,_,100000,rfl,by omega,by omega,by decide,fun k3 k30 k31=>?_⟩
  refine ⟨k3,rfl,fun c3 c30 c31 H3 s3=>⟨Nat.le_of_ble_eq_true rfl,fun t ht=>?_⟩⟩
  have el3:=s3 _ _ el2
  have tn:=Tups.new (o:=.tup [v1,v2,.int c3]) ht
  have el4:upd H3 t (.tup [v1,v2,.int c3]) l=some (.lst acc):=by rw [upd_ne (ne_p el3 ht)]; exact el3
  have la:=il.length
  refine ⟨l,acc,.ref t,rfl,rfl,el4,small1000 (by omega),?_,acc++[.ref t],ds++[.tup [d1,d2,.int c3]],_,_,_,upd_same,?_,by simp [ln],fun d hd=>?_,rfl⟩
  ·exact Same.new (Same.new (sm.trans (s1.trans (s2.trans s3))) (none_of_same (sm.trans (s1.trans (s2.trans s3))) ht)) hl
  ·have tl:=Tups.lst (ys:=acc++[.ref t]) el4
   refine IsL.append ((((il.mono (s1.trans (s2.trans s3)).tups).mono tn).mono tl)) (isl_cons ?_ isl_nil)
   have et:upd (upd H3 t (.tup [v1,v2,.int c3])) l (.lst (acc++[.ref t])) t=some (.tup [v1,v2,.int c3]):=by rw [upd_ne (ne_p el3 ht).symm]; exact upd_same
   exact is_tup (SqT.of et) (isl_cons ((((is1.mono (s2.trans s3).tups).mono tn).mono tl)) (isl_cons (((is2.mono s3.tups).mono tn).mono tl) (isl_cons is_int isl_nil)))
  ·rcases List.mem_append.mp hd with hd | hd
   ·exact hb d hd
   ·rw [List.mem_singleton.mp hd]
    exact ⟨d1,d2,c3,nd1,nd2,c30,c31,rfl⟩
 ·obtain ⟨sm,acc,ds,y6,y8,y9,el,il,ln,hb,rfl⟩:=h
  refine ⟨_,rfl,_,_,rfl,rfl,_,rfl,_,_,rfl,rfl,?_⟩
  refine ⟨_,rfl,l,acc,rfl,.inl ⟨SqL.of el,fun t2 ht2=>?_⟩⟩
  refine ⟨_,rfl,_,_,rfl,rfl,_,rfl,_,rfl,c,33,_,rfl,by decide,by decide,by omega,fun k1 k10 k11=>⟨_,_,rfl,rfl,?_⟩⟩
  refine ⟨_,rfl,_,_,rfl,rfl,_,rfl,_,rfl,c,34,_,rfl,by decide,by decide,by omega,fun k2 k20 k21=>⟨_,_,rfl,rfl,Nat.le_of_ble_eq_true rfl,fun t3 ht3=>?_⟩⟩
  have tn2:=Tups.new (o:=.tup acc) ht2
  have tn3:=Tups.new (o:=.tup [.str "ask",.ref t2,.int (at_ + 1 + k1),.int (at_ + 1 + k2)]) ht3
  refine q (.tup [.str "ask",.tup ds,.int (at_ + 1 + k1),.int (at_ + 1 + k2)]) _ _ (.ask ds _ _ (by omega) (by omega) hb (by omega) (by omega) (by omega) (by omega)) (sm.trans ((same_new ht2 _).trans (same_new ht3 _))) ?_
  exact is_tup (SqT.of upd_same) (isl_cons is_str (isl_cons ((is_tup (SqT.of upd_same) (il.mono tn2)).mono tn3) (isl_cons is_int (isl_cons is_int isl_nil))))
end
abbrev s_plain:Stmt:=top 52
abbrev s_line:Stmt:=top 53
theorem maybe_is {n:Int} {v:V} (h:MaybeV n v):∃ d,MaybeD n d∧∀ (K:PySem.W.Frag) (H:Hp),Is K H d v:=by
 rcases h with rfl | ⟨i,h0,h1,rfl⟩
 ·exact ⟨.non,.inl rfl,fun _ _=>is_non⟩
 ·exact ⟨.int i,.inr ⟨i,h0,h1,rfl⟩,fun _ _=>is_int⟩
theorem in2 {x a b:Str}:inV (.str x) [.str a,.str b]=true↔x=a∨x=b:=by
 show (([V.str a,V.str b]).any fun y=>eqV y (.str x))=true↔_
 simp only [List.any_cons,List.any_nil,Bool.or_false,Bool.or_eq_true]
 show (a == x)=true∨(b == x)=true↔_
 simp only [beq_iff_eq]
 constructor
 ·rintro (h | h); exact .inl h.symm; exact .inr h.symm
 ·rintro (h | h); exact .inl h.symm; exact .inr h.symm
theorem and_pure {t u:TT} {σ:L2.St} {H:Hp} {Q:Bool→Hp→Prop} (b1 b2:Bool) (ht:∀ Q':Bool→Hp→Prop,Q' b1 H→t σ H Q') (hu:b1=true→∀ Q':Bool→Hp→Prop,Q' b2 H→u σ H Q') (h:Q (b1 && b2) H):tAnd t u σ H Q:=by
 refine ht _ ?_
 cases b1 with
 | true=>rw [if_pos rfl]; exact hu rfl _ (by simpa using h)
 | false=>rw [if_neg Bool.false_ne_true]; simpa using h
theorem or_same {t u:TT} {σ:L2.St} {H:Hp} {Q:Bool→Hp→Prop} (b1:Bool) (φ:Prop) (ht:∀ Q':Bool→Hp→Prop,Q' b1 H→t σ H Q') (hu:b1=false→∀ Q':Bool→Hp→Prop,(∀ H' b2,Same H H'→(b2=true↔φ)→Q' b2 H')→u σ H Q')
  (h:∀ b H',Same H H'→(b=true↔(b1=true∨φ))→Q b H'):tOr t u σ H Q:=by
 refine ht _ ?_
 cases b1 with
 | true=>rw [if_pos rfl]; exact h _ _ (Same.refl H) (by simp)
 | false=>rw [if_neg Bool.false_ne_true]; exact hu rfl _ fun H' b2 s2 e=>h b2 H' s2 (by simp [e])
def spPlain (K:PySem.W.Frag):Sp:=fun vs H Q _=>ExQ Q (fun (wd:Str) Q=>ExQ Q (fun (c:Int) Q=>ExQ Q (fun (names:Int) Q=>ExQ Q (fun (rows:Int) Q=>ExQ Q (fun (goal:Int) Q=>ExQ Q (fun (at_:Int) Q=>ExQ Q (fun (many:Int) Q=>vs=[.str wd,.int c,.int names,.int rows,.int goal]∧0 < names∧0≤goal∧goal < many∧
 (wd = "set"∨wd = "sum"∨wd = "take"∨wd = "tell"∨(0 < rows∧(wd = "len"∨wd = "get"∨wd = "put")))∧∀ (d:D) (v:V) (H':Hp),LineD names rows at_ many d→Same H H'→Is K H' d v→Q v H')))))))
def spLine (K:PySem.W.Frag):Sp:=fun vs H Q _=>ExQ Q (fun (c:Int) Q=>ExQ Q (fun (names:Int) Q=>ExQ Q (fun (rows:Int) Q=>ExQ Q (fun (at_:Int) Q=>ExQ Q (fun (many:Int) Q=>vs=[.int c,.int names,.int rows,.int at_,.int many]∧0≤names∧names≤100∧0≤rows∧rows≤100∧0≤at_∧0 < many∧
 ∀ (d:D) (v:V) (H':Hp),LineD names rows at_ many d→Same H H'→Is K H' d v→Q v H')))))
section
variable {P:Program} {w:World} {K:PySem.W.Frag} {mg:Str→Option Value} {base:Heap} {f:Addr} {fd:FuncData} {n:Nat}
theorem sc_plain:FnScope ["_law_word", "_law_cell_here", "_law_names", "_law_rows_here", "_law_goal", "_law_x", "_law_number_here", "_law_maybe_here", "_law_other", "_law_row"] ["_law_word", "_law_cell_here", "_law_names", "_law_rows_here", "_law_goal"] (defScope s_plain):=⟨rfl,rfl,rfl,by decide +kernel,rfl,by decide +kernel,by decide +kernel⟩
theorem sc_line:FnScope ["_law_cell_here", "_law_names", "_law_rows_here", "_law_at", "_law_many", "_law_words_here", "_law_word", "_law_goal", "_law_first", "_law_last"] ["_law_cell_here", "_law_names", "_law_rows_here", "_law_at", "_law_many"] (defScope s_line):=⟨rfl,rfl,rfl,by decide +kernel,rfl,by decide +kernel,by decide +kernel⟩
theorem ok_plain (F:Fun K "_law_plain" "_law_plain" s_plain f fd) (c_law_pick:Cl P w K mg base "_law_pick" n ["_law_cell_here", "_law_k", "_law_many"] spPick) (c_law_number:Cl P w K mg base "_law_number" n ["_law_cell_here"] spNumber)
  (c_law_maybe:Cl P w K mg base "_law_maybe" n ["_law_cell_here", "_law_names"] spMaybe):FnOk P w K mg base CX0 (n + 1) f fd ["_law_word", "_law_cell_here", "_law_names", "_law_rows_here", "_law_goal"] (spPlain K):=by
 refine F.ok sc_plain (fun vs H Q E h=>?_) (fun cdv A outer s H vs Q E hr h=>?_)
 ·obtain ⟨wd,c,names,rows,goal,at_,many,rfl,_⟩:=h
  rfl
 obtain ⟨wd,c,names,rows,goal,at_,many,rfl,n0,g0,g1,hw,q⟩:=h
 have sc:=sc_plain
 refine ⟨_,(@pss_cons _ _ _ _ _ (ps_set (i:=5) sc.nd rfl (Or.inl rfl) (pe_cl c_law_pick hr rfl (pa_cons (pv 1) (pa_cons pe_int (pa_cons (pv 2) pa_nil)))))
   (@pss_cons _ _ _ _ _ (ps_set (i:=6) sc.nd rfl (Or.inl rfl) (pe_cl c_law_number hr rfl (pa_cons (pe_cl c_law_pick hr rfl (pa_cons (pv 1) (pa_cons pe_int (pa_cons pe_int pa_nil)))) pa_nil)))
   (@pss_cons _ _ _ _ _ (ps_set (i:=7) sc.nd rfl (Or.inl rfl) (pe_cl c_law_maybe hr rfl (pa_cons (pe_cl c_law_pick hr rfl (pa_cons (pv 1) (pa_cons pe_int (pa_cons pe_int pa_nil)))) (pa_cons (pv 2) pa_nil))))
   (@pss_cons _ _ _ _ _ (ps_set (i:=8) sc.nd rfl (Or.inl rfl) (pe_cl c_law_pick hr rfl (pa_cons (pv 1) (pa_cons pe_int (pa_cons (pv 2) pa_nil)))))
   (@pss_cons _ _ _ _ _ (ps_if (pt_cmpR op_eq (pv 0) pe_str (nomark _)) (pss_one (ps_ret (pe_tup (pa_cons (pv 0) (pa_cons (pv 5) (pa_cons (pv 7) (pa_cons (pv 6) (pa_cons (pv 4) pa_nil)))))))) pss_nil)
   (@pss_cons _ _ _ _ _ (ps_if (pt_cmpR op_eq (pv 0) pe_str (nomark _)) (pss_one (ps_ret (pe_tup (pa_cons (pv 0) (pa_cons (pv 5) (pa_cons (pv 8) (pa_cons (pv 7) (pa_cons (pv 4) pa_nil)))))))) pss_nil)
   (@pss_cons _ _ _ _ _ (ps_if (pt_cmpR op_in_seq (pv 0) (pe_tup (pa_consts rfl)) (by with_unfolding_all rfl)) (pss_one (ps_ret (pe_tup (pa_cons (pv 0) (pa_cons (pv 5) (pa_cons (pv 4) pa_nil)))))) pss_nil)
   (@pss_cons _ _ _ _ _ (ps_set (i:=9) sc.nd rfl (Or.inl rfl) (pe_cl c_law_pick hr rfl (pa_cons (pv 1) (pa_cons pe_int (pa_cons (pv 3) pa_nil)))))
   (@pss_cons _ _ _ _ _ (ps_if (pt_cmpR op_eq (pv 0) pe_str (nomark _)) (pss_one (ps_ret (pe_tup (pa_cons (pv 0) (pa_cons (pv 5) (pa_cons (pv 9) (pa_cons (pv 4) pa_nil))))))) pss_nil)
   (@pss_cons _ _ _ _ _ (ps_if (pt_cmpR op_eq (pv 0) pe_str (nomark _)) (pss_one (ps_ret (pe_tup (pa_cons (pv 0) (pa_cons (pv 5) (pa_cons (pv 9) (pa_cons (pv 7) (pa_cons (pv 6) (pa_cons (pv 4) pa_nil))))))))) pss_nil)
   (pss_one (ps_ret (pe_tup (pa_cons (pv 0) (pa_cons (pv 9) (pa_cons (pv 7) (pa_cons (pv 6) (pa_cons (pv 5) (pa_cons (pv 4) pa_nil))))))))))))))))))),?_⟩
 refine ⟨_,rfl,_,rfl,c,2,names,rfl,by decide,by decide,n0,fun x x0 x1=>?_⟩
 refine ⟨_,rfl,c,3,100000,rfl,by decide,by decide,by decide,fun k3 _ _=>⟨k3,rfl,fun cn cn0 cn1 H1 s1=>?_⟩⟩
 refine ⟨_,rfl,c,4,1000,rfl,by decide,by decide,by decide,fun k4 _ _=>⟨_,rfl,k4,names,rfl,by omega,fun y hy=>?_⟩⟩
 refine ⟨_,rfl,_,rfl,c,5,names,rfl,by decide,by decide,n0,fun z z0 z1=>?_⟩
 obtain ⟨yd,yD,yis⟩:=maybe_is hy
 refine ⟨_,rfl,rfl,_,rfl,ite2 (fun cc=>?_) (fun cc=>?_)⟩
 ·have e:=str_t cc
  subst e
  refine ⟨_,rfl,_,rfl,_,rfl,_,rfl,_,rfl,Nat.le_of_ble_eq_true rfl,fun t ht=>?_⟩
  exact q _ _ _ (.set x cn goal yd x0 x1 yD cn0 cn1 g0 g1) (s1.trans (same_new ht _)) (is_tup (SqT.of upd_same) (isl_cons is_str (isl_cons is_int (isl_cons (yis _ _) (isl_cons is_int (isl_cons is_int isl_nil))))))
 have w1:=str_f cc
 refine ⟨_,rfl,rfl,_,rfl,ite2 (fun cc=>?_) (fun cc=>?_)⟩
 ·have e:=str_t cc
  subst e
  refine ⟨_,rfl,_,rfl,_,rfl,_,rfl,_,rfl,Nat.le_of_ble_eq_true rfl,fun t ht=>?_⟩
  exact q _ _ _ (.sum x z goal yd x0 x1 z0 z1 yD g0 g1) (s1.trans (same_new ht _)) (is_tup (SqT.of upd_same) (isl_cons is_str (isl_cons is_int (isl_cons is_int (isl_cons (yis _ _) (isl_cons is_int isl_nil))))))
 have w2:=str_f cc
 refine ⟨_,rfl,Nat.le_of_ble_eq_true rfl,fun t2 ht2=>⟨t2,_,rfl,.inr (SqT.of upd_same),rfl,rfl,_,rfl,ite2 (fun cc=>?_) (fun cc=>?_)⟩⟩
 ·have cc':inV (.str wd) [.str "take",.str "tell"]=true:=cc
  refine ⟨_,rfl,_,rfl,_,rfl,Nat.le_of_ble_eq_true rfl,fun t ht=>?_⟩
  rcases in2.mp cc' with e | e
  ·subst e
   exact q _ _ _ (.take x goal x0 x1 g0 g1) (s1.trans ((same_new ht2 _).trans (same_new ht _))) (is_tup (SqT.of upd_same) (isl_cons is_str (isl_cons is_int (isl_cons is_int isl_nil))))
  ·subst e
   exact q _ _ _ (.tell x goal x0 x1 g0 g1) (s1.trans ((same_new ht2 _).trans (same_new ht _))) (is_tup (SqT.of upd_same) (isl_cons is_str (isl_cons is_int (isl_cons is_int isl_nil))))
 have cc':¬ inV (.str wd) [.str "take",.str "tell"]=true:=cc
 have w3:¬ (wd = "take"∨wd = "tell"):=fun e=>cc' (in2.mpr e)
 have hw':0 < rows∧(wd = "len"∨wd = "get"∨wd = "put"):=by
  rcases hw with e | e | e | e | e
  ·exact absurd e w1
  ·exact absurd e w2
  ·exact absurd (.inl e) w3
  ·exact absurd (.inr e) w3
  ·exact e
 have s2:=s1.trans (same_new ht2 (.tup [.str "take",.str "tell"]))
 refine ⟨_,rfl,_,rfl,c,6,rows,rfl,by decide,by decide,hw'.1,fun r r0 r1=>?_⟩
 refine ⟨_,rfl,rfl,_,rfl,ite2 (fun cc=>?_) (fun cc=>?_)⟩
 ·have e:=str_t cc
  subst e
  refine ⟨_,rfl,_,rfl,_,rfl,_,rfl,Nat.le_of_ble_eq_true rfl,fun t ht=>?_⟩
  exact q _ _ _ (.len x r goal x0 x1 r0 r1 g0 g1) (s2.trans (same_new ht _)) (is_tup (SqT.of upd_same) (isl_cons is_str (isl_cons is_int (isl_cons is_int (isl_cons is_int isl_nil)))))
 have w4:=str_f cc
 refine ⟨_,rfl,rfl,_,rfl,ite2 (fun cc=>?_) (fun cc=>?_)⟩
 ·have e:=str_t cc
  subst e
  refine ⟨_,rfl,_,rfl,_,rfl,_,rfl,_,rfl,_,rfl,Nat.le_of_ble_eq_true rfl,fun t ht=>?_⟩
  exact q _ _ _ (.get x r cn goal yd x0 x1 r0 r1 yD cn0 cn1 g0 g1) (s2.trans (same_new ht _)) (is_tup (SqT.of upd_same) (isl_cons is_str (isl_cons is_int (isl_cons is_int (isl_cons (yis _ _) (isl_cons is_int (isl_cons is_int isl_nil)))))))
 have w5:=str_f cc
 have e:wd = "put":=by
  rcases hw'.2 with e | e | e
  ·exact absurd e w4
  ·exact absurd e w5
  ·exact e
 subst e
 refine ⟨_,rfl,_,rfl,_,rfl,_,rfl,_,rfl,_,rfl,Nat.le_of_ble_eq_true rfl,fun t ht=>?_⟩
 exact q _ _ _ (.put r cn x goal yd r0 r1 yD cn0 cn1 x0 x1 g0 g1) (s2.trans (same_new ht _)) (is_tup (SqT.of upd_same) (isl_cons is_str (isl_cons is_int (isl_cons (yis _ _) (isl_cons is_int (isl_cons is_int (isl_cons is_int isl_nil)))))))
theorem word_at {m i rows:Int} (h0:0≤i) (h1:i < m) (hm:m=if 0 < rows then 12 else 7):∃ wd:Str,atI [V.str "set",.str "sum",.str "take",.str "tell",.str "test",.str "ask",.str "end",.str "len",.str "get",.str "put",.str "get",.str "put"] i=some (.str wd)∧
  (wd = "set"∨wd = "sum"∨wd = "take"∨wd = "tell"∨wd = "test"∨wd = "ask"∨wd = "end"∨(0 < rows∧(wd = "len"∨wd = "get"∨wd = "put"))):=by
 have hi:i=0∨i=1∨i=2∨i=3∨i=4∨i=5∨i=6∨(0 < rows∧(i=7∨i=8∨i=9∨i=10∨i=11)):=by
  by_cases hr:0 < rows
  ·rw [if_pos hr] at hm; omega
  ·rw [if_neg hr] at hm; omega
 rcases hi with rfl | rfl | rfl | rfl | rfl | rfl | rfl | ⟨hr,rfl | rfl | rfl | rfl | rfl⟩
 ·exact ⟨"set",rfl,.inl rfl⟩
 ·exact ⟨"sum",rfl,.inr (.inl rfl)⟩
 ·exact ⟨"take",rfl,.inr (.inr (.inl rfl))⟩
 ·exact ⟨"tell",rfl,.inr (.inr (.inr (.inl rfl)))⟩
 ·exact ⟨"test",rfl,.inr (.inr (.inr (.inr (.inl rfl))))⟩
 ·exact ⟨"ask",rfl,.inr (.inr (.inr (.inr (.inr (.inl rfl)))))⟩
 ·exact ⟨"end",rfl,.inr (.inr (.inr (.inr (.inr (.inr (.inl rfl))))))⟩
 ·exact ⟨"len",rfl,.inr (.inr (.inr (.inr (.inr (.inr (.inr ⟨hr,.inl rfl⟩))))))⟩
 ·exact ⟨"get",rfl,.inr (.inr (.inr (.inr (.inr (.inr (.inr ⟨hr,.inr (.inl rfl)⟩))))))⟩
 ·exact ⟨"put",rfl,.inr (.inr (.inr (.inr (.inr (.inr (.inr ⟨hr,.inr (.inr rfl)⟩))))))⟩
 ·exact ⟨"get",rfl,.inr (.inr (.inr (.inr (.inr (.inr (.inr ⟨hr,.inr (.inl rfl)⟩))))))⟩
 ·exact ⟨"put",rfl,.inr (.inr (.inr (.inr (.inr (.inr (.inr ⟨hr,.inr (.inr rfl)⟩))))))⟩
theorem ok_line (F:Fun K "_law_line" "_law_line" s_line f fd) (m_int:mg "int" = none) (c_law_pick:Cl P w K mg base "_law_pick" n ["_law_cell_here", "_law_k", "_law_many"] spPick) (c_law_number:Cl P w K mg base "_law_number" n ["_law_cell_here"] spNumber)
  (c_law_maybe:Cl P w K mg base "_law_maybe" n ["_law_cell_here", "_law_names"] spMaybe) (c_law_ask:Cl P w K mg base "_law_ask" n ["_law_cell_here", "_law_names", "_law_rows_here", "_law_at", "_law_many"] (spAsk K)) (c_law_plain:Cl P w K mg base "_law_plain" n ["_law_word", "_law_cell_here", "_law_names", "_law_rows_here", "_law_goal"] (spPlain K)) :
  FnOk P w K mg base CX0 (n + 1) f fd ["_law_cell_here", "_law_names", "_law_rows_here", "_law_at", "_law_many"] (spLine K):=by
 refine F.ok sc_line (fun vs H Q E h=>?_) (fun cdv A outer s H vs Q E hr h=>?_)
 ·obtain ⟨c,names,rows,at_,many,rfl,_⟩:=h
  rfl
 obtain ⟨c,names,rows,at_,many,rfl,n0,n1,r0,r1,a0,m0,q⟩:=h
 have sc:=sc_line
 refine ⟨_,(@pss_cons _ _ _ _ _ (@ps_set _ _ 5 _ _ _ _ sc.nd rfl (Or.inl rfl) (@pe_lst _ _ _ _ (@pa_consts _ _ _ rfl)) rfl (by first | exact .inl rfl | exact .inr rfl))
   (@pss_cons _ _ _ _ _ (ps_set (i:=6) sc.nd rfl (Or.inl rfl) (pe_ix ix_list (pv 5) (pe_cl c_law_pick hr rfl (pa_cons (pv 0) (pa_cons pe_int (pa_cons (pe_ix ix_list (pe_lst (pa_consts rfl)) (pe_callTy call_int1 rfl m_int PyProof.Rows.boot_int (pa_cons (pe_cmpR op_gt (pv 2) pe_int (nomark _)) pa_nil)) (fun _ _=>rfl)) pa_nil)))) (fun _ _=>rfl)))
   (@pss_cons _ _ _ _ _ (ps_set (i:=7) sc.nd rfl (Or.inl rfl) (pe_cl c_law_pick hr rfl (pa_cons (pv 0) (pa_cons pe_int (pa_cons (pv 4) pa_nil)))))
   (@pss_cons _ _ _ _ _ (ps_if (PW.pt (pw_and (pt_cmpR op_eq (pv 6) pe_str (nomark _)) (pw_and1 (pt_cmpR op_lt (pe_op op_add (pv 3) pe_int) (pv 4) (nomark _))))) (pss_one (ps_ret (pe_cl c_law_ask hr rfl (pa_cons (pv 0) (pa_cons (pv 1) (pa_cons (pv 2) (pa_cons (pv 3) (pa_cons (pv 4) pa_nil)))))))) pss_nil)
   (@pss_cons _ _ _ _ _ (ps_if (pt_cmpR op_eq (pv 6) pe_str (nomark _)) (pss_one (ps_ret (pe_tup (pa_cons pe_str pa_nil)))) pss_nil)
   (@pss_cons _ _ _ _ _ (ps_if (PW.pt (pw_or (pt_cmpR op_eq (pv 1) pe_int (nomark _)) (pw_or1 (pt_cmpR op_in_seq (pv 6) (pe_tup (pa_consts rfl)) (by with_unfolding_all rfl))))) (@pss_cons _ _ _ _ _ (ps_set (i:=8) sc.nd rfl (Or.inl rfl) (pe_cl c_law_maybe hr rfl (pa_cons (pe_cl c_law_pick hr rfl (pa_cons (pv 0) (pa_cons pe_int (pa_cons pe_int pa_nil)))) (pa_cons (pv 1) pa_nil))))
   (@pss_cons _ _ _ _ _ (ps_set (i:=9) sc.nd rfl (Or.inl rfl) (pe_cl c_law_maybe hr rfl (pa_cons (pe_cl c_law_pick hr rfl (pa_cons (pv 0) (pa_cons pe_int (pa_cons pe_int pa_nil)))) (pa_cons (pv 1) pa_nil))))
   (pss_one (ps_ret (pe_tup (pa_cons pe_str (pa_cons (pv 8) (pa_cons (pv 9) (pa_cons (pe_cl c_law_number hr rfl (pa_cons (pe_cl c_law_pick hr rfl (pa_cons (pv 0) (pa_cons pe_int (pa_cons pe_int pa_nil)))) pa_nil)) (pa_cons (pv 7) (pa_cons (pe_cl c_law_pick hr rfl (pa_cons (pv 0) (pa_cons pe_int (pa_cons (pv 4) pa_nil)))) pa_nil))))))))))) pss_nil)
   (pss_one (ps_ret (pe_cl c_law_plain hr rfl (pa_cons (pv 6) (pa_cons (pv 0) (pa_cons (pv 1) (pa_cons (pv 2) (pa_cons (pv 7) pa_nil)))))))))))))),?_⟩
 refine ⟨Nat.le_of_ble_eq_true rfl,fun l hl=>?_⟩
 refine ⟨_,rfl,_,rfl,Nat.le_of_ble_eq_true rfl,fun l2 hl2=>⟨_,rfl,_,_,rfl,rfl,.inr ⟨_,rfl,?_⟩⟩⟩
 have e1:atI [V.int 7,.int 12] (if decide (0 < rows)=true then 1 else 0)=some (.int (if 0 < rows then 12 else 7)):=by
  by_cases hr:0 < rows
  ·rw [if_pos (decide_eq_true hr),if_pos hr]; rfl
  ·rw [if_neg (by simpa using hr),if_neg hr]; rfl
 refine ⟨l2,_,_,_,rfl,rfl,SqL.of upd_same,e1,?_⟩
 refine ⟨c,1,_,rfl,by decide,by decide,by split <;> decide,fun i i0 i1=>?_⟩
 obtain ⟨wd,ew,hw⟩:=word_at i0 i1 rfl
 have el:upd (upd H l (.lst [V.str "set",.str "sum",.str "take",.str "tell",.str "test",.str "ask",.str "end",.str "len",.str "get",.str "put",.str "get",.str "put"])) l2 (.lst [V.int 7,.int 12]) l=some (.lst [V.str "set",.str "sum",.str "take",.str "tell",.str "test",.str "ask",.str "end",.str "len",.str "get",.str "put",.str "get",.str "put"]):=by
  rw [upd_ne (ne_p upd_same hl2)]; exact upd_same
 refine ⟨l,_,i,_,rfl,rfl,SqL.of el,ew,?_⟩
 have s1:Same H (upd (upd H l (.lst [V.str "set",.str "sum",.str "take",.str "tell",.str "test",.str "ask",.str "end",.str "len",.str "get",.str "put",.str "get",.str "put"])) l2 (.lst [V.int 7,.int 12])):=(same_new hl _).trans (same_new hl2 _)
 generalize upd (upd H l (.lst [V.str "set",.str "sum",.str "take",.str "tell",.str "test",.str "ask",.str "end",.str "len",.str "get",.str "put",.str "get",.str "put"])) l2 (.lst [V.int 7,.int 12])=H1 at s1
 refine ⟨_,rfl,_,rfl,c,7,many,rfl,by decide,by decide,m0,fun g g0 g1=>?_⟩
 dsimp only [gName,tSeq,tIfS]
 refine and_pure (decide (V.str wd=V.str "ask")) (decide (at_ + 1 < many)) (fun Q' h=>⟨_,rfl,rfl,_,rfl,h⟩) (fun _ Q' h=>⟨_,rfl,_,_,rfl,rfl,_,rfl,_,_,rfl,rfl,_,rfl,h⟩) (ite2 (fun cc=>?_) (fun cc=>?_))
 ·rw [Bool.and_eq_true] at cc
  have cc':=of_decide_eq_true cc.2
  exact ⟨_,rfl,_,rfl,_,rfl,_,rfl,_,rfl,c,names,rows,at_,many,rfl,n0,n1,r0,r1,a0,cc',fun d v H2 ld s2 is2=>q d v H2 ld (s1.trans s2) is2⟩
 refine ⟨_,rfl,rfl,_,rfl,ite2 (fun ce=>?_) (fun ce=>?_)⟩
 ·refine ⟨Nat.le_of_ble_eq_true rfl,fun t ht=>?_⟩
  exact q _ _ _ .end_ (s1.trans (same_new ht _)) (is_tup (SqT.of upd_same) (isl_cons is_str isl_nil))
 have we:=str_f ce
 dsimp only [gName,tSeq,tIfS,tNext]
 refine or_same (decide (V.int names=V.int 0)) (wd = "test"∨wd = "ask") (fun Q' h=>⟨_,rfl,rfl,_,rfl,h⟩) (fun _ Q' h=>⟨_,rfl,Nat.le_of_ble_eq_true rfl,fun t2 ht2=>⟨t2,_,rfl,.inr (SqT.of upd_same),rfl,rfl,_,rfl,h _ _ (same_new ht2 _) in2⟩⟩) (fun b H2 s2 hb=>ite2 (fun cc=>?_) (fun cc=>?_))
 ·refine ⟨_,rfl,c,8,1000,rfl,by decide,by decide,by decide,fun k1 _ _=>⟨_,rfl,k1,names,rfl,n0,fun y hy=>?_⟩⟩
  refine ⟨_,rfl,c,9,1000,rfl,by decide,by decide,by decide,fun k2 _ _=>⟨_,rfl,k2,names,rfl,n0,fun y2 hy2=>?_⟩⟩
  obtain ⟨yd,yD,yis⟩:=maybe_is hy
  obtain ⟨zd,zD,zis⟩:=maybe_is hy2
  refine ⟨_,rfl,_,rfl,_,rfl,c,3,100000,rfl,by decide,by decide,by decide,fun k3 _ _=>⟨k3,rfl,fun cn cn0 cn1 H3 s3=>?_⟩⟩
  refine ⟨_,rfl,_,rfl,_,rfl,c,10,many,rfl,by decide,by decide,m0,fun m m00 m1=>⟨Nat.le_of_ble_eq_true rfl,fun t ht=>?_⟩⟩
  exact q _ _ _ (.test yd zd cn g m yD zD cn0 cn1 g0 g1 m00 m1) (s1.trans (s2.trans (s3.trans (same_new ht _)))) (is_tup (SqT.of upd_same) (isl_cons is_str (isl_cons (yis _ _) (isl_cons (zis _ _) (isl_cons is_int (isl_cons is_int (isl_cons is_int isl_nil)))))))
 ·have hn:¬ (decide (V.int names=V.int 0)=true∨wd = "test"∨wd = "ask"):=fun e=>cc (hb.mpr e)
  have nn:names≠0:=fun e=>hn (.inl (decide_eq_true (by rw [e])))
  refine ⟨_,rfl,_,rfl,_,rfl,_,rfl,_,rfl,wd,c,names,rows,g,at_,many,rfl,by omega,g0,g1,?_,fun d v H3 ld s3 is3=>q d v H3 ld (s1.trans (s2.trans s3)) is3⟩
  rcases hw with e | e | e | e | e | e | e | e
  ·exact .inl e
  ·exact .inr (.inl e)
  ·exact .inr (.inr (.inl e))
  ·exact .inr (.inr (.inr (.inl e)))
  ·exact absurd (.inr (.inl e)) hn
  ·exact absurd (.inr (.inr e)) hn
  ·exact absurd e we
  ·exact .inr (.inr (.inr (.inr e)))
end
abbrev s_program:Stmt:=top 56
theorem cut_29 (xs:List V):(cutV xs (some 4) (some 33)).length≤29:=by
 unfold cutV
 rw [show (some (4:Int))=some ((4:Nat):Int) from rfl,show (some (33:Int))=some ((33:Nat):Int) from rfl,HT.sIx_nat,HT.sIx_nat,List.length_take]
 omega
structure DrawnP (nm rw:Int) (ds:List D):Prop where
 n0:1≤nm
 n1:nm≤6
 r0:1≤rw
 r1:rw≤3
 l1:1≤ds.length
 l2:ds.length≤30
 line:∀ (j:Nat) (d:D),ds[j]?=some d→LineD nm rw j ds.length d
def spProgram (K:PySem.W.Frag):Sp:=fun vs H Q _=>ExQ Q (fun (a:Addr) Q=>ExQ Q (fun (ns:List Int) Q=>vs=[.ref a]∧SqL K H a (ns.map V.int)∧ns.length≤63∧
 ∀ (nm rw:Int) (ds:List D) (xs:List V) (t l:Addr) (H':Hp),Same H H'→H' t=some (.tup [.int nm,.int rw,.ref l])→H' l=some (.lst xs)→H l=none→IsL K H' ds xs→DrawnP nm rw ds→Q (.ref t) H'))
theorem sc_program:FnScope ["_law_script", "_law_names", "_law_rows_here", "_law_many", "_law_lines"] ["_law_script"] (defScope s_program):=⟨rfl,rfl,rfl,by decide +kernel,rfl,by decide +kernel,by decide +kernel⟩
section
variable {P:Program} {w:World} {K:PySem.W.Frag} {mg:Str→Option Value} {base:Heap} {f:Addr} {fd:FuncData} {n:Nat}
theorem ok_program (F:Fun K "_law_program" "_law_program" s_program f fd) (m_len:mg "len" = none) (m_range:mg "range" = none) (c_law_cell:Cl P w K mg base "_law_cell" n ["_law_script", "_law_k"] (spCell K)) (c_law_line:Cl P w K mg base "_law_line" n ["_law_cell_here", "_law_names", "_law_rows_here", "_law_at", "_law_many"] (spLine K)) :
  FnOk P w K mg base CX0 (n + 1) f fd ["_law_script"] (spProgram K):=by
 refine F.ok sc_program (fun vs H Q E h=>?_) (fun cdv A outer s H vs Q E hr h=>?_)
 ·obtain ⟨a,ns,rfl,_⟩:=h
  rfl
 obtain ⟨a,ns,rfl,hS,h63,q⟩:=h
 have sc:=sc_program
 refine ⟨_,(@pss_cons _ _ _ _ _ (ps_set (i:=1) sc.nd rfl (Or.inr rfl) (pe_op op_add pe_int (pe_op op_mod (pe_cl c_law_cell hr rfl (pa_cons (pv 0) (pa_cons pe_int pa_nil))) pe_int)))
   (@pss_cons _ _ _ _ _ (ps_set (i:=2) sc.nd rfl (Or.inr rfl) (pe_op op_add pe_int (pe_op op_mod (pe_cl c_law_cell hr rfl (pa_cons (pv 0) (pa_cons pe_int pa_nil))) pe_int)))
   (@pss_cons _ _ _ _ _ (ps_set (i:=3) sc.nd rfl (Or.inr rfl) (pe_op op_add pe_int (pe_callB call_len_seq rfl m_len PySem.boot_len (pa_cons (pe_slice sl_list (pv 0) (po_some pe_int) (po_some pe_int)) pa_nil))))
   (@pss_cons _ _ _ _ _ (ps_setcomp (i:=4) ["_law_k"] rfl (cmp_ok (N:=["_law_script", "_law_names", "_law_rows_here", "_law_many", "_law_lines"]) (so:=defScope s_program) rfl rfl (by decide +kernel)) sc.nd rfl (Or.inl rfl) (pi_range1 rfl m_range (pa_cons (pe_op op_sub (pv 3) pe_int) pa_nil)) (fun _ _ _ _ _ _=>(pg_name (i:=0) (show List.Nodup (α:=Str) ["_law_k", "_law_script", "_law_names", "_law_rows_here", "_law_many", "_law_lines"] by decide +kernel) rfl (Or.inl rfl) (Or.inr rfl))) (fun _ _ _ _ _ _=>pifs_nil) (fun _ _ _ _ _ _=>(pe_cl c_law_line hr rfl (pa_cons (pe_cl c_law_cell hr rfl (pa_cons (pv 1) (pa_cons (pe_op op_add pe_int (pv 0)) pa_nil))) (pa_cons (pv 2) (pa_cons (pv 3) (pa_cons (pv 0) (pa_cons (pv 4) pa_nil))))))) rfl)
   (pss_one (ps_ret (pe_tup (pa_cons (pv 1) (pa_cons (pv 2) (pa_cons (pe_op op_cat (pv 4) (pe_lst (pa_cons (pe_tup (pa_cons pe_str pa_nil)) pa_nil))) pa_nil)))))))))),?_⟩
 refine ⟨_,rfl,a,ns,0,rfl,hS,h63,by decide,by decide,fun c0 H1 s1=>⟨_,_,rfl,rfl,by show (0:Int) < 6; decide,_,_,rfl,rfl,?_⟩⟩
 refine ⟨_,rfl,a,ns,1,rfl,s1.seq hS,h63,by decide,by decide,fun c1 H2 s2=>⟨_,_,rfl,rfl,by show (0:Int) < 3; decide,_,_,rfl,rfl,?_⟩⟩
 have s12:=s1.trans s2
 refine ⟨_,rfl,_,rfl,_,rfl,a,_,rfl,s12.seq hS,fun p np=>?_⟩
 have lcut:(cutV (ns.map V.int) (some 4) (some 33)).length≤29:=cut_29 _
 refine ⟨p,_,rfl,.inl (SqL.of upd_same),_,_,rfl,rfl,?_⟩
 have s4:=s12.trans (same_new np (.lst (cutV (ns.map V.int) (some 4) (some 33))))
 generalize upd H2 p (.lst (cutV (ns.map V.int) (some 4) (some 33)))=H' at s4
 obtain ⟨many,em⟩:∃ many:Int,many=1 + ((cutV (ns.map V.int) (some 4) (some 33)).length:Int):=⟨_,rfl⟩
 dsimp only [gName,tSeq]
 rw [← em]
 have m1:1≤many:=by omega
 have m2:many≤30:=by omega
 obtain ⟨nm,en⟩:∃ nm:Int,nm=1 + c0 % 6:=⟨_,rfl⟩
 obtain ⟨rw,er⟩:∃ rw:Int,rw=1 + c1 % 3:=⟨_,rfl⟩
 rw [← en,← er]
 refine ⟨_,rfl,_,_,rfl,rfl,_,rfl,by omega,by omega,fun pl npl=>?_⟩
 refine comp_range (fun i H5=>Same H' H5∧∃ acc ds,H5 pl=some (.lst acc)∧IsL K H5 ds acc∧ds.length=i∧(∀ (j:Nat) d,ds[j]?=some d→LineD (nm) (rw) j many d)) ⟨same_new npl _,[],[],upd_same,isl_nil,rfl,fun j d hd=>by simp at hd⟩ (fun i H5 hi h=>?_) (fun H5 h=>?_)
 ·obtain ⟨sm,acc,ds,el,il,ln,hw⟩:=h
  have hi':(i:Int) < 70:=by omega
  refine ⟨⟨[some (.int (0 + (i:Int)))],rfl,rfl⟩,?_⟩
  refine tTrue_ite ?_
  refine ⟨_,rfl,_,rfl,_,_,rfl,rfl,a,ns,_,rfl,(s4.trans sm).seq hS,h63,by omega,by omega,fun c H6 s6=>?_⟩
  refine ⟨_,rfl,_,rfl,_,rfl,_,rfl,c,nm,rw,_,many,rfl,by omega,by omega,by omega,by omega,by omega,by omega,fun d v H7 ld s7 is7=>?_⟩
  have el7:=s7 _ _ (s6 _ _ el)
  have la:=il.length
  refine ⟨acc,el7,small1000 (by omega),Same.new (sm.trans (s6.trans s7)) npl,acc++[v],ds++[d],upd_same,?_,by simp [ln],fun j e he=>?_⟩
  ·exact IsL.append ((il.mono (s6.trans s7).tups).mono (Tups.lst el7)) (isl_cons (is7.mono (Tups.lst el7)) isl_nil)
  ·by_cases hj:j < ds.length
   ·rw [List.getElem?_append_left hj] at he
    exact hw j e he
   ·rw [List.getElem?_append_right (by omega)] at he
    have:j=ds.length:=by
     have:=(List.getElem?_eq_some_iff.mp he).1
     simp at this; omega
    subst this
    simp at he
    subst he
    have e0:(0 + (i:Int))=(ds.length:Int):=by omega
    rw [e0] at ld
    exact ld
 ·obtain ⟨sm,acc,ds,el,il,ln,hw⟩:=h
  have la:=il.length
  refine ⟨_,rfl,_,rfl,_,rfl,Nat.le_of_ble_eq_true rfl,fun t1 n1=>⟨Nat.le_of_ble_eq_true rfl,fun l1 nl1=>?_⟩⟩
  have s5:=same_new n1 (.tup [.str "end"])
  have s6:=same_new nl1 (.lst [.ref t1])
  refine ⟨pl,l1,_,_,rfl,rfl,s6 _ _ (s5 _ _ el),upd_same,small (by simp only [List.length_singleton]; omega),fun l2 nl2=>⟨Nat.le_of_ble_eq_true rfl,fun t nt=>?_⟩⟩
  have s7:=same_new nl2 (.lst (acc++[.ref t1]))
  have s8:=same_new nt (.tup [.int (nm),.int (rw),.ref l2])
  have et:=s8 _ _ (s7 _ _ (s6 _ _ (upd_same (H:=H5) (a:=t1) (o:=.tup [.str "end"]))))
  have sall:=s4.trans (sm.trans (s5.trans (s6.trans s7)))
  refine q _ _ (ds++[.tup [.str "end"]]) (acc++[.ref t1]) t l2 _ (sall.trans s8) upd_same (s8 _ _ upd_same) (none_of_same (s4.trans (sm.trans (s5.trans s6))) nl2) ?_ ⟨by omega,by omega,by omega,by omega,by simp,by simp; omega,fun j d hd=>?_⟩
  ·exact IsL.append (il.mono (s5.trans (s6.trans (s7.trans s8))).tups) (isl_cons (is_tup (SqT.of et) (isl_cons is_str isl_nil)) isl_nil)
  ·have hlen:((ds++[D.tup [.str "end"]]).length:Int)=many:=by simp; omega
   rw [hlen]
   by_cases hj:j < ds.length
   ·rw [List.getElem?_append_left hj] at hd
    exact hw j d hd
   ·rw [List.getElem?_append_right (by omega)] at hd
    have:j=ds.length:=by
     have:=(List.getElem?_eq_some_iff.mp hd).1
     simp at this; omega
    subst this
    simp at hd
    subst hd
    exact .end_
end
def cp (x:Str):List Nat:=x.cps.toList
theorem str_ext {x y:Str} (h:cp x=cp y):x=y:=by
 cases x with
 | mk a=>
  cases y with
  | mk b=>
   have:a=b:=Array.toList_inj.mp h
   rw [this]
theorem cp_app (x y:Str):cp (x++y)=cp x++cp y:=by
 show (x.cps++y.cps).toList=_
 rw [Array.toList_append]
 rfl
theorem cp_len (x:Str):(cp x).length=x.length:=Array.length_toList
theorem cut_free {c:Nat}:∀ {x y r s:List Nat},¬ c∈x→¬ c∈y→x++c::r=y++c::s→x=y∧r=s
 | [],[],r,s,_,_,h=>⟨rfl,by injection h⟩
 | [],b::y,r,s,_,hy,h=>by
  injection h with h1 _
  exact absurd (by rw [h1]; exact List.mem_cons_self) hy
 | a::x,[],r,s,hx,_,h=>by
  injection h with h1 _
  exact absurd (by rw [← h1]; exact List.mem_cons_self) hx
 | a::x,b::y,r,s,hx,hy,h=>by
  injection h with h1 h2
  obtain ⟨e1,e2⟩:=cut_free (fun z=>hx (List.mem_cons_of_mem _ z)) (fun z=>hy (List.mem_cons_of_mem _ z)) h2
  exact ⟨by rw [h1,e1],e2⟩
theorem end_free {c:Nat} {x y s:List Nat} (hx:¬ c∈x):¬ x=y++c::s:=fun e=>hx (by rw [e]; simp)
def Free (c:Nat) (ts:List Str):Prop:=∀ p∈ts,¬ c∈cp p
abbrev one (c:Nat):Str:=⟨#[c]⟩
theorem join_two (c:Nat) (a b:Str) (r:List Str):cp (Str.join (one c) (a::b::r))=cp a++c::cp (Str.join (one c) (b::r)):=by
 show cp (a++one c++Str.join (one c) (b::r))=_
 rw [cp_app,cp_app,List.append_assoc]
 rfl
theorem join_inj {c:Nat}:∀ {as bs:List Str},as≠[]→bs≠[]→Free c as→Free c bs→Str.join (one c) as=Str.join (one c) bs→as=bs
 | [],_,h,_,_,_,_=>absurd rfl h
 | _,[],_,h,_,_,_=>absurd rfl h
 | [a],[b],_,_,_,_,h=>by rw [show a=b from h]
 | [a],b::b2::r,_,_,fa,_,h=>by
  have h':=congrArg cp h
  rw [join_two] at h'
  exact absurd h' (end_free (fa a List.mem_cons_self))
 | a::a2::r,[b],_,_,_,fb,h=>by
  have h':=congrArg cp h
  rw [join_two] at h'
  exact absurd h'.symm (end_free (fb b List.mem_cons_self))
 | a::a2::r,b::b2::r2,_,_,fa,fb,h=>by
  have h':=congrArg cp h
  rw [join_two,join_two] at h'
  obtain ⟨e1,e2⟩:=cut_free (fa a List.mem_cons_self) (fb b List.mem_cons_self) h'
  rw [str_ext e1,join_inj (by simp) (by simp) (fun p hp=>fa p (List.mem_cons_of_mem _ hp)) (fun p hp=>fb p (List.mem_cons_of_mem _ hp)) (str_ext e2)]
theorem split_ne (x y:Str):Txt.split x y≠[]:=by
 unfold Txt.split
 split
 ·simp
 ·split
  ·simp
  ·rw [StrLaws.partsBetween_eq]
   obtain ⟨p,r,e⟩:=StrLaws.partsFrom_ne x y.length 0 (Builtin.Str.occurrences x y 0 x.length (x.length + 1))
   rw [e]; simp
theorem split_join {c:Nat} {ts:List Str} (hne:ts≠[]) (h:Free c ts):Txt.split (Txt.join (one c) ts) (one c)=ts:=by
 have e1:=StrLaws.join_split (Txt.join (one c) ts) (one c)
 have e2:Txt.join (one c) ts=Str.join (one c) ts:=StrLaws.glued_eq_join _ _
 refine join_inj (split_ne _ _) hne (StrLaws.split_free _ c) h (e1.trans e2)
theorem join_len {c:Nat}:∀ (ts:List Str),(Txt.join (one c) ts).length≤(ts.map (·.length)).sum + ts.length:=fun ts=>by
 have:=StrLaws.join_length_le (one c) ts
 rw [show Txt.join (one c) ts=Str.join (one c) ts from StrLaws.glued_eq_join _ _]
 have e:(one c).length=1:=rfl
 rw [e,Nat.mul_one] at this
 exact this
def numT (i:Int):Str:=Str.ofString (toString i)
theorem num_cp (m:Nat):cp (numT (m:Int))=(Nat.toDigits 10 m).map Char.toNat:=PySem.W.KIN.signs_num m
theorem num_dig {m:Nat}:∀ c∈cp (numT (m:Int)),48≤c∧c≤57:=by
 intro c hc
 rw [num_cp] at hc
 obtain ⟨ch,hch,rfl⟩:=List.mem_map.mp hc
 have r:=Nat.isDigit_of_mem_toDigits (by decide) (by decide) hch
 unfold Char.isDigit at r
 rw [Bool.and_eq_true,decide_eq_true_eq,decide_eq_true_eq] at r
 have h1:(48:UInt32).toNat≤ch.val.toNat:=r.1
 have h2:ch.val.toNat≤(57:UInt32).toNat:=r.2
 exact ⟨h1,h2⟩
theorem toString_neg (m:Nat):toString (-((m + 1:Nat):Int)) = "-"++toString ((m + 1:Nat):Int):=by
 show toString (Int.negSucc m)=_
 rfl
theorem num_neg (m:Nat):cp (numT (-((m + 1:Nat):Int)))=45::cp (numT ((m + 1:Nat):Int)):=by
 unfold numT cp
 rw [toString_neg,signs_ofString,signs_ofString,String.toList_append]
 rfl
theorem num_len {m:Nat} (h:m < 10000):1≤(numT (m:Int)).length∧(numT (m:Int)).length≤4:=by
 rw [← cp_len,num_cp,List.length_map]
 by_cases h1:m < 10
 ·rw [Nat.toDigits_of_lt_base h1]; exact ⟨by simp,by simp⟩
 have step:∀ (k:Nat),10≤k→(Nat.toDigits 10 k).length=(Nat.toDigits 10 (k / 10)).length + 1:=fun k hk=>by
  have hm:k % 10 < 10:=Nat.mod_lt k (by decide)
  have t:Nat.toDigits 10 (k / 10)++Nat.toDigits 10 (k % 10)=Nat.toDigits 10 (10 * (k / 10) + k % 10):=Nat.toDigits_append_toDigits (by decide) (by omega) hm
  rw [Nat.div_add_mod] at t
  rw [← t,List.length_append,Nat.toDigits_of_lt_base hm]; rfl
 rw [step m (by omega)]
 by_cases h2:m / 10 < 10
 ·rw [Nat.toDigits_of_lt_base h2]; exact ⟨by simp,by simp⟩
 rw [step (m / 10) (by omega)]
 by_cases h3:m / 10 / 10 < 10
 ·rw [Nat.toDigits_of_lt_base h3]; exact ⟨by simp,by simp⟩
 rw [step (m / 10 / 10) (by omega),Nat.toDigits_of_lt_base (show m / 10 / 10 / 10 < 10 by omega)]
 exact ⟨by simp,by simp⟩
theorem num_first:∀ {m:Nat},0 < m→∃ c r,cp (numT (m:Int))=c::r∧c≠48:=fun {m}=>by
 induction m using Nat.strongRecOn with
 | _ m ih=>
  intro h
  rw [num_cp]
  by_cases h1:m < 10
  ·rw [Nat.toDigits_of_lt_base h1]
   refine ⟨(Nat.digitChar m).toNat,[],rfl,?_⟩
   have:∀ k:Nat,k < 10→0 < k→(Nat.digitChar k).toNat≠48:=by decide
   exact this m h1 h
  ·have hm:m % 10 < 10:=Nat.mod_lt m (by decide)
   have t:Nat.toDigits 10 (m / 10)++Nat.toDigits 10 (m % 10)=Nat.toDigits 10 (10 * (m / 10) + m % 10):=Nat.toDigits_append_toDigits (by decide) (by omega) hm
   rw [Nat.div_add_mod] at t
   obtain ⟨c,r,e,hc⟩:=ih (m / 10) (by omega) (by omega)
   rw [num_cp] at e
   exact ⟨c,r++(Nat.toDigits 10 (m % 10)).map Char.toNat,by rw [← t,List.map_append,e]; rfl,hc⟩
theorem num_reads {m:Nat} (h:m < 10000):PySem.intText? (numT (m:Int))=some (m:Int):=PySem.W.KIN.num_reads (by omega) (by omega)
def Asc (z:Str):Prop:=∀ c∈cp z,c < 128
def isFig (c:Nat):Bool:=decide (48≤c) && decide (c≤57)
def figs (z:Str):Bool:=(decide (1≤z.length) && decide (z.length≤4)) && (cp z).all isFig
def cntB (z:Str):Bool:=figs z && !(decide ((cp z)[0]?=some 48) && !decide (z=Str.ofString "0"))
def valN (z:Str):Nat:=(cp z).foldl (fun n c=>10 * n + (c - 48)) 0
def cntO (z:Str):Option Int:=if cntB z=true then some (valN z:Int) else none
def strt (z y:Str):Bool:=decide (0 + y.length≤z.length) && Builtin.Str.subAt z y 0
def numO (z:Str):Option Int:=if z=Str.ofString "-0" then none else if strt z "-" = true then (cntO (Txt.slice z (some 1) none)).map (fun m=>-m) else cntO z
def marksL:List (Str × Str):=[("name", "n"),("value", "n"),("row", "r"),("number", ""),("way", ""),("len", "r")]
def mrkO (k z:Str):Option Int:=
 match marksL.lookup k with
 | none=>none
 | some y=>if strt z y=true then cntO (Txt.slice z (some (y.length:Int)) none) else none
def prtO (k z:Str):Option D:=if k=("number":Str) then (numO z).map D.int else if k=("value":Str)∧z=("-":Str) then some .non else (mrkO k z).map D.int
def nodO (z:Str):Option D:=if z=("-":Str) then some (.tup [.str "zero"]) else if strt z "n" = true then (mrkO "name" z).map (fun m=>.tup [.str "name",.int m,.int 0]) else (mrkO "len" z).map (fun m=>.tup [.str "len",.int m])
def bndO:List Str→Option D
 | [a,b,c]=>
  match nodO a with
  | none=>none
  | some x=>match nodO b with
   | none=>none
   | some y=>match numO c with
    | none=>none
    | some n=>some (.tup [x,y,.int n])
 | _=>none
def seqO {α:Type} (f:α→Option D):List α→Option (List D)
 | []=>some []
 | x::r=>match f x with
  | none=>none
  | some d=>match seqO f r with
   | none=>none
   | some ds=>some (d::ds)
def chunk (ws:List Str) (i:Nat):List Str:=(ws.drop (3 + 3 * i)).take 3
def askO (ws:List Str):Option D:=
 if ws.length % 3=0∧2≤ws.length / 3∧ws.length / 3≤5 then
  match seqO bndO ((List.range (ws.length / 3 - 1)).map (chunk ws)) with
  | none=>none
  | some bs=>match cntO (ws.getD 1 "") with
   | none=>none
   | some k=>match cntO (ws.getD 2 "") with
    | none=>none
    | some m=>some (.tup [.str "ask",.tup bs,.int k,.int m])
 else none
def wrdO:List Str→Option D
 | []=>none
 | x::r=>if x=("ask":Str) then askO (x::r) else
  match partsL.lookup x with
  | none=>none
  | some ks=>if r.length=ks.length then (seqO (fun p:Str × Str=>prtO p.1 p.2) (ks.zip r)).map (fun ds=>.tup (.str x::ds)) else none
def linO (row:Str):Option D:=wrdO (Txt.split row " ")
def cwsO:List Str→Option (Int × Int)
 | [a,b,c,d]=>if a=("names":Str)∧c=("rows":Str) then
   match cntO b with
   | none=>none
   | some x=>match cntO d with
    | none=>none
    | some y=>some (x,y)
  else none
 | _=>none
def cntsO (row:Str):Option (Int × Int):=cwsO (Txt.split row " ")
theorem dig_char:∀ d:Nat,d < 10→(Nat.digitChar d).toNat=48 + d:=by decide
theorem dig_one {d:Nat} (h:d < 10):cp (numT (d:Int))=[48 + d]:=by
 rw [num_cp,Nat.toDigits_of_lt_base h,List.map_cons,dig_char d h]; rfl
theorem dig_snoc {n d:Nat} (hn:0 < n) (hd:d < 10):cp (numT ((10 * n + d:Nat):Int))=cp (numT (n:Int))++[48 + d]:=by
 have t:Nat.toDigits 10 n++Nat.toDigits 10 d=Nat.toDigits 10 (10 * n + d):=Nat.toDigits_append_toDigits (by decide) hn hd
 rw [num_cp,num_cp,← t,List.map_append,Nat.toDigits_of_lt_base hd,List.map_cons,dig_char d hd]; rfl
theorem fig_le {c:Nat} (h:isFig c=true):48≤c∧c≤57:=by
 unfold isFig at h
 rw [Bool.and_eq_true,decide_eq_true_eq,decide_eq_true_eq] at h
 exact h
theorem fold_num:∀ (r:List Nat) (n:Nat),0 < n→(∀ c∈r,isFig c=true)→cp (numT ((r.foldl (fun n c=>10 * n + (c - 48)) n:Nat):Int))=cp (numT (n:Int))++r
 | [],n,_,_=>by rw [List.append_nil]; rfl
 | c::r,n,hn,h=>by
  have hc:=fig_le (h c List.mem_cons_self)
  rw [List.foldl_cons,fold_num r _ (by omega) (fun c hc=>h c (List.mem_cons_of_mem _ hc)),dig_snoc hn (by omega),List.append_assoc,show 48 + (c - 48)=c by omega]; rfl
theorem fold_lt:∀ (r:List Nat) (n k:Nat),n < 10 ^ k→(∀ c∈r,isFig c=true)→r.foldl (fun n c=>10 * n + (c - 48)) n < 10 ^ (k + r.length)
 | [],n,k,h,_=>by simpa using h
 | c::r,n,k,hn,h=>by
  have hc:=fig_le (h c List.mem_cons_self)
  rw [List.foldl_cons,List.length_cons,show k + (r.length + 1)=(k + 1) + r.length by omega]
  refine fold_lt r _ (k + 1) ?_ (fun c hc=>h c (List.mem_cons_of_mem _ hc))
  rw [Nat.pow_succ]; omega
theorem cnt_num {z:Str} (h:cntB z=true):z=numT (valN z:Int)∧valN z < 10000:=by
 unfold cntB figs at h
 simp only [Bool.and_eq_true,Bool.not_eq_true',Bool.and_eq_false_iff,decide_eq_true_eq,decide_eq_false_iff_not,Bool.not_eq_false',List.all_eq_true] at h
 obtain ⟨⟨⟨l1,l4⟩,hf⟩,h0⟩:=h
 rw [← cp_len] at l1 l4
 unfold valN
 have hlt:=fold_lt (cp z) 0 0 (by decide) hf
 have hp:10 ^ (0 + (cp z).length)≤10000:=Nat.le_trans (Nat.pow_le_pow_right (by decide) (show 0 + (cp z).length≤4 by omega)) (by decide)
 refine ⟨str_ext ?_,by omega⟩
 cases e:cp z with
 | nil=>rw [e] at l1; simp at l1
 | cons a r=>
  rw [e] at hf h0
  have ha:=fig_le (hf a List.mem_cons_self)
  by_cases hz:a=48
  ·subst hz
   rcases h0 with h0 | h0
   ·exact absurd rfl h0
   ·rw [h0] at e
    have e:[48]=48::r:=e
    injection e with _ e
    subst e
    rfl
  ·rw [List.foldl_cons,fold_num r _ (by omega) (fun c hc=>hf c (List.mem_cons_of_mem _ hc)),show 10 * 0 + (a - 48)=a - 48 by omega,dig_one (by omega),show 48 + (a - 48)=a by omega]; rfl
theorem num_cnt {m:Nat} (h:m < 10000):cntO (numT (m:Int))=some (m:Int):=by
 obtain ⟨l1,l4⟩:=num_len h
 have hb:cntB (numT (m:Int))=true:=by
  unfold cntB figs
  simp only [Bool.and_eq_true,Bool.not_eq_true',Bool.and_eq_false_iff,decide_eq_true_eq,decide_eq_false_iff_not,Bool.not_eq_false',List.all_eq_true]
  refine ⟨⟨⟨l1,l4⟩,fun c hc=>?_⟩,?_⟩
  ·have:=num_dig c hc
   unfold isFig
   rw [decide_eq_true this.1,decide_eq_true this.2]; rfl
  ·rcases Nat.eq_zero_or_pos m with rfl | hp
   ·exact .inr rfl
   ·obtain ⟨c,r,e,hc⟩:=num_first hp
    refine .inl fun z=>hc ?_
    rw [e] at z
    injection z
 obtain ⟨e,l⟩:=cnt_num hb
 have e2:=num_reads h
 have e3:=num_reads l
 rw [← e,e2] at e3
 unfold cntO
 rw [if_pos hb]
 exact e3.symm
abbrev s_are_figures:Stmt:=top 44
abbrev s_count_in:Stmt:=top 43
abbrev s_number_in:Stmt:=top 42
abbrev s_marked_in:Stmt:=top 41
abbrev s_part_in:Stmt:=top 40
theorem sc_are_figures:FnScope ["word"] ["word"] (defScope s_are_figures):=⟨rfl,rfl,rfl,by decide +kernel,rfl,by decide +kernel,by decide +kernel⟩
theorem sc_count_in:FnScope ["word", "at"] ["word", "at"] (defScope s_count_in):=⟨rfl,rfl,rfl,by decide +kernel,rfl,by decide +kernel,by decide +kernel⟩
theorem sc_number_in:FnScope ["word", "at"] ["word", "at"] (defScope s_number_in):=⟨rfl,rfl,rfl,by decide +kernel,rfl,by decide +kernel,by decide +kernel⟩
theorem sc_marked_in:FnScope ["kind", "word", "at", "mark"] ["kind", "word", "at"] (defScope s_marked_in):=⟨rfl,rfl,rfl,by decide +kernel,rfl,by decide +kernel,by decide +kernel⟩
theorem sc_part_in:FnScope ["kind", "word", "at"] ["kind", "word", "at"] (defScope s_part_in):=⟨rfl,rfl,rfl,by decide +kernel,rfl,by decide +kernel,by decide +kernel⟩
structure TabM (P:Program) (w:World) (K:PySem.W.Frag) (mg:Str→Option Value) (a_MARKS:Addr):Prop where
 mm:mg "MARKS" = some (.ref a_MARKS)
 kd:KD P w K a_MARKS (marksL.map fun p=>(p.1,V.str p.2))
theorem marks_at:∀ {l:List (Str × Str)} {k z:Str},l.lookup k=some z→(l.map fun p=>(p.1,V.str p.2)).lookup k=some (.str z)
 | [],k,z,h=>by simp at h
 | (a,b)::l,k,z,h=>by
  rw [List.map_cons,List.lookup_cons]
  rw [List.lookup_cons] at h
  cases hb:k == a with
  | true=>rw [hb] at h; cases h; rfl
  | false=>rw [hb] at h; exact marks_at h
def Fails (CB:Addr) (f:Str) (a:V) (H:Hp) (E:XK):Prop:=∀ H' x dx,Same H H'→H' x=some (XHad x CB (some dx))→H' dx=some (.xd [(f,a)])→E (.ref CB) (some dx) H'
theorem Fails.mono {CB:Addr} {f:Str} {a:V} {H H1:Hp} {E:XK} (h:Fails CB f a H E) (s:Same H H1):Fails CB f a H1 E:=fun H' x dx s' e1 e2=>h H' x dx (s.trans s') e1 e2
theorem Fails.rz {CB:Addr} {f:Str} {a:V} {H:Hp} {E:XK} (h:Fails CB f a H E):∀ x,H x=none→spXInit CB f [.ref x,a] (upd H x (XNew x CB none)) (fun u H2=>u=.non∧∃ dx,H2 x=some (XNew x CB (some dx))∧E (.ref CB) (some dx) (upd H2 x (XHad x CB (some dx)))) E0:=
 rz_intro fun x dx H2 _ _ _ sm ea ed=>h H2 x dx sm ea ed
def Out (K:PySem.W.Frag) (CB:Addr) (o:Option D) (a:V) (H:Hp) (Q:VK) (E:XK):Prop:=(∀ d,o=some d→∀ (v:V) (H':Hp),Same H H'→Is K H' d v→Q v H')∧(o=none→Fails CB "at" a H E)
def OutI (CB:Addr) (o:Option Int) (a:V) (H:Hp) (Q:VK) (E:XK):Prop:=(∀ i,o=some i→∀ (H':Hp),Same H H'→Q (.int i) H')∧(o=none→Fails CB "at" a H E)
def spFig:Sp:=fun vs H Q _=>ExQ Q (fun (z:Str) Q=>vs=[.str z]∧Asc z∧z.length≤900∧∀ H',Same H H'→Q (.bl (figs z)) H')
def spCount (CB:Addr):Sp:=fun vs H Q E=>ExQ Q (fun (z:Str) Q=>ExQ Q (fun (a:V) Q=>vs=[.str z,a]∧Asc z∧z.length≤900∧OutI CB (cntO z) a H Q E))
def spNumIn (CB:Addr):Sp:=fun vs H Q E=>ExQ Q (fun (z:Str) Q=>ExQ Q (fun (a:V) Q=>vs=[.str z,a]∧Asc z∧z.length≤900∧OutI CB (numO z) a H Q E))
def spMarked (CB:Addr):Sp:=fun vs H Q E=>ExQ Q (fun (k:Str) Q=>ExQ Q (fun (z:Str) Q=>ExQ Q (fun (y:Str) Q=>ExQ Q (fun (a:V) Q=>vs=[.str k,.str z,a]∧marksL.lookup k=some y∧Asc z∧z.length≤900∧OutI CB (mrkO k z) a H Q E))))
theorem in_fig:∀ c:Nat,c < 128→(!(Builtin.Str.occurrences (Str.ofString "0123456789") ⟨#[c]⟩ 0 (Str.ofString "0123456789").length 1).isEmpty)=isFig c:=by decide +kernel
theorem asc_all {z:Str} (h:Asc z):z.cps.all (· < 128)=true:=by
 rw [Array.all_eq_true_iff_forall_mem]
 intro c hc
 exact decide_eq_true (h c (Array.mem_toList_iff.mpr hc))
theorem all_map {α:Type} (f:α→Bool) (l:List α):(l.map f).all id=l.all f:=by rw [List.all_map]; rfl
theorem mark_len {k z:Str} (h:marksL.lookup k=some z):z.length≤1:=by
 have hm:=PySem.mem_of_lookup h
 have:∀ p∈marksL,p.2.length≤1:=by decide +kernel
 exact this _ hm
theorem strt_len {z y:Str} (h:strt z y=true):y.length≤z.length:=by
 unfold strt at h
 rw [Bool.and_eq_true,decide_eq_true_eq] at h
 omega
theorem cp_slice {z:Str} {k:Nat} (h:k≤z.length):cp (Txt.slice z (some (k:Int)) none)=(cp z).drop k:=slice_from z k h
theorem asc_slice {z:Str} {k:Nat} (h:k≤z.length) (ha:Asc z):Asc (Txt.slice z (some (k:Int)) none):=fun c hc=>by
 rw [cp_slice h] at hc
 exact ha c (List.mem_of_mem_drop hc)
theorem len_slice {z:Str} {k:Nat} (h:k≤z.length):(Txt.slice z (some (k:Int)) none).length≤z.length:=by
 rw [← cp_len,cp_slice h,List.length_drop,cp_len]; omega
theorem slice_one {z:Str} (h:strt z "-" = true) (ha:Asc z):Asc (Txt.slice z (some 1) none)∧(Txt.slice z (some 1) none).length≤z.length:=by
 have l:=strt_len h
 have l:1≤z.length:=l
 exact ⟨asc_slice (k:=1) l ha,len_slice (k:=1) l⟩
section
variable {P:Program} {w:World} {K:PySem.W.Frag} {mg:Str→Option Value} {base:Heap} {f:Addr} {fd:FuncData} {n:Nat} {a_MARKS a_BadRow:Addr}
theorem ok_are_figures {t1 t2:Tok} (F:Fun K "are_figures" "are_figures" s_are_figures f fd) (m_len:mg "len" = none) (m_all:mg "all" = none) (m_MOST_FIGURES:mg "MOST_FIGURES" = some (.int 4 t1)) (m_FIGURES:mg "FIGURES" = some (.str (Str.ofString "0123456789") t2)):FnOk P w K mg base CX0 (n + 1) f fd ["word"] spFig:=by
 refine F.ok sc_are_figures (fun vs H Q E h=>?_) (fun cdv A outer s H vs Q E hr h=>?_)
 ·obtain ⟨z,rfl,_⟩:=h
  rfl
 obtain ⟨z,rfl,ha,hl,q⟩:=h
 have sc:=sc_are_figures
 refine ⟨_,(pss_one (ps_ret (pe_and (pe_chain op_le op_le pe_int (pe_callB call_len_str rfl m_len PySem.boot_len (pa_cons (pv 0) pa_nil)) (pe_glob rfl m_MOST_FIGURES (v:=.int 4) ⟨_,rfl⟩)) (pe_one (pe_callB (call_all rfl) rfl m_all PyProof.Rows.boot_all (pa_cons (pe_comp ["sign"] rfl (cmp_ok (N:=["word"]) (so:=defScope s_are_figures) rfl rfl (by decide +kernel)) (pi_str (pv 0)) (fun _ _ _ _ _ _=>(pg_name (i:=0) (show List.Nodup (α:=Str) ["sign", "word"] by decide +kernel) rfl (Or.inl rfl) (Or.inr rfl))) (fun _ _ _ _ _ _=>pifs_nil) (fun _ _ _ _ _ _=>(pe_cmpR op_in_str (pv 0) (pe_glob rfl m_FIGURES (v:=.str "0123456789") ⟨_,rfl⟩) (by with_unfolding_all rfl)))) pa_nil)))))),?_⟩
 refine ⟨_,rfl,_,rfl,small (by omega),_,_,rfl,rfl,?_⟩
 by_cases h1:¬ 1≤z.length
 ·refine ⟨false,congrArg V.bl (decide_eq_false (by omega)),iteF ⟨false,rfl,iteF ?_⟩⟩
  have:=q H (Same.refl H)
  unfold figs at this
  rw [decide_eq_false h1] at this
  exact this
 have h1:1≤z.length:=by omega
 refine ⟨true,congrArg V.bl (decide_eq_true (show (1:Int)≤(z.length:Int) by omega)),iteT ⟨_,_,rfl,rfl,?_⟩⟩
 by_cases h4:¬ z.length≤4
 ·refine ⟨false,congrArg V.bl (decide_eq_false (by omega)),iteF ?_⟩
  have:=q H (Same.refl H)
  unfold figs at this
  rw [decide_eq_false h4,Bool.and_false] at this
  exact this
 have h4:z.length≤4:=by omega
 refine ⟨true,congrArg V.bl (decide_eq_true (show (z.length:Int)≤4 by omega)),iteT ?_⟩
 have ef:figs z=(cp z).all isFig:=by
  unfold figs
  rw [decide_eq_true h1,decide_eq_true h4]; rfl
 refine ⟨_,rfl,_,rfl,asc_all ha,fun p np=>?_⟩
 refine comp_str (fun i H'=>Same H H'∧H' p=some (.lst ((((cp z).take i).map isFig).map V.bl))) ⟨same_new np _,upd_same⟩ (fun i c H' hc h=>?_) (fun H' h=>?_)
 ·obtain ⟨sm,ep⟩:=h
  have hi:i < z.length:=(Array.getElem?_eq_some_iff.mp hc).1
  have hd:c < 128:=ha c (Array.mem_toList_iff.mpr (Array.mem_of_getElem? hc))
  refine ⟨⟨[some (.str ⟨#[c]⟩)],rfl,rfl⟩,tTrue_ite ⟨_,rfl,_,_,rfl,rfl,_,ep,small1000 (by rw [List.length_map,List.length_map,List.length_take,cp_len]; omega),Same.new sm np,?_⟩⟩
  have ec:(cp z)[i]?=some c:=by rw [show (cp z)[i]?=z.cps[i]? from Array.getElem?_toList ..]; exact hc
  rw [in_fig c hd,List.take_add_one,ec,List.map_append,List.map_append]; exact upd_same
 ·obtain ⟨sm,ep⟩:=h
  refine ⟨p,_,rfl,SqL.of ep,?_⟩
  have e2:(cp z).take z.cps.size=cp z:=List.take_of_length_le (by rw [cp_len]; exact Nat.le_refl _)
  rw [e2,all_map,← ef]; exact q _ sm
theorem ok_count_in (F:Fun K "count_in" "count_in" s_count_in f fd) (m_int:mg "int" = none) (x_BadRow:XErr P w K mg base "BadRow" n ["self", "at"] a_BadRow "at") (c_are_figures:Cl P w K mg base "are_figures" (n + 1) ["word"] spFig):FnOk P w K mg base (CX1 P w) (n + 2) f fd ["word", "at"] (spCount a_BadRow):=by
 refine F.okX sc_count_in (fun vs H Q E h=>?_) (fun cdv A outer s H vs Q E hr h=>?_)
 ·obtain ⟨z,a,rfl,_⟩:=h
  rfl
 obtain ⟨z,a,rfl,ha,hl,q1,q2⟩:=h
 have sc:=sc_count_in
 refine ⟨_,(@pss_cons _ _ _ _ _ (ps_if (PW.pt (pw_or (pt_not (pt_val (pe_cl c_are_figures hr rfl (pa_cons (pv 0) pa_nil)))) (pw_or1 (PW.pt (pw_and (pt_cmpR op_eq (pe_ix ix_str (pv 0) pe_int (fun _ _=>rfl)) pe_str (nomark _)) (pw_and1 (pt_cmpR op_ne (pv 0) pe_str (nomark _)))))))) (pss_one (ps_rz x_BadRow hr rfl (pa_cons (pv 1) pa_nil))) pss_nil)
   (pss_one (ps_ret (pe_callTy call_int_txt rfl m_int PyProof.Rows.boot_int (pa_cons (pv 0) pa_nil))))),?_⟩
 dsimp only [gName,tSeq,tIfS]
 refine ⟨_,rfl,z,rfl,ha,by omega,fun H1 s1=>⟨_,rfl,ite2 (fun cc=>iteT ?_) (fun cc=>?_)⟩⟩
 ·have hb:cntO z=none:=by
   unfold cntO cntB
   rw [show figs z=false by simpa using cc]; rfl
  exact ⟨_,rfl,((q2 hb).mono s1).rz⟩
 have hf:figs z=true:=by simpa using cc
 have hl4:1≤z.length∧z.length≤4:=by
  unfold figs at hf
  simp only [Bool.and_eq_true,decide_eq_true_eq] at hf
  exact hf.1
 obtain ⟨c,r,ec⟩:∃ c r,cp z=c::r:=by
  cases e:cp z with
  | nil=>have:=cp_len z; rw [e] at this; simp at this; omega
  | cons c r=>exact ⟨c,r,rfl⟩
 have fin:∀ Q':V→Hp→Prop,cntB z=true→(∀ i,cntO z=some i→Q' (.int i) H1)→∃ v,[some (V.str z),some a][0]?=some (some v)∧∃ (x:Str) (n:Int),[v]=[V.str x]∧PySem.intText? x=some n∧x.length≤640∧Q' (.int n) H1:=fun Q' hb h=>by
  obtain ⟨e,l⟩:=cnt_num hb
  refine ⟨_,rfl,_,(valN z:Int),rfl,?_,by omega,h _ (by unfold cntO; rw [if_pos hb])⟩
  have:=num_reads l
  rw [← e] at this
  exact this
 have q1':∀ i,cntO z=some i→Q (.int i) H1:=fun i h=>q1 i h H1 s1
 refine ⟨_,rfl,_,0,c,rfl,rfl,small (by omega),by rw [show z.cps.toList=c::r from ec]; exact atI_nat (j:=0) rfl,rfl,_,rfl,ite2 (fun cc=>?_) (fun cc=>?_)⟩
 ·have e48:c=48:=by
   have z2:[c]=[48]:=congrArg cp (str_t cc)
   injection z2
  subst e48
  have h48:decide ((cp z)[0]?=some 48)=true:=decide_eq_true (by rw [ec]; rfl)
  refine ⟨_,rfl,rfl,_,rfl,ite2 (fun cc2=>?_) (fun cc2=>?_)⟩
  ·have hz:decide (z=Str.ofString "0")=false:=decide_eq_false (str_f (by simpa using cc2))
   have hb:cntO z=none:=by
    unfold cntO cntB
    rw [hf,h48,hz]; rfl
   exact ⟨_,rfl,((q2 hb).mono s1).rz⟩
  ·have hz:decide (z=Str.ofString "0")=true:=decide_eq_true (str_t (by simpa using cc2))
   have hb:cntB z=true:=by
    unfold cntB
    rw [hf,hz,Bool.not_true,Bool.and_false]; rfl
   exact fin _ hb q1'
 ·have hz:decide ((cp z)[0]?=some 48)=false:=decide_eq_false (by
   rw [ec]
   intro e
   injection e with e
   exact (str_f cc) (by rw [e]; rfl))
  have hb:cntB z=true:=by
   unfold cntB
   rw [hf,hz]; rfl
  exact iteF (fin _ hb q1')
theorem ok_number_in (F:Fun K "number_in" "number_in" s_number_in f fd) (x_BadRow:XErr P w K mg base "BadRow" n ["self", "at"] a_BadRow "at") (c_count_in:ClX P w K mg base "count_in" (n + 1) ["word", "at"] (spCount a_BadRow)):FnOk P w K mg base (CX1 P w) (n + 2) f fd ["word", "at"] (spNumIn a_BadRow):=by
 refine F.okX sc_number_in (fun vs H Q E h=>?_) (fun cdv A outer s H vs Q E hr h=>?_)
 ·obtain ⟨z,a,rfl,_⟩:=h
  rfl
 obtain ⟨z,a,rfl,ha,hl,q1,q2⟩:=h
 have sc:=sc_number_in
 refine ⟨_,(@pss_cons _ _ _ _ _ (ps_if (pt_cmpR op_eq (pv 0) pe_str (nomark _)) (pss_one (ps_rz x_BadRow hr rfl (pa_cons (pv 1) pa_nil))) pss_nil)
   (pss_one (ps_ret (pe_ifExp (pt_val (pe_bm PySem.F.plainAttrs_str PySem.F.slot_str_startswith PySem.F.type_str_startswith mt_starts (pv 0) (pa_cons pe_str pa_nil))) (pe_un un_neg (pe_clf c_count_in hr rfl (pa_cons (pe_slice sl_str (pv 0) (po_some pe_int) po_none) (pa_cons (pv 1) pa_nil)))) (pe_clf c_count_in hr rfl (pa_cons (pv 0) (pa_cons (pv 1) pa_nil))))))),?_⟩
 dsimp only [gName,tSeq,tIfS]
 refine ⟨_,rfl,rfl,_,rfl,ite2 (fun cc=>?_) (fun cc=>?_)⟩
 ·have hz:=str_t cc
  exact ⟨_,rfl,(q2 (by unfold numO; rw [if_pos hz])).rz⟩
 have hz:=str_f cc
 refine ⟨_,rfl,rfl,_,_,rfl,rfl,_,rfl,ite2 (fun cc=>?_) (fun cc=>?_)⟩
 ·have hs:strt z "-" = true:=cc
  obtain ⟨sa,sl⟩:=slice_one hs ha
  have en:numO z=(cntO (Txt.slice z (some 1) none)).map (fun m=>-m):=by unfold numO; rw [if_neg hz,if_pos hs]
  refine ⟨_,rfl,_,rfl,_,rfl,small (by omega),?_⟩
  refine ⟨_,rfl,_,_,rfl,sa,by omega,fun i hi H1 s1=>⟨_,rfl,q1 _ (by rw [en,hi]; rfl) H1 s1⟩,fun hn=>q2 (by rw [en,hn]; rfl)⟩
 ·have hs:¬ strt z "-" = true:=cc
  have en:numO z=cntO z:=by unfold numO; rw [if_neg hz,if_neg hs]
  refine ⟨_,rfl,_,rfl,_,_,rfl,ha,hl,fun i hi=>q1 i (by rw [en,hi]),fun hn=>q2 (by rw [en,hn])⟩
theorem ok_marked_in (F:Fun K "marked_in" "marked_in" s_marked_in f fd) (m_len:mg "len" = none) (T:TabM P w K mg a_MARKS) (x_BadRow:XErr P w K mg base "BadRow" n ["self", "at"] a_BadRow "at") (c_count_in:ClX P w K mg base "count_in" (n + 1) ["word", "at"] (spCount a_BadRow)):FnOk P w K mg base (CX1 P w) (n + 2) f fd ["kind", "word", "at"] (spMarked a_BadRow):=by
 refine F.okX sc_marked_in (fun vs H Q E h=>?_) (fun cdv A outer s H vs Q E hr h=>?_)
 ·obtain ⟨k,z,y,a,rfl,_⟩:=h
  rfl
 obtain ⟨k,z,y,a,rfl,hk,ha,hl,q1,q2⟩:=h
 have sc:=sc_marked_in
 have m_MARKS:=T.mm
 have lz:=mark_len hk
 have em:mrkO k z=if strt z y=true then cntO (Txt.slice z (some (y.length:Int)) none) else none:=by unfold mrkO; rw [hk]
 refine ⟨_,(@pss_cons _ _ _ _ _ (ps_set (i:=3) sc.nd rfl (Or.inl rfl) (pe_ix ix_kd (pe_glob rfl m_MARKS (v:=.ref a_MARKS) rfl) (pv 0) (fun _ _=>rfl)))
   (@pss_cons _ _ _ _ _ (ps_if (pt_not (pt_val (pe_bm PySem.F.plainAttrs_str PySem.F.slot_str_startswith PySem.F.type_str_startswith mt_starts (pv 1) (pa_cons (pv 3) pa_nil)))) (pss_one (ps_rz x_BadRow hr rfl (pa_cons (pv 2) pa_nil))) pss_nil)
   (pss_one (ps_ret (pe_clf c_count_in hr rfl (pa_cons (pe_slice sl_str (pv 1) (po_some (pe_callB call_len_str rfl m_len PySem.boot_len (pa_cons (pv 3) pa_nil))) po_none) (pa_cons (pv 2) pa_nil))))))),?_⟩
 refine ⟨_,rfl,a_MARKS,_,k,.str y,rfl,rfl,T.kd,marks_at hk,?_⟩
 dsimp only [gName,tSeq,tIfS]
 refine ⟨_,rfl,rfl,_,rfl,_,_,rfl,rfl,_,rfl,ite2 (fun cc=>?_) (fun cc=>?_)⟩
 ·have cc:(!strt z y)=true:=cc
  have hs:¬ strt z y=true:=by simpa using cc
  rw [if_neg hs] at em
  exact ⟨_,rfl,(q2 em).rz⟩
 ·have cc:¬ (!strt z y)=true:=cc
  have hs:strt z y=true:=by simpa using cc
  rw [if_pos hs] at em
  have ly:=strt_len hs
  refine ⟨_,rfl,_,rfl,_,rfl,small (by omega),_,rfl,_,rfl,small (by omega),?_⟩
  exact ⟨_,rfl,_,_,rfl,asc_slice ly ha,Nat.le_trans (len_slice ly) hl,fun i hi=>q1 i (by rw [em,hi]),fun hn=>q2 (by rw [em,hn])⟩
end
abbrev s_node_in:Stmt:=top 39
abbrev s_bound_in:Stmt:=top 38
theorem sc_node_in:FnScope ["word", "at"] ["word", "at"] (defScope s_node_in):=⟨rfl,rfl,rfl,by decide +kernel,rfl,by decide +kernel,by decide +kernel⟩
theorem sc_bound_in:FnScope ["words", "at"] ["words", "at"] (defScope s_bound_in):=⟨rfl,rfl,rfl,by decide +kernel,rfl,by decide +kernel,by decide +kernel⟩
structure TabZ (P:Program) (w:World) (K:PySem.W.Frag) (mg:Str→Option Value) (a_ZERO:Addr):Prop where
 mz:mg "ZERO" = some (.ref a_ZERO)
 sq:∀ H:Hp,SqT K H a_ZERO [.str "zero"]
def Wd (z:Str):Prop:=Asc z∧z.length≤900
def spPartIn (K:PySem.W.Frag) (CB:Addr):Sp:=fun vs H Q E=>ExQ Q (fun (k:Str) Q=>ExQ Q (fun (z:Str) Q=>ExQ Q (fun (y:Str) Q=>ExQ Q (fun (a:V) Q=>vs=[.str k,.str z,a]∧marksL.lookup k=some y∧Wd z∧Out K CB (prtO k z) a H Q E))))
def spNodeIn (K:PySem.W.Frag) (CB:Addr):Sp:=fun vs H Q E=>ExQ Q (fun (z:Str) Q=>ExQ Q (fun (a:V) Q=>vs=[.str z,a]∧Wd z∧Out K CB (nodO z) a H Q E))
def spBoundIn (K:PySem.W.Frag) (CB:Addr):Sp:=fun vs H Q E=>ExQ Q (fun (l:Addr) Q=>ExQ Q (fun (x:Str) Q=>ExQ Q (fun (y:Str) Q=>ExQ Q (fun (z:Str) Q=>ExQ Q (fun (a:V) Q=>vs=[.ref l,a]∧SqL K H l [.str x,.str y,.str z]∧Wd x∧Wd y∧Wd z∧Out K CB (bndO [x,y,z]) a H Q E)))))
section
variable {P:Program} {w:World} {K:PySem.W.Frag} {mg:Str→Option Value} {base:Heap} {f:Addr} {fd:FuncData} {n:Nat} {a_MARKS a_ZERO a_BadRow:Addr}
theorem ok_part_in {t1:Tok} (F:Fun K "part_in" "part_in" s_part_in f fd) (m_NOUGHT:mg "NOUGHT" = some (.str (Str.ofString "-") t1)) (c_number_in:ClX P w K mg base "number_in" n ["word", "at"] (spNumIn a_BadRow)) (c_marked_in:ClX P w K mg base "marked_in" n ["kind", "word", "at"] (spMarked a_BadRow)) :
  FnOk P w K mg base (CX1 P w) (n + 1) f fd ["kind", "word", "at"] (spPartIn K a_BadRow):=by
 refine F.okX sc_part_in (fun vs H Q E h=>?_) (fun cdv A outer s H vs Q E hr h=>?_)
 ·obtain ⟨k,z,y,a,rfl,_⟩:=h
  rfl
 obtain ⟨k,z,y,a,rfl,hk,⟨ha,hl⟩,q1,q2⟩:=h
 have sc:=sc_part_in
 refine ⟨_,(@pss_cons _ _ _ _ _ (ps_if (pt_cmpR op_eq (pv 0) pe_str (nomark _)) (pss_one (ps_ret (pe_clf c_number_in hr rfl (pa_cons (pv 1) (pa_cons (pv 2) pa_nil))))) pss_nil)
   (@pss_cons _ _ _ _ _ (ps_if (PW.pt (pw_and (pt_cmpR op_eq (pv 0) pe_str (nomark _)) (pw_and1 (pt_cmpR op_eq (pv 1) (pe_glob rfl m_NOUGHT (v:=.str "-") ⟨_,rfl⟩) (nomark _))))) (pss_one (ps_ret pe_non)) pss_nil)
   (pss_one (ps_ret (pe_clf c_marked_in hr rfl (pa_cons (pv 0) (pa_cons (pv 1) (pa_cons (pv 2) pa_nil)))))))),?_⟩
 dsimp only [gName,tSeq,tIfS]
 refine ⟨_,rfl,rfl,_,rfl,ite2 (fun cc=>?_) (fun cc=>?_)⟩
 ·have e:=str_t cc
  have ep:prtO k z=(numO z).map D.int:=by unfold prtO; rw [if_pos e]
  exact ⟨_,rfl,_,rfl,z,a,rfl,ha,hl,fun i hi H1 s1=>q1 _ (by rw [ep,hi]; rfl) _ H1 s1 is_int,fun hn=>q2 (by rw [ep,hn]; rfl)⟩
 have e:=str_f cc
 refine ⟨_,rfl,rfl,_,rfl,?_⟩
 have last:¬ (k=("value":Str)∧z=("-":Str))→tRet (tClX (spMarked a_BadRow) E (tCons (tVar 0) (tCons (tVar 1) (tCons (tVar 2) tNil)))) { nx:=fun _ H'=>Q .non H',rt:=Q } [some (.str k),some (.str z),some a] H:=fun hv=>by
  have ep:prtO k z=(mrkO k z).map D.int:=by unfold prtO; rw [if_neg e,if_neg hv]
  exact ⟨_,rfl,_,rfl,_,rfl,k,z,y,a,rfl,hk,ha,hl,fun i hi H1 s1=>q1 _ (by rw [ep,hi]; rfl) _ H1 s1 is_int,fun hn=>q2 (by rw [ep,hn]; rfl)⟩
 refine ite2 (fun cc=>?_) (fun cc=>iteF (last fun h=>str_f cc h.1))
 have ev:=str_t cc
 refine ⟨_,rfl,rfl,_,rfl,ite2 (fun cc=>?_) (fun cc=>last fun h=>str_f cc h.2)⟩
 have ez:=str_t cc
 exact q1 .non (by unfold prtO; rw [if_neg e,if_pos ⟨ev,ez⟩]) _ H (Same.refl H) is_non
theorem ok_node_in {t1:Tok} (F:Fun K "node_in" "node_in" s_node_in f fd) (m_NOUGHT:mg "NOUGHT" = some (.str (Str.ofString "-") t1)) (T:TabM P w K mg a_MARKS) (Z:TabZ P w K mg a_ZERO) (c_marked_in:ClX P w K mg base "marked_in" n ["kind", "word", "at"] (spMarked a_BadRow)) :
  FnOk P w K mg base (CX1 P w) (n + 1) f fd ["word", "at"] (spNodeIn K a_BadRow):=by
 refine F.okX sc_node_in (fun vs H Q E h=>?_) (fun cdv A outer s H vs Q E hr h=>?_)
 ·obtain ⟨z,a,rfl,_⟩:=h
  rfl
 obtain ⟨z,a,rfl,⟨ha,hl⟩,q1,q2⟩:=h
 have sc:=sc_node_in
 have m_MARKS:=T.mm
 have m_ZERO:=Z.mz
 refine ⟨_,(@pss_cons _ _ _ _ _ (ps_if (pt_cmpR op_eq (pv 0) (pe_glob rfl m_NOUGHT (v:=.str "-") ⟨_,rfl⟩) (nomark _)) (pss_one (ps_ret (pe_glob rfl m_ZERO (v:=.ref a_ZERO) rfl))) pss_nil)
   (@pss_cons _ _ _ _ _ (ps_if (pt_val (pe_bm PySem.F.plainAttrs_str PySem.F.slot_str_startswith PySem.F.type_str_startswith mt_starts (pv 0) (pa_cons (pe_ix ix_kd (pe_glob rfl m_MARKS (v:=.ref a_MARKS) rfl) pe_str (fun _ _=>rfl)) pa_nil))) (pss_one (ps_ret (pe_tup (pa_cons pe_str (pa_cons (pe_clf c_marked_in hr rfl (pa_cons pe_str (pa_cons (pv 0) (pa_cons (pv 1) pa_nil)))) (pa_cons pe_int pa_nil)))))) pss_nil)
   (pss_one (ps_ret (pe_tup (pa_cons pe_str (pa_cons (pe_clf c_marked_in hr rfl (pa_cons pe_str (pa_cons (pv 0) (pa_cons (pv 1) pa_nil)))) pa_nil))))))),?_⟩
 dsimp only [gName,tSeq,tIfS]
 refine ⟨_,rfl,rfl,_,rfl,ite2 (fun cc=>?_) (fun cc=>?_)⟩
 ·have e:=str_t cc
  exact q1 _ (by unfold nodO; rw [if_pos e]) _ H (Same.refl H) (is_tup (Z.sq H) (isl_cons is_str isl_nil))
 have e:=str_f cc
 refine ⟨_,rfl,rfl,a_MARKS,_,_,_,rfl,rfl,T.kd,marks_at rfl,_,_,rfl,rfl,_,rfl,ite2 (fun cc=>?_) (fun cc=>?_)⟩
 ·have hs:strt z "n" = true:=cc
  have en:nodO z=(mrkO "name" z).map (fun m=>.tup [.str "name",.int m,.int 0]):=by unfold nodO; rw [if_neg e,if_pos hs]
  refine ⟨_,rfl,_,rfl,_,_,_,_,rfl,rfl,ha,hl,fun i hi H1 s1=>⟨Nat.le_of_ble_eq_true rfl,fun t nt=>q1 _ (by rw [en,hi]; rfl) _ _ (Same.new s1 (none_of_same s1 nt)) (is_tup (SqT.of upd_same) (isl_cons is_str (isl_cons is_int (isl_cons is_int isl_nil))))⟩,fun hn=>q2 (by rw [en,hn]; rfl)⟩
 ·have hs:¬ strt z "n" = true:=cc
  have en:nodO z=(mrkO "len" z).map (fun m=>.tup [.str "len",.int m]):=by unfold nodO; rw [if_neg e,if_neg hs]
  refine ⟨_,rfl,_,rfl,_,_,_,_,rfl,rfl,ha,hl,fun i hi H1 s1=>⟨Nat.le_of_ble_eq_true rfl,fun t nt=>q1 _ (by rw [en,hi]; rfl) _ _ (Same.new s1 (none_of_same s1 nt)) (is_tup (SqT.of upd_same) (isl_cons is_str (isl_cons is_int isl_nil)))⟩,fun hn=>q2 (by rw [en,hn]; rfl)⟩
theorem ok_bound_in (F:Fun K "bound_in" "bound_in" s_bound_in f fd) (c_number_in:ClX P w K mg base "number_in" n ["word", "at"] (spNumIn a_BadRow)) (c_node_in:ClX P w K mg base "node_in" n ["word", "at"] (spNodeIn K a_BadRow)) :
  FnOk P w K mg base (CX1 P w) (n + 1) f fd ["words", "at"] (spBoundIn K a_BadRow):=by
 refine F.okX sc_bound_in (fun vs H Q E h=>?_) (fun cdv A outer s H vs Q E hr h=>?_)
 ·obtain ⟨l,x,y,z,a,rfl,_⟩:=h
  rfl
 obtain ⟨l,x,y,z,a,rfl,hq,hx,hy,hz,q1,q2⟩:=h
 have sc:=sc_bound_in
 refine ⟨_,(pss_one (ps_ret (pe_tup (pa_cons (pe_clf c_node_in hr rfl (pa_cons (pe_ix ix_list (pv 0) pe_int (fun _ _=>rfl)) (pa_cons (pv 1) pa_nil))) (pa_cons (pe_clf c_node_in hr rfl (pa_cons (pe_ix ix_list (pv 0) pe_int (fun _ _=>rfl)) (pa_cons (pv 1) pa_nil))) (pa_cons (pe_clf c_number_in hr rfl (pa_cons (pe_ix ix_list (pv 0) pe_int (fun _ _=>rfl)) (pa_cons (pv 1) pa_nil))) pa_nil)))))),?_⟩
 refine ⟨_,rfl,l,_,0,_,rfl,rfl,hq,at0 _ _,_,rfl,x,_,rfl,hx,fun d1 e1 v1 H1 s1 i1=>?_,fun hn=>q2 (by simp only [bndO,hn])⟩
 refine ⟨_,rfl,l,_,1,_,rfl,rfl,s1.seq hq,at1 _ _ _,_,rfl,y,_,rfl,hy,fun d2 e2 v2 H2 s2 i2=>?_,fun hn=>(q2 (by simp only [bndO,e1,hn])).mono s1⟩
 refine ⟨_,rfl,l,_,2,_,rfl,rfl,(s1.trans s2).seq hq,at2 _ _ _ _,_,rfl,z,_,rfl,hz.1,hz.2,fun c e3 H3 s3=>⟨Nat.le_of_ble_eq_true rfl,fun t nt=>?_⟩,fun hn=>(q2 (by simp only [bndO,e1,e2,hn])).mono (s1.trans s2)⟩
 have s13:=s1.trans (s2.trans s3)
 have sn:=same_new nt (.tup [v1,v2,.int c])
 exact q1 _ (by simp only [bndO,e1,e2,e3]) _ _ (s13.trans sn) (is_tup (SqT.of upd_same) (isl_cons (i1.mono (s2.trans (s3.trans sn)).tups) (isl_cons (i2.mono (s3.trans sn).tups) (isl_cons is_int isl_nil))))
end
abbrev s_kinds_behind:Stmt:=top 9
abbrev s_counts_in:Stmt:=top 35
theorem sc_kinds_behind:FnScope ["word"] ["word"] (defScope s_kinds_behind):=⟨rfl,rfl,rfl,by decide +kernel,rfl,by decide +kernel,by decide +kernel⟩
theorem sc_counts_in:FnScope ["row", "words"] ["row"] (defScope s_counts_in):=⟨rfl,rfl,rfl,by decide +kernel,rfl,by decide +kernel,by decide +kernel⟩
theorem parts_size (x:Str) (w:Nat):∀ (cuts:List Nat) (a:Nat),(StrLaws.partsFrom x w a cuts).length=cuts.length + 1
 | [],a=>rfl
 | c::r,a=>congrArg (· + 1) (parts_size x w r (c + w))
theorem split_size (z y:Str):(Builtin.Str.partsBetween z (Builtin.Str.occurrences z y 0 z.length (z.length + 1)) y.length).length≤z.length + 2:=by
 rw [StrLaws.partsBetween_eq,parts_size]
 have:=StrLaws.occ_length_le z y 0 z.length (z.length + 1)
 omega
theorem ten4 {n:Nat} (h:n≤10002):n≤sizeLine:=Nat.le_trans h (by decide)
theorem part_join {e:Nat}:∀ {ts:List Str} {t:Str},t∈ts→∃ a b,cp (Str.join (one e) ts)=a++cp t++b
 | [],t,h=>by simp at h
 | [x],t,h=>by
  have h:t=x:=by simpa using h
  subst h
  exact ⟨[],[],by rw [List.append_nil]; rfl⟩
 | x::y::r,t,h=>by
  rw [join_two]
  rcases List.mem_cons.mp h with h | h
  ·subst h
   exact ⟨[],e::cp (Str.join (one e) (y::r)),rfl⟩
  ·obtain ⟨a,b,q⟩:=part_join (e:=e) h
   exact ⟨cp x++e::a,b,by rw [q]; simp⟩
theorem split_mem {z t:Str} {e:Nat} (h:t∈Txt.split z (one e)):t.length≤z.length∧∀ c∈cp t,c∈cp z:=by
 have e1:=StrLaws.join_split z (one e)
 obtain ⟨a,b,q⟩:=part_join (e:=e) h
 rw [e1] at q
 refine ⟨?_,fun c hc=>?_⟩
 ·rw [← cp_len,← cp_len,q]; simp only [List.length_append]; omega
 ·rw [q]; simp [hc]
theorem split_wd {z t:Str} {e:Nat} (hz:Wd z) (h:t∈Txt.split z (one e)):Wd t:=by
 obtain ⟨h1,h2⟩:=split_mem h
 exact ⟨fun c hc=>hz.1 c (h2 c hc),Nat.le_trans h1 hz.2⟩
theorem split_len (z:Str) (e:Nat):(Txt.split z (one e)).length≤z.length + 2:=by
 have:=split_size z (one e)
 unfold Txt.split
 split
 ·simp
 ·split
  ·simp
  ·exact this
theorem len4 {ws:List Str} (h:ws.length=4):∃ a b c d,ws=[a,b,c,d]:=by
 match ws,h with
 | [a,b,c,d],_=>exact ⟨a,b,c,d,rfl⟩
theorem cws_len {ws:List Str} (h:ws.length≠4):cwsO ws=none:=by
 unfold cwsO
 split
 ·exact absurd rfl h
 ·rfl
def spKindsBehind (K:PySem.W.Frag):Sp:=fun vs H Q _=>ExQ Q (fun (x:Str) Q=>vs=[.str x]∧(∀ ks,partsL.lookup x=some ks→∀ p,(∀ H:Hp,SqT K H p (ks.map V.str))→Q (.ref p) H)∧(partsL.lookup x=none→Q .non H))
def spCountsIn (CB:Addr):Sp:=fun vs H Q E=>ExQ Q (fun (z:Str) Q=>vs=[.str z]∧Wd z∧(∀ nm rw,cntsO z=some (nm,rw)→∀ (H':Hp) (t:Addr),Same H H'→H' t=some (.tup [.int nm,.int rw])→Q (.ref t) H')∧(cntsO z=none→Fails CB "at" (.int 0) H E))
section
variable {P:Program} {w:World} {K:PySem.W.Frag} {mg:Str→Option Value} {base:Heap} {f:Addr} {fd:FuncData} {n:Nat} {a_PARTS a_BadRow:Addr}
theorem ok_kinds_behind (F:Fun K "kinds_behind" "kinds_behind" s_kinds_behind f fd) (T:Tab P w K mg a_PARTS) (hs:(a_PARTS == sysModules)=false):FnOk P w K mg base CX0 (n + 1) f fd ["word"] (spKindsBehind K):=by
 refine F.ok sc_kinds_behind (fun vs H Q E h=>?_) (fun cdv A outer s H vs Q E hr h=>?_)
 ·obtain ⟨x,rfl,_⟩:=h
  rfl
 obtain ⟨x,rfl,q1,q2⟩:=h
 have sc:=sc_kinds_behind
 have m_PARTS:=T.mp
 obtain ⟨kvs,kd,kk,kn⟩:=T.kd
 refine ⟨_,(pss_one (ps_ret (pe_kget2 (pe_glob rfl m_PARTS (v:=.ref a_PARTS) rfl) (pv 0) ⟨rfl,rfl,rfl,rfl⟩))),?_⟩
 refine ⟨a_PARTS,kvs,rfl,kd,hs,_,rfl,x,rfl,?_⟩
 cases e:partsL.lookup x with
 | some ks=>
  obtain ⟨p,el,hp⟩:=kk x ks e
  rw [el]
  exact q1 ks e p hp
 | none=>
  rw [kn x e]
  exact q2 e
theorem ok_counts_in (F:Fun K "counts_in" "counts_in" s_counts_in f fd) (m_len:mg "len" = none) (x_BadRow:XErr P w K mg base "BadRow" n ["self", "at"] a_BadRow "at") (c_count_in:ClX P w K mg base "count_in" (n + 1) ["word", "at"] (spCount a_BadRow)):FnOk P w K mg base (CX1 P w) (n + 2) f fd ["row"] (spCountsIn a_BadRow):=by
 refine F.okX sc_counts_in (fun vs H Q E h=>?_) (fun cdv A outer s H vs Q E hr h=>?_)
 ·obtain ⟨z,rfl,_⟩:=h
  rfl
 obtain ⟨z,rfl,hz,q1,q2⟩:=h
 have sc:=sc_counts_in
 have hl:=hz.2
 have sz:=split_size z " "
 have wd:∀ t∈Txt.split z " ",Wd t:=fun t ht=>split_wd (e:=32) hz ht
 unfold cntsO at q1 q2
 refine ⟨_,(@pss_cons _ _ _ _ _ (ps_set (i:=1) sc.nd rfl (Or.inl rfl) (pe_bm PySem.F.plainAttrs_str PySem.F.slot_str_split PySem.F.type_str_split mt_split (pv 0) (pa_cons pe_str pa_nil)))
   (@pss_cons _ _ _ _ _ (ps_if (PW.pt (pw_or (pt_cmpR op_ne (pe_callB call_len_seq rfl m_len PySem.boot_len (pa_cons (pv 1) pa_nil)) pe_int (nomark _)) (pw_or (pt_cmpR op_ne (pe_ix ix_list (pv 1) pe_int (fun _ _=>rfl)) pe_str (nomark _)) (pw_or1 (pt_cmpR op_ne (pe_ix ix_list (pv 1) pe_int (fun _ _=>rfl)) pe_str (nomark _)))))) (pss_one (ps_rz x_BadRow hr rfl (pa_cons pe_int pa_nil))) pss_nil)
   (pss_one (ps_ret (pe_tup (pa_cons (pe_clf c_count_in hr rfl (pa_cons (pe_ix ix_list (pv 1) pe_int (fun _ _=>rfl)) (pa_cons pe_int pa_nil))) (pa_cons (pe_clf c_count_in hr rfl (pa_cons (pe_ix ix_list (pv 1) pe_int (fun _ _=>rfl)) (pa_cons pe_int pa_nil))) pa_nil))))))),?_⟩
 refine ⟨_,rfl,rfl,_,_,rfl,rfl,rfl,ten4 (by omega),ten4 (by omega),fun p np=>?_⟩
 generalize Txt.split z " " = ws at q1 q2 wd
 have s1:Same H _:=same_new np (.lst (ws.map V.str))
 have hq:SqL K (upd H p (.lst (ws.map V.str))) p (ws.map V.str):=SqL.of upd_same
 generalize upd H p (.lst (ws.map V.str))=H1 at s1 hq
 dsimp only [gName,tSeq,tIfS]
 by_cases hw:ws.length=4
 ·obtain ⟨a,b,c,d,rfl⟩:=len4 hw
  have hq:SqL K H1 p [.str a,.str b,.str c,.str d]:=hq
  refine ⟨_,rfl,p,_,rfl,.inl hq,rfl,false,rfl,iteF ?_⟩
  refine ⟨_,rfl,p,_,0,_,rfl,rfl,hq,at0 _ _,rfl,_,rfl,ite2 (fun cc=>iteT ?_) (fun cc=>?_)⟩
  ·have e:a≠"names":=str_f (by simpa using cc)
   exact ((q2 (by simp only [cwsO]; rw [if_neg fun h=>e h.1])).mono s1).rz
  have ea:a = "names":=str_t (by simpa using cc)
  refine ⟨_,rfl,p,_,2,_,rfl,rfl,hq,at2 _ _ _ _,rfl,_,rfl,ite2 (fun cc=>?_) (fun cc=>?_)⟩
  ·have e:c≠"rows":=str_f (by simpa using cc)
   exact ((q2 (by simp only [cwsO]; rw [if_neg fun h=>e h.2])).mono s1).rz
  have ec:c = "rows":=str_t (by simpa using cc)
  have wb:=wd b (by simp)
  have wdd:=wd d (by simp)
  have cw:cwsO [a,b,c,d]=(match cntO b with | none=>none | some x=>match cntO d with | none=>none | some y=>some (x,y)):=by simp only [cwsO]; rw [if_pos ⟨ea,ec⟩]; try rfl
  refine ⟨_,rfl,p,_,1,_,rfl,rfl,hq,at1 _ _ _,b,_,rfl,wb.1,wb.2,fun x ex H2 s2=>?_,fun hn=>(q2 (by simp only [cw,hn])).mono s1⟩
  refine ⟨_,rfl,p,_,3,_,rfl,rfl,s2.seq hq,at3 _ _ _ _ _,d,_,rfl,wdd.1,wdd.2,fun y ey H3 s3=>⟨Nat.le_of_ble_eq_true rfl,fun t nt=>?_⟩,fun hn=>(q2 (by simp only [cw,ex,hn])).mono (s1.trans s2)⟩
  exact q1 x y (by simp only [cw,ex,ey]) _ t (s1.trans (s2.trans (s3.trans (same_new nt _)))) upd_same
 ·refine ⟨_,rfl,p,_,rfl,.inl hq,rfl,true,?_,iteT (iteT ((q2 (cws_len hw)).mono s1).rz)⟩
  have:(((ws.map V.str).length:Nat):Int)≠4:=by rw [List.length_map]; omega
  rw [decide_eq_false fun e=>this (V.int.inj e)]; rfl
end
abbrev s_ask_in:Stmt:=top 37
abbrev s_line_in:Stmt:=top 36
theorem sc_ask_in:FnScope ["words", "at", "bounds"] ["words", "at"] (defScope s_ask_in):=⟨rfl,rfl,rfl,by decide +kernel,rfl,by decide +kernel,by decide +kernel⟩
theorem sc_line_in:FnScope ["row", "at", "words", "kinds"] ["row", "at"] (defScope s_line_in):=⟨rfl,rfl,rfl,by decide +kernel,rfl,by decide +kernel,by decide +kernel⟩
def spAskIn (K:PySem.W.Frag) (CB:Addr):Sp:=fun vs H Q E=>ExQ Q (fun (l:Addr) Q=>ExQ Q (fun (a:V) Q=>ExQ Q (fun (ws:List Str) Q=>vs=[.ref l,a]∧SqL K H l (ws.map V.str)∧ws.length≤902∧(∀ t∈ws,Wd t)∧Out K CB (askO ws) a H Q E)))
def spLineIn (K:PySem.W.Frag) (CB:Addr):Sp:=fun vs H Q E=>ExQ Q (fun (z:Str) Q=>ExQ Q (fun (a:V) Q=>vs=[.str z,a]∧Wd z∧Out K CB (linO z) a H Q E))
theorem seq_none {α:Type} {f:α→Option D}:∀ {l:List α} {x:α},x∈l→f x=none→seqO f l=none
 | [],x,h,_=>by simp at h
 | y::l,x,h,hx=>by
  unfold seqO
  cases e:f y with
  | none=>rfl
  | some d=>
   rcases List.mem_cons.mp h with h | h
   ·rw [← h,hx] at e; cases e
   ·simp only [seq_none h hx]
theorem seq_snoc {α:Type} {f:α→Option D} {x:α} {d:D} (hx:f x=some d):∀ {l:List α} {ds:List D},seqO f l=some ds→seqO f (l++[x])=some (ds++[d])
 | [],ds,h=>by
  cases h
  simp only [List.nil_append,seqO,hx]
 | y::l,ds,h=>by
  unfold seqO at h
  cases e:f y with
  | none=>rw [e] at h; cases h
  | some d2=>
   rw [e] at h
   cases e2:seqO f l with
   | none=>simp only [e2] at h; cases h
   | some ds2=>
    simp only [e2] at h
    cases h
    have:=seq_snoc hx e2
    simp only [List.cons_append,seqO,e,this]
theorem cut_nat (xs:List V) (a b:Nat) (h:a≤b) (hb:b≤xs.length):cutV xs (some (a:Int)) (some (b:Int))=(xs.drop a).take (b - a):=by
 unfold cutV
 rw [HT.sIx_nat,HT.sIx_nat,Nat.min_eq_left hb,Nat.min_eq_left (by omega)]
theorem len3 {ws:List Str} (h:ws.length=3):∃ a b c,ws=[a,b,c]:=by
 match ws,h with
 | [a,b,c],_=>exact ⟨a,b,c,rfl⟩
theorem head3 {ws:List Str} (h:3≤ws.length):∃ a b c r,ws=a::b::c::r:=by
 match ws,h with
 | a::b::c::r,_=>exact ⟨a,b,c,r,rfl⟩
theorem chunk_len {ws:List Str} {m i:Nat} (hm:ws.length=3 + 3 * m) (hi:i < m):(chunk ws i).length=3:=by
 unfold chunk
 rw [List.length_take,List.length_drop]; omega
theorem cut_chunk {ws:List Str} {m i:Nat} (hm:ws.length=3 + 3 * m) (hi:i < m):cutV (ws.map V.str) (some (3 + (i:Int) * 3)) (some (3 + (i:Int) * 3 + 3))=(chunk ws i).map V.str:=by
 rw [show (3 + (i:Int) * 3)=((3 + 3 * i:Nat):Int) by omega,show (((3 + 3 * i:Nat):Int) + 3)=((3 + 3 * i + 3:Nat):Int) by omega]
 rw [cut_nat _ _ _ (by omega) (by rw [List.length_map]; omega),show 3 + 3 * i + 3 - (3 + 3 * i)=3 by omega,← List.map_drop,← List.map_take]
 rfl
theorem chunk_mem {ws:List Str} {i:Nat} {t:Str} (h:t∈chunk ws i):t∈ws:=List.mem_of_mem_drop (List.mem_of_mem_take h)
theorem range3 (m:Nat) (h:1≤m):Builtin.Range.rangeSize 3 (((3 + 3 * m:Nat):Int)) 3=(m:Int):=by
 unfold Builtin.Range.rangeSize
 rw [if_pos (by decide),if_pos (by omega)]
 omega
theorem small3 {m:Nat} (h:m≤4):Builtin.Range.small 3 (((3 + 3 * m:Nat):Int)) 3=true:=by
 match m,h with
 | 0,_=>decide
 | 1,_=>decide
 | 2,_=>decide
 | 3,_=>decide
 | 4,_=>decide
 | m + 5,h=>omega
section
variable {P:Program} {w:World} {K:PySem.W.Frag} {mg:Str→Option Value} {base:Heap} {f:Addr} {fd:FuncData} {n:Nat} {a_PARTS a_BadRow:Addr}
theorem ok_ask_in {t1:Tok} (F:Fun K "ask_in" "ask_in" s_ask_in f fd) (m_tuple:mg "tuple" = none) (m_range:mg "range" = none) (m_len:mg "len" = none) (m_MOST_BOUNDS:mg "MOST_BOUNDS" = some (.int 4 t1)) (x_BadRow:XErr P w K mg base "BadRow" n ["self", "at"] a_BadRow "at")
  (c_count_in:ClX P w K mg base "count_in" (n + 1) ["word", "at"] (spCount a_BadRow)) (c_bound_in:ClX P w K mg base "bound_in" (n + 1) ["words", "at"] (spBoundIn K a_BadRow)):FnOk P w K mg base (CX1 P w) (n + 2) f fd ["words", "at"] (spAskIn K a_BadRow):=by
 refine F.okX sc_ask_in (fun vs H Q E h=>?_) (fun cdv A outer s H vs Q E hr h=>?_)
 ·obtain ⟨l,a,ws,rfl,_⟩:=h
  rfl
 obtain ⟨l,a,ws,rfl,hq,h9,wd,q1,q2⟩:=h
 have sc:=sc_ask_in
 have el:(ws.map V.str).length=ws.length:=List.length_map _
 refine ⟨_,(@pss_cons _ _ _ _ _ (ps_if (PW.pt (pw_or (pt_cmpR op_ne (pe_op op_mod (pe_callB call_len_seq rfl m_len PySem.boot_len (pa_cons (pv 0) pa_nil)) pe_int) pe_int (nomark _)) (pw_or1 (pt_not (pt_chain op_le op_le pe_int (pe_op op_sub (pe_op op_fdiv (pe_callB call_len_seq rfl m_len PySem.boot_len (pa_cons (pv 0) pa_nil)) pe_int) pe_int) (pe_glob rfl m_MOST_BOUNDS (v:=.int 4) ⟨_,rfl⟩)))))) (pss_one (ps_rz x_BadRow hr rfl (pa_cons (pv 1) pa_nil))) pss_nil)
   (@pss_cons _ _ _ _ _ (ps_setcompX (i:=2) ["first"] xpass_fn rfl rfl rfl rfl (cmp_ok (N:=["words", "at", "bounds"]) (so:=defScope s_ask_in) rfl rfl (by decide +kernel)) sc.nd rfl (Or.inl rfl) (pi_range3 rfl m_range (pa_cons pe_int (pa_cons (pe_callB call_len_seq rfl m_len PySem.boot_len (pa_cons (pv 0) pa_nil)) (pa_cons pe_int pa_nil)))) (fun _ _ _ _ _ _=>(pg_name (i:=0) (show List.Nodup (α:=Str) ["first", "words", "at", "bounds"] by decide +kernel) rfl (Or.inl rfl) (Or.inr rfl))) (fun _ _ _ _ _ _=>pifs_nil) (fun _ _ _ _ _ _=>(pe_clc c_bound_in hr rfl (pa_cons (pe_slice (sl_listK (K:=K) rfl) (pv 1) (po_some (pv 0)) (po_some (pe_op op_add (pv 0) pe_int))) (pa_cons (pv 2) pa_nil)))) rfl)
   (pss_one (ps_ret (pe_tup (pa_cons pe_str (pa_cons (pe_callTy call_tuple_of rfl m_tuple PyProof.Rows.boot_tuple (pa_cons (pv 2) pa_nil)) (pa_cons (pe_clf c_count_in hr rfl (pa_cons (pe_ix ix_list (pv 0) pe_int (fun _ _=>rfl)) (pa_cons (pv 1) pa_nil))) (pa_cons (pe_clf c_count_in hr rfl (pa_cons (pe_ix ix_list (pv 0) pe_int (fun _ _=>rfl)) (pa_cons (pv 1) pa_nil))) pa_nil))))))))),?_⟩
 dsimp only [gName,tSeq,tIfS]
 have no:¬ (ws.length % 3=0∧2≤ws.length / 3∧ws.length / 3≤5)→Fails a_BadRow "at" a H E:=fun h=>q2 (by unfold askO; rw [if_neg h])
 refine ⟨_,rfl,l,_,rfl,.inl hq,_,_,rfl,rfl,by show (0:Int) < 3; decide,rfl,_,rfl,ite2 (fun cc=>iteT ?_) (fun cc=>?_)⟩
 ·have c':¬ ((((ws.map V.str).length:Nat):Int) % 3=0):=fun e=>by
   rw [decide_eq_true (congrArg V.int e)] at cc; cases cc
  rw [el] at c'
  exact ⟨_,rfl,(no (by omega)).rz⟩
 have h3:(((ws.map V.str).length:Nat):Int) % 3=0:=by
  have:decide (V.int ((((ws.map V.str).length:Nat):Int) % 3)=V.int 0)=true:=by simpa using cc
  exact V.int.inj (of_decide_eq_true this)
 rw [el] at h3
 refine ⟨_,rfl,l,_,rfl,.inl hq,_,_,rfl,rfl,⟨by decide,by decide⟩,_,_,rfl,rfl,_,_,rfl,rfl,?_⟩
 by_cases hb1:¬ 2≤ws.length / 3
 ·refine ⟨false,congrArg V.bl (decide_eq_false ?_),iteF ⟨false,rfl,iteT ⟨_,rfl,(no (by omega)).rz⟩⟩⟩
  rw [el]; omega
 refine ⟨true,congrArg V.bl (decide_eq_true ?_),iteT ⟨_,_,rfl,rfl,?_⟩⟩
 ·rw [el]; omega
 by_cases hb2:¬ ws.length / 3≤5
 ·refine ⟨false,congrArg V.bl (decide_eq_false ?_),iteT ⟨_,rfl,(no (by omega)).rz⟩⟩
  rw [el]; omega
 refine ⟨true,congrArg V.bl (decide_eq_true ?_),iteF ?_⟩
 ·rw [el]; omega
 obtain ⟨m,em⟩:∃ m,m=ws.length / 3 - 1:=⟨_,rfl⟩
 have hm:ws.length=3 + 3 * m:=by omega
 have ao:askO ws=(match seqO bndO ((List.range m).map (chunk ws)) with
   | none=>none
   | some bs=>match cntO (ws.getD 1 "") with
    | none=>none
    | some k=>match cntO (ws.getD 2 "") with
     | none=>none
     | some m=>some (.tup [.str "ask",.tup bs,.int k,.int m])):=by
  unfold askO
  rw [if_pos ⟨by omega,by omega,by omega⟩,← em]; try rfl
 refine ⟨_,rfl,l,_,rfl,.inl hq,3,_,3,m,rfl,by decide,rfl,?_,?_,fun p np=>?_⟩
 ·rw [el,hm]; exact small3 (by omega)
 ·rw [el,hm]; exact range3 _ (by omega)
 refine comp_rangeS (fun i H'=>Same H H'∧∃ acc ds,H' p=some (.lst acc)∧IsL K H' ds acc∧ds.length=i∧seqO bndO ((List.range i).map (chunk ws))=some ds) ⟨same_new np _,[],[],upd_same,isl_nil,rfl,rfl⟩ (fun i H' hi h=>?_) (fun H' h=>?_)
 ·obtain ⟨sm,acc,ds,ea,il,ld,hs⟩:=h
  refine ⟨⟨[some (.int (3 + (i:Int) * 3))],rfl,rfl⟩,tTrue_ite ?_⟩
  refine ⟨_,rfl,_,rfl,_,rfl,_,rfl,_,_,rfl,rfl,_,rfl,l,_,rfl,sm.seq hq,fun p2 np2=>?_⟩
  rw [cut_chunk hm hi]
  obtain ⟨x,y,z,ec⟩:=len3 (chunk_len hm hi)
  have wc:∀ t∈chunk ws i,Wd t:=fun t ht=>wd t (chunk_mem ht)
  have en:bndO (chunk ws i)=none→askO ws=none:=fun h=>by
   rw [ao,seq_none (List.mem_map.mpr ⟨i,List.mem_range.mpr hi,rfl⟩) h]
  have es:∀ d,bndO (chunk ws i)=some d→seqO bndO ((List.range (i + 1)).map (chunk ws))=some (ds++[d]):=fun d h=>by
   rw [List.range_succ,List.map_append]; exact seq_snoc h hs
  rw [ec] at wc en es ⊢
  have s2:Same H' _:=same_new np2 (.lst ([x,y,z].map V.str))
  refine ⟨_,rfl,p2,x,y,z,_,rfl,SqL.of upd_same,wc x (by simp),wc y (by simp),wc z (by simp),fun d hd v H2 s3 iv=>?_,fun hn=>((q2 (en hn)).mono (sm.trans s2))⟩
  have s23:=s2.trans s3
  have la:=il.length
  refine ⟨acc,s23 _ _ ea,small1000 (by omega),Same.new (sm.trans s23) np,_,ds++[d],upd_same,?_,by rw [List.length_append,ld]; rfl,es d hd⟩
  exact IsL.append ((il.mono s23.tups).mono (Tups.lst (s23 _ _ ea))) (isl_cons (iv.mono (Tups.lst (s23 _ _ ea))) isl_nil)
 ·obtain ⟨sm,acc,ds,ea,il,ld,hs⟩:=h
  rw [hs] at ao
  obtain ⟨w0,w1,w2,r,rfl⟩:=head3 (ws:=ws) (by omega)
  refine ⟨_,rfl,p,_,rfl,.inl ⟨SqL.of ea,fun t nt=>?_⟩⟩
  have s2:Same H' _:=same_new nt (.tup acc)
  have s12:=sm.trans s2
  have u1:=wd w1 (by simp)
  have u2:=wd w2 (by simp)
  have ao:askO (w0::w1::w2::r)=(match cntO w1 with
    | none=>none
    | some k=>match cntO w2 with
     | none=>none
     | some m=>some (.tup [.str "ask",.tup ds,.int k,.int m])):=ao
  refine ⟨_,rfl,l,_,1,_,rfl,rfl,s12.seq hq,at1 _ _ _,_,rfl,w1,_,rfl,u1.1,u1.2,fun ka hka H3 s3=>?_,fun hn=>(q2 (by simp only [ao,hn])).mono s12⟩
  refine ⟨_,rfl,l,_,2,_,rfl,rfl,(s12.trans s3).seq hq,at2 _ _ _ _,_,rfl,w2,_,rfl,u2.1,u2.2,fun ma hma H4 s4=>⟨Nat.le_of_ble_eq_true rfl,fun t2 nt2=>?_⟩,fun hn=>(q2 (by simp only [ao,hka,hn])).mono (s12.trans s3)⟩
  have s5:Same H4 _:=same_new nt2 (.tup [.str "ask",.ref t,.int ka,.int ma])
  have s345:=s3.trans (s4.trans s5)
  refine q1 _ (by simp only [ao,hka,hma]) _ _ (s12.trans s345) (is_tup (SqT.of upd_same) (isl_cons is_str (isl_cons (is_tup (SqT.of (s345 _ _ upd_same)) (il.mono (s2.trans s345).tups)) (isl_cons is_int (isl_cons is_int isl_nil)))))
end
theorem parts_mark:∀ p∈partsL,p.1=("ask":Str)∨(p.2.length≤5∧∀ k∈p.2,(marksL.lookup k).isSome=true):=by decide +kernel
theorem kinds_mark {x:Str} {ks:List Str} (h:partsL.lookup x=some ks) (hx:x≠"ask"):ks.length≤5∧∀ k∈ks,∃ y,marksL.lookup k=some y:=by
 obtain ⟨h1,h2⟩:=(parts_mark _ (PySem.mem_of_lookup h)).resolve_left hx
 exact ⟨h1,fun k hk=>Option.isSome_iff_exists.mp (h2 k hk)⟩
section
variable {P:Program} {w:World} {K:PySem.W.Frag} {mg:Str→Option Value} {base:Heap} {f:Addr} {fd:FuncData} {n:Nat} {a_BadRow:Addr}
theorem ok_line_in (F:Fun K "line_in" "line_in" s_line_in f fd) (m_tuple:mg "tuple" = none) (m_zip:mg "zip" = none) (m_len:mg "len" = none) (x_BadRow:XErr P w K mg base "BadRow" n ["self", "at"] a_BadRow "at") (c_ask_in:ClX P w K mg base "ask_in" (n + 1) ["words", "at"] (spAskIn K a_BadRow))
  (c_kinds_behind:Cl P w K mg base "kinds_behind" (n + 1) ["word"] (spKindsBehind K)) (c_part_in:ClX P w K mg base "part_in" (n + 1) ["kind", "word", "at"] (spPartIn K a_BadRow)):FnOk P w K mg base (CX1 P w) (n + 2) f fd ["row", "at"] (spLineIn K a_BadRow):=by
 refine F.okX sc_line_in (fun vs H Q E h=>?_) (fun cdv A outer s H vs Q E hr h=>?_)
 ·obtain ⟨z,a,rfl,_⟩:=h
  rfl
 obtain ⟨z,a,rfl,hz,q1,q2⟩:=h
 have sc:=sc_line_in
 have hl:=hz.2
 have sz:=split_size z " "
 have sl:(Txt.split z " ").length≤z.length + 2:=split_len z 32
 have sne:Txt.split z " "≠[]:=split_ne z " "
 have wd:∀ t∈Txt.split z " ",Wd t:=fun t ht=>split_wd (e:=32) hz ht
 unfold linO at q1 q2
 refine ⟨_,(@pss_cons _ _ _ _ _ (ps_set (i:=2) sc.nd rfl (Or.inl rfl) (pe_bm PySem.F.plainAttrs_str PySem.F.slot_str_split PySem.F.type_str_split mt_split (pv 0) (pa_cons pe_str pa_nil)))
   (@pss_cons _ _ _ _ _ (ps_if (pt_cmpR op_eq (pe_ix ix_list (pv 2) pe_int (fun _ _=>rfl)) pe_str (nomark _)) (pss_one (ps_ret (pe_clf c_ask_in hr rfl (pa_cons (pv 2) (pa_cons (pv 1) pa_nil))))) pss_nil)
   (@pss_cons _ _ _ _ _ (ps_set (i:=3) sc.nd rfl (Or.inl rfl) (pe_cl c_kinds_behind hr rfl (pa_cons (pe_ix ix_list (pv 2) pe_int (fun _ _=>rfl)) pa_nil)))
   (@pss_cons _ _ _ _ _ (ps_if (PW.pt (pw_or (pt_cmpR op_isN (pv 3) pe_non (nomark _)) (pw_or1 (pt_cmpR op_ne (pe_callB call_len_seq rfl m_len PySem.boot_len (pa_cons (pv 2) pa_nil)) (pe_op op_add pe_int (pe_callB call_len_seq rfl m_len PySem.boot_len (pa_cons (pv 3) pa_nil))) (nomark _))))) (pss_one (ps_rz x_BadRow hr rfl (pa_cons (pv 1) pa_nil))) pss_nil)
   (pss_one (ps_ret (pe_callTy call_tuple_of rfl m_tuple PyProof.Rows.boot_tuple (pa_cons (pe_op op_cat (pe_lst (pa_cons (pe_ix ix_list (pv 2) pe_int (fun _ _=>rfl)) pa_nil)) (pe_compX ["kind", "word"] xpass_fn rfl rfl rfl rfl (cmp_ok (N:=["row", "at", "words", "kinds"]) (so:=defScope s_line_in) rfl rfl (by decide +kernel)) (pi_zipTL rfl m_zip (pa_cons (pv 3) (pa_cons (pe_slice sl_list (pv 2) (po_some pe_int) po_none) pa_nil))) (fun _ _ _ _ _ _=>(pg_tupK (K:=K) (n:=2) rfl rfl (pgs_cons (pg_name (i:=0) (show List.Nodup (α:=Str) ["kind", "word", "row", "at", "words", "kinds"] by decide +kernel) rfl (Or.inl rfl) (Or.inr rfl)) (pgs_cons (pg_name (i:=1) (show List.Nodup (α:=Str) ["kind", "word", "row", "at", "words", "kinds"] by decide +kernel) rfl (Or.inl rfl) (Or.inr rfl)) pgs_nil)))) (fun _ _ _ _ _ _=>pifs_nil) (fun _ _ _ _ _ _=>(pe_clc c_part_in hr rfl (pa_cons (pv 0) (pa_cons (pv 1) (pa_cons (pv 3) pa_nil))))))) pa_nil)))))))),?_⟩
 refine ⟨_,rfl,rfl,_,_,rfl,rfl,rfl,ten4 (by omega),ten4 (by omega),fun p np=>?_⟩
 generalize Txt.split z " " = ws at q1 q2 wd sl sne
 have s1:Same H _:=same_new np (.lst (ws.map V.str))
 have hq:SqL K (upd H p (.lst (ws.map V.str))) p (ws.map V.str):=SqL.of upd_same
 generalize upd H p (.lst (ws.map V.str))=H1 at s1 hq
 obtain ⟨x,r,rfl⟩:=List.exists_cons_of_ne_nil sne
 dsimp only [gName,tSeq,tIfS]
 refine ⟨_,rfl,p,_,0,_,rfl,rfl,hq,at0 _ _,rfl,_,rfl,ite2 (fun cc=>?_) (fun cc=>?_)⟩
 ·have e:=str_t cc
  have ew:wrdO (x::r)=askO (x::r):=by simp only [wrdO]; rw [if_pos e]
  exact ⟨_,rfl,_,rfl,p,_,x::r,rfl,hq,by omega,wd,fun d hd v H' s' iv=>q1 d (by rw [ew,hd]) v H' (s1.trans s') iv,fun hn=>(q2 (by rw [ew,hn])).mono s1⟩
 have hx:=str_f cc
 have lr:r.length≤901:=by rw [List.length_cons] at sl; omega
 refine ⟨_,rfl,p,_,0,_,rfl,rfl,hq,at0 _ _,x,rfl,fun ks hk kp hkp=>?_,fun hk=>?_⟩
 rotate_left
 ·have ew:wrdO (x::r)=none:=by simp only [wrdO]; rw [if_neg hx,hk]
  exact ⟨_,rfl,rfl,true,rfl,iteT (iteT ⟨_,rfl,((q2 ew).mono s1).rz⟩)⟩
 obtain ⟨k5,km⟩:=kinds_mark hk hx
 refine ⟨_,rfl,rfl,false,rfl,iteF ?_⟩
 refine ⟨_,rfl,p,_,rfl,.inl hq,_,rfl,kp,_,rfl,.inr (hkp _),_,_,rfl,rfl,rfl,_,rfl,ite2 (fun cc=>?_) (fun cc=>?_)⟩
 ·have hne:¬ r.length=ks.length:=fun e=>by
   have:(!decide (V.int ((((x::r).map V.str).length:Nat):Int)=V.int (1 + (((ks.map V.str).length:Nat):Int))))=true:=cc
   rw [decide_eq_true (congrArg V.int (by rw [List.length_map,List.length_map,List.length_cons,e]; omega))] at this
   cases this
  have ew:wrdO (x::r)=none:=by simp only [wrdO]; rw [if_neg hx,hk]; exact if_neg hne
  exact ⟨_,rfl,((q2 ew).mono s1).rz⟩
 have hlen:r.length=ks.length:=by
  have:¬ (!decide (V.int ((((x::r).map V.str).length:Nat):Int)=V.int (1 + (((ks.map V.str).length:Nat):Int))))=true:=cc
  have:decide (V.int ((((x::r).map V.str).length:Nat):Int)=V.int (1 + (((ks.map V.str).length:Nat):Int)))=true:=by simpa using this
  have:=V.int.inj (of_decide_eq_true this)
  rw [List.length_map,List.length_map,List.length_cons] at this
  omega
 have ew:wrdO (x::r)=(seqO (fun p:Str × Str=>prtO p.1 p.2) (ks.zip r)).map (fun ds=>.tup (.str x::ds)):=by simp only [wrdO]; rw [if_neg hx,hk]; exact if_pos hlen
 refine ⟨_,rfl,p,_,0,_,rfl,rfl,hq,at0 _ _,Nat.le_of_ble_eq_true rfl,fun p1 np1=>?_⟩
 have s2:Same H1 _:=same_new np1 (.lst [.str x])
 refine ⟨_,rfl,_,rfl,_,rfl,p,_,rfl,s2.seq hq,fun p2 np2=>?_⟩
 rw [show cutV ((x::r).map V.str) (some 1) none=r.map V.str from cut1 _ _]
 have s3:Same (upd H1 p1 (.lst [.str x])) _:=same_new np2 (.lst (r.map V.str))
 refine ⟨kp,p2,rfl,⟨_,hkp _⟩,⟨_,SqL.of upd_same⟩,fun pc npc=>?_⟩
 have e1:=s3 _ _ (upd_same (H:=H1) (a:=p1) (o:=.lst [.str x]))
 have e2:upd (upd H1 p1 (.lst [.str x])) p2 (.lst (r.map V.str)) p2=_:=upd_same
 generalize upd (upd H1 p1 (.lst [.str x])) p2 (.lst (r.map V.str))=H3 at s3 e1 e2 npc
 have s13:=s1.trans (s2.trans s3)
 have lz:(ks.zip r).length=ks.length:=by rw [List.length_zip]; omega
 refine comp_zipP (xs:=ks.map V.str) (ys:=r.map V.str) (fun i H'=>Same H3 H'∧∃ acc ds,H' pc=some (.lst acc)∧IsL K H' ds acc∧ds.length=i∧seqO (fun p:Str × Str=>prtO p.1 p.2) ((ks.zip r).take i)=some ds) (by rw [List.length_map,List.length_map,hlen]) ⟨same_new npc _,[],[],upd_same,isl_nil,rfl,rfl⟩ (fun i H' _ h=>⟨hkp _,SqL.of (h.1 _ _ e2)⟩) (fun i kx wx H' t ek ew1 h nt=>?_) (fun H' h=>?_)
 ·obtain ⟨sm,acc,ds,ea,il,ld,hs⟩:=h
  rw [List.getElem?_map] at ek ew1
  obtain ⟨k,ek1,ekx⟩:=Option.map_eq_some_iff.mp ek
  obtain ⟨wo,ew2,ewx⟩:=Option.map_eq_some_iff.mp ew1
  subst ekx
  subst ewx
  have hi:i < ks.length:=(List.getElem?_eq_some_iff.mp ek1).1
  have ez:(ks.zip r)[i]?=some (k,wo):=by rw [List.getElem?_zip_eq_some]; exact ⟨ek1,ew2⟩
  obtain ⟨y,hy⟩:=km k (List.mem_of_getElem? ek1)
  have en:prtO k wo=none→wrdO (x::r)=none:=fun h=>by
   rw [ew,seq_none (List.mem_of_getElem? ez) h]; rfl
  have es:∀ d,prtO k wo=some d→seqO (fun p:Str × Str=>prtO p.1 p.2) ((ks.zip r).take (i + 1))=some (ds++[d]):=fun d h=>by
   rw [List.take_add_one,ez]; exact seq_snoc (f:=fun p:Str × Str=>prtO p.1 p.2) (x:=(k,wo)) h hs
  have sn:Same H' _:=same_new nt (.tup [.str k,.str wo])
  refine ⟨t,_,rfl,SqT.of upd_same,rfl,_,_,rfl,_,_,rfl,rfl,⟨[some (.str k),some (.str wo)],rfl,rfl⟩,tTrue_ite ?_⟩
  refine ⟨_,rfl,_,rfl,_,rfl,k,wo,y,_,rfl,hy,wd wo (List.mem_cons_of_mem _ (List.mem_of_getElem? ew2)),fun d hd v H5 s5 iv=>?_,fun hn=>(q2 (en hn)).mono (s13.trans (sm.trans sn))⟩
  have s45:=sn.trans s5
  have la:=il.length
  refine ⟨acc,s45 _ _ ea,small1000 (by omega),Same.new (sm.trans s45) npc,_,ds++[d],upd_same,?_,by rw [List.length_append,ld]; rfl,es d hd⟩
  exact IsL.append ((il.mono s45.tups).mono (Tups.lst (s45 _ _ ea))) (isl_cons (iv.mono (Tups.lst (s45 _ _ ea))) isl_nil)
 ·obtain ⟨sm,acc,ds,ea,il,ld,hs⟩:=h
  rw [List.length_map] at ld hs
  rw [← lz,List.take_length] at hs
  have la:=il.length
  refine ⟨p1,pc,_,_,rfl,rfl,sm _ _ e1,ea,small (by rw [List.length_singleton]; omega),fun p3 np3=>?_⟩
  have s4:Same H' _:=same_new np3 (.lst ([.str x]++acc))
  refine ⟨p3,_,rfl,.inl ⟨SqL.of upd_same,fun t nt=>?_⟩⟩
  have s5:Same (upd H' p3 (.lst ([.str x]++acc))) _:=same_new nt (.tup ([.str x]++acc))
  exact q1 _ (by rw [ew,hs]; rfl) _ _ (s13.trans (sm.trans (s4.trans s5))) (is_tup (SqT.of upd_same) (isl_cons is_str (il.mono (s4.trans s5).tups)))
end
abbrev s_is_there:Stmt:=top 26
abbrev s_is_written:Stmt:=top 27
abbrev s_counts_fit:Stmt:=top 20
abbrev s_node_fits:Stmt:=top 25
abbrev s_bound_fits:Stmt:=top 24
theorem sc_is_there:FnScope ["number", "count"] ["number", "count"] (defScope s_is_there):=⟨rfl,rfl,rfl,by decide +kernel,rfl,by decide +kernel,by decide +kernel⟩
theorem sc_is_written:FnScope ["number"] ["number"] (defScope s_is_written):=⟨rfl,rfl,rfl,by decide +kernel,rfl,by decide +kernel,by decide +kernel⟩
theorem sc_counts_fit:FnScope ["program", "names_fit", "rows_fit"] ["program"] (defScope s_counts_fit):=⟨rfl,rfl,rfl,by decide +kernel,rfl,by decide +kernel,by decide +kernel⟩
theorem sc_node_fits:FnScope ["program", "node"] ["program", "node"] (defScope s_node_fits):=⟨rfl,rfl,rfl,by decide +kernel,rfl,by decide +kernel,by decide +kernel⟩
theorem sc_bound_fits:FnScope ["program", "bound"] ["program", "bound"] (defScope s_bound_fits):=⟨rfl,rfl,rfl,by decide +kernel,rfl,by decide +kernel,by decide +kernel⟩
def spC (PC:V→Hp→Bool→Prop):Sp:=fun vs H Q _=>ExQ Q (fun p Q=>ExQ Q (fun b Q=>vs=[p]∧PC p H b∧∀ H',Same H H'→Q (.bl b) H'))
def spL (PL:V→V→Hp→Bool→Prop):Sp:=fun vs H Q _=>ExQ Q (fun p Q=>ExQ Q (fun l Q=>ExQ Q (fun b Q=>vs=[p,l]∧PL p l H b∧∀ H',Same H H'→Q (.bl b) H')))
def spR (PR:V→Int→Hp→Bool→Prop):Sp:=fun vs H Q _=>ExQ Q (fun (ls:V) Q=>ExQ Q (fun (i:Int) Q=>ExQ Q (fun (b:Bool) Q=>vs=[ls,.int i]∧PR ls i H b∧∀ H',Same H H'→Q (.bl b) H')))
def isThere (i c:Int):Bool:=decide (0≤i) && decide (i < c)
def isWritten (i:Int):Bool:=decide (-1000≤i) && decide (i≤1000)
def Prg (K:PySem.W.Frag) (H:Hp) (p:V) (nm rw:Int) (al:Addr) (xs:List V):Prop:=∃ ap,p=.ref ap∧SqT K H ap [.int nm,.int rw,.ref al]∧SqL K H al xs
theorem Prg.mono {K:PySem.W.Frag} {H H':Hp} {p:V} {nm rw:Int} {al:Addr} {xs:List V} (s:Same H H') (h:Prg K H p nm rw al xs):Prg K H' p nm rw al xs:=by
 obtain ⟨ap,e,a,b⟩:=h
 exact ⟨ap,e,s.tups.sq a,s.seq b⟩
def spThere:Sp:=fun vs H Q _=>ExQ Q (fun (i:Int) Q=>ExQ Q (fun (c:Int) Q=>vs=[.int i,.int c]∧Q (.bl (isThere i c)) H))
def spWritten:Sp:=fun vs H Q _=>ExQ Q (fun (i:Int) Q=>vs=[.int i]∧Q (.bl (isWritten i)) H)
def countsB (nm rw:Int) (n:Nat):Bool:=(decide (0≤nm) && decide (nm≤6)) && ((decide (0≤rw) && decide (rw≤3)) && (decide ((1:Int)≤n) && decide ((n:Int)≤70)))
def PCounts (K:PySem.W.Frag) (p:V) (H:Hp) (b:Bool):Prop:=∃ nm rw al xs,Prg K H p nm rw al xs∧b=countsB nm rw xs.length
def NodeX (d:D):Prop:=d=.tup [.str "zero"]∨(∃ x v,d=.tup [.str "name",.int x,.int v])∨∃ r,d=.tup [.str "len",.int r]
def nodeFits (nm rw:Int):D→Bool
 | .tup [.str z,.int x,.int v]=>isThere x nm && decide (v=0)
 | .tup [.str z,.int r]=>isThere r rw
 | _=>true
def spNodeX (K:PySem.W.Frag):Sp:=fun vs H Q _=>ExQ Q (fun p Q=>ExQ Q (fun u Q=>ExQ Q (fun nm Q=>ExQ Q (fun rw Q=>ExQ Q (fun al Q=>ExQ Q (fun xs Q=>ExQ Q (fun d Q=>vs=[p,u]∧Prg K H p nm rw al xs∧NodeX d∧Is K H d u∧Q (.bl (nodeFits nm rw d)) H)))))))
def boundFits (nm rw:Int):D→Bool
 | .tup [a,b,.int c]=>nodeFits nm rw a && (nodeFits nm rw b && isWritten c)
 | _=>true
def BoundX (d:D):Prop:=∃ a b c,d=.tup [a,b,.int c]∧NodeX a∧NodeX b
def spBound (K:PySem.W.Frag):Sp:=fun vs H Q _=>ExQ Q (fun p Q=>ExQ Q (fun u Q=>ExQ Q (fun nm Q=>ExQ Q (fun rw Q=>ExQ Q (fun al Q=>ExQ Q (fun xs Q=>ExQ Q (fun d Q=>vs=[p,u]∧Prg K H p nm rw al xs∧BoundX d∧Is K H d u∧Q (.bl (boundFits nm rw d)) H)))))))
section
variable {P:Program} {w:World} {K:PySem.W.Frag} {mg:Str→Option Value} {base:Heap} {f:Addr} {fd:FuncData} {n:Nat}
theorem ok_is_there (F:Fun K "is_there" "is_there" s_is_there f fd):FnOk P w K mg base CX0 (n + 1) f fd ["number", "count"] spThere:=by
 refine F.ok sc_is_there (fun vs H Q E h=>?_) (fun cdv A outer s H vs Q E hr h=>?_)
 ·obtain ⟨i,c,rfl,_⟩:=h
  rfl
 obtain ⟨i,c,rfl,q⟩:=h
 have sc:=sc_is_there
 refine ⟨_,(pss_one (ps_ret (pe_chain op_le op_lt pe_int (pv 0) (pv 1)))),?_⟩
 refine ⟨_,rfl,_,_,rfl,rfl,_,rfl,ite2 (fun cc=>⟨_,rfl,_,_,rfl,rfl,?_⟩) (fun cc=>?_)⟩
 ·unfold isThere at q; rw [cc,Bool.true_and] at q; exact q
 ·unfold isThere at q; rw [Bool.eq_false_iff.mpr cc,Bool.false_and] at q; exact q
theorem ok_is_written {tk:Tok} (F:Fun K "is_written" "is_written" s_is_written f fd) (m_GREATEST_WRITTEN:mg "GREATEST_WRITTEN" = some (.int 1000 tk)):FnOk P w K mg base CX0 (n + 1) f fd ["number"] spWritten:=by
 refine F.ok sc_is_written (fun vs H Q E h=>?_) (fun cdv A outer s H vs Q E hr h=>?_)
 ·obtain ⟨i,rfl,_⟩:=h
  rfl
 obtain ⟨i,rfl,q⟩:=h
 have sc:=sc_is_written
 refine ⟨_,(pss_one (ps_ret (pe_chain op_le op_le (pe_un un_neg (pe_glob rfl m_GREATEST_WRITTEN (v:=.int 1000) ⟨_,rfl⟩)) (pv 0) (pe_glob rfl m_GREATEST_WRITTEN (v:=.int 1000) ⟨_,rfl⟩)))),?_⟩
 refine ⟨_,rfl,_,rfl,_,_,rfl,rfl,_,rfl,ite2 (fun cc=>⟨_,_,rfl,rfl,?_⟩) (fun cc=>?_)⟩
 ·unfold isWritten at q; rw [cc,Bool.true_and] at q; exact q
 ·unfold isWritten at q; rw [Bool.eq_false_iff.mpr cc,Bool.false_and] at q; exact q
theorem ok_node_fits (F:Fun K "node_fits" "node_fits" s_node_fits f fd) (c_is_there:Cl P w K mg base "is_there" n ["number", "count"] spThere):FnOk P w K mg base CX0 (n + 1) f fd ["program", "node"] (spNodeX K):=by
 refine F.ok sc_node_fits (fun vs H Q E h=>?_) (fun cdv A outer s H vs Q E hr h=>?_)
 ·obtain ⟨p,u,nm,rw,al,xs,d,rfl,_⟩:=h
  rfl
 obtain ⟨p,u,nm,rw,al,xs,d,rfl,⟨ap,rfl,hq,hl⟩,hd,hi,q⟩:=h
 have sc:=sc_node_fits
 refine ⟨_,(@pss_cons _ _ _ _ _ (ps_if (pt_cmpR op_eq (pe_ix ix_tup (pv 1) pe_int (fun _ _=>rfl)) pe_str (nomark _)) (pss_one (ps_ret (pe_and (pe_cl c_is_there hr rfl (pa_cons (pe_ix ix_tup (pv 1) pe_int (fun _ _=>rfl)) (pa_cons (pe_ix ix_tup (pv 0) pe_int (fun _ _=>rfl)) pa_nil))) (pe_one (pe_cmpR op_eq (pe_ix ix_tup (pv 1) pe_int (fun _ _=>rfl)) pe_int (nomark _)))))) pss_nil)
   (@pss_cons _ _ _ _ _ (ps_if (pt_cmpR op_eq (pe_ix ix_tup (pv 1) pe_int (fun _ _=>rfl)) pe_str (nomark _)) (pss_one (ps_ret (pe_cl c_is_there hr rfl (pa_cons (pe_ix ix_tup (pv 1) pe_int (fun _ _=>rfl)) (pa_cons (pe_ix ix_tup (pv 0) pe_int (fun _ _=>rfl)) pa_nil))))) pss_nil)
   (pss_one (ps_ret pe_bl)))),?_⟩
 rcases hd with rfl | ⟨x,v,rfl⟩ | ⟨r,rfl⟩
 ·obtain ⟨a,ys,rfl,hs,il⟩:=hi.tup_inv
  obtain ⟨z1,r1,rfl,i1,il1⟩:=il.cons_inv
  cases i1.str_inv
  cases il1.nil_inv
  refine ⟨_,rfl,a,_,0,_,rfl,rfl,hs,at0 _ _,rfl,_,rfl,iteF ?_⟩
  refine ⟨_,rfl,a,_,0,_,rfl,rfl,hs,at0 _ _,rfl,_,rfl,iteF ?_⟩
  exact q
 ·obtain ⟨a,ys,rfl,hs,il⟩:=hi.tup_inv
  obtain ⟨z1,r1,rfl,i1,il1⟩:=il.cons_inv
  obtain ⟨z2,r2,rfl,i2,il2⟩:=il1.cons_inv
  obtain ⟨z3,r3,rfl,i3,il3⟩:=il2.cons_inv
  cases i1.str_inv
  cases i2.int_inv
  cases i3.int_inv
  cases il3.nil_inv
  refine ⟨_,rfl,a,_,0,_,rfl,rfl,hs,at0 _ _,rfl,_,rfl,iteT ?_⟩
  refine ⟨_,rfl,a,_,1,_,rfl,rfl,hs,at1 _ _ _,_,rfl,ap,_,0,_,rfl,rfl,hq,at0 _ _,_,_,rfl,_,rfl,ite2 (fun cc=>?_) (fun cc=>?_)⟩
  ·refine ⟨_,rfl,a,_,2,_,rfl,rfl,hs,at2 _ _ _ _,rfl,?_⟩
   replace q:Q (.bl (isThere x nm && decide (v=0))) H:=q
   rw [cc,Bool.true_and] at q
   rw [show decide (V.int v=V.int 0)=decide (v=0) from decide_eq_decide.mpr ⟨fun z=>V.int.inj z,fun z=>by rw [z]⟩]
   exact q
  ·replace q:Q (.bl (isThere x nm && decide (v=0))) H:=q
   rw [Bool.eq_false_iff.mpr cc,Bool.false_and] at q; exact q
 ·obtain ⟨a,ys,rfl,hs,il⟩:=hi.tup_inv
  obtain ⟨z1,r1,rfl,i1,il1⟩:=il.cons_inv
  obtain ⟨z2,r2,rfl,i2,il2⟩:=il1.cons_inv
  cases i1.str_inv
  cases i2.int_inv
  cases il2.nil_inv
  refine ⟨_,rfl,a,_,0,_,rfl,rfl,hs,at0 _ _,rfl,_,rfl,iteF ?_⟩
  refine ⟨_,rfl,a,_,0,_,rfl,rfl,hs,at0 _ _,rfl,_,rfl,iteT ?_⟩
  exact ⟨_,rfl,a,_,1,_,rfl,rfl,hs,at1 _ _ _,_,rfl,ap,_,1,_,rfl,rfl,hq,at1 _ _ _,_,_,rfl,q⟩
theorem ok_bound_fits (F:Fun K "bound_fits" "bound_fits" s_bound_fits f fd) (c_node_fits:Cl P w K mg base "node_fits" n ["program", "node"] (spNodeX K)) (c_is_written:Cl P w K mg base "is_written" n ["number"] spWritten) :
  FnOk P w K mg base CX0 (n + 1) f fd ["program", "bound"] (spBound K):=by
 refine F.ok sc_bound_fits (fun vs H Q E h=>?_) (fun cdv A outer s H vs Q E hr h=>?_)
 ·obtain ⟨p,u,nm,rw,al,xs,d,rfl,_⟩:=h
  rfl
 obtain ⟨p,u,nm,rw,al,xs,d,rfl,hp,⟨d1,d2,c,rfl,n1,n2⟩,hi,q⟩:=h
 have sc:=sc_bound_fits
 refine ⟨_,(pss_one (ps_ret (pe_and (pe_cl c_node_fits hr rfl (pa_cons (pv 0) (pa_cons (pe_ix ix_tup (pv 1) pe_int (fun _ _=>rfl)) pa_nil))) (pe_and (pe_cl c_node_fits hr rfl (pa_cons (pv 0) (pa_cons (pe_ix ix_tup (pv 1) pe_int (fun _ _=>rfl)) pa_nil))) (pe_one (pe_cl c_is_written hr rfl (pa_cons (pe_ix ix_tup (pv 1) pe_int (fun _ _=>rfl)) pa_nil))))))),?_⟩
 obtain ⟨a,ys,rfl,hs,il⟩:=hi.tup_inv
 obtain ⟨z1,r1,rfl,i1,il1⟩:=il.cons_inv
 obtain ⟨z2,r2,rfl,i2,il2⟩:=il1.cons_inv
 obtain ⟨z3,r3,rfl,i3,il3⟩:=il2.cons_inv
 cases i3.int_inv
 cases il3.nil_inv
 replace q:Q (.bl (nodeFits nm rw d1 && (nodeFits nm rw d2 && isWritten c))) H:=q
 refine ⟨_,rfl,_,rfl,a,_,0,_,rfl,rfl,hs,at0 _ _,_,_,nm,rw,al,xs,d1,rfl,hp,n1,i1,_,rfl,ite2 (fun cc=>?_) (fun cc=>?_)⟩
 ·rw [cc,Bool.true_and] at q
  refine ⟨_,rfl,_,rfl,a,_,1,_,rfl,rfl,hs,at1 _ _ _,_,_,nm,rw,al,xs,d2,rfl,hp,n2,i2,_,rfl,ite2 (fun cc=>?_) (fun cc=>?_)⟩
  ·rw [cc,Bool.true_and] at q
   exact ⟨_,rfl,a,_,2,_,rfl,rfl,hs,at2 _ _ _ _,_,rfl,q⟩
  ·rw [Bool.eq_false_iff.mpr cc,Bool.false_and] at q; exact q
 ·rw [Bool.eq_false_iff.mpr cc,Bool.false_and] at q; exact q
theorem chain_le {a b c:Int} {Q:VK} {σ:L2.St} {H:Hp} (q:Q (.bl (decide (a≤b) && decide (b≤c))) H) :
  if decide (a≤b)=true then tC (.int c) σ H (fun w' H4=>rI0 (fun i j=>.bl (decide (i≤j))) (.int b) w' H4 Q) else Q (.bl false) H:=
 ite2 (fun cc=>⟨b,c,rfl,rfl,by rw [cc,Bool.true_and] at q; exact q⟩) (fun cc=>by rw [Bool.eq_false_iff.mpr cc,Bool.false_and] at q; exact q)
theorem ok_counts_fit {t1 t2 t3:Tok} (F:Fun K "counts_fit" "counts_fit" s_counts_fit f fd) (m_len:mg "len" = none) (m_MOST_NAMES:mg "MOST_NAMES" = some (.int 6 t1)) (m_MOST_ROWS:mg "MOST_ROWS" = some (.int 3 t2)) (m_MOST_LINES:mg "MOST_LINES" = some (.int 70 t3)) :
  FnOk P w K mg base CX0 (n + 1) f fd ["program"] (spC (PCounts K)):=by
 refine F.ok sc_counts_fit (fun vs H Q E h=>?_) (fun cdv A outer s H vs Q E hr h=>?_)
 ·obtain ⟨p,b,rfl,_⟩:=h
  rfl
 obtain ⟨p,b,rfl,⟨nm,rw,al,xs,⟨ap,rfl,hq,hl⟩,rfl⟩,q⟩:=h
 have q:=q H (Same.refl H)
 have sc:=sc_counts_fit
 refine ⟨_,(@pss_cons _ _ _ _ _ (ps_set (i:=1) sc.nd rfl (Or.inl rfl) (pe_chain op_le op_le pe_int (pe_ix ix_tup (pv 0) pe_int (fun _ _=>rfl)) (pe_glob rfl m_MOST_NAMES (v:=.int 6) ⟨_,rfl⟩)))
   (@pss_cons _ _ _ _ _ (ps_set (i:=2) sc.nd rfl (Or.inl rfl) (pe_chain op_le op_le pe_int (pe_ix ix_tup (pv 0) pe_int (fun _ _=>rfl)) (pe_glob rfl m_MOST_ROWS (v:=.int 3) ⟨_,rfl⟩)))
   (pss_one (ps_ret (pe_and (pv 1) (pe_and (pv 2) (pe_one (pe_chain op_le op_le pe_int (pe_callB call_len_seq rfl m_len PySem.boot_len (pa_cons (pe_ix ix_tup (pv 0) pe_int (fun _ _=>rfl)) pa_nil)) (pe_glob rfl m_MOST_LINES (v:=.int 70) ⟨_,rfl⟩))))))))),?_⟩
 unfold countsB at q
 refine ⟨_,rfl,ap,_,0,_,rfl,rfl,hq,at0 _ _,_,_,rfl,rfl,_,rfl,chain_le ?_⟩
 refine ⟨_,rfl,ap,_,1,_,rfl,rfl,hq,at1 _ _ _,_,_,rfl,rfl,_,rfl,chain_le ?_⟩
 refine ⟨_,rfl,_,rfl,ite2 (fun c1=>?_) (fun c1=>?_)⟩
 ·rw [c1,Bool.true_and] at q
  refine ⟨_,rfl,_,rfl,ite2 (fun c2=>?_) (fun c2=>?_)⟩
  ·rw [c2,Bool.true_and] at q
   exact ⟨_,rfl,ap,_,2,_,rfl,rfl,hq,at2 _ _ _ _,al,xs,rfl,.inl hl,_,_,rfl,rfl,_,rfl,chain_le q⟩
  ·rw [Bool.eq_false_iff.mpr c2,Bool.false_and] at q; exact q
 ·rw [Bool.eq_false_iff.mpr c1,Bool.false_and] at q; exact q
end
abbrev s_bounds_fit:Stmt:=top 23
theorem sc_bounds_fit:FnScope ["program", "bounds"] ["program", "bounds"] (defScope s_bounds_fit):=⟨rfl,rfl,rfl,by decide +kernel,rfl,by decide +kernel,by decide +kernel⟩
def boundsFit (nm rw:Int) (ds:List D):Bool:=(decide ((1:Int)≤ds.length) && decide ((ds.length:Int)≤4)) && (ds.map (boundFits nm rw)).all id
def spBounds (K:PySem.W.Frag):Sp:=fun vs H Q _=>ExQ Q (fun p Q=>ExQ Q (fun u Q=>ExQ Q (fun nm Q=>ExQ Q (fun rw Q=>ExQ Q (fun al Q=>ExQ Q (fun xs Q=>ExQ Q (fun ds Q=>vs=[p,u]∧Prg K H p nm rw al xs∧(∀ d∈ds,BoundX d)∧ds.length≤1000∧Is K H (.tup ds) u∧∀ H',Same H H'→Q (.bl (boundsFit nm rw ds)) H')))))))
section
variable {P:Program} {w:World} {K:PySem.W.Frag} {mg:Str→Option Value} {base:Heap} {f:Addr} {fd:FuncData} {n:Nat}
theorem ok_bounds_fit {t1:Tok} (F:Fun K "bounds_fit" "bounds_fit" s_bounds_fit f fd) (m_len:mg "len" = none) (m_all:mg "all" = none) (m_MOST_BOUNDS:mg "MOST_BOUNDS" = some (.int 4 t1)) (c_bound_fits:Cl P w K mg base "bound_fits" n ["program", "bound"] (spBound K)) :
  FnOk P w K mg base CX0 (n + 1) f fd ["program", "bounds"] (spBounds K):=by
 refine F.ok sc_bounds_fit (fun vs H Q E h=>?_) (fun cdv A outer s H vs Q E hr h=>?_)
 ·obtain ⟨p,u,nm,rw,al,xs,ds,rfl,_⟩:=h
  rfl
 obtain ⟨p,u,nm,rw,al,xs,ds,rfl,hp,hB,h1000,hi,q⟩:=h
 have sc:=sc_bounds_fit
 refine ⟨_,(@pss_cons _ _ _ _ _ (ps_if (pt_not (pt_chain op_le op_le pe_int (pe_callB call_len_seq rfl m_len PySem.boot_len (pa_cons (pv 1) pa_nil)) (pe_glob rfl m_MOST_BOUNDS (v:=.int 4) ⟨_,rfl⟩))) (pss_one (ps_ret pe_bl)) pss_nil)
   (pss_one (ps_ret (pe_callB (call_all rfl) rfl m_all PyProof.Rows.boot_all (pa_cons (pe_comp ["bound"] rfl (cmp_ok (N:=["program", "bounds"]) (so:=defScope s_bounds_fit) rfl rfl (by decide +kernel)) (pi_tup (pv 1)) (fun _ _ _ _ _ _=>(pg_name (i:=0) (show List.Nodup (α:=Str) ["bound", "program", "bounds"] by decide +kernel) rfl (Or.inl rfl) (Or.inr rfl))) (fun _ _ _ _ _ _=>pifs_nil) (fun _ _ _ _ _ _=>(pe_cl c_bound_fits hr rfl (pa_cons (pv 1) (pa_cons (pv 0) pa_nil))))) pa_nil))))),?_⟩
 obtain ⟨a,ys,rfl,hs,il⟩:=hi.tup_inv
 have ln:=il.length
 unfold boundsFit at q
 refine ⟨_,rfl,a,ys,rfl,.inr hs,_,_,rfl,rfl,_,rfl,chain_le ⟨_,rfl,ite2 (fun cc=>?_) (fun cc=>?_)⟩⟩
 ·have q:=q H (Same.refl H)
  rw [ln,show (decide ((1:Int)≤ys.length) && decide ((ys.length:Int)≤4))=false from by simpa only [Bool.not_eq_true'] using cc,Bool.false_and] at q
  exact q
 rw [ln,show (decide ((1:Int)≤ys.length) && decide ((ys.length:Int)≤4))=true from by simpa only [Bool.not_eq_true',Bool.not_eq_false] using cc] at q
 refine ⟨_,rfl,a,rfl,⟨_,hs⟩,fun l nl=>?_⟩
 refine comp_tup (xs:=ys) (fun i H'=>Same H H'∧H' l=some (.lst (((ds.take i).map (boundFits nm rw)).map V.bl))) ⟨same_new nl _,by simpa using upd_same⟩ (fun i H' _ h=>h.1.tups.sq hs) (fun i y H' ey h=>?_) (fun H' h=>?_)
 ·obtain ⟨sm,ea⟩:=h
  obtain ⟨d,ed,isd⟩:=il.get' ey
  have hi':i < ds.length:=(List.getElem?_eq_some_iff.mp ed).1
  refine ⟨⟨[some y],rfl,rfl⟩,?_⟩
  refine tTrue_ite ?_
  refine ⟨_,rfl,_,rfl,p,y,nm,rw,al,xs,d,rfl,hp.mono sm,hB d (List.mem_of_getElem? ed),isd.mono sm.tups,_,ea,small1000 (by simp; omega),Same.new sm nl,?_⟩
  rw [upd_same,List.take_add_one,ed]
  simp
 ·obtain ⟨sm,ea⟩:=h
  rw [← ln,List.take_length] at ea
  exact ⟨l,_,rfl,SqL.of ea,q H' sm⟩
end
abbrev s_part_fits:Stmt:=top 22
theorem sc_part_fits:FnScope ["program", "kind", "part"] ["program", "kind", "part"] (defScope s_part_fits):=⟨rfl,rfl,rfl,by decide +kernel,rfl,by decide +kernel,by decide +kernel⟩
inductive PartD:Str→D→Prop where
 | name (i:Int):PartD "name" (.int i)
 | non:PartD "value" .non
 | value (i:Int):PartD "value" (.int i)
 | row (i:Int):PartD "row" (.int i)
 | way (i:Int):PartD "way" (.int i)
 | number (i:Int):PartD "number" (.int i)
 | bounds (ds:List D):(∀ d∈ds,BoundX d)→ds.length≤1000→PartD "bounds" (.tup ds)
def partFits (nm rw:Int) (nl:Nat) (k:Str):D→Bool
 | .int i=>if k=("row":Str) then isThere i rw else if k=("way":Str) then isThere i nl else if k=("number":Str) then isWritten i else isThere i nm
 | .tup ds=>boundsFit nm rw ds
 | _=>true
def spPart (K:PySem.W.Frag):Sp:=fun vs H Q _=>ExQ Q (fun p Q=>ExQ Q (fun k Q=>ExQ Q (fun u Q=>ExQ Q (fun nm Q=>ExQ Q (fun rw Q=>ExQ Q (fun al Q=>ExQ Q (fun xs Q=>ExQ Q (fun d Q=>vs=[p,.str k,u]∧Prg K H p nm rw al xs∧PartD k d∧Is K H d u∧∀ H',Same H H'→Q (.bl (partFits nm rw xs.length k d)) H'))))))))
section
variable {P:Program} {w:World} {K:PySem.W.Frag} {mg:Str→Option Value} {base:Heap} {f:Addr} {fd:FuncData} {n:Nat}
theorem ok_part_fits (F:Fun K "part_fits" "part_fits" s_part_fits f fd) (m_len:mg "len" = none) (c_is_there:Cl P w K mg base "is_there" n ["number", "count"] spThere) (c_is_written:Cl P w K mg base "is_written" n ["number"] spWritten)
  (c_bounds_fit:Cl P w K mg base "bounds_fit" n ["program", "bounds"] (spBounds K)):FnOk P w K mg base CX0 (n + 1) f fd ["program", "kind", "part"] (spPart K):=by
 refine F.ok sc_part_fits (fun vs H Q E h=>?_) (fun cdv A outer s H vs Q E hr h=>?_)
 ·obtain ⟨p,k,u,nm,rw,al,xs,d,rfl,_⟩:=h
  rfl
 obtain ⟨p,k,u,nm,rw,al,xs,d,rfl,hp,hd,hi,q⟩:=h
 have sc:=sc_part_fits
 refine ⟨_,(@pss_cons _ _ _ _ _ (ps_if (pt_cmpR op_eq (pv 1) pe_str (nomark _)) (pss_one (ps_ret (pe_cl c_is_there hr rfl (pa_cons (pv 2) (pa_cons (pe_ix ix_tup (pv 0) pe_int (fun _ _=>rfl)) pa_nil))))) pss_nil)
   (@pss_cons _ _ _ _ _ (ps_if (pt_cmpR op_eq (pv 1) pe_str (nomark _)) (pss_one (ps_ret (pe_or (pe_cmpR op_isN (pv 2) pe_non (nomark _)) (pe_one (pe_cl c_is_there hr rfl (pa_cons (pv 2) (pa_cons (pe_ix ix_tup (pv 0) pe_int (fun _ _=>rfl)) pa_nil))))))) pss_nil)
   (@pss_cons _ _ _ _ _ (ps_if (pt_cmpR op_eq (pv 1) pe_str (nomark _)) (pss_one (ps_ret (pe_cl c_is_there hr rfl (pa_cons (pv 2) (pa_cons (pe_ix ix_tup (pv 0) pe_int (fun _ _=>rfl)) pa_nil))))) pss_nil)
   (@pss_cons _ _ _ _ _ (ps_if (pt_cmpR op_eq (pv 1) pe_str (nomark _)) (pss_one (ps_ret (pe_cl c_is_there hr rfl (pa_cons (pv 2) (pa_cons (pe_callB call_len_seq rfl m_len PySem.boot_len (pa_cons (pe_ix ix_tup (pv 0) pe_int (fun _ _=>rfl)) pa_nil)) pa_nil))))) pss_nil)
   (@pss_cons _ _ _ _ _ (ps_if (pt_cmpR op_eq (pv 1) pe_str (nomark _)) (pss_one (ps_ret (pe_cl c_is_written hr rfl (pa_cons (pv 2) pa_nil)))) pss_nil)
   (pss_one (ps_ret (pe_cl c_bounds_fit hr rfl (pa_cons (pv 0) (pa_cons (pv 2) pa_nil)))))))))),?_⟩
 obtain ⟨ap,rfl,hq,hl⟩:=id hp
 have q0:=q H (Same.refl H)
 cases hd with
 | name i=>
  cases hi.int_inv
  exact ⟨_,rfl,rfl,_,rfl,iteT ⟨_,rfl,_,rfl,ap,_,0,_,rfl,rfl,hq,at0 _ _,_,_,rfl,q0⟩⟩
 | non=>
  cases hi.non_inv
  exact ⟨_,rfl,rfl,_,rfl,iteF ⟨_,rfl,rfl,_,rfl,iteT ⟨_,rfl,rfl,_,rfl,iteT q0⟩⟩⟩
 | value i=>
  cases hi.int_inv
  exact ⟨_,rfl,rfl,_,rfl,iteF ⟨_,rfl,rfl,_,rfl,iteT ⟨_,rfl,rfl,_,rfl,iteF ⟨_,rfl,_,rfl,ap,_,0,_,rfl,rfl,hq,at0 _ _,_,_,rfl,q0⟩⟩⟩⟩
 | row i=>
  cases hi.int_inv
  exact ⟨_,rfl,rfl,_,rfl,iteF ⟨_,rfl,rfl,_,rfl,iteF ⟨_,rfl,rfl,_,rfl,iteT ⟨_,rfl,_,rfl,ap,_,1,_,rfl,rfl,hq,at1 _ _ _,_,_,rfl,q0⟩⟩⟩⟩
 | way i=>
  cases hi.int_inv
  exact ⟨_,rfl,rfl,_,rfl,iteF ⟨_,rfl,rfl,_,rfl,iteF ⟨_,rfl,rfl,_,rfl,iteF ⟨_,rfl,rfl,_,rfl,iteT ⟨_,rfl,_,rfl,ap,_,2,_,rfl,rfl,hq,at2 _ _ _ _,al,xs,rfl,.inl hl,_,_,rfl,q0⟩⟩⟩⟩⟩
 | number i=>
  cases hi.int_inv
  exact ⟨_,rfl,rfl,_,rfl,iteF ⟨_,rfl,rfl,_,rfl,iteF ⟨_,rfl,rfl,_,rfl,iteF ⟨_,rfl,rfl,_,rfl,iteF ⟨_,rfl,rfl,_,rfl,iteT ⟨_,rfl,_,rfl,q0⟩⟩⟩⟩⟩⟩
 | bounds ds hB h1000=>
  exact ⟨_,rfl,rfl,_,rfl,iteF ⟨_,rfl,rfl,_,rfl,iteF ⟨_,rfl,rfl,_,rfl,iteF ⟨_,rfl,rfl,_,rfl,iteF ⟨_,rfl,rfl,_,rfl,iteF ⟨_,rfl,_,rfl,_,_,nm,rw,al,xs,ds,rfl,hp,hB,h1000,hi,q⟩⟩⟩⟩⟩⟩
end
abbrev s_line_fits:Stmt:=top 21
theorem sc_line_fits:FnScope ["program", "line"] ["program", "line"] (defScope s_line_fits):=⟨rfl,rfl,rfl,by decide +kernel,rfl,by decide +kernel,by decide +kernel⟩
def lineFits (nm rw:Int) (nl:Nat) (ks:List Str) (ds:List D):Bool:=((ks.zip ds).map fun q=>partFits nm rw nl q.1 q.2).all id
def PLine (K:PySem.W.Frag) (p l:V) (H:Hp) (b:Bool):Prop:=∃ nm rw al xs x ds ks,Prg K H p nm rw al xs∧Is K H (.tup (.str x::ds)) l∧partsL.lookup x=some ks∧
 (∀ (j:Nat) k d,ks[j]?=some k→ds[j]?=some d→PartD k d)∧ds.length≤900∧b=lineFits nm rw xs.length ks ds
section
variable {P:Program} {w:World} {K:PySem.W.Frag} {mg:Str→Option Value} {base:Heap} {f:Addr} {fd:FuncData} {n:Nat}
theorem ok_line_fits (F:Fun K "line_fits" "line_fits" s_line_fits f fd) (m_all:mg "all" = none) (c_parts:Cl P w K mg base "parts" n ["line"] (spParts K)) (c_part_fits:Cl P w K mg base "part_fits" n ["program", "kind", "part"] (spPart K)) :
  FnOk P w K mg base CX0 (n + 1) f fd ["program", "line"] (spL (PLine K)):=by
 refine F.ok sc_line_fits (fun vs H Q E h=>?_) (fun cdv A outer s H vs Q E hr h=>?_)
 ·obtain ⟨p,l,b,rfl,_⟩:=h
  rfl
 obtain ⟨pr,li,b,rfl,⟨nm,rw,al,xs,x,ds,ks,hp,hi,hk,hD,h900,rfl⟩,q⟩:=h
 have sc:=sc_line_fits
 refine ⟨_,(pss_one (ps_ret (pe_callB (call_all rfl) rfl m_all PyProof.Rows.boot_all (pa_cons (pe_comp ["kind", "part"] rfl (cmp_ok (N:=["program", "line"]) (so:=defScope s_line_fits) rfl rfl (by decide +kernel)) (pi_list (pe_cl c_parts hr rfl (pa_cons (pv 1) pa_nil))) (fun _ _ _ _ _ _=>(pg_tupK (K:=K) (n:=2) rfl rfl (pgs_cons (pg_name (i:=0) (show List.Nodup (α:=Str) ["kind", "part", "program", "line"] by decide +kernel) rfl (Or.inl rfl) (Or.inr rfl)) (pgs_cons (pg_name (i:=1) (show List.Nodup (α:=Str) ["kind", "part", "program", "line"] by decide +kernel) rfl (Or.inl rfl) (Or.inr rfl)) pgs_nil)))) (fun _ _ _ _ _ _=>pifs_nil) (fun _ _ _ _ _ _=>(pe_cl c_part_fits hr rfl (pa_cons (pv 2) (pa_cons (pv 0) (pa_cons (pv 1) pa_nil)))))) pa_nil)))),?_⟩
 refine ⟨_,rfl,li,x,ds,ks,rfl,hi,hk,fun H1 l ps s1 el nl ln hps=>⟨l,rfl,⟨_,SqL.of el⟩,fun p np=>?_⟩⟩
 have lz:(ks.zip ds).length=ps.length:=by rw [List.length_zip]; exact ln.symm
 refine comp_list (xs:=ps) (fun i H'=>Same H1 H'∧H' p=some (.lst ((((ks.zip ds).take i).map fun q=>partFits nm rw xs.length q.1 q.2).map V.bl))) ⟨same_new np _,by simpa using upd_same⟩ (fun i H' _ h=>SqL.of (h.1 _ _ el)) (fun i y H' ey h=>?_) (fun H' h=>?_)
 ·obtain ⟨sm,ea⟩:=h
  have hi':i < ps.length:=(List.getElem?_eq_some_iff.mp ey).1
  have hk':i < ks.length:=by omega
  have hd':i < ds.length:=by omega
  obtain ⟨t,v,et,ht,iv⟩:=hps i _ _ (List.getElem?_eq_getElem hk') (List.getElem?_eq_getElem hd')
  rw [et] at ey
  cases ey
  refine ⟨t,_,rfl,SqT.of (sm _ _ ht),rfl,_,_,rfl,_,_,rfl,rfl,⟨[some (.str ks[i]),some v],rfl,rfl⟩,?_⟩
  refine tTrue_ite ?_
  refine ⟨_,rfl,_,rfl,_,rfl,pr,ks[i],v,nm,rw,al,xs,ds[i],rfl,hp.mono (s1.trans sm),hD i _ _ (List.getElem?_eq_getElem hk') (List.getElem?_eq_getElem hd'),iv.mono sm.tups,fun H2 s2=>⟨_,s2 _ _ ea,small1000 (by simp; omega),Same.new (sm.trans s2) np,?_⟩⟩
  have ez:(ks.zip ds)[i]?=some (ks[i],ds[i]):=List.getElem?_zip_eq_some.mpr ⟨List.getElem?_eq_getElem hk',List.getElem?_eq_getElem hd'⟩
  rw [upd_same,List.take_add_one,ez]
  simp
 ·obtain ⟨sm,ea⟩:=h
  rw [← lz,List.take_length] at ea
  exact ⟨p,_,rfl,SqL.of ea,q H' (s1.trans sm)⟩
end
abbrev s_is_on_ring:Stmt:=top 28
theorem sc_is_on_ring:FnScope ["lines", "start", "seen", "waiting", "at", "after"] ["lines", "start"] (defScope s_is_on_ring):=⟨rfl,rfl,rfl,by decide +kernel,rfl,by decide +kernel,by decide +kernel⟩
def nextD:D→List D
 | .tup (.str x::es)=>(match partsL.lookup x with | some ks=>waysD ks es | none=>[])
 | _=>[]
def AskD (d:D):Prop:=∃ es,d=.tup (.str "ask"::es)
def AskAt (ds:List D) (i:Nat):Prop:=∃ d,ds[i]?=some d∧AskD d
def Edge (ds:List D) (i j:Nat):Prop:=∃ d,ds[i]?=some d∧D.int (j:Int)∈nextD d
inductive Rch (ds:List D) (s:Nat):Nat→Prop
 | one {j:Nat}:Edge ds s j→Rch ds s j
 | more {j k:Nat}:Rch ds s j→AskAt ds j→Edge ds j k→Rch ds s k
def OnRing (ds:List D) (s:Nat):Prop:=AskAt ds s∧Rch ds s s
def LineR (n:Nat) (d:D):Prop:=∃ x es ks,d=.tup (.str x::es)∧partsL.lookup x=some ks∧es.length≤1000∧∀ u∈waysD ks es,∃ j:Nat,u=.int j∧j < n
def PRing (K:PySem.W.Frag) (ls:V) (i:Int) (H:Hp) (b:Bool):Prop:=∃ (al:Addr) (xs:List V) (ds:List D) (s:Nat),ls=.ref al∧SqL K H al xs∧IsL K H ds xs∧ds.length≤100∧(∀ d∈ds,LineR ds.length d)∧i=(s:Int)∧s < ds.length∧(b=true↔OnRing ds s)
def Sn (kvs:List (Key × V)) (j:Nat):Prop:=(valV kvs (Sum.inl (j:Int))).isSome=true
def unseen (n:Nat) (kvs:List (Key × V)):Nat:=((List.range n).filter fun j=>!(valV kvs (Sum.inl ((j:Nat):Int))).isSome).length
theorem filter_lt {α:Type} {p q:α→Bool} {x:α} (hx:q x=true) (hp:p x=false):∀ {l:List α},(∀ y∈l,p y=true→q y=true)→x∈l→(l.filter p).length + 1≤(l.filter q).length
 | [],_,m=>by simp at m
 | y::l,h,m=>by
  have le:∀ {l:List α},(∀ y∈l,p y=true→q y=true)→(l.filter p).length≤(l.filter q).length:=by
   intro l
   induction l with
   | nil=>intro _; simp
   | cons z l ih=>
    intro h
    have ih':=ih fun y hy=>h y (List.mem_cons_of_mem _ hy)
    have hz:=h z List.mem_cons_self
    rw [List.filter_cons,List.filter_cons]
    cases e:p z with
    | true=>rw [if_pos rfl,hz e,if_pos rfl]; simp; exact ih'
    | false=>
     rw [if_neg Bool.false_ne_true]
     split
     ·simp; omega
     ·exact ih'
  have hl:=fun y hy=>h y (List.mem_cons_of_mem _ hy)
  rw [List.filter_cons,List.filter_cons]
  rcases List.mem_cons.mp m with e | m
  ·subst e
   rw [hx,hp,if_neg Bool.false_ne_true,if_pos rfl]
   have:=le hl
   simp; exact this
  ·have ih:=filter_lt hx hp hl m
   have hy:=h y List.mem_cons_self
   cases e:p y with
   | true=>rw [if_pos rfl,hy e,if_pos rfl]; simp; exact ih
   | false=>
    rw [if_neg Bool.false_ne_true]
    split
    ·simp; omega
    ·exact ih
theorem sn_put {kvs:List (Key × V)} {j i:Nat} {v:V}:Sn (putK kvs (Sum.inl (j:Int)) v) i↔i=j∨Sn kvs i:=by
 unfold Sn
 rw [valV_put]
 by_cases e:i=j
 ·subst e; simp
 ·have:¬ (Sum.inl (i:Int):Key)=Sum.inl (j:Int):=fun z=>e (by injection z with z; exact Int.ofNat.inj z)
  rw [if_neg this]; simp [e]
theorem unseen_put {n:Nat} {kvs:List (Key × V)} {j:Nat} {v:V} (hj:j < n) (h:¬ Sn kvs j):unseen n (putK kvs (Sum.inl (j:Int)) v) + 1≤unseen n kvs:=by
 unfold unseen
 have e:∀ i:Nat,(valV kvs (Sum.inl (i:Int))).isSome=true→(valV (putK kvs (Sum.inl (j:Int)) v) (Sum.inl (i:Int))).isSome=true:=fun i hi=>sn_put.mpr (Or.inr hi)
 refine filter_lt (x:=j) ?_ ?_ (fun y _ hy=>?_) (List.mem_range.mpr hj)
 ·have:(valV kvs (Sum.inl (j:Int))).isSome=false:=by simpa [Sn] using h
  rw [this]; rfl
 ·have:(valV (putK kvs (Sum.inl (j:Int)) v) (Sum.inl (j:Int))).isSome=true:=sn_put.mpr (Or.inl rfl)
  rw [this]; rfl
 ·cases q:(valV kvs (Sum.inl (y:Int))).isSome with
  | false=>rfl
  | true=>rw [e y q] at hy; cases hy
theorem unseen_nil (n:Nat):unseen n []=n:=by
 unfold unseen
 rw [List.filter_eq_self.mpr]
 ·simp
 ·intro a _; rfl
structure Srch (ds:List D) (s:Nat) (kvs:List (Key × V)) (ws:List Nat):Prop where
 wait:∀ j∈ws,AskAt ds j∧(j=s∨Rch ds s j)
 seen:∀ j,Sn kvs j→Rch ds s j
 size:kvs.length + unseen ds.length kvs≤ds.length
 len:ws.length≤kvs.length + 1
def Done (ds:List D) (s:Nat) (kvs:List (Key × V)) (x:Nat):Prop:=∀ j,Edge ds x j→j≠s∧(AskAt ds j→Sn kvs j)
theorem none_of_done {ds:List D} {s:Nat} {kvs:List (Key × V)} (h:∀ x,(x=s∨Sn kvs x)→Done ds s kvs x):¬ Rch ds s s:=by
 have all:∀ k,Rch ds s k→k≠s∧(AskAt ds k→Sn kvs k):=by
  intro k r
  induction r with
  | one e=>exact h s (Or.inl rfl) _ e
  | more r a e ih=>exact h _ (Or.inr (ih.2 a)) _ e
 exact fun r=>(all s r).1 rfl
theorem Done.mono {ds:List D} {s:Nat} {kvs kvs':List (Key × V)} {x:Nat} (h:Done ds s kvs x) (m:∀ j,Sn kvs j→Sn kvs' j):Done ds s kvs' x:=fun j e=>⟨(h j e).1,fun a=>m j ((h j e).2 a)⟩
def natV (ws:List Nat):List V:=ws.map fun (j:Nat)=>V.int (j:Int)
def msr (n:Nat) (ad aw:Addr) (H:Hp):Nat:=match H ad,H aw with
 | some (.dK kvs),some (.lst l)=>2 * unseen n kvs + l.length
 | _,_=>0
theorem askD_iff {x:Str} {es:List D}:AskD (.tup (.str x::es))↔x = "ask":=by
 constructor
 ·rintro ⟨es',e⟩
  injection e with e
  injection e with e _
  injection e with e
 ·rintro rfl; exact ⟨es,rfl⟩
theorem Tups.dk {H:Hp} {p:Addr} {kvs kvs':List (Key × V)} (h:H p=some (.dK kvs)):Tups H (upd H p (.dK kvs')):=
 ⟨fun b xs e=>by rw [upd_ne (ne_of e h (fun z=>nomatch z))]; exact e,fun b o u e=>by rw [upd_ne (ne_of e h (fun z=>nomatch z))]; exact e⟩
section
variable {P:Program} {w:World} {K:PySem.W.Frag} {mg:Str→Option Value} {base:Heap} {f:Addr} {fd:FuncData} {n:Nat}
theorem line_at {H:Hp} {al:Addr} {xs:List V} {ds:List D} {i:Nat} (il:IsL K H ds xs) (hi:i < ds.length) (hg:∀ d∈ds,LineR ds.length d) :
  ∃ v x es ks,atI xs (i:Int)=some v∧ds[i]?=some (.tup (.str x::es))∧Is K H (.tup (.str x::es)) v∧partsL.lookup x=some ks∧es.length≤1000∧∀ u∈waysD ks es,∃ j:Nat,u=.int j∧j < ds.length:=by
 have e:=List.getElem?_eq_getElem hi
 obtain ⟨v,ev,iv⟩:=il.get e
 obtain ⟨x,es,ks,ed,hk,hl,hw⟩:=hg _ (List.getElem_mem hi)
 rw [ed] at iv e
 exact ⟨v,x,es,ks,atI_nat ev,e,iv,hk,hl,hw⟩
theorem ok_is_on_ring (F:Fun K "is_on_ring" "is_on_ring" s_is_on_ring f fd) (c_is_ask:Cl P w K mg base "is_ask" n ["line"] (spIsAsk K)) (c_ways:Cl P w K mg base "ways" n ["line"] (spWays K)) :
  FnOk P w K mg base CX0 (n + 1) f fd ["lines", "start"] (spR (PRing K)):=by
 refine F.ok sc_is_on_ring (fun vs H Q E h=>?_) (fun cdv A outer s H vs Q E hr h=>?_)
 ·obtain ⟨ls,i,b,rfl,_⟩:=h
  rfl
 obtain ⟨ls,i,b,rfl,⟨al,xs,ds,st,rfl,hl,il,h100,hg,rfl,hst,hb⟩,q⟩:=h
 have sc:=sc_is_on_ring
 have hu:(A.deeper (envOfC "is_on_ring" (defScope s_is_on_ring) s.heap.objs.size f cdv)).units + 1 < cLine:=by have:=hr.units; omega
 refine ⟨_,(@pss_cons _ _ _ _ _ (ps_if (pt_not (pt_val (pe_cl c_is_ask hr rfl (pa_cons (pe_ix ix_list (pv 0) (pv 1) (fun _ _=>rfl)) pa_nil)))) (pss_one (ps_ret pe_bl)) pss_nil)
   (@pss_cons _ _ _ _ _ (ps_set (i:=2) sc.nd rfl (Or.inl rfl) pe_dnewK)
   (@pss_cons _ _ _ _ _ (ps_set (i:=3) sc.nd rfl (Or.inl rfl) (pe_lst (pa_cons (pv 1) pa_nil)))
   (@pss_cons _ _ _ _ _ (ps_while PassesOwn.never (pt_truth (pv 3) (fun _=>rfl)) (@pss_cons _ _ _ _ _ (ps_set (i:=4) sc.nd rfl (Or.inl rfl) (pe_bm0 PySem.F.plainAttrs_list PySem.F.slot_list_pop PySem.F.type_list_pop mt_pop (pv 3)))
   (pss_one (ps_for PassesOwn.never rfl (pi_tup (pe_cl c_ways hr rfl (pa_cons (pe_ix ix_list (pv 0) (pv 4) (fun _ _=>rfl)) pa_nil))) (pg_name (i:=5) sc.nd rfl (Or.inl rfl)) (@pss_cons _ _ _ _ _ (ps_if (pt_cmpR op_eq (pv 5) (pv 1) (nomark _)) (pss_one (ps_ret pe_bl)) pss_nil)
   (pss_one (ps_if (PW.pt (pw_and (pt_val (pe_cl c_is_ask hr rfl (pa_cons (pe_ix ix_list (pv 0) (pv 5) (fun _ _=>rfl)) pa_nil))) (pw_and1 (pt_cmp (pc_dnotin hu (pv 5) (pv 2)))))) (@pss_cons _ _ _ _ _ (ps_dput hu (pv 2) (pv 5) pe_bl rfl)
   (pss_one (ps_expr (pe_bm PySem.F.plainAttrs_list PySem.F.slot_list_append PySem.F.type_list_append mt_append (pv 3) (pa_cons (pv 5) pa_nil))))) pss_nil)))))))
   (pss_one (ps_ret pe_bl)))))),?_⟩
 obtain ⟨v,x,es,ks,ea,ed,iv,hk,hl1,hw⟩:=line_at (K:=K) (al:=al) il hst hg
 have askst:AskAt ds st↔x = "ask":=by
  constructor
  ·rintro ⟨d,e,a⟩
   rw [ed] at e; cases e
   exact askD_iff.mp a
  ·intro e; exact ⟨_,ed,askD_iff.mpr e⟩
 refine ⟨_,rfl,_,rfl,al,xs,_,_,rfl,rfl,hl,ea,v,x,es,rfl,iv,_,rfl,ite2 (fun cc=>?_) (fun cc=>?_)⟩
 ·have hx:¬ x = "ask":=by simpa using cc
  have:b=false:=by
   cases b with
   | false=>rfl
   | true=>exact absurd (askst.mp (hb.mp rfl).1) hx
  rw [← this]
  exact q H (Same.refl H)
 have hx:x = "ask":=by simpa using cc
 have hask:=askst.mpr hx
 intro ad nad
 refine ⟨_,rfl,Nat.le_of_ble_eq_true rfl,fun aw naw=>?_⟩
 have had:H ad=none:=nad
 have haw:upd H ad (.dK []) aw=none:=naw
 have hne:ad≠aw:=fun e=>by rw [← e,upd_same] at haw; cases haw
 have naw0:H aw=none:=by rw [upd_ne (Ne.symm hne)] at haw; exact haw
 dsimp only [gName,tSeq]
 refine while_by (fun σ H'=>∃ kvs ws y4 y5,σ=[some (.ref al),some (.int (st:Int)),some (.ref ad),some (.ref aw),y4,y5]∧Same H H'∧H' ad=some (.dK kvs)∧H' aw=some (.lst (natV ws))∧Srch ds st kvs ws∧
   ∀ x,(x=st∨Sn kvs x)→¬ x∈ws→Done ds st kvs x) (fun σ H'=>msr ds.length ad aw H') ?_ (fun σ H' h=>?_) ?_
 ·refine ⟨[],[st],none,none,rfl,Same.new (same_new nad _) naw0,?_,upd_same,⟨fun j hj=>?_,fun j hj=>?_,?_,?_⟩,fun x hx nx=>?_⟩
  ·rw [upd_ne hne,upd_same]
  ·rw [List.mem_singleton.mp hj]; exact ⟨hask,Or.inl rfl⟩
  ·simp [Sn,valV_nil] at hj
  ·rw [unseen_nil]; simp
  ·simp
  ·rcases hx with e | e
   ·exact absurd (by rw [e]; exact List.mem_singleton.mpr rfl) nx
   ·simp [Sn,valV_nil] at e
 ·obtain ⟨kvs,ws,y4,y5,rfl,sm,ed',ew,S,hd⟩:=h
  refine ⟨_,rfl,!(natV ws).isEmpty,.inl ⟨_,SqL.of ew,rfl⟩,?_⟩
  refine ite2 (fun cc=>?_) (fun cc=>?_)
  ·have hne0:ws≠[]:=by
    intro e; rw [e] at cc; exact absurd cc (by decide)
   obtain ⟨ws0,a,hws⟩:∃ ws0 a,ws=ws0++[a]:=⟨ws.dropLast,ws.getLast hne0,(by have:=List.dropLast_concat_getLast hne0; exact this.symm)⟩
   subst hws
   have hm:msr ds.length ad aw H'=2 * unseen ds.length kvs + (ws0.length + 1):=by
    unfold msr; rw [ed',ew]; simp [natV]
   have enat:natV (ws0++[a])=natV ws0++[V.int (a:Int)]:=by simp [natV]
   obtain ⟨haa,har⟩:=S.wait a (by simp)
   obtain ⟨da,eda,_⟩:=haa
   have hai:a < ds.length:=(List.getElem?_eq_some_iff.mp eda).1
   refine ⟨_,rfl,.inl ⟨rfl,_,SqL.of ew⟩,aw,_,V.int (a:Int),rfl,rfl,ew,?_,?_⟩
   ·rw [enat]; simp
   have edl:(natV (ws0++[a])).dropLast=natV ws0:=by rw [enat]; simp
   rw [edl]
   have sm1:Same H (upd H' aw (.lst (natV ws0))):=Same.new sm naw0
   have ed1:upd H' aw (.lst (natV ws0)) ad=some (.dK kvs):=by rw [upd_ne hne]; exact ed'
   have ew1:upd H' aw (.lst (natV ws0)) aw=some (.lst (natV ws0)):=upd_same
   generalize upd H' aw (.lst (natV ws0))=H1 at sm1 ed1 ew1
   obtain ⟨va,xa,esa,ksa,eaa,eda2,iva,hka,hla,hwa⟩:=line_at (K:=K) (al:=al) (il.mono sm1.tups) hai hg
   refine ⟨_,rfl,_,rfl,al,xs,_,_,rfl,rfl,sm1.seq hl,eaa,va,xa,esa,ksa,rfl,iva,hka,hla,fun H2 t ts s2 et ilt=>?_⟩
   have nxa:nextD (.tup (.str xa::esa))=waysD ksa esa:=by simp only [nextD,hka]
   have edge:∀ j:Nat,Edge ds a j↔D.int (j:Int)∈waysD ksa esa:=fun j=>by
    constructor
    ·rintro ⟨d,e,m⟩
     rw [eda2] at e; cases e
     rw [← nxa]; exact m
    ·intro m; exact ⟨_,eda2,by rw [nxa]; exact m⟩
   refine ⟨t,rfl,⟨ts,SqT.of et⟩,for_tup (xs:=ts) (fun i σ H3=>∃ kvs' ws' y5,σ=[some (.ref al),some (.int (st:Int)),some (.ref ad),some (.ref aw),some (.int (a:Int)),y5]∧Same H H3∧Tups H2 H3∧H3 ad=some (.dK kvs')∧H3 aw=some (.lst (natV ws'))∧Srch ds st kvs' ws'∧
     (∀ x,(x=st∨Sn kvs' x)→x≠a→¬ x∈ws'→Done ds st kvs' x)∧(∀ k j:Nat,k < i→(waysD ksa esa)[k]?=some (.int (j:Int))→j≠st∧(AskAt ds j→Sn kvs' j))∧2 * unseen ds.length kvs' + ws'.length < 2 * unseen ds.length kvs + (ws0.length + 1))
    ⟨kvs,ws0,_,rfl,sm1.trans s2,Tups.refl _,s2 _ _ ed1,s2 _ _ ew1,⟨fun j hj=>S.wait j (by simp [hj]),S.seen,S.size,?_⟩,fun x hx nx nw=>hd x hx ?_,fun k j hk=>absurd hk (Nat.not_lt_zero k),by omega⟩
    (fun i σ H3 _ h=>?_) (fun i y σ H3 ey h=>?_) (fun σ H3 h=>?_)⟩
   ·have:=S.len; simp at this; omega
   ·simp [nw,nx]
   ·obtain ⟨_,_,_,_,_,tp,_⟩:=h
    exact tp.sq (SqT.of et)
   ·obtain ⟨kvs',ws',y5',rfl,sm3,tp3,ed3,ew3,S3,hd3,hk3,hm3⟩:=h
    obtain ⟨dy,edy,iy⟩:=ilt.get' ey
    obtain ⟨j,ej,hj⟩:=hwa dy (List.mem_of_getElem? edy)
    subst ej
    have ey':=iy.int_inv
    subst ey'
    have Ej:Edge ds a j:=(edge j).mpr (List.mem_of_getElem? edy)
    have Rj:Rch ds st j:=by
     rcases har with e | r
     ·rw [e] at Ej; exact .one Ej
     ·exact .more r ⟨da,eda,‹_›⟩ Ej
    refine ⟨_,rfl,_,rfl,rfl,_,rfl,ite2 (fun c1=>?_) (fun c1=>?_)⟩
    ·have e:j=st:=by
      have:=of_decide_eq_true c1
      injection this with this
      exact Int.ofNat.inj this
     have:b=true:=hb.mpr ⟨hask,by rw [← e]; rw [← e] at Rj; exact Rj⟩
     rw [this] at q
     exact q H3 sm3
    have njs:j≠st:=fun e=>c1 (decide_eq_true (by rw [e]))
    obtain ⟨vj,xj,esj,ksj,eaj,edj,ivj,hkj,hlj,hwj⟩:=line_at (K:=K) (al:=al) (il.mono sm3.tups) hj hg
    have askj:AskAt ds j↔xj = "ask":=by
     constructor
     ·rintro ⟨d,e,a⟩
      rw [edj] at e; cases e
      exact askD_iff.mp a
     ·intro e; exact ⟨_,edj,askD_iff.mpr e⟩
    have nextk:∀ kv2:List (Key × V),(∀ i,Sn kvs' i→Sn kv2 i)→(AskAt ds j→Sn kv2 j)→∀ k j2:Nat,k < i + 1→(waysD ksa esa)[k]?=some (.int (j2:Int))→j2≠st∧(AskAt ds j2→Sn kv2 j2):=by
     intro kv2 mo hj2 k j2 hk ek
     rcases Nat.lt_succ_iff_lt_or_eq.mp hk with z | z
     ·have:=hk3 k j2 z ek
      exact ⟨this.1,fun a=>mo _ (this.2 a)⟩
     ·rw [z,edy] at ek
      have e:j=j2:=by
       injection ek with ek
       injection ek with ek
       exact Int.ofNat.inj ek
      rw [← e]
      exact ⟨njs,hj2⟩
    refine ⟨_,rfl,_,rfl,al,xs,_,_,rfl,rfl,sm3.seq hl,eaj,vj,xj,esj,rfl,ivj,_,rfl,?_⟩
    refine ite2 (fun c2=>?_) (fun c2=>?_)
    ·have hxj:xj = "ask":=of_decide_eq_true c2
     refine ⟨_,rfl,_,rfl,ad,_,rfl,DGet.k (k:=Sum.inl (j:Int)) ed3,_,rfl,?_⟩
     refine ite2 (fun c3=>?_) (fun c3=>?_)
     ·have nS:¬ Sn kvs' j:=by
       intro z
       unfold Sn at z
       rw [z] at c3; cases c3
      have hl4:=S3.size
      have hl5:=S3.len
      refine ⟨_,rfl,_,rfl,ad,_,rfl,DPut.k (k:=Sum.inl (j:Int)) ed3 (small1000 (by omega)),?_⟩
      have ew4:upd H3 ad (.dK (putK kvs' (Sum.inl (j:Int)) (.bl true))) aw=some (.lst (natV ws')):=by rw [upd_ne (Ne.symm hne)]; exact ew3
      refine ⟨_,rfl,.inl ⟨rfl,_,SqL.of ew4⟩,_,rfl,aw,_,_,rfl,rfl,ew4,small1000 (by simp [natV]; omega),?_⟩
      have pn:putK kvs' (Sum.inl (j:Int)) (.bl true)=kvs'++[(Sum.inl (j:Int),.bl true)]:=putK_new _ (by
       unfold Sn at nS
       cases e:valV kvs' (Sum.inl (j:Int)) with
       | none=>rfl
       | some z=>rw [e] at nS; exact absurd rfl nS)
      have us:=unseen_put (n:=ds.length) (v:=.bl true) hj nS
      have lp:(putK kvs' (Sum.inl (j:Int)) (.bl true)).length=kvs'.length + 1:=by rw [pn]; simp
      refine ⟨putK kvs' (Sum.inl (j:Int)) (.bl true),ws'++[j],_,rfl,Same.new (Same.new sm3 nad) naw0,tp3.trans ((Tups.dk ed3).trans (Tups.lst ew4)),?_,?_,⟨fun j2 hj2=>?_,fun j2 hj2=>?_,by omega,by simp; omega⟩,fun x hx nx nw=>?_,nextk _ (fun i hi=>sn_put.mpr (Or.inr hi)) (fun _=>sn_put.mpr (Or.inl rfl)),by simp; omega⟩
      ·rw [upd_ne hne,upd_same]
      ·rw [upd_same]; simp [natV]
      ·rcases List.mem_append.mp hj2 with z | z
       ·exact S3.wait j2 z
       ·rw [List.mem_singleton.mp z]; exact ⟨askj.mpr hxj,Or.inr Rj⟩
      ·rcases sn_put.mp hj2 with z | z
       ·rw [z]; exact Rj
       ·exact S3.seen j2 z
      ·have nw':¬ x∈ws'∧x≠j:=by simpa [not_or] using nw
       refine (hd3 x ?_ nx nw'.1).mono fun i hi=>sn_put.mpr (Or.inr hi)
       rcases hx with z | z
       ·exact Or.inl z
       ·rcases sn_put.mp z with z | z
        ·exact absurd z nw'.2
        ·exact Or.inr z
     ·have yS:Sn kvs' j:=by
       unfold Sn
       cases e:(valV kvs' (Sum.inl (j:Int))).isSome with
       | true=>rfl
       | false=>rw [e] at c3; exact absurd rfl c3
      exact ⟨kvs',ws',_,rfl,sm3,tp3,ed3,ew3,S3,hd3,nextk _ (fun _ h=>h) (fun _=>yS),hm3⟩
    ·have hxj:¬ xj = "ask":=fun z=>c2 (decide_eq_true z)
     exact iteF ⟨kvs',ws',_,rfl,sm3,tp3,ed3,ew3,S3,hd3,nextk _ (fun _ h=>h) (fun z=>absurd (askj.mp z) hxj),hm3⟩
   ·obtain ⟨kvs',ws',y5',rfl,sm3,tp3,ed3,ew3,S3,hd3,hk3,hm3⟩:=h
    refine ⟨⟨kvs',ws',_,_,rfl,sm3,ed3,ew3,S3,fun x hx nx=>?_⟩,?_⟩
    ·by_cases e:x=a
     ·subst e
      intro j ej
      obtain ⟨k,hk⟩:=List.mem_iff_getElem?.mp ((edge j).mp ej)
      have:=ilt.length
      exact hk3 k j (by have:=(List.getElem?_eq_some_iff.mp hk).1; omega) hk
     ·exact hd3 x hx e nx
    ·show msr ds.length ad aw H3 < msr ds.length ad aw H'
     rw [hm]
     unfold msr
     rw [ed3,ew3]
     simpa [natV] using hm3
  ·have hws:ws=[]:=by
    cases ws with
    | nil=>rfl
    | cons z zs=>exact absurd rfl cc
   subst hws
   have:b=false:=by
    cases b with
    | false=>rfl
    | true=>exact absurd (hb.mp rfl).2 (none_of_done fun x hx=>hd x hx (by simp))
   rw [this] at q
   exact q H' sm
 ·rintro σ H' Q1 Q2 h ⟨v,e,k,t,q1⟩
  exact ⟨v,e,k,t,h _ _ q1⟩
end
abbrev s_initB:Stmt:=inClass (top 3) 0
abbrev s_initN:Stmt:=inClass (top 4) 0
abbrev s_check_program:Stmt:=top 19
theorem sc_check_program:FnScope ["program", "at", "line"] ["program"] (defScope s_check_program):=⟨rfl,rfl,rfl,by decide +kernel,rfl,by decide +kernel,by decide +kernel⟩
theorem sc_initB:FnScope ["self", "at"] ["self", "at"] (defScope s_initB):=⟨rfl,rfl,rfl,by decide +kernel,rfl,by decide +kernel,by decide +kernel⟩
theorem sc_initN:FnScope ["self", "line"] ["self", "line"] (defScope s_initN):=⟨rfl,rfl,rfl,by decide +kernel,rfl,by decide +kernel,by decide +kernel⟩
def spChk (C:Addr) (Ans:V→Hp→Option V→Prop):Sp:=fun vs H Q E=>ExQ Q (fun p Q=>ExQ Q (fun res Q=>vs=[p]∧Ans p H res∧(res=none→∀ H',Same H H'→Q .non H')∧
 (∀ v,res=some v→∀ a dx H',Same H H'→H' a=some (XHad a C (some dx))→H' dx=some (.xd [("line",v)])→E (.ref C) (some dx) H')))
def ChkRes (cb:Bool) (lf rg:Nat→Bool) (n:Nat) (res:Option V):Prop:=
 (cb=false∧res=some .non)∨(cb=true∧((∃ i:Nat,i < n∧lf i=false∧(∀ j,j < i→lf j=true)∧res=some (.int i))∨
  ((∀ j,j < n→lf j=true)∧((∃ i:Nat,i < n∧rg i=true∧(∀ j,j < i→rg j=false)∧res=some (.int i))∨((∀ j,j < n→rg j=false)∧res=none)))))
def Chk (K:PySem.W.Frag) (PC:V→Hp→Bool→Prop) (PL:V→V→Hp→Bool→Prop) (PR:V→Int→Hp→Bool→Prop) (p:V) (H:Hp) (res:Option V):Prop:=
 ∃ ap al u v xs cb lf rg,p=.ref ap∧SqT K H ap [u,v,.ref al]∧SqL K H al xs∧xs.length≤1000∧(∀ H',Same H H'→PC p H' cb)∧(cb=true→∀ i x,xs[i]?=some x→∀ H',Same H H'→PL p x H' (lf i))∧
  (cb=true→(∀ i,i < xs.length→lf i=true)→∀ i:Nat,i < xs.length→∀ H',Same H H'→PR (.ref al) i H' (rg i))∧ChkRes cb lf rg xs.length res
section
variable {P:Program} {w:World} {K:PySem.W.Frag} {mg:Str→Option Value} {base:Heap} {f:Addr} {fd:FuncData} {n:Nat} {PC:V→Hp→Bool→Prop} {PL:V→V→Hp→Bool→Prop} {PR:V→Int→Hp→Bool→Prop}
theorem ok_initB {C:Addr} (F:Fun K "__init__" "BadRow.__init__" s_initB f fd) (cl:XCls K C) (na:NoAttr K C "at"):FnOk P w K mg base CX0 (n + 1) f fd ["self", "at"] (spXInit C "at"):=by
 refine F.ok sc_initB (fun vs H Q E h=>?_) (fun cdv A outer s H vs Q E hr h=>?_)
 ·obtain ⟨a,v,rfl,_⟩:=h
  rfl
 obtain ⟨a,v,rfl,ea,q⟩:=h
 exact ⟨_,pss_one (ps_xset cl (pv 0) (pv 1) rfl),_,rfl,_,rfl,a,rfl,ea,na,fun dx h1 h2=>q dx h1 h2⟩
theorem ok_initN {C:Addr} (F:Fun K "__init__" "NoProgram.__init__" s_initN f fd) (cl:XCls K C) (na:NoAttr K C "line"):FnOk P w K mg base CX0 (n + 1) f fd ["self", "line"] (spXInit C "line"):=by
 refine F.ok sc_initN (fun vs H Q E h=>?_) (fun cdv A outer s H vs Q E hr h=>?_)
 ·obtain ⟨a,v,rfl,_⟩:=h
  rfl
 obtain ⟨a,v,rfl,ea,q⟩:=h
 exact ⟨_,pss_one (ps_xset cl (pv 0) (pv 1) rfl),_,rfl,_,rfl,a,rfl,ea,na,fun dx h1 h2=>q dx h1 h2⟩
theorem ok_check_program {a_NoProgram:Addr} (F:Fun K "check_program" "check_program" s_check_program f fd) (m_len:mg "len" = none) (m_range:mg "range" = none) (m_enumerate:mg "enumerate" = none)
  (x_NoProgram:XErr P w K mg base "NoProgram" n ["self", "line"] a_NoProgram "line") (c_counts_fit:Cl P w K mg base "counts_fit" (n + 1) ["program"] (spC PC)) (c_line_fits:Cl P w K mg base "line_fits" (n + 1) ["program", "line"] (spL PL))
  (c_is_on_ring:Cl P w K mg base "is_on_ring" (n + 1) ["lines", "start"] (spR PR)):FnOk P w K mg base (CX1 P w) (n + 2) f fd ["program"] (spChk a_NoProgram (Chk K PC PL PR)):=by
 refine F.okX sc_check_program (fun vs H Q E h=>?_) (fun cdv A outer s H vs Q E hr h=>?_)
 ·obtain ⟨p,res,rfl,_⟩:=h
  rfl
 obtain ⟨p,res,rfl,⟨ap,al,u,v,xs,cb,lf,rg,rfl,hq,hl,h1000,hC,hL,hR,hres⟩,qn,qe⟩:=h
 have sc:=sc_check_program
 have thr:∀ (v:V) (H1:Hp),res=some v→Same H H1→∀ a,H1 a=none→spXInit a_NoProgram "line" [.ref a,v] (upd H1 a (XNew a a_NoProgram none)) (fun u H2=>u=.non∧∃ dx,H2 a=some (XNew a a_NoProgram (some dx))∧E (.ref a_NoProgram) (some dx) (upd H2 a (XHad a a_NoProgram (some dx)))) E0:=
  fun v H1 hv sm=>rz_intro fun a dx H2 _ _ _ sm2 ea ed=>qe v hv a dx H2 (sm.trans sm2) ea ed
 refine ⟨_,(@pss_cons _ _ _ _ _ (ps_if (pt_not (pt_val (pe_cl c_counts_fit hr rfl (pa_cons (pv 0) pa_nil)))) (pss_one (ps_rz x_NoProgram hr rfl (pa_cons pe_non pa_nil))) pss_nil)
   (@pss_cons _ _ _ _ _ (ps_for PassesOwn.leaving rfl (pi_enum rfl m_enumerate (pa_cons (pe_ix ix_tup (pv 0) pe_int (fun _ _=>rfl)) pa_nil)) (pg_tup rfl (pgs_cons (pg_name (i:=1) sc.nd rfl (Or.inl rfl)) (pgs_cons (pg_name (i:=2) sc.nd rfl (Or.inl rfl)) pgs_nil))) (pss_one (ps_if (pt_not (pt_val (pe_cl c_line_fits hr rfl (pa_cons (pv 0) (pa_cons (pv 2) pa_nil))))) (pss_one (ps_rz x_NoProgram hr rfl (pa_cons (pv 1) pa_nil))) pss_nil)))
   (pss_one (ps_for PassesOwn.leaving rfl (pi_range1 rfl m_range (pa_cons (pe_callB call_len_seq rfl m_len PySem.boot_len (pa_cons (pe_ix ix_tup (pv 0) pe_int (fun _ _=>rfl)) pa_nil)) pa_nil)) (pg_name (i:=1) sc.nd rfl (Or.inl rfl)) (pss_one (ps_if (pt_val (pe_cl c_is_on_ring hr rfl (pa_cons (pe_ix ix_tup (pv 0) pe_int (fun _ _=>rfl)) (pa_cons (pv 1) pa_nil)))) (pss_one (ps_rz x_NoProgram hr rfl (pa_cons (pv 1) pa_nil))) pss_nil)))))),?_⟩
 refine ⟨_,rfl,.ref ap,cb,rfl,hC H (Same.refl H),fun H1 s1=>⟨_,rfl,ite2 (fun cc=>?_) (fun cc=>?_)⟩⟩
 ·have hcb:cb=false:=by simpa using cc
  rcases hres with ⟨_,hr'⟩ | ⟨h',_⟩
  ·exact thr .non H1 hr' s1
  ·rw [hcb] at h'; cases h'
 have hcb:cb=true:=by simpa using cc
 have hres2:=(hres.resolve_left fun z=>by rw [hcb] at z; cases z.1).2
 refine ⟨_,rfl,ap,_,2,_,rfl,rfl,s1.tups.sq hq,at2 _ _ _ _,al,rfl,⟨_,s1.seq hl⟩,for_enum (xs:=xs) (fun i σ H'=>Same H H'∧(∀ j,j < i→lf j=true)∧∃ y1 y2,σ=[some (.ref ap),y1,y2])
  ⟨s1,fun j hj=>absurd hj (Nat.not_lt_zero j),_,_,rfl⟩ (fun i σ H' _ h=>h.1.seq hl) (fun i x σ H' t ex h nt=>?_) (fun σ H' h=>?_)⟩
 ·obtain ⟨sm,hb,y1,y2,rfl⟩:=h
  have hi:i < xs.length:=(List.getElem?_eq_some_iff.mp ex).1
  have sm2:Same H (upd H' t (.tup [.int (i:Int),x])):=sm.trans fun b o e=>by rw [upd_ne (ne_of_none e nt)]; exact e
  refine ⟨t,_,rfl,SqT.of upd_same,rfl,_,_,rfl,_,_,rfl,rfl,?_⟩
  refine ⟨_,rfl,_,rfl,.ref ap,x,lf i,rfl,hL hcb i x ex _ sm2,fun H2 s2=>⟨_,rfl,ite2 (fun cc=>?_) (fun cc=>?_)⟩⟩
  ·have hlf:lf i=false:=by simpa using cc
   have hr':res=some (.int i):=by
    rcases hres2 with ⟨i',hi',h1,h2,h3⟩ | ⟨h1,_⟩
    ·rcases Nat.lt_trichotomy i i' with z | z | z
     ·rw [h2 i z] at hlf; cases hlf
     ·rw [z]; exact h3
     ·rw [hb i' z] at h1; cases h1
    ·rw [h1 i hi] at hlf; cases hlf
   exact ⟨_,rfl,thr _ H2 hr' (sm2.trans s2)⟩
  ·have hlf:lf i=true:=by simpa using cc
   refine ⟨sm2.trans s2,fun j hj=>?_,_,_,rfl⟩
   rcases Nat.lt_succ_iff_lt_or_eq.mp hj with z | z
   ·exact hb j z
   ·rw [z]; exact hlf
 obtain ⟨sm,hb,y1,y2,rfl⟩:=h
 have hres3:=(hres2.resolve_left fun hp0=>by obtain ⟨i,hi,h1,_⟩:=hp0; rw [hb i hi] at h1; cases h1).2
 refine ⟨_,rfl,ap,_,2,_,rfl,rfl,sm.tups.sq hq,at2 _ _ _ _,al,xs,rfl,.inl (sm.seq hl),_,rfl,by omega,by omega,?_⟩
 rw [Int.toNat_natCast]
 refine for_range (n:=xs.length) (fun i σ H'=>Same H H'∧(∀ j,j < i→rg j=false)∧∃ y1 y2,σ=[some (.ref ap),y1,y2]) ⟨sm,fun j hj=>absurd hj (Nat.not_lt_zero j),_,_,rfl⟩ (fun i σ H' hi h=>?_) (fun σ H' h=>?_)
 ·obtain ⟨sm',hb',y1,y2,rfl⟩:=h
  refine ⟨_,rfl,ap,_,2,_,rfl,rfl,sm'.tups.sq hq,at2 _ _ _ _,_,rfl,.ref al,_,rg i,rfl,?_,fun H2 s2=>⟨_,rfl,ite2 (fun cc=>?_) (fun cc=>?_)⟩⟩
  ·rw [Int.zero_add]; exact hR hcb hb i hi _ sm'
  ·have hrg:rg i=true:=cc
   have hr':res=some (.int i):=by
    rcases hres3 with ⟨i',hi',h1,h2,h3⟩ | ⟨h1,_⟩
    ·rcases Nat.lt_trichotomy i i' with z | z | z
     ·rw [h2 i z] at hrg; cases hrg
     ·rw [z]; exact h3
     ·rw [hb' i' z] at h1; cases h1
    ·rw [h1 i hi] at hrg; cases hrg
   exact ⟨_,rfl,thr _ H2 (by rw [Int.zero_add]; exact hr') (sm'.trans s2)⟩
  ·have hrg:rg i=false:=by simpa using cc
   refine ⟨sm'.trans s2,fun j hj=>?_,_,_,rfl⟩
   rcases Nat.lt_succ_iff_lt_or_eq.mp hj with z | z
   ·exact hb' j z
   ·rw [z]; exact hrg
 ·obtain ⟨sm',hb',y1,y2,rfl⟩:=h
  have hr':=(hres3.resolve_left fun hp0=>by obtain ⟨i,hi,h1,_⟩:=hp0; rw [hb' i hi] at h1; cases h1).2
  exact qn hr' H' sm'
end
def lineFitsD (nm rw:Int) (n:Nat):D→Bool
 | .tup (.str x::es)=>(match partsL.lookup x with | some ks=>lineFits nm rw n ks es | none=>false)
 | _=>false
theorem lineFitsD_of {nm rw:Int} {n:Nat} {x:Str} {es:List D} {ks:List Str} (h:partsL.lookup x=some ks):lineFitsD nm rw n (.tup (.str x::es))=lineFits nm rw n ks es:=by
 show (match partsL.lookup x with | some ks=>lineFits nm rw n ks es | none=>false)=_
 rw [h]
def LineX (d:D):Prop:=∃ x es ks,d=.tup (.str x::es)∧partsL.lookup x=some ks∧(∀ (j:Nat) k e,ks[j]?=some k→es[j]?=some e→PartD k e)∧es.length≤900
theorem LineX.way {nm rw:Int} {n:Nat} {d:D} (h:LineX d) (hf:lineFitsD nm rw n d=true):LineR n d:=by
 obtain ⟨x,es,ks,rfl,hk,hp,h9⟩:=h
 rw [lineFitsD_of hk] at hf
 refine ⟨x,es,ks,rfl,hk,by omega,fun u hu=>?_⟩
 unfold waysD at hu
 obtain ⟨⟨k,d⟩,hq,rfl⟩:=List.mem_map.mp hu
 obtain ⟨hq,hw⟩:=List.mem_filter.mp hq
 have hw:k = "way":=by simpa using hw
 subst hw
 unfold lineFits at hf
 rw [List.all_eq_true] at hf
 have hf:=hf _ (List.mem_map.mpr ⟨_,hq,rfl⟩)
 obtain ⟨j,ej⟩:=List.mem_iff_getElem?.mp hq
 obtain ⟨e1,e2⟩:=List.getElem?_zip_eq_some.mp ej
 have hd:=hp j _ _ e1 e2
 cases hd with
 | way i=>
  have hf:isThere i n=true:=hf
  unfold isThere at hf
  rw [Bool.and_eq_true,decide_eq_true_eq,decide_eq_true_eq] at hf
  exact ⟨i.toNat,by show D.int i=_; rw [Int.toNat_of_nonneg hf.1],by omega⟩
def Verd (nm rw:Int) (ds:List D) (res:Option V):Prop:=∃ rg:Nat→Bool,(∀ i,rg i=true↔OnRing ds i)∧ChkRes (countsB nm rw ds.length) (fun i=>lineFitsD nm rw ds.length (ds.getD i .non)) rg ds.length res
theorem chk_of {K:PySem.W.Frag} {H:Hp} {t l:Addr} {nm rw:Int} {ds:List D} {xs:List V} {res:Option V} (h1:SqT K H t [.int nm,.int rw,.ref l]) (h2:H l=some (.lst xs)) (il:IsL K H ds xs) (hx:∀ d∈ds,LineX d) (h90:ds.length≤90) (v:Verd nm rw ds res) :
  Chk K (PCounts K) (PLine K) (PRing K) (.ref t) H res:=by
 obtain ⟨rg,hrg,hres⟩:=v
 have ln:=il.length
 have prg:∀ {H'},Same H H'→Prg K H' (.ref t) nm rw l xs:=fun {H'} sm=>⟨t,rfl,sm.tups.sq h1,SqL.of (sm _ _ h2)⟩
 refine ⟨t,l,_,_,xs,countsB nm rw xs.length,fun i=>lineFitsD nm rw ds.length (ds.getD i .non),rg,rfl,h1,SqL.of h2,by omega,fun H' sm=>⟨nm,rw,l,xs,prg sm,rfl⟩,fun _ i x ex H' sm=>?_,fun _ hall i hi H' sm=>?_,?_⟩
 ·obtain ⟨d,ed,iv⟩:=il.get' ex
  obtain ⟨wd,es,ks,rfl,hk,hp,h9⟩:=hx d (List.mem_of_getElem? ed)
  refine ⟨nm,rw,l,xs,wd,es,ks,prg sm,iv.mono sm.tups,hk,hp,h9,?_⟩
  show lineFitsD nm rw ds.length (ds.getD i .non)=_
  rw [List.getD_eq_getElem?_getD,ed,← ln]
  exact lineFitsD_of hk
 ·refine ⟨l,xs,ds,i,rfl,SqL.of (sm _ _ h2),il.mono sm.tups,by omega,fun d hd=>?_,rfl,by omega,hrg i⟩
  obtain ⟨j,ej⟩:=List.mem_iff_getElem?.mp hd
  have hj:j < ds.length:=(List.getElem?_eq_some_iff.mp ej).1
  have hf:lineFitsD nm rw ds.length (ds.getD j .non)=true:=hall j (by omega)
  rw [List.getD_eq_getElem?_getD,ej] at hf
  exact (hx d hd).way hf
 ·rw [← ln]; exact hres
abbrev s_read:Stmt:=top 34
theorem sc_read:FnScope ["text", "rows", "counts", "lines", "program"] ["text"] (defScope s_read):=⟨rfl,rfl,rfl,by decide +kernel,rfl,by decide +kernel,by decide +kernel⟩
def spRead (K:PySem.W.Frag) (CB CN:Addr):Sp:=fun vs H Q E=>ExQ Q (fun (z:Str) Q=>ExQ Q (fun (r0:Str) Q=>ExQ Q (fun (rs:List Str) Q=>vs=[.str z]∧Txt.split z (Str.ofString "\n")=r0::rs∧z.length≤10000∧Wd r0∧(∀ r∈rs,Wd r)∧rs.length≤90∧
 (cntsO r0=none→Fails CB "at" (.int 0) H E)∧
 (∀ nm rw,cntsO r0=some (nm,rw)→(∀ (i:Nat) r,rs[i]?=some r→linO r=none→(∀ r'∈rs.take i,linO r'≠none)→Fails CB "at" (.int ((i:Int) + 1)) H E)∧
  (∀ ds,seqO linO rs=some ds→(∀ d∈ds,LineX d)∧ExQ Q (fun res Q=>Verd nm rw ds res∧
   (res=none→∀ (H':Hp) (t l:Addr) (xs:List V),Same H H'→H' t=some (.tup [.int nm,.int rw,.ref l])→H' l=some (.lst xs)→IsL K H' ds xs→Q (.ref t) H')∧(∀ v,res=some v→Fails CN "line" v H E)))))))
section
variable {P:Program} {w:World} {K:PySem.W.Frag} {mg:Str→Option Value} {base:Heap} {f:Addr} {fd:FuncData} {n:Nat} {a_BadRow a_NoProgram:Addr}
theorem ok_read (F:Fun K "read" "read" s_read f fd) (m_enumerate:mg "enumerate" = none) (c_counts_in:ClX P w K mg base "counts_in" n ["row"] (spCountsIn a_BadRow)) (c_line_in:ClX P w K mg base "line_in" n ["row", "at"] (spLineIn K a_BadRow))
  (c_check_program:ClX P w K mg base "check_program" n ["program"] (spChk a_NoProgram (Chk K (PCounts K) (PLine K) (PRing K)))):FnOk P w K mg base (CX1 P w) (n + 1) f fd ["text"] (spRead K a_BadRow a_NoProgram):=by
 refine F.okX sc_read (fun vs H Q E h=>?_) (fun cdv A outer s H vs Q E hr h=>?_)
 ·obtain ⟨z,r0,rs,rfl,_⟩:=h
  rfl
 obtain ⟨z,r0,rs,rfl,ts,tl,w0,wr,h90,qn,qs⟩:=h
 have sc:=sc_read
 have sz:=split_size z (Str.ofString "\n")
 refine ⟨_,(@pss_cons _ _ _ _ _ (ps_set (i:=1) sc.nd rfl (Or.inl rfl) (pe_bm PySem.F.plainAttrs_str PySem.F.slot_str_split PySem.F.type_str_split mt_split (pv 0) (pa_cons pe_str pa_nil)))
   (@pss_cons _ _ _ _ _ (ps_set (i:=2) sc.nd rfl (Or.inl rfl) (pe_clf c_counts_in hr rfl (pa_cons (pe_ix ix_list (pv 1) pe_int (fun _ _=>rfl)) pa_nil)))
   (@pss_cons _ _ _ _ _ (ps_setcompX (i:=3) ["at", "row"] xpass_fn rfl rfl rfl rfl (cmp_ok (N:=["text", "rows", "counts", "lines", "program"]) (so:=defScope s_read) rfl rfl (by decide +kernel)) sc.nd rfl (Or.inl rfl) (pi_enum1 rfl m_enumerate (pa_cons (pe_slice sl_list (pv 1) (po_some pe_int) po_none) pa_nil)) (fun _ _ _ _ _ _=>(pg_tupK (K:=K) (n:=2) rfl rfl (pgs_cons (pg_name (i:=0) (show List.Nodup (α:=Str) ["at", "row", "text", "rows", "counts", "lines", "program"] by decide +kernel) rfl (Or.inl rfl) (Or.inr rfl)) (pgs_cons (pg_name (i:=1) (show List.Nodup (α:=Str) ["at", "row", "text", "rows", "counts", "lines", "program"] by decide +kernel) rfl (Or.inl rfl) (Or.inr rfl)) pgs_nil)))) (fun _ _ _ _ _ _=>pifs_nil) (fun _ _ _ _ _ _=>(pe_clc c_line_in hr rfl (pa_cons (pv 1) (pa_cons (pv 0) pa_nil)))) rfl)
   (@pss_cons _ _ _ _ _ (ps_set (i:=4) sc.nd rfl (Or.inl rfl) (pe_tup (pa_cons (pe_ix ix_tup (pv 2) pe_int (fun _ _=>rfl)) (pa_cons (pe_ix ix_tup (pv 2) pe_int (fun _ _=>rfl)) (pa_cons (pv 3) pa_nil)))))
   (@pss_cons _ _ _ _ _ (ps_expr (pe_clf c_check_program hr rfl (pa_cons (pv 4) pa_nil)))
   (pss_one (ps_ret (pv 4)))))))),?_⟩
 refine ⟨_,rfl,rfl,_,_,rfl,rfl,rfl,ten4 (by omega),ten4 (by omega),fun p np=>?_⟩
 rw [ts]
 have s1:Same H _:=same_new np (.lst ((r0::rs).map V.str))
 have hq:SqL K (upd H p (.lst ((r0::rs).map V.str))) p ((r0::rs).map V.str):=SqL.of upd_same
 generalize upd H p (.lst ((r0::rs).map V.str))=H1 at s1 hq
 refine ⟨_,rfl,p,_,0,_,rfl,rfl,hq,at0 _ _,r0,rfl,w0,fun nm rw hc H2 tc s2 ec=>?_,fun hn=>(qn hn).mono s1⟩
 obtain ⟨qb,qg⟩:=qs nm rw hc
 have s12:=s1.trans s2
 refine ⟨_,rfl,_,rfl,p,_,rfl,s2.seq hq,fun p2 np2=>?_⟩
 rw [show cutV ((r0::rs).map V.str) (some 1) none=rs.map V.str from cut1 _ _]
 have s3:Same H2 _:=same_new np2 (.lst (rs.map V.str))
 have e2:upd H2 p2 (.lst (rs.map V.str)) p2=_:=upd_same
 refine ⟨p2,rfl,⟨_,SqL.of e2⟩,fun pc npc=>?_⟩
 generalize upd H2 p2 (.lst (rs.map V.str))=H3 at s3 e2 npc
 have s13:=s12.trans s3
 refine comp_enum1 (xs:=rs.map V.str) (fun i H'=>Same H3 H'∧∃ acc ds,H' pc=some (.lst acc)∧IsL K H' ds acc∧ds.length=i∧seqO linO (rs.take i)=some ds) ⟨same_new npc _,[],[],upd_same,isl_nil,rfl,rfl⟩ (fun i H' _ h=>SqL.of (h.1 _ _ e2)) (fun i x H' t ex h nt=>?_) (fun H' h=>?_)
 ·obtain ⟨sm,acc,ds,ea,il,ld,hs⟩:=h
  rw [List.getElem?_map] at ex
  obtain ⟨r,er,exx⟩:=Option.map_eq_some_iff.mp ex
  subst exx
  have hi:i < rs.length:=(List.getElem?_eq_some_iff.mp er).1
  have sn:Same H' _:=same_new nt (.tup [.int ((i:Int) + 1),.str r])
  refine ⟨t,_,rfl,SqT.of upd_same,rfl,_,_,rfl,_,_,rfl,rfl,⟨[some (.int ((i:Int) + 1)),some (.str r)],rfl,rfl⟩,tTrue_ite ?_⟩
  refine ⟨_,rfl,_,rfl,r,_,rfl,wr r (List.mem_of_getElem? er),fun d hd v H5 s5 iv=>?_,fun hn=>(qb i r er hn fun r' hr' z=>?_).mono (s13.trans (sm.trans sn))⟩
  ·have s45:=sn.trans s5
   have la:=il.length
   refine ⟨acc,s45 _ _ ea,small1000 (by omega),Same.new (sm.trans s45) npc,_,ds++[d],upd_same,?_,by rw [List.length_append,ld]; rfl,?_⟩
   ·exact IsL.append ((il.mono s45.tups).mono (Tups.lst (s45 _ _ ea))) (isl_cons (iv.mono (Tups.lst (s45 _ _ ea))) isl_nil)
   ·rw [List.take_add_one,er]; exact seq_snoc hd hs
  ·rw [seq_none hr' z] at hs; cases hs
 ·obtain ⟨sm,acc,ds,ea,il,ld,hs⟩:=h
  rw [List.length_map] at ld hs
  rw [List.take_length] at hs
  obtain ⟨hx,res,hv,rn,rv⟩:=qg ds hs
  have ec2:=sm _ _ (s3 _ _ ec)
  refine ⟨_,rfl,tc,_,0,_,rfl,rfl,SqT.of ec2,at0 _ _,?_⟩
  refine ⟨_,rfl,tc,_,1,_,rfl,rfl,SqT.of ec2,at1 _ _ _,_,rfl,Nat.le_of_ble_eq_true rfl,fun t nt=>?_⟩
  have s4:Same H' _:=same_new nt (.tup [.int nm,.int rw,.ref pc])
  have s14:=s13.trans (sm.trans s4)
  refine ⟨_,rfl,.ref t,res,rfl,chk_of (SqT.of upd_same) (s4 _ _ ea) (il.mono s4.tups) hx (by omega) hv,fun hres H6 s6=>?_,fun v hv2 a dx H6 s6 ea ed=>rv v hv2 H6 a dx (s14.trans s6) ea ed⟩
  exact ⟨_,rfl,rn hres H6 t pc acc (s14.trans s6) (s6 _ _ upd_same) (s6 _ _ (s4 _ _ ea)) (il.mono (s4.trans s6).tups)⟩
end
theorem starts_app (y z:Str):(decide (0 + y.length≤(y++z).length) && Builtin.Str.subAt (y++z) y 0)=true:=by
 rw [StrLaws.subAt_eq,Bool.and_eq_true]
 have e:(y++z).cps.toList=cp y++cp z:=cp_app y z
 refine ⟨decide_eq_true ?_,?_⟩
 ·rw [← cp_len (y++z),cp_app,List.length_append,cp_len]; omega
 ·rw [e,List.drop_zero,← cp_len y,List.take_left]; exact beq_self_eq_true _
theorem starts_no {y z:Str} (h:∀ r,cp z≠cp y++r):(decide (0 + y.length≤z.length) && Builtin.Str.subAt z y 0)=false:=by
 rw [StrLaws.subAt_eq,Bool.and_eq_false_iff]
 refine .inr ?_
 rw [beq_eq_false_iff_ne]
 intro e
 refine h ((cp z).drop y.length) ?_
 have t:=List.take_append_drop y.length (cp z)
 rw [List.drop_zero] at e
 have e:(cp z).take y.length=cp y:=e
 rw [e] at t
 exact t.symm
theorem slice_app (y z:Str):Txt.slice (y++z) (some (y.length:Int)) none=z:=by
 refine str_ext ?_
 have h:y.length≤(y++z).length:=by rw [← cp_len (y++z),cp_app,List.length_append,cp_len]; omega
 have:=slice_from (y++z) y.length h
 show (Txt.slice (y++z) (some (y.length:Int)) none).cps.toList=_
 rw [this]
 show (cp (y++z)).drop _=_
 rw [cp_app,← cp_len y,List.drop_left]
theorem num_negT (m:Nat):numT (-((m + 1:Nat):Int))=Str.ofString "-"++numT ((m + 1:Nat):Int):=str_ext (by rw [num_neg,cp_app]; rfl)
theorem num_ne_nil (m:Nat):∃ c r,cp (numT (m:Int))=c::r∧48≤c∧c≤57:=by
 cases h:cp (numT (m:Int)) with
 | nil=>rw [num_cp,List.map_eq_nil_iff] at h; exact absurd h Nat.toDigits_ne_nil
 | cons c r=>exact ⟨c,r,rfl,num_dig c (by rw [h]; exact List.mem_cons_self)⟩
theorem num_no_neg (m:Nat):∀ r,cp (numT (m:Int))≠cp (Str.ofString "-")++r:=by
 intro r e
 obtain ⟨c,q,e2,h1,h2⟩:=num_ne_nil m
 rw [e2] at e
 have e:c::q=45::r:=e
 injection e with e3 _
 omega
theorem num_small {i:Int} (h0:0≤i) (h1:i < 10000):∃ m:Nat,i=(m:Int)∧m < 10000:=⟨i.toNat,by omega,by omega⟩
theorem num_ne_m0 (i:Int):numT i≠Str.ofString "-0":=by
 intro e
 have e:=congrArg cp e
 rcases Int.lt_or_le i 0 with h | h
 ·obtain ⟨m,rfl⟩:∃ m:Nat,i=-((m + 1:Nat):Int):=⟨(-i - 1).toNat,by omega⟩
  rw [num_neg] at e
  have e:45::cp (numT ((m + 1:Nat):Int))=[45,48]:=e
  injection e with _ e
  obtain ⟨c,r,e2,hc⟩:=num_first (m:=m + 1) (by omega)
  rw [e2] at e
  injection e with e3 _
  exact hc e3
 ·obtain ⟨m,rfl⟩:∃ m:Nat,i=(m:Int):=⟨i.toNat,by omega⟩
  exact num_no_neg m [48] e
theorem len_app (a b:Str):(a++b).length=a.length + b.length:=by rw [← cp_len,cp_app,List.length_append,cp_len,cp_len]
inductive FitD (nm rw many:Int):Str→D→Prop
 | name (i:Int):0≤i→i < nm→FitD nm rw many "name" (.int i)
 | none_:FitD nm rw many "value" .non
 | value (i:Int):0≤i→i < nm→FitD nm rw many "value" (.int i)
 | row (i:Int):0≤i→i < rw→FitD nm rw many "row" (.int i)
 | number (i:Int):-1000≤i→i≤1000→FitD nm rw many "number" (.int i)
 | way (i:Int):0≤i→i < many→FitD nm rw many "way" (.int i)
def wordT (k:Str):D→Str
 | .int i=>(marksL.lookup k).getD ""++numT i
 | _=>"-"
def nodeW:D→Str
 | .tup [.str _,.int k,_]=>Str.ofString "n"++numT k
 | .tup [.str _,.int k]=>Str.ofString "r"++numT k
 | _=>"-"
def boundW:D→List Str
 | .tup [a,b,.int c]=>[nodeW a,nodeW b,numT c]
 | _=>[]
theorem nil_app (z:Str):Str.ofString ""++z=z:=str_ext (by rw [cp_app]; rfl)
theorem app_ne {c:Nat} {y z:Str} (h:cp y=[c]):∀ {e:Nat},e≠c→∀ {u:Str},cp u=[e]→∀ r,cp (y++z)≠cp u++r:=by
 intro e he u hu r q
 rw [cp_app,h,hu] at q
 injection q with q1 _
 exact he q1.symm
theorem app_ne1 {c e:Nat} {y z u:Str} (h:cp y=[c]) (he:e≠c) (hu:cp u=[e]):y++z≠u:=fun q=>app_ne (z:=z) h he hu [] (by rw [q,List.append_nil])
inductive FitL (nm rw many:Int):List Str→List D→Prop
 | nil:FitL nm rw many [] []
 | cons {k:Str} {d:D} {ks:List Str} {ds:List D}:FitD nm rw many k d→FitL nm rw many ks ds→FitL nm rw many (k::ks) (d::ds)
theorem FitL.length {nm rw many:Int}:∀ {ks ds},FitL nm rw many ks ds→ks.length=ds.length
 | _,_,.nil=>rfl
 | _,_,.cons _ h=>congrArg (· + 1) h.length
theorem FitL.get {nm rw many:Int}:∀ {ks ds},FitL nm rw many ks ds→∀ {j:Nat} {k d},ks[j]?=some k→ds[j]?=some d→FitD nm rw many k d
 | _,_,.nil,j,k,d,h,_=>by simp at h
 | _,_,.cons a h,0,k,d,h1,h2=>by cases h1; cases h2; exact a
 | _,_,.cons a h,j + 1,k,d,h1,h2=>h.get (j:=j) h1 h2
theorem MaybeD.fit {nm rw many:Int} {d:D} (h:MaybeD nm d):FitD nm rw many "value" d:=by
 rcases h with rfl | ⟨i,h1,h2,rfl⟩
 ·exact .none_
 ·exact .value i h1 h2
inductive LineG (nm rw at_ many:Int):Str→List D→Prop
 | plain {x:Str} {ks:List Str} {ds:List D}:x≠"ask"→partsL.lookup x=some ks→FitL nm rw many ks ds→LineG nm rw at_ many x ds
 | ask {bs:List D} {k m:Int}:1≤bs.length→bs.length≤4→(∀ b∈bs,BoundD nm rw b)→at_ < k→k < many→at_ < m→m < many→LineG nm rw at_ many "ask" [.tup bs,.int k,.int m]
theorem LineD.gen {nm rw at_ many:Int} {d:D} (h:LineD nm rw at_ many d):∃ x ds,d=.tup (.str x::ds)∧LineG nm rw at_ many x ds:=by
 cases h with
 | set x c k y h1 h2 hy h3 h4 h5 h6=>exact ⟨_,_,rfl,.plain (by decide) rfl (.cons (.name x h1 h2) (.cons hy.fit (.cons (.number c h3 h4) (.cons (.way k h5 h6) .nil))))⟩
 | sum x z k w h1 h2 h3 h4 hy h5 h6=>exact ⟨_,_,rfl,.plain (by decide) rfl (.cons (.name x h1 h2) (.cons (.name z h3 h4) (.cons hy.fit (.cons (.way k h5 h6) .nil))))⟩
 | len x r k h1 h2 h3 h4 h5 h6=>exact ⟨_,_,rfl,.plain (by decide) rfl (.cons (.name x h1 h2) (.cons (.row r h3 h4) (.cons (.way k h5 h6) .nil)))⟩
 | take x k h1 h2 h5 h6=>exact ⟨_,_,rfl,.plain (by decide) rfl (.cons (.name x h1 h2) (.cons (.way k h5 h6) .nil))⟩
 | get x r c k y h1 h2 h3 h4 hy h7 h8 h5 h6=>exact ⟨_,_,rfl,.plain (by decide) rfl (.cons (.name x h1 h2) (.cons (.row r h3 h4) (.cons hy.fit (.cons (.number c h7 h8) (.cons (.way k h5 h6) .nil)))))⟩
 | put r c z k y h3 h4 hy h7 h8 h1 h2 h5 h6=>exact ⟨_,_,rfl,.plain (by decide) rfl (.cons (.row r h3 h4) (.cons hy.fit (.cons (.number c h7 h8) (.cons (.name z h1 h2) (.cons (.way k h5 h6) .nil)))))⟩
 | tell x k h1 h2 h5 h6=>exact ⟨_,_,rfl,.plain (by decide) rfl (.cons (.name x h1 h2) (.cons (.way k h5 h6) .nil))⟩
 | test y w c k m hy hw h7 h8 h5 h6 h9 h10=>exact ⟨_,_,rfl,.plain (by decide) rfl (.cons hy.fit (.cons hw.fit (.cons (.number c h7 h8) (.cons (.way k h5 h6) (.cons (.way m h9 h10) .nil)))))⟩
 | ask bs k m h1 h2 hb h3 h4 h5 h6=>exact ⟨_,_,rfl,.ask h1 h2 hb h3 h4 h5 h6⟩
 | end_=>exact ⟨_,_,rfl,.plain (by decide) rfl .nil⟩
def lineW (x:Str) (ds:List D):List Str:=
 if x=("ask":Str) then match ds with
  | [.tup bs,.int k,.int m]=>Str.ofString "ask"::numT k::numT m::(bs.map boundW).flatten
  | _=>[]
 else x::List.zipWith wordT ((partsL.lookup x).getD []) ds
theorem lineW_ask (bs:List D) (k m:Int):lineW "ask" [.tup bs,.int k,.int m]=Str.ofString "ask"::numT k::numT m::(bs.map boundW).flatten:=if_pos rfl
theorem lineW_plain {x:Str} {ks:List Str} {ds:List D} (hx:x≠"ask") (hk:partsL.lookup x=some ks):lineW x ds=x::List.zipWith wordT ks ds:=by
 unfold lineW
 rw [if_neg hx,hk]; rfl
def lineT:D→Str
 | .tup (.str x::ds)=>Txt.join " " (lineW x ds)
 | _=>""
def countsT (nm rw:Int):Str:=Txt.join " " ["names",numT nm, "rows",numT rw]
def Word (t:Str):Prop:=t.length≤6∧∀ c∈cp t,c≠32∧c≠10∧c < 128
theorem word_app {a b:Str} (ha:a.length≤1) (h1:∀ c∈cp a,c≠32∧c≠10∧c < 128) (hb:b.length≤5) (h2:∀ c∈cp b,c≠32∧c≠10∧c < 128):Word (a++b):=by
 refine ⟨by rw [len_app]; omega,fun c hc=>?_⟩
 rw [cp_app] at hc
 rcases List.mem_append.mp hc with h | h
 ·exact h1 c h
 ·exact h2 c h
theorem num_word {i:Int} (h1:-1000≤i) (h2:i≤1000):(numT i).length≤5∧∀ c∈cp (numT i),c≠32∧c≠10∧c < 128:=by
 rcases Int.lt_or_le i 0 with h | h
 ·obtain ⟨m,rfl⟩:∃ m:Nat,i=-((m + 1:Nat):Int):=⟨(-i - 1).toNat,by omega⟩
  have l:=(num_len (m:=m + 1) (by omega)).2
  rw [num_negT]
  have e1:(Str.ofString "-").length=1:=rfl
  refine ⟨by rw [len_app]; omega,fun c hc=>?_⟩
  rw [cp_app] at hc
  rcases List.mem_append.mp hc with h | h
  ·have h:c∈[45]:=h
   simp at h; subst h; decide
  ·have:=num_dig c h; omega
 ·obtain ⟨m,rfl⟩:∃ m:Nat,i=(m:Int):=⟨i.toNat,by omega⟩
  have l:=(num_len (m:=m) (by omega)).2
  exact ⟨by omega,fun c hc=>by have:=num_dig c hc; omega⟩
theorem mark_word:∀ p∈marksL,p.2.length≤1∧∀ c∈cp p.2,c≠32∧c≠10∧c < 128:=by decide +kernel
theorem lits_word:∀ x∈([Str.ofString "-", "n", "r", "names", "rows", "ask", "set", "sum", "len", "take", "get", "put", "tell", "test", "end"]:List Str),x.length≤6∧∀ c∈cp x,c≠32∧c≠10∧c < 128:=by decide +kernel
theorem parts_word:∀ p∈partsL,p.1.length≤6∧(∀ c∈cp p.1,c≠32∧c≠10∧c < 128)∧p.2.length≤5:=by decide +kernel
theorem mark_of {nm rw many:Int} {k:Str} {i:Int} (h:FitD nm rw many k (.int i)) (hn:nm≤1000) (hr:rw≤1000) (hm:many≤1000):∃ z,marksL.lookup k=some z∧-1000≤i∧i≤1000:=by
 cases h with
 | name i h1 h2=>exact ⟨_,rfl,by omega,by omega⟩
 | value i h1 h2=>exact ⟨_,rfl,by omega,by omega⟩
 | row i h1 h2=>exact ⟨_,rfl,by omega,by omega⟩
 | number i h1 h2=>exact ⟨_,rfl,h1,h2⟩
 | way i h1 h2=>exact ⟨_,rfl,by omega,by omega⟩
theorem wordT_int {k z:Str} (h:marksL.lookup k=some z) (i:Int):wordT k (.int i)=z++numT i:=by unfold wordT; rw [h]; rfl
theorem FitD.is {nm rw many:Int} {k:Str} {d:D} (h:FitD nm rw many k d):d=.non∨∃ i,d=.int i:=by
 cases h with
 | none_=>exact .inl rfl
 | _=>exact .inr ⟨_,rfl⟩
theorem fit_word {nm rw many:Int} {k:Str} {d:D} (h:FitD nm rw many k d) (hn:nm≤1000) (hr:rw≤1000) (hm:many≤1000):Word (wordT k d):=by
 rcases h.is with rfl | ⟨i,rfl⟩
 ·exact lits_word "-" (by simp)
 ·obtain ⟨z,hz,h1,h2⟩:=mark_of h hn hr hm
  rw [wordT_int hz]
  obtain ⟨a1,a2⟩:=mark_word _ (PySem.mem_of_lookup hz)
  obtain ⟨b1,b2⟩:=num_word h1 h2
  exact word_app a1 a2 b1 b2
theorem num_wd {i:Int} (h1:-1000≤i) (h2:i≤1000):Word (numT i):=⟨by have:=(num_word h1 h2).1; omega,(num_word h1 h2).2⟩
theorem node_wd {nm rw:Int} {d:D} (h:NodeD nm rw d) (hn:nm≤1000) (hr:rw≤1000):Word (nodeW d):=by
 rcases h with rfl | ⟨k,l1,l2,rfl⟩ | ⟨k,l1,l2,rfl⟩
 ·exact lits_word "-" (by simp)
 ·obtain ⟨b1,b2⟩:=num_word (i:=k) (by omega) (by omega)
  exact word_app (by decide) (lits_word "n" (by simp)).2 b1 b2
 ·obtain ⟨b1,b2⟩:=num_word (i:=k) (by omega) (by omega)
  exact word_app (by decide) (lits_word "r" (by simp)).2 b1 b2
theorem bound_wd {nm rw:Int} {d:D} (h:BoundD nm rw d) (hn:nm≤1000) (hr:rw≤1000):(boundW d).length=3∧∀ t∈boundW d,Word t:=by
 obtain ⟨a,b,c,ha,hb,c1,c2,rfl⟩:=h
 refine ⟨rfl,fun t ht=>?_⟩
 have ht:t∈[nodeW a,nodeW b,numT c]:=ht
 simp only [List.mem_cons,List.not_mem_nil,or_false] at ht
 rcases ht with rfl | rfl | rfl
 ·exact node_wd ha hn hr
 ·exact node_wd hb hn hr
 ·exact num_wd c1 c2
theorem bounds_len {nm rw:Int} (hn:nm≤1000) (hr:rw≤1000):∀ {bs:List D},(∀ b∈bs,BoundD nm rw b)→((bs.map boundW).flatten).length=3 * bs.length
 | [],_=>rfl
 | b::bs,h=>by
  rw [List.map_cons,List.flatten_cons,List.length_append,bounds_len hn hr fun b hb=>h b (List.mem_cons_of_mem _ hb),(bound_wd (h b List.mem_cons_self) hn hr).1,List.length_cons]; omega
theorem line_words {nm rw at_ many:Int} {x:Str} {ds:List D} (h:LineG nm rw at_ many x ds) (h0:0≤at_) (hn:nm≤1000) (hr:rw≤1000) (hm:many≤1000):1≤(lineW x ds).length∧(lineW x ds).length≤15∧∀ t∈lineW x ds,Word t:=by
 cases h with
 | @plain _ ks _ hx hk hf=>
  rw [lineW_plain hx hk]
  obtain ⟨p1,p2,p3⟩:=parts_word _ (PySem.mem_of_lookup hk)
  have p3:ks.length≤5:=p3
  have hl:=hf.length
  refine ⟨by simp,by rw [List.length_cons,List.length_zipWith]; omega,fun t ht=>?_⟩
  rcases List.mem_cons.mp ht with rfl | ht
  ·exact ⟨p1,p2⟩
  ·obtain ⟨j,hj⟩:=List.mem_iff_getElem?.mp ht
   rw [List.getElem?_zipWith_eq_some] at hj
   obtain ⟨k,d,e1,e2,rfl⟩:=hj
   exact fit_word (hf.get e1 e2) hn hr hm
 | @ask bs k m b1 b2 hb h3 h4 h5 h6=>
  rw [lineW_ask]
  have:=bounds_len hn hr hb
  refine ⟨by simp,by simp only [List.length_cons]; omega,fun t ht=>?_⟩
  simp only [List.mem_cons] at ht
  rcases ht with rfl | rfl | rfl | ht
  ·exact lits_word _ (by simp)
  ·exact num_wd (by omega) (by omega)
  ·exact num_wd (by omega) (by omega)
  ·obtain ⟨l,hl,ht⟩:=List.mem_flatten.mp ht
   obtain ⟨b,hb2,rfl⟩:=List.mem_map.mp hl
   exact (bound_wd (hb b hb2) hn hr).2 t ht
theorem sum_le {a:Nat}:∀ {ts:List Str},(∀ t∈ts,t.length≤a)→(ts.map (·.length)).sum≤a * ts.length
 | [],_=>by simp
 | t::ts,h=>by
  have:=sum_le fun t ht=>h t (List.mem_cons_of_mem _ ht)
  have h0:=h t List.mem_cons_self
  rw [List.map_cons,List.sum_cons,List.length_cons,Nat.mul_add]; omega
theorem fold_le {a:Nat} {sep:Str} (hs:sep.length=1):∀ {ts:List Str} (n:Nat),(∀ t∈ts,t.length≤a)→ts.foldl (· + ·.length + sep.length) n≤n + (a + 1) * ts.length
 | [],n,_=>by simp
 | t::ts,n,h=>by
  have:=fold_le hs (ts:=ts) (n + t.length + sep.length) fun t ht=>h t (List.mem_cons_of_mem _ ht)
  have h0:=h t List.mem_cons_self
  rw [List.foldl_cons,List.length_cons,Nat.mul_add]; omega
theorem join_ok {a:Nat} {sep:Str} (hs:sep.length=1) {ts:List Str} (h:∀ t∈ts,t.length≤a) (hz:(a + 1) * ts.length≤sizeLine):JoinOk sep ts=true:=by
 unfold JoinOk
 rw [List.foldl_toArray]
 have:=fold_le hs 0 h
 rw [Bool.not_eq_true']
 refine decide_eq_false ?_
 omega
theorem join_mem {e:Nat}:∀ {ts:List Str} {c:Nat},c∈cp (Txt.join (one e) ts)→c=e∨∃ t∈ts,c∈cp t:=by
 intro ts
 rw [show Txt.join (one e) ts=Str.join (one e) ts from StrLaws.glued_eq_join _ _]
 induction ts with
 | nil=>intro c hc; exact absurd hc (by show ¬ c∈([]:List Nat); simp)
 | cons a r ih=>
  intro c hc
  cases r with
  | nil=>exact .inr ⟨a,List.mem_cons_self,hc⟩
  | cons b r=>
   rw [join_two] at hc
   rcases List.mem_append.mp hc with h | h
   ·exact .inr ⟨a,List.mem_cons_self,h⟩
   ·rcases List.mem_cons.mp h with h | h
    ·exact .inl h
    ·rcases ih h with h | ⟨t,ht,hc⟩
     ·exact .inl h
     ·exact .inr ⟨t,List.mem_cons_of_mem _ ht,hc⟩
theorem sp_one:Str.ofString " " = one 32:=rfl
theorem nl_one:Str.ofString "\n" = one 10:=rfl
theorem row_of {ts:List Str} (h1:1≤ts.length) (h15:ts.length≤15) (hw:∀ t∈ts,Word t):JoinOk " " ts=true∧Txt.split (Txt.join " " ts) " " = ts∧(Txt.join " " ts).length≤105∧∀ c∈cp (Txt.join " " ts),c≠10∧c < 128:=by
 refine ⟨join_ok rfl (a:=6) (fun t ht=>(hw t ht).1) ?_,?_,?_,?_⟩
 ·exact Nat.le_of_lt (small1000 (by omega))
 ·rw [sp_one]; exact split_join (by intro e; rw [e] at h1; simp at h1) fun p hp hc=>((hw p hp).2 32 hc).1 rfl
 ·rw [sp_one]
  have a:=join_len (c:=32) ts
  have b:=sum_le (a:=6) (ts:=ts) fun t ht=>(hw t ht).1
  omega
 ·rw [sp_one]
  intro c hc
  rcases join_mem hc with rfl | ⟨t,ht,hc⟩
  ·decide
  ·exact ((hw t ht).2 c hc).2
theorem counts_words {nm rw:Int} (n0:0≤nm) (hn:nm≤1000) (r0:0≤rw) (hr:rw≤1000):∀ t∈[Str.ofString "names",numT nm, "rows",numT rw],Word t:=by
 intro t ht
 simp only [List.mem_cons,List.not_mem_nil,or_false] at ht
 rcases ht with rfl | rfl | rfl | rfl
 ·exact lits_word _ (by simp)
 ·exact num_wd (by omega) (by omega)
 ·exact lits_word _ (by simp)
 ·exact num_wd (by omega) (by omega)
theorem log_small {i:Int} (h1:-10000≤i) (h2:i≤10000):i.natAbs.log2 < 1920:=by
 rcases Nat.eq_zero_or_pos i.natAbs with h | h
 ·rw [h]; decide
 ·have:i.natAbs.log2 < 14:=(Nat.log2_lt (by omega)).mpr (by show i.natAbs < 16384; omega)
  omega
theorem strt_app (y z:Str):strt (y++z) y=true:=starts_app y z
theorem strt_no {y z:Str} (h:∀ r,cp z≠cp y++r):¬ strt z y=true:=by
 have:strt z y=false:=starts_no h
 rw [this]; decide
theorem num_o {i:Int} (h1:-1000≤i) (h2:i≤1000):numO (numT i)=some i:=by
 unfold numO
 rw [if_neg (num_ne_m0 i)]
 rcases Int.lt_or_le i 0 with h | h
 ·obtain ⟨m,rfl⟩:∃ m:Nat,i=-((m + 1:Nat):Int):=⟨(-i - 1).toNat,by omega⟩
  rw [num_negT,if_pos (strt_app _ _)]
  have es:=slice_app (Str.ofString "-") (numT ((m + 1:Nat):Int))
  rw [show (((Str.ofString "-").length:Nat):Int)=1 from rfl] at es
  rw [es,num_cnt (by omega)]; rfl
 ·obtain ⟨m,rfl⟩:∃ m:Nat,i=(m:Int):=⟨i.toNat,by omega⟩
  rw [if_neg (strt_no (num_no_neg m)),num_cnt (by omega)]
theorem mrk_o {k y:Str} {m:Nat} (hk:marksL.lookup k=some y) (hm:m < 10000):mrkO k (y++numT (m:Int))=some (m:Int):=by
 unfold mrkO
 rw [hk]
 show (if strt (y++numT (m:Int)) y=true then _ else _)=_
 rw [if_pos (strt_app _ _),slice_app,num_cnt hm]
theorem prt_o {nm rw many:Int} {k:Str} {d:D} (h:FitD nm rw many k d) (hn:nm≤1000) (hr:rw≤1000) (hm:many≤1000):prtO k (wordT k d)=some d:=by
 cases h with
 | number i l1 l2=>
  rw [show wordT "number" (.int i)=numT i from nil_app _]
  show (numO (numT i)).map D.int=_
  rw [num_o l1 l2]; rfl
 | none_=>rfl
 | value i l1 l2=>
  obtain ⟨m,rfl,hm⟩:=num_small l1 (by omega)
  unfold prtO
  rw [if_neg (by decide),if_neg fun h=>app_ne1 (c:=110) (e:=45) rfl (by decide) rfl h.2]
  rw [show wordT "value" (.int (m:Int))=Str.ofString "n"++numT (m:Int) from rfl,mrk_o rfl hm]; rfl
 | name i l1 l2=>
  obtain ⟨m,rfl,hm⟩:=num_small l1 (by omega)
  unfold prtO
  rw [if_neg (by decide),if_neg fun h=>absurd h.1 (by decide)]
  rw [show wordT "name" (.int (m:Int))=Str.ofString "n"++numT (m:Int) from rfl,mrk_o rfl hm]; rfl
 | row i l1 l2=>
  obtain ⟨m,rfl,hm⟩:=num_small l1 (by omega)
  unfold prtO
  rw [if_neg (by decide),if_neg fun h=>absurd h.1 (by decide)]
  rw [show wordT "row" (.int (m:Int))=Str.ofString "r"++numT (m:Int) from rfl,mrk_o rfl hm]; rfl
 | way i l1 l2=>
  obtain ⟨m,rfl,hm⟩:=num_small l1 (by omega)
  unfold prtO
  rw [if_neg (by decide),if_neg fun h=>absurd h.1 (by decide)]
  rw [show wordT "way" (.int (m:Int))=Str.ofString ""++numT (m:Int) from rfl,mrk_o rfl hm]; rfl
theorem nod_o {nm rw:Int} {d:D} (h:NodeD nm rw d) (hn:nm≤1000) (hr:rw≤1000):nodO (nodeW d)=some d:=by
 rcases h with rfl | ⟨k,l1,l2,rfl⟩ | ⟨k,l1,l2,rfl⟩
 ·rfl
 ·obtain ⟨m,rfl,hm⟩:=num_small l1 (by omega)
  show nodO (Str.ofString "n"++numT (m:Int))=_
  unfold nodO
  rw [if_neg (app_ne1 (c:=110) (e:=45) rfl (by decide) rfl),if_pos (strt_app _ _),mrk_o rfl hm]; rfl
 ·obtain ⟨m,rfl,hm⟩:=num_small l1 (by omega)
  show nodO (Str.ofString "r"++numT (m:Int))=_
  unfold nodO
  rw [if_neg (app_ne1 (c:=114) (e:=45) rfl (by decide) rfl),if_neg (strt_no (app_ne (c:=114) (e:=110) rfl (by decide) rfl)),mrk_o rfl hm]; rfl
theorem bnd_o {nm rw:Int} {d:D} (h:BoundD nm rw d) (hn:nm≤1000) (hr:rw≤1000):bndO (boundW d)=some d:=by
 obtain ⟨a,b,c,ha,hb,c1,c2,rfl⟩:=h
 show bndO [nodeW a,nodeW b,numT c]=_
 simp only [bndO,nod_o ha hn hr,nod_o hb hn hr,num_o c1 c2]
theorem flat_cut {nm rw:Int} (hn:nm≤1000) (hr:rw≤1000):∀ {bs:List D} {i:Nat} {d:D},(∀ b∈bs,BoundD nm rw b)→bs[i]?=some d→(((bs.map boundW).flatten).drop (3 * i)).take 3=boundW d
 | [],i,d,_,h=>by simp at h
 | b::bs,0,d,hb,h=>by
  cases h
  have e:=(bound_wd (hb b List.mem_cons_self) hn hr).1
  rw [Nat.mul_zero,List.drop_zero,List.map_cons,List.flatten_cons,← e,List.take_left]
 | b::bs,i + 1,d,hb,h=>by
  have e:=(bound_wd (hb b List.mem_cons_self) hn hr).1
  rw [List.map_cons,List.flatten_cons,show 3 * (i + 1)=(boundW b).length + 3 * i by omega,List.drop_length_add_append]
  exact flat_cut hn hr (fun b h=>hb b (List.mem_cons_of_mem _ h)) h
theorem seq_range {α:Type} {f:α→Option D} {c:Nat→α} {bs:List D} (h:∀ i d,bs[i]?=some d→f (c i)=some d):∀ j,j≤bs.length→seqO f ((List.range j).map c)=some (bs.take j)
 | 0,_=>by rw [List.take_zero]; rfl
 | j + 1,hj=>by
  have ed:bs[j]?=some bs[j]:=List.getElem?_eq_getElem (by omega)
  rw [List.range_succ,List.map_append,List.take_add_one,ed]
  exact seq_snoc (h j _ ed) (seq_range h j (by omega))
theorem ask_o {nm rw at_ many:Int} {ds:List D} (h:LineG nm rw at_ many "ask" ds) (h0:0≤at_) (hn:nm≤1000) (hr:rw≤1000) (hm:many≤1000):askO (lineW "ask" ds)=some (.tup (.str "ask"::ds)):=by
 cases h with
 | plain hx _ _=>exact absurd rfl hx
 | @ask bs k m b1 b2 hb k1 k2 m1 m2=>
  rw [lineW_ask]
  have hl:=bounds_len hn hr hb
  have el:(Str.ofString "ask"::numT k::numT m::(bs.map boundW).flatten).length=3 + 3 * bs.length:=by simp only [List.length_cons]; omega
  obtain ⟨ka,rfl,hka⟩:=num_small (i:=k) (by omega) (by omega)
  obtain ⟨ma,rfl,hma⟩:=num_small (i:=m) (by omega) (by omega)
  unfold askO
  rw [el,if_pos ⟨by omega,by omega,by omega⟩,show (3 + 3 * bs.length) / 3 - 1=bs.length by omega]
  have hs:seqO bndO ((List.range bs.length).map (chunk (Str.ofString "ask"::numT (ka:Int)::numT (ma:Int)::(bs.map boundW).flatten)))=some bs:=by
   have:=seq_range (f:=bndO) (c:=chunk (Str.ofString "ask"::numT (ka:Int)::numT (ma:Int)::(bs.map boundW).flatten)) (bs:=bs) (fun i d hd=>?_) bs.length (Nat.le_refl _)
   ·rw [List.take_length] at this; exact this
   ·have e:chunk (Str.ofString "ask"::numT (ka:Int)::numT (ma:Int)::(bs.map boundW).flatten) i=boundW d:=by
     unfold chunk
     rw [Nat.add_comm 3]
     exact flat_cut hn hr hb hd
    rw [e]; exact bnd_o (hb d (List.mem_of_getElem? hd)) hn hr
  rw [hs]
  show (match cntO (numT (ka:Int)) with
   | none=>none
   | some k=>match cntO (numT (ma:Int)) with
    | none=>none
    | some m=>some (D.tup [.str "ask",.tup bs,.int k,.int m]))=_
  rw [num_cnt hka,num_cnt hma]
theorem fit_seq {nm rw many:Int} (hn:nm≤1000) (hr:rw≤1000) (hm:many≤1000):∀ {ks:List Str} {ds:List D},FitL nm rw many ks ds→seqO (fun p:Str × Str=>prtO p.1 p.2) (ks.zip (List.zipWith wordT ks ds))=some ds
 | _,_,.nil=>rfl
 | _,_,.cons a h=>by
  rw [List.zipWith_cons_cons,List.zip_cons_cons]
  simp only [seqO,prt_o a hn hr hm,fit_seq hn hr hm h]
theorem wrd_o {nm rw at_ many:Int} {x:Str} {ds:List D} (h:LineG nm rw at_ many x ds) (h0:0≤at_) (hn:nm≤1000) (hr:rw≤1000) (hm:many≤1000):wrdO (lineW x ds)=some (.tup (.str x::ds)):=by
 by_cases hx:x=("ask":Str)
 ·subst hx
  have e:=ask_o h h0 hn hr hm
  cases h with
  | plain hx _ _=>exact absurd rfl hx
  | ask _ _ _ _ _ _ _=>
   rw [lineW_ask] at e ⊢
   simp only [wrdO]
   rw [if_pos trivial,e]
 ·cases h with
  | @plain _ ks _ hx hk hf=>
   have hlen:=hf.length
   rw [lineW_plain hx hk]
   simp only [wrdO]
   rw [if_neg hx,hk]
   show (if (List.zipWith wordT ks ds).length=ks.length then _ else _)=_
   rw [if_pos (by rw [List.length_zipWith]; omega),fit_seq hn hr hm hf]; rfl
  | ask _ _ _ _ _ _ _=>exact absurd rfl hx
theorem lin_o {nm rw at_ many:Int} {x:Str} {ds:List D} (h:LineG nm rw at_ many x ds) (h0:0≤at_) (hn:nm≤1000) (hr:rw≤1000) (hm:many≤1000):linO (lineT (.tup (.str x::ds)))=some (.tup (.str x::ds))∧Wd (lineT (.tup (.str x::ds)))∧(lineT (.tup (.str x::ds))).length≤105∧¬ 10∈cp (lineT (.tup (.str x::ds))):=by
 obtain ⟨w1,w2,w3⟩:=line_words h h0 hn hr hm
 obtain ⟨_,e2,e3,e4⟩:=row_of w1 w2 w3
 refine ⟨?_,⟨fun c hc=>(e4 c hc).2,Nat.le_trans e3 (by decide)⟩,e3,fun hc=>(e4 10 hc).1 rfl⟩
 unfold linO
 rw [show Txt.split (lineT (.tup (.str x::ds))) " " = lineW x ds from e2]
 exact wrd_o h h0 hn hr hm
theorem cnts_o {nm rw:Int} (n0:0≤nm) (hn:nm≤1000) (r0:0≤rw) (hr:rw≤1000):cntsO (countsT nm rw)=some (nm,rw)∧Wd (countsT nm rw)∧(countsT nm rw).length≤105∧¬ 10∈cp (countsT nm rw):=by
 obtain ⟨_,e2,e3,e4⟩:=row_of (ts:=[Str.ofString "names",numT nm, "rows",numT rw]) (Nat.le_of_ble_eq_true rfl) (Nat.le_of_ble_eq_true rfl) (counts_words n0 hn r0 hr)
 refine ⟨?_,⟨fun c hc=>(e4 c hc).2,Nat.le_trans e3 (by decide)⟩,e3,fun hc=>(e4 10 hc).1 rfl⟩
 unfold cntsO
 rw [show Txt.split (countsT nm rw) " " = [Str.ofString "names",numT nm, "rows",numT rw] from e2]
 obtain ⟨a,rfl,ha⟩:=num_small n0 (by omega)
 obtain ⟨b,rfl,hb⟩:=num_small r0 (by omega)
 simp only [cwsO]
 rw [if_pos ⟨trivial,trivial⟩,num_cnt ha,num_cnt hb]
def headL:List Str:=["names 2", "names 2 rows 1 1", "names 2 row 1", "name 2 rows 1", "names n2 rows 1", "names 2 rows -1", "",
 "names 02 rows 1", "names 2  rows 1", " names 2 rows 1", "names 2 rows 1 ", "end", "rows 1 names 2",
 "names 2 rows", "names 2 rows x", "names +2 rows 1", "names 10000 rows 1", "names 2_0 rows 1",
 "names 2 rows 0_1", "names -0 rows 1", "names 2 rows 00", "names 2 rows +0", "names rows 1"]
def illL:List Str:=["01", "-0", "+1", "--1", "-", "1-", "x", "10000", "-10000", "1.0", "1_0", "", "00", "-01", "n1", "r1"]
def w0L:List Str:=["", " ", "pop n0 1", "Set n0 n1 1 2", "sets n0 n1 1 2", "3", "- 1", "end 0", "end ", " end"]
def w1L:List Str:=["set n0 n0 1", "set n0 n0 1 0 0", "sum n0 n0 0", "len n0 0", "take n0", "get n0 r0 n0 1", "tell 0", "put r0 n0 1 n0", "test n0 n0 1 0", "tell n0 0 0", "take n0 0 0", "test - - 0",
 "sum n0 n0 - 0 0", "len n0 r0 0 0", "get n0 r0 n0 1 0 0", "put r0 n0 1 n0 0 0", "test - - 0 0 0 0", "end end"]
def w2L:List Str:=["set 0 n0 1 0", "set r0 n0 1 0", "set nn0 n0 1 0", "set n n0 1 0", "set - n0 1 0", "sum n0 - n0 0", "len n0 n0 0", "len n0 - 0", "get n0 0 n0 1 0", "put n0 n0 1 n0 0", "put r0 n0 1 - 0",
 "tell r0 0", "set n0 r0 1 0", "take N0 0", "set n-1 n0 1 0", "test r0 n0 0 0 0", "tell n00 0", "take n01 0", "tell n+0 0", "tell n0_0 0", "tell n0n0 0", "len n0 r00 0", "len n0 r+0 0",
 "len n0 rn 0", "sum n0 n0 n-0 0", "set n0 n00 1 0", "put r0_0 n0 1 n0 0", "tell n00000 0"]
def w5L:List Str:=["set n0  n0 1 0", " take n0 0", "take n0 0 ", "tell  n0 0", "len n0 r0  0"]
def w6L:List Str:=["ask 0 0", "ask 0", "ask", "ask 0 0 - -", "ask 0 0 - - 0 -", "ask 0 0 - - x", "ask 0 0 q - 1", "ask 0 0 n - 1", "ask 0 0 - r 1", "ask -1 0 - - 1", "ask 0 -1 - - 1", "ask 0 0 n00 - 1",
 "ask 0 0 - r+0 1", "ask 0 0 - - +1", "ask 0 0 - - -0", "ask 00 0 - - 1", "ask 0 0 - - 1_0"]
def rowB (t:Str):Bool:=decide (t.length≤105) && (cp t).all (fun c=>decide (c < 128) && !decide (c=10))
def badB (t:Str):Bool:=rowB t && (linO t).isNone
structure Bad (t:Str):Prop where
 wd:Wd t
 len:t.length≤105
 nl:¬ 10∈cp t
 no:linO t=none
theorem rowB_of {t:Str} (h:rowB t=true):Wd t∧t.length≤105∧¬ 10∈cp t:=by
 unfold rowB at h
 rw [Bool.and_eq_true,decide_eq_true_eq,List.all_eq_true] at h
 obtain ⟨h1,h2⟩:=h
 refine ⟨⟨fun c hc=>?_,by omega⟩,h1,fun hc=>?_⟩
 ·have:=h2 c hc
  rw [Bool.and_eq_true,decide_eq_true_eq] at this
  exact this.1
 ·have:=h2 10 hc
  simp at this
theorem Bad.of {t:Str} (h:badB t=true):Bad t:=by
 unfold badB at h
 rw [Bool.and_eq_true] at h
 obtain ⟨a,b,c⟩:=rowB_of h.1
 exact ⟨a,b,c,Option.isNone_iff_eq_none.mp h.2⟩
theorem head_all:headL.all (fun t=>rowB t && (cntsO t).isNone)=true:=by decide +kernel
theorem w0_all:w0L.all badB=true:=by decide +kernel
theorem w1_all:w1L.all badB=true:=by decide +kernel
theorem w2_all:w2L.all badB=true:=by decide +kernel
theorem w5_all:w5L.all badB=true:=by decide +kernel
theorem w6_all:w6L.all badB=true:=by decide +kernel
abbrev s_law_node_word:Stmt:=top 54
abbrev s_law_words:Stmt:=top 55
theorem sc_law_node_word:FnScope ["_law_node_here"] ["_law_node_here"] (defScope s_law_node_word):=⟨rfl,rfl,rfl,by decide +kernel,rfl,by decide +kernel,by decide +kernel⟩
theorem sc_law_words:FnScope ["_law_line_here", "_law_kinds", "_law_words_here", "_law_kind", "_law_thing", "_law_first", "_law_last", "_law_number_here"] ["_law_line_here"] (defScope s_law_words):=⟨rfl,rfl,rfl,by decide +kernel,rfl,by decide +kernel,by decide +kernel⟩
def spNodeWord2 (K:PySem.W.Frag):Sp:=fun vs H Q _=>ExQ Q (fun (v:V) Q=>ExQ Q (fun (d:D) Q=>ExQ Q (fun (nm:Int) Q=>ExQ Q (fun (rw:Int) Q=>vs=[v]∧Is K H d v∧NodeD nm rw d∧nm≤1000∧rw≤1000∧∀ H',Same H H'→Q (.str (nodeW d)) H'))))
def spWords (K:PySem.W.Frag):Sp:=fun vs H Q _=>ExQ Q (fun (v:V) Q=>ExQ Q (fun (x:Str) Q=>ExQ Q (fun (ds:List D) Q=>ExQ Q (fun (nm:Int) Q=>ExQ Q (fun (rw:Int) Q=>ExQ Q (fun (at_:Int) Q=>ExQ Q (fun (many:Int) Q=>vs=[v]∧Is K H (.tup (.str x::ds)) v∧LineG nm rw at_ many x ds∧0≤at_∧nm≤1000∧rw≤1000∧many≤1000∧∀ (H':Hp) (l:Addr),Same H H'→H' l=some (.lst ((lineW x ds).map V.str))→Q (.ref l) H')))))))
def kindsA:List (Key × V):=[(.inr "set",.str "nmcl"),(.inr "sum",.str "nnml"),(.inr "len",.str "nrl"),(.inr "take",.str "nl"),(.inr "get",.str "nrmcl"),(.inr "put",.str "rmcnl"),(.inr "tell",.str "nl")]
def kindsB:List (Key × V):=[(.inr "test",.str "mmcll"),(.inr "end",.str "")]
def signK (k:Str):Nat:=if k=("name":Str) then 110 else if k=("value":Str) then 109 else if k=("row":Str) then 114 else if k=("number":Str) then 99 else 108
def signsK (ks:List Str):Str:=⟨(ks.map signK).toArray⟩
theorem kinds_all:∀ p∈partsL,p.1=("ask":Str)∨(valV (mergeK (mergeK [] kindsA) (mergeK [] kindsB)) (Sum.inr p.1)=some (.str (signsK p.2))∧(signsK p.2).cps.all (· < 128)=true):=by decide +kernel
theorem kinds_at {x:Str} {ks:List Str} (h:partsL.lookup x=some ks) (hx:x≠"ask"):valV (mergeK (mergeK [] kindsA) (mergeK [] kindsB)) (Sum.inr x)=some (.str (signsK ks))∧(signsK ks).cps.all (· < 128)=true:=
 (kinds_all _ (PySem.mem_of_lookup h)).resolve_left hx
theorem signs_at {ks:List Str} {i:Nat} {v:V} (h:(signsV (signsK ks))[i]?=some v):∃ k,ks[i]?=some k∧v=.str (one (signK k)):=by
 unfold signsV signsK at h
 rw [List.getElem?_map,List.getElem?_map] at h
 cases e:ks[i]? with
 | none=>rw [e] at h; cases h
 | some k=>rw [e] at h; cases h; exact ⟨k,rfl,rfl⟩
theorem signs_len (ks:List Str):(signsV (signsK ks)).length=ks.length:=by
 unfold signsV signsK
 rw [List.length_map,List.length_map]
section
variable {P:Program} {w:World} {K:PySem.W.Frag} {mg:Str→Option Value} {base:Heap} {f:Addr} {fd:FuncData} {n:Nat}
theorem ok_law_node_word (F:Fun K "_law_node_word" "_law_node_word" s_law_node_word f fd) (m_str:mg "str" = none) (m_int:mg "int" = none):FnOk P w K mg base CX0 (n + 1) f fd ["_law_node_here"] (spNodeWord2 K):=by
 refine F.ok sc_law_node_word (fun vs H Q E h=>?_) (fun cdv A outer s H vs Q E hr h=>?_)
 ·obtain ⟨v,d,nm,rw,rfl,_⟩:=h
  rfl
 obtain ⟨v,d,nm,rw,rfl,hi,hd,h1,h2,q⟩:=h
 have sc:=sc_law_node_word
 refine ⟨_,(@pss_cons _ _ _ _ _ (ps_if (pt_cmpR op_eq (pe_ix ix_tup (pv 0) pe_int (fun _ _=>rfl)) pe_str (nomark _)) (pss_one (ps_ret pe_str)) pss_nil)
   (pss_one (ps_ret (pe_op op_add_str (pe_ix ix_list (pe_lst (pa_consts rfl)) (pe_callTy call_int1 rfl m_int PyProof.Rows.boot_int (pa_cons (pe_cmpR op_eq (pe_ix ix_tup (pv 0) pe_int (fun _ _=>rfl)) pe_str (nomark _)) pa_nil)) (fun _ _=>rfl)) (pe_callTy call_str_int rfl m_str PyProof.Rows.boot_str (pa_cons (pe_ix ix_tup (pv 0) pe_int (fun _ _=>rfl)) pa_nil)))))),?_⟩
 rcases hd with rfl | ⟨k,l1,l2,rfl⟩ | ⟨k,l1,l2,rfl⟩
 ·obtain ⟨a,xs,rfl,hq,il⟩:=hi.tup_inv
  obtain ⟨v0,vs,rfl,i0,il⟩:=il.cons_inv
  have e0:=i0.str_inv
  subst e0
  exact ⟨_,rfl,a,_,0,_,rfl,rfl,hq,at0 _ _,rfl,true,rfl,iteT (q H (Same.refl H))⟩
 ·obtain ⟨a,xs,rfl,hq,il⟩:=hi.tup_inv
  obtain ⟨v0,vs,rfl,i0,il⟩:=il.cons_inv
  obtain ⟨v1,vs,rfl,i1,il⟩:=il.cons_inv
  have e0:=i0.str_inv
  have e1:=i1.int_inv
  subst e0
  subst e1
  have b:=(num_word (i:=k) (by omega) (by omega)).1
  refine ⟨_,rfl,a,_,0,_,rfl,rfl,hq,at0 _ _,rfl,false,rfl,iteF ⟨Nat.le_of_ble_eq_true rfl,fun l nl=>?_⟩⟩
  have s1:Same H _:=same_new nl (.lst [.str "n",.str "r"])
  have hq:=s1.tups.sq hq
  refine ⟨_,rfl,a,_,0,_,rfl,rfl,hq,at0 _ _,rfl,.inr ⟨false,rfl,l,_,0,_,rfl,rfl,SqL.of upd_same,at0 _ _,?_⟩⟩
  exact ⟨_,rfl,a,_,1,_,rfl,rfl,hq,at1 _ _ _,k,rfl,log_small (by omega) (by omega),_,_,rfl,rfl,small (by show 1 + (numT k).length≤_; omega),q _ s1⟩
 ·obtain ⟨a,xs,rfl,hq,il⟩:=hi.tup_inv
  obtain ⟨v0,vs,rfl,i0,il⟩:=il.cons_inv
  obtain ⟨v1,vs,rfl,i1,il⟩:=il.cons_inv
  have e0:=i0.str_inv
  have e1:=i1.int_inv
  subst e0
  subst e1
  have b:=(num_word (i:=k) (by omega) (by omega)).1
  refine ⟨_,rfl,a,_,0,_,rfl,rfl,hq,at0 _ _,rfl,false,rfl,iteF ⟨Nat.le_of_ble_eq_true rfl,fun l nl=>?_⟩⟩
  have s1:Same H _:=same_new nl (.lst [.str "n",.str "r"])
  have hq:=s1.tups.sq hq
  refine ⟨_,rfl,a,_,0,_,rfl,rfl,hq,at0 _ _,rfl,.inr ⟨true,rfl,l,_,1,_,rfl,rfl,SqL.of upd_same,at1 _ _ _,?_⟩⟩
  exact ⟨_,rfl,a,_,1,_,rfl,rfl,hq,at1 _ _ _,k,rfl,log_small (by omega) (by omega),_,_,rfl,rfl,small (by show 1 + (numT k).length≤_; omega),q _ s1⟩
end
section
variable {P:Program} {w:World} {K:PySem.W.Frag} {mg:Str→Option Value} {base:Heap} {f:Addr} {fd:FuncData} {n:Nat}
theorem ok_law_words (F:Fun K "_law_words" "_law_words" s_law_words f fd) (m_str:mg "str" = none) (m_zip:mg "zip" = none) (c_law_node_word:Cl P w K mg base "_law_node_word" n ["_law_node_here"] (spNodeWord2 K)):FnOk P w K mg base CX0 (n + 1) f fd ["_law_line_here"] (spWords K):=by
 refine F.ok sc_law_words (fun vs H Q E h=>?_) (fun cdv A outer s H vs Q E hr h=>?_)
 ·obtain ⟨v,x,ds,nm,rw,at_,many,rfl,_⟩:=h
  rfl
 obtain ⟨v,x,ds,nm,rw,at_,many,rfl,hi,hg,h0,h1,h2,h3,q⟩:=h
 have sc:=sc_law_words
 have hu:(A.deeper (envOfC "_law_words" (defScope s_law_words) s.heap.objs.size f cdv)).units + 1 < cLine:=by have:=hr.units; omega
 obtain ⟨rw1,rw2,rw3⟩:=line_words hg h0 h1 h2 h3
 obtain ⟨t,xs0,rfl,hq,il0⟩:=hi.tup_inv
 obtain ⟨v0,xs,rfl,i0,il⟩:=il0.cons_inv
 have e0:=i0.str_inv
 subst e0
 refine ⟨_,(@pss_cons _ _ _ _ _ (@ps_set _ _ 1 _ _ _ _ sc.nd rfl (Or.inl rfl) (@pe_disp _ _ _ _ _ (@pps_cons _ _ _ _ _ _ _ _ _ pe_str pe_str (@pps_cons _ _ _ _ _ _ _ _ _ pe_str pe_str (@pps_cons _ _ _ _ _ _ _ _ _ pe_str pe_str (@pps_cons _ _ _ _ _ _ _ _ _ pe_str pe_str (@pps_cons _ _ _ _ _ _ _ _ _ pe_str pe_str (@pps_cons _ _ _ _ _ _ _ _ _ pe_str pe_str (@pps_cons _ _ _ _ _ _ _ _ _ pe_str pe_str pps_nil))))))) rfl rfl (fun z=>nomatch z) (by decide)) rfl (by first | exact .inl rfl | exact .inr rfl))
   (@pss_cons _ _ _ _ _ (ps_expr (pe_bm PySem.F.plainAttrs_dict PySem.F.slot_dict_update PySem.F.type_dict_update mt_dupd (pv 1) (pa_cons (@pe_disp _ _ _ _ _ (@pps_cons _ _ _ _ _ _ _ _ _ pe_str pe_str (@pps_cons _ _ _ _ _ _ _ _ _ pe_str pe_str pps_nil)) rfl rfl (fun z=>nomatch z) (by decide)) pa_nil)))
   (@pss_cons _ _ _ _ _ (ps_set (i:=2) sc.nd rfl (Or.inl rfl) (pe_lst (pa_cons (pe_ix ix_tup (pv 0) pe_int (fun _ _=>rfl)) pa_nil)))
   (@pss_cons _ _ _ _ _ (ps_if (pt_cmpR op_eq (pe_ix ix_tup (pv 0) pe_int (fun _ _=>rfl)) pe_str (nomark _)) (@pss_cons _ _ _ _ _ (ps_set (i:=2) sc.nd rfl (Or.inl rfl) (pe_op op_cat (pv 2) (pe_lst (pa_cons (pe_callTy call_str_int rfl m_str PyProof.Rows.boot_str (pa_cons (pe_ix ix_tup (pv 0) pe_int (fun _ _=>rfl)) pa_nil)) (pa_cons (pe_callTy call_str_int rfl m_str PyProof.Rows.boot_str (pa_cons (pe_ix ix_tup (pv 0) pe_int (fun _ _=>rfl)) pa_nil)) pa_nil)))))
   (@pss_cons _ _ _ _ _ (ps_for PassesOwn.never rfl (pi_tup (pe_ix ix_tup (pv 0) pe_int (fun _ _=>rfl))) (pg_tup rfl (pgs_cons (pg_name (i:=5) sc.nd rfl (Or.inl rfl)) (pgs_cons (pg_name (i:=6) sc.nd rfl (Or.inl rfl)) (pgs_cons (pg_name (i:=7) sc.nd rfl (Or.inl rfl)) pgs_nil)))) (pss_one (ps_set (i:=2) sc.nd rfl (Or.inl rfl) (pe_op op_cat (pv 2) (pe_lst (pa_cons (pe_cl c_law_node_word hr rfl (pa_cons (pv 5) pa_nil)) (pa_cons (pe_cl c_law_node_word hr rfl (pa_cons (pv 6) pa_nil)) (pa_cons (pe_callTy call_str_int rfl m_str PyProof.Rows.boot_str (pa_cons (pv 7) pa_nil)) pa_nil))))))))
   (pss_one (ps_ret (pv 2))))) pss_nil)
   (@pss_cons _ _ _ _ _ (ps_for PassesOwn.never rfl (pi_zipST rfl m_zip (pa_cons (pe_dget hu (pv 1) (pe_ix ix_tup (pv 0) pe_int (fun _ _=>rfl)) (fun _ _=>rfl)) (pa_cons (pe_slice sl_tup (pv 0) (po_some pe_int) po_none) pa_nil))) (pg_tup rfl (pgs_cons (pg_name (i:=3) sc.nd rfl (Or.inl rfl)) (pgs_cons (pg_name (i:=4) sc.nd rfl (Or.inl rfl)) pgs_nil))) (pss_one (ps_if (pt_cmpR op_isN (pv 4) pe_non (nomark _)) (pss_one (ps_expr (pe_bm PySem.F.plainAttrs_list PySem.F.slot_list_append PySem.F.type_list_append mt_append (pv 2) (pa_cons pe_str pa_nil)))) (pss_one (ps_if (pt_cmpR op_in_seq (pv 3) (pe_tup (pa_consts rfl)) (by with_unfolding_all rfl)) (pss_one (ps_expr (pe_bm PySem.F.plainAttrs_list PySem.F.slot_list_append PySem.F.type_list_append mt_append (pv 2) (pa_cons (pe_op op_add_str pe_str (pe_callTy call_str_int rfl m_str PyProof.Rows.boot_str (pa_cons (pv 4) pa_nil))) pa_nil)))) (pss_one (ps_if (pt_cmpR op_eq (pv 3) pe_str (nomark _)) (pss_one (ps_expr (pe_bm PySem.F.plainAttrs_list PySem.F.slot_list_append PySem.F.type_list_append mt_append (pv 2) (pa_cons (pe_op op_add_str pe_str (pe_callTy call_str_int rfl m_str PyProof.Rows.boot_str (pa_cons (pv 4) pa_nil))) pa_nil)))) (pss_one (ps_expr (pe_bm PySem.F.plainAttrs_list PySem.F.slot_list_append PySem.F.type_list_append mt_append (pv 2) (pa_cons (pe_callTy call_str_int rfl m_str PyProof.Rows.boot_str (pa_cons (pv 4) pa_nil)) pa_nil)))))))))))
   (pss_one (ps_ret (pv 2)))))))),?_⟩
 intro p np
 refine ⟨upd_same,kindsA,rfl,by decide,?_⟩
 refine ⟨_,rfl,.inr (.inr (.inl ⟨rfl,.inl ⟨_,upd_same⟩⟩)),?_⟩
 intro p2 np2
 have s1:Same H (upd (upd H p (.dK [])) p (.dK (mergeK [] kindsA))):=Same.new (same_new np _) np
 have ep:upd (upd H p (.dK [])) p (.dK (mergeK [] kindsA)) p=some (.dK (mergeK [] kindsA)):=upd_same
 generalize upd (upd H p (.dK [])) p (.dK (mergeK [] kindsA))=H1 at s1 ep np2
 have hne:p≠p2:=ne_p ep np2
 refine ⟨upd_same,kindsB,rfl,by decide,?_⟩
 have ep2:upd (upd H1 p2 (.dK [])) p2 (.dK (mergeK [] kindsB)) p=some (.dK (mergeK [] kindsA)):=by rw [upd_ne hne,upd_ne hne]; exact ep
 refine ⟨p,p2,_,_,rfl,rfl,hne,ep2,upd_same,by decide,?_⟩
 have s2:Same H (upd (upd (upd H1 p2 (.dK [])) p2 (.dK (mergeK [] kindsB))) p (.dK (mergeK (mergeK [] kindsA) (mergeK [] kindsB)))):=Same.new (Same.new (s1.trans (same_new np2 _)) (none_of_same s1 np2)) np
 have e3:upd (upd (upd H1 p2 (.dK [])) p2 (.dK (mergeK [] kindsB))) p (.dK (mergeK (mergeK [] kindsA) (mergeK [] kindsB))) p=some (.dK (mergeK (mergeK [] kindsA) (mergeK [] kindsB))):=upd_same
 generalize upd (upd (upd H1 p2 (.dK [])) p2 (.dK (mergeK [] kindsB))) p (.dK (mergeK (mergeK [] kindsA) (mergeK [] kindsB)))=H2 at s2 e3
 refine ⟨_,rfl,t,_,0,_,rfl,rfl,s2.tups.sq hq,at0 _ _,Nat.le_of_ble_eq_true rfl,fun pw npw=>?_⟩
 have s3:Same H2 _:=same_new npw (.lst [.str x])
 have ew:upd H2 pw (.lst [.str x]) pw=some (.lst [.str x]):=upd_same
 have np0:=none_of_same s2 npw
 have hd3:=s3 _ _ e3
 generalize upd H2 pw (.lst [.str x])=H3 at s3 ew hd3
 have s13:=s2.trans s3
 dsimp only [gName,tSeq,tIfS]
 refine ⟨_,rfl,t,_,0,_,rfl,rfl,s13.tups.sq hq,at0 _ _,rfl,_,rfl,ite2 (fun cc=>?_) (fun cc=>?_)⟩
 ·have e:=str_t cc
  subst e
  obtain ⟨bs,k,m,rfl,b1,b2,hb,k1,k2,m1,m2⟩:∃ bs k m,ds=[.tup bs,.int k,.int m]∧1≤bs.length∧bs.length≤4∧(∀ b∈bs,BoundD nm rw b)∧at_ < k∧k < many∧at_ < m∧m < many:=by
   cases hg with
   | plain hx _ _=>exact absurd rfl hx
   | ask b1 b2 hb k1 k2 m1 m2=>exact ⟨_,_,_,rfl,b1,b2,hb,k1,k2,m1,m2⟩
  obtain ⟨v1,xs1,rfl,i1,il1⟩:=il.cons_inv
  obtain ⟨v2,xs2,rfl,i2,il2⟩:=il1.cons_inv
  obtain ⟨v3,xs3,rfl,i3,il3⟩:=il2.cons_inv
  have e2:=i2.int_inv
  have e3:=i3.int_inv
  subst e2
  subst e3
  obtain ⟨tb,ys,rfl,hqb,ilb⟩:=i1.tup_inv
  have ln:=ilb.length
  have hq3:=s13.tups.sq hq
  refine ⟨_,rfl,?_⟩
  refine ⟨_,rfl,t,_,2,_,rfl,rfl,hq3,at2 _ _ _ _,k,rfl,log_small (by omega) (by omega),?_⟩
  refine ⟨_,rfl,t,_,3,_,rfl,rfl,hq3,at3 _ _ _ _ _,m,rfl,log_small (by omega) (by omega),Nat.le_of_ble_eq_true rfl,fun l1 nl1=>?_⟩
  have s4:Same H3 _:=same_new nl1 (.lst [.str (numT k),.str (numT m)])
  refine ⟨pw,l1,_,_,rfl,rfl,s4 _ _ ew,upd_same,Nat.le_of_ble_eq_true rfl,fun l2 nl2=>?_⟩
  have s5:Same _ _:=s4.trans (same_new nl2 (.lst [.str "ask",.str (numT k),.str (numT m)]))
  have s15:=s13.trans s5
  refine ⟨_,rfl,t,_,1,_,rfl,rfl,s15.tups.sq hq,at1 _ _ _,tb,rfl,⟨_,s15.tups.sq hqb⟩,for_tup (xs:=ys) (fun i σ H'=>∃ l y5 y6 y7,σ=[some (.ref t),some (.ref p),some (.ref l),none,none,y5,y6,y7]∧Same H H'∧H' l=some (.lst ((Str.ofString "ask"::numT k::numT m::((bs.take i).map boundW).flatten).map V.str))) ⟨_,_,_,_,rfl,s15,upd_same⟩ (fun i σ H' _ h=>?_) (fun i y σ H' ey h=>?_) (fun σ H' h=>?_)⟩
  ·obtain ⟨_,_,_,_,_,s1,_⟩:=h
   exact s1.tups.sq hqb
  ·obtain ⟨l,y5,y6,y7,rfl,s1,el⟩:=h
   obtain ⟨d,ed,iy⟩:=ilb.get' ey
   obtain ⟨da,db,c,ha,hbb,c1,c2,rfl⟩:=hb d (List.mem_of_getElem? ed)
   obtain ⟨tq,zs,rfl,hqy,ily⟩:=iy.tup_inv
   obtain ⟨va,zs1,rfl,ia,ily1⟩:=ily.cons_inv
   obtain ⟨vb,zs2,rfl,ib,ily2⟩:=ily1.cons_inv
   obtain ⟨vc,zs3,rfl,ic,ily3⟩:=ily2.cons_inv
   have ec:=ic.int_inv
   subst ec
   cases ily3.nil_inv
   have hi:i < bs.length:=(List.getElem?_eq_some_iff.mp ed).1
   refine ⟨tq,_,rfl,s1.tups.sq hqy,rfl,_,_,rfl,_,_,rfl,_,_,rfl,rfl,?_⟩
   refine ⟨_,rfl,?_⟩
   refine ⟨_,rfl,va,da,nm,rw,rfl,ia.mono s1.tups,ha,h1,h2,fun H4 s4=>?_⟩
   refine ⟨_,rfl,vb,db,nm,rw,rfl,ib.mono (s1.trans s4).tups,hbb,h1,h2,fun H5 s5=>?_⟩
   refine ⟨_,rfl,c,rfl,log_small (by omega) (by omega),Nat.le_of_ble_eq_true rfl,fun l3 nl3=>?_⟩
   have s6:Same H5 _:=same_new nl3 (.lst [.str (nodeW da),.str (nodeW db),.str (numT c)])
   have s46:=s4.trans (s5.trans s6)
   refine ⟨l,l3,_,_,rfl,rfl,s46 _ _ el,upd_same,?_,fun l4 nl4=>⟨l4,_,_,_,rfl,?_,?_⟩⟩
   ·have:=bounds_len h1 h2 (bs:=bs.take i) fun b hb2=>hb b (List.mem_of_mem_take hb2)
    refine small ?_
    rw [List.length_map]
    simp only [List.length_cons,List.length_nil]
    rw [this,List.length_take]; omega
   ·exact s1.trans (s46.trans (same_new nl4 _))
   ·rw [List.take_add_one,ed,List.map_append,List.flatten_append]
    have e:(Str.ofString "ask"::numT k::numT m::((bs.take i).map boundW).flatten).map V.str++[V.str (nodeW da),.str (nodeW db),.str (numT c)]=(Str.ofString "ask"::numT k::numT m::(((bs.take i).map boundW).flatten++[nodeW da,nodeW db,numT c])).map V.str:=by simp
    exact upd_same.trans (congrArg (fun l=>some (HO.lst l)) e)
  ·obtain ⟨l,y5,y6,y7,rfl,s1,el⟩:=h
   rw [← ln,List.take_length,← lineW_ask] at el
   exact ⟨_,rfl,q H' l s1 el⟩
 ·have hx:=str_f cc
  obtain ⟨ks,hk,hf⟩:∃ ks,partsL.lookup x=some ks∧FitL nm rw many ks ds:=by
   cases hg with
   | plain _ hk hf=>exact ⟨_,hk,hf⟩
   | ask _ _ _ _ _ _ _=>exact absurd rfl hx
  have hlen:=hf.length
  have ln:=il.length
  obtain ⟨kv,ka⟩:=kinds_at hk hx
  rw [lineW_plain hx hk] at rw2
  rw [List.length_cons,List.length_zipWith] at rw2
  refine ⟨_,rfl,_,rfl,t,_,0,_,rfl,rfl,s13.tups.sq hq,at0 _ _,p,.str (signsK ks),rfl,?_,?_⟩
  ·have:=DGet.k (k:=Sum.inr x) hd3
   rw [kv] at this
   exact this
  refine ⟨_,rfl,_,rfl,t,_,rfl,s13.tups.sq hq,?_,fun ts nts=>?_⟩
  ·rintro ⟨z1,_⟩
   rw [show HT.sIx (V.str x::xs).length 0 (some 1)=min 1 (V.str x::xs).length from HT.sIx_nat _ _ 1] at z1
   simp at z1
  ·rw [cut1] at *
   have s4:Same H3 _:=same_new nts (.tup xs)
   refine ⟨signsK ks,ts,rfl,ka,⟨_,SqT.of upd_same⟩,fun tk=>?_⟩
   have ets:upd H3 ts (.tup xs) ts=some (.tup xs):=upd_same
   have ew4:=s4 _ _ ew
   generalize upd H3 ts (.tup xs)=H4 at s4 ets ew4
   have s14:=s13.trans s4
   refine for_zipP (xs:=signsV (signsK ks)) (ys:=xs) (fun i σ H'=>∃ y3 y4,σ=[some (.ref t),some (.ref p),some (.ref pw),y3,y4,none,none,none]∧Same H H'∧H' ts=some (.tup xs)∧H' pw=some (.lst ((x::List.zipWith wordT (ks.take i) (ds.take i)).map V.str))) (by rw [signs_len]; omega) ⟨_,_,rfl,s14,ets,ew4⟩ (fun i σ H' _ h=>?_) (fun i kx dx σ H' tt ekx ed h ntt=>?_) (fun σ H' h=>?_)
   ·obtain ⟨_,_,_,_,e,_⟩:=h
    exact ⟨rfl,SqT.of e⟩
   ·obtain ⟨y3,y4,rfl,sm,es,ea⟩:=h
    obtain ⟨k,ek,rfl⟩:=signs_at ekx
    obtain ⟨d,edd,iv⟩:=il.get' ed
    have hfd:=hf.get ek edd
    have sn:Same H' _:=same_new ntt (.tup [.str (one (signK k)),dx])
    have ea5:=sn _ _ ea
    have es5:=sn _ _ es
    refine ⟨tt,_,rfl,SqT.of upd_same,rfl,_,_,rfl,_,_,rfl,rfl,?_⟩
    have npn:H' pw≠none:=by rw [ea]; simp
    have fin:∀ H6,Same (upd H' tt (.tup [.str (one (signK k)),dx])) H6→∃ y3 y4,[some (V.ref t),some (.ref p),some (.ref pw),some (.str (one (signK k))),some dx,none,none,none]=[some (V.ref t),some (.ref p),some (.ref pw),y3,y4,none,none,none]∧Same H (upd H6 pw (.lst ((x::List.zipWith wordT (ks.take i) (ds.take i)).map V.str++[.str (wordT k d)])))∧upd H6 pw (.lst ((x::List.zipWith wordT (ks.take i) (ds.take i)).map V.str++[.str (wordT k d)])) ts=some (.tup xs)∧
      upd H6 pw (.lst ((x::List.zipWith wordT (ks.take i) (ds.take i)).map V.str++[.str (wordT k d)])) pw=some (.lst ((x::List.zipWith wordT (ks.take (i + 1)) (ds.take (i + 1))).map V.str)):=by
     intro H6 s6
     refine ⟨_,_,rfl,Same.new (sm.trans (sn.trans s6)) np0,?_,?_⟩
     ·rw [upd_ne (ne_of es ea (fun z=>nomatch z))]
      exact s6 _ _ es5
     ·rw [List.take_add_one,List.take_add_one,ek,edd,List.zipWith_append (by rw [List.length_take,List.length_take]; omega),List.map_cons,List.map_cons,List.map_append]
      exact upd_same
    have hl:((x::List.zipWith wordT (ks.take i) (ds.take i)).map V.str).length < sizeLine:=small1000 (by rw [List.length_map,List.length_cons,List.length_zipWith,List.length_take,List.length_take]; omega)
    rcases hfd.is with rfl | ⟨j,rfl⟩
    ·have ex:=iv.non_inv
     subst ex
     refine ⟨_,rfl,rfl,true,rfl,iteT ?_⟩
     exact ⟨_,rfl,.inl ⟨rfl,_,SqL.of ea5⟩,pw,_,_,rfl,rfl,ea5,hl,fin _ (Same.refl _)⟩
    ·have ex:=iv.int_inv
     subst ex
     obtain ⟨z,hz,j1,j2⟩:=mark_of hfd h1 h2 h3
     have b:=(num_word j1 j2).1
     have lg:=log_small (i:=j) (by omega) (by omega)
     have ewd:=wordT_int hz j
     refine ⟨_,rfl,rfl,false,rfl,iteF ⟨_,rfl,Nat.le_of_ble_eq_true rfl,fun t2 nt2=>?_⟩⟩
     have s6:Same _ _:=same_new nt2 (.tup [.str "n",.str "m"])
     have ea6:=s6 _ _ ea5
     refine ⟨t2,_,rfl,.inr (SqT.of upd_same),rfl,rfl,_,rfl,?_⟩
     have fin:=fin _ s6
     rw [ewd] at fin
     cases hfd with
     | name _ _ _=>
      cases hz
      refine iteT ⟨_,rfl,.inl ⟨rfl,_,SqL.of ea6⟩,_,rfl,j,rfl,lg,_,_,rfl,rfl,small (by show 1 + (numT j).length≤_; omega),pw,_,_,rfl,rfl,ea6,hl,fin⟩
     | value _ _ _=>
      cases hz
      refine iteT ⟨_,rfl,.inl ⟨rfl,_,SqL.of ea6⟩,_,rfl,j,rfl,lg,_,_,rfl,rfl,small (by show 1 + (numT j).length≤_; omega),pw,_,_,rfl,rfl,ea6,hl,fin⟩
     | row _ _ _=>
      cases hz
      refine iteF ⟨_,rfl,rfl,true,rfl,iteT ⟨_,rfl,.inl ⟨rfl,_,SqL.of ea6⟩,_,rfl,j,rfl,lg,_,_,rfl,rfl,small (by show 1 + (numT j).length≤_; omega),pw,_,_,rfl,rfl,ea6,hl,fin⟩⟩
     | number _ _ _=>
      cases hz
      rw [show Str.ofString ""++numT j=numT j from nil_app _] at fin
      refine iteF ⟨_,rfl,rfl,false,rfl,iteF ⟨_,rfl,.inl ⟨rfl,_,SqL.of ea6⟩,_,rfl,j,rfl,lg,pw,_,_,rfl,rfl,ea6,hl,fin⟩⟩
     | way _ _ _=>
      cases hz
      rw [show Str.ofString ""++numT j=numT j from nil_app _] at fin
      refine iteF ⟨_,rfl,rfl,false,rfl,iteF ⟨_,rfl,.inl ⟨rfl,_,SqL.of ea6⟩,_,rfl,j,rfl,lg,pw,_,_,rfl,rfl,ea6,hl,fin⟩⟩
   ·obtain ⟨y3,y4,rfl,sm,es,ea⟩:=h
    rw [signs_len,List.take_length,hlen,List.take_length,← lineW_plain hx hk] at ea
    exact ⟨_,rfl,q H' pw sm ea⟩
end
theorem there_t {i c:Int} (h1:0≤i) (h2:i < c):isThere i c=true:=by unfold isThere; rw [decide_eq_true h1,decide_eq_true h2]; rfl
theorem written_t {i:Int} (h1:-1000≤i) (h2:i≤1000):isWritten i=true:=by unfold isWritten; rw [decide_eq_true h1,decide_eq_true h2]; rfl
theorem FitL.mem {nm rw many:Int}:∀ {ks ds},FitL nm rw many ks ds→∀ {k d},(k,d)∈ks.zip ds→FitD nm rw many k d
 | _,_,.nil,k,d,h=>by simp at h
 | _,_,.cons a h,k,d,hm=>by
  rw [List.zip_cons_cons] at hm
  rcases List.mem_cons.mp hm with e | hm
  ·cases e; exact a
  ·exact h.mem hm
theorem FitD.part {nm rw many:Int} {k:Str} {d:D} (h:FitD nm rw many k d):PartD k d:=by
 cases h with
 | name i _ _=>exact .name i
 | none_=>exact .non
 | value i _ _=>exact .value i
 | row i _ _=>exact .row i
 | number i _ _=>exact .number i
 | way i _ _=>exact .way i
theorem FitD.fits {nm rw:Int} {many:Nat} {k:Str} {d:D} (h:FitD nm rw many k d):partFits nm rw many k d=true:=by
 cases h with
 | name i h1 h2=>exact there_t h1 h2
 | none_=>rfl
 | value i h1 h2=>exact there_t h1 h2
 | row i h1 h2=>exact there_t h1 h2
 | number i h1 h2=>exact written_t h1 h2
 | way i h1 h2=>exact there_t h1 h2
theorem node_fits {nm rw:Int} {d:D} (h:NodeD nm rw d):NodeX d∧nodeFits nm rw d=true:=by
 rcases h with rfl | ⟨k,h1,h2,rfl⟩ | ⟨k,h1,h2,rfl⟩
 ·exact ⟨.inl rfl,rfl⟩
 ·refine ⟨.inr (.inl ⟨_,_,rfl⟩),?_⟩
  show (isThere k nm && decide ((0:Int)=0))=true
  rw [there_t h1 h2]; rfl
 ·exact ⟨.inr (.inr ⟨_,rfl⟩),there_t h1 h2⟩
theorem bound_fits {nm rw:Int} {d:D} (h:BoundD nm rw d):BoundX d∧boundFits nm rw d=true:=by
 obtain ⟨a,b,c,ha,hb,c1,c2,rfl⟩:=h
 obtain ⟨a1,a2⟩:=node_fits ha
 obtain ⟨b1,b2⟩:=node_fits hb
 refine ⟨⟨a,b,c,rfl,a1,b1⟩,?_⟩
 show (nodeFits nm rw a && (nodeFits nm rw b && isWritten c))=true
 rw [a2,b2,written_t c1 c2]; rfl
theorem bounds_fit {nm rw:Int} {bs:List D} (h1:1≤bs.length) (h2:bs.length≤4) (h:∀ b∈bs,BoundD nm rw b):boundsFit nm rw bs=true:=by
 unfold boundsFit
 rw [decide_eq_true (show (1:Int)≤bs.length by omega),decide_eq_true (show (bs.length:Int)≤4 by omega)]
 rw [Bool.and_true,Bool.true_and,List.all_eq_true]
 intro x hx
 obtain ⟨b,hb,rfl⟩:=List.mem_map.mp hx
 exact (bound_fits (h b hb)).2
theorem LineG.fits {nm rw at_:Int} {many:Nat} {x:Str} {ds:List D} (h:LineG nm rw at_ many x ds) (h0:0≤at_):∃ ks,partsL.lookup x=some ks∧(∀ (j:Nat) k d,ks[j]?=some k→ds[j]?=some d→PartD k d)∧ds.length≤900∧lineFits nm rw many ks ds=true∧
  (∀ u∈waysD ks ds,∃ j:Nat,u=.int j∧j < many)∧(x = "ask"→∀ j:Nat,D.int (j:Int)∈waysD ks ds→at_ < j):=by
 cases h with
 | @plain _ ks _ hx hk hf=>
  obtain ⟨_,_,p3⟩:=parts_word _ (PySem.mem_of_lookup hk)
  have p3:ks.length≤5:=p3
  have hl:=hf.length
  refine ⟨ks,hk,fun j k d e1 e2=>(hf.get e1 e2).part,by omega,?_,fun u hu=>?_,fun e=>absurd e hx⟩
  ·unfold lineFits
   rw [List.all_eq_true]
   intro y hy
   obtain ⟨⟨k,d⟩,hq,rfl⟩:=List.mem_map.mp hy
   exact (hf.mem hq).fits
  ·unfold waysD at hu
   obtain ⟨⟨k,d⟩,hq,rfl⟩:=List.mem_map.mp hu
   obtain ⟨hq,hw⟩:=List.mem_filter.mp hq
   have hw:k = "way":=by simpa using hw
   subst hw
   have:=hf.mem hq
   cases this with
   | way i h1 h2=>exact ⟨i.toNat,by show D.int i=_; rw [Int.toNat_of_nonneg h1],by omega⟩
 | @ask bs k m b1 b2 hb k1 k2 m1 m2=>
  have ew:waysD ["bounds", "way", "way"] [.tup bs,.int k,.int m]=[.int k,.int m]:=rfl
  refine ⟨_,rfl,fun j kk d e1 e2=>?_,Nat.le_of_ble_eq_true rfl,?_,fun u hu=>?_,fun _ j hj=>?_⟩
  ·match j,e1,e2 with
   | 0,e1,e2=>cases e1; cases e2; exact .bounds bs (fun d hd=>(bound_fits (hb d hd)).1) (by omega)
   | 1,e1,e2=>cases e1; cases e2; exact .way k
   | 2,e1,e2=>cases e1; cases e2; exact .way m
   | j + 3,e1,e2=>simp at e1
  ·show ([boundsFit nm rw bs,isThere k many,isThere m many].all id)=true
   rw [bounds_fit b1 b2 hb,there_t (by omega) k2,there_t (by omega) m2]; rfl
  ·rw [ew] at hu
   simp only [List.mem_cons,List.not_mem_nil,or_false] at hu
   rcases hu with rfl | rfl
   ·exact ⟨k.toNat,by rw [Int.toNat_of_nonneg (by omega)],by omega⟩
   ·exact ⟨m.toNat,by rw [Int.toNat_of_nonneg (by omega)],by omega⟩
  ·rw [ew] at hj
   simp only [List.mem_cons,List.not_mem_nil,or_false] at hj
   rcases hj with e | e
   ·injection e with e; omega
   ·injection e with e; omega
theorem DrawnP.at {nm rw:Int} {ds:List D} (h:DrawnP nm rw ds) {j:Nat} {d:D} (e:ds[j]?=some d):∃ x es ks,d=.tup (.str x::es)∧partsL.lookup x=some ks∧(∀ (j:Nat) k d,ks[j]?=some k→es[j]?=some d→PartD k d)∧es.length≤900∧lineFits nm rw ds.length ks es=true∧
  (∀ u∈waysD ks es,∃ j:Nat,u=.int j∧j < ds.length)∧(x = "ask"→∀ i:Nat,D.int (i:Int)∈waysD ks es→j < i):=by
 obtain ⟨x,es,rfl,g⟩:=(h.line j d e).gen
 obtain ⟨ks,h1,h2,h3,h4,h5,h6⟩:=g.fits (by omega)
 exact ⟨x,es,ks,rfl,h1,h2,h3,h4,h5,fun ex i hi=>by have:=h6 ex i hi; omega⟩
theorem DrawnP.ahead {nm rw:Int} {ds:List D} (h:DrawnP nm rw ds) {i j:Nat} (a:AskAt ds i) (e:Edge ds i j):i < j:=by
 obtain ⟨d,ed,es,rfl⟩:=a
 obtain ⟨d2,ed2,hj⟩:=e
 rw [ed] at ed2
 cases ed2
 obtain ⟨x,es2,ks,e2,hk,_,_,_,_,h6⟩:=h.at ed
 cases e2
 refine h6 rfl j ?_
 have:nextD (.tup (.str "ask"::es))=waysD ks es:=by
  show (match partsL.lookup (Str.ofString "ask") with | some ks=>waysD ks es | none=>[])=_
  rw [hk]
 rw [this] at hj
 exact hj
theorem DrawnP.noRing {nm rw:Int} {ds:List D} (h:DrawnP nm rw ds) (s:Nat):¬ OnRing ds s:=by
 rintro ⟨a,r⟩
 have all:∀ k,Rch ds s k→s < k:=by
  intro k r
  induction r with
  | one e=>exact h.ahead a e
  | more r b e ih=>exact Nat.lt_trans ih (h.ahead b e)
 exact absurd (all s r) (Nat.lt_irrefl s)
theorem DrawnP.gen {nm rw:Int} {ds:List D} (h:DrawnP nm rw ds) {j:Nat} {d:D} (e:ds[j]?=some d):∃ x es,d=.tup (.str x::es)∧LineG nm rw j ds.length x es:=(h.line j d e).gen
theorem DrawnP.lineX {nm rw:Int} {ds:List D} (h:DrawnP nm rw ds):∀ d∈ds,LineX d:=fun d hd=>by
 obtain ⟨j,ej⟩:=List.mem_iff_getElem?.mp hd
 obtain ⟨x,es,ks,e,h1,h2,h3,_⟩:=h.at ej
 exact ⟨x,es,ks,e,h1,h2,h3⟩
theorem DrawnP.verd {nm rw:Int} {ds:List D} (h:DrawnP nm rw ds):Verd nm rw ds none:=by
 refine ⟨fun _=>false,fun i=>⟨fun z=>(nomatch z),fun z=>absurd z (h.noRing i)⟩,.inr ⟨?_,.inr ⟨fun j hj=>?_,.inr ⟨fun _ _=>rfl,rfl⟩⟩⟩⟩
 ·have a1:=h.n0
  have a2:=h.n1
  have a3:=h.r0
  have a4:=h.r1
  have a5:=h.l1
  have a6:=h.l2
  unfold countsB
  rw [decide_eq_true (show 0≤nm by omega),decide_eq_true a2,decide_eq_true (show 0≤rw by omega),decide_eq_true a4,decide_eq_true (show (1:Int)≤ds.length by omega),decide_eq_true (show (ds.length:Int)≤70 by omega)]; rfl
 ·have ed:ds[j]?=some ds[j]:=List.getElem?_eq_getElem hj
  obtain ⟨x,es,ks,e,h1,h2,h3,h4,_⟩:=h.at ed
  show lineFitsD nm rw ds.length (ds.getD j .non)=true
  rw [List.getD_eq_getElem?_getD,ed,Option.getD_some,e,lineFitsD_of h1]
  exact h4
structure RowS (t:Str):Prop where
 wd:Wd t
 len:t.length≤105
 nl:¬ 10∈cp t
theorem DrawnP.row {nm rw:Int} {ds:List D} (h:DrawnP nm rw ds):∀ d∈ds,linO (lineT d)=some d∧RowS (lineT d):=fun d hd=>by
 obtain ⟨j,ej⟩:=List.mem_iff_getElem?.mp hd
 obtain ⟨x,es,rfl,g⟩:=h.gen ej
 have a1:=h.n1
 have a2:=h.r1
 have a3:=h.l2
 obtain ⟨r1,r2,r3,r4⟩:=lin_o g (by omega) (by omega) (by omega) (by omega)
 exact ⟨r1,r2,r3,r4⟩
theorem seq_all {α:Type} {f:α→Option D} {g:D→α}:∀ {ds:List D},(∀ d∈ds,f (g d)=some d)→seqO f (ds.map g)=some ds
 | [],_=>rfl
 | d::ds,h=>by
  rw [List.map_cons]
  simp only [seqO,h d List.mem_cons_self,seq_all (fun e he=>h e (List.mem_cons_of_mem _ he))]
theorem DrawnP.seq {nm rw:Int} {ds:List D} (h:DrawnP nm rw ds):seqO linO (ds.map lineT)=some ds:=seq_all fun d hd=>(h.row d hd).1
theorem DrawnP.head {nm rw:Int} {ds:List D} (h:DrawnP nm rw ds):cntsO (countsT nm rw)=some (nm,rw)∧RowS (countsT nm rw):=by
 have a1:=h.n0
 have a2:=h.n1
 have a3:=h.r0
 have a4:=h.r1
 obtain ⟨r1,r2,r3,r4⟩:=cnts_o (nm:=nm) (rw:=rw) (by omega) (by omega) (by omega) (by omega)
 exact ⟨r1,r2,r3,r4⟩
def rowsOf (nm rw:Int) (ds:List D):List Str:=countsT nm rw::ds.map lineT
theorem DrawnP.rows {nm rw:Int} {ds:List D} (h:DrawnP nm rw ds):∀ t∈rowsOf nm rw ds,RowS t:=fun t ht=>by
 rcases List.mem_cons.mp ht with rfl | ht
 ·exact h.head.2
 ·obtain ⟨d,hd,rfl⟩:=List.mem_map.mp ht
  exact (h.row d hd).2
theorem rows_text {ts:List Str} (h0:ts≠[]) (h:∀ t∈ts,RowS t) (hl:ts.length≤90):JoinOk (Str.ofString "\n") ts=true∧Txt.split (Txt.join (Str.ofString "\n") ts) (Str.ofString "\n")=ts∧(Txt.join (Str.ofString "\n") ts).length≤10000:=by
 refine ⟨join_ok rfl (a:=105) (fun t ht=>(h t ht).len) ?_,?_,?_⟩
 ·have:10000≤sizeLine:=by decide
  omega
 ·rw [nl_one]; exact split_join h0 fun p hp hc=>(h p hp).nl hc
 ·rw [nl_one]
  have a:=join_len (c:=10) ts
  have b:=sum_le (a:=105) (ts:=ts) fun t ht=>(h t ht).len
  omega
abbrev s_rows:Stmt:=top 57
theorem sc_rows:FnScope ["_law_program_here", "_law_rows_here"] ["_law_program_here"] (defScope s_rows):=⟨rfl,rfl,rfl,by decide +kernel,rfl,by decide +kernel,by decide +kernel⟩
def ProgAt (K:PySem.W.Frag) (H:Hp) (t l:Addr) (nm rw:Int) (ds:List D):Prop:=SqT K H t [.int nm,.int rw,.ref l]∧∃ xs,H l=some (.lst xs)∧IsL K H ds xs
theorem ProgAt.mono {K:PySem.W.Frag} {H H':Hp} {t l:Addr} {nm rw:Int} {ds:List D} (h:ProgAt K H t l nm rw ds) (s:Same H H'):ProgAt K H' t l nm rw ds:=by
 obtain ⟨h1,xs,h2,h3⟩:=h
 exact ⟨s.tups.sq h1,xs,s _ _ h2,h3.mono s.tups⟩
theorem counts_eq (nm rw:Int):((Str.ofString "names "++numT nm)++Str.ofString " rows ")++numT rw=countsT nm rw:=by
 refine str_ext ?_
 unfold countsT
 rw [sp_one,show Txt.join (one 32) [Str.ofString "names",numT nm, "rows",numT rw]=Str.join (one 32) [Str.ofString "names",numT nm, "rows",numT rw] from StrLaws.glued_eq_join _ _]
 rw [join_two,join_two,join_two,cp_app,cp_app,cp_app]
 rw [show cp (Str.join (one 32) [numT rw])=cp (numT rw) from rfl,show cp (Str.ofString "names ")=cp (Str.ofString "names")++[32] from rfl,show cp (Str.ofString " rows ")=32::(cp (Str.ofString "rows")++[32]) from rfl]
 simp [List.append_assoc]
theorem dep_str (x:Str):D.dep (.str x)=0:=by unfold D.dep; rfl
theorem dep_int (x:Int):D.dep (.int x)=0:=by unfold D.dep; rfl
theorem dep_non:D.dep .non=0:=by unfold D.dep; rfl
theorem dep_tup (l:List D):D.dep (.tup l)=1 + D.depL l:=by conv=>lhs; unfold D.dep
theorem depL_nil:D.depL []=0:=by unfold D.depL; rfl
theorem depL_cons (d:D) (l:List D):D.depL (d::l)=max d.dep (D.depL l):=by conv=>lhs; unfold D.depL
theorem depL_le {l:List D} {n:Nat} (h:∀ d∈l,d.dep≤n):D.depL l≤n:=by
 induction l with
 | nil=>rw [depL_nil]; exact Nat.zero_le _
 | cons d l ih=>
  rw [depL_cons]
  exact Nat.max_le.mpr ⟨h d List.mem_cons_self,ih fun x hx=>h x (List.mem_cons_of_mem _ hx)⟩
theorem dep_node {nm rw:Int} {d:D} (h:NodeD nm rw d):d.dep≤1:=by
 rcases h with rfl | ⟨k,_,_,rfl⟩ | ⟨k,_,_,rfl⟩ <;> simp [dep_tup,depL_cons,depL_nil,dep_str,dep_int]
theorem dep_bound {nm rw:Int} {d:D} (h:BoundD nm rw d):d.dep≤2:=by
 obtain ⟨a,b,c,ha,hb,_,_,rfl⟩:=h
 have h1:=dep_node ha
 have h2:=dep_node hb
 rw [dep_tup,depL_cons,depL_cons,depL_cons,depL_nil,dep_int]; omega
theorem dep_line {nm rw at_ many:Int} {x:Str} {ds:List D} (h:LineG nm rw at_ many x ds):(D.tup (.str x::ds)).dep≤4:=by
 cases h with
 | plain hx hk hf=>
  have:D.depL ds≤0:=depL_le fun d hd=>by
   obtain ⟨j,ej⟩:=List.mem_iff_getElem?.mp hd
   have hj:=(List.getElem?_eq_some_iff.mp ej).1
   rw [← hf.length] at hj
   rcases (hf.get (List.getElem?_eq_getElem hj) ej).is with rfl | ⟨i,rfl⟩
   ·rw [dep_non]; exact Nat.le_refl _
   ·rw [dep_int]; exact Nat.le_refl _
  rw [dep_tup,depL_cons,dep_str]; omega
 | @ask bs k m _ _ hb _ _ _ _=>
  have h:D.depL bs≤2:=depL_le fun d hd=>dep_bound (hb d hd)
  rw [dep_tup,depL_cons,dep_str,depL_cons,depL_cons,depL_cons,depL_nil,dep_tup,dep_int,dep_int]; omega
theorem tdepL_cons (t:T) (ts:List T):T.depL (t::ts)=max t.dep (T.depL ts):=by conv=>lhs; unfold T.depL
theorem tdepL_nil:T.depL []=0:=by unfold T.depL; rfl
theorem tdep_d (d:D):T.dep (.d d)=d.dep:=by unfold T.dep; rfl
theorem tdep_int (i:Int):T.dep (.d (.int i))=0:=by rw [tdep_d]; unfold D.dep; rfl
theorem tdep_lst (ts:List T):T.dep (.lst ts)=1 + T.depL ts:=by conv=>lhs; unfold T.dep
def progT (nm rw:Int) (ds:List D):List T:=[.d (.int nm),.d (.int rw),.lst (ds.map T.d)]
theorem ProgAt.ist {K:PySem.W.Frag} {H:Hp} {t l:Addr} {nm rw:Int} {ds:List D} (h:ProgAt K H t l nm rw ds):IsT K H (.tup (progT nm rw ds)) (.ref t):=by
 obtain ⟨h1,xs,h2,h3⟩:=h
 exact ist_tup h1 (istl_cons (ist_d is_int) (istl_cons (ist_d is_int) (istl_cons (ist_lst (SqL.of h2) (istl_ds h3)) istl_nil)))
def spRows (K:PySem.W.Frag):Sp:=fun vs H Q _=>ExQ Q (fun (t:Addr) Q=>ExQ Q (fun (l:Addr) Q=>ExQ Q (fun (nm:Int) Q=>ExQ Q (fun (rw:Int) Q=>ExQ Q (fun (ds:List D) Q=>vs=[.ref t]∧ProgAt K H t l nm rw ds∧DrawnP nm rw ds∧∀ (H':Hp) (p:Addr),Same H H'→H' p=some (.lst ((rowsOf nm rw ds).map V.str))→Q (.ref p) H')))))
theorem DrawnP.dep {nm rw:Int} {ds:List D} (h:DrawnP nm rw ds):T.depL (progT nm rw ds) < 9:=by
 unfold progT
 rw [tdepL_cons,tdepL_cons,tdepL_cons,tdepL_nil,tdep_int,tdep_int,tdep_lst]
 have:T.depL (ds.map T.d)≤4:=by
  have all:∀ d∈ds,d.dep≤4:=fun d hd=>by
   obtain ⟨j,ej⟩:=List.mem_iff_getElem?.mp hd
   obtain ⟨x,es,rfl,g⟩:=h.gen ej
   exact dep_line g
  clear h
  induction ds with
  | nil=>rw [List.map_nil,tdepL_nil]; omega
  | cons d ds ih=>
   rw [List.map_cons,tdepL_cons,tdep_d]
   have h1:=all d List.mem_cons_self
   have h2:=ih fun e he=>all e (List.mem_cons_of_mem _ he)
   omega
 omega
section
variable {P:Program} {w:World} {K:PySem.W.Frag} {mg:Str→Option Value} {base:Heap} {f:Addr} {fd:FuncData} {n:Nat}
theorem ok_rows (F:Fun K "_law_rows" "_law_rows" s_rows f fd) (m_str:mg "str" = none) (c_law_words:Cl P w K mg base "_law_words" n ["_law_line_here"] (spWords K)):FnOk P w K mg base CX0 (n + 1) f fd ["_law_program_here"] (spRows K):=by
 refine F.ok sc_rows (fun vs H Q E h=>?_) (fun cdv A outer s H vs Q E hr h=>?_)
 ·obtain ⟨t,l,nm,rw,ds,rfl,_⟩:=h
  rfl
 obtain ⟨t,l,nm,rw,ds,rfl,⟨ht,xs,el,il⟩,hd,q⟩:=h
 have sc:=sc_rows
 have a0:=hd.n0
 have a1:=hd.n1
 have b0:=hd.r0
 have a2:=hd.r1
 have a4:=hd.l2
 have ln:=il.length
 have b1:=(num_word (i:=nm) (by omega) (by omega)).1
 have b2:=(num_word (i:=rw) (by omega) (by omega)).1
 refine ⟨_,(@pss_cons _ _ _ _ _ (ps_set (i:=1) sc.nd rfl (Or.inl rfl) (pe_lst (pa_cons (pe_op op_add_str (pe_op op_add_str (pe_op op_add_str pe_str (pe_callTy call_str_int rfl m_str PyProof.Rows.boot_str (pa_cons (pe_ix ix_tup (pv 0) pe_int (fun _ _=>rfl)) pa_nil))) pe_str) (pe_callTy call_str_int rfl m_str PyProof.Rows.boot_str (pa_cons (pe_ix ix_tup (pv 0) pe_int (fun _ _=>rfl)) pa_nil))) pa_nil)))
   (pss_one (ps_ret (pe_op op_cat (pv 1) (pe_comp ["_law_line_here"] rfl (cmp_ok (N:=["_law_program_here", "_law_rows_here"]) (so:=defScope s_rows) rfl rfl (by decide +kernel)) (pi_list (pe_ix ix_tup (pv 0) pe_int (fun _ _=>rfl))) (fun _ _ _ _ _ _=>(pg_name (i:=0) (show List.Nodup (α:=Str) ["_law_line_here", "_law_program_here", "_law_rows_here"] by decide +kernel) rfl (Or.inl rfl) (Or.inr rfl))) (fun _ _ _ _ _ _=>pifs_nil) (fun _ _ _ _ _ _=>(pe_bmK (K:=K) rfl PySem.F.plainAttrs_str PySem.F.slot_str_join PySem.F.type_str_join (mt_joinK (K:=K) rfl) pe_str (pa_cons (pe_cl c_law_words hr rfl (pa_cons (pv 0) pa_nil)) pa_nil)))))))),?_⟩
 refine ⟨_,rfl,t,_,0,_,rfl,rfl,ht,at0 _ _,nm,rfl,log_small (by omega) (by omega),_,_,rfl,rfl,small (by show 6 + (numT nm).length≤_; omega),_,_,rfl,rfl,small (by show (Str.ofString "names "++numT nm).length + 6≤_; rw [len_app]; show 6 + (numT nm).length + 6≤_; omega),?_⟩
 refine ⟨_,rfl,t,_,1,_,rfl,rfl,ht,at1 _ _ _,rw,rfl,log_small (by omega) (by omega),_,_,rfl,rfl,small (by show ((Str.ofString "names "++numT nm)++Str.ofString " rows ").length + (numT rw).length≤_; rw [len_app,len_app]; show 6 + (numT nm).length + 6 + (numT rw).length≤_; omega),Nat.le_of_ble_eq_true rfl,fun p np=>?_⟩
 rw [show Str.ofString "names "++Str.ofString (toString nm)++Str.ofString " rows "++Str.ofString (toString rw)=countsT nm rw from counts_eq nm rw]
 have s1:Same H _:=same_new np (.lst [.str (countsT nm rw)])
 have ep:upd H p (.lst [.str (countsT nm rw)]) p=_:=upd_same
 generalize upd H p (.lst [.str (countsT nm rw)])=H1 at s1 ep
 refine ⟨_,rfl,_,rfl,t,_,2,_,rfl,rfl,s1.tups.sq ht,at2 _ _ _ _,l,rfl,⟨_,SqL.of (s1 _ _ el)⟩,fun pc npc=>?_⟩
 refine comp_list (xs:=xs) (fun i H'=>Same H1 H'∧H' pc=some (.lst (((ds.take i).map lineT).map V.str))) ⟨same_new npc _,upd_same⟩ (fun i H' _ h=>SqL.of (h.1 _ _ (s1 _ _ el))) (fun i y H' ey h=>?_) (fun H' h=>?_)
 ·obtain ⟨sm,ea⟩:=h
  obtain ⟨d,ed,iy⟩:=il.get' ey
  have hi:i < ds.length:=(List.getElem?_eq_some_iff.mp ed).1
  obtain ⟨x,es,rfl,g⟩:=hd.gen ed
  obtain ⟨w1,w2,w3⟩:=line_words g (by omega) (by omega) (by omega) (by omega)
  obtain ⟨jk,_,_,_⟩:=row_of w1 w2 w3
  have s12:=s1.trans sm
  refine ⟨⟨[some y],rfl,rfl⟩,tTrue_ite ?_⟩
  refine ⟨rfl,_,rfl,y,x,es,nm,rw,i,ds.length,rfl,iy.mono s12.tups,g,by omega,by omega,by omega,by omega,fun H2 l2 s2 el2=>?_⟩
  refine ⟨_,l2,_,rfl,rfl,SqL.of el2,jk,_,s2 _ _ ea,small1000 (by rw [List.length_map,List.length_map,List.length_take]; omega),Same.new (sm.trans s2) npc,?_⟩
  rw [List.take_add_one,ed,List.map_append,List.map_append]
  exact upd_same
 ·obtain ⟨sm,ea⟩:=h
  rw [← ln,List.take_length] at ea
  refine ⟨p,pc,_,_,rfl,rfl,sm _ _ ep,ea,small (by rw [List.length_singleton,List.length_map,List.length_map]; omega),fun p2 np2=>?_⟩
  exact q _ p2 (s1.trans (sm.trans (same_new np2 _))) upd_same
end
abbrev s_head:Stmt:=top 58
abbrev s_ill:Stmt:=top 59
theorem sc_head:FnScope ["_law_cell_here", "_law_some"] ["_law_cell_here"] (defScope s_head):=⟨rfl,rfl,rfl,by decide +kernel,rfl,by decide +kernel,by decide +kernel⟩
theorem sc_ill:FnScope ["_law_cell_here", "_law_some"] ["_law_cell_here"] (defScope s_ill):=⟨rfl,rfl,rfl,by decide +kernel,rfl,by decide +kernel,by decide +kernel⟩
def spOf (L:List Str):Sp:=fun vs H Q _=>ExQ Q (fun (c:Int) Q=>vs=[.int c]∧∀ (t:Str) (H':Hp),t∈L→Same H H'→Q (.str t) H')
theorem at_of {L:List Str} {c k:Int} (hk:(L.length:Int)=k) (h:0 < L.length):∃ t,t∈L∧atI (L.map V.str) (c % k)=some (.str t):=by
 subst hk
 obtain ⟨j,v,e1,e2⟩:=atI_mod (xs:=L.map V.str) (c:=c) (by rw [List.length_map]; exact h)
 rw [List.length_map] at e1
 obtain ⟨t,ht,rfl⟩:=List.mem_map.mp (List.mem_of_getElem? e2)
 exact ⟨t,ht,e1⟩
theorem cat_of {H:Hp} {l:Addr} {A B:List V} {Q:V→Hp→Prop} (el:H l=some (.lst A)) (hz:A.length + B.length≤1000) (q:∀ (p:Addr) (H':Hp),Same H H'→H' p=some (.lst (A++B))→Q (.ref p) H') :
  ∀ b,H b=none→rCat (.ref l) (.ref b) (upd H b (.lst B)) Q:=fun b nb=>
 ⟨l,b,A,B,rfl,rfl,(same_new nb _) _ _ el,upd_same,small hz,fun p np=>q p _ ((same_new nb _).trans (same_new np _)) upd_same⟩
section
variable {P:Program} {w:World} {K:PySem.W.Frag} {mg:Str→Option Value} {base:Heap} {f:Addr} {fd:FuncData} {n:Nat}
theorem ok_head (F:Fun K "_law_head" "_law_head" s_head f fd):FnOk P w K mg base CX0 (n + 1) f fd ["_law_cell_here"] (spOf headL):=by
 refine F.ok sc_head (fun vs H Q E h=>?_) (fun cdv A outer s H vs Q E hr h=>?_)
 ·obtain ⟨c,rfl,_⟩:=h
  rfl
 obtain ⟨c,rfl,q⟩:=h
 have sc:=sc_head
 refine ⟨_,(@pss_cons _ _ _ _ _ (@ps_set _ _ 1 _ _ _ _ sc.nd rfl (Or.inl rfl) (@pe_lst _ _ _ _ (@pa_consts _ _ _ rfl)) rfl (by first | exact .inl rfl | exact .inr rfl))
   (@pss_cons _ _ _ _ _ (ps_set (i:=1) sc.nd rfl (Or.inl rfl) (pe_op op_cat (pv 1) (pe_lst (pa_consts rfl))))
   (@pss_cons _ _ _ _ _ (ps_set (i:=1) sc.nd rfl (Or.inl rfl) (pe_op op_cat (pv 1) (pe_lst (pa_consts rfl))))
   (@pss_cons _ _ _ _ _ (ps_set (i:=1) sc.nd rfl (Or.inl rfl) (pe_op op_cat (pv 1) (pe_lst (pa_consts rfl))))
   (pss_one (ps_ret (pe_ix ix_list (pv 1) (pe_op op_mod (pv 0) pe_int) (fun _ _=>rfl)))))))),?_⟩
 refine ⟨Nat.le_of_ble_eq_true rfl,fun l hl=>?_⟩
 refine ⟨_,rfl,Nat.le_of_ble_eq_true rfl,cat_of upd_same (Nat.le_of_ble_eq_true rfl) fun p1 H1 s1 e1=>?_⟩
 have s1:=(same_new hl _).trans s1
 refine ⟨_,rfl,Nat.le_of_ble_eq_true rfl,cat_of e1 (Nat.le_of_ble_eq_true rfl) fun p2 H2 s2 e2=>?_⟩
 refine ⟨_,rfl,Nat.le_of_ble_eq_true rfl,cat_of e2 (Nat.le_of_ble_eq_true rfl) fun p3 H3 s3 e3=>?_⟩
 obtain ⟨t,ht,e⟩:=at_of (L:=headL) (c:=c) (k:=23) rfl (by decide)
 exact ⟨_,rfl,_,rfl,_,_,rfl,rfl,by show (0:Int) < 23; decide,p3,_,_,_,rfl,rfl,SqL.of e3,e,q t H3 ht (s1.trans (s2.trans s3))⟩
theorem ok_ill (F:Fun K "_law_ill" "_law_ill" s_ill f fd):FnOk P w K mg base CX0 (n + 1) f fd ["_law_cell_here"] (spOf illL):=by
 refine F.ok sc_ill (fun vs H Q E h=>?_) (fun cdv A outer s H vs Q E hr h=>?_)
 ·obtain ⟨c,rfl,_⟩:=h
  rfl
 obtain ⟨c,rfl,q⟩:=h
 have sc:=sc_ill
 refine ⟨_,(@pss_cons _ _ _ _ _ (@ps_set _ _ 1 _ _ _ _ sc.nd rfl (Or.inl rfl) (@pe_lst _ _ _ _ (@pa_consts _ _ _ rfl)) rfl (by first | exact .inl rfl | exact .inr rfl))
   (pss_one (ps_ret (pe_ix ix_list (pv 1) (pe_op op_mod (pv 0) pe_int) (fun _ _=>rfl))))),?_⟩
 refine ⟨Nat.le_of_ble_eq_true rfl,fun l hl=>?_⟩
 obtain ⟨t,ht,e⟩:=at_of (L:=illL) (c:=c) (k:=16) rfl (by decide)
 exact ⟨_,rfl,_,rfl,_,_,rfl,rfl,by show (0:Int) < 16; decide,l,_,_,_,rfl,rfl,SqL.of upd_same,e,q t _ ht (same_new hl _)⟩
end
abbrev s_wrong:Stmt:=top 60
theorem sc_wrong:FnScope ["_law_cell_here", "_law_way", "_law_some"] ["_law_cell_here"] (defScope s_wrong):=⟨rfl,rfl,rfl,by decide +kernel,rfl,by decide +kernel,by decide +kernel⟩
def spWrong:Sp:=fun vs H Q _=>ExQ Q (fun (c:Int) Q=>vs=[.int c]∧∀ (t:Str) (H':Hp),Bad t→Same H H'→Q (.str t) H')
theorem ill_len:∀ t∈illL,t.length≤6:=by decide +kernel
theorem w3a_all:illL.all (fun t=>badB (Str.ofString "set n0 n0 "++t++Str.ofString " 0"))=true:=by decide +kernel
theorem w3b_all:illL.all (fun t=>badB (Str.ofString "test n0 - "++t++Str.ofString " 0 0"))=true:=by decide +kernel
def m1L:List Str:=illL++[Str.ofString "-1"]
def p4L:List Str:=["set n0 n0 1 ", "take n0 ", "test - - 0 0 "]
theorem w4_all:p4L.all (fun p=>m1L.all (fun t=>badB (p++t)))=true:=by decide +kernel
theorem m1_len:∀ t∈m1L,t.length≤6:=by decide +kernel
theorem p4_len:∀ t∈p4L,t.length≤13:=by decide +kernel
theorem w7_all:(List.range 9).all (fun k=>badB (Str.ofString "ask 0 0"++repT (Str.ofString " - - 1") (5 + k)) && decide ((repT (Str.ofString " - - 1") (5 + k)).length≤98))=true:=by decide +kernel
theorem bad_in {L:List Str} {t:Str} (h:L.all badB=true) (ht:t∈L):Bad t:=Bad.of (List.all_eq_true.mp h t ht)
section
variable {P:Program} {w:World} {K:PySem.W.Frag} {mg:Str→Option Value} {base:Heap} {f:Addr} {fd:FuncData} {n:Nat}
theorem ok_wrong (F:Fun K "_law_wrong" "_law_wrong" s_wrong f fd) (c_law_ill:Cl P w K mg base "_law_ill" n ["_law_cell_here"] (spOf illL)):FnOk P w K mg base CX0 (n + 1) f fd ["_law_cell_here"] spWrong:=by
 refine F.ok sc_wrong (fun vs H Q E h=>?_) (fun cdv A outer s H vs Q E hr h=>?_)
 ·obtain ⟨c,rfl,_⟩:=h
  rfl
 obtain ⟨c0,rfl,q⟩:=h
 have sc:=sc_wrong
 refine ⟨_,(@pss_cons _ _ _ _ _ (@ps_set _ _ (1) _ _ _ _ sc.nd rfl (Or.inl rfl) (@pe_op _ _ _ _ _ _ _ _ (@op_mod _) (@pv _ 0 _ _ (by walk_at "q") (by walk_at "q") (by walk_at "q") (by walk_at "q")) (@pe_int _ _ _ _)) (by walk_at "q") (by walk_at "q")) (@pss_cons _ _ _ _ _ (@ps_set _ _ (0) _ _ _ _ sc.nd rfl (Or.inl rfl) (@pe_op _ _ _ _ _ _ _ _ (@op_fdiv _) (@pv _ 0 _ _ (by walk_at "q") (by walk_at "q") (by walk_at "q") (by walk_at "q")) (@pe_int _ _ _ _)) (by walk_at "q") (by walk_at "q")) (@pss_cons _ _ _ _ _ (@ps_if _ _ _ _ _ _ _ _ (@pt_cmpR _ _ _ _ _ _ _ _ (@op_eq _) (@pv _ 1 _ _ (by walk_at "q") (by walk_at "q") (by walk_at "q") (by walk_at "q")) (@pe_int _ _ _ _) (nomark _)) (@pss_one _ _ _ (@ps_ret _ _ _ _ (@pe_ix _ _ _ _ _ _ _ (@ix_list _) (@pe_lst _ _ _ _ (@pa_consts _ _ _ rfl)) (@pe_op _ _ _ _ _ _ _ _ (@op_mod _) (@pv _ 0 _ _ (by walk_at "q") (by walk_at "q") (by walk_at "q") (by walk_at "q")) (@pe_int _ _ _ _)) (fun _ _=>rfl)))) (@pss_nil _)) (@pss_cons _ _ _ _ _ (@ps_if _ _ _ _ _ _ _ _ (@pt_cmpR _ _ _ _ _ _ _ _ (@op_eq _) (@pv _ 1 _ _ (by walk_at "q") (by walk_at "q") (by walk_at "q") (by walk_at "q")) (@pe_int _ _ _ _) (nomark _)) (@pss_cons _ _ _ _ _ (@ps_set _ _ 2 _ _ _ _ sc.nd rfl (Or.inl rfl) (@pe_lst _ _ _ _ (@pa_consts _ _ _ rfl)) rfl (by first | exact .inl rfl | exact .inr rfl)) (@pss_cons _ _ _ _ _ (@ps_set _ _ (2) _ _ _ _ sc.nd rfl (Or.inl rfl) (@pe_op _ _ _ _ _ _ _ _ (@op_cat _) (@pv _ 2 _ _ (by walk_at "q") (by walk_at "q") (by walk_at "q") (by walk_at "q")) (@pe_lst _ _ _ _ (@pa_consts _ _ _ rfl))) (by walk_at "q") (by walk_at "q")) (@pss_cons _ _ _ _ _ (@ps_set _ _ (2) _ _ _ _ sc.nd rfl (Or.inl rfl) (@pe_op _ _ _ _ _ _ _ _ (@op_cat _) (@pv _ 2 _ _ (by walk_at "q") (by walk_at "q") (by walk_at "q") (by walk_at "q")) (@pe_lst _ _ _ _ (@pa_consts _ _ _ rfl))) (by walk_at "q") (by walk_at "q")) (@pss_one _ _ _ (@ps_ret _ _ _ _ (@pe_ix _ _ _ _ _ _ _ (@ix_list _) (@pe_op _ _ _ _ _ _ _ _ (@op_cat _) (@pv _ 2 _ _ (by walk_at "q") (by walk_at "q") (by walk_at "q") (by walk_at "q")) (@pe_lst _ _ _ _ (@pa_consts _ _ _ rfl))) (@pe_op _ _ _ _ _ _ _ _ (@op_mod _) (@pv _ 0 _ _ (by walk_at "q") (by walk_at "q") (by walk_at "q") (by walk_at "q")) (@pe_int _ _ _ _)) (fun _ _=>rfl))))))) (@pss_nil _)) (@pss_cons _ _ _ _ _ (@ps_if _ _ _ _ _ _ _ _ (@pt_cmpR _ _ _ _ _ _ _ _ (@op_eq _) (@pv _ 1 _ _ (by walk_at "q") (by walk_at "q") (by walk_at "q") (by walk_at "q")) (@pe_int _ _ _ _) (nomark _)) (@pss_cons _ _ _ _ _ (@ps_set _ _ 2 _ _ _ _ sc.nd rfl (Or.inl rfl) (@pe_lst _ _ _ _ (@pa_consts _ _ _ rfl)) rfl (by first | exact .inl rfl | exact .inr rfl)) (@pss_cons _ _ _ _ _ (@ps_set _ _ (2) _ _ _ _ sc.nd rfl (Or.inl rfl) (@pe_op _ _ _ _ _ _ _ _ (@op_cat _) (@pv _ 2 _ _ (by walk_at "q") (by walk_at "q") (by walk_at "q") (by walk_at "q")) (@pe_lst _ _ _ _ (@pa_consts _ _ _ rfl))) (by walk_at "q") (by walk_at "q")) (@pss_cons _ _ _ _ _ (@ps_set _ _ (2) _ _ _ _ sc.nd rfl (Or.inl rfl) (@pe_op _ _ _ _ _ _ _ _ (@op_cat _) (@pv _ 2 _ _ (by walk_at "q") (by walk_at "q") (by walk_at "q") (by walk_at "q")) (@pe_lst _ _ _ _ (@pa_consts _ _ _ rfl))) (by walk_at "q") (by walk_at "q")) (@pss_cons _ _ _ _ _ (@ps_set _ _ (2) _ _ _ _ sc.nd rfl (Or.inl rfl) (@pe_op _ _ _ _ _ _ _ _ (@op_cat _) (@pv _ 2 _ _ (by walk_at "q") (by walk_at "q") (by walk_at "q") (by walk_at "q")) (@pe_lst _ _ _ _ (@pa_consts _ _ _ rfl))) (by walk_at "q") (by walk_at "q")) (@pss_cons _ _ _ _ _ (@ps_set _ _ (2) _ _ _ _ sc.nd rfl (Or.inl rfl) (@pe_op _ _ _ _ _ _ _ _ (@op_cat _) (@pv _ 2 _ _ (by walk_at "q") (by walk_at "q") (by walk_at "q") (by walk_at "q")) (@pe_lst _ _ _ _ (@pa_consts _ _ _ rfl))) (by walk_at "q") (by walk_at "q")) (@pss_one _ _ _ (@ps_ret _ _ _ _ (@pe_ix _ _ _ _ _ _ _ (@ix_list _) (@pv _ 2 _ _ (by walk_at "q") (by walk_at "q") (by walk_at "q") (by walk_at "q")) (@pe_op _ _ _ _ _ _ _ _ (@op_mod _) (@pv _ 0 _ _ (by walk_at "q") (by walk_at "q") (by walk_at "q") (by walk_at "q")) (@pe_int _ _ _ _)) (fun _ _=>rfl))))))))) (@pss_nil _)) (@pss_cons _ _ _ _ _ (@ps_if _ _ _ _ _ _ _ _ (@pt_cmpR _ _ _ _ _ _ _ _ (@op_eq _) (@pv _ 1 _ _ (by walk_at "q") (by walk_at "q") (by walk_at "q") (by walk_at "q")) (@pe_int _ _ _ _) (nomark _)) (@pss_one _ _ _ (@ps_ret _ _ _ _ (@pe_op _ _ _ _ _ _ _ _ (@op_add_str _) (@pe_op _ _ _ _ _ _ _ _ (@op_add_str _) (@pe_ix _ _ _ _ _ _ _ (@ix_list _) (@pe_lst _ _ _ _ (@pa_consts _ _ _ rfl)) (@pe_op _ _ _ _ _ _ _ _ (@op_mod _) (@pv _ 0 _ _ (by walk_at "q") (by walk_at "q") (by walk_at "q") (by walk_at "q")) (@pe_int _ _ _ _)) (fun _ _=>rfl)) (@pe_cl _ _ _ _ _ _ _ _ _ _ c_law_ill hr rfl (@pa_cons _ _ _ _ _ (@pe_op _ _ _ _ _ _ _ _ (@op_fdiv _) (@pv _ 0 _ _ (by walk_at "q") (by walk_at "q") (by walk_at "q") (by walk_at "q")) (@pe_int _ _ _ _)) (@pa_nil _) (by walk_at "q")) (by walk_at "q") (by walk_at "q") (by walk_at "q"))) (@pe_ix _ _ _ _ _ _ _ (@ix_list _) (@pe_lst _ _ _ _ (@pa_consts _ _ _ rfl)) (@pe_op _ _ _ _ _ _ _ _ (@op_mod _) (@pv _ 0 _ _ (by walk_at "q") (by walk_at "q") (by walk_at "q") (by walk_at "q")) (@pe_int _ _ _ _)) (fun _ _=>rfl))))) (@pss_nil _)) (@pss_cons _ _ _ _ _ (@ps_if _ _ _ _ _ _ _ _ (@pt_cmpR _ _ _ _ _ _ _ _ (@op_eq _) (@pv _ 1 _ _ (by walk_at "q") (by walk_at "q") (by walk_at "q") (by walk_at "q")) (@pe_int _ _ _ _) (nomark _)) (@pss_one _ _ _ (@ps_ret _ _ _ _ (@pe_op _ _ _ _ _ _ _ _ (@op_add_str _) (@pe_ix _ _ _ _ _ _ _ (@ix_list _) (@pe_lst _ _ _ _ (@pa_consts _ _ _ rfl)) (@pe_op _ _ _ _ _ _ _ _ (@op_mod _) (@pv _ 0 _ _ (by walk_at "q") (by walk_at "q") (by walk_at "q") (by walk_at "q")) (@pe_int _ _ _ _)) (fun _ _=>rfl)) (@pe_ix _ _ _ _ _ _ _ (@ix_list _) (@pe_lst _ _ _ _ (@pa_cons _ _ _ _ _ (@pe_cl _ _ _ _ _ _ _ _ _ _ c_law_ill hr rfl (@pa_cons _ _ _ _ _ (@pe_op _ _ _ _ _ _ _ _ (@op_fdiv _) (@pv _ 0 _ _ (by walk_at "q") (by walk_at "q") (by walk_at "q") (by walk_at "q")) (@pe_int _ _ _ _)) (@pa_nil _) (by walk_at "q")) (by walk_at "q") (by walk_at "q") (by walk_at "q")) (@pa_cons _ _ _ _ _ (@pe_str _ _ _ _) (@pa_nil _) (by walk_at "q")) (by walk_at "q"))) (@pe_op _ _ _ _ _ _ _ _ (@op_mod _) (@pe_op _ _ _ _ _ _ _ _ (@op_fdiv _) (@pv _ 0 _ _ (by walk_at "q") (by walk_at "q") (by walk_at "q") (by walk_at "q")) (@pe_int _ _ _ _)) (@pe_int _ _ _ _)) (fun _ _=>rfl))))) (@pss_nil _)) (@pss_cons _ _ _ _ _ (@ps_if _ _ _ _ _ _ _ _ (@pt_cmpR _ _ _ _ _ _ _ _ (@op_eq _) (@pv _ 1 _ _ (by walk_at "q") (by walk_at "q") (by walk_at "q") (by walk_at "q")) (@pe_int _ _ _ _) (nomark _)) (@pss_one _ _ _ (@ps_ret _ _ _ _ (@pe_ix _ _ _ _ _ _ _ (@ix_list _) (@pe_lst _ _ _ _ (@pa_consts _ _ _ rfl)) (@pe_op _ _ _ _ _ _ _ _ (@op_mod _) (@pv _ 0 _ _ (by walk_at "q") (by walk_at "q") (by walk_at "q") (by walk_at "q")) (@pe_int _ _ _ _)) (fun _ _=>rfl)))) (@pss_nil _)) (@pss_cons _ _ _ _ _ (@ps_if _ _ _ _ _ _ _ _ (@pt_cmpR _ _ _ _ _ _ _ _ (@op_eq _) (@pv _ 1 _ _ (by walk_at "q") (by walk_at "q") (by walk_at "q") (by walk_at "q")) (@pe_int _ _ _ _) (nomark _)) (@pss_cons _ _ _ _ _ (@ps_set _ _ 2 _ _ _ _ sc.nd rfl (Or.inl rfl) (@pe_lst _ _ _ _ (@pa_consts _ _ _ rfl)) rfl (by first | exact .inl rfl | exact .inr rfl)) (@pss_cons _ _ _ _ _ (@ps_set _ _ (2) _ _ _ _ sc.nd rfl (Or.inl rfl) (@pe_op _ _ _ _ _ _ _ _ (@op_cat _) (@pv _ 2 _ _ (by walk_at "q") (by walk_at "q") (by walk_at "q") (by walk_at "q")) (@pe_lst _ _ _ _ (@pa_consts _ _ _ rfl))) (by walk_at "q") (by walk_at "q")) (@pss_cons _ _ _ _ _ (@ps_set _ _ (2) _ _ _ _ sc.nd rfl (Or.inl rfl) (@pe_op _ _ _ _ _ _ _ _ (@op_cat _) (@pv _ 2 _ _ (by walk_at "q") (by walk_at "q") (by walk_at "q") (by walk_at "q")) (@pe_lst _ _ _ _ (@pa_consts _ _ _ rfl))) (by walk_at "q") (by walk_at "q")) (@pss_one _ _ _ (@ps_ret _ _ _ _ (@pe_ix _ _ _ _ _ _ _ (@ix_list _) (@pv _ 2 _ _ (by walk_at "q") (by walk_at "q") (by walk_at "q") (by walk_at "q")) (@pe_op _ _ _ _ _ _ _ _ (@op_mod _) (@pv _ 0 _ _ (by walk_at "q") (by walk_at "q") (by walk_at "q") (by walk_at "q")) (@pe_int _ _ _ _)) (fun _ _=>rfl))))))) (@pss_nil _)) (@pss_one _ _ _ (@ps_ret _ _ _ _ (@pe_op _ _ _ _ _ _ _ _ (@op_add_str _) (@pe_str _ _ _ _) (@pe_op _ _ _ _ _ _ _ _ (@op_repS _) (@pe_str _ _ _ _) (@pe_op _ _ _ _ _ _ _ _ (@op_add _) (@pe_int _ _ _ _) (@pe_op _ _ _ _ _ _ _ _ (@op_mod _) (@pv _ 0 _ _ (by walk_at "q") (by walk_at "q") (by walk_at "q") (by walk_at "q")) (@pe_int _ _ _ _)))))))))))))))),?_⟩
 refine ⟨_,rfl,_,_,rfl,rfl,by show (0:Int) < 8; decide,?_⟩
 refine ⟨_,rfl,_,_,rfl,rfl,⟨by decide,by decide⟩,?_⟩
 dsimp only [gName,tSeq,tIfS]
 generalize c0 / 8=c
 refine ⟨_,rfl,rfl,_,rfl,ite2 (fun cc=>?_) (fun cc=>?_)⟩
 ·refine ⟨Nat.le_of_ble_eq_true rfl,fun l hl=>?_⟩
  obtain ⟨t,ht,e⟩:=at_of (L:=w0L) (c:=c) (k:=10) rfl (by decide)
  exact ⟨_,rfl,_,_,rfl,rfl,by show (0:Int) < 10; decide,l,_,_,_,rfl,rfl,SqL.of upd_same,e,q t _ (bad_in w0_all ht) (same_new hl _)⟩
 refine ⟨_,rfl,rfl,_,rfl,ite2 (fun cc=>?_) (fun cc=>?_)⟩
 ·refine ⟨Nat.le_of_ble_eq_true rfl,fun l hl=>?_⟩
  refine ⟨_,rfl,Nat.le_of_ble_eq_true rfl,cat_of upd_same (Nat.le_of_ble_eq_true rfl) fun p1 H1 s1 e1=>?_⟩
  have s1:=(same_new hl _).trans s1
  refine ⟨_,rfl,Nat.le_of_ble_eq_true rfl,cat_of e1 (Nat.le_of_ble_eq_true rfl) fun p2 H2 s2 e2=>?_⟩
  have s2:=s1.trans s2
  refine ⟨_,rfl,Nat.le_of_ble_eq_true rfl,cat_of e2 (Nat.le_of_ble_eq_true rfl) fun p3 H3 s3 e3=>?_⟩
  have s3:=s2.trans s3
  obtain ⟨t,ht,e⟩:=at_of (L:=w1L) (c:=c) (k:=18) rfl (by decide)
  exact ⟨_,rfl,_,_,rfl,rfl,by show (0:Int) < 18; decide,p3,_,_,_,rfl,rfl,SqL.of e3,e,q t _ (bad_in w1_all ht) s3⟩
 refine ⟨_,rfl,rfl,_,rfl,ite2 (fun cc=>?_) (fun cc=>?_)⟩
 ·refine ⟨Nat.le_of_ble_eq_true rfl,fun l hl=>?_⟩
  refine ⟨_,rfl,Nat.le_of_ble_eq_true rfl,cat_of upd_same (Nat.le_of_ble_eq_true rfl) fun p1 H1 s1 e1=>?_⟩
  have s1:=(same_new hl _).trans s1
  refine ⟨_,rfl,Nat.le_of_ble_eq_true rfl,cat_of e1 (Nat.le_of_ble_eq_true rfl) fun p2 H2 s2 e2=>?_⟩
  have s2:=s1.trans s2
  refine ⟨_,rfl,Nat.le_of_ble_eq_true rfl,cat_of e2 (Nat.le_of_ble_eq_true rfl) fun p3 H3 s3 e3=>?_⟩
  have s3:=s2.trans s3
  refine ⟨_,rfl,Nat.le_of_ble_eq_true rfl,cat_of e3 (Nat.le_of_ble_eq_true rfl) fun p4 H4 s4 e4=>?_⟩
  have s4:=s3.trans s4
  obtain ⟨t,ht,e⟩:=at_of (L:=w2L) (c:=c) (k:=28) rfl (by decide)
  exact ⟨_,rfl,_,rfl,_,_,rfl,rfl,by show (0:Int) < 28; decide,p4,_,_,_,rfl,rfl,SqL.of e4,e,q t _ (bad_in w2_all ht) s4⟩
 refine ⟨_,rfl,rfl,_,rfl,ite2 (fun cc=>?_) (fun cc=>?_)⟩
 ·refine ⟨Nat.le_of_ble_eq_true rfl,fun l hl=>?_⟩
  have s1:=same_new hl (.lst [.str "set n0 n0 ",.str "test n0 - "])
  have c2:c % 2=0∨c % 2=1:=by omega
  rcases c2 with ec | ec
  ·refine ⟨_,rfl,_,_,rfl,rfl,by show (0:Int) < 2; decide,l,_,c % 2,.str "set n0 n0 ",rfl,rfl,SqL.of upd_same,by rw [ec]; exact at0 _ _,?_⟩
   refine ⟨_,rfl,_,_,rfl,rfl,⟨by decide,by decide⟩,_,rfl,fun t H2 ht s2=>?_⟩
   have tl:=ill_len t ht
   refine ⟨_,_,rfl,rfl,small (by show 10 + t.length≤_; omega),Nat.le_of_ble_eq_true rfl,fun l2 hl2=>?_⟩
   have s3:=same_new hl2 (.lst [.str " 0",.str " 0 0"])
   refine ⟨_,rfl,_,_,rfl,rfl,by show (0:Int) < 2; decide,l2,_,c % 2,.str " 0",rfl,rfl,SqL.of upd_same,by rw [ec]; exact at0 _ _,_,_,rfl,rfl,small (by rw [len_app]; show 10 + t.length + 2≤_; omega),?_⟩
   exact q _ _ (Bad.of (List.all_eq_true.mp w3a_all t ht)) (s1.trans (s2.trans s3))
  ·refine ⟨_,rfl,_,_,rfl,rfl,by show (0:Int) < 2; decide,l,_,c % 2,.str "test n0 - ",rfl,rfl,SqL.of upd_same,by rw [ec]; exact at1 _ _ _,?_⟩
   refine ⟨_,rfl,_,_,rfl,rfl,⟨by decide,by decide⟩,_,rfl,fun t H2 ht s2=>?_⟩
   have tl:=ill_len t ht
   refine ⟨_,_,rfl,rfl,small (by show 10 + t.length≤_; omega),Nat.le_of_ble_eq_true rfl,fun l2 hl2=>?_⟩
   have s3:=same_new hl2 (.lst [.str " 0",.str " 0 0"])
   refine ⟨_,rfl,_,_,rfl,rfl,by show (0:Int) < 2; decide,l2,_,c % 2,.str " 0 0",rfl,rfl,SqL.of upd_same,by rw [ec]; exact at1 _ _ _,_,_,rfl,rfl,small (by rw [len_app]; show 10 + t.length + 4≤_; omega),?_⟩
   exact q _ _ (Bad.of (List.all_eq_true.mp w3b_all t ht)) (s1.trans (s2.trans s3))
 refine ⟨_,rfl,rfl,_,rfl,ite2 (fun cc=>?_) (fun cc=>?_)⟩
 ·refine ⟨Nat.le_of_ble_eq_true rfl,fun l hl=>?_⟩
  have s1:=same_new hl (.lst (p4L.map V.str))
  obtain ⟨x,hx,ex⟩:=at_of (L:=p4L) (c:=c) (k:=3) rfl (by decide)
  have xl:=p4_len x hx
  refine ⟨_,rfl,_,_,rfl,rfl,by show (0:Int) < 3; decide,l,p4L.map V.str,c % 3,.str x,rfl,rfl,SqL.of upd_same,ex,?_⟩
  refine ⟨_,rfl,_,_,rfl,rfl,⟨by decide,by decide⟩,_,rfl,fun t H2 ht s2=>?_⟩
  refine ⟨Nat.le_of_ble_eq_true rfl,fun l2 hl2=>?_⟩
  have s3:=same_new hl2 (.lst [.str t,.str "-1"])
  have fin:∀ u∈m1L,∃ i j,V.str x=.str i∧V.str u=.str j∧i.length + j.length≤sizeLine∧Q (.str (i++j)) (upd H2 l2 (.lst [.str t,.str "-1"])):=fun u hu=>by
   have ul:=m1_len u hu
   exact ⟨_,_,rfl,rfl,small (by omega),q _ _ (Bad.of (List.all_eq_true.mp (List.all_eq_true.mp w4_all x hx) u hu)) (s1.trans (s2.trans s3))⟩
  have c2:c / 48 % 2=0∨c / 48 % 2=1:=by omega
  refine ⟨_,rfl,_,_,rfl,rfl,⟨by decide,by decide⟩,_,_,rfl,rfl,by show (0:Int) < 2; decide,l2,[.str t,.str "-1"],c / 48 % 2,?_⟩
  rcases c2 with ec | ec
  ·exact ⟨.str t,rfl,rfl,SqL.of upd_same,by rw [ec]; exact at0 _ _,fin t (List.mem_append_left _ ht)⟩
  ·exact ⟨.str "-1",rfl,rfl,SqL.of upd_same,by rw [ec]; exact at1 _ _ _,fin "-1" (List.mem_append_right _ (List.mem_singleton.mpr rfl))⟩
 refine ⟨_,rfl,rfl,_,rfl,ite2 (fun cc=>?_) (fun cc=>?_)⟩
 ·refine ⟨Nat.le_of_ble_eq_true rfl,fun l hl=>?_⟩
  obtain ⟨t,ht,e⟩:=at_of (L:=w5L) (c:=c) (k:=5) rfl (by decide)
  exact ⟨_,rfl,_,_,rfl,rfl,by show (0:Int) < 5; decide,l,_,_,_,rfl,rfl,SqL.of upd_same,e,q t _ (bad_in w5_all ht) (same_new hl _)⟩
 refine ⟨_,rfl,rfl,_,rfl,ite2 (fun cc=>?_) (fun cc=>?_)⟩
 ·refine ⟨Nat.le_of_ble_eq_true rfl,fun l hl=>?_⟩
  refine ⟨_,rfl,Nat.le_of_ble_eq_true rfl,cat_of upd_same (Nat.le_of_ble_eq_true rfl) fun p1 H1 s1 e1=>?_⟩
  have s1:=(same_new hl _).trans s1
  refine ⟨_,rfl,Nat.le_of_ble_eq_true rfl,cat_of e1 (Nat.le_of_ble_eq_true rfl) fun p2 H2 s2 e2=>?_⟩
  have s2:=s1.trans s2
  obtain ⟨t,ht,e⟩:=at_of (L:=w6L) (c:=c) (k:=17) rfl (by decide)
  exact ⟨_,rfl,_,rfl,_,_,rfl,rfl,by show (0:Int) < 17; decide,p2,_,_,_,rfl,rfl,SqL.of e2,e,q t _ (bad_in w6_all ht) s2⟩
 have h9:(c % 9).toNat∈List.range 9:=List.mem_range.mpr (by omega)
 have hb:=List.all_eq_true.mp w7_all _ h9
 rw [Bool.and_eq_true,decide_eq_true_eq,show 5 + (c % 9).toNat=(5 + c % 9).toNat by omega] at hb
 refine ⟨_,rfl,_,_,rfl,rfl,by show (0:Int) < 9; decide,_,_,rfl,rfl,_,_,rfl,rfl,by omega,by omega,Nat.le_of_ble_eq_true rfl,Nat.le_of_ble_eq_true rfl,by omega,_,_,rfl,rfl,small (by have:=hb.2; show 7 + _≤_; omega),?_⟩
 exact q _ _ (Bad.of hb.1) (Same.refl H)
end
abbrev s_told:Stmt:=top 61
theorem sc_told:FnScope ["_law_text", "_law_caught", "e"] ["_law_text"] (defScope s_told):=⟨rfl,rfl,rfl,by decide +kernel,rfl,by decide +kernel,by decide +kernel⟩
inductive RO where
 | bad (i:Int)
 | no (v:V)
def ReadR (r0:Str) (rs:List Str):RO→Prop
 | .bad i=>(cntsO r0=none∧i=0)∨∃ nm rw j r,cntsO r0=some (nm,rw)∧rs[j]?=some r∧linO r=none∧(∀ r'∈rs.take j,linO r'≠none)∧i=(j:Int) + 1
 | .no v=>∃ nm rw ds,cntsO r0=some (nm,rw)∧seqO linO rs=some ds∧(∀ d∈ds,LineX d)∧Verd nm rw ds (some v)
structure TextR (ts:List Str):Prop where
 row:∀ t∈ts,RowS t
 len:ts.length≤90
abbrev joinN (ts:List Str):Str:=Txt.join (Str.ofString "\n") ts
section
variable {K:PySem.W.Frag} {CB CN:Addr} {r0:Str} {rs:List Str} {H:Hp} {Q:VK} {E:XK}
theorem read_bad {i:Int} (ht:TextR (r0::rs)) (h:ReadR r0 rs (.bad i)) (hE:Fails CB "at" (.int i) H E):spRead K CB CN [.str (joinN (r0::rs))] H Q E:=by
 obtain ⟨_,e2,e3⟩:=rows_text (ts:=r0::rs) (by simp) ht.row ht.len
 have hl:=ht.len
 rw [List.length_cons] at hl
 refine ⟨_,r0,rs,rfl,e2,e3,(ht.row r0 List.mem_cons_self).wd,fun r hr=>(ht.row r (List.mem_cons_of_mem _ hr)).wd,by omega,fun hn=>?_,fun nm rw hc=>⟨fun j r er hr hb=>?_,fun ds hs=>?_⟩⟩
 ·rcases h with ⟨_,rfl⟩ | ⟨nm,rw,j,r,hc,_⟩
  ·exact hE
  ·rw [hn] at hc; cases hc
 ·rcases h with ⟨hn,_⟩ | ⟨_,_,j0,r',_,er',hr',hb',rfl⟩
  ·rw [hn] at hc; cases hc
  ·have:j=j0:=by
    rcases Nat.lt_trichotomy j j0 with z | z | z
    ·exact absurd hr (hb' r (List.mem_of_getElem? (i:=j) (by rw [List.getElem?_take,if_pos z]; exact er)))
    ·exact z
    ·exact absurd hr' (hb r' (List.mem_of_getElem? (i:=j0) (by rw [List.getElem?_take,if_pos z]; exact er')))
   subst this
   exact hE
 ·rcases h with ⟨hn,_⟩ | ⟨_,_,j0,r',_,er',hr',_⟩
  ·rw [hn] at hc; cases hc
  ·rw [seq_none (List.mem_of_getElem? er') hr'] at hs; cases hs
theorem read_all {nm rw:Int} {ds:List D} {res:Option V} (ht:TextR (r0::rs)) (hc:cntsO r0=some (nm,rw)) (hs:seqO linO rs=some ds) (hx:∀ d∈ds,LineX d) (hv:Verd nm rw ds res)
  (hq:res=none→∀ (H':Hp) (t l:Addr) (xs:List V),Same H H'→H' t=some (.tup [.int nm,.int rw,.ref l])→H' l=some (.lst xs)→IsL K H' ds xs→Q (.ref t) H') (hE:∀ v,res=some v→Fails CN "line" v H E):spRead K CB CN [.str (joinN (r0::rs))] H Q E:=by
 obtain ⟨_,e2,e3⟩:=rows_text (ts:=r0::rs) (by simp) ht.row ht.len
 have hl:=ht.len
 rw [List.length_cons] at hl
 refine ⟨_,r0,rs,rfl,e2,e3,(ht.row r0 List.mem_cons_self).wd,fun r hr=>(ht.row r (List.mem_cons_of_mem _ hr)).wd,by omega,fun hn=>?_,fun nm' rw' hc'=>⟨fun j r er hr hb=>?_,fun ds' hs'=>?_⟩⟩
 ·rw [hn] at hc; cases hc
 ·rw [seq_none (List.mem_of_getElem? er) hr] at hs; cases hs
 ·rw [hc] at hc'
  cases hc'
  rw [hs] at hs'
  cases hs'
  exact ⟨hx,res,hv,hq,hE⟩
end
structure XF (K:PySem.W.Frag) (a_NoProgram a_SpareError a_BadRow a_NoPaper a_NoLoop:Addr):Prop where
 gB:XGet K a_BadRow
 naB:NoAttr K a_BadRow "at"
 exB:PySem.W.exmOne K (.ref a_BadRow) (.ref a_SpareError)=some true
 b1:PySem.W.kitOne K (.ref a_BadRow) (.type "ValueError")=some true
 b2:PySem.W.kitOne K (.ref a_BadRow) (.ref a_NoPaper)=some false
 b3:PySem.W.kitOne K (.ref a_BadRow) (.ref a_NoLoop)=some false
 b4:PySem.W.kitOne K (.ref a_BadRow) (.ref a_NoProgram)=some false
 gN:XGet K a_NoProgram
 naN:NoAttr K a_NoProgram "line"
 exN:PySem.W.exmOne K (.ref a_NoProgram) (.ref a_SpareError)=some true
 n1:PySem.W.kitOne K (.ref a_NoProgram) (.type "ValueError")=some true
 n2:PySem.W.kitOne K (.ref a_NoProgram) (.ref a_NoPaper)=some false
 n3:PySem.W.kitOne K (.ref a_NoProgram) (.ref a_NoLoop)=some false
 n4:PySem.W.kitOne K (.ref a_NoProgram) (.ref a_BadRow)=some false
def toldT:RO→List V
 | .bad i=>[.str "row",.int i]
 | .no v=>[.str "line",v]
def spTold:Sp:=fun vs H Q _=>ExQ Q (fun (r0:Str) Q=>ExQ Q (fun (rs:List Str) Q=>ExQ Q (fun (o:RO) Q=>vs=[.str (joinN (r0::rs))]∧TextR (r0::rs)∧ReadR r0 rs o∧(∀ v,o=.no v→v=.non∨∃ i,v=.int i)∧∀ t H',Same H H'→H' t=some (.tup (toldT o))→Q (.ref t) H')))
section
variable {P:Program} {w:World} {K:PySem.W.Frag} {mg:Str→Option Value} {base:Heap} {f:Addr} {fd:FuncData} {n:Nat}
theorem ok_told {a_NoProgram a_SpareError a_BadRow a_NoPaper a_NoLoop:Addr} (F:Fun K "_law_told" "_law_told" s_told f fd) (T:XF K a_NoProgram a_SpareError a_BadRow a_NoPaper a_NoLoop)
  (m_isinstance:mg "isinstance" = none) (m_bool:mg "bool" = none) (m_ValueError:mg "ValueError" = none) (m_NoProgram:mg "NoProgram" = some (.ref a_NoProgram)) (m_SpareError:mg "SpareError" = some (.ref a_SpareError))
  (m_BadRow:mg "BadRow" = some (.ref a_BadRow)) (m_NoPaper:mg "NoPaper" = some (.ref a_NoPaper)) (m_NoLoop:mg "NoLoop" = some (.ref a_NoLoop))
  (c_read:ClX P w K mg base "read" n ["text"] (spRead K a_BadRow a_NoProgram)):FnOk P w K mg base CX0 (n + 1) f fd ["_law_text"] spTold:=by
 refine F.ok sc_told (fun vs H Q E h=>?_) (fun cdv A outer s H vs Q E hr h=>?_)
 ·obtain ⟨r0,rs,o,rfl,_⟩:=h
  rfl
 obtain ⟨r0,rs,o,rfl,ht,hR,hv,q⟩:=h
 have sc:=sc_told
 let EE:XK:=fun cls od H'=>∃ dx,od=some dx∧Same H H'∧((∃ i,o=.bad i∧cls=.ref a_BadRow∧H' dx=some (.xd [("at",.int i)]))∨∃ v,o=.no v∧cls=.ref a_NoProgram∧H' dx=some (.xd [("line",v)]))
 refine ⟨_,(@pss_cons _ _ _ _ _ (ps_set (i:=1) sc.nd rfl (Or.inl rfl) pe_non)
   (@pss_cons _ _ _ _ _ (ps_try (E:=EE) (i:=2) rfl rfl sc.nd rfl rfl rfl m_SpareError (fun _=>(pss_one (ps_expr (pe_clx c_read hr rfl (pa_cons (pv 0) pa_nil))))) (fun _=>(pss_one (ps_set (i:=1) sc.nd rfl (Or.inl rfl) (pv 2)))))
   (@pss_cons _ _ _ _ _ (ps_if (pt_cmpR op_isN (pv 1) pe_non (nomark _)) (pss_one (ps_ret (pe_tup (pa_cons pe_str pa_nil)))) pss_nil)
   (@pss_cons _ _ _ _ _ (ps_if (PW.pt (pw_or (pt_not (pt_val (pe_callB call_isX rfl m_isinstance PyProof.Rows.boot_isinstance (pa_cons (pv 1) (pa_cons (pe_bltn rfl m_ValueError (by rfl) (v:=.ty "ValueError") rfl) pa_nil))))) (pw_or (pt_val (pe_callB call_isX rfl m_isinstance PyProof.Rows.boot_isinstance (pa_cons (pv 1) (pa_cons (pe_glob rfl m_NoPaper (v:=.ref a_NoPaper) rfl) pa_nil)))) (pw_or1 (pt_val (pe_callB call_isX rfl m_isinstance PyProof.Rows.boot_isinstance (pa_cons (pv 1) (pa_cons (pe_glob rfl m_NoLoop (v:=.ref a_NoLoop) rfl) pa_nil)))))))) (pss_one (ps_ret (pe_tup (pa_cons pe_str pa_nil)))) pss_nil)
   (@pss_cons _ _ _ _ _ (ps_if (PW.pt (pw_and (pt_val (pe_callB call_isX rfl m_isinstance PyProof.Rows.boot_isinstance (pa_cons (pv 1) (pa_cons (pe_glob rfl m_BadRow (v:=.ref a_BadRow) rfl) pa_nil)))) (pw_and (pt_not (pt_val (pe_callB call_isX rfl m_isinstance PyProof.Rows.boot_isinstance (pa_cons (pv 1) (pa_cons (pe_glob rfl m_NoProgram (v:=.ref a_NoProgram) rfl) pa_nil))))) (pw_and1 (pt_not (pt_val (pe_callB call_isi rfl m_isinstance PyProof.Rows.boot_isinstance (pa_cons (pe_xfld (pv 1) rfl) (pa_cons (pe_bltn rfl m_bool PyProof.Rows.boot_bool (v:=.ty "bool") rfl) pa_nil))))))))) (pss_one (ps_ret (pe_tup (pa_cons pe_str (pa_cons (pe_xfld (pv 1) rfl) pa_nil))))) pss_nil)
   (@pss_cons _ _ _ _ _ (ps_if (PW.pt (pw_and (pt_val (pe_callB call_isX rfl m_isinstance PyProof.Rows.boot_isinstance (pa_cons (pv 1) (pa_cons (pe_glob rfl m_NoProgram (v:=.ref a_NoProgram) rfl) pa_nil)))) (pw_and (pt_not (pt_val (pe_callB call_isX rfl m_isinstance PyProof.Rows.boot_isinstance (pa_cons (pv 1) (pa_cons (pe_glob rfl m_BadRow (v:=.ref a_BadRow) rfl) pa_nil))))) (pw_and1 (pt_not (pt_val (pe_callB call_isi rfl m_isinstance PyProof.Rows.boot_isinstance (pa_cons (pe_xfld (pv 1) rfl) (pa_cons (pe_bltn rfl m_bool PyProof.Rows.boot_bool (v:=.ty "bool") rfl) pa_nil))))))))) (pss_one (ps_ret (pe_tup (pa_cons pe_str (pa_cons (pe_xfld (pv 1) rfl) pa_nil))))) pss_nil)
   (pss_one (ps_ret (pe_tup (pa_cons pe_str pa_nil)))))))))),?_⟩
 refine ⟨⟨_,rfl,?_⟩,fun a C dx H1 ea hE=>?_⟩
 ·cases o with
  | bad i=>exact read_bad ht hR fun H' x dx s1 e1 e2=>⟨dx,rfl,s1,.inl ⟨i,rfl,rfl,e2⟩⟩
  | no v=>
   obtain ⟨nm,rw,ds,hc,hs,hx,hvd⟩:=hR
   exact read_all ht hc hs hx hvd (fun z=>nomatch z) fun v' e=>by
    cases e
    exact fun H' x dx s1 e1 e2=>⟨dx,rfl,s1,.inr ⟨v,rfl,rfl,e2⟩⟩
 ·obtain ⟨dx',ed',s1,hE⟩:=hE
  cases ed'
  rcases hE with ⟨i,rfl,ec,ed⟩ | ⟨v,rfl,ec,ed⟩
  ·cases ec
   refine ⟨T.exB,⟨_,rfl,?_⟩⟩
   refine ⟨_,rfl,rfl,_,rfl,iteF ?_⟩
   have ks:PySem.W.kitOne K (.ref a_BadRow) (.ref a_BadRow)=some true:=by unfold PySem.W.kitOne; rw [if_pos (beq_self_eq_true _)]
   refine ⟨_,rfl,a,_,dx,_,_,_,true,rfl,ea,ed,T.gB,.inr ⟨_,rfl,rfl⟩,T.b1,_,rfl,iteF ?_⟩
   refine ⟨_,rfl,a,_,dx,_,_,_,false,rfl,ea,ed,T.gB,.inl ⟨_,rfl,rfl⟩,T.b2,_,rfl,iteF ?_⟩
   refine ⟨_,rfl,a,_,dx,_,_,_,false,rfl,ea,ed,T.gB,.inl ⟨_,rfl,rfl⟩,T.b3,_,rfl,iteF ?_⟩
   refine ⟨_,rfl,a,_,dx,_,_,_,true,rfl,ea,ed,T.gB,.inl ⟨_,rfl,rfl⟩,ks,_,rfl,iteT ?_⟩
   refine ⟨_,rfl,a,_,dx,_,_,_,false,rfl,ea,ed,T.gB,.inl ⟨_,rfl,rfl⟩,T.b4,_,rfl,iteT ?_⟩
   refine ⟨_,rfl,a,_,dx,_,_,rfl,ea,ed,T.gB,T.naB,rfl,_,_,_,false,rfl,.int i,by with_unfolding_all rfl,_,rfl,iteT ?_⟩
   exact ⟨_,rfl,a,_,dx,_,_,rfl,ea,ed,T.gB,T.naB,rfl,Nat.le_of_ble_eq_true rfl,fun t nt=>q t _ (s1.trans (same_new nt _)) upd_same⟩
  ·cases ec
   refine ⟨T.exN,⟨_,rfl,?_⟩⟩
   refine ⟨_,rfl,rfl,_,rfl,iteF ?_⟩
   have ks:PySem.W.kitOne K (.ref a_NoProgram) (.ref a_NoProgram)=some true:=by unfold PySem.W.kitOne; rw [if_pos (beq_self_eq_true _)]
   refine ⟨_,rfl,a,_,dx,_,_,_,true,rfl,ea,ed,T.gN,.inr ⟨_,rfl,rfl⟩,T.n1,_,rfl,iteF ?_⟩
   refine ⟨_,rfl,a,_,dx,_,_,_,false,rfl,ea,ed,T.gN,.inl ⟨_,rfl,rfl⟩,T.n2,_,rfl,iteF ?_⟩
   refine ⟨_,rfl,a,_,dx,_,_,_,false,rfl,ea,ed,T.gN,.inl ⟨_,rfl,rfl⟩,T.n3,_,rfl,iteF ?_⟩
   refine ⟨_,rfl,a,_,dx,_,_,_,false,rfl,ea,ed,T.gN,.inl ⟨_,rfl,rfl⟩,T.n4,_,rfl,iteF ?_⟩
   refine iteF ?_
   refine ⟨_,rfl,a,_,dx,_,_,_,true,rfl,ea,ed,T.gN,.inl ⟨_,rfl,rfl⟩,ks,_,rfl,iteT ?_⟩
   refine ⟨_,rfl,a,_,dx,_,_,_,false,rfl,ea,ed,T.gN,.inl ⟨_,rfl,rfl⟩,T.n4,_,rfl,iteT ?_⟩
   have fin:tRet (tTup (tCons (tC (V.str "line")) (tCons (tXfld K (tVar 1) "line") tNil))) { nx:=fun _ H'=>Q .non H',rt:=Q } [none,some (.ref a),none] H1:=
    ⟨_,rfl,a,_,dx,_,v,rfl,ea,ed,T.gN,T.naN,rfl,Nat.le_of_ble_eq_true rfl,fun t nt=>q t _ (s1.trans (same_new nt _)) upd_same⟩
   rcases hv v rfl with rfl | ⟨j,rfl⟩
   ·exact ⟨_,rfl,a,_,dx,_,_,rfl,ea,ed,T.gN,T.naN,rfl,_,_,_,false,rfl,.non,by with_unfolding_all rfl,_,rfl,iteT fin⟩
   ·exact ⟨_,rfl,a,_,dx,_,_,rfl,ea,ed,T.gN,T.naN,rfl,_,_,_,false,rfl,.int j,by with_unfolding_all rfl,_,rfl,iteT fin⟩
end
abbrev s_not_there:Stmt:=top 62
theorem sc_not_there:FnScope ["_law_rows_here", "_law_program_here", "_law_cell_here", "_law_names", "_law_many", "_law_some", "_law_at"] ["_law_rows_here", "_law_program_here", "_law_cell_here"] (defScope s_not_there):=⟨rfl,rfl,rfl,by decide +kernel,rfl,by decide +kernel,by decide +kernel⟩
theorem joinT (ts:List Str):Txt.join (Str.ofString " ") ts=Str.join (one 32) ts:=StrLaws.glued_eq_join _ _
theorem row_set (i:Int):(Str.ofString "set n"++numT i)++Str.ofString " - 1 0" = lineT (.tup (.str "set"::[.int i,.non,.int 1,.int 0])):=by
 refine str_ext ?_
 show _=cp (Txt.join (Str.ofString " ") (lineW "set" [.int i,.non,.int 1,.int 0]))
 rw [joinT,show lineW "set" [.int i,.non,.int 1,.int 0]=[Str.ofString "set",Str.ofString "n"++numT i, "-", "1", "0"] from rfl]
 rw [join_two,join_two,join_two,join_two,cp_app,cp_app,cp_app]
 rfl
theorem row_tell (i:Int):(Str.ofString "tell n"++numT i)++Str.ofString " 0" = lineT (.tup (.str "tell"::[.int i,.int 0])):=by
 refine str_ext ?_
 show _=cp (Txt.join (Str.ofString " ") (lineW "tell" [.int i,.int 0]))
 rw [joinT,show lineW "tell" [.int i,.int 0]=[Str.ofString "tell",Str.ofString "n"++numT i, "0"] from rfl]
 rw [join_two,join_two,cp_app,cp_app,cp_app]
 rfl
theorem row_len (i:Int):(Str.ofString "len n0 r"++numT i)++Str.ofString " 0" = lineT (.tup (.str "len"::[.int 0,.int i,.int 0])):=by
 refine str_ext ?_
 show _=cp (Txt.join (Str.ofString " ") (lineW "len" [.int 0,.int i,.int 0]))
 rw [joinT,show lineW "len" [.int 0,.int i,.int 0]=[Str.ofString "len", "n0",Str.ofString "r"++numT i, "0"] from rfl]
 rw [join_two,join_two,join_two,cp_app,cp_app,cp_app]
 rfl
theorem row_take (i:Int):Str.ofString "take n0 "++numT i=lineT (.tup (.str "take"::[.int 0,.int i])):=by
 refine str_ext ?_
 show _=cp (Txt.join (Str.ofString " ") (lineW "take" [.int 0,.int i]))
 rw [joinT,show lineW "take" [.int 0,.int i]=[Str.ofString "take", "n0",Str.ofString ""++numT i] from rfl,nil_app]
 rw [join_two,join_two,cp_app]
 rfl
theorem row_test (i:Int):Str.ofString "test - - 0 0 "++numT i=lineT (.tup (.str "test"::[.non,.non,.int 0,.int 0,.int i])):=by
 refine str_ext ?_
 show _=cp (Txt.join (Str.ofString " ") (lineW "test" [.non,.non,.int 0,.int 0,.int i]))
 rw [joinT,show lineW "test" [.non,.non,.int 0,.int 0,.int i]=[Str.ofString "test", "-", "-", "0", "0",Str.ofString ""++numT i] from rfl,nil_app]
 rw [join_two,join_two,join_two,join_two,join_two,cp_app]
 rfl
structure NT (nm rw:Int) (n:Nat) (row:Str) (d:D):Prop where
 lin:linO row=some d
 row:RowS row
 x:LineX d
 no:lineFitsD nm rw n d=false
theorem there_f {i c:Int} (h:c≤i):isThere i c=false:=by
 unfold isThere
 rw [decide_eq_false (show ¬ i < c by omega),Bool.and_false]
theorem LineG.x {nm rw at_:Int} {many:Nat} {x:Str} {ds:List D} (h:LineG nm rw at_ many x ds) (h0:0≤at_):LineX (.tup (.str x::ds)):=by
 obtain ⟨ks,h1,h2,h3,_⟩:=h.fits h0
 exact ⟨x,ds,ks,rfl,h1,h2,h3⟩
theorem nt_of {nm rw:Int} {n:Nat} {x:Str} {es:List D} (g:LineG 1000 1000 0 (1000:Nat) x es) (hn:lineFitsD nm rw n (.tup (.str x::es))=false):NT nm rw n (lineT (.tup (.str x::es))) (.tup (.str x::es)):=by
 obtain ⟨r1,r2,r3,r4⟩:=lin_o g (by decide) (by decide) (by decide) (by decide)
 exact ⟨r1,⟨r2,r3,r4⟩,g.x (by decide),hn⟩
theorem nt_set {nm rw:Int} {n:Nat} (h0:0≤nm) (h:nm≤6):NT nm rw n (lineT (.tup (.str "set"::[.int nm,.non,.int 1,.int 0]))) (.tup (.str "set"::[.int nm,.non,.int 1,.int 0])):=by
 refine nt_of (.plain (by decide) rfl (.cons (.name nm h0 (by omega)) (.cons .none_ (.cons (.number 1 (by decide) (by decide)) (.cons (.way 0 (by decide) (by decide)) .nil))))) ?_
 rw [lineFitsD_of (ks:=["name", "value", "number", "way"]) rfl]
 show ([isThere nm nm,true,isWritten 1,isThere 0 n].all id)=false
 rw [there_f (Int.le_refl _)]; rfl
theorem nt_tell {nm rw i:Int} {n:Nat} (h0:0≤nm) (h1:nm≤i) (h:i≤200):NT nm rw n (lineT (.tup (.str "tell"::[.int i,.int 0]))) (.tup (.str "tell"::[.int i,.int 0])):=by
 refine nt_of (.plain (by decide) rfl (.cons (.name i (by omega) (by omega)) (.cons (.way 0 (by decide) (by decide)) .nil))) ?_
 rw [lineFitsD_of (ks:=["name", "way"]) rfl]
 show ([isThere i nm,isThere 0 n].all id)=false
 rw [there_f h1]; rfl
theorem nt_len {nm rw:Int} {n:Nat} (h0:0≤rw) (h:rw≤6):NT nm rw n (lineT (.tup (.str "len"::[.int 0,.int rw,.int 0]))) (.tup (.str "len"::[.int 0,.int rw,.int 0])):=by
 refine nt_of (.plain (by decide) rfl (.cons (.name 0 (by decide) (by decide)) (.cons (.row rw h0 (by omega)) (.cons (.way 0 (by decide) (by decide)) .nil)))) ?_
 rw [lineFitsD_of (ks:=["name", "row", "way"]) rfl]
 show ([isThere 0 nm,isThere rw rw,isThere 0 n].all id)=false
 rw [there_f (Int.le_refl _)]
 show (isThere 0 nm && false)=false
 rw [Bool.and_false]
theorem nt_take {nm rw i:Int} {n:Nat} (h1:(n:Int)≤i) (h:i≤200):NT nm rw n (lineT (.tup (.str "take"::[.int 0,.int i]))) (.tup (.str "take"::[.int 0,.int i])):=by
 refine nt_of (.plain (by decide) rfl (.cons (.name 0 (by decide) (by decide)) (.cons (.way i (by omega) (by omega)) .nil))) ?_
 rw [lineFitsD_of (ks:=["name", "way"]) rfl]
 show ([isThere 0 nm,isThere i n].all id)=false
 rw [there_f h1]
 show (isThere 0 nm && false)=false
 rw [Bool.and_false]
theorem nt_test {nm rw i:Int} {n:Nat} (h1:(n:Int)≤i) (h:i≤950):NT nm rw n (lineT (.tup (.str "test"::[.non,.non,.int 0,.int 0,.int i]))) (.tup (.str "test"::[.non,.non,.int 0,.int 0,.int i])):=by
 refine nt_of (.plain (by decide) rfl (.cons .none_ (.cons .none_ (.cons (.number 0 (by decide) (by decide)) (.cons (.way 0 (by decide) (by decide)) (.cons (.way i (by omega) (by omega)) .nil)))))) ?_
 rw [lineFitsD_of (ks:=["value", "value", "number", "way", "way"]) rfl]
 show ([true,true,isWritten 0,isThere 0 n,isThere i n].all id)=false
 rw [there_f h1]
 show (true && (true && (isWritten 0 && (isThere 0 n && false))))=false
 rw [Bool.and_false,Bool.and_false]; rfl
theorem lin_1001:linO (Str.ofString "set n0 - 1001 0")=some (.tup (.str "set"::[.int 0,.non,.int 1001,.int 0]))∧rowB (Str.ofString "set n0 - 1001 0")=true:=by
 refine ⟨?_,by decide +kernel⟩
 have hs:Txt.split (Str.ofString "set n0 - 1001 0") " " = [Str.ofString "set", "n0", "-", "1001", "0"]:=by decide +kernel
 have h1:mrkO "name" "n0" = some 0:=by decide +kernel
 have h2:numO "1001" = some 1001:=by decide +kernel
 have h3:mrkO "way" "0" = some 0:=by decide +kernel
 have p1:prtO "name" "n0" = some (.int 0):=by unfold prtO; rw [if_neg (by decide),if_neg fun h=>absurd h.1 (by decide),h1]; rfl
 have p2:prtO "value" "-" = some .non:=rfl
 have p3:prtO "number" "1001" = some (.int 1001):=by unfold prtO; rw [if_pos rfl,h2]; rfl
 have p4:prtO "way" "0" = some (.int 0):=by unfold prtO; rw [if_neg (by decide),if_neg fun h=>absurd h.1 (by decide),h3]; rfl
 have sq:seqO (fun p:Str × Str=>prtO p.1 p.2) [(Str.ofString "name",Str.ofString "n0"),("value", "-"),("number", "1001"),("way", "0")]=some [.int 0,.non,.int 1001,.int 0]:=by simp only [seqO,p1,p2,p3,p4]
 unfold linO
 rw [hs]
 show (seqO (fun p:Str × Str=>prtO p.1 p.2) [(Str.ofString "name",Str.ofString "n0"),("value", "-"),("number", "1001"),("way", "0")]).map (fun ds=>D.tup (.str "set"::ds))=_
 rw [sq]; rfl
theorem nt_1001 {nm rw:Int} {n:Nat}:NT nm rw n (Str.ofString "set n0 - 1001 0") (.tup (.str "set"::[.int 0,.non,.int 1001,.int 0])):=by
 obtain ⟨h1,h2⟩:=lin_1001
 obtain ⟨a,b,c⟩:=rowB_of h2
 refine ⟨h1,⟨a,b,c⟩,⟨"set",_,["name", "value", "number", "way"],rfl,rfl,fun j k e e1 e2=>?_,Nat.le_of_ble_eq_true rfl⟩,?_⟩
 ·match j,e1,e2 with
  | 0,e1,e2=>cases e1; cases e2; exact .name 0
  | 1,e1,e2=>cases e1; cases e2; exact .non
  | 2,e1,e2=>cases e1; cases e2; exact .number 1001
  | 3,e1,e2=>cases e1; cases e2; exact .way 0
  | j + 4,e1,e2=>simp at e1
 ·rw [lineFitsD_of (ks:=["name", "value", "number", "way"]) rfl]
  show ([isThere 0 nm,true,isWritten 1001,isThere 0 n].all id)=false
  rw [show isWritten 1001=false by decide]
  show (isThere 0 nm && false)=false
  rw [Bool.and_false]
theorem seq_app {α:Type} {f:α→Option D}:∀ {l1 l2:List α} {d1 d2:List D},seqO f l1=some d1→seqO f l2=some d2→seqO f (l1++l2)=some (d1++d2)
 | [],l2,d1,d2,h1,h2=>by cases h1; exact h2
 | y::l,l2,ds,d2,h,h2=>by
  unfold seqO at h
  cases e:f y with
  | none=>rw [e] at h; cases h
  | some d=>
   rw [e] at h
   cases e2:seqO f l with
   | none=>simp only [e2] at h; cases h
   | some ds2=>
    simp only [e2] at h
    cases h
    have:=seq_app e2 h2
    simp only [List.cons_append,seqO,e,this]
theorem FitD.mono {nm rw many many':Int} {k:Str} {d:D} (h:FitD nm rw many k d) (hm:many≤many'):FitD nm rw many' k d:=by
 cases h with
 | name i h1 h2=>exact .name i h1 h2
 | none_=>exact .none_
 | value i h1 h2=>exact .value i h1 h2
 | row i h1 h2=>exact .row i h1 h2
 | number i h1 h2=>exact .number i h1 h2
 | way i h1 h2=>exact .way i h1 (by omega)
theorem FitL.mono {nm rw many many':Int} (hm:many≤many'):∀ {ks ds},FitL nm rw many ks ds→FitL nm rw many' ks ds
 | _,_,.nil=>.nil
 | _,_,.cons a h=>.cons (a.mono hm) (h.mono hm)
theorem LineG.mono {nm rw at_ many many':Int} {x:Str} {ds:List D} (h:LineG nm rw at_ many x ds) (hm:many≤many'):LineG nm rw at_ many' x ds:=by
 cases h with
 | plain hx hk hf=>exact .plain hx hk (hf.mono hm)
 | ask b1 b2 hb k1 k2 m1 m2=>exact .ask b1 b2 hb k1 (by omega) m1 (by omega)
theorem rings (ds:List D):∃ rg:Nat→Bool,∀ i,rg i=true↔OnRing ds i:=by
 refine ⟨fun i=>@decide _ (Classical.propDecidable (OnRing ds i)),fun i=>?_⟩
 exact @decide_eq_true_iff _ (Classical.propDecidable (OnRing ds i))
structure NotT (ts:List Str) (v:V):Prop where
 ex:∃ r0 rs,ts=r0::rs∧ReadR r0 rs (.no v)∧(cntsO r0≠none)∧∀ r∈rs,linO r≠none
 row:∀ t∈ts,RowS t
 len:ts.length≤32
 v:v=.non∨∃ i,v=.int i
theorem not_counts {nm rw:Int} {ds:List D} (hd:DrawnP nm rw ds):NotT (Str.ofString "names 7 rows 0"::ds.map lineT) .non:=by
 have h7:cntsO (Str.ofString "names 7 rows 0")=some (7,0)∧rowB (Str.ofString "names 7 rows 0")=true:=by decide +kernel
 obtain ⟨a,b,c⟩:=rowB_of h7.2
 have l2:=hd.l2
 obtain ⟨rg,hrg⟩:=rings ds
 refine ⟨⟨_,_,rfl,⟨7,0,ds,h7.1,hd.seq,hd.lineX,rg,hrg,.inl ⟨rfl,rfl⟩⟩,by rw [h7.1]; simp,fun r hr=>?_⟩,fun t ht=>?_,?_,.inl rfl⟩
 ·obtain ⟨d,hm,rfl⟩:=List.mem_map.mp hr
  rw [(hd.row d hm).1]; simp
 ·rcases List.mem_cons.mp ht with rfl | ht
  ·exact ⟨a,b,c⟩
  ·obtain ⟨d,hm,rfl⟩:=List.mem_map.mp ht
   exact (hd.row d hm).2
 ·rw [List.length_cons,List.length_map]; omega
theorem not_line {nm rw:Int} {ds:List D} {at_:Nat} {row:Str} {d:D} (hd:DrawnP nm rw ds) (ha:at_ < ds.length) (hn:NT nm rw (ds.length + 1) row d):NotT (countsT nm rw::((ds.take at_).map lineT++row::(ds.drop at_).map lineT)) (.int (at_:Int)):=by
 have l2:=hd.l2
 have a1:=hd.n0
 have a2:=hd.n1
 have a3:=hd.r0
 have a4:=hd.r1
 have lt:(ds.take at_).length=at_:=by rw [List.length_take]; omega
 have ln:(ds.take at_++d::ds.drop at_).length=ds.length + 1:=by rw [List.length_append,List.length_cons,List.length_drop,lt]; omega
 obtain ⟨rg,hrg⟩:=rings (ds.take at_++d::ds.drop at_)
 have rt:∀ e∈ds.take at_,linO (lineT e)=some e∧RowS (lineT e):=fun e he=>hd.row e (List.mem_of_mem_take he)
 have rd:∀ e∈ds.drop at_,linO (lineT e)=some e∧RowS (lineT e):=fun e he=>hd.row e (List.mem_of_mem_drop he)
 have gd:∀ j e,(ds.take at_++d::ds.drop at_)[j]?=some e→(ds.take at_++d::ds.drop at_).getD j .non=e:=fun j e h=>by rw [List.getD_eq_getElem?_getD,h]; rfl
 refine ⟨⟨_,_,rfl,⟨nm,rw,ds.take at_++d::ds.drop at_,hd.head.1,seq_app (seq_all fun e he=>(rt e he).1) ?_,fun e he=>?_,rg,hrg,.inr ⟨?_,.inl ⟨at_,?_,?_,fun j hj=>?_,rfl⟩⟩⟩,by rw [hd.head.1]; simp,fun r hr=>?_⟩,fun t ht=>?_,?_,.inr ⟨_,rfl⟩⟩
 ·simp only [seqO,hn.lin,seq_all (f:=linO) (g:=lineT) fun e he=>(rd e he).1]
 ·rcases List.mem_append.mp he with h | h
  ·exact hd.lineX e (List.mem_of_mem_take h)
  ·rcases List.mem_cons.mp h with rfl | h
   ·exact hn.x
   ·exact hd.lineX e (List.mem_of_mem_drop h)
 ·rw [ln]
  unfold countsB
  rw [decide_eq_true (show 0≤nm by omega),decide_eq_true a2,decide_eq_true (show 0≤rw by omega),decide_eq_true a4,decide_eq_true (show (1:Int)≤((ds.length + 1:Nat):Int) by omega),decide_eq_true (show ((ds.length + 1:Nat):Int)≤70 by omega)]; rfl
 ·rw [ln]; omega
 ·show lineFitsD nm rw (ds.take at_++d::ds.drop at_).length ((ds.take at_++d::ds.drop at_).getD at_ .non)=false
  rw [gd at_ d (by rw [List.getElem?_append_right (by omega),lt,Nat.sub_self]; rfl),ln]
  exact hn.no
 ·show lineFitsD nm rw (ds.take at_++d::ds.drop at_).length ((ds.take at_++d::ds.drop at_).getD j .non)=true
  have ej:ds[j]?=some ds[j]:=List.getElem?_eq_getElem (by omega)
  obtain ⟨x,es,e,g⟩:=hd.gen ej
  rw [gd j _ (by rw [List.getElem?_append_left (by omega),List.getElem?_take,if_pos hj,ej]),ln,e]
  obtain ⟨ks,h1,_,_,h4,_⟩:=(g.mono (many':=((ds.length + 1:Nat):Int)) (by omega)).fits (by omega)
  rw [lineFitsD_of h1]
  exact h4
 ·rcases List.mem_append.mp hr with h | h
  ·obtain ⟨e,he,rfl⟩:=List.mem_map.mp h
   rw [(rt e he).1]; simp
  ·rcases List.mem_cons.mp h with rfl | h
   ·rw [hn.lin]; simp
   ·obtain ⟨e,he,rfl⟩:=List.mem_map.mp h
    rw [(rd e he).1]; simp
 ·rcases List.mem_cons.mp ht with rfl | ht
  ·exact hd.head.2
  ·rcases List.mem_append.mp ht with h | h
   ·obtain ⟨e,he,rfl⟩:=List.mem_map.mp h
    exact (rt e he).2
   ·rcases List.mem_cons.mp h with rfl | h
    ·exact hn.row
    ·obtain ⟨e,he,rfl⟩:=List.mem_map.mp h
     exact (rd e he).2
 ·rw [List.length_cons,List.length_append,List.length_cons,List.length_map,List.length_map,lt,List.length_drop]; omega
def spNotThere (K:PySem.W.Frag):Sp:=fun vs H Q _=>ExQ Q (fun (p:Addr) Q=>ExQ Q (fun (t:Addr) Q=>ExQ Q (fun (l:Addr) Q=>ExQ Q (fun (nm:Int) Q=>ExQ Q (fun (rw:Int) Q=>ExQ Q (fun (ds:List D) Q=>ExQ Q (fun (c:Int) Q=>vs=[.ref p,.ref t,.int c]∧H p=some (.lst ((rowsOf nm rw ds).map V.str))∧ProgAt K H t l nm rw ds∧DrawnP nm rw ds∧
 ∀ (H':Hp) (tt pb:Addr) (ts:List Str) (v:V),Same H H'→H' tt=some (.tup [.ref pb,v])→H' pb=some (.lst (ts.map V.str))→NotT ts v→Q (.ref tt) H')))))))
theorem at5 (v u w z y x:V) (vs:List V):atI (v::u::w::z::y::x::vs) 5=some x:=atI_nat (j:=5) rfl
theorem cut_to (xs:List V) (k:Nat):cutV xs none (some (k:Int))=xs.take k:=by
 unfold cutV
 rw [HT.sIx_none,HT.sIx_nat,List.drop_zero,Nat.sub_zero]
 rcases Nat.le_total k xs.length with h | h
 ·rw [Nat.min_eq_left h]
 ·rw [Nat.min_eq_right h,List.take_of_length_le h,List.take_of_length_le (Nat.le_refl _)]
theorem cut_from (xs:List V) (k:Nat):cutV xs (some (k:Int)) none=xs.drop k:=by
 unfold cutV
 rw [HT.sIx_none,HT.sIx_nat]
 rcases Nat.le_total k xs.length with h | h
 ·rw [Nat.min_eq_left h,List.take_of_length_le (by rw [List.length_drop]; omega)]
 ·rw [Nat.min_eq_right h,List.drop_of_length_le h,List.drop_of_length_le (Nat.le_refl _),List.take_nil]
theorem num_short {i:Int} (h0:0≤i) (h:i≤1000):(numT i).length≤5:=(num_word (by omega) h).1
section
variable {P:Program} {w:World} {K:PySem.W.Frag} {mg:Str→Option Value} {base:Heap} {f:Addr} {fd:FuncData} {n:Nat}
theorem ok_not_there (F:Fun K "_law_not_there" "_law_not_there" s_not_there f fd) (m_str:mg "str" = none) (m_len:mg "len" = none):FnOk P w K mg base CX0 (n + 1) f fd ["_law_rows_here", "_law_program_here", "_law_cell_here"] (spNotThere K):=by
 refine F.ok sc_not_there (fun vs H Q E h=>?_) (fun cdv A outer s H vs Q E hr h=>?_)
 ·obtain ⟨p,t,l,nm,rw,ds,c,rfl,_⟩:=h
  rfl
 obtain ⟨p,t,l,nm,rw,ds,c,rfl,ep,⟨ht,xs,el,il⟩,hd,q⟩:=h
 have sc:=sc_not_there
 have ln:=il.length
 have a0:=hd.n0
 have a1:=hd.n1
 have b0:=hd.r0
 have b1:=hd.r1
 have l1:=hd.l1
 have l2:=hd.l2
 refine ⟨_,(@pss_cons _ _ _ _ _ (ps_set (i:=3) sc.nd rfl (Or.inl rfl) (pe_ix ix_tup (pv 1) pe_int (fun _ _=>rfl)))
   (@pss_cons _ _ _ _ _ (ps_set (i:=4) sc.nd rfl (Or.inl rfl) (pe_callB call_len_seq rfl m_len PySem.boot_len (pa_cons (pe_ix ix_tup (pv 1) pe_int (fun _ _=>rfl)) pa_nil)))
   (@pss_cons _ _ _ _ _ (ps_set (i:=5) sc.nd rfl (Or.inl rfl) (pe_lst (pa_cons (pe_op op_add_str (pe_op op_add_str pe_str (pe_callTy call_str_int rfl m_str PyProof.Rows.boot_str (pa_cons (pv 3) pa_nil))) pe_str) (pa_cons (pe_op op_add_str (pe_op op_add_str pe_str (pe_callTy call_str_int rfl m_str PyProof.Rows.boot_str (pa_cons (pe_op op_add (pv 3) (pe_op op_mod (pe_op op_fdiv (pv 2) pe_int) pe_int)) pa_nil))) pe_str) pa_nil))))
   (@pss_cons _ _ _ _ _ (ps_set (i:=5) sc.nd rfl (Or.inl rfl) (pe_op op_cat (pv 5) (pe_lst (pa_cons (pe_op op_add_str (pe_op op_add_str pe_str (pe_callTy call_str_int rfl m_str PyProof.Rows.boot_str (pa_cons (pe_ix ix_tup (pv 1) pe_int (fun _ _=>rfl)) pa_nil))) pe_str) (pa_cons (pe_op op_add_str pe_str (pe_callTy call_str_int rfl m_str PyProof.Rows.boot_str (pa_cons (pe_op op_add (pv 4) pe_int) pa_nil))) pa_nil)))))
   (@pss_cons _ _ _ _ _ (ps_set (i:=5) sc.nd rfl (Or.inl rfl) (pe_op op_cat (pv 5) (pe_lst (pa_cons (pe_op op_add_str pe_str (pe_callTy call_str_int rfl m_str PyProof.Rows.boot_str (pa_cons (pe_op op_add (pe_op op_add (pv 4) pe_int) (pe_op op_mod (pe_op op_fdiv (pv 2) pe_int) pe_int)) pa_nil))) (pa_cons pe_str pa_nil)))))
   (@pss_cons _ _ _ _ _ (ps_set (i:=6) sc.nd rfl (Or.inl rfl) (pe_op op_mod (pe_op op_fdiv (pv 2) pe_int) (pv 4)))
   (@pss_cons _ _ _ _ _ (ps_if (pt_cmpR op_eq (pe_op op_mod (pv 2) pe_int) pe_int (nomark _)) (pss_one (ps_ret (pe_tup (pa_cons (pe_op op_cat (pe_lst (pa_cons pe_str pa_nil)) (pe_slice sl_list (pv 0) (po_some pe_int) po_none)) (pa_cons pe_non pa_nil))))) pss_nil)
   (pss_one (ps_ret (pe_tup (pa_cons (pe_op op_cat (pe_op op_cat (pe_slice sl_list (pv 0) po_none (po_some (pe_op op_add pe_int (pv 6)))) (pe_lst (pa_cons (pe_ix ix_list (pv 5) (pe_op op_mod (pv 2) pe_int) (fun _ _=>rfl)) pa_nil))) (pe_slice sl_list (pv 0) (po_some (pe_op op_add pe_int (pv 6))) po_none)) (pa_cons (pv 6) pa_nil)))))))))))),?_⟩
 refine ⟨_,rfl,t,_,0,_,rfl,rfl,ht,at0 _ _,?_⟩
 refine ⟨_,rfl,t,_,2,_,rfl,rfl,ht,at2 _ _ _ _,l,xs,rfl,.inl (SqL.of el),?_⟩
 rw [← ln]
 have n1:=num_short (i:=nm) (by omega) (by omega)
 have n2:=num_short (i:=nm + c / 8 % 90) (by omega) (by omega)
 have n3:=num_short (i:=rw) (by omega) (by omega)
 have n4:=num_short (i:=(ds.length:Int) + 1) (by omega) (by omega)
 have n5:=num_short (i:=(ds.length:Int) + 1 + c / 8 % 900) (by omega) (by omega)
 refine ⟨_,rfl,nm,rfl,log_small (by omega) (by omega),_,_,rfl,rfl,small (by show 5 + (numT nm).length≤_; omega),_,_,rfl,rfl,small (by rw [len_app]; show 5 + (numT nm).length + 6≤_; omega),?_⟩
 refine ⟨_,rfl,_,rfl,_,_,rfl,rfl,⟨by decide,by decide⟩,_,_,rfl,rfl,by show (0:Int) < 90; decide,_,_,rfl,rfl,nm + c / 8 % 90,rfl,log_small (by omega) (by omega),_,_,rfl,rfl,small (by show 6 + (numT (nm + c / 8 % 90)).length≤_; omega),_,_,rfl,rfl,small (by rw [len_app]; show 6 + (numT (nm + c / 8 % 90)).length + 2≤_; omega),Nat.le_of_ble_eq_true rfl,fun g1 ng1=>?_⟩
 have s1:=same_new ng1 (.lst [.str (Str.ofString "set n"++Str.ofString (toString nm)++Str.ofString " - 1 0"),.str (Str.ofString "tell n"++Str.ofString (toString (nm + c / 8 % 90))++Str.ofString " 0")])
 have e1:upd H g1 (.lst [.str (Str.ofString "set n"++Str.ofString (toString nm)++Str.ofString " - 1 0"),.str (Str.ofString "tell n"++Str.ofString (toString (nm + c / 8 % 90))++Str.ofString " 0")]) g1=_:=upd_same
 generalize upd H g1 (.lst [.str (Str.ofString "set n"++Str.ofString (toString nm)++Str.ofString " - 1 0"),.str (Str.ofString "tell n"++Str.ofString (toString (nm + c / 8 % 90))++Str.ofString " 0")])=H1 at s1 e1
 refine ⟨_,rfl,_,rfl,t,_,1,_,rfl,rfl,s1.tups.sq ht,at1 _ _ _,rw,rfl,log_small (by omega) (by omega),_,_,rfl,rfl,small (by show 8 + (numT rw).length≤_; omega),_,_,rfl,rfl,small (by rw [len_app]; show 8 + (numT rw).length + 2≤_; omega),?_⟩
 refine ⟨_,rfl,_,_,rfl,rfl,(ds.length:Int) + 1,rfl,log_small (by omega) (by omega),_,_,rfl,rfl,small (by show 8 + (numT ((ds.length:Int) + 1)).length≤_; omega),Nat.le_of_ble_eq_true rfl,cat_of e1 (Nat.le_of_ble_eq_true rfl) fun g2 H2 s2 e2=>?_⟩
 refine ⟨_,rfl,_,rfl,_,_,rfl,rfl,_,rfl,_,_,rfl,rfl,⟨by decide,by decide⟩,_,_,rfl,rfl,by show (0:Int) < 900; decide,_,_,rfl,rfl,(ds.length:Int) + 1 + c / 8 % 900,rfl,log_small (by omega) (by omega),_,_,rfl,rfl,small (by show 13 + (numT ((ds.length:Int) + 1 + c / 8 % 900)).length≤_; omega),Nat.le_of_ble_eq_true rfl,cat_of e2 (Nat.le_of_ble_eq_true rfl) fun g3 H3 s3 e3=>?_⟩
 have s13:=s1.trans (s2.trans s3)
 refine ⟨_,rfl,_,_,rfl,rfl,⟨by decide,by decide⟩,_,rfl,_,_,rfl,rfl,by show (0:Int) < (ds.length:Int); omega,?_⟩
 obtain ⟨at_,ea⟩:∃ at_:Nat,(at_:Int)=c / 64 % (ds.length:Int):=⟨(c / 64 % (ds.length:Int)).toNat,by have:=Int.emod_nonneg (c / 64) (show (ds.length:Int)≠0 by omega); omega⟩
 have ha:at_ < ds.length:=by have:=Int.emod_lt_of_pos (c / 64) (show (0:Int) < ds.length by omega); omega
 dsimp only [gName,tSeq,tIfS]
 rw [← ea]
 refine ⟨_,rfl,_,_,rfl,rfl,by show (0:Int) < 7; decide,rfl,_,rfl,ite2 (fun cc=>?_) (fun cc=>?_)⟩
 ·refine ⟨Nat.le_of_ble_eq_true rfl,fun g4 ng4=>?_⟩
  have s4:=s13.trans (same_new ng4 (.lst [.str "names 7 rows 0"]))
  refine ⟨_,rfl,_,rfl,p,_,rfl,SqL.of (s4 _ _ ep),fun g5 ng5=>?_⟩
  rw [show cutV ((rowsOf nm rw ds).map V.str) (some 1) none=(ds.map lineT).map V.str from cut1 _ _]
  have s5:=s4.trans (same_new ng5 (.lst ((ds.map lineT).map V.str)))
  refine ⟨g4,g5,_,_,rfl,rfl,(same_new ng5 _) _ _ upd_same,upd_same,small (by rw [List.length_singleton,List.length_map,List.length_map]; omega),fun g6 ng6=>⟨Nat.le_of_ble_eq_true rfl,fun tt ntt=>?_⟩⟩
  have s6:=s5.trans (same_new ng6 (.lst ([V.str "names 7 rows 0"]++(ds.map lineT).map V.str)))
  exact q _ tt g6 (Str.ofString "names 7 rows 0"::ds.map lineT) .non (s6.trans (same_new ntt _)) upd_same ((same_new ntt _) _ _ upd_same) (not_counts hd)
 ·obtain ⟨row,d,er,hn⟩:∃ row d,atI ([V.str (Str.ofString "set n"++numT nm++Str.ofString " - 1 0"),.str (Str.ofString "tell n"++numT (nm + c / 8 % 90)++Str.ofString " 0")]++[.str (Str.ofString "len n0 r"++numT rw++Str.ofString " 0"),.str (Str.ofString "take n0 "++numT ((ds.length:Int) + 1))]++[.str (Str.ofString "test - - 0 0 "++numT ((ds.length:Int) + 1 + c / 8 % 900)),.str "set n0 - 1001 0"]) (c % 7)=some (.str row)∧NT nm rw (ds.length + 1) row d:=by
   have h6:c % 7≠6:=fun e=>by
    have cc:¬ decide (V.int (c % 7)=V.int 6)=true:=cc
    exact cc (decide_eq_true (by rw [e]))
   have h:c % 7=0∨c % 7=1∨c % 7=2∨c % 7=3∨c % 7=4∨c % 7=5:=by omega
   rcases h with e | e | e | e | e | e
   ·exact ⟨_,_,by rw [e]; exact at0 _ _,by rw [row_set]; exact nt_set (by omega) (by omega)⟩
   ·exact ⟨_,_,by rw [e]; exact at1 _ _ _,by rw [row_tell]; exact nt_tell (by omega) (by omega) (by omega)⟩
   ·exact ⟨_,_,by rw [e]; exact at2 _ _ _ _,by rw [row_len]; exact nt_len (by omega) (by omega)⟩
   ·exact ⟨_,_,by rw [e]; exact at3 _ _ _ _ _,by rw [row_take]; exact nt_take (by omega) (by omega)⟩
   ·exact ⟨_,_,by rw [e]; exact at4 _ _ _ _ _ _,by rw [row_test]; exact nt_test (by omega) (by omega)⟩
   ·exact ⟨_,_,by rw [e]; exact at5 _ _ _ _ _ _ _,nt_1001⟩
  have e1a:(1 + (at_:Int))=((1 + at_:Nat):Int):=by omega
  refine ⟨_,rfl,_,rfl,_,_,rfl,rfl,_,rfl,p,_,rfl,SqL.of (s13 _ _ ep),fun g4 ng4=>?_⟩
  rw [e1a,cut_to]
  have s4:=same_new ng4 (.lst (((rowsOf nm rw ds).map V.str).take (1 + at_)))
  have e4:upd H3 g4 (.lst (((rowsOf nm rw ds).map V.str).take (1 + at_))) g4=_:=upd_same
  generalize upd H3 g4 (.lst (((rowsOf nm rw ds).map V.str).take (1 + at_)))=H4 at s4 e4
  refine ⟨_,rfl,_,rfl,_,_,rfl,rfl,by show (0:Int) < 7; decide,g3,_,_,_,rfl,rfl,SqL.of (s4 _ _ e3),er,?_⟩
  refine ⟨Nat.le_of_ble_eq_true rfl,cat_of e4 (by rw [List.length_take,List.length_map]; simp only [rowsOf,List.length_cons,List.length_nil,List.length_map]; omega) fun g5 H5 s5 e5=>?_⟩
  have s15:=s13.trans (s4.trans s5)
  refine ⟨_,rfl,_,rfl,_,_,rfl,rfl,_,rfl,p,_,rfl,SqL.of (s15 _ _ ep),fun g6 ng6=>?_⟩
  rw [e1a,cut_from]
  have s6:=same_new ng6 (.lst (((rowsOf nm rw ds).map V.str).drop (1 + at_)))
  refine ⟨g5,g6,_,_,rfl,rfl,s6 _ _ e5,upd_same,small (by rw [List.length_append,List.length_take,List.length_drop,List.length_map]; simp only [rowsOf,List.length_cons,List.length_nil,List.length_map]; omega),fun g7 ng7=>?_⟩
  have s7:=same_new ng7 (.lst (((rowsOf nm rw ds).map V.str).take (1 + at_)++[.str row]++((rowsOf nm rw ds).map V.str).drop (1 + at_)))
  refine ⟨_,rfl,Nat.le_of_ble_eq_true rfl,fun tt ntt=>?_⟩
  have s8:=same_new ntt (.tup [.ref g7,.int (at_:Int)])
  refine q _ tt g7 (countsT nm rw::((ds.take at_).map lineT++row::(ds.drop at_).map lineT)) (.int (at_:Int)) (s15.trans (s6.trans (s7.trans s8))) upd_same ?_ (not_line hd ha hn)
  rw [s8 _ _ upd_same]
  have e9:((rowsOf nm rw ds).map V.str).take (1 + at_)++[V.str row]++((rowsOf nm rw ds).map V.str).drop (1 + at_)=(countsT nm rw::((ds.take at_).map lineT++row::(ds.drop at_).map lineT)).map V.str:=by
   unfold rowsOf
   rw [Nat.add_comm 1,List.map_cons,List.take_succ_cons,List.drop_succ_cons]
   simp [List.map_take,List.map_drop]
  rw [e9]
end
abbrev s_law:Stmt:=top 63
theorem sc_law:FnScope ["_law_script", "_law_program_here", "_law_rows_here", "_law_text", "_law_cell_here", "_law_way", "_law_more", "_law_at", "_law_bad", "_law_line_here"] ["_law_script"] (defScope s_law):=⟨rfl,rfl,rfl,by decide +kernel,rfl,by decide +kernel,by decide +kernel⟩
def spLaw (K:PySem.W.Frag):Sp:=fun vs H Q _=>ExQ Q (fun (a:Addr) Q=>ExQ Q (fun (ns:List Int) Q=>vs=[.ref a]∧SqL K H a (ns.map V.int)∧ns.length≤63∧∀ H',Q (.bl true) H'))
theorem ifs_nx {c:TT} {t u:TS} {D:Ends} {σ:L2.St} {H:Hp} (Φ:L2.St→Hp→Prop) (h:∀ σ' H',Φ σ' H'→D.nx σ' H') (hi:∀ D':Ends,(∀ σ' H',Φ σ' H'→D'.nx σ' H')→tIfS c t u D' σ H):tIfS c t u D σ H:=hi D h
theorem bad_at {r0 w:Str} {pre post:List Str} {nm rw:Int} (hc:cntsO r0=some (nm,rw)) (hp:∀ r∈pre,linO r≠none) (hw:linO w=none):ReadR r0 (pre++w::post) (.bad ((pre.length:Int) + 1)):=by
 refine .inr ⟨nm,rw,pre.length,w,hc,?_,hw,fun r hr=>?_,rfl⟩
 ·rw [List.getElem?_append_right (Nat.le_refl _),Nat.sub_self]; rfl
 ·rw [List.take_left] at hr
  exact hp r hr
theorem Bad.row {t:Str} (h:Bad t):RowS t:=⟨h.wd,h.len,h.nl⟩
theorem rows_cut (nm rw:Int) (ds:List D) (k:Nat) (w:Str):((rowsOf nm rw ds).map V.str).take (1 + k)++[V.str w]++((rowsOf nm rw ds).map V.str).drop (1 + k)=(countsT nm rw::((ds.take k).map lineT++w::(ds.drop k).map lineT)).map V.str:=by
 unfold rowsOf
 rw [Nat.add_comm 1,List.map_cons,List.take_succ_cons,List.drop_succ_cons]
 simp [List.map_take,List.map_drop]
theorem head_bad {t:Str} (h:t∈headL):cntsO t=none∧RowS t:=by
 have:=List.all_eq_true.mp head_all t h
 rw [Bool.and_eq_true] at this
 obtain ⟨a,b,c⟩:=rowB_of this.1
 exact ⟨Option.isNone_iff_eq_none.mp this.2,a,b,c⟩
theorem DrawnP.pre {nm rw:Int} {ds:List D} (h:DrawnP nm rw ds) (k:Nat):∀ r∈(ds.take k).map lineT,linO r≠none:=fun r hr=>by
 obtain ⟨d,hd,rfl⟩:=List.mem_map.mp hr
 rw [(h.row d (List.mem_of_mem_take hd)).1]; simp
theorem ne_told {K:PySem.W.Frag} {H:Hp} {Q:VK} {t u:Addr} {x:Str} {i:Int} (h1:H t=some (.tup [.str x,.int i])) (h2:H u=some (.tup [.str x,.int i])) (q:Q (.bl false) H):rEqD K 9 true (.ref t) (.ref u) H Q:=by
 refine ⟨[.str x,.int i],[.str x,.int i],is_tup (SqT.of h1) (isl_cons is_str (isl_cons is_int isl_nil)),is_tup (SqT.of h2) (isl_cons is_str (isl_cons is_int isl_nil)),?_,?_⟩
 ·rw [depL_cons,depL_cons,depL_nil,dep_str,dep_int]; decide
 ·rw [D.beqL_self]; exact q
theorem ne_toldV {K:PySem.W.Frag} {H:Hp} {Q:VK} {t u:Addr} {x:Str} {v:V} (hv:v=.non∨∃ i,v=.int i) (h1:H t=some (.tup [.str x,v])) (h2:H u=some (.tup [.str x,v])) (q:Q (.bl false) H):rEqD K 9 true (.ref t) (.ref u) H Q:=by
 rcases hv with rfl | ⟨i,rfl⟩
 ·refine ⟨[.str x,.non],[.str x,.non],is_tup (SqT.of h1) (isl_cons is_str (isl_cons is_non isl_nil)),is_tup (SqT.of h2) (isl_cons is_str (isl_cons is_non isl_nil)),?_,?_⟩
  ·rw [depL_cons,depL_cons,depL_nil,dep_str,dep_non]; decide
  ·rw [D.beqL_self]; exact q
 ·exact ne_told h1 h2 q
section
variable {P:Program} {w:World} {K:PySem.W.Frag} {mg:Str→Option Value} {base:Heap} {f:Addr} {fd:FuncData} {n:Nat} {a_BadRow a_NoProgram:Addr}
theorem ok_law (F:Fun K "law" "law" s_law f fd) (m_len:mg "len" = none) (c_law_program:Cl P w K mg base "_law_program" n ["_law_script"] (spProgram K)) (c_law_rows:Cl P w K mg base "_law_rows" n ["_law_program_here"] (spRows K)) (c_read:ClX P w K mg base "read" n ["text"] (spRead K a_BadRow a_NoProgram))
  (c_law_cell:Cl P w K mg base "_law_cell" n ["_law_script", "_law_k"] (spCell K)) (c_law_pick:Cl P w K mg base "_law_pick" n ["_law_cell_here", "_law_k", "_law_many"] spPick) (c_law_told:Cl P w K mg base "_law_told" n ["_law_text"] spTold) (c_law_head:Cl P w K mg base "_law_head" n ["_law_cell_here"] (spOf headL))
  (c_law_wrong:Cl P w K mg base "_law_wrong" n ["_law_cell_here"] spWrong) (c_law_not_there:Cl P w K mg base "_law_not_there" n ["_law_rows_here", "_law_program_here", "_law_cell_here"] (spNotThere K)):FnOk P w K mg base CX0 (n + 1) f fd ["_law_script"] (spLaw K):=by
 refine F.ok sc_law (fun vs H Q E h=>?_) (fun cdv A outer s H vs Q E hr h=>?_)
 ·obtain ⟨a,ns,rfl,_⟩:=h
  rfl
 obtain ⟨a,ns,rfl,hs,h63,q⟩:=h
 have sc:=sc_law
 have hu:(A.deeper (envOfC "law" (defScope s_law) s.heap.objs.size f cdv)).units + 1 + 9 < cLine:=by have:=hr.units; omega
 refine ⟨_,(@pss_cons _ _ _ _ _ (@ps_set _ _ (1) _ _ _ _ sc.nd rfl (Or.inl rfl) (@pe_cl _ _ _ _ _ _ _ _ _ _ c_law_program hr rfl (@pa_cons _ _ _ _ _ (@pv _ 0 _ _ (by walk_at "q") (by walk_at "q") (by walk_at "q") (by walk_at "q")) (@pa_nil _) (by walk_at "q")) (by walk_at "q") (by walk_at "q") (by walk_at "q")) (by walk_at "q") (by walk_at "q")) (@pss_cons _ _ _ _ _ (@ps_set _ _ (2) _ _ _ _ sc.nd rfl (Or.inl rfl) (@pe_cl _ _ _ _ _ _ _ _ _ _ c_law_rows hr rfl (@pa_cons _ _ _ _ _ (@pv _ 1 _ _ (by walk_at "q") (by walk_at "q") (by walk_at "q") (by walk_at "q")) (@pa_nil _) (by walk_at "q")) (by walk_at "q") (by walk_at "q") (by walk_at "q")) (by walk_at "q") (by walk_at "q")) (@pss_cons _ _ _ _ _ (@ps_set _ _ (3) _ _ _ _ sc.nd rfl (Or.inl rfl) (pe_bm PySem.F.plainAttrs_str PySem.F.slot_str_join PySem.F.type_str_join mt_join pe_str (pa_cons (pv 2) pa_nil)) (by walk_at "q") (by walk_at "q")) (@pss_cons _ _ _ _ _ (@ps_if _ _ _ _ _ _ _ _ (@pt_cmpR _ _ _ _ _ _ _ _ (op_neT (n:=9) hu) (@pe_cln _ _ _ _ _ _ _ _ _ _ c_read hr rfl (@pa_cons _ _ _ _ _ (@pv _ 3 _ _ (by walk_at "q") (by walk_at "q") (by walk_at "q") (by walk_at "q")) (@pa_nil _) (by walk_at "q")) (by walk_at "q") (by walk_at "q") (by walk_at "q")) (@pv _ 1 _ _ (by walk_at "q") (by walk_at "q") (by walk_at "q") (by walk_at "q")) (nomark _)) (@pss_one _ _ _ (@ps_ret _ _ _ _ pe_bl)) (@pss_nil _)) (@pss_cons _ _ _ _ _ (@ps_set _ _ (4) _ _ _ _ sc.nd rfl (Or.inl rfl) (@pe_cl _ _ _ _ _ _ _ _ _ _ c_law_cell hr rfl (@pa_cons _ _ _ _ _ (@pv _ 0 _ _ (by walk_at "q") (by walk_at "q") (by walk_at "q") (by walk_at "q")) (@pa_cons _ _ _ _ _ (@pe_int _ _ _ _) (@pa_nil _) (by walk_at "q")) (by walk_at "q")) (by walk_at "q") (by walk_at "q") (by walk_at "q")) (by walk_at "q") (by walk_at "q")) (@pss_cons _ _ _ _ _ (@ps_set _ _ (5) _ _ _ _ sc.nd rfl (Or.inl rfl) (@pe_op _ _ _ _ _ _ _ _ (@op_mod _) (@pe_cl _ _ _ _ _ _ _ _ _ _ c_law_cell hr rfl (@pa_cons _ _ _ _ _ (@pv _ 0 _ _ (by walk_at "q") (by walk_at "q") (by walk_at "q") (by walk_at "q")) (@pa_cons _ _ _ _ _ (@pe_int _ _ _ _) (@pa_nil _) (by walk_at "q")) (by walk_at "q")) (by walk_at "q") (by walk_at "q") (by walk_at "q")) (@pe_int _ _ _ _)) (by walk_at "q") (by walk_at "q")) (@pss_cons _ _ _ _ _ (@ps_if _ _ _ _ _ _ _ _ (@pt_cmpR _ _ _ _ _ _ _ _ (@op_eq _) (@pv _ 5 _ _ (by walk_at "q") (by walk_at "q") (by walk_at "q") (by walk_at "q")) (@pe_int _ _ _ _) (nomark _)) (@pss_one _ _ _ (@ps_if _ _ _ _ _ _ _ _ (@pt_cmpR _ _ _ _ _ _ _ _ (op_neD (n:=9) hu) (@pe_cl _ _ _ _ _ _ _ _ _ _ c_law_told hr rfl (@pa_cons _ _ _ _ _ (pe_bm PySem.F.plainAttrs_str PySem.F.slot_str_join PySem.F.type_str_join mt_join pe_str (pa_cons (pe_op op_cat (pe_lst (pa_cons (pe_cl c_law_head hr rfl (pa_cons (pv 4) pa_nil)) pa_nil)) (pe_slice sl_list (pv 2) (po_some pe_int) po_none)) pa_nil)) (@pa_nil _) (by walk_at "q")) (by walk_at "q") (by walk_at "q") (by walk_at "q")) (@pe_tup _ _ _ _ _ (@pa_consts _ _ _ rfl)) (nomark _)) (@pss_one _ _ _ (@ps_ret _ _ _ _ pe_bl)) (@pss_nil _))) (@pss_one _ _ _ (@ps_if _ _ _ _ _ _ _ _ (@pt_cmpR _ _ _ _ _ _ _ _ (@op_eq _) (@pv _ 5 _ _ (by walk_at "q") (by walk_at "q") (by walk_at "q") (by walk_at "q")) (@pe_int _ _ _ _) (nomark _)) (@pss_cons _ _ _ _ _ (@ps_asg _ _ _ _ _ _ (@pe_cl _ _ _ _ _ _ _ _ _ _ c_law_not_there hr rfl (@pa_cons _ _ _ _ _ (@pv _ 2 _ _ (by walk_at "q") (by walk_at "q") (by walk_at "q") (by walk_at "q")) (@pa_cons _ _ _ _ _ (@pv _ 1 _ _ (by walk_at "q") (by walk_at "q") (by walk_at "q") (by walk_at "q")) (@pa_cons _ _ _ _ _ (@pv _ 4 _ _ (by walk_at "q") (by walk_at "q") (by walk_at "q") (by walk_at "q")) (@pa_nil _) (by walk_at "q")) (by walk_at "q")) (by walk_at "q")) (by walk_at "q") (by walk_at "q") (by walk_at "q")) (pg_tup rfl (pgs_cons (pg_name (i:=8) sc.nd rfl (Or.inl rfl)) (pgs_cons (pg_name (i:=9) sc.nd rfl (Or.inl rfl)) pgs_nil))) (by walk_at "q") (by walk_at "q") (by walk_at "q")) (@pss_cons _ _ _ _ _ (@ps_if _ _ _ _ _ _ _ _ (@pt_cmpR _ _ _ _ _ _ _ _ (op_neD (n:=9) hu) (@pe_cl _ _ _ _ _ _ _ _ _ _ c_law_told hr rfl (@pa_cons _ _ _ _ _ (pe_bm PySem.F.plainAttrs_str PySem.F.slot_str_join PySem.F.type_str_join mt_join pe_str (pa_cons (pv 8) pa_nil)) (@pa_nil _) (by walk_at "q")) (by walk_at "q") (by walk_at "q") (by walk_at "q")) (@pe_tup _ _ _ _ _ (@pa_cons _ _ _ _ _ (@pe_str _ _ _ _) (@pa_cons _ _ _ _ _ (@pv _ 9 _ _ (by walk_at "q") (by walk_at "q") (by walk_at "q") (by walk_at "q")) (@pa_nil _) (by walk_at "q")) (by walk_at "q"))) (nomark _)) (@pss_one _ _ _ (@ps_ret _ _ _ _ pe_bl)) (@pss_nil _)) (@pss_cons _ _ _ _ _ (@ps_set _ _ (6) _ _ _ _ sc.nd rfl (Or.inl rfl) (@pe_op _ _ _ _ _ _ _ _ (@op_cat _) (@pv _ 8 _ _ (by walk_at "q") (by walk_at "q") (by walk_at "q") (by walk_at "q")) (@pe_lst _ _ _ _ (@pa_cons _ _ _ _ _ (@pe_cl _ _ _ _ _ _ _ _ _ _ c_law_wrong hr rfl (@pa_cons _ _ _ _ _ (@pe_cl _ _ _ _ _ _ _ _ _ _ c_law_pick hr rfl (@pa_cons _ _ _ _ _ (@pv _ 4 _ _ (by walk_at "q") (by walk_at "q") (by walk_at "q") (by walk_at "q")) (@pa_cons _ _ _ _ _ (@pe_int _ _ _ _) (@pa_cons _ _ _ _ _ (@pe_op _ _ _ _ _ _ _ _ op_pow (@pe_int _ _ _ _) (@pe_int _ _ _ _)) (@pa_nil _) (by walk_at "q")) (by walk_at "q")) (by walk_at "q")) (by walk_at "q") (by walk_at "q") (by walk_at "q")) (@pa_nil _) (by walk_at "q")) (by walk_at "q") (by walk_at "q") (by walk_at "q")) (@pa_nil _) (by walk_at "q")))) (by walk_at "q") (by walk_at "q")) (@pss_one _ _ _ (@ps_if _ _ _ _ _ _ _ _ (@pt_cmpR _ _ _ _ _ _ _ _ (op_neD (n:=9) hu) (@pe_cl _ _ _ _ _ _ _ _ _ _ c_law_told hr rfl (@pa_cons _ _ _ _ _ (pe_bm PySem.F.plainAttrs_str PySem.F.slot_str_join PySem.F.type_str_join mt_join pe_str (pa_cons (pv 6) pa_nil)) (@pa_nil _) (by walk_at "q")) (by walk_at "q") (by walk_at "q") (by walk_at "q")) (@pe_tup _ _ _ _ _ (@pa_cons _ _ _ _ _ (@pe_str _ _ _ _) (@pa_cons _ _ _ _ _ (@pe_callB _ _ _ _ _ _ _ _ _ (@call_len_seq _) rfl m_len PySem.boot_len (@pa_cons _ _ _ _ _ (@pv _ 8 _ _ (by walk_at "q") (by walk_at "q") (by walk_at "q") (by walk_at "q")) (@pa_nil _) (by walk_at "q")) (by walk_at "q") (by walk_at "q") (by walk_at "q") (by walk_at "q")) (@pa_nil _) (by walk_at "q")) (by walk_at "q"))) (nomark _)) (@pss_one _ _ _ (@ps_ret _ _ _ _ pe_bl)) (@pss_nil _)))))) (@pss_cons _ _ _ _ _ (@ps_set _ _ (7) _ _ _ _ sc.nd rfl (Or.inl rfl) (@pe_op _ _ _ _ _ _ _ _ (@op_add _) (@pe_int _ _ _ _) (@pe_op _ _ _ _ _ _ _ _ (@op_mod _) (@pe_op _ _ _ _ _ _ _ _ (@op_fdiv _) (@pv _ 4 _ _ (by walk_at "q") (by walk_at "q") (by walk_at "q") (by walk_at "q")) (@pe_int _ _ _ _)) (@pe_callB _ _ _ _ _ _ _ _ _ (@call_len_seq _) rfl m_len PySem.boot_len (@pa_cons _ _ _ _ _ (@pv _ 2 _ _ (by walk_at "q") (by walk_at "q") (by walk_at "q") (by walk_at "q")) (@pa_nil _) (by walk_at "q")) (by walk_at "q") (by walk_at "q") (by walk_at "q") (by walk_at "q")))) (by walk_at "q") (by walk_at "q")) (@pss_cons _ _ _ _ _ (@ps_set _ _ (8) _ _ _ _ sc.nd rfl (Or.inl rfl) (@pe_op _ _ _ _ _ _ _ _ (@op_cat _) (@pe_op _ _ _ _ _ _ _ _ (@op_cat _) (@pe_slice _ _ _ _ _ _ _ _ _ _ (@sl_list _) (@pv _ 2 _ _ (by walk_at "q") (by walk_at "q") (by walk_at "q") (by walk_at "q")) (@po_none _) (@po_some _ _ _ (@pv _ 7 _ _ (by walk_at "q") (by walk_at "q") (by walk_at "q") (by walk_at "q")))) (@pe_lst _ _ _ _ (@pa_cons _ _ _ _ _ (@pe_cl _ _ _ _ _ _ _ _ _ _ c_law_wrong hr rfl (@pa_cons _ _ _ _ _ (@pe_cl _ _ _ _ _ _ _ _ _ _ c_law_pick hr rfl (@pa_cons _ _ _ _ _ (@pv _ 4 _ _ (by walk_at "q") (by walk_at "q") (by walk_at "q") (by walk_at "q")) (@pa_cons _ _ _ _ _ (@pe_int _ _ _ _) (@pa_cons _ _ _ _ _ (@pe_op _ _ _ _ _ _ _ _ op_pow (@pe_int _ _ _ _) (@pe_int _ _ _ _)) (@pa_nil _) (by walk_at "q")) (by walk_at "q")) (by walk_at "q")) (by walk_at "q") (by walk_at "q") (by walk_at "q")) (@pa_nil _) (by walk_at "q")) (by walk_at "q") (by walk_at "q") (by walk_at "q")) (@pa_nil _) (by walk_at "q")))) (@pe_slice _ _ _ _ _ _ _ _ _ _ (@sl_list _) (@pv _ 2 _ _ (by walk_at "q") (by walk_at "q") (by walk_at "q") (by walk_at "q")) (@po_some _ _ _ (@pv _ 7 _ _ (by walk_at "q") (by walk_at "q") (by walk_at "q") (by walk_at "q"))) (@po_none _))) (by walk_at "q") (by walk_at "q")) (@pss_cons _ _ _ _ _ (@ps_if _ _ _ _ _ _ _ _ (@pt_cmpR _ _ _ _ _ _ _ _ (@op_eq _) (@pv _ 5 _ _ (by walk_at "q") (by walk_at "q") (by walk_at "q") (by walk_at "q")) (@pe_int _ _ _ _) (nomark _)) (@pss_one _ _ _ (@ps_set _ _ (8) _ _ _ _ sc.nd rfl (Or.inl rfl) (@pe_op _ _ _ _ _ _ _ _ (@op_cat _) (@pv _ 8 _ _ (by walk_at "q") (by walk_at "q") (by walk_at "q") (by walk_at "q")) (@pe_lst _ _ _ _ (@pa_cons _ _ _ _ _ (@pe_cl _ _ _ _ _ _ _ _ _ _ c_law_wrong hr rfl (@pa_cons _ _ _ _ _ (@pe_cl _ _ _ _ _ _ _ _ _ _ c_law_pick hr rfl (@pa_cons _ _ _ _ _ (@pv _ 4 _ _ (by walk_at "q") (by walk_at "q") (by walk_at "q") (by walk_at "q")) (@pa_cons _ _ _ _ _ (@pe_int _ _ _ _) (@pa_cons _ _ _ _ _ (@pe_op _ _ _ _ _ _ _ _ op_pow (@pe_int _ _ _ _) (@pe_int _ _ _ _)) (@pa_nil _) (by walk_at "q")) (by walk_at "q")) (by walk_at "q")) (by walk_at "q") (by walk_at "q") (by walk_at "q")) (@pa_nil _) (by walk_at "q")) (by walk_at "q") (by walk_at "q") (by walk_at "q")) (@pa_nil _) (by walk_at "q")))) (by walk_at "q") (by walk_at "q"))) (@pss_nil _)) (@pss_one _ _ _ (@ps_if _ _ _ _ _ _ _ _ (@pt_cmpR _ _ _ _ _ _ _ _ (op_neD (n:=9) hu) (@pe_cl _ _ _ _ _ _ _ _ _ _ c_law_told hr rfl (@pa_cons _ _ _ _ _ (pe_bm PySem.F.plainAttrs_str PySem.F.slot_str_join PySem.F.type_str_join mt_join pe_str (pa_cons (pv 8) pa_nil)) (@pa_nil _) (by walk_at "q")) (by walk_at "q") (by walk_at "q") (by walk_at "q")) (@pe_tup _ _ _ _ _ (@pa_cons _ _ _ _ _ (@pe_str _ _ _ _) (@pa_cons _ _ _ _ _ (@pv _ 7 _ _ (by walk_at "q") (by walk_at "q") (by walk_at "q") (by walk_at "q")) (@pa_nil _) (by walk_at "q")) (by walk_at "q"))) (nomark _)) (@pss_one _ _ _ (@ps_ret _ _ _ _ pe_bl)) (@pss_nil _))))))))) (@pss_one _ _ _ (@ps_ret _ _ _ _ (@pe_cmpR _ _ _ _ _ _ _ _ (op_eqT (n:=9) hu) (@pe_cln _ _ _ _ _ _ _ _ _ _ c_read hr rfl (@pa_cons _ _ _ _ _ (@pv _ 3 _ _ (by walk_at "q") (by walk_at "q") (by walk_at "q") (by walk_at "q")) (@pa_nil _) (by walk_at "q")) (by walk_at "q") (by walk_at "q") (by walk_at "q")) (@pv _ 1 _ _ (by walk_at "q") (by walk_at "q") (by walk_at "q") (by walk_at "q")) (nomark _))))))))))),?_⟩
 refine ⟨_,rfl,a,ns,rfl,hs,h63,fun nm rw ds xs t l H1 s1 et el _ il hd=>?_⟩
 have hp:ProgAt K H1 t l nm rw ds:=⟨SqT.of et,xs,el,il⟩
 have l2:=hd.l2
 have txr:TextR (rowsOf nm rw ds):=⟨hd.rows,by unfold rowsOf; rw [List.length_cons,List.length_map]; omega⟩
 refine ⟨_,rfl,t,l,nm,rw,ds,rfl,hp,hd,fun H2 p s2 ep=>?_⟩
 have hp2:=hp.mono s2
 refine ⟨rfl,_,rfl,_,p,rowsOf nm rw ds,rfl,rfl,SqL.of ep,(rows_text (by unfold rowsOf; simp) txr.row txr.len).1,?_⟩
 -- the right text is read
 have rd:∀ {H3:Hp} {Q':VK},ProgAt K H3 t l nm rw ds→(∀ (H4:Hp) (t4:Addr),Same H3 H4→IsT K H4 (.tup (progT nm rw ds)) (.ref t4)→Q' (.ref t4) H4)→spRead K a_BadRow a_NoProgram [.str (joinN (rowsOf nm rw ds))] H3 Q' E0:=fun {H3 Q'} hp3 hq=>
  read_all txr hd.head.1 hd.seq hd.lineX hd.verd (fun _ H4 t4 l4 xs4 s4 e4 e5 il4=>hq H4 t4 s4 (ProgAt.ist ⟨SqT.of e4,xs4,e5,il4⟩)) (fun v e=>nomatch e)
 dsimp only [gName,tSeq,tIfS]
 refine ⟨_,rfl,rd hp2 fun H3 t3 s3 i3=>⟨_,rfl,progT nm rw ds,.inr ⟨i3,(hp2.mono s3).ist⟩,hd.dep,false,rfl,iteF ?_⟩⟩
 have s23:=s2.trans s3
 have hs3:=(s1.trans s23).seq hs
 refine ⟨_,rfl,a,ns,2,rfl,hs3,h63,by decide,by decide,fun c H4 s4=>?_⟩
 refine ⟨_,rfl,a,ns,3,rfl,s4.seq hs3,h63,by decide,by decide,fun c3 H5 s5=>⟨_,_,rfl,rfl,by show (0:Int) < 5; decide,?_⟩⟩
 have s25:=s3.trans (s4.trans s5)
 have ep5:=s25 _ _ ep
 have hp5:=hp2.mono s25
 dsimp only [gName,tSeq]
 generalize c3 % 5=way
 refine ifs_nx (fun σ' H'=>σ'[1]?=some (some (V.ref t))∧σ'[3]?=some (some (V.str (joinN (rowsOf nm rw ds))))∧Same H5 H') (fun σ' H' h=>?_) (fun D' k=>?_)
 ·obtain ⟨h1,h3,sm⟩:=h
  exact ⟨_,h3,rd (hp5.mono sm) fun H6 t6 s6 i6=>⟨_,h1,progT nm rw ds,.inr ⟨i6,((hp5.mono sm).mono s6).ist⟩,hd.dep,q H6⟩⟩
 refine ⟨_,rfl,rfl,_,rfl,ite2 (fun cc=>?_) (fun cc=>?_)⟩
 ·refine ⟨rfl,_,rfl,c,rfl,fun th H6 hth s6=>⟨Nat.le_of_ble_eq_true rfl,fun g1 ng1=>?_⟩⟩
  have s7:=s6.trans (same_new ng1 (.lst [.str th]))
  refine ⟨_,rfl,_,rfl,p,_,rfl,SqL.of (s7 _ _ ep5),fun g2 ng2=>?_⟩
  rw [show cutV ((rowsOf nm rw ds).map V.str) (some 1) none=(ds.map lineT).map V.str from cut1 _ _]
  have s8:=same_new ng2 (.lst ((ds.map lineT).map V.str))
  refine ⟨g1,g2,_,_,rfl,rfl,s8 _ _ upd_same,upd_same,small (by rw [List.length_singleton,List.length_map,List.length_map]; omega),fun g3 ng3=>?_⟩
  have s9:=s7.trans (s8.trans (same_new ng3 (.lst ([.str th]++(ds.map lineT).map V.str))))
  obtain ⟨hn,hrow⟩:=head_bad hth
  have tr:TextR (th::ds.map lineT):=⟨fun u hu=>(List.mem_cons.mp hu).elim (fun e=>e ▸ hrow) fun hm=>hd.rows u (List.mem_cons_of_mem _ hm),by rw [List.length_cons,List.length_map]; omega⟩
  refine ⟨_,g3,th::ds.map lineT,rfl,rfl,SqL.of upd_same,(rows_text (by simp) tr.row tr.len).1,?_⟩
  refine ⟨th,ds.map lineT,.bad 0,rfl,tr,.inl ⟨hn,rfl⟩,(fun v e=>nomatch e),fun tt H7 s10 e7=>⟨Nat.le_of_ble_eq_true rfl,fun u nu=>?_⟩⟩
  have s11:=same_new nu (.tup [.str "row",.int 0])
  exact ne_told (s11 _ _ e7) upd_same ⟨false,rfl,iteF (k _ _ ⟨rfl,rfl,s9.trans (s10.trans s11)⟩)⟩
 refine ⟨_,rfl,rfl,_,rfl,ite2 (fun cc=>?_) (fun cc=>?_)⟩
 ·refine ⟨_,rfl,_,rfl,_,rfl,p,t,l,nm,rw,ds,c,rfl,ep5,hp5,hd,fun H6 tt pb ts v s6 ett epb hN=>?_⟩
  refine ⟨tt,_,rfl,SqT.of ett,rfl,_,_,rfl,_,_,rfl,rfl,?_⟩
  obtain ⟨r0,rs,ets,hR,hc,hl⟩:=hN.ex
  subst ets
  have len:=hN.len
  have tr:TextR (r0::rs):=⟨hN.row,by omega⟩
  refine ⟨rfl,_,rfl,_,pb,r0::rs,rfl,rfl,SqL.of epb,(rows_text (by simp) tr.row tr.len).1,?_⟩
  refine ⟨r0,rs,.no v,rfl,tr,hR,(fun v' e=>by cases e; exact hN.v),fun t7 H7 s7 e7=>⟨_,rfl,Nat.le_of_ble_eq_true rfl,fun u nu=>?_⟩⟩
  have s8:=same_new nu (.tup [.str "line",v])
  refine ne_toldV hN.v (s8 _ _ e7) upd_same ⟨false,rfl,iteF ?_⟩
  have s68:=s6.trans (s7.trans s8)
  have epb8:=s8 _ _ (s7 _ _ epb)
  generalize upd H7 u (.tup [.str "line",v])=H8 at s8 s68 epb8
  refine ⟨_,rfl,_,rfl,_,_,rfl,rfl,⟨by decide,by decide,by decide⟩,_,_,_,rfl,by decide,by decide,by decide,fun i _ _=>⟨i,rfl,fun w2 H9 bw s9=>⟨Nat.le_of_ble_eq_true rfl,cat_of (s9 _ _ epb8) (by rw [List.length_map,List.length_singleton]; omega) fun g H10 s10 e10=>?_⟩⟩⟩
  have s610:=s68.trans (s9.trans s10)
  have epb10:=s10 _ _ (s9 _ _ epb8)
  rw [show (r0::rs).map V.str++[V.str w2]=(r0::(rs++w2::[])).map V.str by simp] at e10
  have tr2:TextR (r0::(rs++w2::[])):=by
   refine ⟨fun u hu=>?_,by rw [List.length_cons,List.length_append]; rw [List.length_cons] at len; simp only [List.length_cons,List.length_nil]; omega⟩
   rcases List.mem_cons.mp hu with e | hm
   ·exact tr.row u (by rw [e]; exact List.mem_cons_self)
   ·rcases List.mem_append.mp hm with hm | hm
    ·exact tr.row u (List.mem_cons_of_mem _ hm)
    ·rw [List.mem_singleton.mp hm]; exact bw.row
  obtain ⟨⟨nm2,rw2⟩,hc2⟩:=Option.ne_none_iff_exists'.mp hc
  refine ⟨rfl,_,rfl,_,g,r0::(rs++w2::[]),rfl,rfl,SqL.of e10,(rows_text (by simp) tr2.row tr2.len).1,?_⟩
  refine ⟨r0,rs++w2::[],.bad ((rs.length:Int) + 1),rfl,tr2,bad_at hc2 hl bw.no,(fun v e=>nomatch e),fun t11 H11 s11 e11=>?_⟩
  refine ⟨_,rfl,pb,_,rfl,.inl (SqL.of (s11 _ _ epb10)),Nat.le_of_ble_eq_true rfl,fun u2 nu2=>?_⟩
  have eu:(((r0::rs).map V.str).length:Int)=(rs.length:Int) + 1:=by rw [List.length_map,List.length_cons]; omega
  have s12:=same_new nu2 (.tup [.str "row",.int (((r0::rs).map V.str).length:Int)])
  rw [eu] at s12 ⊢
  exact ne_told (s12 _ _ e11) upd_same ⟨false,rfl,iteF (k _ _ ⟨rfl,rfl,s610.trans (s11.trans s12)⟩)⟩
 have lr:(((rowsOf nm rw ds).map V.str).length:Int)=(ds.length:Int) + 1:=by unfold rowsOf; rw [List.length_map,List.length_cons,List.length_map]; omega
 refine ⟨_,rfl,_,_,rfl,rfl,⟨by decide,by decide⟩,_,rfl,p,_,rfl,.inl (SqL.of ep5),?_⟩
 rw [lr]
 obtain ⟨j,ej⟩:∃ j:Nat,(j:Int)=c / 9973 % ((ds.length:Int) + 1):=⟨(c / 9973 % ((ds.length:Int) + 1)).toNat,by have:=Int.emod_nonneg (c / 9973) (show ((ds.length:Int) + 1)≠0 by omega); omega⟩
 have hj:j≤ds.length:=by have:=Int.emod_lt_of_pos (c / 9973) (show (0:Int) < (ds.length:Int) + 1 by omega); omega
 refine ⟨_,_,rfl,rfl,by omega,_,_,rfl,rfl,?_⟩
 rw [← ej]
 have e1j:(1 + (j:Int))=((1 + j:Nat):Int):=by omega
 dsimp only [gName,tSeq]
 rw [e1j]
 refine ⟨_,rfl,_,rfl,_,rfl,p,_,rfl,SqL.of ep5,fun g1 ng1=>?_⟩
 rw [cut_to]
 have s6:=same_new ng1 (.lst (((rowsOf nm rw ds).map V.str).take (1 + j)))
 have e1:upd H5 g1 (.lst (((rowsOf nm rw ds).map V.str).take (1 + j))) g1=_:=upd_same
 generalize upd H5 g1 (.lst (((rowsOf nm rw ds).map V.str).take (1 + j)))=H6 at s6 e1
 have lt:(((rowsOf nm rw ds).map V.str).take (1 + j)).length≤40:=by
  rw [List.length_take,List.length_map]
  unfold rowsOf
  rw [List.length_cons,List.length_map]; omega
 refine ⟨_,rfl,_,_,rfl,rfl,⟨by decide,by decide,by decide⟩,_,_,_,rfl,by decide,by decide,by decide,fun i _ _=>⟨i,rfl,fun w1 H7 bw s7=>⟨Nat.le_of_ble_eq_true rfl,cat_of (s7 _ _ e1) (by rw [List.length_singleton]; omega) fun g2 H8 s8 e8=>?_⟩⟩⟩
 have s68:=s6.trans (s7.trans s8)
 refine ⟨_,rfl,_,rfl,_,rfl,p,_,rfl,SqL.of (s68 _ _ ep5),fun g3 ng3=>?_⟩
 rw [cut_from]
 have s9:=same_new ng3 (.lst (((rowsOf nm rw ds).map V.str).drop (1 + j)))
 refine ⟨g2,g3,_,_,rfl,rfl,s9 _ _ e8,upd_same,small (by rw [List.length_append,List.length_singleton,List.length_drop,List.length_map]; unfold rowsOf; rw [List.length_cons,List.length_map]; unfold rowsOf at lt; omega),fun g4 ng4=>?_⟩
 rw [rows_cut]
 have s10:=same_new ng4 (.lst ((countsT nm rw::((ds.take j).map lineT++w1::(ds.drop j).map lineT)).map V.str))
 have e10:upd (upd H8 g3 (.lst (((rowsOf nm rw ds).map V.str).drop (1 + j)))) g4 (.lst ((countsT nm rw::((ds.take j).map lineT++w1::(ds.drop j).map lineT)).map V.str)) g4=_:=upd_same
 have s510:=s68.trans (s9.trans s10)
 generalize upd (upd H8 g3 (.lst (((rowsOf nm rw ds).map V.str).drop (1 + j)))) g4 (.lst ((countsT nm rw::((ds.take j).map lineT++w1::(ds.drop j).map lineT)).map V.str))=H10 at s510 e10
 have lj:(ds.take j).length=j:=by rw [List.length_take]; omega
 have lx:((ds.take j).map lineT).length=j:=by rw [List.length_map,lj]
 dsimp only [gName,tSeq]
 refine ifs_nx (fun σ' H'=>∃ (g:Addr) (post:List Str) (y6 y9:Option V),σ'=[some (.ref a),some (.ref t),some (.ref p),some (.str (joinN (rowsOf nm rw ds))),some (.int c),some (.int way),y6,some (.int ((1 + j:Nat):Int)),some (.ref g),y9]∧H' g=some (.lst ((countsT nm rw::((ds.take j).map lineT++w1::post)).map V.str))∧(∀ r∈post,RowS r)∧post.length≤40∧Same H5 H') (fun σ' H' h=>?_) (fun D2 k2=>?_)
 ·obtain ⟨g,post,y6,y9,rfl,eg,hpost,lpost,sm⟩:=h
  have tr:TextR (countsT nm rw::((ds.take j).map lineT++w1::post)):=by
   refine ⟨fun u hu=>?_,by rw [List.length_cons,List.length_append,List.length_cons,lx]; omega⟩
   rcases List.mem_cons.mp hu with e | hm
   ·rw [e]; exact hd.head.2
   ·rcases List.mem_append.mp hm with hm | hm
    ·obtain ⟨e,he,rfl⟩:=List.mem_map.mp hm
     exact (hd.row e (List.mem_of_mem_take he)).2
    ·rcases List.mem_cons.mp hm with rfl | hm
     ·exact bw.row
     ·exact hpost u hm
  refine ⟨rfl,_,rfl,_,g,countsT nm rw::((ds.take j).map lineT++w1::post),rfl,rfl,SqL.of eg,(rows_text (by simp) tr.row tr.len).1,?_⟩
  refine ⟨countsT nm rw,(ds.take j).map lineT++w1::post,.bad ((((ds.take j).map lineT).length:Int) + 1),rfl,tr,bad_at hd.head.1 (hd.pre j) bw.no,(fun v e=>nomatch e),fun t11 H11 s11 e11=>?_⟩
  refine ⟨_,rfl,Nat.le_of_ble_eq_true rfl,fun u2 nu2=>?_⟩
  have eu:((((ds.take j).map lineT).length:Int) + 1)=((1 + j:Nat):Int):=by rw [lx]; omega
  have e11:H11 t11=some (.tup [.str "row",.int ((((ds.take j).map lineT).length:Int) + 1)]):=e11
  rw [eu] at e11
  have s12:=same_new nu2 (.tup [.str "row",.int ((1 + j:Nat):Int)])
  exact ne_told (s12 _ _ e11) upd_same ⟨false,rfl,iteF (k _ _ ⟨rfl,rfl,sm.trans (s11.trans s12)⟩)⟩
 have hpost:∀ r∈(ds.drop j).map lineT,RowS r:=fun r hr=>by
  obtain ⟨e,he,rfl⟩:=List.mem_map.mp hr
  exact (hd.row e (List.mem_of_mem_drop he)).2
 have lpost:((ds.drop j).map lineT).length≤30:=by rw [List.length_map,List.length_drop]; omega
 refine ⟨_,rfl,rfl,_,rfl,ite2 (fun cc=>?_) (fun cc=>?_)⟩
 ·refine ⟨_,rfl,_,rfl,_,_,rfl,rfl,⟨by decide,by decide,by decide⟩,_,_,_,rfl,by decide,by decide,by decide,fun i _ _=>⟨i,rfl,fun w2 H11 bw2 s11=>⟨Nat.le_of_ble_eq_true rfl,cat_of (s11 _ _ e10) (by rw [List.length_map,List.length_cons,List.length_append,List.length_cons,lx,List.length_singleton]; omega) fun g5 H12 s12 e12=>?_⟩⟩⟩
  refine k2 _ _ ⟨g5,(ds.drop j).map lineT++[w2],_,_,rfl,?_,fun r hr=>?_,by rw [List.length_append,List.length_singleton]; omega,s510.trans (s11.trans s12)⟩
  ·rw [e12]; simp
  ·rcases List.mem_append.mp hr with h | h
   ·exact hpost r h
   ·rw [List.mem_singleton.mp h]; exact bw2.row
 ·exact k2 _ _ ⟨g4,(ds.drop j).map lineT,_,_,rfl,e10,hpost,by omega,s510⟩
end
def RowP (w:World) (K:PySem.W.Frag) (p:Str × List Str) (e:DictEntry):Prop:=e.hash=hashStr w p.1∧(∃ t,e.key=.str p.1 t)∧∃ (a:Addr) (o:Obj) (its:Array Value) (n:Nat),e.val=.ref a∧K.lookup a=some o∧o.cls=.type "tuple"∧o.data=.seq its n∧its.size≤sizeLine∧Vals (p.2.map V.str) its.toList
theorem row_mk {w:World} {K:PySem.W.Frag} {p:Str × List Str} {e:DictEntry} {t:Tok} {a:Addr} {o:Obj} {its:Array Value} {n:Nat} (h1:e.hash=hashStr w p.1) (h2:e.key=.str p.1 t) (h3:e.val=.ref a) (h4:K.lookup a=some o) (h5:o.cls=.type "tuple") (h6:o.data=.seq its n) (h7:its.size≤sizeLine)
  (h8:Vals (p.2.map V.str) its.toList):RowP w K p e:=⟨h1,⟨t,h2⟩,a,o,its,n,h3,h4,h5,h6,h7,h8⟩
theorem tab_mk {P:Program} {w:World} {K:PySem.W.Frag} {mg:Str→Option Value} {aP:Addr} {oP:Obj} {es:Array DictEntry} {ep:Nat} (mp:mg "PARTS" = some (.ref aP)) (lP:K.lookup aP=some oP) (xP:oP.ExactDict) (dP:oP.data=.dict es ep) (rP:Paired (RowP w K) partsL es.toList):Tab P w K mg aP:=by
 have go:∀ (l:List (Str × List Str)) (r:List DictEntry),Paired (RowP w K) l r→∃ kvs:List (Str × V),Paired (fun (p:Str × V) (e:DictEntry)=>e.hash=hashStr w p.1∧(∃ t,e.key=.str p.1 t)∧RelV p.2 e.val) kvs r∧kvs.map (·.1)=l.map (·.1)∧
   (∀ (x:Str) (ks:List Str),l.lookup x=some ks→∃ p,kvs.lookup x=some (.ref p)∧∀ H:Hp,SqT K H p (ks.map V.str))∧∀ x:Str,l.lookup x=none→kvs.lookup x=none:=by
  intro l r h
  induction h with
  | nil=>exact ⟨[],.nil,rfl,fun x ks h=>by simp at h,fun _ _=>rfl⟩
  | @cons p e l1 l2 hd tl ih=>
   obtain ⟨kvs,h1,h2,h3,h4⟩:=ih
   obtain ⟨p1,p2⟩:=p
   obtain ⟨q1,q2,a,o,its,n,q3,q4,q5,q6,q7,q8⟩:=hd
   refine ⟨(p1,.ref a)::kvs,.cons ⟨q1,q2,q3⟩ h1,by simp [h2],fun x ks hx=>?_,fun x hx=>?_⟩
   rotate_left
   ·cases hb:x == p1 with
    | true=>
     simp only [List.lookup_cons,hb] at hx
     cases hx
    | false=>
     simp only [List.lookup_cons,hb] at hx ⊢
     exact h4 x hx
   cases hb:x == p1 with
   | true=>
    simp only [List.lookup_cons,hb] at hx ⊢
    cases hx
    exact ⟨a,rfl,fun H=>.inr ⟨o,its,n,q4,q5,q6,q7,q8⟩⟩
   | false=>
    simp only [List.lookup_cons,hb] at hx ⊢
    exact h3 x ks hx
 obtain ⟨kvs,h1,h2,h3,h4⟩:=go _ _ rP
 refine ⟨mp,⟨kvs,KD.of lP xP dP h1 ?_,h3,h4⟩⟩
 rw [h2]
 decide +kernel
def RowM (w:World) (p:Str × Str) (e:DictEntry):Prop:=e.hash=hashStr w p.1∧(∃ t,e.key=.str p.1 t)∧∃ t,e.val=.str p.2 t
theorem rowM_mk {w:World} {p:Str × Str} {e:DictEntry} {t u:Tok} (h1:e.hash=hashStr w p.1) (h2:e.key=.str p.1 t) (h3:e.val=.str p.2 u):RowM w p e:=⟨h1,⟨t,h2⟩,u,h3⟩
theorem tabM_mk {P:Program} {w:World} {K:PySem.W.Frag} {mg:Str→Option Value} {aP:Addr} {oP:Obj} {es:Array DictEntry} {ep:Nat} (mp:mg "MARKS" = some (.ref aP)) (lP:K.lookup aP=some oP) (xP:oP.ExactDict) (dP:oP.data=.dict es ep) (rP:Paired (RowM w) marksL es.toList):TabM P w K mg aP:=by
 have go:∀ (l:List (Str × Str)) (r:List DictEntry),Paired (RowM w) l r→Paired (fun (p:Str × V) (e:DictEntry)=>e.hash=hashStr w p.1∧(∃ t,e.key=.str p.1 t)∧RelV p.2 e.val) (l.map fun p=>(p.1,V.str p.2)) r:=by
  intro l r h
  induction h with
  | nil=>exact .nil
  | cons hd tl ih=>
   obtain ⟨q1,q2,q3⟩:=hd
   exact .cons ⟨q1,q2,q3⟩ ih
 refine ⟨mp,KD.of lP xP dP (go _ _ rP) ?_⟩
 decide +kernel
theorem tabZ_mk {P:Program} {w:World} {K:PySem.W.Frag} {mg:Str→Option Value} {aZ:Addr} {oZ:Obj} {nZ:Nat} {iZ:Array Value} (mz:mg "ZERO" = some (.ref aZ)) (lZ:K.lookup aZ=some oZ) (cZ:oZ.cls=.type "tuple") (dZ:oZ.data=.seq iZ nZ) (zZ:iZ.size≤sizeLine) (vZ:Vals [.str "zero"] iZ.toList):TabZ P w K mg aZ:=
 ⟨mz,fun H=>.inr ⟨oZ,iZ,nZ,lZ,cZ,dZ,zZ,vZ⟩⟩
theorem ns_has {K:PySem.W.Frag} {h:Heap} {N:Addr} {m:Str→Option Value} {x:Str} {v:Value} (X:K.In h) (G:h.Ns N m) (e:PySem.W.nsIn K N x=some (some v)):m x=some v:=by
 obtain ⟨o,es,ep,ho,hd,_,hf⟩:=G
 unfold PySem.W.nsIn at e
 split at e
 ·rename_i q; have z:=X _ _ q; rw [ho] at z; cases z; cases hd
  split at e
  ·rename_i he; cases e; rw [← hf]; unfold nsFind findBy; rw [← Array.find?_toList,he]; rfl
  ·split at e <;> cases e
 ·cases e
theorem xmk_of {K:PySem.W.Frag} {C fI N:Addr} {nm q:Str} {bs bm:List Value} {hdct:Bool} {sn:List Str} {sub:List Value} {ab:Bool} {col:Option Bool} {dd:Option Addr} {k0 k1 k2 k3 k5:Option Value} {oI:Obj}
  (lC:K.lookup C=some (excClassObj nm q C N bs bm hdct sn sub ab col dd k0 k1 k2 k3 k5 "ValueError.__new__")) (tC:PySem.W.tailIn K [.type "ValueError",.type "Exception",.type "BaseException",.type "object"] bm=true) (bC:bm.contains (.type "BaseException")=true)
  (oN:PySem.W.nsOkIn K N=true) (iN:PySem.W.nsIn K N "__init__" = some (some (.ref fI))) (lI:K.lookup fI=some oI) (cI:oI.cls=.type "function") (kC:PySem.W.keepIn K (.ref C)=true):XMk K C fI:=
 ⟨⟨nm,q,N,bs,bm,hdct,sn,sub,ab,col,dd,k0,k1,k2,k3,k5,_,_,_,_,lC,PySem.F.excBase_ValueError,bC,fun _ X=>PySem.W.tail_of_in X tC,fun h X=>⟨_,.of_isNs (PySem.W.isNs_of_in X oN),ns_has X (.of_isNs (PySem.W.isNs_of_in X oN)) iN⟩⟩,⟨oI,lI,cI⟩,kC⟩
theorem clx_mono {P:Program} {w:World} {K:PySem.W.Frag} {mg:Str→Option Value} {base:Heap} {x:Str} {j k:Nat} {ps:List Str} {sp:Sp} (c:ClX P w K mg base x j ps sp) (h:j≤k):ClX P w K mg base x k ps sp:=by
 obtain ⟨f,fd,F,b,kp,m⟩:=c
 exact ⟨f,fd,F.mono h,b,kp,m⟩
theorem xerr_mono {P:Program} {w:World} {K:PySem.W.Frag} {mg:Str→Option Value} {base:Heap} {x:Str} {j k:Nat} {ps:List Str} {C:Addr} {f:Str} (c:XErr P w K mg base x j ps C f) (h:j≤k):XErr P w K mg base x k ps C f:=by
 obtain ⟨⟨fI,fd,M,F,b⟩,m,l⟩:=c
 exact ⟨⟨fI,fd,M,F.mono h,b⟩,m,l⟩
theorem lenS {n:Nat} {us:List Value} (hl:us.length=n + 1):∃ a t,us=a::t∧t.length=n:=by
 cases us with
 | nil=>cases hl
 | cons a t=>exact ⟨a,t,rfl,Nat.succ.inj hl⟩
theorem lv1 {p:List Value→Prop} {us:List Value} (hl:us.length=1) (h:∀ a,p [a]):p us:=by
 obtain ⟨a,t,rfl,e⟩:=lenS hl
 obtain rfl:=List.eq_nil_of_length_eq_zero e
 exact h a
theorem lv2 {p:List Value→Prop} {us:List Value} (hl:us.length=2) (h:∀ a0 a1,p [a0,a1]):p us:=by
 obtain ⟨a,t,rfl,e⟩:=lenS hl
 exact lv1 (p:=fun t=>p (a::t)) e (h a)
theorem lv3 {p:List Value→Prop} {us:List Value} (hl:us.length=3) (h:∀ a0 a1 a2,p [a0,a1,a2]):p us:=by
 obtain ⟨a,t,rfl,e⟩:=lenS hl
 exact lv2 (p:=fun t=>p (a::t)) e (h a)
theorem lv4 {p:List Value→Prop} {us:List Value} (hl:us.length=4) (h:∀ a0 a1 a2 a3,p [a0,a1,a2,a3]):p us:=by
 obtain ⟨a,t,rfl,e⟩:=lenS hl
 exact lv3 (p:=fun t=>p (a::t)) e (h a)
theorem lv5 {p:List Value→Prop} {us:List Value} (hl:us.length=5) (h:∀ a0 a1 a2 a3 a4,p [a0,a1,a2,a3,a4]):p us:=by
 obtain ⟨a,t,rfl,e⟩:=lenS hl
 exact lv4 (p:=fun t=>p (a::t)) e (h a)
theorem all_mk {l:PySem.W.OpenLaw} {w:World} {K:PySem.W.Frag} {h:Heap} {mg:Str→Option Value} {fa:Addr} (X:K.In h) (G:h.Ns mainGlobals mg) (hfa:mg "law" = some (.ref fa))
  {f1:Addr} {od1 an1:Option Addr} {sl1:Array (Option Value)} {oc1 kV1 dc1 pm1 cd1 ct1:Value}
  {f2:Addr} {od2 an2:Option Addr} {sl2:Array (Option Value)} {oc2 kV2 dc2 pm2 cd2 ct2:Value}
  {f3:Addr} {od3 an3:Option Addr} {sl3:Array (Option Value)} {oc3 kV3 dc3 pm3 cd3 ct3:Value}
  {f4:Addr} {od4 an4:Option Addr} {sl4:Array (Option Value)} {oc4 kV4 dc4 pm4 cd4 ct4:Value}
  {f5:Addr} {od5 an5:Option Addr} {sl5:Array (Option Value)} {oc5 kV5 dc5 pm5 cd5 ct5:Value}
  {f6:Addr} {od6 an6:Option Addr} {sl6:Array (Option Value)} {oc6 kV6 dc6 pm6 cd6 ct6:Value}
  {f7:Addr} {od7 an7:Option Addr} {sl7:Array (Option Value)} {oc7 kV7 dc7 pm7 cd7 ct7:Value}
  {f8:Addr} {od8 an8:Option Addr} {sl8:Array (Option Value)} {oc8 kV8 dc8 pm8 cd8 ct8:Value}
  {f9:Addr} {od9 an9:Option Addr} {sl9:Array (Option Value)} {oc9 kV9 dc9 pm9 cd9 ct9:Value}
  {f10:Addr} {od10 an10:Option Addr} {sl10:Array (Option Value)} {oc10 kV10 dc10 pm10 cd10 ct10:Value}
  {f11:Addr} {od11 an11:Option Addr} {sl11:Array (Option Value)} {oc11 kV11 dc11 pm11 cd11 ct11:Value}
  {f12:Addr} {od12 an12:Option Addr} {sl12:Array (Option Value)} {oc12 kV12 dc12 pm12 cd12 ct12:Value}
  {f13:Addr} {od13 an13:Option Addr} {sl13:Array (Option Value)} {oc13 kV13 dc13 pm13 cd13 ct13:Value}
  {f14:Addr} {od14 an14:Option Addr} {sl14:Array (Option Value)} {oc14 kV14 dc14 pm14 cd14 ct14:Value}
  {f15:Addr} {od15 an15:Option Addr} {sl15:Array (Option Value)} {oc15 kV15 dc15 pm15 cd15 ct15:Value}
  {f16:Addr} {od16 an16:Option Addr} {sl16:Array (Option Value)} {oc16 kV16 dc16 pm16 cd16 ct16:Value}
  {f17:Addr} {od17 an17:Option Addr} {sl17:Array (Option Value)} {oc17 kV17 dc17 pm17 cd17 ct17:Value}
  {f18:Addr} {od18 an18:Option Addr} {sl18:Array (Option Value)} {oc18 kV18 dc18 pm18 cd18 ct18:Value}
  {f19:Addr} {od19 an19:Option Addr} {sl19:Array (Option Value)} {oc19 kV19 dc19 pm19 cd19 ct19:Value}
  {f20:Addr} {od20 an20:Option Addr} {sl20:Array (Option Value)} {oc20 kV20 dc20 pm20 cd20 ct20:Value}
  {f21:Addr} {od21 an21:Option Addr} {sl21:Array (Option Value)} {oc21 kV21 dc21 pm21 cd21 ct21:Value}
  {f22:Addr} {od22 an22:Option Addr} {sl22:Array (Option Value)} {oc22 kV22 dc22 pm22 cd22 ct22:Value}
  {f23:Addr} {od23 an23:Option Addr} {sl23:Array (Option Value)} {oc23 kV23 dc23 pm23 cd23 ct23:Value}
  {f24:Addr} {od24 an24:Option Addr} {sl24:Array (Option Value)} {oc24 kV24 dc24 pm24 cd24 ct24:Value}
  {f25:Addr} {od25 an25:Option Addr} {sl25:Array (Option Value)} {oc25 kV25 dc25 pm25 cd25 ct25:Value}
  {f26:Addr} {od26 an26:Option Addr} {sl26:Array (Option Value)} {oc26 kV26 dc26 pm26 cd26 ct26:Value}
  {f27:Addr} {od27 an27:Option Addr} {sl27:Array (Option Value)} {oc27 kV27 dc27 pm27 cd27 ct27:Value}
  {f28:Addr} {od28 an28:Option Addr} {sl28:Array (Option Value)} {oc28 kV28 dc28 pm28 cd28 ct28:Value}
  {f29:Addr} {od29 an29:Option Addr} {sl29:Array (Option Value)} {oc29 kV29 dc29 pm29 cd29 ct29:Value}
  {f30:Addr} {od30 an30:Option Addr} {sl30:Array (Option Value)} {oc30 kV30 dc30 pm30 cd30 ct30:Value}
  {f31:Addr} {od31 an31:Option Addr} {sl31:Array (Option Value)} {oc31 kV31 dc31 pm31 cd31 ct31:Value}
  {f32:Addr} {od32 an32:Option Addr} {sl32:Array (Option Value)} {oc32 kV32 dc32 pm32 cd32 ct32:Value}
  {f33:Addr} {od33 an33:Option Addr} {sl33:Array (Option Value)} {oc33 kV33 dc33 pm33 cd33 ct33:Value}
  {f34:Addr} {od34 an34:Option Addr} {sl34:Array (Option Value)} {oc34 kV34 dc34 pm34 cd34 ct34:Value}
  {f35:Addr} {od35 an35:Option Addr} {sl35:Array (Option Value)} {oc35 kV35 dc35 pm35 cd35 ct35:Value}
  {f36:Addr} {od36 an36:Option Addr} {sl36:Array (Option Value)} {oc36 kV36 dc36 pm36 cd36 ct36:Value}
  {f37:Addr} {od37 an37:Option Addr} {sl37:Array (Option Value)} {oc37 kV37 dc37 pm37 cd37 ct37:Value}
  {f38:Addr} {od38 an38:Option Addr} {sl38:Array (Option Value)} {oc38 kV38 dc38 pm38 cd38 ct38:Value}
  {f39:Addr} {od39 an39:Option Addr} {sl39:Array (Option Value)} {oc39 kV39 dc39 pm39 cd39 ct39:Value}
  {f40:Addr} {od40 an40:Option Addr} {sl40:Array (Option Value)} {oc40 kV40 dc40 pm40 cd40 ct40:Value}
  {f41:Addr} {od41 an41:Option Addr} {sl41:Array (Option Value)} {oc41 kV41 dc41 pm41 cd41 ct41:Value}
  {f42:Addr} {od42 an42:Option Addr} {sl42:Array (Option Value)} {oc42 kV42 dc42 pm42 cd42 ct42:Value}
  {f43:Addr} {od43 an43:Option Addr} {sl43:Array (Option Value)} {oc43 kV43 dc43 pm43 cd43 ct43:Value}
  {aP aM aZ:Addr} {oP oM oZ:Obj} {es em:Array DictEntry} {ep mp:Nat} {nZ:Nat} {iZ:Array Value} {C_NoProgram C_SpareError C_BadRow C_NoPaper C_NoLoop:Addr} {fIN NIN:Addr} {nmN qN:Str} {bsN bmN:List Value} {hdN:Bool} {snN:List Str} {subN:List Value} {abN:Bool} {colN:Option Bool} {ddN:Option Addr} {k0N k1N k2N k3N k5N:Option Value} {odN anN:Option Addr} {slN:Array (Option Value)} {kVN dcN pmN cdN ctN:Value} {fIB NIB:Addr} {nmB qB:Str} {bsB bmB:List Value} {hdB:Bool} {snB:List Str} {subB:List Value} {abB:Bool} {colB:Option Bool} {ddB:Option Addr} {k0B k1B k2B k3B k5B:Option Value} {odB anB:Option Addr} {slB:Array (Option Value)} {kVB dcB pmB cdB ctB:Value} {t_MOST_NAMES:Tok} {t_MOST_ROWS:Tok} {t_MOST_LINES:Tok} {t_MOST_BOUNDS:Tok} {t_GREATEST_WRITTEN:Tok} {t_MOST_FIGURES:Tok} {t_FIGURES:Tok} {t_NOUGHT:Tok}
  (a1:PySem.W.nsIn K mainGlobals "kinds_behind" = some (some (.ref f1))) (l1:K.lookup f1=some ⟨oc1,od1,.func (PySem.W.fnOf "kinds_behind" "kinds_behind" (defArgs s_kinds_behind) (defBody s_kinds_behind) (defScope s_kinds_behind) .none kV1 dc1 pm1 an1 cd1 ct1),sl1⟩) (d1:PySem.W.codeIn K cd1 "kinds_behind" = true) (k1:PySem.W.keepIn K (.ref f1)=true)
  (a2:PySem.W.nsIn K mainGlobals "parts" = some (some (.ref f2))) (l2:K.lookup f2=some ⟨oc2,od2,.func (PySem.W.fnOf "parts" "parts" (defArgs s_parts) (defBody s_parts) (defScope s_parts) .none kV2 dc2 pm2 an2 cd2 ct2),sl2⟩) (d2:PySem.W.codeIn K cd2 "parts" = true) (k2:PySem.W.keepIn K (.ref f2)=true)
  (a3:PySem.W.nsIn K mainGlobals "ways" = some (some (.ref f3))) (l3:K.lookup f3=some ⟨oc3,od3,.func (PySem.W.fnOf "ways" "ways" (defArgs s_ways) (defBody s_ways) (defScope s_ways) .none kV3 dc3 pm3 an3 cd3 ct3),sl3⟩) (d3:PySem.W.codeIn K cd3 "ways" = true) (k3:PySem.W.keepIn K (.ref f3)=true)
  (a4:PySem.W.nsIn K mainGlobals "is_ask" = some (some (.ref f4))) (l4:K.lookup f4=some ⟨oc4,od4,.func (PySem.W.fnOf "is_ask" "is_ask" (defArgs s_is_ask) (defBody s_is_ask) (defScope s_is_ask) .none kV4 dc4 pm4 an4 cd4 ct4),sl4⟩) (d4:PySem.W.codeIn K cd4 "is_ask" = true) (k4:PySem.W.keepIn K (.ref f4)=true)
  (a5:PySem.W.nsIn K mainGlobals "check_program" = some (some (.ref f5))) (l5:K.lookup f5=some ⟨oc5,od5,.func (PySem.W.fnOf "check_program" "check_program" (defArgs s_check_program) (defBody s_check_program) (defScope s_check_program) .none kV5 dc5 pm5 an5 cd5 ct5),sl5⟩) (d5:PySem.W.codeIn K cd5 "check_program" = true) (k5:PySem.W.keepIn K (.ref f5)=true)
  (a6:PySem.W.nsIn K mainGlobals "counts_fit" = some (some (.ref f6))) (l6:K.lookup f6=some ⟨oc6,od6,.func (PySem.W.fnOf "counts_fit" "counts_fit" (defArgs s_counts_fit) (defBody s_counts_fit) (defScope s_counts_fit) .none kV6 dc6 pm6 an6 cd6 ct6),sl6⟩) (d6:PySem.W.codeIn K cd6 "counts_fit" = true) (k6:PySem.W.keepIn K (.ref f6)=true)
  (a7:PySem.W.nsIn K mainGlobals "line_fits" = some (some (.ref f7))) (l7:K.lookup f7=some ⟨oc7,od7,.func (PySem.W.fnOf "line_fits" "line_fits" (defArgs s_line_fits) (defBody s_line_fits) (defScope s_line_fits) .none kV7 dc7 pm7 an7 cd7 ct7),sl7⟩) (d7:PySem.W.codeIn K cd7 "line_fits" = true) (k7:PySem.W.keepIn K (.ref f7)=true)
  (a8:PySem.W.nsIn K mainGlobals "part_fits" = some (some (.ref f8))) (l8:K.lookup f8=some ⟨oc8,od8,.func (PySem.W.fnOf "part_fits" "part_fits" (defArgs s_part_fits) (defBody s_part_fits) (defScope s_part_fits) .none kV8 dc8 pm8 an8 cd8 ct8),sl8⟩) (d8:PySem.W.codeIn K cd8 "part_fits" = true) (k8:PySem.W.keepIn K (.ref f8)=true)
  (a9:PySem.W.nsIn K mainGlobals "bounds_fit" = some (some (.ref f9))) (l9:K.lookup f9=some ⟨oc9,od9,.func (PySem.W.fnOf "bounds_fit" "bounds_fit" (defArgs s_bounds_fit) (defBody s_bounds_fit) (defScope s_bounds_fit) .none kV9 dc9 pm9 an9 cd9 ct9),sl9⟩) (d9:PySem.W.codeIn K cd9 "bounds_fit" = true) (k9:PySem.W.keepIn K (.ref f9)=true)
  (a10:PySem.W.nsIn K mainGlobals "bound_fits" = some (some (.ref f10))) (l10:K.lookup f10=some ⟨oc10,od10,.func (PySem.W.fnOf "bound_fits" "bound_fits" (defArgs s_bound_fits) (defBody s_bound_fits) (defScope s_bound_fits) .none kV10 dc10 pm10 an10 cd10 ct10),sl10⟩) (d10:PySem.W.codeIn K cd10 "bound_fits" = true) (k10:PySem.W.keepIn K (.ref f10)=true)
  (a11:PySem.W.nsIn K mainGlobals "node_fits" = some (some (.ref f11))) (l11:K.lookup f11=some ⟨oc11,od11,.func (PySem.W.fnOf "node_fits" "node_fits" (defArgs s_node_fits) (defBody s_node_fits) (defScope s_node_fits) .none kV11 dc11 pm11 an11 cd11 ct11),sl11⟩) (d11:PySem.W.codeIn K cd11 "node_fits" = true) (k11:PySem.W.keepIn K (.ref f11)=true)
  (a12:PySem.W.nsIn K mainGlobals "is_there" = some (some (.ref f12))) (l12:K.lookup f12=some ⟨oc12,od12,.func (PySem.W.fnOf "is_there" "is_there" (defArgs s_is_there) (defBody s_is_there) (defScope s_is_there) .none kV12 dc12 pm12 an12 cd12 ct12),sl12⟩) (d12:PySem.W.codeIn K cd12 "is_there" = true) (k12:PySem.W.keepIn K (.ref f12)=true)
  (a13:PySem.W.nsIn K mainGlobals "is_written" = some (some (.ref f13))) (l13:K.lookup f13=some ⟨oc13,od13,.func (PySem.W.fnOf "is_written" "is_written" (defArgs s_is_written) (defBody s_is_written) (defScope s_is_written) .none kV13 dc13 pm13 an13 cd13 ct13),sl13⟩) (d13:PySem.W.codeIn K cd13 "is_written" = true) (k13:PySem.W.keepIn K (.ref f13)=true)
  (a14:PySem.W.nsIn K mainGlobals "is_on_ring" = some (some (.ref f14))) (l14:K.lookup f14=some ⟨oc14,od14,.func (PySem.W.fnOf "is_on_ring" "is_on_ring" (defArgs s_is_on_ring) (defBody s_is_on_ring) (defScope s_is_on_ring) .none kV14 dc14 pm14 an14 cd14 ct14),sl14⟩) (d14:PySem.W.codeIn K cd14 "is_on_ring" = true) (k14:PySem.W.keepIn K (.ref f14)=true)
  (a15:PySem.W.nsIn K mainGlobals "read" = some (some (.ref f15))) (l15:K.lookup f15=some ⟨oc15,od15,.func (PySem.W.fnOf "read" "read" (defArgs s_read) (defBody s_read) (defScope s_read) .none kV15 dc15 pm15 an15 cd15 ct15),sl15⟩) (d15:PySem.W.codeIn K cd15 "read" = true) (k15:PySem.W.keepIn K (.ref f15)=true)
  (a16:PySem.W.nsIn K mainGlobals "counts_in" = some (some (.ref f16))) (l16:K.lookup f16=some ⟨oc16,od16,.func (PySem.W.fnOf "counts_in" "counts_in" (defArgs s_counts_in) (defBody s_counts_in) (defScope s_counts_in) .none kV16 dc16 pm16 an16 cd16 ct16),sl16⟩) (d16:PySem.W.codeIn K cd16 "counts_in" = true) (k16:PySem.W.keepIn K (.ref f16)=true)
  (a17:PySem.W.nsIn K mainGlobals "line_in" = some (some (.ref f17))) (l17:K.lookup f17=some ⟨oc17,od17,.func (PySem.W.fnOf "line_in" "line_in" (defArgs s_line_in) (defBody s_line_in) (defScope s_line_in) .none kV17 dc17 pm17 an17 cd17 ct17),sl17⟩) (d17:PySem.W.codeIn K cd17 "line_in" = true) (k17:PySem.W.keepIn K (.ref f17)=true)
  (a18:PySem.W.nsIn K mainGlobals "ask_in" = some (some (.ref f18))) (l18:K.lookup f18=some ⟨oc18,od18,.func (PySem.W.fnOf "ask_in" "ask_in" (defArgs s_ask_in) (defBody s_ask_in) (defScope s_ask_in) .none kV18 dc18 pm18 an18 cd18 ct18),sl18⟩) (d18:PySem.W.codeIn K cd18 "ask_in" = true) (k18:PySem.W.keepIn K (.ref f18)=true)
  (a19:PySem.W.nsIn K mainGlobals "bound_in" = some (some (.ref f19))) (l19:K.lookup f19=some ⟨oc19,od19,.func (PySem.W.fnOf "bound_in" "bound_in" (defArgs s_bound_in) (defBody s_bound_in) (defScope s_bound_in) .none kV19 dc19 pm19 an19 cd19 ct19),sl19⟩) (d19:PySem.W.codeIn K cd19 "bound_in" = true) (k19:PySem.W.keepIn K (.ref f19)=true)
  (a20:PySem.W.nsIn K mainGlobals "node_in" = some (some (.ref f20))) (l20:K.lookup f20=some ⟨oc20,od20,.func (PySem.W.fnOf "node_in" "node_in" (defArgs s_node_in) (defBody s_node_in) (defScope s_node_in) .none kV20 dc20 pm20 an20 cd20 ct20),sl20⟩) (d20:PySem.W.codeIn K cd20 "node_in" = true) (k20:PySem.W.keepIn K (.ref f20)=true)
  (a21:PySem.W.nsIn K mainGlobals "part_in" = some (some (.ref f21))) (l21:K.lookup f21=some ⟨oc21,od21,.func (PySem.W.fnOf "part_in" "part_in" (defArgs s_part_in) (defBody s_part_in) (defScope s_part_in) .none kV21 dc21 pm21 an21 cd21 ct21),sl21⟩) (d21:PySem.W.codeIn K cd21 "part_in" = true) (k21:PySem.W.keepIn K (.ref f21)=true)
  (a22:PySem.W.nsIn K mainGlobals "marked_in" = some (some (.ref f22))) (l22:K.lookup f22=some ⟨oc22,od22,.func (PySem.W.fnOf "marked_in" "marked_in" (defArgs s_marked_in) (defBody s_marked_in) (defScope s_marked_in) .none kV22 dc22 pm22 an22 cd22 ct22),sl22⟩) (d22:PySem.W.codeIn K cd22 "marked_in" = true) (k22:PySem.W.keepIn K (.ref f22)=true)
  (a23:PySem.W.nsIn K mainGlobals "number_in" = some (some (.ref f23))) (l23:K.lookup f23=some ⟨oc23,od23,.func (PySem.W.fnOf "number_in" "number_in" (defArgs s_number_in) (defBody s_number_in) (defScope s_number_in) .none kV23 dc23 pm23 an23 cd23 ct23),sl23⟩) (d23:PySem.W.codeIn K cd23 "number_in" = true) (k23:PySem.W.keepIn K (.ref f23)=true)
  (a24:PySem.W.nsIn K mainGlobals "count_in" = some (some (.ref f24))) (l24:K.lookup f24=some ⟨oc24,od24,.func (PySem.W.fnOf "count_in" "count_in" (defArgs s_count_in) (defBody s_count_in) (defScope s_count_in) .none kV24 dc24 pm24 an24 cd24 ct24),sl24⟩) (d24:PySem.W.codeIn K cd24 "count_in" = true) (k24:PySem.W.keepIn K (.ref f24)=true)
  (a25:PySem.W.nsIn K mainGlobals "are_figures" = some (some (.ref f25))) (l25:K.lookup f25=some ⟨oc25,od25,.func (PySem.W.fnOf "are_figures" "are_figures" (defArgs s_are_figures) (defBody s_are_figures) (defScope s_are_figures) .none kV25 dc25 pm25 an25 cd25 ct25),sl25⟩) (d25:PySem.W.codeIn K cd25 "are_figures" = true) (k25:PySem.W.keepIn K (.ref f25)=true)
  (a26:PySem.W.nsIn K mainGlobals "_law_cell" = some (some (.ref f26))) (l26:K.lookup f26=some ⟨oc26,od26,.func (PySem.W.fnOf "_law_cell" "_law_cell" (defArgs s_cell) (defBody s_cell) (defScope s_cell) .none kV26 dc26 pm26 an26 cd26 ct26),sl26⟩) (d26:PySem.W.codeIn K cd26 "_law_cell" = true) (k26:PySem.W.keepIn K (.ref f26)=true)
  (a27:PySem.W.nsIn K mainGlobals "_law_pick" = some (some (.ref f27))) (l27:K.lookup f27=some ⟨oc27,od27,.func (PySem.W.fnOf "_law_pick" "_law_pick" (defArgs s_pick) (defBody s_pick) (defScope s_pick) .none kV27 dc27 pm27 an27 cd27 ct27),sl27⟩) (d27:PySem.W.codeIn K cd27 "_law_pick" = true) (k27:PySem.W.keepIn K (.ref f27)=true)
  (a28:PySem.W.nsIn K mainGlobals "_law_number" = some (some (.ref f28))) (l28:K.lookup f28=some ⟨oc28,od28,.func (PySem.W.fnOf "_law_number" "_law_number" (defArgs s_number) (defBody s_number) (defScope s_number) .none kV28 dc28 pm28 an28 cd28 ct28),sl28⟩) (d28:PySem.W.codeIn K cd28 "_law_number" = true) (k28:PySem.W.keepIn K (.ref f28)=true)
  (a29:PySem.W.nsIn K mainGlobals "_law_maybe" = some (some (.ref f29))) (l29:K.lookup f29=some ⟨oc29,od29,.func (PySem.W.fnOf "_law_maybe" "_law_maybe" (defArgs s_maybe) (defBody s_maybe) (defScope s_maybe) .none kV29 dc29 pm29 an29 cd29 ct29),sl29⟩) (d29:PySem.W.codeIn K cd29 "_law_maybe" = true) (k29:PySem.W.keepIn K (.ref f29)=true)
  (a30:PySem.W.nsIn K mainGlobals "_law_node" = some (some (.ref f30))) (l30:K.lookup f30=some ⟨oc30,od30,.func (PySem.W.fnOf "_law_node" "_law_node" (defArgs s_node) (defBody s_node) (defScope s_node) .none kV30 dc30 pm30 an30 cd30 ct30),sl30⟩) (d30:PySem.W.codeIn K cd30 "_law_node" = true) (k30:PySem.W.keepIn K (.ref f30)=true)
  (a31:PySem.W.nsIn K mainGlobals "_law_ask" = some (some (.ref f31))) (l31:K.lookup f31=some ⟨oc31,od31,.func (PySem.W.fnOf "_law_ask" "_law_ask" (defArgs s_ask) (defBody s_ask) (defScope s_ask) .none kV31 dc31 pm31 an31 cd31 ct31),sl31⟩) (d31:PySem.W.codeIn K cd31 "_law_ask" = true) (k31:PySem.W.keepIn K (.ref f31)=true)
  (a32:PySem.W.nsIn K mainGlobals "_law_plain" = some (some (.ref f32))) (l32:K.lookup f32=some ⟨oc32,od32,.func (PySem.W.fnOf "_law_plain" "_law_plain" (defArgs s_plain) (defBody s_plain) (defScope s_plain) .none kV32 dc32 pm32 an32 cd32 ct32),sl32⟩) (d32:PySem.W.codeIn K cd32 "_law_plain" = true) (k32:PySem.W.keepIn K (.ref f32)=true)
  (a33:PySem.W.nsIn K mainGlobals "_law_line" = some (some (.ref f33))) (l33:K.lookup f33=some ⟨oc33,od33,.func (PySem.W.fnOf "_law_line" "_law_line" (defArgs s_line) (defBody s_line) (defScope s_line) .none kV33 dc33 pm33 an33 cd33 ct33),sl33⟩) (d33:PySem.W.codeIn K cd33 "_law_line" = true) (k33:PySem.W.keepIn K (.ref f33)=true)
  (a34:PySem.W.nsIn K mainGlobals "_law_program" = some (some (.ref f34))) (l34:K.lookup f34=some ⟨oc34,od34,.func (PySem.W.fnOf "_law_program" "_law_program" (defArgs s_program) (defBody s_program) (defScope s_program) .none kV34 dc34 pm34 an34 cd34 ct34),sl34⟩) (d34:PySem.W.codeIn K cd34 "_law_program" = true) (k34:PySem.W.keepIn K (.ref f34)=true)
  (a35:PySem.W.nsIn K mainGlobals "_law_node_word" = some (some (.ref f35))) (l35:K.lookup f35=some ⟨oc35,od35,.func (PySem.W.fnOf "_law_node_word" "_law_node_word" (defArgs s_law_node_word) (defBody s_law_node_word) (defScope s_law_node_word) .none kV35 dc35 pm35 an35 cd35 ct35),sl35⟩) (d35:PySem.W.codeIn K cd35 "_law_node_word" = true) (k35:PySem.W.keepIn K (.ref f35)=true)
  (a36:PySem.W.nsIn K mainGlobals "_law_words" = some (some (.ref f36))) (l36:K.lookup f36=some ⟨oc36,od36,.func (PySem.W.fnOf "_law_words" "_law_words" (defArgs s_law_words) (defBody s_law_words) (defScope s_law_words) .none kV36 dc36 pm36 an36 cd36 ct36),sl36⟩) (d36:PySem.W.codeIn K cd36 "_law_words" = true) (k36:PySem.W.keepIn K (.ref f36)=true)
  (a37:PySem.W.nsIn K mainGlobals "_law_rows" = some (some (.ref f37))) (l37:K.lookup f37=some ⟨oc37,od37,.func (PySem.W.fnOf "_law_rows" "_law_rows" (defArgs s_rows) (defBody s_rows) (defScope s_rows) .none kV37 dc37 pm37 an37 cd37 ct37),sl37⟩) (d37:PySem.W.codeIn K cd37 "_law_rows" = true) (k37:PySem.W.keepIn K (.ref f37)=true)
  (a38:PySem.W.nsIn K mainGlobals "_law_head" = some (some (.ref f38))) (l38:K.lookup f38=some ⟨oc38,od38,.func (PySem.W.fnOf "_law_head" "_law_head" (defArgs s_head) (defBody s_head) (defScope s_head) .none kV38 dc38 pm38 an38 cd38 ct38),sl38⟩) (d38:PySem.W.codeIn K cd38 "_law_head" = true) (k38:PySem.W.keepIn K (.ref f38)=true)
  (a39:PySem.W.nsIn K mainGlobals "_law_ill" = some (some (.ref f39))) (l39:K.lookup f39=some ⟨oc39,od39,.func (PySem.W.fnOf "_law_ill" "_law_ill" (defArgs s_ill) (defBody s_ill) (defScope s_ill) .none kV39 dc39 pm39 an39 cd39 ct39),sl39⟩) (d39:PySem.W.codeIn K cd39 "_law_ill" = true) (k39:PySem.W.keepIn K (.ref f39)=true)
  (a40:PySem.W.nsIn K mainGlobals "_law_wrong" = some (some (.ref f40))) (l40:K.lookup f40=some ⟨oc40,od40,.func (PySem.W.fnOf "_law_wrong" "_law_wrong" (defArgs s_wrong) (defBody s_wrong) (defScope s_wrong) .none kV40 dc40 pm40 an40 cd40 ct40),sl40⟩) (d40:PySem.W.codeIn K cd40 "_law_wrong" = true) (k40:PySem.W.keepIn K (.ref f40)=true)
  (a41:PySem.W.nsIn K mainGlobals "_law_told" = some (some (.ref f41))) (l41:K.lookup f41=some ⟨oc41,od41,.func (PySem.W.fnOf "_law_told" "_law_told" (defArgs s_told) (defBody s_told) (defScope s_told) .none kV41 dc41 pm41 an41 cd41 ct41),sl41⟩) (d41:PySem.W.codeIn K cd41 "_law_told" = true) (k41:PySem.W.keepIn K (.ref f41)=true)
  (a42:PySem.W.nsIn K mainGlobals "_law_not_there" = some (some (.ref f42))) (l42:K.lookup f42=some ⟨oc42,od42,.func (PySem.W.fnOf "_law_not_there" "_law_not_there" (defArgs s_not_there) (defBody s_not_there) (defScope s_not_there) .none kV42 dc42 pm42 an42 cd42 ct42),sl42⟩) (d42:PySem.W.codeIn K cd42 "_law_not_there" = true) (k42:PySem.W.keepIn K (.ref f42)=true)
  (a43:PySem.W.nsIn K mainGlobals "law" = some (some (.ref f43))) (l43:K.lookup f43=some ⟨oc43,od43,.func (PySem.W.fnOf "law" "law" (defArgs s_law) (defBody s_law) (defScope s_law) .none kV43 dc43 pm43 an43 cd43 ct43),sl43⟩) (d43:PySem.W.codeIn K cd43 "law" = true) (k43:PySem.W.keepIn K (.ref f43)=true)
  (z_len:PySem.W.nsIn K mainGlobals "len" = some none)
  (z_range:PySem.W.nsIn K mainGlobals "range" = some none)
  (z_tuple:PySem.W.nsIn K mainGlobals "tuple" = some none)
  (z_int:PySem.W.nsIn K mainGlobals "int" = some none)
  (z_bool:PySem.W.nsIn K mainGlobals "bool" = some none)
  (z_isinstance:PySem.W.nsIn K mainGlobals "isinstance" = some none)
  (z_list:PySem.W.nsIn K mainGlobals "list" = some none)
  (z_zip:PySem.W.nsIn K mainGlobals "zip" = some none)
  (z_all:PySem.W.nsIn K mainGlobals "all" = some none)
  (z_enumerate:PySem.W.nsIn K mainGlobals "enumerate" = some none)
  (z_str:PySem.W.nsIn K mainGlobals "str" = some none)
  (z_ValueError:PySem.W.nsIn K mainGlobals "ValueError" = some none)
  (gP:PySem.W.nsIn K mainGlobals "PARTS" = some (some (.ref aP)))
  (lP:K.lookup aP=some oP)
  (xP:oP.ExactDict)
  (dP:oP.data=.dict es ep)
  (rP:Paired (RowP w K) partsL es.toList)
  (sP:(aP == sysModules)=false)
  (gM:PySem.W.nsIn K mainGlobals "MARKS" = some (some (.ref aM)))
  (lM:K.lookup aM=some oM)
  (xM:oM.ExactDict)
  (dM:oM.data=.dict em mp)
  (rM:Paired (RowM w) marksL em.toList)
  (gZ:PySem.W.nsIn K mainGlobals "ZERO" = some (some (.ref aZ)))
  (lZ:K.lookup aZ=some oZ)
  (cZ:oZ.cls=.type "tuple")
  (dZ:oZ.data=.seq iZ nZ)
  (zZ:iZ.size≤sizeLine)
  (vZ:Vals [.str "zero"] iZ.toList)
  (n_MOST_NAMES:PySem.W.nsIn K mainGlobals "MOST_NAMES" = some (some (.int 6 t_MOST_NAMES)))
  (n_MOST_ROWS:PySem.W.nsIn K mainGlobals "MOST_ROWS" = some (some (.int 3 t_MOST_ROWS)))
  (n_MOST_LINES:PySem.W.nsIn K mainGlobals "MOST_LINES" = some (some (.int 70 t_MOST_LINES)))
  (n_MOST_BOUNDS:PySem.W.nsIn K mainGlobals "MOST_BOUNDS" = some (some (.int 4 t_MOST_BOUNDS)))
  (n_GREATEST_WRITTEN:PySem.W.nsIn K mainGlobals "GREATEST_WRITTEN" = some (some (.int 1000 t_GREATEST_WRITTEN)))
  (n_MOST_FIGURES:PySem.W.nsIn K mainGlobals "MOST_FIGURES" = some (some (.int 4 t_MOST_FIGURES)))
  (n_FIGURES:PySem.W.nsIn K mainGlobals "FIGURES" = some (some (.str (Str.ofString "0123456789") t_FIGURES)))
  (n_NOUGHT:PySem.W.nsIn K mainGlobals "NOUGHT" = some (some (.str (Str.ofString "-") t_NOUGHT)))
  (g_NoProgram:PySem.W.nsIn K mainGlobals "NoProgram" = some (some (.ref C_NoProgram)))
  (g_SpareError:PySem.W.nsIn K mainGlobals "SpareError" = some (some (.ref C_SpareError)))
  (g_BadRow:PySem.W.nsIn K mainGlobals "BadRow" = some (some (.ref C_BadRow)))
  (g_NoPaper:PySem.W.nsIn K mainGlobals "NoPaper" = some (some (.ref C_NoPaper)))
  (g_NoLoop:PySem.W.nsIn K mainGlobals "NoLoop" = some (some (.ref C_NoLoop)))
  (lCN:K.lookup C_NoProgram=some (excClassObj nmN qN C_NoProgram NIN bsN bmN hdN snN subN abN colN ddN k0N k1N k2N k3N k5N "ValueError.__new__"))
  (tCN:PySem.W.tailIn K [.type "ValueError",.type "Exception",.type "BaseException",.type "object"] bmN=true)
  (bCN:bmN.contains (.type "BaseException")=true)
  (oNN:PySem.W.nsOkIn K NIN=true)
  (iNN:PySem.W.nsIn K NIN "__init__" = some (some (.ref fIN)))
  (lIN:K.lookup fIN=some ⟨.type "function",odN,.func (PySem.W.fnOf "__init__" "NoProgram.__init__" (defArgs s_initN) (defBody s_initN) (defScope s_initN) .none kVN dcN pmN anN cdN ctN),slN⟩)
  (dIN:PySem.W.codeIn K cdN "NoProgram.__init__" = true)
  (kIN:PySem.W.keepIn K (.ref fIN)=true)
  (kCN:PySem.W.keepIn K (.ref C_NoProgram)=true)
  (x1N:PySem.W.findIn K (.ref C_NoProgram) "__setattr__" = some (some (.builtin "object.__setattr__")))
  (x2N:xOver K C_NoProgram=true)
  (x3N:PySem.W.hasDictIn K C_NoProgram=true)
  (y1N:PySem.W.findIn K (.ref C_NoProgram) "__getattribute__" = some (some (.builtin "BaseException.__getattribute__")))
  (y2N:PySem.W.findIn K (.ref C_NoProgram) "__getattr__" = some none)
  (y3N:PySem.W.mroIn K C_NoProgram (.type "BaseException")=some true)
  (y5N:PySem.W.findIn K (.ref C_NoProgram) "__class__" = some (some (.builtin "object.__class__")))
  (y6N:PySem.W.specialIn K (.builtin "object.__class__") "__get__" = some (some (.builtin "getset_descriptor.__get__")))
  (y7N:PySem.W.takesIn K (.builtin "object.__class__")=some true)
  (y8N:PySem.W.mroIn K C_NoProgram (.type "object")=some true)
  (naN:PySem.W.findIn K (.ref C_NoProgram) "line" = some none)
  (u0N:PySem.W.exmOne K (.ref C_NoProgram) (.ref C_SpareError)=some true)
  (u1N:PySem.W.kitOne K (.ref C_NoProgram) (.type "ValueError")=some true)
  (u2N:PySem.W.kitOne K (.ref C_NoProgram) (.ref C_NoPaper)=some false)
  (u3N:PySem.W.kitOne K (.ref C_NoProgram) (.ref C_NoLoop)=some false)
  (u4N:PySem.W.kitOne K (.ref C_NoProgram) (.ref C_BadRow)=some false)
  (lCB:K.lookup C_BadRow=some (excClassObj nmB qB C_BadRow NIB bsB bmB hdB snB subB abB colB ddB k0B k1B k2B k3B k5B "ValueError.__new__"))
  (tCB:PySem.W.tailIn K [.type "ValueError",.type "Exception",.type "BaseException",.type "object"] bmB=true)
  (bCB:bmB.contains (.type "BaseException")=true)
  (oNB:PySem.W.nsOkIn K NIB=true)
  (iNB:PySem.W.nsIn K NIB "__init__" = some (some (.ref fIB)))
  (lIB:K.lookup fIB=some ⟨.type "function",odB,.func (PySem.W.fnOf "__init__" "BadRow.__init__" (defArgs s_initB) (defBody s_initB) (defScope s_initB) .none kVB dcB pmB anB cdB ctB),slB⟩)
  (dIB:PySem.W.codeIn K cdB "BadRow.__init__" = true)
  (kIB:PySem.W.keepIn K (.ref fIB)=true)
  (kCB:PySem.W.keepIn K (.ref C_BadRow)=true)
  (x1B:PySem.W.findIn K (.ref C_BadRow) "__setattr__" = some (some (.builtin "object.__setattr__")))
  (x2B:xOver K C_BadRow=true)
  (x3B:PySem.W.hasDictIn K C_BadRow=true)
  (y1B:PySem.W.findIn K (.ref C_BadRow) "__getattribute__" = some (some (.builtin "BaseException.__getattribute__")))
  (y2B:PySem.W.findIn K (.ref C_BadRow) "__getattr__" = some none)
  (y3B:PySem.W.mroIn K C_BadRow (.type "BaseException")=some true)
  (y5B:PySem.W.findIn K (.ref C_BadRow) "__class__" = some (some (.builtin "object.__class__")))
  (y6B:PySem.W.specialIn K (.builtin "object.__class__") "__get__" = some (some (.builtin "getset_descriptor.__get__")))
  (y7B:PySem.W.takesIn K (.builtin "object.__class__")=some true)
  (y8B:PySem.W.mroIn K C_BadRow (.type "object")=some true)
  (naB:PySem.W.findIn K (.ref C_BadRow) "at" = some none)
  (u0B:PySem.W.exmOne K (.ref C_BadRow) (.ref C_SpareError)=some true)
  (u1B:PySem.W.kitOne K (.ref C_BadRow) (.type "ValueError")=some true)
  (u2B:PySem.W.kitOne K (.ref C_BadRow) (.ref C_NoPaper)=some false)
  (u3B:PySem.W.kitOne K (.ref C_BadRow) (.ref C_NoLoop)=some false)
  (u4B:PySem.W.kitOne K (.ref C_BadRow) (.ref C_NoProgram)=some false) :
  ∃ fd:FuncData,(∀ (s:Shared) (v:Value),BindsTo s fd ⟨[v],[]⟩ [("_law_script",v)])∧∀ base:Heap,K.In base→base.Ns mainGlobals mg→FnOk l.prog w K mg base CX0 24 fa fd ["_law_script"] (spLaw K):=by
 have e:=hfa.symm.trans (PySem.W.mg_of X G a43)
 cases e
 have F1:=fun_mk (st:=s_kinds_behind) l1 d1 k1
 have F2:=fun_mk (st:=s_parts) l2 d2 k2
 have F3:=fun_mk (st:=s_ways) l3 d3 k3
 have F4:=fun_mk (st:=s_is_ask) l4 d4 k4
 have F5:=fun_mk (st:=s_check_program) l5 d5 k5
 have F6:=fun_mk (st:=s_counts_fit) l6 d6 k6
 have F7:=fun_mk (st:=s_line_fits) l7 d7 k7
 have F8:=fun_mk (st:=s_part_fits) l8 d8 k8
 have F9:=fun_mk (st:=s_bounds_fit) l9 d9 k9
 have F10:=fun_mk (st:=s_bound_fits) l10 d10 k10
 have F11:=fun_mk (st:=s_node_fits) l11 d11 k11
 have F12:=fun_mk (st:=s_is_there) l12 d12 k12
 have F13:=fun_mk (st:=s_is_written) l13 d13 k13
 have F14:=fun_mk (st:=s_is_on_ring) l14 d14 k14
 have F15:=fun_mk (st:=s_read) l15 d15 k15
 have F16:=fun_mk (st:=s_counts_in) l16 d16 k16
 have F17:=fun_mk (st:=s_line_in) l17 d17 k17
 have F18:=fun_mk (st:=s_ask_in) l18 d18 k18
 have F19:=fun_mk (st:=s_bound_in) l19 d19 k19
 have F20:=fun_mk (st:=s_node_in) l20 d20 k20
 have F21:=fun_mk (st:=s_part_in) l21 d21 k21
 have F22:=fun_mk (st:=s_marked_in) l22 d22 k22
 have F23:=fun_mk (st:=s_number_in) l23 d23 k23
 have F24:=fun_mk (st:=s_count_in) l24 d24 k24
 have F25:=fun_mk (st:=s_are_figures) l25 d25 k25
 have F26:=fun_mk (st:=s_cell) l26 d26 k26
 have F27:=fun_mk (st:=s_pick) l27 d27 k27
 have F28:=fun_mk (st:=s_number) l28 d28 k28
 have F29:=fun_mk (st:=s_maybe) l29 d29 k29
 have F30:=fun_mk (st:=s_node) l30 d30 k30
 have F31:=fun_mk (st:=s_ask) l31 d31 k31
 have F32:=fun_mk (st:=s_plain) l32 d32 k32
 have F33:=fun_mk (st:=s_line) l33 d33 k33
 have F34:=fun_mk (st:=s_program) l34 d34 k34
 have F35:=fun_mk (st:=s_law_node_word) l35 d35 k35
 have F36:=fun_mk (st:=s_law_words) l36 d36 k36
 have F37:=fun_mk (st:=s_rows) l37 d37 k37
 have F38:=fun_mk (st:=s_head) l38 d38 k38
 have F39:=fun_mk (st:=s_ill) l39 d39 k39
 have F40:=fun_mk (st:=s_wrong) l40 d40 k40
 have F41:=fun_mk (st:=s_told) l41 d41 k41
 have F42:=fun_mk (st:=s_not_there) l42 d42 k42
 have F43:=fun_mk (st:=s_law) l43 d43 k43
 have FIN:=fun_mk (st:=s_initN) lIN dIN kIN
 have FIB:=fun_mk (st:=s_initB) lIB dIB kIB
 have m_len:=PySem.W.mg_none_of X G z_len
 have m_range:=PySem.W.mg_none_of X G z_range
 have m_tuple:=PySem.W.mg_none_of X G z_tuple
 have m_int:=PySem.W.mg_none_of X G z_int
 have m_bool:=PySem.W.mg_none_of X G z_bool
 have m_isinstance:=PySem.W.mg_none_of X G z_isinstance
 have m_list:=PySem.W.mg_none_of X G z_list
 have m_zip:=PySem.W.mg_none_of X G z_zip
 have m_all:=PySem.W.mg_none_of X G z_all
 have m_enumerate:=PySem.W.mg_none_of X G z_enumerate
 have m_str:=PySem.W.mg_none_of X G z_str
 have m_ValueError:=PySem.W.mg_none_of X G z_ValueError
 have m_NoProgram:=PySem.W.mg_of X G g_NoProgram
 have m_SpareError:=PySem.W.mg_of X G g_SpareError
 have m_BadRow:=PySem.W.mg_of X G g_BadRow
 have m_NoPaper:=PySem.W.mg_of X G g_NoPaper
 have m_NoLoop:=PySem.W.mg_of X G g_NoLoop
 have m_MOST_NAMES:=PySem.W.mg_of X G n_MOST_NAMES
 have m_MOST_ROWS:=PySem.W.mg_of X G n_MOST_ROWS
 have m_MOST_LINES:=PySem.W.mg_of X G n_MOST_LINES
 have m_MOST_BOUNDS:=PySem.W.mg_of X G n_MOST_BOUNDS
 have m_GREATEST_WRITTEN:=PySem.W.mg_of X G n_GREATEST_WRITTEN
 have m_MOST_FIGURES:=PySem.W.mg_of X G n_MOST_FIGURES
 have m_FIGURES:=PySem.W.mg_of X G n_FIGURES
 have m_NOUGHT:=PySem.W.mg_of X G n_NOUGHT
 have T:Tab l.prog w K mg aP:=tab_mk (PySem.W.mg_of X G gP) lP xP dP rP
 have TM:TabM l.prog w K mg aM:=tabM_mk (PySem.W.mg_of X G gM) lM xM dM rM
 have TZ:TabZ l.prog w K mg aZ:=tabZ_mk (PySem.W.mg_of X G gZ) lZ cZ dZ zZ vZ
 have MKN:XMk K C_NoProgram fIN:=xmk_of lCN tCN bCN oNN iNN lIN rfl kCN
 have CLSN:XCls K C_NoProgram:=⟨x1N,x2N,x3N⟩
 have MKB:XMk K C_BadRow fIB:=xmk_of lCB tCB bCB oNB iNB lIB rfl kCB
 have CLSB:XCls K C_BadRow:=⟨x1B,x2B,x3B⟩
 have XFc:XF K C_NoProgram C_SpareError C_BadRow C_NoPaper C_NoLoop:=⟨⟨y1B,y2B,y3B,x3B,y5B,y6B,y7B,y8B⟩,naB,u0B,u1B,u2B,u3B,u4B,⟨y1N,y2N,y3N,x3N,y5N,y6N,y7N,y8N⟩,naN,u0N,u1N,u2N,u3N,u4N⟩
 refine ⟨PySem.W.fnOf "law" "law" (defArgs s_law) (defBody s_law) (defScope s_law) .none kV43 dc43 pm43 an43 cd43 ct43,fun s v=>.of_eq rfl,fun base _ _=>?_⟩
 have xN:XErr l.prog w K mg base "NoProgram" 1 ["self", "line"] C_NoProgram "line":=⟨⟨fIN,_,MKN,ok_initN (n:=0) FIN CLSN naN,FIN.binds fun _ _ _ _ _ _ us hl=>lv2 (hl:=hl) (p:=fun us=>bindArgs _ ⟨us,[]⟩=pure (List.zip _ us)) (fun _ _=>rfl)⟩,m_NoProgram,by decide⟩
 have xB:XErr l.prog w K mg base "BadRow" 1 ["self", "at"] C_BadRow "at":=⟨⟨fIB,_,MKB,ok_initB (n:=0) FIB CLSB naB,FIB.binds fun _ _ _ _ _ _ us hl=>lv2 (hl:=hl) (p:=fun us=>bindArgs _ ⟨us,[]⟩=pure (List.zip _ us)) (fun _ _=>rfl)⟩,m_BadRow,by decide⟩
 have c26:Cl l.prog w K mg base "_law_cell" 1 ["_law_script", "_law_k"] _:=F26.cl (ok_cell (n:=0) F26 m_len) (PySem.W.mg_of X G a26) fun _ _ _ _ _ _ us hl=>lv2 (hl:=hl) (p:=fun us=>bindArgs _ ⟨us,[]⟩=pure (List.zip _ us)) (fun _ _=>rfl)
 have c27:Cl l.prog w K mg base "_law_pick" 1 ["_law_cell_here", "_law_k", "_law_many"] _:=F27.cl (ok_pick (n:=0) F27 ) (PySem.W.mg_of X G a27) fun _ _ _ _ _ _ us hl=>lv3 (hl:=hl) (p:=fun us=>bindArgs _ ⟨us,[]⟩=pure (List.zip _ us)) (fun _ _ _=>rfl)
 have c28:Cl l.prog w K mg base "_law_number" 1 ["_law_cell_here"] _:=F28.cl (ok_number (n:=0) F28 ) (PySem.W.mg_of X G a28) fun _ _ _ _ _ _ us hl=>lv1 (hl:=hl) (p:=fun us=>bindArgs _ ⟨us,[]⟩=pure (List.zip _ us)) (fun _=>rfl)
 have c29:Cl l.prog w K mg base "_law_maybe" 1 ["_law_cell_here", "_law_names"] _:=F29.cl (ok_maybe (n:=0) F29 ) (PySem.W.mg_of X G a29) fun _ _ _ _ _ _ us hl=>lv2 (hl:=hl) (p:=fun us=>bindArgs _ ⟨us,[]⟩=pure (List.zip _ us)) (fun _ _=>rfl)
 have c30:Cl l.prog w K mg base "_law_node" 1 ["_law_cell_here", "_law_names", "_law_rows_here"] _:=F30.cl (ok_node (n:=0) F30 m_len m_range) (PySem.W.mg_of X G a30) fun _ _ _ _ _ _ us hl=>lv3 (hl:=hl) (p:=fun us=>bindArgs _ ⟨us,[]⟩=pure (List.zip _ us)) (fun _ _ _=>rfl)
 have c31:Cl l.prog w K mg base "_law_ask" 2 ["_law_cell_here", "_law_names", "_law_rows_here", "_law_at", "_law_many"] _:=F31.cl (ok_ask (n:=1) F31 m_range m_tuple c27 c28 c30) (PySem.W.mg_of X G a31) fun _ _ _ _ _ _ us hl=>lv5 (hl:=hl) (p:=fun us=>bindArgs _ ⟨us,[]⟩=pure (List.zip _ us)) (fun _ _ _ _ _=>rfl)
 have c32:Cl l.prog w K mg base "_law_plain" 2 ["_law_word", "_law_cell_here", "_law_names", "_law_rows_here", "_law_goal"] _:=F32.cl (ok_plain (n:=1) F32 c27 c28 c29) (PySem.W.mg_of X G a32) fun _ _ _ _ _ _ us hl=>lv5 (hl:=hl) (p:=fun us=>bindArgs _ ⟨us,[]⟩=pure (List.zip _ us)) (fun _ _ _ _ _=>rfl)
 have c33:Cl l.prog w K mg base "_law_line" 3 ["_law_cell_here", "_law_names", "_law_rows_here", "_law_at", "_law_many"] _:=F33.cl (ok_line (n:=2) F33 m_int (c27.mono (by decide:1≤2)) (c28.mono (by decide:1≤2)) (c29.mono (by decide:1≤2)) c31 c32) (PySem.W.mg_of X G a33) fun _ _ _ _ _ _ us hl=>lv5 (hl:=hl) (p:=fun us=>bindArgs _ ⟨us,[]⟩=pure (List.zip _ us)) (fun _ _ _ _ _=>rfl)
 have c34:Cl l.prog w K mg base "_law_program" 4 ["_law_script"] _:=F34.cl (ok_program (n:=3) F34 m_len m_range (c26.mono (by decide:1≤3)) c33) (PySem.W.mg_of X G a34) fun _ _ _ _ _ _ us hl=>lv1 (hl:=hl) (p:=fun us=>bindArgs _ ⟨us,[]⟩=pure (List.zip _ us)) (fun _=>rfl)
 have c1:Cl l.prog w K mg base "kinds_behind" 1 ["word"] _:=F1.cl (ok_kinds_behind (n:=0) F1 T sP) (PySem.W.mg_of X G a1) fun _ _ _ _ _ _ us hl=>lv1 (hl:=hl) (p:=fun us=>bindArgs _ ⟨us,[]⟩=pure (List.zip _ us)) (fun _=>rfl)
 have c2:Cl l.prog w K mg base "parts" 1 ["line"] _:=F2.cl (ok_parts (n:=0) F2 m_list m_zip T) (PySem.W.mg_of X G a2) fun _ _ _ _ _ _ us hl=>lv1 (hl:=hl) (p:=fun us=>bindArgs _ ⟨us,[]⟩=pure (List.zip _ us)) (fun _=>rfl)
 have c3:Cl l.prog w K mg base "ways" 2 ["line"] _:=F3.cl (ok_ways (n:=1) F3 m_tuple c2) (PySem.W.mg_of X G a3) fun _ _ _ _ _ _ us hl=>lv1 (hl:=hl) (p:=fun us=>bindArgs _ ⟨us,[]⟩=pure (List.zip _ us)) (fun _=>rfl)
 have c4:Cl l.prog w K mg base "is_ask" 1 ["line"] _:=F4.cl (ok_is_ask (n:=0) F4 ) (PySem.W.mg_of X G a4) fun _ _ _ _ _ _ us hl=>lv1 (hl:=hl) (p:=fun us=>bindArgs _ ⟨us,[]⟩=pure (List.zip _ us)) (fun _=>rfl)
 have c12:Cl l.prog w K mg base "is_there" 1 ["number", "count"] _:=F12.cl (ok_is_there (n:=0) F12 ) (PySem.W.mg_of X G a12) fun _ _ _ _ _ _ us hl=>lv2 (hl:=hl) (p:=fun us=>bindArgs _ ⟨us,[]⟩=pure (List.zip _ us)) (fun _ _=>rfl)
 have c13:Cl l.prog w K mg base "is_written" 1 ["number"] _:=F13.cl (ok_is_written (n:=0) F13 m_GREATEST_WRITTEN) (PySem.W.mg_of X G a13) fun _ _ _ _ _ _ us hl=>lv1 (hl:=hl) (p:=fun us=>bindArgs _ ⟨us,[]⟩=pure (List.zip _ us)) (fun _=>rfl)
 have c6:Cl l.prog w K mg base "counts_fit" 1 ["program"] _:=F6.cl (ok_counts_fit (n:=0) F6 m_len m_MOST_NAMES m_MOST_ROWS m_MOST_LINES) (PySem.W.mg_of X G a6) fun _ _ _ _ _ _ us hl=>lv1 (hl:=hl) (p:=fun us=>bindArgs _ ⟨us,[]⟩=pure (List.zip _ us)) (fun _=>rfl)
 have c11:Cl l.prog w K mg base "node_fits" 2 ["program", "node"] _:=F11.cl (ok_node_fits (n:=1) F11 c12) (PySem.W.mg_of X G a11) fun _ _ _ _ _ _ us hl=>lv2 (hl:=hl) (p:=fun us=>bindArgs _ ⟨us,[]⟩=pure (List.zip _ us)) (fun _ _=>rfl)
 have c10:Cl l.prog w K mg base "bound_fits" 3 ["program", "bound"] _:=F10.cl (ok_bound_fits (n:=2) F10 c11 (c13.mono (by decide:1≤2))) (PySem.W.mg_of X G a10) fun _ _ _ _ _ _ us hl=>lv2 (hl:=hl) (p:=fun us=>bindArgs _ ⟨us,[]⟩=pure (List.zip _ us)) (fun _ _=>rfl)
 have c9:Cl l.prog w K mg base "bounds_fit" 4 ["program", "bounds"] _:=F9.cl (ok_bounds_fit (n:=3) F9 m_len m_all m_MOST_BOUNDS c10) (PySem.W.mg_of X G a9) fun _ _ _ _ _ _ us hl=>lv2 (hl:=hl) (p:=fun us=>bindArgs _ ⟨us,[]⟩=pure (List.zip _ us)) (fun _ _=>rfl)
 have c8:Cl l.prog w K mg base "part_fits" 5 ["program", "kind", "part"] _:=F8.cl (ok_part_fits (n:=4) F8 m_len (c12.mono (by decide:1≤4)) (c13.mono (by decide:1≤4)) c9) (PySem.W.mg_of X G a8) fun _ _ _ _ _ _ us hl=>lv3 (hl:=hl) (p:=fun us=>bindArgs _ ⟨us,[]⟩=pure (List.zip _ us)) (fun _ _ _=>rfl)
 have c7:Cl l.prog w K mg base "line_fits" 6 ["program", "line"] _:=F7.cl (ok_line_fits (n:=5) F7 m_all (c2.mono (by decide:1≤5)) c8) (PySem.W.mg_of X G a7) fun _ _ _ _ _ _ us hl=>lv2 (hl:=hl) (p:=fun us=>bindArgs _ ⟨us,[]⟩=pure (List.zip _ us)) (fun _ _=>rfl)
 have c14:Cl l.prog w K mg base "is_on_ring" 3 ["lines", "start"] _:=F14.cl (ok_is_on_ring (n:=2) F14 (c4.mono (by decide:1≤2)) c3) (PySem.W.mg_of X G a14) fun _ _ _ _ _ _ us hl=>lv2 (hl:=hl) (p:=fun us=>bindArgs _ ⟨us,[]⟩=pure (List.zip _ us)) (fun _ _=>rfl)
 have c5:ClX l.prog w K mg base "check_program" 7 ["program"] _:=F5.clX (ok_check_program (n:=5) F5 m_len m_range m_enumerate (xerr_mono xN (by decide:1≤5)) (c6.mono (by decide:1≤6)) c7 (c14.mono (by decide:3≤6))) (PySem.W.mg_of X G a5) fun _ _ _ _ _ _ us hl=>lv1 (hl:=hl) (p:=fun us=>bindArgs _ ⟨us,[]⟩=pure (List.zip _ us)) (fun _=>rfl)
 have c25:Cl l.prog w K mg base "are_figures" 1 ["word"] _:=F25.cl (ok_are_figures (n:=0) F25 m_len m_all m_MOST_FIGURES m_FIGURES) (PySem.W.mg_of X G a25) fun _ _ _ _ _ _ us hl=>lv1 (hl:=hl) (p:=fun us=>bindArgs _ ⟨us,[]⟩=pure (List.zip _ us)) (fun _=>rfl)
 have c24:ClX l.prog w K mg base "count_in" 3 ["word", "at"] _:=F24.clX (ok_count_in (n:=1) F24 m_int xB (c25.mono (by decide:1≤2))) (PySem.W.mg_of X G a24) fun _ _ _ _ _ _ us hl=>lv2 (hl:=hl) (p:=fun us=>bindArgs _ ⟨us,[]⟩=pure (List.zip _ us)) (fun _ _=>rfl)
 have c23:ClX l.prog w K mg base "number_in" 4 ["word", "at"] _:=F23.clX (ok_number_in (n:=2) F23 (xerr_mono xB (by decide:1≤2)) c24) (PySem.W.mg_of X G a23) fun _ _ _ _ _ _ us hl=>lv2 (hl:=hl) (p:=fun us=>bindArgs _ ⟨us,[]⟩=pure (List.zip _ us)) (fun _ _=>rfl)
 have c22:ClX l.prog w K mg base "marked_in" 4 ["kind", "word", "at"] _:=F22.clX (ok_marked_in (n:=2) F22 m_len TM (xerr_mono xB (by decide:1≤2)) c24) (PySem.W.mg_of X G a22) fun _ _ _ _ _ _ us hl=>lv3 (hl:=hl) (p:=fun us=>bindArgs _ ⟨us,[]⟩=pure (List.zip _ us)) (fun _ _ _=>rfl)
 have c21:ClX l.prog w K mg base "part_in" 5 ["kind", "word", "at"] _:=F21.clX (ok_part_in (n:=4) F21 m_NOUGHT c23 c22) (PySem.W.mg_of X G a21) fun _ _ _ _ _ _ us hl=>lv3 (hl:=hl) (p:=fun us=>bindArgs _ ⟨us,[]⟩=pure (List.zip _ us)) (fun _ _ _=>rfl)
 have c20:ClX l.prog w K mg base "node_in" 5 ["word", "at"] _:=F20.clX (ok_node_in (n:=4) F20 m_NOUGHT TM TZ c22) (PySem.W.mg_of X G a20) fun _ _ _ _ _ _ us hl=>lv2 (hl:=hl) (p:=fun us=>bindArgs _ ⟨us,[]⟩=pure (List.zip _ us)) (fun _ _=>rfl)
 have c19:ClX l.prog w K mg base "bound_in" 6 ["words", "at"] _:=F19.clX (ok_bound_in (n:=5) F19 (clx_mono c23 (by decide:4≤5)) c20) (PySem.W.mg_of X G a19) fun _ _ _ _ _ _ us hl=>lv2 (hl:=hl) (p:=fun us=>bindArgs _ ⟨us,[]⟩=pure (List.zip _ us)) (fun _ _=>rfl)
 have c16:ClX l.prog w K mg base "counts_in" 4 ["row"] _:=F16.clX (ok_counts_in (n:=2) F16 m_len (xerr_mono xB (by decide:1≤2)) c24) (PySem.W.mg_of X G a16) fun _ _ _ _ _ _ us hl=>lv1 (hl:=hl) (p:=fun us=>bindArgs _ ⟨us,[]⟩=pure (List.zip _ us)) (fun _=>rfl)
 have c18:ClX l.prog w K mg base "ask_in" 7 ["words", "at"] _:=F18.clX (ok_ask_in (n:=5) F18 m_tuple m_range m_len m_MOST_BOUNDS (xerr_mono xB (by decide:1≤5)) (clx_mono c24 (by decide:3≤6)) c19) (PySem.W.mg_of X G a18) fun _ _ _ _ _ _ us hl=>lv2 (hl:=hl) (p:=fun us=>bindArgs _ ⟨us,[]⟩=pure (List.zip _ us)) (fun _ _=>rfl)
 have c17:ClX l.prog w K mg base "line_in" 8 ["row", "at"] _:=F17.clX (ok_line_in (n:=6) F17 m_tuple m_zip m_len (xerr_mono xB (by decide:1≤6)) c18 (c1.mono (by decide:1≤7)) (clx_mono c21 (by decide:5≤7))) (PySem.W.mg_of X G a17) fun _ _ _ _ _ _ us hl=>lv2 (hl:=hl) (p:=fun us=>bindArgs _ ⟨us,[]⟩=pure (List.zip _ us)) (fun _ _=>rfl)
 have c15:ClX l.prog w K mg base "read" 9 ["text"] _:=F15.clX (ok_read (n:=8) F15 m_enumerate (clx_mono c16 (by decide:4≤8)) c17 (clx_mono c5 (by decide:7≤8))) (PySem.W.mg_of X G a15) fun _ _ _ _ _ _ us hl=>lv1 (hl:=hl) (p:=fun us=>bindArgs _ ⟨us,[]⟩=pure (List.zip _ us)) (fun _=>rfl)
 have c35:Cl l.prog w K mg base "_law_node_word" 1 ["_law_node_here"] _:=F35.cl (ok_law_node_word (n:=0) F35 m_str m_int) (PySem.W.mg_of X G a35) fun _ _ _ _ _ _ us hl=>lv1 (hl:=hl) (p:=fun us=>bindArgs _ ⟨us,[]⟩=pure (List.zip _ us)) (fun _=>rfl)
 have c36:Cl l.prog w K mg base "_law_words" 2 ["_law_line_here"] _:=F36.cl (ok_law_words (n:=1) F36 m_str m_zip c35) (PySem.W.mg_of X G a36) fun _ _ _ _ _ _ us hl=>lv1 (hl:=hl) (p:=fun us=>bindArgs _ ⟨us,[]⟩=pure (List.zip _ us)) (fun _=>rfl)
 have c37:Cl l.prog w K mg base "_law_rows" 3 ["_law_program_here"] _:=F37.cl (ok_rows (n:=2) F37 m_str c36) (PySem.W.mg_of X G a37) fun _ _ _ _ _ _ us hl=>lv1 (hl:=hl) (p:=fun us=>bindArgs _ ⟨us,[]⟩=pure (List.zip _ us)) (fun _=>rfl)
 have c38:Cl l.prog w K mg base "_law_head" 1 ["_law_cell_here"] _:=F38.cl (ok_head (n:=0) F38 ) (PySem.W.mg_of X G a38) fun _ _ _ _ _ _ us hl=>lv1 (hl:=hl) (p:=fun us=>bindArgs _ ⟨us,[]⟩=pure (List.zip _ us)) (fun _=>rfl)
 have c39:Cl l.prog w K mg base "_law_ill" 1 ["_law_cell_here"] _:=F39.cl (ok_ill (n:=0) F39 ) (PySem.W.mg_of X G a39) fun _ _ _ _ _ _ us hl=>lv1 (hl:=hl) (p:=fun us=>bindArgs _ ⟨us,[]⟩=pure (List.zip _ us)) (fun _=>rfl)
 have c40:Cl l.prog w K mg base "_law_wrong" 2 ["_law_cell_here"] _:=F40.cl (ok_wrong (n:=1) F40 c39) (PySem.W.mg_of X G a40) fun _ _ _ _ _ _ us hl=>lv1 (hl:=hl) (p:=fun us=>bindArgs _ ⟨us,[]⟩=pure (List.zip _ us)) (fun _=>rfl)
 have c42:Cl l.prog w K mg base "_law_not_there" 1 ["_law_rows_here", "_law_program_here", "_law_cell_here"] _:=F42.cl (ok_not_there (n:=0) F42 m_str m_len) (PySem.W.mg_of X G a42) fun _ _ _ _ _ _ us hl=>lv3 (hl:=hl) (p:=fun us=>bindArgs _ ⟨us,[]⟩=pure (List.zip _ us)) (fun _ _ _=>rfl)
 have c41:Cl l.prog w K mg base "_law_told" 10 ["_law_text"] _:=F41.cl (ok_told (n:=9) F41 XFc m_isinstance m_bool m_ValueError m_NoProgram m_SpareError m_BadRow m_NoPaper m_NoLoop c15) (PySem.W.mg_of X G a41) fun _ _ _ _ _ _ us hl=>lv1 (hl:=hl) (p:=fun us=>bindArgs _ ⟨us,[]⟩=pure (List.zip _ us)) (fun _=>rfl)
 exact ok_law (n:=23) F43 m_len (c34.mono (by decide:4≤23)) (c37.mono (by decide:3≤23)) (clx_mono c15 (by decide:9≤23)) (c26.mono (by decide:1≤23)) (c27.mono (by decide:1≤23)) (c41.mono (by decide:10≤23)) (c38.mono (by decide:1≤23)) (c40.mono (by decide:2≤23)) (c42.mono (by decide:1≤23))
theorem walk {l:PySem.W.OpenLaw} {q:Program} {loose:List Str} {XP:(Str→Option Value)→Heap→Prop} {YP:World→Heap→Prop} {d:DefRec} {K:Params→PySem.W.Frag} (hn:l.most=some 63) (hdf:d.params.defaults=[])
  (hY:∀ (w:World) (h:Heap),YP w h→(K w.params).In h)
  (F:∀ (w:World) (mg:Str→Option Value) (fa:Addr) (h:Heap),(K w.params).In h→h.Ns mainGlobals mg→mg d.name=some (.ref fa)→
   ∃ fd:FuncData,(∀ (s:Shared) (u:Value),BindsTo s fd ⟨[u],[]⟩ [("_law_script",u)])∧∀ base:Heap,(K w.params).In base→base.Ns mainGlobals mg→FnOk l.prog w (K w.params) mg base CX0 24 fa fd ["_law_script"] (spLaw (K w.params))) :
  PySem.W.WalkO q loose XP YP l.row.toRowW d [] (fun f vs=>PySem.call f vs):=
 L2.walk_of (n:=63) (k:=24) (x:="_law_script") (CX:=fun _=>CX0) (sp:=fun w=>spLaw (K w.params)) hn (by decide) hdf ⟨rfl,by decide,by decide⟩ hY F (fun _ _ a ns hl _ hS=>⟨a,ns,rfl,hS,hl,fun _=>rfl⟩) fun _ _ _ _ _ z=>z
end K15
theorem PySem.W.Fast.tw13993687050949392552:True:=trivial
theorem PySem.W.Fast.tw5796969881802926850:True:=trivial
theorem PySem.W.Fast.tw7348765608189658190:True:=trivial
theorem PySem.W.Fast.tw2871583373172431727:True:=trivial
theorem PySem.W.Fast.tw11807711104703473993:True:=trivial
theorem PySem.W.Fast.tw15567027064378349625:True:=trivial
theorem PySem.W.Fast.tw4348420840841302967:True:=trivial
theorem PySem.W.Fast.tw15091098720419724163:True:=trivial
theorem PySem.W.Fast.tw4347813816615919003:True:=trivial
theorem PySem.W.Fast.tw4463829173352273248:True:=trivial
theorem PySem.W.Fast.tw6201412410850857398:True:=trivial
theorem PySem.W.Fast.tw967892651958007604:True:=trivial
theorem PySem.W.Fast.tw7061376650750702257:True:=trivial
theorem PySem.W.Fast.tw4631156689283313619:True:=trivial
theorem PySem.W.Fast.tw9303666057843604733:True:=trivial
theorem PySem.W.Fast.tw6889895318360679678:True:=trivial
theorem PySem.W.Fast.tw7467068406393530225:True:=trivial
open PySem PySem.W PyProof.Rows
set_option maxRecDepth 100000 in
set_option maxHeartbeats 0 in
theorem PySem.Challenge.cw_lookspare_k15_texts_refused_holds : PySem.Challenge.rw_lookspare_k15_texts_refused.Holds := by
  w_on; o_law; k_head; (case hw => w_witness2)
  k_fill
  refine K15.walk (l := PySem.Challenge.rw_lookspare_k15_texts_refused) rfl rfl (fun w h Y => PySem.W.kIn_of Y) ?F
  case F =>
    intro w mg fa h KX G hmg
    refine' K15.all_mk KX G hmg ?a1 ?l1 ?d1 ?k1 ?a2 ?l2 ?d2 ?k2 ?a3 ?l3 ?d3 ?k3 ?a4 ?l4 ?d4 ?k4 ?a5 ?l5 ?d5 ?k5 ?a6 ?l6 ?d6 ?k6 ?a7 ?l7 ?d7 ?k7 ?a8 ?l8 ?d8 ?k8 ?a9 ?l9 ?d9 ?k9 ?a10 ?l10 ?d10 ?k10 ?a11 ?l11 ?d11 ?k11 ?a12 ?l12 ?d12 ?k12 ?a13 ?l13 ?d13 ?k13 ?a14 ?l14 ?d14 ?k14 ?a15 ?l15 ?d15 ?k15 ?a16 ?l16 ?d16 ?k16 ?a17 ?l17 ?d17 ?k17 ?a18 ?l18 ?d18 ?k18 ?a19 ?l19 ?d19 ?k19 ?a20 ?l20 ?d20 ?k20 ?a21 ?l21 ?d21 ?k21 ?a22 ?l22 ?d22 ?k22 ?a23 ?l23 ?d23 ?k23 ?a24 ?l24 ?d24 ?k24 ?a25 ?l25 ?d25 ?k25 ?a26 ?l26 ?d26 ?k26 ?a27 ?l27 ?d27 ?k27 ?a28 ?l28 ?d28 ?k28 ?a29 ?l29 ?d29 ?k29 ?a30 ?l30 ?d30 ?k30 ?a31 ?l31 ?d31 ?k31 ?a32 ?l32 ?d32 ?k32 ?a33 ?l33 ?d33 ?k33 ?a34 ?l34 ?d34 ?k34 ?a35 ?l35 ?d35 ?k35 ?a36 ?l36 ?d36 ?k36 ?a37 ?l37 ?d37 ?k37 ?a38 ?l38 ?d38 ?k38 ?a39 ?l39 ?d39 ?k39 ?a40 ?l40 ?d40 ?k40 ?a41 ?l41 ?d41 ?k41 ?a42 ?l42 ?d42 ?k42 ?a43 ?l43 ?d43 ?k43 ?z_len ?z_range ?z_tuple ?z_int ?z_bool ?z_isinstance ?z_list ?z_zip ?z_all ?z_enumerate ?z_str ?z_ValueError ?gP ?lP ?xP ?dP ?rP ?sP ?gM ?lM ?xM ?dM ?rM ?gZ ?lZ ?cZ ?dZ ?zZ ?vZ ?n_MOST_NAMES ?n_MOST_ROWS ?n_MOST_LINES ?n_MOST_BOUNDS ?n_GREATEST_WRITTEN ?n_MOST_FIGURES ?n_FIGURES ?n_NOUGHT ?g_NoProgram ?g_SpareError ?g_BadRow ?g_NoPaper ?g_NoLoop ?lCN ?tCN ?bCN ?oNN ?iNN ?lIN ?dIN ?kIN ?kCN ?x1N ?x2N ?x3N ?y1N ?y2N ?y3N ?y5N ?y6N ?y7N ?y8N ?naN ?u0N ?u1N ?u2N ?u3N ?u4N ?lCB ?tCB ?bCB ?oNB ?iNB ?lIB ?dIB ?kIB ?kCB ?x1B ?x2B ?x3B ?y1B ?y2B ?y3B ?y5B ?y6B ?y7B ?y8B ?naB ?u0B ?u1B ?u2B ?u3B ?u4B
    (case a1 => k_is); (case l1 => k_is); (case d1 => k_is); (case k1 => k_is)
    (case a2 => k_is); (case l2 => k_is); (case d2 => k_is); (case k2 => k_is)
    (case a3 => k_is); (case l3 => k_is); (case d3 => k_is); (case k3 => k_is)
    (case a4 => k_is); (case l4 => k_is); (case d4 => k_is); (case k4 => k_is)
    (case a5 => k_is); (case l5 => k_is); (case d5 => k_is); (case k5 => k_is)
    (case a6 => k_is); (case l6 => k_is); (case d6 => k_is); (case k6 => k_is)
    (case a7 => k_is); (case l7 => k_is); (case d7 => k_is); (case k7 => k_is)
    (case a8 => k_is); (case l8 => k_is); (case d8 => k_is); (case k8 => k_is)
    (case a9 => k_is); (case l9 => k_is); (case d9 => k_is); (case k9 => k_is)
    (case a10 => k_is); (case l10 => k_is); (case d10 => k_is); (case k10 => k_is)
    (case a11 => k_is); (case l11 => k_is); (case d11 => k_is); (case k11 => k_is)
    (case a12 => k_is); (case l12 => k_is); (case d12 => k_is); (case k12 => k_is)
    (case a13 => k_is); (case l13 => k_is); (case d13 => k_is); (case k13 => k_is)
    (case a14 => k_is); (case l14 => k_is); (case d14 => k_is); (case k14 => k_is)
    (case a15 => k_is); (case l15 => k_is); (case d15 => k_is); (case k15 => k_is)
    (case a16 => k_is); (case l16 => k_is); (case d16 => k_is); (case k16 => k_is)
    (case a17 => k_is); (case l17 => k_is); (case d17 => k_is); (case k17 => k_is)
    (case a18 => k_is); (case l18 => k_is); (case d18 => k_is); (case k18 => k_is)
    (case a19 => k_is); (case l19 => k_is); (case d19 => k_is); (case k19 => k_is)
    (case a20 => k_is); (case l20 => k_is); (case d20 => k_is); (case k20 => k_is)
    (case a21 => k_is); (case l21 => k_is); (case d21 => k_is); (case k21 => k_is)
    (case a22 => k_is); (case l22 => k_is); (case d22 => k_is); (case k22 => k_is)
    (case a23 => k_is); (case l23 => k_is); (case d23 => k_is); (case k23 => k_is)
    (case a24 => k_is); (case l24 => k_is); (case d24 => k_is); (case k24 => k_is)
    (case a25 => k_is); (case l25 => k_is); (case d25 => k_is); (case k25 => k_is)
    (case a26 => k_is); (case l26 => k_is); (case d26 => k_is); (case k26 => k_is)
    (case a27 => k_is); (case l27 => k_is); (case d27 => k_is); (case k27 => k_is)
    (case a28 => k_is); (case l28 => k_is); (case d28 => k_is); (case k28 => k_is)
    (case a29 => k_is); (case l29 => k_is); (case d29 => k_is); (case k29 => k_is)
    (case a30 => k_is); (case l30 => k_is); (case d30 => k_is); (case k30 => k_is)
    (case a31 => k_is); (case l31 => k_is); (case d31 => k_is); (case k31 => k_is)
    (case a32 => k_is); (case l32 => k_is); (case d32 => k_is); (case k32 => k_is)
    (case a33 => k_is); (case l33 => k_is); (case d33 => k_is); (case k33 => k_is)
    (case a34 => k_is); (case l34 => k_is); (case d34 => k_is); (case k34 => k_is)
    (case a35 => k_is); (case l35 => k_is); (case d35 => k_is); (case k35 => k_is)
    (case a36 => k_is); (case l36 => k_is); (case d36 => k_is); (case k36 => k_is)
    (case a37 => k_is); (case l37 => k_is); (case d37 => k_is); (case k37 => k_is)
    (case a38 => k_is); (case l38 => k_is); (case d38 => k_is); (case k38 => k_is)
    (case a39 => k_is); (case l39 => k_is); (case d39 => k_is); (case k39 => k_is)
    (case a40 => k_is); (case l40 => k_is); (case d40 => k_is); (case k40 => k_is)
    (case a41 => k_is); (case l41 => k_is); (case d41 => k_is); (case k41 => k_is)
    (case a42 => k_is); (case l42 => k_is); (case d42 => k_is); (case k42 => k_is)
    (case a43 => k_is); (case l43 => k_is); (case d43 => k_is); (case k43 => k_is)
    (case z_len => k_is)
    (case z_range => k_is)
    (case z_tuple => k_is)
    (case z_int => k_is)
    (case z_bool => k_is)
    (case z_isinstance => k_is)
    (case z_list => k_is)
    (case z_zip => k_is)
    (case z_all => k_is)
    (case z_enumerate => k_is)
    (case z_str => k_is)
    (case z_ValueError => k_is)
    (case gP => k_is)
    (case lP => k_is)
    (case xP => exact ⟨rfl, rfl, rfl⟩)
    (case dP => exact rfl)
    (case rP => repeat' (first | exact .nil | (refine' .cons (K15.row_mk ?h1 ?h2 ?h3 ?h4 ?h5 ?h6 ?h7 ?h8) ?_; (case h1 => exact rfl); (case h2 => exact rfl); (case h3 => exact rfl); (case h4 => k_is); (case h5 => exact rfl); (case h6 => exact rfl); (case h7 => exact Nat.le_of_ble_eq_true rfl); (case h8 => repeat (first | exact .nil | refine .cons ⟨_, rfl⟩ ?_)))))
    (case sP => exact rfl)
    (case gM => k_is)
    (case lM => k_is)
    (case xM => exact ⟨rfl, rfl, rfl⟩)
    (case dM => exact rfl)
    (case rM => repeat' (first | exact .nil | (refine' .cons (K15.rowM_mk ?h1 ?h2 ?h3) ?_; (case h1 => exact rfl); (case h2 => exact rfl); (case h3 => exact rfl))))
    (case gZ => k_is)
    (case lZ => k_is)
    (case cZ => exact rfl)
    (case dZ => exact rfl)
    (case zZ => exact Nat.le_of_ble_eq_true rfl)
    (case vZ => repeat (first | exact .nil | refine .cons ⟨_, rfl⟩ ?_))
    (case n_MOST_NAMES => k_is)
    (case n_MOST_ROWS => k_is)
    (case n_MOST_LINES => k_is)
    (case n_MOST_BOUNDS => k_is)
    (case n_GREATEST_WRITTEN => k_is)
    (case n_MOST_FIGURES => k_is)
    (case n_FIGURES => k_is)
    (case n_NOUGHT => k_is)
    (case g_NoProgram => k_is)
    (case g_SpareError => k_is)
    (case g_BadRow => k_is)
    (case g_NoPaper => k_is)
    (case g_NoLoop => k_is)
    (case lCN => k_is)
    (case tCN => kernel_rfl)
    (case bCN => kernel_rfl)
    (case oNN => kernel_rfl)
    (case iNN => k_is)
    (case lIN => k_is)
    (case dIN => k_is)
    (case kIN => k_is)
    (case kCN => k_is)
    (case x1N => k_is)
    (case x2N => kernel_rfl)
    (case x3N => k_is)
    (case y1N => k_is)
    (case y2N => k_is)
    (case y3N => k_is)
    (case y5N => k_is)
    (case y6N => k_is)
    (case y7N => k_is)
    (case y8N => k_is)
    (case naN => k_is)
    (case u0N => kernel_rfl)
    (case u1N => kernel_rfl)
    (case u2N => kernel_rfl)
    (case u3N => kernel_rfl)
    (case u4N => kernel_rfl)
    (case lCB => k_is)
    (case tCB => kernel_rfl)
    (case bCB => kernel_rfl)
    (case oNB => kernel_rfl)
    (case iNB => k_is)
    (case lIB => k_is)
    (case dIB => k_is)
    (case kIB => k_is)
    (case kCB => k_is)
    (case x1B => k_is)
    (case x2B => kernel_rfl)
    (case x3B => k_is)
    (case y1B => k_is)
    (case y2B => k_is)
    (case y3B => k_is)
    (case y5B => k_is)
    (case y6B => k_is)
    (case y7B => k_is)
    (case y8B => k_is)
    (case naB => k_is)
    (case u0B => kernel_rfl)
    (case u1B => kernel_rfl)
    (case u2B => kernel_rfl)
    (case u3B => kernel_rfl)
    (case u4B => kernel_rfl)
