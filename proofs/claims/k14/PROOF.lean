import PyProof.Rows.All
import Wide.All
import OpenK.AllK
import Wide.FinOn
import Lean
import PyProof.EqAt
import PyProof.EqKinds
import PyProof.TupleCall
import PySem.Challenge.RW_ferry_k14_signs_put
set_option Elab.async false
set_option linter.all false
set_option maxRecDepth 100000
namespace L2
open PySem PySem.Spec PyProof.Rows
noncomputable abbrev Key:=Sum Int Str
noncomputable def keyIs:Key→Value→Bool
 | .inl k,v=>Value.isInt k v
 | .inr x,v=>Value.isStrOf x v
noncomputable def qFZ (w:World):Key→Int
 | .inl k=>hashInt k
 | .inr x=>hashStr w x
theorem keyIs_shape:∀ {k:Key} {v:Value},keyIs k v=true→(∃ i t,k=Sum.inl i∧v=Value.int i t)∨(∃ x t,k=Sum.inr x∧v=Value.str x t)
 | .inl i,v,h=>by
  obtain ⟨t,e⟩:=Value.isInt_shape (k:=i) (v:=v) h
  exact .inl ⟨i,t,rfl,e⟩
 | .inr x,v,h=>by
  obtain ⟨t,e⟩:=Value.isStrOf_shape (x:=x) (v:=v) h
  exact .inr ⟨x,t,rfl,e⟩
theorem qFY (i:Int) (t:Tok):keyIs (.inl i) (.int i t)=true:=by simp [keyIs,Value.isInt]
theorem qFX (x:Str) (t:Tok):keyIs (.inr x) (.str x t)=true:=by simp [keyIs,Value.isStrOf]
theorem qFW (a b:Int):decide ((Sum.inl a:Key)=Sum.inl b)=(a == b):=by
 by_cases e:a=b
 ·subst e;simp
 ·have h:¬ (Sum.inl a:Key)=Sum.inl b:=fun q=>e (Sum.inl.inj q)
  rw [decide_eq_false h]
  exact (beq_eq_false_iff_ne.mpr e).symm
theorem qFR (a b:Str):decide ((Sum.inr a:Key)=Sum.inr b)=decide (a=b):=by
 by_cases e:a=b
 ·subst e;simp
 ·have h:¬ (Sum.inr a:Key)=Sum.inr b:=fun q=>e (Sum.inr.inj q)
  rw [decide_eq_false h,decide_eq_false e]
theorem qFV (a:Int) (b:Str):decide ((Sum.inl a:Key)=Sum.inr b)=false:=decide_eq_false (fun q=>nomatch q)
theorem qFS (a:Str) (b:Int):decide ((Sum.inr a:Key)=Sum.inl b)=false:=decide_eq_false (fun q=>nomatch q)
noncomputable def mixKind (prog:Program) (w:World):PySem.KeyKind prog w Key where
 is:=keyIs
 hash:=qFZ w
 inj:=fun v a b ha hb=>by
  rcases keyIs_shape ha with ⟨i,t,rfl,rfl⟩ | ⟨x,t,rfl,rfl⟩
  ·rcases keyIs_shape hb with ⟨j,u,rfl,e⟩ | ⟨y,u,rfl,e⟩
   ·injection e with e1 _;rw [e1]
   ·exact nomatch e
  ·rcases keyIs_shape hb with ⟨j,u,rfl,e⟩ | ⟨y,u,rfl,e⟩
   ·exact nomatch e
   ·injection e with e1 _;rw [e1]
 byValue:=fun k v h=>by
  rcases keyIs_shape h with ⟨i,t,rfl,rfl⟩ | ⟨x,t,rfl,rfl⟩ <;> rfl
 pyHash:=fun hv h=>by
  rcases keyIs_shape hv with ⟨i,t,rfl,rfl⟩ | ⟨x,t,rfl,rfl⟩
  ·exact wpAny_pyHash_int h
  ·exact wpAny_pyHash_str h
 eqBool:=fun hu hv h=>by
  rcases keyIs_shape hu with ⟨i,t,rfl,rfl⟩ | ⟨x,t,rfl,rfl⟩
  ·rcases keyIs_shape hv with ⟨j,u,rfl,rfl⟩ | ⟨y,u,rfl,rfl⟩
   ·rw [qFW] at h;exact wpAny_eqBool_int h
   ·rw [qFV] at h;exact SeqAt.EqAt.int_str i t y u _ _ _ _ h
  ·rcases keyIs_shape hv with ⟨j,u,rfl,rfl⟩ | ⟨y,u,rfl,rfl⟩
   ·rw [qFS] at h;exact SeqAt.EqAt.str_int x t j u _ _ _ _ h
   ·rw [qFR] at h;exact wpAny_eqBool_str h
 «strs»:=fun k x t v h=>by
  rcases keyIs_shape h with ⟨i,u,rfl,e⟩ | ⟨y,u,rfl,e⟩
  ·exact nomatch e
  ·injection e with e1 _
   subst e1
   cases v <;> rfl
theorem qEU (prog:Program) (w:World) (i:Int) (t:Tok):(mixKind prog w).is (.inl i) (.int i t)=true:=qFY i t
theorem qET (prog:Program) (w:World) (x:Str) (t:Tok):(mixKind prog w).is (.inr x) (.str x t)=true:=qFX x t
end L2
namespace L2
open PySem PySem.Spec PyProof.Rows
inductive V where
 | non | bl (b:Bool) | int (i:Int) | str (x:Str) | byt (b:Array UInt8) | flt (b:UInt64) | ref (a:Addr) | ty (n:String)
 deriving DecidableEq
noncomputable def RelV:V→Value→Prop
 | .non,u=>u=Value.none
 | .bl b,u=>u=Value.bool b
 | .int i,u=>∃ t,u=Value.int i t
 | .str x,u=>∃ t,u=Value.str x t
 | .byt b,u=>∃ t,u=Value.bytes b t
 | .flt b,u=>∃ t,u=Value.float b t
 | .ref a,u=>u=Value.ref a
 | .ty n,u=>u=Value.type n
noncomputable abbrev Vals:List V→List Value→Prop:=Paired RelV
theorem Vals.length {xs:List V} {us:List Value} (r:Vals xs us):xs.length=us.length:=Paired.length r
theorem Vals.get:∀ {xs:List V} {us:List Value} {i:Nat} {x:V},Vals xs us→xs[i]?=some x→∃ u,us[i]?=some u∧RelV x u
 | _,_,_,_,.nil,e=>by simp at e
 | _,_,0,_,.cons r _,e=>by simp at e;subst e;exact ⟨_,rfl,r⟩
 | _,_,i+1,x,.cons _ t,e=>by
  obtain ⟨u,h1,h2⟩:=Vals.get (i:=i) (x:=x) t (by simpa using e)
  exact ⟨u,by simpa using h1,h2⟩
theorem Vals.set {x:V} {u:Value} (r:RelV x u):∀ {xs:List V} {us:List Value} (i:Nat),Vals xs us→Vals (xs.set i x) (us.set i u)
 | _,_,_,.nil=>.nil
 | _,_,0,.cons _ t=>.cons r t
 | _,_,i+1,.cons q t=>.cons q (Vals.set r i t)
theorem Vals.append:∀ {xs ys:List V} {us ws:List Value},Vals xs us→Vals ys ws→Vals (xs++ys) (us++ws)
 | _,_,_,_,.nil,s=>s
 | _,_,_,_,.cons r t,s=>.cons r (Vals.append t s)
theorem Vals.take:∀ {xs:List V} {us:List Value} (n:Nat),Vals xs us→Vals (xs.take n) (us.take n)
 | _,_,0,_=>.nil
 | _,_,_+1,.nil=>.nil
 | _,_,n+1,.cons r t=>.cons r (Vals.take n t)
theorem Vals.drop:∀ {xs:List V} {us:List Value} (n:Nat),Vals xs us→Vals (xs.drop n) (us.drop n)
 | _,_,0,r=>r
 | _,_,_+1,.nil=>.nil
 | _,_,n+1,.cons _ t=>Vals.drop n t
theorem Vals.none_of:∀ {xs:List V} {us:List Value} {i:Nat},Vals xs us→xs[i]?=none→us[i]?=none:=fun {xs us i} r e=>by
 have h1:=r.length
 have h2:xs.length≤i:=List.getElem?_eq_none_iff.mp e
 exact List.getElem?_eq_none_iff.mpr (by omega)
noncomputable def RelO:Option V→Option Value→Prop
 | some v,some u=>RelV v u
 | none,none=>True
 | _,_=>False
noncomputable def KV {κ:Type}:List (κ × V)→List (κ × Value)→Prop:=Paired fun (p:κ × V) (q:κ × Value)=>p.1=q.1∧RelV p.2 q.2
noncomputable def kV:Key→V
 | .inl i=>.int i
 | .inr x=>.str x
inductive HO where
 | lst (xs:List V)
 | tup (xs:List V)
 | dK (kvs:List (Key × V)) | dT (kvs:List (List Key × V))
 | set (S:Int→Bool) (n:Nat)
 | ins (C dx:Addr) (fs:List (Str × V))
 | own (x:Addr)
 | xd (fs:List (Str × V))
 | met (f x:Addr)
 | rng (lo hi:Int)
 | frz (o:Obj) (u:HO)
 | tbl (ps:Array Value)
 | ext (φ:Heap→Prop)
noncomputable abbrev Hp:=Addr→Option HO
noncomputable def upd (H:Hp) (a:Addr) (o:HO):Hp:=fun b=>if b=a then some o else H b
theorem qF {H:Hp} {a:Addr} {o:HO}:upd H a o a=some o:=by unfold upd;rw [if_pos rfl]
theorem qD {H:Hp} {a b:Addr} {o:HO} (h:b≠a):upd H a o b=H b:=by unfold upd;rw [if_neg h]
theorem upd_upd {H:Hp} {a:Addr} {o u:HO}:upd (upd H a o) a u=upd H a u:=by
 funext b;unfold upd;split <;> rfl
theorem ne_of_none {H:Hp} {a b:Addr} {o:HO} (h:H a=some o) (h':H b=none):a≠b:=by
 intro e;subst e;rw [h] at h';cases h'
section
variable (P:Program) (w:World)
noncomputable def ObjOk (H:Hp) (h:Heap) (a:Addr):HO→Prop
 | .lst xs=>xs.length≤sizeLine∧∃ (its:List Value) (n:Nat),Vals xs its∧h.get? a=some { cls:=.type "list",data:=.seq its.toArray n }
 | .tup xs=>xs.length≤sizeLine∧∃ its:List Value,Vals xs its∧IsTup h a its.toArray
 | .dK kvs=>kvs.length≤sizeLine∧(a == sysModules)=false∧∃ vs,KV kvs vs∧h.DictOf (mixKind P w) a vs
 | .dT kvs=>kvs.length≤sizeLine∧(a == sysModules)=false∧∃ xs:List (List Key × Addr × Value),
   Paired (fun (p:List Key × V) (q:List Key × Addr × Value)=>p.1=q.1∧H q.2.1=some (.tup (p.1.map kV))∧RelV p.2 q.2.2) kvs xs ∧
   ∃ o es ep,h.get? a=some o∧o.ExactDict∧o.data=.dict es ep∧es.toList=xs.map (entryOfKey (tupleKind (mixKind P w)))∧(xs.map (·.1)).Nodup
 | .set S n=>h.SetOf (intKind P w) a S n
 | .ins C dx fs=>H dx=some (.own a)∧fs.length≤1000∧dx≠a∧h.get? a=some (PySem.W.instObj C dx) ∧
   ∃ mA,h.Ns1 dx mA∧(∀ f,RelO (fs.lookup f) (mA f))∧PySem.Within mA (fs.map (·.1))
 | .own _=>∃ o,h.get? a=some o
 | .xd fs=>∃ mA,h.Ns1 a mA∧∀ f,RelO (fs.lookup f) (mA f)
 | .rng lo hi=>∃ t u v,h.get? a=some { cls:=.type "range",data:=.fields #[.int lo t,.int hi u,.int 1 v] }
 | .frz o u=>h.get? a=some o∧ObjOk H h a u
 | .tbl ps=>h.get? a=some { cls:=.none,data:=.fields ps }
 | .met f x=>h.get? a=some (PySem.W.methodObj (.ref f) (.ref x))
 | .ext φ=>φ h∧(∃ o,h.get? a=some o)∧∀ h1 h2:Heap,φ h1→(∀ o,h1.get? a=some o→h2.get? a=some o)→φ h2
noncomputable def HOk (H:Hp) (h:Heap):Prop:=∀ a o,H a=some o→ObjOk P w H h a o
end
section
variable {P:Program} {w:World} {H H':Hp} {h h':Heap} {a:Addr} {o:HO}
theorem ObjOk.lt (x:ObjOk P w H h a o):a<h.objs.size:=by
 cases o with
 | lst xs=>obtain ⟨_,_,_,_,e⟩:=x;exact Heap.lt_size e
 | tup xs=>obtain ⟨_,_,_,p⟩:=x;exact p.lt
 | dK kvs=>obtain ⟨_,_,_,_,o,_,_,e,_⟩:=x;exact Heap.lt_size e
 | dT kvs=>obtain ⟨_,_,_,_,o,_,_,e,_⟩:=x;exact Heap.lt_size e
 | set S n=>obtain ⟨o,_,_,_,e,_⟩:=x;exact Heap.lt_size e
 | ins C dx fs=>obtain ⟨_,_,_,e,_⟩:=x;exact Heap.lt_size e
 | own y=>obtain ⟨_,e⟩:=x;exact Heap.lt_size e
 | xd fs=>obtain ⟨_,⟨_,_,_,e,_⟩,_⟩:=x;exact Heap.lt_size e
 | rng lo hi=>obtain ⟨_,_,_,e⟩:=x;exact Heap.lt_size e
 | frz ob u=>obtain ⟨e,_⟩:=x;exact Heap.lt_size e
 | tbl ps=>exact Heap.lt_size (show h.get? a=some _ from x)
 | met f y=>exact Heap.lt_size (show h.get? a=some _ from x)
 | ext φ=>obtain ⟨_,⟨_,e⟩,_⟩:=x;exact Heap.lt_size e
theorem Paired.mapP {α β:Type} {F G:α→β→Prop}:∀ {l₁:List α} {l₂:List β},Paired F l₁ l₂→(∀ a b,F a b→G a b)→Paired G l₁ l₂
 | _,_,.nil,_=>.nil
 | _,_,.cons r t,f=>.cons (f _ _ r) (Paired.mapP t f)
theorem ObjOk.stay (x:ObjOk P w H h a o) (k:∀ b u,(b=a∨H b=some (.own a))→h.get? b=some u→h'.get? b=some u)
  (ho:∀ b,H b=some (.own a)→H' b=some (.own a)) (ht:∀ b xs,H b=some (.tup xs)→H' b=some (.tup xs)):ObjOk P w H' h' a o:=by
 induction o with
 | lst xs=>obtain ⟨z,its,n,r,e⟩:=x;exact ⟨z,its,n,r,k _ _ (.inl rfl) e⟩
 | tup xs=>obtain ⟨z,its,r,ob,e,c⟩:=x;exact ⟨z,its,r,ob,k _ _ (.inl rfl) e,c⟩
 | dK kvs=>obtain ⟨z,y,vs,r,ob,es,ep,e,c⟩:=x;exact ⟨z,y,vs,r,ob,es,ep,k _ _ (.inl rfl) e,c⟩
 | dT kvs =>
  obtain ⟨z,y,xs,r,ob,es,ep,e,c⟩:=x
  exact ⟨z,y,xs,Paired.mapP r fun p q z=>⟨z.1,ht _ _ z.2.1,z.2.2⟩,ob,es,ep,k _ _ (.inl rfl) e,c⟩
 | set S n=>obtain ⟨ob,es,ep,t,e,c⟩:=x;exact ⟨ob,es,ep,t,k _ _ (.inl rfl) e,c⟩
 | ins C dx fs =>
  obtain ⟨d,z,ne,e,mA,⟨od,es,ep,e2,c⟩,r⟩:=x
  exact ⟨ho _ d,z,ne,k _ _ (.inl rfl) e,mA,⟨od,es,ep,k _ _ (.inr d) e2,c⟩,r⟩
 | own y=>obtain ⟨ob,e⟩:=x;exact ⟨ob,k _ _ (.inl rfl) e⟩
 | xd fs=>obtain ⟨mA,⟨od,es,ep,e,c⟩,r⟩:=x;exact ⟨mA,⟨od,es,ep,k _ _ (.inl rfl) e,c⟩,r⟩
 | rng lo hi=>obtain ⟨t,u,v,e⟩:=x;exact ⟨t,u,v,k _ _ (.inl rfl) e⟩
 | frz ob u ih=>obtain ⟨e,q⟩:=x;exact ⟨k _ _ (.inl rfl) e,ih q⟩
 | tbl ps =>
  have e:h.get? a=some { cls:=.none,data:=.fields ps }:=x
  show h'.get? a=some { cls:=.none,data:=.fields ps }
  exact k a _ (.inl rfl) e
 | met f y =>
  have e:h.get? a=some (PySem.W.methodObj (.ref f) (.ref y)):=x
  show h'.get? a=some (PySem.W.methodObj (.ref f) (.ref y))
  exact k a _ (.inl rfl) e
 | ext φ=>obtain ⟨p,⟨o,e⟩,st⟩:=x;exact ⟨st _ _ p fun o q=>k _ _ (.inl rfl) q,⟨o,k _ _ (.inl rfl) e⟩,st⟩
theorem HOk.lt (x:HOk P w H h) (e:H a=some o):a<h.objs.size:=(x a o e).lt
theorem HOk.fresh (x:HOk P w H h) (e:h.objs.size≤a):H a=none:=by
 cases q:H a with
 | none=>rfl
 | some u=>exact absurd (Nat.lt_of_lt_of_le (x.lt q) e) (Nat.lt_irrefl _)
theorem HOk.kept (x:HOk P w H h) (k:∀ b u,h.get? b=some u→h'.get? b=some u):HOk P w H h':=fun a o e =>
 (x a o e).stay (fun b u _ q=>k b u q) (fun _ q=>q) fun _ _ q=>q
theorem HOk.laid (x:HOk P w H h) (k:∀ b u,h.get? b=some u→h'.get? b=some u) (hp:h.objs.size≤a) (new:ObjOk P w (upd H a o) h' a o):HOk P w (upd H a o) h':=fun b u e=>by
 have hn:=x.fresh hp
 by_cases hb:b=a
 ·subst hb;rw [qF] at e;cases e;exact new
 ·rw [qD hb] at e
  exact (x b u e).stay (fun c v _ q=>k c v q) (fun c q=>by rw [qD (ne_of_none q hn)];exact q) fun c xs q=>by rw [qD (ne_of_none q hn)];exact q
end
noncomputable def Rd (H:Hp) (a:Addr) (u:HO):Prop:=H a=some u∨∃ o,H a=some (.frz o u)
theorem Rd.of {H:Hp} {a:Addr} {u:HO} (h:H a=some u):Rd H a u:=.inl h
theorem Rd.ok {P:Program} {w:World} {H:Hp} {h:Heap} {a:Addr} {u:HO} (r:Rd H a u) (x:HOk P w H h):ObjOk P w H h a u:=by
 rcases r with r | ⟨o,r⟩
 ·exact x a u r
 ·obtain ⟨_,q⟩:=x a _ r
  exact q
noncomputable def Mut:Option HO→Prop
 | some (.lst _)=>True
 | some (.dK _)=>True
 | some (.dT _)=>True
 | some (.set _ _)=>True
 | some (.ins _ _ _)=>True
 | some (.ext _)=>True
 | _=>False
section
variable {P:Program} {w:World} {H:Hp} {h h':Heap} {x e:Addr} {o':HO}
theorem HOk.write (ok:HOk P w H h) (mu:Mut (H x)) (he:e=x∨H e=some (.own x)) (k:∀ b u,b≠e→h.get? b=some u→h'.get? b=some u) (heo:∃ u,h'.get? e=some u)
  (new:ObjOk P w (upd H x o') h' x o'):HOk P w (upd H x o') h':=fun b u q=>by
 have nown:∀ c y,H c=some (.own y)→c≠x:=fun c y r z=>by subst z;rw [r] at mu;exact mu
 have ntup:∀ c xs,H c=some (.tup xs)→c≠x:=fun c xs r z=>by subst z;rw [r] at mu;exact mu
 by_cases hb:b=x
 ·subst hb;rw [qF] at q;cases q;exact new
 ·rw [qD hb] at q
  by_cases hbe:b=e
  ·have q':H b=some (.own x):=by
    rcases he with z | z
    ·exact absurd (hbe.trans z) hb
    ·rw [hbe];exact z
   rw [q] at q';cases q'
   obtain ⟨v,hv⟩:=heo
   exact ⟨v,by rw [hbe];exact hv⟩
  ·refine (ok b u q).stay (fun c v hc r=>k c v ?_ r) (fun c r=>by rw [qD (nown c b r)];exact r) fun c xs r=>by rw [qD (ntup c xs r)];exact r
   rcases hc with rfl | hc
   ·exact hbe
   ·rintro rfl
    rcases he with z | z
    ·exact nown c b hc z
    ·rw [hc] at z;cases z;exact hb rfl
end
structure Un (fs ex:List Addr) (H H':Hp) (h h':Heap):Prop where
 keep:∀ b o,h.get? b=some o→H b=none→b∉fs→b∉ex→h'.get? b=some o
 slot:∀ b o,h.get? b=some o→H b=none→b∈fs→b∉ex→∃ sl,h'.get? b=some { o with slots:=sl }
 free:∀ b o,h.get? b=some o→H b=none→b∉ex→H' b=none
 there:∀ b o,h.get? b=some o→b∉ex→∃ o',h'.get? b=some o'
 tups:∀ b xs,H b=some (.tup xs)→H' b=some (.tup xs)
 frzs:∀ b o u,H b=some (.frz o u)→H' b=some (.frz o u)
 tbls:∀ b ps,H b=some (.tbl ps)→∃ more,H' b=some (.tbl (ps++more))
section
variable {fs fs' ex ex':List Addr} {H H1 H2:Hp} {h h1 h2 h':Heap} {a x e:Addr} {o:HO}
theorem Un.any (u:Un fs ex H H1 h h1) {b:Addr} {ob:Obj} (q:h.get? b=some ob) (n:H b=none) (hx:b∉ex):∃ sl,h1.get? b=some { ob with slots:=sl }:=by
 by_cases hb:b∈fs
 ·exact u.slot b ob q n hb hx
 ·exact ⟨ob.slots,u.keep b ob q n hb hx⟩
theorem Un.trans (a:Un fs ex H H1 h h1) (b:Un fs ex H1 H2 h1 h2):Un fs ex H H2 h h2 where
 keep:=fun c ob q n hc hx=>b.keep c ob (a.keep c ob q n hc hx) (a.free c ob q n hx) hc hx
 slot:=fun c ob q n hc hx=>by
  obtain ⟨sl,e1⟩:=a.slot c ob q n hc hx
  obtain ⟨sl',e2⟩:=b.slot c _ e1 (a.free c ob q n hx) hc hx
  exact ⟨sl',e2⟩
 free:=fun c ob q n hx=>by
  obtain ⟨o',e1⟩:=a.there c ob q hx
  exact b.free c o' e1 (a.free c ob q n hx) hx
 there:=fun c ob q hx=>by
  obtain ⟨o',e1⟩:=a.there c ob q hx
  exact b.there c o' e1 hx
 tups:=fun c xs q=>b.tups c xs (a.tups c xs q)
 frzs:=fun c ob xs q=>b.frzs c ob xs (a.frzs c ob xs q)
 tbls:=fun c ps q=>by
  obtain ⟨m1,e1⟩:=a.tbls c ps q
  obtain ⟨m2,e2⟩:=b.tbls c _ e1
  exact ⟨m1++m2,by rw [e2,Array.append_assoc]⟩
theorem Un.kept (k:∀ b u,h.get? b=some u→h'.get? b=some u):Un fs ex H H h h' :=
 ⟨fun b ob q _ _ _=>k b ob q,fun b ob q _ _ _=>⟨ob.slots,k b ob q⟩,fun _ _ _ n _=>n,fun b ob q _=>⟨ob,k b ob q⟩,fun _ _ q=>q,fun _ _ _ q=>q,fun _ ps q=>⟨#[],by rw [q];simp⟩⟩
theorem Un.refl:Un fs ex H H h h:=Un.kept fun _ _ q=>q
theorem Un.laid (k:∀ b u,h.get? b=some u→h'.get? b=some u) (hp:h.objs.size≤a) (hn:H a=none):Un fs ex H (upd H a o) h h' where
 keep:=fun b u q _ _ _=>k b u q
 slot:=fun b u q _ _ _=>⟨u.slots,k b u q⟩
 free:=fun b u q n _=>by rw [qD (Nat.ne_of_lt (Nat.lt_of_lt_of_le (Heap.lt_size q) hp))];exact n
 there:=fun b u q _=>⟨u,k b u q⟩
 tups:=fun b xs q=>by rw [qD (ne_of_none q hn)];exact q
 frzs:=fun b u xs q=>by rw [qD (ne_of_none q hn)];exact q
 tbls:=fun b ps q=>⟨#[],by rw [qD (ne_of_none q hn),q];simp⟩
theorem Un.write (mu:Mut (H x)) (he:e=x∨H e=some (.own x)) (k:∀ b u,b≠e→h.get? b=some u→h'.get? b=some u) (heo:∃ u,h'.get? e=some u):Un fs ex H (upd H x o) h h':=by
 have hx:∀ b,H b=none→b≠x:=fun b n z=>by subst z;rw [n] at mu;exact mu
 have hb:∀ b,H b=none→b≠e:=fun b n z=>by
  subst z
  rcases he with r | r
  ·exact hx b n r
  ·rw [n] at r;cases r
 have hm:∀ b u,H b=some u→¬ Mut (some u)→b≠x:=fun b u q nm z=>by subst z;rw [q] at mu;exact nm mu
 refine ⟨fun b u q n _ _=>k b u (hb b n) q,fun b u q n _ _=>⟨u.slots,k b u (hb b n) q⟩,fun b u q n _=>by rw [qD (hx b n)];exact n,fun b u q _=>?_,
  fun b xs q=>by rw [qD (hm b _ q fun z=>z)];exact q,fun b u xs q=>by rw [qD (hm b _ q fun z=>z)];exact q,fun b ps q=>⟨#[],by rw [qD (hm b _ q fun z=>z),q];simp⟩⟩
 by_cases hbe:b=e
 ·subst hbe;exact heo
 ·exact ⟨u,k b u hbe q⟩
theorem Un.mono (u:Un fs ex H H1 h h1) (hs:∀ b∈fs,b∈fs') (hx:∀ b∈ex,b∈ex'):Un fs' ex' H H1 h h1 :=
 ⟨fun b ob q n hb he=>u.keep b ob q n (fun z=>hb (hs b z)) fun z=>he (hx b z),fun _ _ q n _ he=>u.any q n fun z=>he (hx _ z),fun b ob q n he=>u.free b ob q n fun z=>he (hx b z),fun b ob q he=>u.there b ob q fun z=>he (hx b z),u.tups,u.frzs,u.tbls⟩
end
noncomputable def trk (h:Heap) (H:Hp):List Addr:=(List.range h.objs.size).filter fun a=>(H a).isSome
noncomputable def jZ (h:Heap) (H:Hp):Heap:=PySem.W.hideAll h (trk h H)
theorem qGU (h:Heap) (H:Hp):(jZ h H).objs.size=h.objs.size:=PySem.W.hideAll_size _ _
theorem qGV {h:Heap} {H:Hp} {b:Addr} {o:Obj} (e:h.get? b=some o) (n:H b=none):(jZ h H).get? b=some o :=
 PySem.W.hideAll_get _ e fun hm=>by
  have q:(H b).isSome=true:=(List.mem_filter.mp hm).2
  rw [n] at q;simp at q
theorem qDX {h:Heap} {H:Hp} {b:Addr} {o:Obj} (e:(jZ h H).get? b=some o):h.get? b=some o∧H b=none:=by
 have e':h.get? b=some o:=PySem.W.of_hideAll (trk h H) e
 refine ⟨e',?_⟩
 cases q:H b with
 | none=>rfl
 | some x =>
  have hm:b∈trk h H:=List.mem_filter.mpr ⟨List.mem_range.mpr (Heap.lt_size e'),by simp [q]⟩
  have z:(jZ h H).get? b=none:=PySem.W.hideAll_none (trk h H) hm
  rw [z] at e;cases e
noncomputable def qJV (g h:Heap) (L:Addr):List (Addr × Obj):=(List.range h.objs.size).filterMap fun a=>if a=L∨(g.get? a).isSome=true then none else (h.get? a).map fun o=>(a,o)
noncomputable def qE (g h:Heap) (L d:Addr):List (Addr × Obj):=(qJV g h L).filter fun p=>decide (p.1≠d)
end L2
namespace L2
open PySem PySem.Spec PyProof.Rows
structure Mod (K:PySem.W.Frag) (mg:Str→Option Value) (base:Heap):Prop where
 kin:K.In base
 glob:base.Ns mainGlobals mg
 blt:∃ mb,base.Ns builtinsNs mb∧∀ x:Str,x≠"__name__"→mb x=bootBuiltins x
 nolimit:base.NoLimit
structure Cx where
 prog:Program
 w:World
 K:PySem.W.Frag
 mg:Str→Option Value
 base:Heap
 A:Around
 N:List Str
 s₀:Shared
 H₀:Hp
 env:Env
 outer:List Env
 stack:List Env
 ex:List Addr
 fn:Str→Bool
 calm:Bool
 pn:List (Addr × Obj)
 xe:Value→Shared→Prop
noncomputable def frs (l:List Env):List Addr:=l.filterMap (·.frame)
noncomputable abbrev Cx.fs (X:Cx):List Addr:=frs X.outer
noncomputable def Vis (sc:Scope) (x:Str):Prop:=sc.names.lookup x=some .local∨sc.names.lookup x=some .cell∨sc.names.lookup x=some .free
noncomputable def Loc (sc:Scope) (x:Str):Prop:=sc.names.lookup x=some .local∨sc.names.lookup x=some .cell
noncomputable def Look (env:Env) (h:Heap) (m:Str→Option Value) (x:Str) (u:Value):Prop :=
 (env.kindOf x=some .local∧m x=some u)∨((env.kindOf x=some .cell∨env.kindOf x=some .free)∧∃ c,env.cells.lookup x=some c∧h.IsCell c (some u))
structure Cx.Ok (X:Cx):Prop where
 mod:Mod X.K X.mg X.base
 kind:X.env.scope.kind=.function
 glob:X.env.globals=mainGlobals
 blt:X.env.builtins=builtinsNs
 above:X.s₀.heap.objs.size≤X.env.locals
 inj:∀ x y c,X.env.cells.lookup x=some c→X.env.cells.lookup y=some c→x=y
 has:∀ x,(X.env.kindOf x=some .cell∨X.env.kindOf x=some .free)→∃ c,X.env.cells.lookup x=some c
 cab:∀ x c,X.fn x=true→X.env.cells.lookup x=some c→X.s₀.heap.objs.size≤c
 hd:X.calm=true→X.A.handled=none
 frames:X.A.frames=some X.stack
 stk:X.stack=X.outer∨(X.stack=X.env::X.outer∧X.env.frame=some X.env.locals)
 exf:∀ b∈X.ex,b≠X.env.locals∧∀ x c,X.env.cells.lookup x=some c→c≠b
 bs:∀ b o,X.base.get? b=some o→X.s₀.heap.get? b=some o∧X.H₀ b=none
 bsz:X.base.objs.size≤X.s₀.heap.objs.size
 noex:∀ b o,X.base.get? b=some o→b∉X.ex
 exfs:∀ b∈X.ex,b∉X.fs
 funs:X.s₀.heap.FunFrames X.base X.outer
 frf:∀ b∈X.fs,X.H₀ b=none
structure Inv (X:Cx) (pins:List (Addr × Obj)) (σ:List (Option V)) (H:Hp) (s:Shared):Prop where
 ok:X.Ok
 os:s.os=X.s₀.os
 bare:AllBare s.gens
 base:Un X.fs X.ex X.H₀ H X.s₀.heap s.heap
 loc:∃ m,s.heap.Ns X.env.locals m∧∀ (i:Nat) (x:Str) (v:V),X.N[i]?=some x→σ[i]?=some (some v)→Vis X.env.scope x→∃ u,RelV v u∧Look X.env s.heap m x u
 cell:∀ x c,X.env.cells.lookup x=some c→∃ v,s.heap.IsCell c v
 free:H X.env.locals=none
 freeC:∀ x c,X.env.cells.lookup x=some c→H c=none
 pin:∀ p∈X.pn++pins,s.heap.get? p.1=some p.2∧H p.1=none∧p.1≠X.env.locals∧p.1∉X.fs∧∀ v,p.2.data≠.cell v
 hok:HOk X.prog X.w H s.heap
 len:σ.length=X.N.length
section
variable {X:Cx} {pins:List (Addr × Obj)} {σ:List (Option V)} {H H':Hp} {s:Shared} {h':Heap}
theorem Cx.Ok.nofr (ok:X.Ok) {b:Addr} {o:Obj} (e:X.base.get? b=some o):b∉X.fs:=fun hb=>by
 have:=(ok.funs.mem hb).1
 rw [e] at this;cases this
theorem Inv.bs (I:Inv X pins σ H s):∀ b o,X.base.get? b=some o→s.heap.get? b=some o∧H b=none:=fun b o e =>
 ⟨I.base.keep b o (I.ok.bs b o e).1 (I.ok.bs b o e).2 (I.ok.nofr e) (I.ok.noex b o e),I.base.free b o (I.ok.bs b o e).1 (I.ok.bs b o e).2 (I.ok.noex b o e)⟩
theorem Inv.bk (I:Inv X pins σ H s):∀ b o,X.base.get? b=some o→s.heap.get? b=some o:=fun b o e=>(I.bs b o e).1
theorem Inv.mod (I:Inv X pins σ H s):Mod X.K X.mg X.base:=I.ok.mod
theorem Inv.kIn (I:Inv X pins σ H s):X.K.In s.heap:=I.ok.mod.kin.keeps I.bk
theorem Inv.nolimit (I:Inv X pins σ H s):s.heap.NoLimit:=I.ok.mod.nolimit.keeps I.bk
theorem Inv.lt (I:Inv X pins σ H s):X.env.locals<s.heap.objs.size:=let ⟨_,hn,_⟩:=I.loc;hn.lt
theorem Inv.sz (I:Inv X pins σ H s):X.s₀.heap.objs.size≤s.heap.objs.size:=Nat.le_trans I.ok.above (Nat.le_of_lt I.lt)
theorem Inv.nofs (I:Inv X pins σ H s) {a:Addr} (h:s.heap.objs.size≤a):a∉X.fs:=fun hb=>by
 obtain ⟨_,o,ho,_⟩:=I.ok.funs.mem hb
 exact absurd (Nat.lt_of_lt_of_le (Heap.lt_size ho) (Nat.le_trans I.sz h)) (Nat.lt_irrefl _)
theorem Inv.cne (I:Inv X pins σ H s):∀ x c,X.env.cells.lookup x=some c→c≠X.env.locals:=fun x c e z=>by
 obtain ⟨v,o,ho,hd⟩:=I.cell x c e
 obtain ⟨m,⟨o',es,ep,ho',hd',_⟩,_⟩:=I.loc
 rw [z,ho'] at ho;cases ho;rw [hd'] at hd;cases hd
theorem Inv.funs (I:Inv X pins σ H s):s.heap.FunFrames X.base X.outer:=by
 have all:∀ (l:List Env),(∀ b∈frs l,b∈X.fs)→X.s₀.heap.FunFrames X.base l→s.heap.FunFrames X.base l:=by
  intro l
  induction l with
  | nil=>intro _ _;trivial
  | cons env r ih =>
   intro hs hl
   obtain ⟨hk,⟨L,o,hf,hn,ho,hd⟩,hr⟩:=hl
   have hL:L∈X.fs:=hs L (by unfold frs;rw [List.filterMap_cons,hf];exact List.mem_cons_self)
   obtain ⟨sl,e⟩:=I.base.slot L o ho (I.ok.frf L hL) hL fun z=>I.ok.exfs L z hL
   exact ⟨hk,⟨L,_,hf,hn,e,hd⟩,ih (fun b hb=>hs b (by unfold frs;rw [List.filterMap_cons,hf];exact List.mem_cons_of_mem _ hb)) hr⟩
 exact all X.outer (fun _ hb=>hb) I.ok.funs
theorem Inv.stack (I:Inv X pins σ H s):s.heap.FunFrames X.base X.stack:=by
 rcases I.ok.stk with e | ⟨e,hf⟩
 ·rw [e];exact I.funs
 ·rw [e]
  obtain ⟨m,hn,_⟩:=I.loc
  refine .cons (by rw [I.ok.kind];decide) hf hn ?_ I.funs
  exact Heap.get?_none_of_le (Nat.le_trans I.ok.bsz I.ok.above)
theorem Inv.stkSub (I:Inv X pins σ H s):∀ b∈frs X.stack,b∈X.env.locals::X.fs:=fun b hb=>by
 rcases I.ok.stk with e | ⟨e,hf⟩
 ·rw [e] at hb;exact List.mem_cons_of_mem _ hb
 ·rw [e] at hb
  unfold frs at hb
  rw [List.filterMap_cons,hf] at hb
  exact hb
theorem Inv.stkFree (I:Inv X pins σ H s):∀ b∈frs X.stack,H b=none:=fun b hb=>by
 rcases List.mem_cons.mp (I.stkSub b hb) with e | hb
 ·rw [e];exact I.free
 ·obtain ⟨_,o,ho,_⟩:=I.ok.funs.mem hb
  exact I.base.free b o ho (I.ok.frf b hb) fun z=>I.ok.exfs b z hb
theorem Inv.step {g':Array GenState} {t':Nat} {d':Drawn} {ch:List Addr} (I:Inv X pins σ H s)
  (hch:∀ b∈ch,(b∈X.ex∨X.s₀.heap.objs.size≤b)∧b≠X.env.locals∧(∀ x c,X.env.cells.lookup x=some c→c≠b)∧∀ p∈X.pn++pins,p.1≠b)
  (keep:∀ b o,b≠X.env.locals→b∉X.fs→b∉ch→s.heap.get? b=some o→H b=none→h'.get? b=some o)
  (slot:∀ b o,b≠X.env.locals→b∈X.fs→b∉ch→s.heap.get? b=some o→H b=none→∃ sl,h'.get? b=some { o with slots:=sl }) (free:∀ b o,b∉ch→s.heap.get? b=some o→H b=none→H' b=none)
  (there:∀ b o,b∉ch→s.heap.get? b=some o→∃ o',h'.get? b=some o')
  (tups:∀ b xs,H b=some (.tup xs)→H' b=some (.tup xs)) (frzs:∀ b o u,H b=some (.frz o u)→H' b=some (.frz o u)) (tbls:∀ b ps,H b=some (.tbl ps)→∃ more,H' b=some (.tbl (ps++more)))
  (ns:∀ m,s.heap.Ns X.env.locals m→h'.Ns X.env.locals m) (hok:HOk X.prog X.w H' h') (hg:AllBare g') :
  Inv X pins σ H' { s with heap:=h',gens:=g',drawn:=d',toks:=t' }:=by
 have neL:∀ b o,X.s₀.heap.get? b=some o→b≠X.env.locals:=fun b o e=>Nat.ne_of_lt (Nat.lt_of_lt_of_le (Heap.lt_size e) I.ok.above)
 have neC:∀ b o,X.s₀.heap.get? b=some o→b∉X.ex→b∉ch:=fun b o e hx hb=>by
  rcases (hch b hb).1 with z | z
  ·exact hx z
  ·exact absurd (Nat.lt_of_lt_of_le (Heap.lt_size e) z) (Nat.lt_irrefl _)
 have cellK:∀ x c,X.env.cells.lookup x=some c→∀ v,s.heap.IsCell c v→h'.IsCell c v:=fun x c e v ⟨o,ho,hd⟩=>by
  have nch:c∉ch:=fun z=>(hch c z).2.2.1 x c e rfl
  by_cases hc:c∈X.fs
  ·obtain ⟨sl,q⟩:=slot c o (I.cne x c e) hc nch ho (I.freeC x c e)
   exact ⟨_,q,hd⟩
  ·exact ⟨o,keep c o (I.cne x c e) hc nch ho (I.freeC x c e),hd⟩
 refine ⟨I.ok,I.os,hg,⟨fun b o e n hb hx=>?_,fun b o e n hb hx=>?_,fun b o e n hx=>?_,fun b o e hx=>?_,fun b xs e=>tups b xs (I.base.tups b xs e),fun b o xs e=>frzs b o xs (I.base.frzs b o xs e),fun b ps e=>?_⟩,?_,fun x c e=>?_,?_,fun x c e=>?_,fun p hp=>?_,hok,I.len⟩
 ·exact keep b o (neL b o e) hb (neC b o e hx) (I.base.keep b o e n hb hx) (I.base.free b o e n hx)
 ·obtain ⟨sl,e1⟩:=I.base.slot b o e n hb hx
  obtain ⟨sl',e2⟩:=slot b _ (neL b o e) hb (neC b o e hx) e1 (I.base.free b o e n hx)
  exact ⟨sl',e2⟩
 ·obtain ⟨o',e1⟩:=I.base.there b o e hx
  exact free b o' (neC b o e hx) e1 (I.base.free b o e n hx)
 ·obtain ⟨o',e1⟩:=I.base.there b o e hx
  exact there b o' (neC b o e hx) e1
 ·obtain ⟨m1,e1⟩:=I.base.tbls b ps e
  obtain ⟨m2,e2⟩:=tbls b _ e1
  exact ⟨m1++m2,by rw [e2,Array.append_assoc]⟩
 ·obtain ⟨m,hn,hl⟩:=I.loc
  refine ⟨m,ns m hn,fun i x v e1 e2 e3=>?_⟩
  obtain ⟨u,r,l⟩:=hl i x v e1 e2 e3
  refine ⟨u,r,?_⟩
  rcases l with l | ⟨k,c,e,z⟩
  ·exact .inl l
  ·exact .inr ⟨k,c,e,cellK x c e _ z⟩
 ·obtain ⟨v,z⟩:=I.cell x c e
  exact ⟨v,cellK x c e v z⟩
 ·obtain ⟨m,⟨o,_,_,ho,_⟩,_⟩:=I.loc
  exact free _ o (fun z=>(hch _ z).2.1 rfl) ho I.free
 ·obtain ⟨v,o,ho,hd⟩:=I.cell x c e
  exact free c o (fun z=>(hch c z).2.2.1 x c e rfl) ho (I.freeC x c e)
 ·obtain ⟨e,n,ne,nf,d⟩:=I.pin p hp
  have nch:p.1∉ch:=fun z=>(hch p.1 z).2.2.2 p hp rfl
  exact ⟨keep p.1 p.2 ne nf nch e n,free p.1 p.2 nch e n,ne,nf,d⟩
theorem Inv.un {t':Nat} (I:Inv X pins σ H s) (u:Un X.fs [] H H' s.heap h') (hok:HOk X.prog X.w H' h'):Inv X pins σ H' { s with heap:=h',toks:=t' }:=by
 obtain ⟨m,⟨o,es,ep,ho,r⟩,_⟩:=id I.loc
 obtain ⟨sl,hL⟩:=u.any ho I.free (by simp)
 exact I.step (g':=s.gens) (d':=s.drawn) (ch:=[]) (fun _ z=>nomatch z) (fun b o _ hb _ e n=>u.keep b o e n hb (by simp)) (fun b o _ hb _ e n=>u.slot b o e n hb (by simp)) (fun b o _ e n=>u.free b o e n (by simp)) (fun b o _ e=>u.there b o e (by simp)) u.tups u.frzs u.tbls (fun m' hm=>by
  obtain ⟨o',es',ep',ho',r'⟩:=hm
  rw [ho] at ho';cases ho'
  exact ⟨_,es',ep',hL,r'⟩) hok I.bare
theorem Inv.call {g':Array GenState} {t':Nat} {d':Drawn} {ch:List Addr} (I:Inv X pins σ H s) (u:Un (frs X.stack) ch H H' s.heap h') (hok:HOk X.prog X.w H' h') (hg:AllBare g')
  (hch:∀ b∈ch,(b∈X.ex∨X.s₀.heap.objs.size≤b)∧b≠X.env.locals∧(∀ x c,X.env.cells.lookup x=some c→c≠b)∧∀ p∈X.pn++pins,p.1≠b) :
  Inv X pins σ H' { s with heap:=h',gens:=g',drawn:=d',toks:=t' }:=by
 obtain ⟨m,⟨o,es,ep,ho,r⟩,_⟩:=id I.loc
 obtain ⟨sl,hL⟩:=u.any ho I.free fun z=>(hch _ z).2.1 rfl
 exact I.step (ch:=ch) hch (fun b o hL hb hc e n=>u.keep b o e n (fun z=>(List.mem_cons.mp (I.stkSub b z)).elim hL hb) hc) (fun b o _ _ hc e n=>u.any e n hc) (fun b o hc e n=>u.free b o e n hc) (fun b o hc e=>u.there b o e hc) u.tups u.frzs u.tbls (fun m' hm=>by
  obtain ⟨o',es',ep',ho',r'⟩:=hm
  rw [ho] at ho';cases ho'
  exact ⟨_,es',ep',hL,r'⟩) hok hg
theorem Inv.turned {t':Nat} {it:Addr} (I:Inv X pins σ H s) (k:∀ b o,b≠it→s.heap.get? b=some o→h'.get? b=some o) (hn:H it=none) (hL:it≠X.env.locals)
  (h1:it∈X.ex∨X.s₀.heap.objs.size≤it) (h2:∀ x c,X.env.cells.lookup x=some c→c≠it) (h3:∀ p∈X.pn++pins,p.1≠it):Inv X pins σ H { s with heap:=h',toks:=t' }:=by
 have nit:∀ b u,H b=some u→b≠it:=fun b u e z=>by rw [z,hn] at e;cases e
 refine I.step (g':=s.gens) (d':=s.drawn) (ch:=[it]) (fun b hb=>?_) (fun b o _ _ hc e _=>k b o (fun z=>hc (by simp [z])) e) (fun b o _ _ hc e _=>⟨o.slots,k b o (fun z=>hc (by simp [z])) e⟩) (fun _ _ _ _ n=>n)
  (fun b o hc e=>⟨o,k b o (fun z=>hc (by simp [z])) e⟩) (fun _ _ e=>e) (fun _ _ _ e=>e) (fun b ps e=>⟨#[],by rw [e];simp⟩) (fun m hm=>?_) (fun b u e=>?_) I.bare
 ·have e:b=it:=by simpa using hb
  subst e
  exact ⟨h1,hL,h2,h3⟩
 ·obtain ⟨o,es,ep,ho,r⟩:=hm
  exact ⟨o,es,ep,k _ o (Ne.symm hL) ho,r⟩
 ·refine (I.hok b u e).stay (fun c v hc q=>k c v ?_ q) (fun _ q=>q) fun _ _ q=>q
  rcases hc with z | z
  ·rw [z];exact nit b u e
  ·exact nit c _ z
theorem Inv.tok (I:Inv X pins σ H s) (t:Nat):Inv X pins σ H { s with toks:=t }:=I.un (h':=s.heap) (t':=t) Un.refl I.hok
theorem Inv.kept {t':Nat} (I:Inv X pins σ H s) (k:∀ b u,s.heap.get? b=some u→h'.get? b=some u):Inv X pins σ H { s with heap:=h',toks:=t' }:=I.un (Un.kept k) (I.hok.kept k)
theorem Inv.laid {a:Addr} {o:HO} {t':Nat} (I:Inv X pins σ H s) (k:∀ b u,s.heap.get? b=some u→h'.get? b=some u) (hp:s.heap.objs.size≤a) (new:ObjOk X.prog X.w (upd H a o) h' a o) :
  Inv X pins σ (upd H a o) { s with heap:=h',toks:=t' }:=I.un (Un.laid k hp (I.hok.fresh hp)) (I.hok.laid k hp new)
theorem Inv.write {x e:Addr} {o:HO} {t':Nat} (I:Inv X pins σ H s) (mu:Mut (H x)) (he:e=x∨H e=some (.own x)) (k:∀ b u,b≠e→s.heap.get? b=some u→h'.get? b=some u) (heo:∃ u,h'.get? e=some u)
  (new:ObjOk X.prog X.w (upd H x o) h' x o):Inv X pins σ (upd H x o) { s with heap:=h',toks:=t' }:=I.un (Un.write mu he k heo) (I.hok.write mu he k heo new)
theorem Inv.weak {σ':List (Option V)} (I:Inv X pins σ H s) (hl:σ'.length=σ.length) (w:∀ (i:Nat) v,σ'[i]?=some (some v)→σ[i]?=some (some v)):Inv X pins σ' H s :=
 ⟨I.ok,I.os,I.bare,I.base,let ⟨m,hn,hl'⟩:=I.loc;⟨m,hn,fun i x v e1 e2 e3=>hl' i x v e1 (w i v e2) e3⟩,I.cell,I.free,I.freeC,I.pin,I.hok,hl.trans I.len⟩
theorem Inv.pins_of {pins':List (Addr × Obj)} (I:Inv X pins σ H s) (h:∀ p∈pins',s.heap.get? p.1=some p.2∧H p.1=none∧p.1≠X.env.locals∧p.1∉X.fs∧∀ v,p.2.data≠.cell v):Inv X pins' σ H s :=
 ⟨I.ok,I.os,I.bare,I.base,I.loc,I.cell,I.free,I.freeC,fun p hp=>(List.mem_append.mp hp).elim (fun z=>I.pin p (List.mem_append_left _ z)) (h p),I.hok,I.len⟩
theorem lW {N:List Str} (hN:N.Nodup) {i j:Nat} {x:Str} (a:N[i]?=some x) (b:N[j]?=some x):i=j:=by
 obtain ⟨h1,e1⟩:=List.getElem?_eq_some_iff.mp a
 obtain ⟨h2,e2⟩:=List.getElem?_eq_some_iff.mp b
 exact (List.getElem_inj hN).mp (e1.trans e2.symm)
theorem qBY {M:Model} {A:Around} {E:Value→Shared→Prop} {i:Nat} {x:Str} {v:V} {u:Value} {Q:Unit→Shared→Prop} (I:Inv X pins σ H s) (hN:X.N.Nodup) (hi:X.N[i]?=some x) (hx:Loc X.env.scope x) (r:RelV v u)
  (h:∀ s',Inv X pins (σ.set i (some v)) H s'→(∃ a,Heap.SameBut a s.heap s'.heap∧(a=X.env.locals∨X.env.cells.lookup x=some a))→Q () s') (hf:X.fn x=true∨X.env.scope.names.lookup x=some .local:=by first | exact .inl rfl | exact .inr rfl | assumption):wpAny M A (storeName X.env x u) Q E s:=by
 obtain ⟨m,hn,hl⟩:=id I.loc
 have hcls:(X.env.scope.kind == .class || (X.env.scope.kind == .module&&X.env.locals != X.env.globals))=false:=by rw [I.ok.kind];rfl
 have hiσ:i<σ.length:=by rw [I.len];exact (List.getElem?_eq_some_iff.mp hi).1
 have cne:=I.cne
 have tracked:∀ {a:Addr} {h':Heap},(∃ o,s.heap.get? a=some o∧H a=none)→Heap.SameBut a s.heap h'→HOk X.prog X.w H h':=fun {a h'} ha hs b ob e=>by
  obtain ⟨_,_,hfree⟩:=ha
  refine (I.hok b ob e).stay (fun c w' hc q=>(hs.2 c ?_).trans q) (fun _ q=>q) fun _ _ q=>q
  rintro rfl
  rcases hc with rfl | hc
  ·rw [hfree] at e;cases e
  ·rw [hfree] at hc;cases hc
 rcases hx with hk | hk
 ·refine wpAny_storeName_local hk hn (fun h' hn' hs=>?_) hcls
  obtain ⟨oL,_,_,hoL,_⟩:=id hn
  refine h _ ⟨I.ok,I.os,I.bare,⟨fun b o e n hb hx=>?_,fun b o e n hb hx=>?_,I.base.free,fun b o e hx=>?_,I.base.tups,I.base.frzs,I.base.tbls⟩,⟨_,hn',fun j y v' e1 e2 e3=>?_⟩,fun y c e=>?_,I.free,I.freeC,fun p hp=>?_,tracked ⟨oL,hoL,I.free⟩ hs,by simpa using I.len⟩ ⟨_,hs,.inl rfl⟩
  ·exact (hs.2 b (Nat.ne_of_lt (Nat.lt_of_lt_of_le (Heap.lt_size e) I.ok.above))).trans (I.base.keep b o e n hb hx)
  ·obtain ⟨sl,e1⟩:=I.base.slot b o e n hb hx
   exact ⟨sl,(hs.2 b (Nat.ne_of_lt (Nat.lt_of_lt_of_le (Heap.lt_size e) I.ok.above))).trans e1⟩
  ·obtain ⟨o',e1⟩:=I.base.there b o e hx
   exact ⟨o',(hs.2 b (Nat.ne_of_lt (Nat.lt_of_lt_of_le (Heap.lt_size e) I.ok.above))).trans e1⟩
  ·by_cases hj:j=i
   ·subst hj
    rw [hi] at e1;cases e1
    rw [List.getElem?_set_self hiσ] at e2
    cases e2
    exact ⟨u,r,.inl ⟨hk,by simp⟩⟩
   ·rw [List.getElem?_set_ne (Ne.symm hj)] at e2
    obtain ⟨u',r',q⟩:=hl j y v' e1 e2 e3
    refine ⟨u',r',?_⟩
    rcases q with ⟨k,e⟩ | ⟨k,c,e,z⟩
    ·refine .inl ⟨k,?_⟩
     have:y≠x:=fun e=>hj (lW hN e1 (e ▸ hi))
     simp [this,e]
    ·exact .inr ⟨k,c,e,z.sameBut hs (cne y c e)⟩
  ·obtain ⟨w',z⟩:=I.cell y c e
   exact ⟨w',z.sameBut hs (cne y c e)⟩
  ·obtain ⟨e,n,ne,nf,d⟩:=I.pin p hp
   exact ⟨(hs.2 p.1 ne).trans e,n,ne,nf,d⟩
 ·have hfn:X.fn x=true:=by
   rcases hf with z | z
   ·exact z
   ·rw [z] at hk;cases hk
  obtain ⟨c,hc⟩:=I.ok.has x (.inl hk)
  obtain ⟨w',z⟩:=I.cell x c hc
  refine wpAny_storeName_cell I.ok.kind hk hc z (fun h' hc' hs=>?_)
  obtain ⟨oc,hoc,hocd⟩:=id z
  refine h { s with heap:=h' } ⟨I.ok,I.os,I.bare,⟨fun b o e n hb hx=>?_,fun b o e n hb hx=>?_,I.base.free,fun b o e hx=>?_,I.base.tups,I.base.frzs,I.base.tbls⟩,⟨m,hn.sameBut hs (Ne.symm (cne x c hc)),fun j y v' e1 e2 e3=>?_⟩,fun y c' e=>?_,I.free,I.freeC,fun p hp=>?_,tracked ⟨oc,hoc,I.freeC x c hc⟩ hs,by simpa using I.len⟩ ⟨c,hs,.inr hc⟩
  ·exact (hs.2 b (Nat.ne_of_lt (Nat.lt_of_lt_of_le (Heap.lt_size e) (I.ok.cab x c hfn hc)))).trans (I.base.keep b o e n hb hx)
  ·obtain ⟨sl,e1⟩:=I.base.slot b o e n hb hx
   exact ⟨sl,(hs.2 b (Nat.ne_of_lt (Nat.lt_of_lt_of_le (Heap.lt_size e) (I.ok.cab x c hfn hc)))).trans e1⟩
  ·obtain ⟨o',e1⟩:=I.base.there b o e hx
   exact ⟨o',(hs.2 b (Nat.ne_of_lt (Nat.lt_of_lt_of_le (Heap.lt_size e) (I.ok.cab x c hfn hc)))).trans e1⟩
  ·by_cases hj:j=i
   ·subst hj
    rw [hi] at e1;cases e1
    rw [List.getElem?_set_self hiσ] at e2
    cases e2
    exact ⟨u,r,.inr ⟨.inl hk,c,hc,hc'⟩⟩
   ·rw [List.getElem?_set_ne (Ne.symm hj)] at e2
    obtain ⟨u',r',q⟩:=hl j y v' e1 e2 e3
    refine ⟨u',r',?_⟩
    rcases q with q | ⟨k,c',e,z'⟩
    ·exact .inl q
    ·refine .inr ⟨k,c',e,z'.sameBut hs ?_⟩
     rintro rfl
     exact hj (lW hN e1 (I.ok.inj _ _ _ e hc ▸ hi))
  ·by_cases hcc:c'=c
   ·subst hcc;exact ⟨_,hc'⟩
   ·obtain ⟨w2,z2⟩:=I.cell y c' e
    exact ⟨w2,z2.sameBut hs hcc⟩
  ·obtain ⟨e,n,ne,nf,d⟩:=I.pin p hp
   refine ⟨(hs.2 p.1 ?_).trans e,n,ne,nf,d⟩
   intro q
   rw [q,hoc] at e
   have q':oc=p.2:=Option.some.inj e
   exact d w' (by rw [← q'];exact hocd)
theorem store_ok {M:Model} {A:Around} {E:Value→Shared→Prop} {i:Nat} {x:Str} {v:V} {u:Value} {Q:Unit→Shared→Prop} (I:Inv X pins σ H s) (hN:X.N.Nodup) (hi:X.N[i]?=some x) (hx:Loc X.env.scope x) (r:RelV v u)
  (h:∀ s',Inv X pins (σ.set i (some v)) H s'→Q () s') (hf:X.fn x=true∨X.env.scope.names.lookup x=some .local:=by first | exact .inl rfl | exact .inr rfl | assumption):wpAny M A (storeName X.env x u) Q E s :=
 qBY I hN hi hx r (fun s' I' _=>h s' I') hf
theorem Inv.call' {s':Shared} {ch:List Addr} (I:Inv X pins σ H s) (ho:s'.os=s.os) (u:Un (frs X.stack) ch H H' s.heap s'.heap) (hok:HOk X.prog X.w H' s'.heap) (hg:AllBare s'.gens)
  (hch:∀ b∈ch,(b∈X.ex∨X.s₀.heap.objs.size≤b)∧b≠X.env.locals∧(∀ x c,X.env.cells.lookup x=some c→c≠b)∧∀ p∈X.pn++pins,p.1≠b):Inv X pins σ H' s':=by
 obtain ⟨h',g',d',t',o'⟩:=s'
 have e:o'=s.os:=ho
 subst e
 exact I.call (g':=g') (t':=t') (d':=d') u hok hg hch
end
noncomputable abbrev XK:=Value→Option Addr→Hp→Prop
noncomputable abbrev St:=List (Option V)
noncomputable abbrev VK:=V→Hp→Prop
noncomputable abbrev TE:=St→Hp→VK→Prop
noncomputable abbrev TT:=St→Hp→(Bool→Hp→Prop)→Prop
noncomputable abbrev TA:=St→Hp→(List V→Hp→Prop)→Prop
structure Ends where
 nx:St→Hp→Prop
 rt:VK
 bk:St→Hp→Prop:=fun _ _=>False
 ct:St→Hp→Prop:=fun _ _=>False
noncomputable abbrev TS:=Ends→St→Hp→Prop
noncomputable def EP (X:Cx) (pins:List (Addr × Obj)) (σ:St) (Q:VK) (u:Value) (s':Shared):Prop:=∃ v H',Inv X pins σ H' s'∧RelV v u∧Q v H'
noncomputable def TP (X:Cx) (pins:List (Addr × Obj)) (σ:St) (Q:Bool→Hp→Prop) (b:Bool) (s':Shared):Prop:=∃ H',Inv X pins σ H' s'∧Q b H'
noncomputable def AP (X:Cx) (pins:List (Addr × Obj)) (σ:St) (Q:List V→Hp→Prop) (us:List Value) (s':Shared):Prop:=∃ vs H',Inv X pins σ H' s'∧Vals vs us∧Q vs H'
noncomputable def SP (X:Cx) (pins:List (Addr × Obj)) (D:Ends) (f:Flow) (s':Shared):Prop :=
 match f with
 | .next=>∃ σ' H',Inv X pins σ' H' s'∧D.nx σ' H'
 | .brk=>∃ σ' H',Inv X pins σ' H' s'∧D.bk σ' H'
 | .cont=>∃ σ' H',Inv X pins σ' H' s'∧D.ct σ' H'
 | .ret u=>∃ v σ' H',Inv X pins σ' H' s'∧RelV v u∧D.rt v H'
noncomputable def PE (X:Cx) (e:Expr) (t:TE):Prop :=
 ∀ (pins:List (Addr × Obj)) (s:Shared) (σ:St) (H:Hp) (Q:VK),Inv X pins σ H s→t σ H Q→wpAny (model X.prog X.w) X.A (eval e X.env) (EP X pins σ Q) X.xe s
noncomputable def PT (X:Cx) (e:Expr) (t:TT):Prop :=
 ∀ (pins:List (Addr × Obj)) (s:Shared) (σ:St) (H:Hp) (Q:Bool→Hp→Prop),Inv X pins σ H s→t σ H Q→wpAny (model X.prog X.w) X.A (isTrue e X.env (eval e X.env)) (TP X pins σ Q) X.xe s
noncomputable def PW (X:Cx) (e:Expr) (t:TT):Prop :=
 ∀ (whole:Sem Value) (pins:List (Addr × Obj)) (s:Shared) (σ:St) (H:Hp) (Q:Bool→Hp→Prop),Inv X pins σ H s→t σ H Q→wpAny (model X.prog X.w) X.A (isTrue e X.env whole) (TP X pins σ Q) X.xe s
theorem PW.pt {X:Cx} {e:Expr} {t:TT} (h:PW X e t):PT X e t:=h _
noncomputable def PA (X:Cx) (es:List Expr) (t:TA):Prop :=
 ∀ (pos:Pos) (pins:List (Addr × Obj)) (s:Shared) (σ:St) (H:Hp) (Q:List V→Hp→Prop),Inv X pins σ H s→t σ H Q→wpAny (model X.prog X.w) X.A (spliced (backTo pos (starEach es X.env))) (AP X pins σ Q) X.xe s
noncomputable def PS (X:Cx) (st:Stmt) (t:TS):Prop :=
 ∀ (pins:List (Addr × Obj)) (s:Shared) (σ:St) (H:Hp) (D:Ends),Inv X pins σ H s→t D σ H→wpAny (model X.prog X.w) X.A (exec st X.env) (SP X pins D) X.xe s
noncomputable def PSs (X:Cx) (st:List Stmt) (t:TS):Prop :=
 ∀ (pins:List (Addr × Obj)) (s:Shared) (σ:St) (H:Hp) (D:Ends),Inv X pins σ H s→t D σ H→wpAny (model X.prog X.w) X.A (execs st X.env) (SP X pins D) X.xe s
theorem thn {α:Type} {t:Sem α} {Q Q':α→Shared→Prop} {M:Model} {A:Around} {E:Value→Shared→Prop} {s:Shared} (h:wpAny M A t Q E s) (hQ:∀ a s,Q a s→Q' a s):wpAny M A t Q' E s:=wpAny_mono h hQ fun _ _ x=>x
end L2
namespace L2
open PySem PySem.Spec PyProof.Rows
section
variable {X:Cx}
noncomputable def tVar (i:Nat):TE:=fun σ H Q=>∃ v,σ[i]?=some (some v)∧Q v H
noncomputable def tC (v:V):TE:=fun _ H Q=>Q v H
theorem pe_var {i:Nat} {x:Str} {pos:Pos} (hN:X.N[i]?=some x) (hv:Vis X.env.scope x) (hd:(x == ("__debug__":Str))=false:=by decide) (hcd:(x == ("__classdict__":Str))=false:=by decide):PE X (.Name x pos) (tVar i):=by
 intro pins s σ H Q I h
 obtain ⟨v,e,h⟩:=h
 obtain ⟨m,hn,hl⟩:=I.loc
 obtain ⟨u,r,l⟩:=hl i x v hN e hv
 have fin:EP X pins σ Q u s:=⟨v,H,I,r,h⟩
 rcases l with ⟨hk,hm⟩ | ⟨hk,c,hc,hcell⟩
 ·exact wpAny_Name (wpAny_loadName_local I.ok.kind hk hn hm fin) hd
 ·rcases hk with hk | hk
  ·exact wpAny_Name (wpAny_loadName_cell I.ok.kind hk hc hcell fin) hd
  ·exact wpAny_Name (wpAny_loadName_free I.ok.kind hk hc hcell fin hcd) hd
theorem pe_int {i j pos}:PE X (.Constant (.int i) j pos) (tC (.int i)):=fun _ _ _ H _ I h=>wpAny_Constant_int ⟨.int i,H,I.tok _,⟨_,rfl⟩,h⟩
theorem pe_bl {b j pos}:PE X (.Constant (.bool b) j pos) (tC (.bl b)):=fun _ _ _ H _ I h=>Constant_bool ⟨.bl b,H,I,rfl,h⟩
theorem pe_non {j pos}:PE X (.Constant .none j pos) (tC .non):=fun _ _ _ H _ I h=>Constant_none ⟨.non,H,I,rfl,h⟩
theorem pe_str {x j pos}:PE X (.Constant (.str x) j pos) (tC (.str x)):=fun _ _ _ H _ I h=>Calls.Constant_str ⟨.str x,H,I.tok _,⟨_,rfl⟩,h⟩
noncomputable def Gl (X:Cx) (x:Str):Prop:=X.env.kindOf x=some .globalImplicit
theorem ld_glob {E:Value→Shared→Prop} {pins:List (Addr × Obj)} {s:Shared} {σ:St} {H:Hp} {x:Str} {u:Value} {pos:Pos} {Q:Value→Shared→Prop} (I:Inv X pins σ H s) (hg:Gl X x) (hm:X.mg x=some u) (h:Q u s)
  (hd:(x == ("__debug__":Str))=false:=by decide):wpAny (model X.prog X.w) X.A (eval (.Name x pos) X.env) Q E s :=
 Calls.Name_function_global I.ok.kind hg (Calls.loadGlobal_global (by rw [I.ok.glob];exact I.mod.glob.keeps I.bk) hm h) hd
theorem yA {E:Value→Shared→Prop} {pins:List (Addr × Obj)} {s:Shared} {σ:St} {H:Hp} {x:Str} {u:Value} {pos:Pos} {Q:Value→Shared→Prop} (I:Inv X pins σ H s) (hg:Gl X x) (hm:X.mg x=none) (hv:bootBuiltins x=some u) (h:Q u s)
  (hn:x≠"__name__":=by decide) (hd:(x == ("__debug__":Str))=false:=by decide):wpAny (model X.prog X.w) X.A (eval (.Name x pos) X.env) Q E s:=by
 obtain ⟨mb,h1,h2⟩:=I.mod.blt
 exact Calls.Name_function_global I.ok.kind hg (Calls.loadGlobal_builtin (by rw [I.ok.glob];exact I.mod.glob.keeps I.bk) hm (by rw [I.ok.blt];exact h1.keeps I.bk) ((h2 x hn).trans hv) h) hd
theorem pe_glob {x:Str} {v:V} {u:Value} {pos:Pos} (hg:Gl X x) (hm:X.mg x=some u) (r:RelV v u) (hd:(x == ("__debug__":Str))=false:=by decide):PE X (.Name x pos) (tC v) :=
 fun _ _ _ H _ I h=>ld_glob I hg hm ⟨v,H,I,r,h⟩ hd
theorem pe_bltn {x:Str} {v:V} {u:Value} {pos:Pos} (hg:Gl X x) (hm:X.mg x=none) (hv:bootBuiltins x=some u) (r:RelV v u) (hn:x≠"__name__":=by decide) (hd:(x == ("__debug__":Str))=false:=by decide):PE X (.Name x pos) (tC v) :=
 fun _ _ _ H _ I h=>yA I hg hm hv ⟨v,H,I,r,h⟩ hn hd
variable {a b:Expr} {ta tb:TE} {pos:Pos}
noncomputable def PC (X:Cx) (op:CmpOp) (a b:Expr) (t:TE):Prop :=
 ∀ (pins:List (Addr × Obj)) (s:Shared) (σ:St) (H:Hp) (Q:VK),Inv X pins σ H s→t σ H Q →
  wpAny (model X.prog X.w) X.A (eval a X.env) (fun v s₁=>wpAny (model X.prog X.w) X.A (eval b X.env) (fun u s₂=>wpAny (model X.prog X.w) X.A (compareOp op v u) (EP X pins σ Q) X.xe s₂) X.xe s₁) X.xe s
theorem lY (b:Expr) {op:CmpOp} (h:op≠.In) (h2:op≠.NotIn):behindInMarks op b=false:=by
 have e1:(op == CmpOp.In)=false:=by cases op <;> first | rfl | exact absurd rfl h
 have e2:(op == CmpOp.NotIn)=false:=by cases op <;> first | rfl | exact absurd rfl h2
 cases b <;> simp [behindInMarks,e1,e2]
noncomputable def tIsN (ta:TE):TE:=fun σ H Q=>ta σ H fun x H1=>Q (.bl (decide (x=.non))) H1
noncomputable def tNotN (ta:TE):TE:=fun σ H Q=>ta σ H fun x H1=>Q (.bl (!decide (x=.non))) H1
theorem RelV.none_iff {x:V} {v:Value} (r:RelV x v):(v == Value.none)=decide (x=.non):=by
 cases x with
 | non=>cases r;rfl
 | bl _=>cases r;rfl
 | int _=>obtain ⟨t,rfl⟩:=r;rfl
 | str _=>obtain ⟨t,rfl⟩:=r;rfl
 | byt _=>obtain ⟨t,rfl⟩:=r;rfl
 | flt _=>obtain ⟨t,rfl⟩:=r;rfl
 | ref _=>cases r;rfl
 | ty _=>cases r;rfl
theorem pc_isN {j pos'} (ha:PE X a ta):PC X .Is a (.Constant .none j pos') (tIsN ta):=by
 intro pins s σ H Q I h
 refine thn (ha pins s σ H _ I h) fun v s1 ⟨x,H1,I1,r1,q1⟩=>?_
 exact Constant_none (is_none_gen ⟨.bl _,H1,I1,by rw [r1.none_iff];rfl,q1⟩)
theorem pc_notN {j pos'} (ha:PE X a ta):PC X .IsNot a (.Constant .none j pos') (tNotN ta):=by
 intro pins s σ H Q I h
 refine thn (ha pins s σ H _ I h) fun v s1 ⟨x,H1,I1,r1,q1⟩=>?_
 exact Constant_none (isnot_none_gen ⟨.bl _,H1,I1,by rw [r1.none_iff];rfl,q1⟩)
noncomputable def tB (t:TE):TT:=fun σ H Q=>t σ H fun x H1=>∃ c,x=.bl c∧Q c H1
theorem pe_cmp {op:CmpOp} {t:TE} (h:PC X op a b t) (h1:behindInMarks op b=false:=by first | exact lY _ (by decide) (by decide) | rfl):PE X (.Compare a [op] [b] pos) t:=fun pins s σ H Q I hw=>wpAny_Compare1 (h pins s σ H Q I hw) h1
theorem pt_cmp {op:CmpOp} {t:TE} (h:PC X op a b t) (h1:behindInMarks op b=false:=by first | exact lY _ (by decide) (by decide) | rfl):PT X (.Compare a [op] [b] pos) (tB t):=by
 intro pins s σ H Q I hw
 refine wpAny_isTrue_Compare1 (thn (h pins s σ H _ I hw) fun v s1 h1=>thn h1 fun u s2 h2=>thn h2 fun c s3 ⟨x,H1,I1,r1,q1⟩=>?_) h1
 obtain ⟨d,rfl,q⟩:=q1
 cases r1
 exact wpAny_truthy_bool ⟨H1,I1,q⟩
variable {tA tB':TT} {qE:List Expr}
noncomputable def qBU (t u:TT):TT:=fun σ H Q=>t σ H fun c H1=>if c=true then u σ H1 Q else Q false H1
noncomputable def tOr (t u:TT):TT:=fun σ H Q=>t σ H fun c H1=>if c=true then Q true H1 else u σ H1 Q
noncomputable def qBI (t:TT):TT:=fun σ H Q=>t σ H fun c H1=>Q (!c) H1
theorem pw_and1 (ha:PT X a tA):PW X (.BoolOp .And [a] pos) tA:=by
 intro wh pins s σ H Q I h
 refine isTrue_and (thn (ha pins s σ H Q I h) fun c s1 e=>?_)
 cases c with
 | true=>exact isTrue_and_nil e
 | false=>exact e
theorem pw_or1 (ha:PT X a tA):PW X (.BoolOp .Or [a] pos) tA:=by
 intro wh pins s σ H Q I h
 refine isTrue_or (thn (ha pins s σ H Q I h) fun c s1 e=>?_)
 cases c with
 | false=>exact isTrue_or_nil e
 | true=>exact e
theorem pw_and (ha:PT X a tA) (hb:PW X (.BoolOp .And (b::qE) pos) tB'):PW X (.BoolOp .And (a::b::qE) pos) (qBU tA tB'):=by
 intro wh pins s σ H Q I h
 refine isTrue_and (thn (ha pins s σ H _ I h) fun c s1 ⟨H1,I1,q1⟩=>?_)
 cases c with
 | true=>exact hb wh pins s1 σ H1 Q I1 q1
 | false=>exact ⟨H1,I1,q1⟩
theorem pw_or (ha:PT X a tA) (hb:PW X (.BoolOp .Or (b::qE) pos) tB'):PW X (.BoolOp .Or (a::b::qE) pos) (tOr tA tB'):=by
 intro wh pins s σ H Q I h
 refine isTrue_or (thn (ha pins s σ H _ I h) fun c s1 ⟨H1,I1,q1⟩=>?_)
 cases c with
 | true=>exact ⟨H1,I1,q1⟩
 | false=>exact hb wh pins s1 σ H1 Q I1 q1
theorem pt_not (ha:PT X a tA):PT X (.UnaryOp .Not a pos) (qBI tA):=by
 intro pins s σ H Q I h
 exact isTrue_not (ha pins s σ H (fun c H1=>Q (!c) H1) I h)
noncomputable def qBT (ta tb:TE):TE:=fun σ H Q=>ta σ H fun x H1=>∃ c,x=.bl c∧if c=true then tb σ H1 Q else Q (.bl false) H1
noncomputable def qBG (ta tb:TE):TE:=fun σ H Q=>ta σ H fun x H1=>∃ c,x=.bl c∧if c=true then Q (.bl true) H1 else tb σ H1 Q
theorem pe_one {op} {t:TE} (h:PE X a t):PE X (.BoolOp op [a] pos) t:=fun pins s σ H Q I hw=>BoolOp_one (h pins s σ H Q I hw)
theorem pe_and (ha:PE X a ta) (hb:PE X (.BoolOp .And (b::qE) pos) tb):PE X (.BoolOp .And (a::b::qE) pos) (qBT ta tb):=by
 intro pins s σ H Q I h
 refine BoolOp_and (thn (ha pins s σ H _ I h) fun v s1 ⟨x,H1,I1,r1,q1⟩=>?_)
 obtain ⟨c,rfl,q1⟩:=q1
 cases r1
 refine wpAny_truthy_bool ?_
 cases c with
 | true=>exact hb pins s1 σ H1 Q I1 q1
 | false=>exact ⟨.bl false,H1,I1,rfl,q1⟩
theorem pe_or (ha:PE X a ta) (hb:PE X (.BoolOp .Or (b::qE) pos) tb):PE X (.BoolOp .Or (a::b::qE) pos) (qBG ta tb):=by
 intro pins s σ H Q I h
 refine BoolOp_or (thn (ha pins s σ H _ I h) fun v s1 ⟨x,H1,I1,r1,q1⟩=>?_)
 obtain ⟨c,rfl,q1⟩:=q1
 cases r1
 refine wpAny_truthy_bool ?_
 cases c with
 | false=>exact hb pins s1 σ H1 Q I1 q1
 | true=>exact ⟨.bl true,H1,I1,rfl,q1⟩
end
end L2
namespace L2
open PySem PySem.Spec PyProof.Rows
noncomputable def SqL (K:PySem.W.Frag) (H:Hp) (a:Addr) (xs:List V):Prop :=
 Rd H a (.lst xs) ∨
  ∃ (o:Obj) (its:Array Value) (n:Nat),K.lookup a=some o∧o.cls=.type "list"∧o.dict=none∧o.data=.seq its n∧its.size≤sizeLine∧Vals xs its.toList
noncomputable def SqT (K:PySem.W.Frag) (H:Hp) (a:Addr) (xs:List V):Prop :=
 Rd H a (.tup xs) ∨
  ∃ (o:Obj) (its:Array Value) (n:Nat),K.lookup a=some o∧o.cls=.type "tuple"∧o.data=.seq its n∧its.size≤sizeLine∧Vals xs its.toList
noncomputable def qJY:Value→Option V
 | .none=>some .non
 | .bool b=>some (.bl b)
 | .int i _=>some (.int i)
 | .str x _=>some (.str x)
 | .bytes b _=>some (.byt b)
 | .float b _=>some (.flt b)
 | .ref a=>some (.ref a)
 | .type n=>some (.ty n)
 | _=>none
theorem RelV.abs {x:V} {u:Value} (r:RelV x u):qJY u=some x:=by
 cases x with
 | non=>cases r;rfl
 | bl _=>cases r;rfl
 | int _=>obtain ⟨t,rfl⟩:=r;rfl
 | str _=>obtain ⟨t,rfl⟩:=r;rfl
 | byt _=>obtain ⟨t,rfl⟩:=r;rfl
 | flt _=>obtain ⟨t,rfl⟩:=r;rfl
 | ref _=>cases r;rfl
 | ty _=>cases r;rfl
theorem RelV.inj {x y:V} {u:Value} (r:RelV x u) (q:RelV y u):x=y:=Option.some.inj (r.abs.symm.trans q.abs)
theorem Vals.inj:∀ {xs ys:List V} {us:List Value},Vals xs us→Vals ys us→xs=ys
 | _,_,_,.nil,.nil=>rfl
 | _,_,_,.cons r t,.cons r' t'=>by rw [r.inj r',Vals.inj t t']
section
variable {X:Cx} {pins:List (Addr × Obj)} {σ:St} {H:Hp} {s:Shared} {a:Addr} {xs ys:List V}
theorem SqL.of {K:PySem.W.Frag} (h:H a=some (.lst xs)):SqL K H a xs:=.inl (.inl h)
theorem SqT.of {K:PySem.W.Frag} (h:H a=some (.tup xs)):SqT K H a xs:=.inl (.inl h)
theorem Inv.list (I:Inv X pins σ H s) (h:SqL X.K H a xs):∃ its:List Value,Vals xs its∧PlainL s.heap a its.toArray∧xs.length≤sizeLine:=by
 rcases h with h | ⟨o,its,n,hk,hc,hd,hs,hz,r⟩
 ·obtain ⟨z,its,n,r,e⟩:=h.ok I.hok
  exact ⟨its,r,⟨_,n,e,rfl,rfl,rfl⟩,z⟩
 ·refine ⟨its.toList,r,⟨o,n,I.kIn a o hk,hc,hd,by simpa using hs⟩,?_⟩
  have e:=r.length
  simp only [Array.length_toList] at e
  omega
theorem Inv.tuple (I:Inv X pins σ H s) (h:SqT X.K H a xs):∃ its:List Value,Vals xs its∧IsTup s.heap a its.toArray∧xs.length≤sizeLine:=by
 rcases h with h | ⟨o,its,n,hk,hc,hs,hz,r⟩
 ·obtain ⟨z,its,r,p⟩:=h.ok I.hok
  exact ⟨its,r,p,z⟩
 ·refine ⟨its.toList,r,⟨o,I.kIn a o hk,hc,n,by simpa using hs⟩,?_⟩
  have e:=r.length
  simp only [Array.length_toList] at e
  omega
theorem Inv.list_inj (I:Inv X pins σ H s) (h:SqL X.K H a xs) (h':SqL X.K H a ys):xs=ys:=by
 obtain ⟨its,r,⟨o,n,e,_,_,d⟩,_⟩:=I.list h
 obtain ⟨its',r',⟨o',n',e',_,_,d'⟩,_⟩:=I.list h'
 rw [e] at e';cases e'
 rw [d] at d'
 injection d' with d1 _
 have:its=its':=by simpa using congrArg Array.toList d1
 subst this
 exact r.inj r'
theorem Inv.tuple_inj (I:Inv X pins σ H s) (h:SqT X.K H a xs) (h':SqT X.K H a ys):xs=ys:=by
 obtain ⟨its,r,⟨o,e,_,n,d⟩,_⟩:=I.tuple h
 obtain ⟨its',r',⟨o',e',_,n',d'⟩,_⟩:=I.tuple h'
 rw [e] at e';cases e'
 rw [d] at d'
 injection d' with d1 _
 have:its=its':=by simpa using congrArg Array.toList d1
 subst this
 exact r.inj r'
end
noncomputable abbrev Cx.wish (X:Cx) (E:Value→Shared→Prop):Cx:={ X with xe:=E }
noncomputable abbrev Cx.nox (X:Cx):Cx:=X.wish fun _ _=>False
theorem Cx.Ok.wish {X:Cx} (ok:X.Ok) (E:Value→Shared→Prop):(X.wish E).Ok :=
 ⟨ok.mod,ok.kind,ok.glob,ok.blt,ok.above,ok.inj,ok.has,ok.cab,ok.hd,ok.frames,ok.stk,ok.exf,ok.bs,ok.bsz,ok.noex,ok.exfs,ok.funs,ok.frf⟩
theorem Cx.Ok.unwish {X:Cx} {E:Value→Shared→Prop} (ok:(X.wish E).Ok):X.Ok :=
 ⟨ok.mod,ok.kind,ok.glob,ok.blt,ok.above,ok.inj,ok.has,ok.cab,ok.hd,ok.frames,ok.stk,ok.exf,ok.bs,ok.bsz,ok.noex,ok.exfs,ok.funs,ok.frf⟩
section
variable {X:Cx} {pins:List (Addr × Obj)} {σ:St} {H:Hp} {s:Shared} {E:Value→Shared→Prop}
theorem Inv.wish (I:Inv X pins σ H s) (E:Value→Shared→Prop):Inv (X.wish E) pins σ H s:=⟨I.ok.wish E,I.os,I.bare,I.base,I.loc,I.cell,I.free,I.freeC,I.pin,I.hok,I.len⟩
theorem Inv.unwish (I:Inv (X.wish E) pins σ H s):Inv X pins σ H s:=⟨I.ok.unwish,I.os,I.bare,I.base,I.loc,I.cell,I.free,I.freeC,I.pin,I.hok,I.len⟩
theorem SP.unwish {D:Ends} {f:Flow} {s':Shared} (h:SP (X.wish E) pins D f s'):SP X pins D f s':=by
 cases f with
 | next=>obtain ⟨σ',H',I,q⟩:=h;exact ⟨σ',H',I.unwish,q⟩
 | brk=>obtain ⟨σ',H',I,q⟩:=h;exact ⟨σ',H',I.unwish,q⟩
 | cont=>obtain ⟨σ',H',I,q⟩:=h;exact ⟨σ',H',I.unwish,q⟩
 | ret u=>obtain ⟨v,σ',H',I,r,q⟩:=h;exact ⟨v,σ',H',I.unwish,r,q⟩
theorem PE.nox {e:Expr} {t:TE} (h:PE X.nox e t):PE X e t:=fun pins s σ H Q I hw =>
 wpAny_mono (h pins s σ H Q (I.wish _) hw) (fun _ _ ⟨v,H',I',r,q⟩=>⟨v,H',I'.unwish,r,q⟩) fun _ _ z=>False.elim z
theorem PT.nox {e:Expr} {t:TT} (h:PT X.nox e t):PT X e t:=fun pins s σ H Q I hw =>
 wpAny_mono (h pins s σ H Q (I.wish _) hw) (fun _ _ ⟨H',I',q⟩=>⟨H',I'.unwish,q⟩) fun _ _ z=>False.elim z
theorem PSs.nox {st:List Stmt} {t:TS} (h:PSs X.nox st t):PSs X st t:=fun pins s σ H D I hw =>
 wpAny_mono (h pins s σ H D (I.wish _) hw) (fun _ _ q=>q.unwish) fun _ _ z=>False.elim z
end
section
variable {X:Cx} {st:Stmt} {qE:List Stmt} {t u:TS} {e:Expr} {te:TE} {pos:Pos}
noncomputable def fG:TS:=fun D σ H=>D.nx σ H
noncomputable def qBC (t u:TS):TS:=fun D σ H=>t { D with nx:=u D } σ H
theorem pss_nil:PSs X [] fG:=fun _ _ σ H _ I h=>wpAny_execs_nil ⟨σ,H,I,h⟩
theorem pss_cons (h1:PS X st t) (h2:PSs X qE u):PSs X (st::qE) (qBC t u):=by
 intro pins s σ H D I h
 refine wpAny_execs_cons (thn (h1 pins s σ H { D with nx:=u D } I h) fun f s1 q=>?_)
 cases f with
 | next =>
  obtain ⟨σ',H',I',q⟩:=q
  exact h2 pins s1 σ' H' D I' q
 | ret v=>exact q
 | brk=>exact q
 | cont=>exact q
theorem pss_one (h1:PS X st t):PSs X [st] t:=by
 intro pins s σ H D I h
 refine wpAny_execs_cons (thn (h1 pins s σ H D I h) fun f s1 q=>?_)
 cases f with
 | next=>exact wpAny_execs_nil q
 | ret v=>exact q
 | brk=>exact q
 | cont=>exact q
noncomputable def qBS:TS:=fun D σ H=>D.bk σ H
noncomputable def qBR:TS:=fun D σ H=>D.ct σ H
theorem ps_pass:PS X (.Pass pos) fG:=fun _ _ σ H _ I h=>wpAny_Pass ⟨σ,H,I,h⟩
theorem ps_break:PS X (.Break pos) qBS:=fun _ _ σ H _ I h=>wpAny_Break ⟨σ,H,I,h⟩
theorem ps_continue:PS X (.Continue pos) qBR:=fun _ _ σ H _ I h=>wpAny_Continue ⟨σ,H,I,h⟩
theorem Inv.quiet {pins:List (Addr × Obj)} {σ:St} {H:Hp} {s:Shared} (I:Inv X pins σ H s):interactive X.env=false:=by simp [interactive,I.ok.kind]
noncomputable def qBO (te:TE):TS:=fun D σ H=>te σ H fun _ H1=>D.nx σ H1
theorem ps_expr (he:PE X e te) (hs:swapsWith e none pos.line X.env=pure false:=by rfl):PS X (.Expr e pos) (qBO te):=by
 intro pins s σ H D I h
 exact wpAny_Expr_any (thn (he pins s σ H _ I h) fun v s1 ⟨x,H1,I1,r1,q1⟩=>⟨σ,H1,I1,q1⟩) I.quiet hs
noncomputable def qBE (te:TE):TS:=fun D σ H=>te σ H D.rt
theorem ps_ret (he:PE X e te):PS X (.Return (some e) pos) (qBE te):=by
 intro pins s σ H D I h
 exact wpAny_Return_some (thn (he pins s σ H _ I h) fun v s1 ⟨x,H1,I1,r1,q1⟩=>⟨x,σ,H1,I1,r1,q1⟩)
noncomputable def qBD:TS:=fun D _ H=>D.rt .non H
theorem ps_retN:PS X (.Return none pos) qBD:=fun _ _ σ H _ I h=>wpAny_Return_none ⟨.non,σ,H,I,rfl,h⟩
noncomputable def qBL (c:TT) (t u:TS):TS:=fun D σ H=>c σ H fun b H1=>if b=true then t D σ H1 else u D σ H1
theorem ps_if {c:Expr} {a b:List Stmt} {tc:TT} (hc:PT X c tc) (ha:PSs X a t) (hb:PSs X b u):PS X (.If c a b pos) (qBL tc t u):=by
 intro pins s σ H D I h
 refine wpAny_If (thn (hc pins s σ H _ I h) fun d s1 ⟨H1,I1,q1⟩=>?_)
 cases d with
 | true=>exact ha pins s1 σ H1 D I1 q1
 | false=>exact hb pins s1 σ H1 D I1 q1
end
noncomputable abbrev TG:=V→St→Hp→(St→Hp→Prop)→Prop
noncomputable abbrev TGs:=List V→St→Hp→(St→Hp→Prop)→Prop
noncomputable def PG (X:Cx) (target:Expr) (t:TG):Prop :=
 ∀ (pins:List (Addr × Obj)) (s:Shared) (σ:St) (H:Hp) (v:V) (u:Value) (Q:St→Hp→Prop),Inv X pins σ H s→RelV v u→t v σ H Q →
  wpAny (model X.prog X.w) X.A (assign target X.env u) (fun _ s'=>∃ σ' H',Inv X pins σ' H' s'∧Q σ' H') X.xe s
noncomputable abbrev eK:=V→V→V→Hp→(Hp→Prop)→Prop
noncomputable def PSet (X:Cx) (t:eK):Prop :=
 ∀ (pins:List (Addr × Obj)) (s:Shared) (σ:St) (H:Hp) (o i v:V) (ov iv u:Value) (Q:Hp→Prop),Inv X pins σ H s→RelV o ov→RelV i iv→RelV v u→t o i v H Q →
  wpAny (model X.prog X.w) X.A (setItem ov iv u) (fun _ s'=>∃ H',Inv X pins σ H' s'∧Q H') X.xe s
section
variable {X:Cx} {pos:Pos}
noncomputable def gName (i:Nat):TG:=fun v σ H Q=>Q (σ.set i (some v)) H
theorem pg_name {i:Nat} {x:Str} (hN:X.N.Nodup) (hi:X.N[i]?=some x) (hx:Loc X.env.scope x) (hf:X.fn x=true∨X.env.scope.names.lookup x=some .local:=by first | exact .inl rfl | exact .inr rfl | assumption):PG X (.Name x pos) (gName i):=by
 intro pins s σ H v u Q I r h
 exact wpAny_assign_Name (store_ok I hN hi hx r (fun s' I'=>⟨_,H,I',h⟩) hf)
noncomputable def gNil:TGs:=fun vs σ H Q=>vs=[]∧Q σ H
noncomputable def gCons (t:TG) (u:TGs):TGs:=fun vs σ H Q=>∃ v r,vs=v::r∧t v σ H fun σ' H'=>u r σ' H' Q
noncomputable def gTup (K:PySem.W.Frag) (n:Nat) (t:TGs):TG:=fun v σ H Q=>∃ a xs,v=.ref a∧SqT K H a xs∧xs.length=n∧t xs σ H Q
noncomputable def qGg (to ti:TE) (t:eK):TG:=fun v σ H Q=>to σ H fun o H1=>ti σ H1 fun i H2=>t o i v H2 fun H3=>Q σ H3
theorem pg_sub {o i:Expr} {to ti:TE} {t:eK} (ho:PE X o to) (hi:PE X i ti) (hs:PSet X t)
  (ha:∀ v,assign (.Subscript o i pos) X.env v=(do
   let ov ← holding [v] (eval o X.env)
   let iv ← holding [v,ov] (eval i X.env)
   standAt pos
   holding [v,ov,iv] (setItem ov iv v)
   release [v,ov,iv] []):=by intro _;rfl):PG X (.Subscript o i pos) (qGg to ti t):=by
 intro pins s σ H v u Q I r h
 rw [ha]
 refine wpAny_bind (wpAny_holding (thn (ho pins s σ H _ I h) fun ov s1 ⟨x,H1,I1,r1,q1⟩=>?_))
 refine wpAny_bind (wpAny_holding (thn (hi pins s1 σ H1 _ I1 q1) fun iv s2 ⟨y,H2,I2,r2,q2⟩=>?_))
 refine wpAny_bind (wpAny_standAt (wpAny_bind (wpAny_holding (thn (hs pins s2 σ H2 x y v ov iv u _ I2 r1 r2 r q2) fun _ s3 ⟨H3,I3,q3⟩=>?_))))
 exact wpAny_release ⟨σ,H3,I3,q3⟩
noncomputable def fI (te:TE) (g:TG):TS:=fun D σ H=>te σ H fun x H1=>g x σ H1 D.nx
theorem ps_asg {tg e:Expr} {te:TE} {g:TG} (he:PE X e te) (hg:PG X tg g) (hs:swapsWithSole [tg] e pos.line X.env=pure false:=by rfl) (hw:swappedStores [tg] e X.env=pure none:=by rfl)
  (h1:(assignEach [tg] X.env).map (·.2)=[assign tg X.env]:=by rfl):PS X (.Assign [tg] e pos) (fI te g):=by
 intro pins s σ H D I h
 refine wpAny_Assign_stores (thn (he pins s σ H _ I h) fun v s1 ⟨x,H1,I1,r1,q1⟩=>?_) hs hw
 rw [h1]
 exact thn (hg pins s1 σ H1 x v _ I1 r1 q1) fun _ s2 q=>q
theorem ps_set {i:Nat} {x:Str} {e:Expr} {te:TE} {pos':Pos} (hN:X.N.Nodup) (hi:X.N[i]?=some x) (hx:Loc X.env.scope x) (he:PE X e te) (hs:swapsWith e (some (.Name x pos')) pos.line X.env=pure false:=by rfl) (hf:X.fn x=true∨X.env.scope.names.lookup x=some .local:=by first | exact .inl rfl | exact .inr rfl | assumption) :
  PS X (.Assign [.Name x pos'] e pos) (fI te (gName i)):=by
 intro pins s σ H D I h
 refine wpAny_Assign_Name (thn (he pins s σ H _ I h) fun v s1 ⟨y,H1,I1,r1,q1⟩=>?_) hs
 exact store_ok I1 hN hi hx r1 (fun s2 I2=>⟨_,H1,I2,q1⟩) hf
end
section
variable {X:Cx} {pos:Pos}
noncomputable def qBA (c:TT) (tb:TS):TS:=fun D σ H=>∃ W:Nat→St→Hp→Prop,(∃ m,W m σ H)∧∀ m σ H,W m σ H →
 c σ H fun b H1=>if b=true then ∃ N:St→Hp→Prop,(∀ σ' H',N σ' H'→∃ m',m'<m∧W m' σ' H')∧tb { D with nx:=N,ct:=N,bk:=D.nx } σ H1 else D.nx σ H1
theorem ps_while {c:Expr} {body:List Stmt} {tc:TT} {tb:TS} (hp:PassesOwn (model X.prog X.w) X.A X.env X.xe) (hc:PT X c tc) (hb:PSs X body tb):PS X (.While c body [] pos) (qBA tc tb):=by
 intro pins s σ H D I h
 obtain ⟨W,⟨m0,w0⟩,turn⟩:=h
 refine wpAny_While (codeAny_whileLoop (fun n s'=>∃ σ' H',Inv X pins σ' H' s'∧W n σ' H') ?_ m0 ⟨σ,H,I,w0⟩)
 rintro n s1 ⟨σ1,H1,I1,w1⟩
 refine wpAny_passesOwn hp (thn (hc pins s1 σ1 H1 _ I1 (turn n σ1 H1 w1)) fun b s2 ⟨H2,I2,q2⟩=>?_)
 cases b with
 | true =>
  obtain ⟨N,hN,q2⟩:=q2
  rw [if_pos rfl]
  refine wpAny_passesOwn hp (thn (hb pins s2 σ1 H2 _ I2 q2) fun f s3 q3=>?_)
  cases f with
  | next =>
   obtain ⟨σ3,H3,I3,n3⟩:=q3
   obtain ⟨m',hm,w3⟩:=hN σ3 H3 n3
   exact ⟨m',hm,σ3,H3,I3,w3⟩
  | cont =>
   obtain ⟨σ3,H3,I3,n3⟩:=q3
   obtain ⟨m',hm,w3⟩:=hN σ3 H3 n3
   exact ⟨m',hm,σ3,H3,I3,w3⟩
  | brk=>exact q3
  | ret v=>exact q3
 | false =>
  rw [if_neg Bool.false_ne_true]
  exact wpAny_execs_nil ⟨σ1,H2,I2,q2⟩
end
structure It where
 go:Nat→Hp→Prop
 yld:Nat→Hp→V→Hp→Prop
 stop:Nat→Hp→Prop
noncomputable def qJ (X:Cx) (pins:List (Addr × Obj)) (H:Hp) (b:Addr):Prop :=
 H b=none∧b≠X.env.locals∧b∉X.fs∧(b∈X.ex∨X.s₀.heap.objs.size≤b)∧(∀ x c,X.env.cells.lookup x=some c→c≠b)∧∀ p∈X.pn++pins,p.1≠b
theorem Inv.fpOk {X:Cx} {pins:List (Addr × Obj)} {σ:St} {H H':Hp} {s:Shared} {b:Addr} (I:Inv X pins σ H s) (hb:s.heap.objs.size≤b) (hn:H' b=none):qJ X pins H' b:=by
 refine ⟨hn,Nat.ne_of_gt (Nat.lt_of_lt_of_le I.lt hb),I.nofs hb,.inr (Nat.le_trans I.sz hb),fun x c e z=>?_,fun p hp z=>?_⟩
 ·obtain ⟨v,q⟩:=I.cell x c e
  exact absurd (Nat.lt_of_lt_of_le q.lt (by rw [z];exact hb)) (Nat.lt_irrefl _)
 ·exact absurd (Nat.lt_of_lt_of_le (Heap.lt_size (I.pin p hp).1) (by rw [z];exact hb)) (Nat.lt_irrefl _)
structure Turn (P:Program) (w:World) (K:PySem.W.Frag) (tg:Expr) (J:It) (fp:List Addr) (it:Addr) (tn:Nat→Heap→Prop):Prop where
 mem:it∈fp
 obj:∀ i h,tn i h→∀ b∈fp,∃ o,h.get? b=some o∧∀ v,o.data≠.cell v
 keep:∀ i h h',tn i h→(∀ b∈fp,∀ o,h.get? b=some o→h'.get? b=some o)→tn i h'
 item:∀ (X:Cx),X.prog=P→X.w=w→X.K=K→X.calm=true→∀ (i:Nat) (pins:List (Addr × Obj)) (s:Shared) (σ:St) (H:Hp) (E:Value→Shared→Prop),Inv X pins σ H s→(∀ b∈fp,qJ X pins H b)→tn i s.heap→J.go i H →
  wpAny (model P w) X.A (pyNext (.ref it)) (fun r s1=>∃ u,r=some u ∧
   wpAny (model P w) X.A (letOwnedTupleGo tg (.ref it) u) (fun _ s2=>∃ x H',Inv X pins σ H' s2∧RelV x u∧J.yld i H x H'∧tn (i+1) s2.heap∧∀ b∈fp,H' b=none) E s1) E s
 done:∀ (X:Cx),X.prog=P→X.w=w→X.K=K→X.calm=true→∀ (i:Nat) (pins:List (Addr × Obj)) (s:Shared) (σ:St) (H:Hp) (E:Value→Shared→Prop),Inv X pins σ H s→(∀ b∈fp,qJ X pins H b)→tn i s.heap→J.stop i H →
  wpAny (model P w) X.A (pyNext (.ref it)) (fun r s1=>r=none∧Inv X pins σ H s1) E s
 self:∀ (A:Around) (i:Nat) (s:Shared) (Q:Value→Shared→Prop) (E:Value→Shared→Prop),tn i s.heap→Q (.ref it) s→wpAny (model P w) A (pyIter (.ref it)) Q E s
noncomputable abbrev TI:=St→Hp→(It→Hp→Prop)→Prop
noncomputable def PIE (X:Cx) (pins:List (Addr × Obj)) (σ:St) (tg:Expr) (R:It→Hp→Prop) (itv:Value) (s2:Shared):Prop :=
 ∃ (it:Addr) (fp:List Addr) (tn:Nat→Heap→Prop) (J:It) (H':Hp),itv=.ref it∧Inv X pins σ H' s2∧Turn X.prog X.w X.K tg J fp it tn∧tn 0 s2.heap∧(∀ b∈fp,qJ X pins H' b)∧R J H'
noncomputable def PI (X:Cx) (tg iter:Expr) (wi:TI):Prop :=
 ∀ (pins:List (Addr × Obj)) (s:Shared) (σ:St) (H:Hp) (R:It→Hp→Prop),Inv X pins σ H s→wi σ H R →
  wpAny (model X.prog X.w) X.A (eval iter X.env) (fun v s1=>wpAny (model X.prog X.w) X.A (pyIter v) (PIE X pins σ tg R) X.xe s1) X.xe s
theorem go_of {M:Model} {A:Around} {E:Value→Shared→Prop} {s:Shared} {tg:Expr} {it:Addr} {u:Value} {o:Obj} {n:String} {vs:Array Value} {Q:Unit→Shared→Prop} (ho:s.heap.get? it=some o) (hc:o.cls=.type n) (hd:o.data=.fields vs)
    (hn:["enumerate","zip","dict_itemiterator","dict_reverseitemiterator","odict_iterator","itertools.zip_longest","itertools.pairwise"].contains n=false) (hQ:Q () s):wpAny M A (letOwnedTupleGo tg (.ref it) u) Q E s:=by
  unfold letOwnedTupleGo
  cases tg <;> first
    | exact wpAny_pure hQ
    | (cases u <;> first
        | exact wpAny_pure hQ
        | (refine wpAny_bind (wpAny_load ho ?_)
           rw [hc,hd]
           show wpAny M A (if (["enumerate","zip","dict_itemiterator","dict_reverseitemiterator","odict_iterator","itertools.zip_longest","itertools.pairwise"].contains n&&vs[0]? == some (rawInt _))=true then _ else _) Q E s
           rw [if_neg (by intro h;rw [hn,Bool.false_and] at h;cases h)]
           exact wpAny_pure hQ))
noncomputable def Itl (K:PySem.W.Frag) (a:Addr):It :=
 ⟨fun i H=>∃ xs x,SqL K H a xs∧xs[i]?=some x,fun i H x H'=>H'=H∧∀ xs,SqL K H a xs→xs[i]?=some x,fun i H=>∃ xs,SqL K H a xs∧xs.length≤i⟩
noncomputable def Itt (K:PySem.W.Frag) (a:Addr):It :=
 ⟨fun i H=>∃ xs x,SqT K H a xs∧xs[i]?=some x,fun i H x H'=>H'=H∧∀ xs,SqT K H a xs→xs[i]?=some x,fun i H=>∃ xs,SqT K H a xs∧xs.length≤i⟩
noncomputable def Itr (lo:Int) (n:Nat):It:=⟨fun i _=>i<n,fun i H x H'=>H'=H∧x=.int (lo+i),fun i _=>n≤i⟩
theorem turn_list {P:Program} {w:World} {K:PySem.W.Frag} {tg:Expr} (a it:Addr):Turn P w K tg (Itl K a) [it] it (fun i h=>h.IsListIter it a i) where
 mem:=by simp
 obj:=fun i h st b hb=>by
  have e:b=it:=by simpa using hb
  subst e
  obtain ⟨o,e,c,d⟩:=st
  exact ⟨o,e,fun v z=>by rw [d] at z;cases z⟩
 keep:=fun i h h' st k=>st.at fun o e=>k it (by simp) o e
 item:=by
  intro X hP hw hK hc i pins s σ H E I hf st hg
  subst hP hw hK
  obtain ⟨xs,x,hq,hx⟩:=hg
  obtain ⟨its,rv,p,hz⟩:=I.list hq
  obtain ⟨u,hu,ru⟩:=rv.get hx
  obtain ⟨f0,f1,f2,f3,f4,f5⟩:=hf it (by simp)
  refine wpAny_pyNext_list_item st p.isList (x:=u) (by simpa using hu) fun h' st' sb=>?_
  have I1:Inv X pins σ H { s with heap:=h' }:=I.turned (t':=s.toks) (fun b o hb e=>(sb.2 b hb).trans e) f0 f1 f3 f4 f5
  obtain ⟨o,e,c,d⟩:=id st'
  exact ⟨u,rfl,go_of (s:={ s with heap:=h' }) e c d (by decide) ⟨x,H,I1,ru,⟨rfl,fun ys hy=>by rw [I.list_inj hy hq];exact hx⟩,st',fun b hb=>(hf b hb).1⟩⟩
 done:=by
  intro X hP hw hK hc i pins s σ H E I hf st hg
  subst hP hw hK
  obtain ⟨xs,hq,hx⟩:=hg
  obtain ⟨its,rv,p,hz⟩:=I.list hq
  obtain ⟨f0,f1,f2,f3,f4,f5⟩:=hf it (by simp)
  have hl:=rv.length
  exact wpAny_pyNext_list_end (I.ok.hd hc) st p.isList (by simp;omega) fun h' eb=>⟨rfl,I.turned (t':=s.toks) (fun b o hb e=>eb b o hb e) f0 f1 f3 f4 f5⟩
 self:=fun _ _ _ _ _ st h=>wpAny_pyIter_listiter st h
theorem turn_tuple {P:Program} {w:World} {K:PySem.W.Frag} {tg:Expr} (a it:Addr):Turn P w K tg (Itt K a) [it] it (fun i h=>h.IsTupleIter it a i) where
 mem:=by simp
 obj:=fun i h st b hb=>by
  have e:b=it:=by simpa using hb
  subst e
  obtain ⟨o,e,c,d⟩:=st
  exact ⟨o,e,fun v z=>by rw [d] at z;cases z⟩
 keep:=fun i h h' st k=>st.at fun o e=>k it (by simp) o e
 item:=by
  intro X hP hw hK hc i pins s σ H E I hf st hg
  subst hP hw hK
  obtain ⟨xs,x,hq,hx⟩:=hg
  obtain ⟨its,rv,p,hz⟩:=I.tuple hq
  obtain ⟨u,hu,ru⟩:=rv.get hx
  obtain ⟨f0,f1,f2,f3,f4,f5⟩:=hf it (by simp)
  refine wpAny_pyNext_tuple_item st (show s.heap.IsTuple a its.toArray from p) (x:=u) (by simpa using hu) fun h' st' sb=>?_
  have I1:Inv X pins σ H { s with heap:=h' }:=I.turned (t':=s.toks) (fun b o hb e=>(sb.2 b hb).trans e) f0 f1 f3 f4 f5
  obtain ⟨o,e,c,d⟩:=id st'
  exact ⟨u,rfl,go_of (s:={ s with heap:=h' }) e c d (by decide) ⟨x,H,I1,ru,⟨rfl,fun ys hy=>by rw [I.tuple_inj hy hq];exact hx⟩,st',fun b hb=>(hf b hb).1⟩⟩
 done:=by
  intro X hP hw hK hc i pins s σ H E I hf st hg
  subst hP hw hK
  obtain ⟨xs,hq,hx⟩:=hg
  obtain ⟨its,rv,p,hz⟩:=I.tuple hq
  obtain ⟨f0,f1,f2,f3,f4,f5⟩:=hf it (by simp)
  have hl:=rv.length
  exact wpAny_pyNext_tuple_end (I.ok.hd hc) st (show s.heap.IsTuple a its.toArray from p) (by simp;omega) fun h' eb=>⟨rfl,I.turned (t':=s.toks) (fun b o hb e=>eb b o hb e) f0 f1 f3 f4 f5⟩
 self:=fun _ _ _ _ _ st h=>wpAny_pyIter_tupleiter st h
theorem qAj {P:Program} {w:World} {K:PySem.W.Frag} {tg:Expr} (it:Addr) (lo:Int) (n:Nat):Turn P w K tg (Itr lo n) [it] it (fun i h=>IsRangeIter h it (lo+(i:Nat)*1) ((n:Int)-(i:Nat)) 1) where
 mem:=by simp
 obj:=fun i h st b hb=>by
  have e:b=it:=by simpa using hb
  subst e
  exact ⟨_,st,fun v z=>by
   have z':Data.fields _=Data.cell v:=z
   cases z'⟩
 keep:=fun i h h' st k=>k it (by simp) _ st
 item:=by
  intro X hP hw hK hc i pins s σ H E I hf st hg
  subst hP hw hK
  obtain ⟨f0,f1,f2,f3,f4,f5⟩:=hf it (by simp)
  have W:=Walks.range (prog:=X.prog) (w:=X.w) (I.ok.hd hc) it lo 1 n
  refine W.item i s _ _ hg st fun v h' tk hv st' kk=>?_
  obtain ⟨t,rfl⟩:=hv
  have I1:Inv X pins σ H { s with heap:=h',toks:=tk }:=I.turned (fun b o hb e=>kk b o (by simpa using hb) e) f0 f1 f3 f4 f5
  refine ⟨_,rfl,go_of (s:={ s with heap:=h',toks:=tk }) (n:="range_iterator") st' rfl rfl (by decide) ⟨.int (lo+i),H,I1,⟨t,?_⟩,⟨rfl,rfl⟩,st',fun b hb=>(hf b hb).1⟩⟩
  rw [Int.mul_one]
 done:=by
  intro X hP hw hK hc i pins s σ H E I hf st hg
  subst hP hw hK
  obtain ⟨f0,f1,f2,f3,f4,f5⟩:=hf it (by simp)
  exact wpAny_pyNext_range_end (I.ok.hd hc) st (by have:n≤i:=hg;omega) fun h' eb=>⟨rfl,I.turned (t':=s.toks) (fun b o hb e=>eb b o hb e) f0 f1 f3 f4 f5⟩
 self:=fun _ _ _ _ _ st h=>wpAny_pyIter_rangeiter st h
end L2
namespace L2
open PySem PySem.Spec PyProof.Rows
section
variable {X:Cx} {tg:Expr}
theorem lB {pins:List (Addr × Obj)} {σ:St} {H:Hp} {s:Shared} {R:It→Hp→Prop} {E:Value→Shared→Prop} {lo hi:Int} {t u v:Tok} {tk:Nat} (I:Inv X pins σ H s) (h1:-(2 ^ 62)≤lo) (h2:lo<2 ^ 62) (h3:-(2 ^ 62)≤hi) (h4:hi<2 ^ 62)
  (q:R (Itr lo (hi-lo).toNat) H):wpAny (model X.prog X.w) X.A (pyIter (.ref s.heap.objs.size)) (PIE X pins σ tg R) E { s with heap:=s.heap.push { cls:=.type "range",data:=.fields #[.int lo t,.int hi u,.int 1 v] },toks:=tk }:=by
 refine wpAny_pyIter_range (IsRange.new ..) (small_one h1 h2 h3 h4) ?_
 have I1:Inv X pins σ H { s with heap:=s.heap.push { cls:=.type "range",data:=.fields #[.int lo t,.int hi u,.int 1 v] },toks:=tk }:=I.kept fun b o e=>Heap.get?_push_of_some _ e
 refine ⟨(s.heap.push { cls:=.type "range",data:=.fields #[.int lo t,.int hi u,.int 1 v] }).objs.size,[(s.heap.push { cls:=.type "range",data:=.fields #[.int lo t,.int hi u,.int 1 v] }).objs.size],_,_,H,rfl,
  I1.kept (t':=tk) fun b o e=>Heap.get?_push_of_some _ e,qAj _ lo (hi-lo).toNat,?_,fun b hb=>?_,q⟩
 ·have e1:lo+((0:Nat):Int)*1=lo:=by simp
  have e2:(((hi-lo).toNat:Nat):Int)-((0:Nat):Int)=Builtin.Range.rangeSize lo hi 1:=by rw [rangeSize_one];split <;> omega
  show IsRangeIter _ _ (lo+((0:Nat):Int)*1) ((((hi-lo).toNat:Nat):Int)-((0:Nat):Int)) 1
  rw [e1,e2]
  exact Heap.get?_push_size _ rfl
 ·have e:b=(s.heap.push { cls:=.type "range",data:=.fields #[.int lo t,.int hi u,.int 1 v] }).objs.size:=by simpa using hb
  subst e
  exact I1.fpOk (Nat.le_refl _) (I1.hok.fresh (Nat.le_refl _))
noncomputable def qGP (ta:TA):TI:=fun σ H R=>ta σ H fun vs H1=>∃ j:Int,vs=[.int j]∧-(2 ^ 62)≤j∧j<2 ^ 62∧R (Itr 0 j.toNat) H1
noncomputable def qGO (ta:TA):TI:=fun σ H R=>ta σ H fun vs H1=>∃ i j:Int,vs=[.int i,.int j]∧(-(2 ^ 62)≤i∧i<2 ^ 62∧-(2 ^ 62)≤j∧j<2 ^ 62)∧R (Itr i (j-i).toNat) H1
theorem pi_range1 {a:Expr} {ta:TA} {p pos:Pos} (hg:Gl X "range") (hm:X.mg "range"=none) (ha:PA X [a] ta) (hs:starEach [a] X.env=[(false,eval a X.env)]:=by rfl):PI X tg (.Call (.Name "range" p) [a] [] pos) (qGP ta):=by
 intro pins s σ H R I h
 refine Call_ (yA I hg hm boot_range (PyProof.Rows.callWith_type1 (thn (ha pos pins s σ H _ I h) fun us s1 ⟨vs,H1,I1,r1,q1⟩=>?_) hs rfl))
 obtain ⟨j,e,q1,q2,q⟩:=q1
 subst e
 cases r1 with
 | cons r rr =>
  cases rr
  obtain ⟨t,rfl⟩:=r
  exact call_range_1 (lB I1 (by omega) (by omega) q1 q2 (by simpa using q))
theorem pi_range2 {a b:Expr} {ta:TA} {p pos:Pos} (hg:Gl X "range") (hm:X.mg "range"=none) (ha:PA X [a,b] ta) (hs:starEach [a,b] X.env=[(false,eval a X.env),(false,eval b X.env)]:=by rfl) (hs2:starEach [b] X.env=[(false,eval b X.env)]:=by rfl) :
  PI X tg (.Call (.Name "range" p) [a,b] [] pos) (qGO ta):=by
 intro pins s σ H R I h
 refine Call_ (yA I hg hm boot_range (PyProof.Rows.callWith_type1 (thn (ha pos pins s σ H _ I h) fun us s1 ⟨vs,H1,I1,r1,q1⟩=>?_) (by rw [hs,hs2]) (by rw [hs2];rfl)))
 obtain ⟨i,j,e,⟨q1,q2,q3,q4⟩,q⟩:=q1
 subst e
 cases r1 with
 | cons r rr =>
  cases rr with
  | cons r' rr =>
   cases rr
   obtain ⟨t,rfl⟩:=r
   obtain ⟨t',rfl⟩:=r'
   exact call_range_2 (lB I1 q1 q2 q3 q4 q)
noncomputable def qBM (wi:TI) (g:TG) (tb:TS):TS:=fun D σ H=>wi σ H fun J H1=>∃ W:Nat→Nat→St→Hp→Prop,(∃ m,W 0 m σ H1)∧∀ i m σ H,W i m σ H →
 (J.stop i H∧D.nx σ H)∨(J.go i H∧∃ N:St→Hp→Prop,(∀ σ' H',N σ' H'→∃ m',m'<m∧W (i+1) m' σ' H')∧∀ x H',J.yld i H x H'→g x σ H' fun σ2 H2=>tb { D with nx:=N,ct:=N,bk:=D.nx } σ2 H2)
noncomputable def pinsAt (fp:List Addr) (h:Heap):List (Addr × Obj):=fp.filterMap fun b=>(h.get? b).map fun o=>(b,o)
theorem mem_pinsAt {fp:List Addr} {h:Heap} {b:Addr} {o:Obj} (hb:b∈fp) (e:h.get? b=some o):(b,o)∈pinsAt fp h:=List.mem_filterMap.mpr ⟨b,hb,by rw [e];rfl⟩
theorem qDW {fp:List Addr} {h:Heap} {p:Addr × Obj} (hp:p∈pinsAt fp h):p.1∈fp∧h.get? p.1=some p.2:=by
 obtain ⟨b,hb,e⟩:=List.mem_filterMap.mp hp
 cases q:h.get? b with
 | none=>rw [q] at e;cases e
 | some o =>
  rw [q] at e
  have e':(b,o)=p:=Option.some.inj e
  subst e'
  exact ⟨hb,q⟩
theorem Inv.pinned {pins:List (Addr × Obj)} {σ:St} {H:Hp} {s:Shared} {fp:List Addr} (I:Inv X pins σ H s) (hf:∀ b∈fp,qJ X pins H b) (ho:∀ b∈fp,∃ o,s.heap.get? b=some o∧∀ v,o.data≠.cell v):Inv X (pins++pinsAt fp s.heap) σ H s :=
 I.pins_of fun p hp=>(List.mem_append.mp hp).elim (fun z=>I.pin p (List.mem_append_right _ z)) fun z=>by
  obtain ⟨hb,e⟩:=qDW z
  obtain ⟨f0,f1,f2,_⟩:=hf p.1 hb
  obtain ⟨o,e',d⟩:=ho p.1 hb
  rw [e] at e';cases e'
  exact ⟨e,f0,f1,f2,d⟩
theorem Inv.unpinned {pins pl:List (Addr × Obj)} {σ:St} {H:Hp} {s:Shared} (I:Inv X (pins++pl) σ H s):Inv X pins σ H s:=I.pins_of fun p hp=>I.pin p (List.mem_append_right _ (List.mem_append_left _ hp))
theorem ps_for {iter:Expr} {body:List Stmt} {wi:TI} {g:TG} {tb:TS} {pos:Pos} (hp:PassesOwn (model X.prog X.w) X.A X.env X.xe) (hc:X.calm=true) (hi:PI X tg iter wi) (hg:PG X tg g) (hb:PSs X body tb)
  (hs:∀ x,foldedSetIterable iter X.env x=pure x:=by intro _;rfl):PS X (.For tg iter body [] pos) (qBM wi g tb):=by
 intro pins s σ H D I h
 refine wpAny_For (thn (hi pins s σ H _ I h) fun v s1 h1=>thn h1 fun itv s2 h2=>?_) hs
 obtain ⟨it,fp,tn,J,H2,e,I2,T,st2,f2,W,⟨m0,w0⟩,turn⟩:=h2
 subst e
 have stat:∀ {H':Hp},(∀ b∈fp,H' b=none)→∀ b∈fp,qJ X pins H' b:=fun hn b hb=>⟨hn b hb,(f2 b hb).2⟩
 refine codeAny_forLoop_any (fun n s'=>∃ i σ' H',Inv X pins σ' H' s'∧tn i s'.heap∧(∀ b∈fp,H' b=none)∧W i n σ' H') ?_ m0 ⟨0,σ,H2,I2,st2,fun b hb=>(f2 b hb).1,w0⟩
 rintro n s3 ⟨i,σ3,H3,I3,st3,fr3,w3⟩
 rcases turn i n σ3 H3 w3 with ⟨stop,qn⟩ | ⟨go,N,hN,step⟩
 ·refine wpAny_passesOwn hp (thn (T.done X rfl rfl rfl hc i pins s3 σ3 H3 X.xe I3 (stat fr3) st3 stop) fun r s4 ⟨hr,I4⟩=>?_)
  subst hr
  exact wpAny_execs_nil ⟨σ3,H3,I4,qn⟩
 ·refine wpAny_passesOwn hp (thn (T.item X rfl rfl rfl hc i pins s3 σ3 H3 X.xe I3 (stat fr3) st3 go) fun r s4 ⟨u,hr,h4⟩=>?_)
  subst hr
  refine wpAny_passesOwn hp (thn h4 fun _ s5 ⟨x,H5,I5,r5,y5,st5,fr5⟩=>?_)
  have I5':=I5.pinned (stat fr5) (T.obj _ _ st5)
  refine wpAny_passesOwn hp (thn (hg _ s5 σ3 H5 x u _ I5' r5 (step x H5 y5)) fun _ s6 ⟨σ6,H6,I6,q6⟩=>?_)
  refine wpAny_passesOwn hp (thn (hb _ s6 σ6 H6 _ I6 q6) fun f s7 q7=>?_)
  have again:∀ {σ7:St} {H7:Hp},Inv X (pins++pinsAt fp s5.heap) σ7 H7 s7→N σ7 H7→∃ m,m<n∧∃ i σ' H',Inv X pins σ' H' s7∧tn i s7.heap∧(∀ b∈fp,H' b=none)∧W i m σ' H':=fun {σ7 H7} I7 n7=>by
   obtain ⟨m',hm,w7⟩:=hN σ7 H7 n7
   refine ⟨m',hm,i+1,σ7,H7,I7.unpinned,T.keep _ _ _ st5 fun b hb o e=>(I7.pin (b,o) (List.mem_append_right _ (List.mem_append_right _ (mem_pinsAt hb e)))).1,fun b hb=>?_,w7⟩
   obtain ⟨o,e,d⟩:=T.obj _ _ st5 b hb
   exact (I7.pin (b,o) (List.mem_append_right _ (List.mem_append_right _ (mem_pinsAt hb e)))).2.1
  cases f with
  | next=>obtain ⟨σ7,H7,I7,n7⟩:=q7;exact again I7 n7
  | cont=>obtain ⟨σ7,H7,I7,n7⟩:=q7;exact again I7 n7
  | brk=>obtain ⟨σ7,H7,I7,q7⟩:=q7;exact ⟨σ7,H7,I7.unpinned,q7⟩
  | ret v=>obtain ⟨x7,σ7,H7,I7,r7,q7⟩:=q7;exact ⟨x7,σ7,H7,I7.unpinned,r7,q7⟩
end
end L2
namespace L2
open PySem PySem.Spec PyProof.Rows
noncomputable abbrev R2:=V→V→Hp→VK→Prop
noncomputable def OpR (X:Cx) (f:Value→Value→Sem Value) (r:R2):Prop :=
 ∀ (pins:List (Addr × Obj)) (s:Shared) (σ:St) (H:Hp) (x y:V) (v u:Value) (Q:VK),Inv X pins σ H s→RelV x v→RelV y u→r x y H Q →
  wpAny (model X.prog X.w) X.A (f v u) (EP X pins σ Q) X.xe s
noncomputable def UnR (X:Cx) (f:Value→Sem Value) (r:V→Hp→VK→Prop):Prop :=
 ∀ (pins:List (Addr × Obj)) (s:Shared) (σ:St) (H:Hp) (x:V) (v:Value) (Q:VK),Inv X pins σ H s→RelV x v→r x H Q →
  wpAny (model X.prog X.w) X.A (f v) (EP X pins σ Q) X.xe s
noncomputable def CallR (X:Cx) (f:Value) (r:List V→Hp→VK→Prop):Prop :=
 ∀ (pins:List (Addr × Obj)) (s:Shared) (σ:St) (H:Hp) (xs:List V) (us:List Value) (Q:VK),Inv X pins σ H s→Vals xs us→r xs H Q →
  wpAny (model X.prog X.w) X.A (call f us) (EP X pins σ Q) X.xe s
noncomputable def qJZ (X:Cx) (r:V→Hp→(Bool→Hp→Prop)→Prop):Prop :=
 ∀ (pins:List (Addr × Obj)) (s:Shared) (σ:St) (H:Hp) (x:V) (v:Value) (Q:Bool→Hp→Prop),Inv X pins σ H s→RelV x v→r x H Q →
  wpAny (model X.prog X.w) X.A (truthy v) (TP X pins σ Q) X.xe s
noncomputable def tOp (r:R2) (ta tb:TE):TE:=fun σ H Q=>ta σ H fun x H1=>tb σ H1 fun y H2=>r x y H2 Q
noncomputable def tUn (r:V→Hp→VK→Prop) (ta:TE):TE:=fun σ H Q=>ta σ H fun x H1=>r x H1 Q
noncomputable def rI (C:Int→Int→Prop) (g:Int→Int→V):R2:=fun x y H Q=>∃ i j,x=.int i∧y=.int j∧C i j∧Q (g i j) H
noncomputable def rI0 (g:Int→Int→V):R2:=fun x y H Q=>∃ i j,x=.int i∧y=.int j∧Q (g i j) H
noncomputable def rU (g:Int→V):V→Hp→VK→Prop:=fun x H Q=>∃ i,x=.int i∧Q (g i) H
section
variable {X:Cx} {a b c:Expr} {ta tb tc:TE} {pos:Pos}
theorem dF (ha:PE X a ta) (hb:PE X b tb) {pins:List (Addr × Obj)} {s:Shared} {σ:St} {H:Hp} {R:V→V→Hp→Prop} (I:Inv X pins σ H s)
  (h:ta σ H fun x H1=>tb σ H1 fun y H2=>R x y H2) {Q:Value→Shared→Prop} {f:Value→Value→Sem Value}
  (hf:∀ v u s2 x y H2,Inv X pins σ H2 s2→RelV x v→RelV y u→R x y H2→wpAny (model X.prog X.w) X.A (f v u) Q X.xe s2) :
  wpAny (model X.prog X.w) X.A (eval a X.env) (fun v s₁=>wpAny (model X.prog X.w) X.A (eval b X.env) (fun u s₂=>wpAny (model X.prog X.w) X.A (f v u) Q X.xe s₂) X.xe s₁) X.xe s:=by
 refine thn (ha pins s σ H _ I h) fun v s1 ⟨x,H1,I1,r1,q1⟩=>?_
 refine thn (hb pins s1 σ H1 _ I1 q1) fun u s2 ⟨y,H2,I2,r2,q2⟩=>?_
 exact hf v u s2 x y H2 I2 r1 r2 q2
theorem pe_op {op:Operator} {r:R2} (ho:OpR X (binaryOp op) r) (ha:PE X a ta) (hb:PE X b tb):PE X (.BinOp a op b pos) (tOp r ta tb):=by
 intro pins s σ H Q I h
 exact wpAny_BinOp (dF ha hb I h fun v u s2 x y H2 I2 rx ry q=>ho pins s2 σ H2 x y v u Q I2 rx ry q)
theorem pe_un {op:UnaryOp} {r:V→Hp→VK→Prop} (ho:UnR X (unaryOp op) r) (ha:PE X a ta):PE X (.UnaryOp op a pos) (tUn r ta):=by
 intro pins s σ H Q I h
 exact UnaryOp_ (thn (ha pins s σ H _ I h) fun v s1 ⟨x,H1,I1,r1,q1⟩=>ho pins s1 σ H1 x v Q I1 r1 q1)
theorem opI {f:Value→Value→Sem Value} {C:Int→Int→Prop} {g:Int→Int→Int}
  (rule:∀ (i j:Int) (t u:Tok) (s:Shared) (Q:Value→Shared→Prop) (E:Value→Shared→Prop),C i j→Q (.int (g i j) s.toks) { s with toks:=s.toks+1 }→wpAny (model X.prog X.w) X.A (f (.int i t) (.int j u)) Q E s) :
  OpR X f (rI C fun i j=>.int (g i j)):=by
 intro pins s σ H x y v u Q I rx ry h
 obtain ⟨i,j,rfl,rfl,hc,q⟩:=h
 obtain ⟨t,rfl⟩:=rx
 obtain ⟨t',rfl⟩:=ry
 exact rule i j t t' s _ _ hc ⟨.int (g i j),H,I.tok _,⟨_,rfl⟩,q⟩
theorem lP {f:Value→Value→Sem Value} {g:Int→Int→Int}
  (rule:∀ (i j:Int) (t u:Tok) (s:Shared) (Q:Value→Shared→Prop) (E:Value→Shared→Prop),Q (.int (g i j) s.toks) { s with toks:=s.toks+1 }→wpAny (model X.prog X.w) X.A (f (.int i t) (.int j u)) Q E s) :
  OpR X f (rI0 fun i j=>.int (g i j)):=by
 intro pins s σ H x y v u Q I rx ry h
 obtain ⟨i,j,rfl,rfl,q⟩:=h
 obtain ⟨t,rfl⟩:=rx
 obtain ⟨t',rfl⟩:=ry
 exact rule i j t t' s _ _ ⟨.int (g i j),H,I.tok _,⟨_,rfl⟩,q⟩
theorem uJ {f:Value→Value→Sem Value} {g:Int→Int→Bool}
  (rule:∀ (i j:Int) (t u:Tok) (s:Shared) (Q:Value→Shared→Prop) (E:Value→Shared→Prop),Q (.bool (g i j)) s→wpAny (model X.prog X.w) X.A (f (.int i t) (.int j u)) Q E s) :
  OpR X f (rI0 fun i j=>.bl (g i j)):=by
 intro pins s σ H x y v u Q I rx ry h
 obtain ⟨i,j,rfl,rfl,q⟩:=h
 obtain ⟨t,rfl⟩:=rx
 obtain ⟨t',rfl⟩:=ry
 exact rule i j t t' s _ _ ⟨.bl (g i j),H,I,rfl,q⟩
noncomputable def qJd (i j:Int):Prop:=0<j∧j<1073741824
noncomputable def qJc (i j:Int):Prop:=0≤j∧j≤1000000∧i.natAbs<2 ^ 64
noncomputable def CMul (i j:Int):Prop:=(-(2 ^ 64)<i∧i<2 ^ 64)∨(-(2 ^ 64)<j∧j<2 ^ 64)
theorem CMul.ok {i j:Int} (h:CMul i j):IntMulOk i j:=by
 rcases h with ⟨h1,h2⟩ | ⟨h1,h2⟩
 ·exact .of_left (intBits_le_64 h1 h2)
 ·exact .of_right (intBits_le_64 h1 h2)
theorem op_add:OpR X (binaryOp .Add) (rI0 fun i j=>.int (i+j)):=lP fun _ _ _ _ _ _ _ q=>add_int q
theorem op_sub:OpR X (binaryOp .Sub) (rI0 fun i j=>.int (i-j)):=lP fun _ _ _ _ _ _ _ q=>sub_int q
theorem op_mul:OpR X (binaryOp .Mult) (rI CMul fun i j=>.int (i*j)):=opI fun _ _ _ _ _ _ _ hc q=>mul_int q hc.ok
theorem op_fdiv:OpR X (binaryOp .FloorDiv) (rI qJd fun i j=>.int (i / j)):=opI fun i j _ _ _ _ _ hc q=>by
 have h1:(0:Int)<j:=hc.1
 have h2:j<1073741824:=hc.2
 exact floordiv_int (by omega) (by rw [Int.fdiv_eq_ediv_of_nonneg i (by omega)];exact q) (.inl (PyProof.noPylong_small (by omega)))
theorem op_mod:OpR X (binaryOp .Mod) (rI (fun _ j=>0<j) fun i j=>.int (i % j)):=opI fun i j _ _ _ _ _ hc q=>by
 have h1:(0:Int)<j:=hc
 exact mod_int' (by omega) (by rw [Int.fmod_eq_emod_of_nonneg i (by omega)];exact q)
theorem op_pow:OpR X (binaryOp .Pow) (rI qJc fun i j=>.int (i ^ j.toNat)):=opI fun _ _ _ _ _ _ _ hc q=>pow_int_small hc.1 hc.2.1 hc.2.2 q
theorem unI {f:Value→Sem Value} {g:Int→Int}
  (rule:∀ (i:Int) (t:Tok) (s:Shared) (Q:Value→Shared→Prop) (E:Value→Shared→Prop),Q (.int (g i) s.toks) { s with toks:=s.toks+1 }→wpAny (model X.prog X.w) X.A (f (.int i t)) Q E s) :
  UnR X f (rU fun i=>.int (g i)):=by
 intro pins s σ H x v Q I rx h
 obtain ⟨i,rfl,q⟩:=h
 obtain ⟨t,rfl⟩:=rx
 exact rule i t s _ _ ⟨.int (g i),H,I.tok _,⟨_,rfl⟩,q⟩
theorem un_neg:UnR X (unaryOp .USub) (rU fun i=>.int (-i)):=unI fun _ _ _ _ _ q=>neg_int q
end
section
variable {X:Cx} {a b c:Expr} {ta tb tc:TE} {pos:Pos}
theorem op_lt:OpR X (compareOp .Lt) (rI0 fun i j=>.bl (decide (i<j))):=uJ fun _ _ _ _ _ _ _ q=>lt_int q
theorem op_le:OpR X (compareOp .LtE) (rI0 fun i j=>.bl (decide (i≤j))):=uJ fun _ _ _ _ _ _ _ q=>le_int q
theorem op_gt:OpR X (compareOp .Gt) (rI0 fun i j=>.bl (decide (j<i))):=uJ fun _ _ _ _ _ _ _ q=>gt_int q
theorem op_ge:OpR X (compareOp .GtE) (rI0 fun i j=>.bl (decide (j≤i))):=uJ fun _ _ _ _ _ _ _ q=>ge_int q
theorem OpR.or {f:Value→Value→Sem Value} {r r':R2} (h:OpR X f r) (h':OpR X f r'):OpR X f (fun x y H Q=>r x y H Q∨r' x y H Q):=by
 intro pins s σ H x y v u Q I rx ry q
 rcases q with q | q
 ·exact h pins s σ H x y v u Q I rx ry q
 ·exact h' pins s σ H x y v u Q I rx ry q
theorem qJe (b:Expr) {op:CmpOp} (h:op≠.In:=by decide) (h2:op≠.NotIn:=by decide):behindInMarks op b=false:=by
 have e1:(op == CmpOp.In)=false:=by cases op <;> first | rfl | exact absurd rfl h
 have e2:(op == CmpOp.NotIn)=false:=by cases op <;> first | rfl | exact absurd rfl h2
 cases b <;> simp [behindInMarks,e1,e2]
theorem pe_cmpR {op:CmpOp} {r:R2} (ho:OpR X (compareOp op) r) (ha:PE X a ta) (hb:PE X b tb) (hm:behindInMarks op b=false):PE X (.Compare a [op] [b] pos) (tOp r ta tb):=by
 intro pins s σ H Q I h
 exact wpAny_Compare1 (dF ha hb I h fun v u s2 x y H2 I2 rx ry q=>ho pins s2 σ H2 x y v u Q I2 rx ry q) hm
noncomputable def fF (t:TE):TT:=fun σ H Q=>t σ H fun x H'=>∃ k,x=.bl k∧Q k H'
theorem pt_cmpR {op:CmpOp} {r:R2} (ho:OpR X (compareOp op) r) (ha:PE X a ta) (hb:PE X b tb) (hm:behindInMarks op b=false):PT X (.Compare a [op] [b] pos) (fF (tOp r ta tb)):=by
 intro pins s σ H Q I h
 refine wpAny_isTrue_Compare1 (thn (ha pins s σ H _ I h) fun v s1 ⟨x,H1,I1,r1,q1⟩=>thn (hb pins s1 σ H1 _ I1 q1) fun u s2 ⟨y,H2,I2,r2,q2⟩ =>
  thn (ho pins s2 σ H2 x y v u _ I2 r1 r2 q2) fun c s3 ⟨z,H3,I3,r3,k,e,q3⟩=>?_) hm
 subst e
 cases r3
 exact wpAny_truthy_bool ⟨H3,I3,q3⟩
noncomputable def tChain (r r':R2) (ta tb tc:TE):TE:=fun σ H Q=>ta σ H fun x H1=>tb σ H1 fun y H2=>r x y H2 fun z H3=>∃ k,z=.bl k ∧
 (if k=true then tc σ H3 fun w' H4=>r' y w' H4 Q else Q (.bl false) H3)
theorem pe_chain {op op':CmpOp} {r r':R2} (ho:OpR X (compareOp op) r) (ho':OpR X (compareOp op') r') (ha:PE X a ta) (hb:PE X b tb) (hc:PE X c tc)
  (hm:lastMarks [op,op'] [b,c]=false:=by with_unfolding_all rfl):PE X (.Compare a [op,op'] [b,c] pos) (tChain r r' ta tb tc):=by
 intro pins s σ H Q I h
 refine Compare_chain (thn (ha pins s σ H _ I h) fun v s1 ⟨x,H1,I1,r1,q1⟩=>chain_link (thn (hb pins s1 σ H1 _ I1 q1) fun u s2 ⟨y,H2,I2,r2,q2⟩ =>
  thn (ho pins s2 σ H2 x y v u _ I2 r1 r2 q2) fun d s3 ⟨z,H3,I3,r3,k,e,q3⟩=>?_)) hm
 subst e
 cases r3
 refine wpAny_truthy_bool ?_
 cases k with
 | false=>exact ite_ff ⟨.bl false,H3,I3,rfl,q3⟩
 | true=>exact ite_tt (chain_last (thn (hc pins s3 σ H3 _ I3 q3) fun w' s4 ⟨z',H4,I4,r4,q4⟩=>ho' pins s4 σ H4 y z' u w' Q I4 r2 r4 q4))
theorem pt_chain {op op':CmpOp} {r r':R2} (ho:OpR X (compareOp op) r) (ho':OpR X (compareOp op') r') (ha:PE X a ta) (hb:PE X b tb) (hc:PE X c tc)
  (hm:lastMarks [op,op'] [b,c]=false:=by with_unfolding_all rfl):PT X (.Compare a [op,op'] [b,c] pos) (fF (tChain r r' ta tb tc)):=by
 intro pins s σ H Q I h
 refine isTrue_chain (thn (ha pins s σ H _ I h) fun v s1 ⟨x,H1,I1,r1,q1⟩=>test_link (thn (hb pins s1 σ H1 _ I1 q1) fun u s2 ⟨y,H2,I2,r2,q2⟩ =>
  thn (ho pins s2 σ H2 x y v u _ I2 r1 r2 q2) fun d s3 ⟨z,H3,I3,r3,k,e,q3⟩=>?_)) hm
 subst e
 cases r3
 refine wpAny_truthy_bool ?_
 cases k with
 | false =>
  obtain ⟨k',e',q'⟩:=q3
  cases e'
  exact ite_ff ⟨H3,I3,q'⟩
 | true =>
  refine ite_tt (test_last (thn (hc pins s3 σ H3 _ I3 q3) fun w' s4 ⟨z',H4,I4,r4,q4⟩=>thn (ho' pins s4 σ H4 y z' u w' _ I4 r2 r4 q4) fun d' s5 ⟨z2,H5,I5,r5,k2,e2,q5⟩=>?_))
  subst e2
  cases r5
  exact wpAny_truthy_bool ⟨H5,I5,q5⟩
noncomputable def TruV (K:PySem.W.Frag) (x:V) (H:Hp) (k:Bool):Prop :=
 match x with
 | .non=>k=false
 | .bl b=>k=b
 | .int i=>k=(i != 0)
 | .str y=>y.length≤sizeLine∧k=((y.length:Int) != 0)
 | .byt y=>y.size≤sizeLine∧k=((y.size:Int) != 0)
 | .ref p=>(∃ xs,SqL K H p xs∧k=!xs.isEmpty)∨(∃ xs,SqT K H p xs∧k=!xs.isEmpty)∨∃ kvs,H p=some (.dK kvs)∧k=!kvs.isEmpty
 | _=>False
theorem qFz {κ:Type} {kvs:List (κ × V)} {vs:List (κ × Value)} (r:KV kvs vs):(!vs.isEmpty)=!kvs.isEmpty:=by
 cases r <;> rfl
theorem nP {xs:List V} {its:List Value} (r:Vals xs its):(!its.toArray.isEmpty)=!xs.isEmpty:=by
 cases r <;> simp
theorem vO:(sizeLine:Nat)<2 ^ 63:=by rw [sizeLine_eq];decide
theorem tru_ok:qJZ X (fun x H Q=>∃ k,TruV X.K x H k∧Q k H):=by
 intro pins s σ H x v Q I rx h
 obtain ⟨k,e,q⟩:=h
 have hl:=vO
 have hs:sizeLine=16777216:=sizeLine_eq
 cases x with
 | non =>
  cases rx
  have e':k=false:=e
  subst e'
  exact truthy_none ⟨H,I,q⟩
 | bl b =>
  cases rx
  have e':k=b:=e
  subst e'
  exact wpAny_truthy_bool ⟨H,I,q⟩
 | int i =>
  obtain ⟨t,rfl⟩:=rx
  have e':k=(i != 0):=e
  subst e'
  exact PySem.P.truthy_int ⟨H,I,q⟩
 | str y =>
  obtain ⟨t,rfl⟩:=rx
  obtain ⟨hy,e'⟩:y.length≤sizeLine∧k=((y.length:Int) != 0):=e
  subst e'
  exact PySem.P.truthy_str (by omega) ⟨H,I.tok _,q⟩
 | byt y =>
  obtain ⟨t,rfl⟩:=rx
  obtain ⟨hy,e'⟩:y.size≤sizeLine∧k=((y.size:Int) != 0):=e
  subst e'
  exact PySem.W.truthy_bytes (by omega) ⟨H,I.tok _,q⟩
 | ref p =>
  cases rx
  have e':(∃ xs,SqL X.K H p xs∧k=!xs.isEmpty)∨(∃ xs,SqT X.K H p xs∧k=!xs.isEmpty)∨∃ kvs,H p=some (.dK kvs)∧k=!kvs.isEmpty:=e
  rcases e' with ⟨xs,hx,e'⟩ | ⟨xs,hx,e'⟩ | ⟨kvs,hx,e'⟩
  ·subst e'
   obtain ⟨its,r,pl,hz⟩:=I.list hx
   have hlen:=r.length
   exact wpAny_truthy_list pl.isList (by simp only [List.size_toArray];omega) ⟨H,I.tok _,by rw [nP r];exact q⟩
  ·subst e'
   obtain ⟨its,r,pl,hz⟩:=I.tuple hx
   have hlen:=r.length
   exact truthy_tuple pl (by simp only [List.size_toArray];omega) ⟨H,I.tok _,by rw [nP r];exact q⟩
  ·subst e'
   obtain ⟨hz,hS,vs,r,m⟩:kvs.length≤sizeLine∧(p == sysModules)=false∧∃ vs,KV kvs vs∧s.heap.DictOf (mixKind X.prog X.w) p vs:=I.hok p _ hx
   have hlen:kvs.length=vs.length:=Paired.length r
   exact wpAny_truthy_dict hS m (by omega) ⟨H,I.tok _,by rw [qFz r];exact q⟩
 | _=>exact (show False from e).elim
theorem pt_truth (ha:PE X a ta) (he:∀ whole,isTrue a X.env whole=(do let v ← whole;standAt a.pos;holding [v] (truthy v))) :
  PT X a (fun σ H Q=>ta σ H fun x H'=>∃ k,TruV X.K x H' k∧Q k H'):=by
 intro pins s σ H Q I h
 exact isTrue_plain (thn (ha pins s σ H _ I h) fun v s1 ⟨x,H1,I1,r1,q1⟩=>tru_ok pins s1 σ H1 x v Q I1 r1 q1) (he _)
theorem op_add_str:OpR X (binaryOp .Add) (fun x y H Q=>∃ i j,x=.str i∧y=.str j∧i.length+j.length≤sizeLine∧Q (.str (i++j)) H):=by
 intro pins s σ H x y v u Q I rx ry h
 obtain ⟨i,j,rfl,rfl,hz,q⟩:=h
 obtain ⟨t,rfl⟩:=rx
 obtain ⟨t',rfl⟩:=ry
 exact add_str (fun t' tk=>⟨.str (i++j),H,I.tok _,⟨_,rfl⟩,q⟩) hz
theorem vals1 {x:V} {us:List Value} (r:Vals [x] us):∃ u,us=[u]∧RelV x u:=by
 cases r with
 | cons r1 r2=>cases r2;exact ⟨_,rfl,r1⟩
theorem eN {x y:V} {us:List Value} (r:Vals [x,y] us):∃ u w',us=[u,w']∧RelV x u∧RelV y w':=by
 cases r with
 | cons r1 r2 =>
  cases r2 with
  | cons r3 r4=>cases r4;exact ⟨_,_,rfl,r1,r3⟩
theorem call_max2 (hc:X.calm=true):CallR X (.builtin "max") (fun xs H Q=>∃ i j,xs=[.int i,.int j]∧Q (.int (if j > i then j else i)) H):=by
 intro pins s σ H xs us Q I r h
 obtain ⟨i,j,rfl,q⟩:=h
 obtain ⟨u,w',rfl,⟨t,rfl⟩,⟨t',rfl⟩⟩:=eN r
 refine max_two_ints (I.ok.hd hc) fun h' tk k=>⟨_,H,I.kept k,?_,q⟩
 by_cases hj:j > i
 ·rw [if_pos hj,if_pos hj];exact ⟨_,rfl⟩
 ·rw [if_neg hj,if_neg hj];exact ⟨_,rfl⟩
theorem call_min2 (hc:X.calm=true):CallR X (.builtin "min") (fun xs H Q=>∃ i j,xs=[.int i,.int j]∧Q (.int (if j<i then j else i)) H):=by
 intro pins s σ H xs us Q I r h
 obtain ⟨i,j,rfl,q⟩:=h
 obtain ⟨u,w',rfl,⟨t,rfl⟩,⟨t',rfl⟩⟩:=eN r
 refine min_two_ints (I.ok.hd hc) fun h' tk k=>⟨_,H,I.kept k,?_,q⟩
 by_cases hj:j<i
 ·rw [if_pos hj,if_pos hj];exact ⟨_,rfl⟩
 ·rw [if_neg hj,if_neg hj];exact ⟨_,rfl⟩
theorem call_int1:CallR X (.type "int") (fun xs H Q=>(∃ i,xs=[.int i]∧Q (.int i) H)∨∃ k,xs=[.bl k]∧Q (.int (if k then 1 else 0)) H):=by
 intro pins s σ H xs us Q I r h
 rcases h with ⟨i,rfl,q⟩ | ⟨k,rfl,q⟩
 ·obtain ⟨u,rfl,t,rfl⟩:=vals1 r
  exact call_int_int ⟨.int i,H,I,⟨_,rfl⟩,q⟩
 ·obtain ⟨u,rfl,r1⟩:=vals1 r
  cases r1
  exact call_int_bool ⟨.int (if k then 1 else 0),H,I.tok _,⟨_,rfl⟩,q⟩
noncomputable def qJa (K:PySem.W.Frag) (x:V) (H:Hp) (n:Nat):Prop :=
 match x with
 | .str y=>y.length≤sizeLine∧n=y.length
 | .byt y=>y.size≤sizeLine∧n=y.size
 | .ref p=>(∃ xs,SqL K H p xs∧n=xs.length)∨∃ xs,SqT K H p xs∧n=xs.length
 | _=>False
theorem call_len:CallR X (.builtin "len") (fun xs H Q=>∃ x n,xs=[x]∧qJa X.K x H n∧Q (.int n) H):=by
 intro pins s σ H xs us Q I r h
 obtain ⟨x,n,rfl,e,q⟩:=h
 obtain ⟨u,rfl,rx⟩:=vals1 r
 have hl:=vO
 have hs:sizeLine=16777216:=sizeLine_eq
 cases x with
 | str y =>
  obtain ⟨t,rfl⟩:=rx
  obtain ⟨hy,e'⟩:y.length≤sizeLine∧n=y.length:=e
  subst e'
  exact len_str (by omega) ⟨.int _,H,I.tok _,⟨_,rfl⟩,q⟩
 | byt y =>
  obtain ⟨t,rfl⟩:=rx
  obtain ⟨hy,e'⟩:y.size≤sizeLine∧n=y.size:=e
  subst e'
  exact PySem.W.len_bytes (by omega) ⟨.int _,H,I.tok _,⟨_,rfl⟩,q⟩
 | ref p =>
  cases rx
  have e':(∃ xs,SqL X.K H p xs∧n=xs.length)∨∃ xs,SqT X.K H p xs∧n=xs.length:=e
  rcases e' with ⟨xs,hx,e'⟩ | ⟨xs,hx,e'⟩
  ·subst e'
   obtain ⟨its,r',pl,hz⟩:=I.list hx
   have hlen:=r'.length
   exact Calls.call_len_list pl.isList (by simp only [List.size_toArray];omega) ⟨.int xs.length,H,I.tok _,⟨_,by simp only [List.size_toArray];rw [hlen]⟩,q⟩
  ·subst e'
   obtain ⟨its,r',pl,hz⟩:=I.tuple hx
   have hlen:=r'.length
   exact len_tuple pl (by simp only [List.size_toArray];omega) ⟨.int xs.length,H,I.tok _,⟨_,by simp only [List.size_toArray];rw [hlen]⟩,q⟩
 | _=>exact (show False from e).elim
end
end L2
namespace L2
open PySem PySem.Spec PyProof.Rows
structure ObjM (h:Heap) (x dx C:Addr) (mA:Str→Option Value):Prop where
 obj:h.get? x=some (PySem.W.instObj C dx)
 ns:h.Ns1 dx mA
 ne:dx≠x
theorem qE9 {h:Heap} {dx:Addr} {mA:Str→Option Value} (n:h.Ns1 dx mA):∃ od,h.get? dx=some od∧∀ name,PySem.W.lookIn name od=some (mA name):=by
 obtain ⟨o,es,ep,ho,hd,hk,_,hm⟩:=n
 refine ⟨o,ho,fun name=>?_⟩
 have e:=hm name
 unfold nsFind findBy at e
 rw [← Array.find?_toList] at e
 unfold PySem.W.lookIn
 rw [hd]
 dsimp only
 split
 ·rename_i y q
  rw [q] at e
  exact congrArg some e
 ·rename_i q
  rw [q] at e
  have a:es.toList.any (·.refKey)=false:=by
   rw [List.any_eq_false]
   intro y hy
   obtain ⟨z,t,hkey⟩:=hk y (Array.mem_toList_iff.mp hy)
   simp [DictEntry.refKey,hkey]
  have a':¬ es.toList.any (·.refKey)=true:=by rw [a];exact Bool.false_ne_true
  rw [if_neg a']
  exact congrArg some e
theorem ObjM.look {h:Heap} {x dx C:Addr} {mA:Str→Option Value} (I:ObjM h x dx C mA):∃ od,PySem.W.InstAt h x (PySem.W.instObj C dx) C (some od)∧∀ name,PySem.W.lookIn name od=some (mA name) :=
 let ⟨od,ho,hl⟩:=qE9 I.ns
 ⟨od,⟨I.obj,rfl,rfl,ho⟩,hl⟩
section
variable {prog:Program} {w:World} {A:Around} {E:Value→Shared→Prop} {s:Shared} {K:PySem.W.Frag} {x dx C f:Addr} {mA:Str→Option Value} {name:Str} {v:Value}
theorem qGf {expr:Bool} {Q:Value→Shared→Prop} (X:K.In s.heap) (I:ObjM s.heap x dx C mA) (hg:PySem.W.plainGet K C name=true) (hh:PySem.W.hasDictIn K C=true)
  (ha:PySem.W.findIn K (.ref C) name=some none) (hv:mA name=some v) (hv':PySem.W.handedIn v=true) (h:Q v { s with toks:=s.toks+1 }) :
  wpAny (model prog w) A (getAttr (.ref x) name expr) Q E s:=by
 obtain ⟨od,J,hl⟩:=I.look
 exact PySem.W.get_value X J (PySem.W.plainGet_of hg).1 (PySem.W.findObj_own hh ha rfl (by rw [hl,hv])) hv' h
theorem qGe {pl:Sem Bool} {Q:Value × List Value→Shared→Prop} (X:K.In s.heap) (I:ObjM s.heap x dx C mA) (hg:PySem.W.plainGet K C name=true)
  (hf:PySem.W.findIn K (.ref C) name=some (some (.ref f))) (ht:PySem.W.isFn K (.ref f)=true) (hv:mA name=none) (h:Q (.ref f,[.ref x]) s) :
  wpAny (model prog w) A (getMethod (.ref x) name pl) Q E s:=by
 obtain ⟨od,J,hl⟩:=I.look
 exact PySem.W.method_fn X J (PySem.W.plainGet_of hg).1 (PySem.W.plainGet_of hg).2 hf (beq_iff_eq.mp ht) (by show (PySem.W.lookIn name od).map (·.isSome)=some false;rw [hl,hv];rfl) h
theorem qCF {ns:List Str} {Q:Unit→Shared→Prop} (X:K.In s.heap) (I:ObjM s.heap x dx C mA)
  (hs:PySem.W.findIn K (.ref C) "__setattr__"=some (some (.builtin "object.__setattr__"))) (hp:PySem.W.plainOver K C=true) (ht:PySem.W.takerIn K C name=some none) (hh:PySem.W.hasDictIn K C=true)
  (hw:PySem.Within mA ns) (hsz:ns.length≤sizeLine)
  (h:∀ h',ObjM h' x dx C (fun y=>if y=name then some v else mA y)→Heap.SameBut dx s.heap h'→Q () { s with heap:=h',toks:=s.toks+2 }) :
  wpAny (model prog w) A (setAttr (.ref x) name v) Q E s:=by
 obtain ⟨od,J,hl⟩:=I.look
 refine PySem.W.set_plain X J hs (PySem.W.osa_open (s:={ s with toks:=s.toks+1 }) (r:=none) X J hp ht fun b=>?_)
 obtain ⟨cd,hc,hd'⟩:=PySem.W.any_some hh
 have hx:s.heap.get? x=some ⟨.ref C,some dx,.plain,#[]⟩:=I.obj
 refine wpAny_bind (wpAny_pure (wpAny_bind (wpAny_bind (wpAny_loadPart hx (wpAny_bind (PySem.W.Looks.here (s:={ s with toks:=s.toks+1 }) (PySem.W.looks_clsIn X hc) ?_))))))
 rw [hd']
 refine wpAny_pure (a:=some dx) (wpAny_bind (wpAny_pure (wpAny_bind ?_)))
 refine wpAny_nsSet1 (s:={ s with toks:=s.toks+1 }) I.ns fun h' hn2 hs2=>?_
 obtain ⟨oD,esD,epD,hoD,hdD,hcD⟩:=hn2.count (PySem.Within.cons name v hw)
 refine wpAny_bind (wpAny_lookBehind hoD (by rw [hdD];exact pastItsLine_dict (Nat.le_trans hcD (by rw [List.length_cons];omega))) ?_)
 exact wpAny_pure (h _ ⟨(hs2.2 _ (Ne.symm I.ne)).trans I.obj,hn2,I.ne⟩ hs2)
theorem make_map {R:Result→Shared→Prop} {vs:List Value} {kw:List (Str × Value)} (X:K.In s.heap) (hm:PySem.W.makesIn K C=true)
  (hi:PySem.W.findIn K (.ref C) "__init__"=some (some (.ref f))) (hf:PySem.W.typeIn K (.ref f)=some (.type "function"))
  (h:codeAny (model prog w) (A.under (.builtin "type.__call__" ⟨.ref C::vs,kw⟩)) (.call (.ref f) ⟨.ref (s.heap.objs.size+1)::vs,kw⟩) (PySem.W.InitBack (s.heap.objs.size+1) R)
   { s with heap:=(s.heap.push PySem.W.emptyDict).push (PySem.W.instObj C s.heap.objs.size) }) :
  codeAny (model prog w) A (.call (.ref C) ⟨vs,kw⟩) R s:=by
 obtain ⟨hh,g,d,t,os⟩:=s
 exact PySem.W.make_core (PySem.W.makes_of X hm) (PySem.W.looks_findIn X hi) (fun self=>PySem.W.bind_fn X self hf) (.inl rfl) h
end
noncomputable def putF (f:Str) (v:V):List (Str × V)→List (Str × V)
 | []=>[(f,v)]
 | (g,x)::r=>if g=f then (g,v)::r else (g,x)::putF f v r
theorem mV (f g:Str) (v:V):∀ fs:List (Str × V),(putF f v fs).lookup g=if g=f then some v else fs.lookup g
 | []=>by
  show List.lookup g [(f,v)]=_
  by_cases h:g=f
  ·have hb:(g == f)=true:=beq_iff_eq.mpr h
   simp only [List.lookup,hb,if_pos h]
  ·have hb:(g == f)=false:=beq_eq_false_iff_ne.mpr h
   simp only [List.lookup,hb,if_neg h]
 | (k,x)::r=>by
  have ih:=mV f g v r
  rw [show putF f v ((k,x)::r)=(if k=f then (k,v)::r else (k,x)::putF f v r) from rfl]
  by_cases hk:k=f
  ·rw [if_pos hk]
   by_cases h:g=k
   ·have hb:(g == k)=true:=beq_iff_eq.mpr h
    simp only [List.lookup,hb,if_pos (h.trans hk)]
   ·have hb:(g == k)=false:=beq_eq_false_iff_ne.mpr h
    simp only [List.lookup,hb,if_neg (fun e:g=f=>h (e.trans hk.symm))]
  ·rw [if_neg hk]
   by_cases h:g=k
   ·have hb:(g == k)=true:=beq_iff_eq.mpr h
    simp only [List.lookup,hb,if_neg (fun e:g=f=>hk (h.symm.trans e))]
   ·have hb:(g == k)=false:=beq_eq_false_iff_ne.mpr h
    simp only [List.lookup,hb]
    exact ih
theorem bR (f:Str) (v:V):∀ fs:List (Str × V),f∈(putF f v fs).map (·.1)∧∀ g,g∈fs.map (·.1)→g∈(putF f v fs).map (·.1)
 | []=>⟨by simp [putF],fun g h=>by simp at h⟩
 | (k,x)::r=>by
  obtain ⟨i1,i2⟩:=bR f v r
  rw [show putF f v ((k,x)::r)=(if k=f then (k,v)::r else (k,x)::putF f v r) from rfl]
  by_cases hk:k=f
  ·rw [if_pos hk]
   subst hk
   exact ⟨by simp,fun g h=>by simpa using h⟩
  ·rw [if_neg hk]
   refine ⟨?_,fun g h=>?_⟩
   ·rw [List.map_cons]
    exact List.mem_cons_of_mem _ i1
   ·rw [List.map_cons] at h ⊢
    rcases List.mem_cons.mp h with e | e
    ·exact List.mem_cons.mpr (.inl e)
    ·exact List.mem_cons_of_mem _ (i2 g e)
theorem mW (f:Str) (v:V):∀ fs:List (Str × V),(putF f v fs).length≤fs.length+1
 | []=>by simp [putF]
 | (k,x)::r=>by
  have ih:=mW f v r
  rw [show putF f v ((k,x)::r)=(if k=f then (k,v)::r else (k,x)::putF f v r) from rfl]
  by_cases hk:k=f
  ·rw [if_pos hk,List.length_cons,List.length_cons];omega
  ·rw [if_neg hk,List.length_cons,List.length_cons];omega
theorem RelO.some_of {v:V} {o:Option Value} (r:RelO (some v) o):∃ u,o=some u∧RelV v u:=by
 cases o with
 | none=>exact (show False from r).elim
 | some u=>exact ⟨u,rfl,r⟩
theorem RelO.none_of {o:Option Value} (r:RelO none o):o=none:=by
 cases o with
 | none=>rfl
 | some u=>exact (show False from r).elim
theorem qGb {v:V} {u:Value} (r:RelV v u):PySem.W.handedIn u=true:=by
 cases v with
 | non=>cases (show u=Value.none from r);rfl
 | bl b=>cases (show u=Value.bool b from r);rfl
 | int i=>obtain ⟨t,e⟩:=(show ∃ t,u=Value.int i t from r);cases e;rfl
 | str x=>obtain ⟨t,e⟩:=(show ∃ t,u=Value.str x t from r);cases e;rfl
 | byt b=>obtain ⟨t,e⟩:=(show ∃ t,u=Value.bytes b t from r);cases e;rfl
 | flt b=>obtain ⟨t,e⟩:=(show ∃ t,u=Value.float b t from r);cases e;rfl
 | ref a=>cases (show u=Value.ref a from r);rfl
 | ty n=>cases (show u=Value.type n from r);rfl
section
variable {P:Program} {w:World} {H H':Hp} {h h':Heap} {a C dx:Addr} {fs fs':List (Str × V)}
theorem cC (hok:HOk P w H h) (e:H a=some (.ins C dx fs)):∃ mA,ObjM h a dx C mA∧(∀ f,RelO (fs.lookup f) (mA f))∧PySem.Within mA (fs.map (·.1))∧fs.length≤1000∧H dx=some (.own a):=by
 obtain ⟨d,z,ne,ob,mA,n,r,q⟩:=(show ObjOk P w H h a (.ins C dx fs) from hok a _ e)
 exact ⟨mA,⟨ob,n,ne⟩,r,q,z,d⟩
end
structure Cls (K:PySem.W.Frag) (C:Addr):Prop where
 pg:PySem.W.plainGet K C Str.empty=true
 hd:PySem.W.hasDictIn K C=true
 po:PySem.W.plainOver K C=true
 sa:PySem.W.findIn K (.ref C) "__setattr__"=some (some (.builtin "object.__setattr__"))
theorem Cls.get {K:PySem.W.Frag} {C:Addr} (c:Cls K C) (f:Str):PySem.W.plainGet K C f=true:=c.pg
noncomputable def NoAttr (K:PySem.W.Frag) (C:Addr) (f:Str):Prop:=PySem.W.findIn K (.ref C) f=some none
theorem NoAttr.taker {K:PySem.W.Frag} {C:Addr} {f:Str} (n:NoAttr K C f):PySem.W.takerIn K C f=some none:=by
 unfold PySem.W.takerIn
 rw [show PySem.W.findIn K (.ref C) f=some none from n]
 rfl
structure Meth (K:PySem.W.Frag) (C:Addr) (m:Str) (f:Addr):Prop where
 at_:PySem.W.findIn K (.ref C) m=some (some (.ref f))
 fn:PySem.W.isFn K (.ref f)=true
 kp:PySem.W.keepIn K (.ref f)=true
section
variable {X:Cx} {pins:List (Addr × Obj)} {σ:St} {H:Hp} {s:Shared} {a C dx:Addr} {fs:List (Str × V)} {f:Str} {v:V} {A:Around} {E:Value→Shared→Prop}
theorem qGd {b:Bool} {Q:Value→Shared→Prop} (I:Inv X pins σ H s) (e:H a=some (.ins C dx fs)) (c:Cls X.K C) (n:NoAttr X.K C f) (l:fs.lookup f=some v)
  (h:∀ u s',Inv X pins σ H s'→RelV v u→Q u s'):wpAny (model X.prog X.w) A (getAttr (.ref a) f b) Q E s:=by
 obtain ⟨mA,O,r,_,_,_⟩:=cC I.hok e
 obtain ⟨u,hu,ru⟩:=RelO.some_of (v:=v) (o:=mA f) (by rw [← l];exact r f)
 exact qGf I.kIn O (c.get f) c.hd n hu (qGb ru) (h u _ (I.tok _) ru)
theorem getmeth_ok {m:Str} {g:Addr} {pl:Sem Bool} {Q:Value × List Value→Shared→Prop} (I:Inv X pins σ H s) (e:H a=some (.ins C dx fs)) (c:Cls X.K C) (k:Meth X.K C m g) (l:fs.lookup m=none)
  (h:Q (.ref g,[.ref a]) s):wpAny (model X.prog X.w) A (getMethod (.ref a) m pl) Q E s:=by
 obtain ⟨mA,O,r,_,_,_⟩:=cC I.hok e
 have hn:mA m=none:=RelO.none_of (by rw [← l];exact r m)
 exact qGe I.kIn O (c.get m) k.at_ k.fn hn h
theorem qCD {y:V} {u:Value} {Q:Unit→Shared→Prop} (I:Inv X pins σ H s) (e:H a=some (.ins C dx fs)) (c:Cls X.K C) (n:NoAttr X.K C f) (hl:fs.length<1000) (ry:RelV y u)
  (h:∀ s',Inv X pins σ (upd H a (.ins C dx (putF f y fs))) s'→Q () s'):wpAny (model X.prog X.w) A (setAttr (.ref a) f u) Q E s:=by
 obtain ⟨mA,O,r,wi,_,ho⟩:=cC I.hok e
 have hz:(fs.map (·.1)).length≤sizeLine:=by rw [List.length_map,sizeLine_eq];omega
 refine qCF I.kIn O c.sa c.po n.taker c.hd wi hz fun h' O' sb=>h _ ?_
 have hd:∃ o,h'.get? dx=some o:=let ⟨o,_,_,e',_⟩:=O'.ns;⟨o,e'⟩
 refine I.write (x:=a) (e:=dx) (by rw [e];exact True.intro) (.inr ho) (fun b q hb z=>(sb.2 b hb).trans z) hd ?_
 refine ⟨by rw [qD O.ne];exact ho,?_,O.ne,O'.obj,_,O'.ns,fun g=>?_,fun g hg=>?_⟩
 ·have:=mW f y fs;omega
 ·show RelO ((putF f y fs).lookup g) (if g=f then some u else mA g)
  rw [mV]
  by_cases q:g=f
  ·rw [if_pos q,if_pos q];exact ry
  ·rw [if_neg q,if_neg q];exact r g
 ·by_cases q:g=f
  ·rw [q];exact (bR f y fs).1
  ·refine (bR f y fs).2 g (wi g fun z=>hg ?_)
   show (if g=f then some u else mA g)=none
   rw [if_neg q];exact z
theorem Inv.made (I:Inv X pins σ H s):Inv X pins σ (upd (upd H s.heap.objs.size (.own (s.heap.objs.size+1))) (s.heap.objs.size+1) (.ins C s.heap.objs.size []))
  { s with heap:=(s.heap.push PySem.W.emptyDict).push (PySem.W.instObj C s.heap.objs.size) }:=by
 have e1:(s.heap.push PySem.W.emptyDict).get? s.heap.objs.size=some PySem.W.emptyDict:=Heap.get?_push_size s.heap rfl
 have e2:((s.heap.push PySem.W.emptyDict).push (PySem.W.instObj C s.heap.objs.size)).get? (s.heap.objs.size+1)=some (PySem.W.instObj C s.heap.objs.size):=by
  have:=Heap.get?_push_size (s.heap.push PySem.W.emptyDict) (o:=PySem.W.instObj C s.heap.objs.size) rfl
  rwa [Heap.size_push] at this
 have e3:(s.heap.push PySem.W.emptyDict).Ns s.heap.objs.size (fun _=>none):=⟨PySem.W.emptyDict,#[],_,e1,rfl,(fun e he=>absurd he (by simp)),fun _=>rfl⟩
 have I1:=I.laid (a:=s.heap.objs.size) (o:=.own (s.heap.objs.size+1)) (h':=s.heap.push PySem.W.emptyDict) (t':=s.toks) (fun b u q=>Heap.get?_push_of_some _ q) (Nat.le_refl _) ⟨_,e1⟩
 refine I1.laid (a:=s.heap.objs.size+1) (o:=.ins C s.heap.objs.size []) (t':=s.toks) (fun b u q=>Heap.get?_push_of_some _ q) (Nat.le_of_eq (Heap.size_push _ _)) ?_
 have ne:s.heap.objs.size≠s.heap.objs.size+1:=Nat.ne_of_lt (Nat.lt_succ_self _)
 refine ⟨by rw [qD ne,qF],Nat.zero_le _,ne,e2,fun _=>none,(Heap.Ns1.of_empty e3).at fun o q=>Heap.get?_push_of_some _ q,fun _=>True.intro,fun y hy=>absurd rfl hy⟩
theorem qJO {prog:Program} {w:World} {env:Env} {e:Expr} {f:Str} {pos:Pos} {s:Shared} {Q:Value→Shared→Prop} (hb:attributeBase e f env (eval e env)=eval e env)
  (h:wpAny (model prog w) A (eval e env) (fun o s₁=>wpAny (model prog w) A (getAttr o f true) Q E s₁) E s):wpAny (model prog w) A (eval (.Attribute e f pos) env) Q E s :=
 Attribute_any_ h (by rw [arm_eval_Attribute,hb])
end
noncomputable def qBN (K:PySem.W.Frag) (ta:TE) (f:Str):TE:=fun σ H Q=>ta σ H fun x H1=>∃ a C dx fs v,x=.ref a∧H1 a=some (.ins C dx fs)∧Cls K C∧NoAttr K C f∧fs.lookup f=some v∧Q v H1
noncomputable def qCm (K:PySem.W.Frag) (ta tv:TE) (f:Str):TS:=fun D σ H=>tv σ H fun y H1=>ta σ H1 fun x H2=>∃ a C dx fs,x=.ref a∧H2 a=some (.ins C dx fs)∧Cls K C∧NoAttr K C f∧fs.length<1000 ∧
 D.nx σ (upd H2 a (.ins C dx (putF f y fs)))
section
variable {X:Cx} {o e value:Expr} {f:Str} {pos pos' tpos:Pos} {ta tv:TE}
theorem pe_fld (he:PE X e ta) (hb:attributeBase e f X.env (eval e X.env)=eval e X.env):PE X (.Attribute e f pos) (qBN X.K ta f):=by
 intro pins s σ H Q I h
 refine qJO hb (thn (he pins s σ H _ I h) fun u s1 ⟨x,H1,I1,rx,a,C,dx,fs,v,ex,ea,c,n,l,q⟩=>?_)
 subst ex
 obtain rfl:u=Value.ref a:=rx
 exact qGd I1 ea c n l fun u' s2 I2 ru=>⟨v,H1,I2,ru,q⟩
theorem ps_fld (ha:PE X o ta) (hv:PE X value tv) (hs:swapsWith value (some (.Attribute o f pos')) pos.line X.env=pure false):PS X (.Assign [.Attribute o f pos'] value pos) (qCm X.K ta tv f):=by
 intro pins s σ H D I h
 refine plainObj_wpAny_Assign_Attribute (thn (hv pins s σ H _ I h) fun u s1 ⟨y,H1,I1,ry,q⟩=>thn (ha pins s1 σ H1 _ I1 q) fun ov s2 ⟨x,H2,I2,rx,a,C,dx,fs,ex,ea,c,n,l,q2⟩=>?_) hs
 subst ex
 obtain rfl:ov=Value.ref a:=rx
 exact qCD I2 ea c n l ry fun s3 I3=>⟨σ,_,I3,q2⟩
end
section
variable {X:Cx} {pins:List (Addr × Obj)} {σ:St} {H:Hp} {s:Shared} {A:Around} {E:Value→Shared→Prop} {Q:Value→Shared→Prop} {c:Value} {b:Bool}
end
end L2
namespace L2
open PySem PySem.Spec PyProof.Rows
structure Room (k:Nat) (A:Around):Prop where
 hd:A.handled=none
 dp:A.depth+3*k+5<recursionLimit
 un:A.units+16*k+200<cLine
theorem Room.mono {j k:Nat} {A:Around} (r:Room k A) (h:j≤k):Room j A:=⟨r.hd,by have:=r.dp;omega,by have:=r.un;omega⟩
theorem Room.deeper {k:Nat} {A:Around} (r:Room (k+1) A) (env:Env):Room k (A.deeper env) :=
 ⟨r.hd,by have:=r.dp;show A.depth+1+3*k+5<_;omega,by have:=r.un;show A.units+3+16*k+200<_;omega⟩
theorem Room.in1 {k:Nat} {A:Around} (r:Room (k+1) A):Room k A.in1 :=
 ⟨r.hd,by have:=r.dp;show A.depth+3*k+5<_;omega,by have:=r.un;show A.units+1+16*k+200<_;omega⟩
theorem qEt {A:Around} {C:Addr} {us:List Value} {kw:List (Str × Value)}:(A.under (.builtin "type.__call__" ⟨.ref C::us,kw⟩)).depth=A.depth+1:=by
 first | rfl | simp [Around.under,Code.weight,Code.isCreation,Code.isGuard,Code.isCaller,Code.frames,Code.isFrame,guardIds]
theorem qEr {A:Around} {C:Addr} {us:List Value} {kw:List (Str × Value)}:(A.under (.builtin "type.__call__" ⟨.ref C::us,kw⟩)).units=A.units+1:=by
 first | rfl | simp [Around.under,Code.cUnits,Code.frames,Code.isFrame]
theorem Room.make {k:Nat} {A:Around} (r:Room (k+1) A) (C:Addr) (us:List Value) (kw:List (Str × Value)):Room k (A.under (.builtin "type.__call__" ⟨.ref C::us,kw⟩)) :=
 ⟨r.hd,by have:=r.dp;rw [qEt];omega,by have:=r.un;rw [qEr];omega⟩
theorem Room.depth {k:Nat} {A:Around} (r:Room k A):A.depth<recursionLimit:=by have:=r.dp;omega
theorem Room.units {k:Nat} {A:Around} (r:Room k A):A.units+64<cLine:=by have:=r.un;omega
noncomputable def tNil:TA:=fun _ H Q=>Q [] H
noncomputable def tCons (ta:TE) (tr:TA):TA:=fun σ H Q=>ta σ H fun x H1=>tr σ H1 fun xs H2=>Q (x::xs) H2
section
variable {X:Cx} {e:Expr} {es:List Expr} {te:TE} {t:TA} {pos:Pos}
theorem pa_nil:PA X [] tNil:=fun _ _ _ _ H Q I h=>Calls.spliced_nil ⟨[],H,I,.nil,h⟩
theorem pa_cons (ha:PE X e te) (hr:PA X es t) (hs:starEach (e::es) X.env=(false,eval e X.env)::starEach es X.env:=by rfl):PA X (e::es) (tCons te t):=by
 intro pos pins s σ H Q I h
 rw [hs]
 show wpAny _ _ (spliced ((false,eval e X.env)::backTo pos (starEach es X.env))) _ _ s
 refine Calls.spliced_cons (thn (ha pins s σ H _ I h) fun u s1 ⟨x,H1,I1,r1,q1⟩=>?_)
 exact thn (hr pos pins s1 σ H1 _ I1 q1) fun us s2 ⟨xs,H2,I2,r2,q2⟩=>⟨x::xs,H2,I2,.cons r1 r2,q2⟩
noncomputable def qBB (t:TA):TE:=fun σ H Q=>t σ H fun xs H1=>xs.length≤sizeLine∧∀ p,H1 p=none→Q (.ref p) (upd H1 p (.tup xs))
noncomputable def qBK (t:TA):TE:=fun σ H Q=>t σ H fun xs H1=>xs.length≤sizeLine∧∀ p,H1 p=none→Q (.ref p) (upd H1 p (.lst xs))
theorem pe_tup {x1} (h:PA X es t):PE X (.Tuple es x1 pos) (qBB t):=by
 intro pins s σ H Q I hq
 refine wpAny_Tuple_spliced (thn (h pos pins s σ H _ I hq) fun us s1 ⟨xs,H1,I1,r,z,q⟩=>⟨by rw [← r.length];exact z,?_⟩)
 have hf:H1 s1.heap.objs.size=none:=I1.hok.fresh (Nat.le_refl _)
 refine ⟨.ref s1.heap.objs.size,upd H1 s1.heap.objs.size (.tup xs),I1.laid (t':=s1.toks) (fun b u e=>Heap.get?_push_of_some _ e) (Nat.le_refl _) ?_,rfl,q _ hf⟩
 exact ⟨z,us,r,⟨_,Heap.get?_push_size _ rfl,rfl,_,rfl⟩⟩
theorem pe_lst (h:PA X es t):PE X (.List es pos) (qBK t):=by
 intro pins s σ H Q I hq
 refine wpAny_List_spliced (thn (h pos pins s σ H _ I hq) fun us s1 ⟨xs,H1,I1,r,z,q⟩=>⟨by rw [← r.length];exact z,?_⟩)
 have hf:H1 s1.heap.objs.size=none:=I1.hok.fresh (Nat.le_refl _)
 refine ⟨.ref s1.heap.objs.size,upd H1 s1.heap.objs.size (.lst xs),I1.laid (t':=s1.toks) (fun b u e=>Heap.get?_push_of_some _ e) (Nat.le_refl _) ?_,rfl,q _ hf⟩
 exact ⟨z,us,0,r,Heap.get?_push_size _ rfl⟩
end
noncomputable abbrev Sp:=List V→Hp→VK→XK→Prop
noncomputable abbrev CXT:=List Env→Hp→Shared→XK→Value→Shared→Prop
structure Env0 (P:Program) (w:World) (K:PySem.W.Frag) (mg:Str→Option Value) (base:Heap) (A:Around) (outer:List Env) (s:Shared) (H:Hp):Prop where
 frames:A.frames=some outer
 mod:Mod K mg base
 bs:∀ b o,base.get? b=some o→s.heap.get? b=some o∧H b=none
 bsz:base.objs.size≤s.heap.objs.size
 funs:s.heap.FunFrames base outer
 frf:∀ b∈frs outer,H b=none
 hok:HOk P w H s.heap
 bare:AllBare s.gens
noncomputable def CE (outer:List Env) (P:Program) (w:World) (H:Hp) (s:Shared) (Q:VK) (u:Value) (s':Shared):Prop :=
 ∃ v H',s'.os=s.os∧AllBare s'.gens∧Un (frs outer) [] H H' s.heap s'.heap∧HOk P w H' s'.heap∧RelV v u∧Q v H'
noncomputable def CR (CX:CXT) (outer:List Env) (P:Program) (w:World) (H:Hp) (s:Shared) (Q:VK) (E:XK) (r:Result) (s':Shared):Prop :=
 match r with
 | .ok (.ret u)=>CE outer P w H s Q u s'
 | .ok _=>False
 | .error e=>CX outer H s E e s'
structure FnOk (P:Program) (w:World) (K:PySem.W.Frag) (mg:Str→Option Value) (base:Heap) (CX:CXT) (k:Nat) (f:Addr) (fd:FuncData) (ps:List Str) (sp:Sp):Prop where
 len:∀ vs H Q E,sp vs H Q E→vs.length=ps.length
 run:∀ (A:Around) (outer:List Env) (s:Shared) (H:Hp) (args:Args) (us:List Value) (vs:List V) (Q:VK) (E:XK),Room k A→Env0 P w K mg base A outer s H→BindsTo s fd args (ps.zip us)→Vals vs us→sp vs H Q E →
  codeAny (model P w) A (.call (.ref f) args) (CR CX outer P w H s Q E) s
theorem FnOk.mono {P:Program} {w:World} {K:PySem.W.Frag} {mg:Str→Option Value} {base:Heap} {CX:CXT} {j k:Nat} {f:Addr} {fd:FuncData} {ps:List Str} {sp:Sp} (F:FnOk P w K mg base CX j f fd ps sp) (h:j≤k) :
  FnOk P w K mg base CX k f fd ps sp:=⟨F.len,fun A outer s H args us vs Q E hr=>F.run A outer s H args us vs Q E (hr.mono h)⟩
theorem FnOk.imp {P:Program} {w:World} {K:PySem.W.Frag} {mg:Str→Option Value} {base:Heap} {CX:CXT} {k:Nat} {f:Addr} {fd:FuncData} {ps:List Str} {sp sp':Sp} (F:FnOk P w K mg base CX k f fd ps sp)
  (h:∀ vs H Q E,sp' vs H Q E→sp vs H Q E):FnOk P w K mg base CX k f fd ps sp' :=
 ⟨fun vs H Q E q=>F.len vs H Q E (h _ _ _ _ q),fun A outer s H args us vs Q E hr he hb hv hs=>F.run A outer s H args us vs Q E hr he hb hv (h _ _ _ _ hs)⟩
theorem Env0.make {P:Program} {w:World} {K:PySem.W.Frag} {mg:Str→Option Value} {base:Heap} {A:Around} {outer:List Env} {s:Shared} {H:Hp} (e:Env0 P w K mg base A outer s H) (C:Addr) (us:List Value) (kw:List (Str × Value)) :
  Env0 P w K mg base (A.under (.builtin "type.__call__" ⟨.ref C::us,kw⟩)) outer s H:=⟨by first | exact e.frames | (simpa [Around.under,Code.envs,Code.isFrame,pushEnvs] using e.frames),e.mod,e.bs,e.bsz,e.funs,e.frf,e.hok,e.bare⟩
theorem Env0.in1 {P:Program} {w:World} {K:PySem.W.Frag} {mg:Str→Option Value} {base:Heap} {A:Around} {outer:List Env} {s:Shared} {H:Hp} (e:Env0 P w K mg base A outer s H) :
  Env0 P w K mg base A.in1 outer s H:=⟨e.frames,e.mod,e.bs,e.bsz,e.funs,e.frf,e.hok,e.bare⟩
section
variable {X:Cx} {pins:List (Addr × Obj)} {σ:St} {H:Hp} {s s':Shared}
theorem Inv.env0 (I:Inv X pins σ H s):Env0 X.prog X.w X.K X.mg X.base X.A X.stack s H :=
 ⟨I.ok.frames,I.ok.mod,I.bs,Nat.le_trans I.ok.bsz I.sz,I.stack,I.stkFree,I.hok,I.bare⟩
theorem Inv.after {Q:VK} {u:Value} (I:Inv X pins σ H s) (h:CE X.stack X.prog X.w H s Q u s'):EP X pins σ Q u s':=by
 obtain ⟨v,H',os,bare,un,hok,r,q⟩:=h
 obtain ⟨hh,g,d,t,os'⟩:=s'
 obtain rfl:os'=s.os:=os
 exact ⟨v,H',I.call (h':=hh) (g':=g) (d':=d) (t':=t) (ch:=[]) un hok bare (fun b z=>absurd z (by simp)),r,q⟩
end
noncomputable def Binds (K:PySem.W.Frag) (fd:FuncData) (ps:List Str) (ds:List Value):Prop :=
 ∀ (s:Shared) (us:List Value),K.In s.heap→(us++ds).length=ps.length→BindsTo s fd ⟨us,[]⟩ (ps.zip (us++ds))
theorem Binds.all {K:PySem.W.Frag} {fd:FuncData} {ps:List Str} (h:∀ us:List Value,us.length=ps.length→bindArgs fd ⟨us,[]⟩=pure (ps.zip us)):Binds K fd ps []:=fun s us _ hl=>by
 rw [List.append_nil] at hl ⊢
 exact .of_eq (h us hl)
section
variable {X:Cx} {CX:CXT} {k:Nat} {f C:Addr} {fd:FuncData} {ps:List Str} {sp:Sp} {dvs:List V} {ds:List Value} {E:XK} {x m:Str} {p pos apos:Pos} {e o:Expr} {es:List Expr} {ta:TE} {t:TA}
structure Mk (K:PySem.W.Frag) (C f:Addr):Prop where
 makes:PySem.W.makesIn K C=true
 init:PySem.W.findIn K (.ref C) "__init__"=some (some (.ref f))
 fn:PySem.W.isFn K (.ref f)=true
 kp:PySem.W.keepIn K (.ref C)=true
end
section
variable {X:Cx} {CX:CXT} {k:Nat} {f C:Addr} {fd:FuncData} {ps ks:List Str} {sp:Sp} {E:XK} {x m:Str} {p pos apos kpos:Pos} {e o:Expr} {es:List Expr} {kws:List Keyword} {te ta:TE} {t tk:TA} {nm:Option Str}
variable {g:List Value→List Value→List Value} {gV:List V→List V→List V}
end
structure FnScope (N P:List Str) (sc:Scope):Prop where
 kind:sc.kind=.function
 co:sc.isCoroutine=false
 gen:sc.isGenerator=false
 nd:N.Nodup
 pre:N.take P.length=P
 par:∀ x∈P,sc.names.lookup x=some .local∨sc.names.lookup x=some .cell
 nofree:∀ y∈sc.names,y.2≠.free
theorem rS {kindOf:Str→Option NameKind} {x:Str}:∀ {binds:List (Str × Value)} {m:Str→Option Value},(∀ v,(x,v)∉binds)→bindL kindOf binds m x=m x
 | [],_,_=>rfl
 | (n,v)::r,m,h=>by
  unfold bindL
  rw [rS fun w hw=>h w (List.mem_cons_of_mem _ hw)]
  split
  ·have:x≠n:=by rintro rfl;exact h v List.mem_cons_self
   simp [this]
  ·rfl
theorem rV {kindOf:Str→Option NameKind} {x:Str}:∀ {binds:List (Str × Value)} {m:Str→Option Value},(∀ v,(x,v)∉binds)→bindC kindOf binds m x=m x
 | [],_,_=>rfl
 | (n,v)::r,m,h=>by
  unfold bindC
  rw [rV fun w hw=>h w (List.mem_cons_of_mem _ hw)]
  split
  ·rfl
  ·have:x≠n:=by rintro rfl;exact h v List.mem_cons_self
   simp [this]
theorem rT {kindOf:Str→Option NameKind} {x:Str} {v:Value}:∀ {P:List Str} {vs:List Value} {i:Nat} {m:Str→Option Value},P.Nodup→P[i]?=some x→vs[i]?=some v→kindOf x=some .local →
  bindL kindOf (P.zip vs) m x=some v
 | [],_,_,_,_,h,_,_=>by simp at h
 | _::_,[],_,_,_,_,h,_=>by simp at h
 | p::P,w::vs,0,m,nd,h1,h2,hk=>by
  simp at h1 h2;subst h1;subst h2
  show bindL kindOf ((p,w)::P.zip vs) m p=_
  unfold bindL
  rw [rS fun v hv=>(List.nodup_cons.mp nd).1 (List.of_mem_zip hv).1,if_pos hk]
  simp
 | p::P,w::vs,i+1,m,nd,h1,h2,hk=>by
  show bindL kindOf ((p,w)::P.zip vs) m x=_
  unfold bindL
  exact rT (i:=i) (List.nodup_cons.mp nd).2 (by simpa using h1) (by simpa using h2) hk
theorem rW {kindOf:Str→Option NameKind} {x:Str} {v:Value}:∀ {P:List Str} {vs:List Value} {i:Nat} {m:Str→Option Value},P.Nodup→P[i]?=some x→vs[i]?=some v→kindOf x≠some .local →
  bindC kindOf (P.zip vs) m x=some v
 | [],_,_,_,_,h,_,_=>by simp at h
 | _::_,[],_,_,_,_,h,_=>by simp at h
 | p::P,w::vs,0,m,nd,h1,h2,hk=>by
  simp at h1 h2;subst h1;subst h2
  show bindC kindOf ((p,w)::P.zip vs) m p=_
  unfold bindC
  rw [rV fun v hv=>(List.nodup_cons.mp nd).1 (List.of_mem_zip hv).1,if_neg hk]
  simp
 | p::P,w::vs,i+1,m,nd,h1,h2,hk=>by
  show bindC kindOf ((p,w)::P.zip vs) m x=_
  unfold bindC
  exact rW (i:=i) (List.nodup_cons.mp nd).2 (by simpa using h1) (by simpa using h2) hk
noncomputable def start (N:List Str) (vs:List V):St:=vs.map some++List.replicate (N.length-vs.length) none
noncomputable def cxOf (CX:CXT) (P:Program) (w:World) (K:PySem.W.Frag) (mg:Str→Option Value) (base:Heap) (N:List Str) (qual:Str) (scope:Scope) (f:Addr) (cd:Value) (A:Around) (outer:List Env) (s:Shared) (H:Hp) (E:XK):Cx where
 prog:=P
 w:=w
 K:=K
 mg:=mg
 base:=base
 A:=A.deeper (envOfC qual scope s.heap.objs.size f cd)
 N:=N
 s₀:=s
 H₀:=H
 env:=envOfC qual scope s.heap.objs.size f cd
 outer:=outer
 stack:=envOfC qual scope s.heap.objs.size f cd::outer
 ex:=[]
 calm:=true
 fn:=fun _=>true
 pn:=[]
 xe:=fun e s'=>wpAny (model P w) (A.deeper (envOfC qual scope s.heap.objs.size f cd)) (leaving (envOfC qual scope s.heap.objs.size f cd) e) (fun _ s''=>CX outer H s E e s'') (fun e' s''=>CX outer H s E e' s'') s'
theorem rK {sc:Scope} {n:Nat} {x:Str} (h:sc.names.lookup x=some .cell):∃ c,(cellsFrom n sc.names []).lookup x=some c:=by
 have q:=PySem.W.cellsFrom_some sc.names n [] (.inl h)
 exact Option.isSome_iff_exists.mp q
theorem qF2 {CX:CXT} {P:Program} {w:World} {K:PySem.W.Frag} {mg:Str→Option Value} {base:Heap} {N ps:List Str} {qual:Str} {scope:Scope} {f:Addr} {cd:Value} {A:Around} {outer:List Env} {s s1:Shared} {H:Hp} {E:XK} {us:List Value} {vs:List V}
  (S:FnScope N ps scope) (hd:A.handled=none) (e0:Env0 P w K mg base A outer s H) (hl:vs.length=ps.length) (r:Vals vs us)
  (x:InCallC s s.heap.objs.size (bindL (envOfC qual scope s.heap.objs.size f cd).kindOf (ps.zip us) fun _=>none) (cellsFrom (s.heap.objs.size+1) scope.names []) (bindC (envOfC qual scope s.heap.objs.size f cd).kindOf (ps.zip us) fun _=>none) s1) :
  Inv (cxOf CX P w K mg base N qual scope f cd A outer s H E) [] (start N vs) H s1:=by
 have hpl:ps.length≤N.length:=by have:=congrArg List.length S.pre;rw [List.length_take] at this;omega
 obtain ⟨h1,tk,rfl,hk⟩:=x.done
 have noA:∀ b:Addr,b∉(cxOf CX P w K mg base N qual scope f cd A outer s H E).ex:=fun b z=>absurd (show b∈([]:List Addr) from z) (by simp)
 refine ⟨⟨e0.mod,S.kind,rfl,rfl,Nat.le_refl _,fun y z c h1 h2=>?_,fun y hy=>?_,fun y c _ h=>?_,fun _=>hd,Around.frames_deeper e0.frames,.inr ⟨rfl,rfl⟩,fun b z=>absurd z (noA b),e0.bs,e0.bsz,fun b _ _=>noA b,fun b z=>absurd z (noA b),e0.funs,e0.frf⟩,
  rfl,e0.bare,Un.kept hk,⟨_,x.toInCall.ns,fun i y v h1 h2 h3=>?_⟩,fun y c h=>⟨_,x.cell y c h⟩,e0.hok.fresh (Nat.le_refl _),fun y c h=>?_,fun p hp=>absurd (show p∈([]:List (Addr × Obj)) from hp) (by simp),e0.hok.kept hk,?_⟩
 ·exact name_of_addr x.apart (PySem.mem_of_lookup h1) (PySem.mem_of_lookup h2)
 ·have hy:scope.names.lookup y=some .cell∨scope.names.lookup y=some .free:=hy
  rcases hy with hy | hy
  ·exact rK hy
  ·exact absurd rfl (S.nofree _ (PySem.mem_of_lookup hy))
 ·exact Nat.le_of_lt (x.above y c (PySem.mem_of_lookup h))
 ·have hi:i<vs.length:=by
   unfold start at h2
   by_cases hi:i<vs.length
   ·exact hi
   ·rw [List.getElem?_append_right (by simpa using hi)] at h2
    rw [List.getElem?_replicate] at h2
    split at h2 <;> cases h2
  have ha:vs[i]?=some v:=by
   unfold start at h2
   rw [List.getElem?_append_left (by simpa using hi),List.getElem?_map] at h2
   cases e:vs[i]? with
   | none=>rw [e] at h2;cases h2
   | some a=>rw [e] at h2;cases h2;rfl
  obtain ⟨u,hu,rv⟩:=r.get ha
  have hp:ps[i]?=some y:=by
   rw [← S.pre,List.getElem?_take_of_lt (by omega)];exact h1
  have ndP:ps.Nodup:=by rw [← S.pre];exact S.nd.sublist (List.take_sublist _ _)
  refine ⟨u,rv,?_⟩
  rcases S.par y (List.mem_of_getElem? hp) with k | k
  ·exact .inl ⟨k,rT ndP hp hu k⟩
  ·obtain ⟨c,e⟩:=rK (n:=s.heap.objs.size+1) k
   refine .inr ⟨.inl k,c,e,?_⟩
   have q:=x.cell y c e
   rw [rW ndP hp hu (by show scope.names.lookup y≠_;rw [k];decide)] at q
   exact q
 ·exact e0.hok.fresh (Nat.le_of_lt (x.above y c (PySem.mem_of_lookup h)))
 ·unfold start
  show _=N.length
  rw [List.length_append,List.length_map,List.length_replicate]
  omega
theorem fn_of {CX:CXT} {P:Program} {w:World} {K:PySem.W.Frag} {mg:Str→Option Value} {base:Heap} {k:Nat} {f:Addr} {name qual:Str} {params:Arguments} {body:List Stmt} {scope:Scope} {dV kV doc pm cdv ct oc:Value} {an od:Option Addr}
  {osl:Array (Option Value)} {N ps:List Str} {sp:Sp} (lk:K.lookup f=some ⟨oc,od,.func (PySem.W.fnOf name qual params body scope dV kV doc pm an cdv ct),osl⟩) (hcd:PySem.W.codeIn K cdv qual=true) (S:FnScope N ps scope)
  (len:∀ vs H Q E,sp vs H Q E→vs.length=ps.length)
  (hbody:∀ (A:Around) (outer:List Env) (s:Shared) (H:Hp) (vs:List V) (Q:VK) (E:XK),Room k (A.deeper (envOfC qual scope s.heap.objs.size f cdv))→sp vs H Q E →
   ∃ t,PSs (cxOf CX P w K mg base N qual scope f cdv A outer s H E) body t∧t { nx:=fun _ H'=>Q .non H',rt:=Q } (start N vs) H) :
  FnOk P w K mg base CX (k+1) f (PySem.W.fnOf name qual params body scope dV kV doc pm an cdv ct) ps sp:=by
 refine ⟨len,fun A outer s H args us vs Q E hr e0 hb r hsp=>?_⟩
 have hl:=len _ _ _ _ hsp
 have KX:K.In s.heap:=e0.mod.kin.keeps fun b o e=>(e0.bs b o e).1
 have lim:s.heap.NoLimit:=e0.mod.nolimit.keeps fun b o e=>(e0.bs b o e).1
 have hkind:∀ y∈ps.zip us,scope.names.lookup y.1=some .local∨(scope.names.lookup y.1=some .cell∧((cellsFrom (s.heap.objs.size+1) scope.names []).lookup y.1).isSome=true):=fun ⟨n,v⟩ hy=>by
  rcases S.par n (List.of_mem_zip hy).1 with q | q
  ·exact .inl q
  ·exact .inr ⟨q,PySem.W.cellsFrom_some _ _ _ (.inl q)⟩
 refine codeAny_call_function hr.depth (KX _ _ lk) rfl S.co S.gen rfl (PySem.W.codeRec_of KX hcd) (hb _ _ _ _ ?_)
 refine wpAny_newFunctionEnv_cells S.kind hkind fun env he s1 x=>?_
 subst he
 refine ⟨lim.keeps x.toInCall.keep,codeAny_func ?_⟩
 obtain ⟨t,ht,hq⟩:=hbody A outer s H vs Q E (hr.deeper _) hsp
 have I:Inv (cxOf CX P w K mg base N qual scope f cdv A outer s H E) [] (start N vs) H s1:=qF2 S hr.hd e0 hl r x
 refine wpAny_mono (ht [] s1 (start N vs) H _ I hq) (fun fl s' hs=>?_) fun e s' hs=>hs
 have fin:∀ {σ':St} {H':Hp} {v:V} {u:Value},Inv (cxOf CX P w K mg base N qual scope f cdv A outer s H E) [] σ' H' s'→RelV v u→Q v H'→CE outer P w H s Q u s' :=
  fun {σ' H' v u} J rv q=>⟨v,H',J.os,J.bare,J.base,J.hok,rv,q⟩
 cases fl with
 | ret u =>
  obtain ⟨v,σ',H',J,rv,q⟩:=hs
  exact fin J rv q
 | next =>
  obtain ⟨σ',H',J,q⟩:=hs
  exact fin (v:=V.non) (u:=Value.none) J rfl q
 | brk =>
  obtain ⟨_,_,_,q⟩:=hs
  exact False.elim q
 | cont =>
  obtain ⟨_,_,_,q⟩:=hs
  exact False.elim q
end L2
namespace L2
open PySem PySem.Spec PyProof.Rows
section
variable {X:Cx} {x:Str} {p pos:Pos} {e:Expr} {es:List Expr} {t:TA} {id T:String} {r:List V→Hp→VK→Prop}
noncomputable def tCB (r:List V→Hp→VK→Prop) (t:TA):TE:=fun σ H Q=>t σ H fun vs H1=>r vs H1 Q
theorem pe_callB (hc:CallR X (.builtin id) r) (hg:Gl X x) (hm:X.mg x=none) (hv:bootBuiltins x=some (.builtin id)) (ha:PA X (e::es) t) (hn:x≠"__name__":=by decide) (hdb:(x == ("__debug__":Str))=false:=by decide)
  (he:starEach (e::es) X.env=(false,eval e X.env)::starEach es X.env:=by rfl) (hpl:(backTo pos (starEach es X.env)).any (·.1)=false:=by rfl):PE X (.Call (.Name x p) (e::es) [] pos) (tCB r t):=by
 intro pins s σ H Q I h
 refine wpAny_Call_Name_kw (yA I hg hm hv ?_ hn hdb)
 exact PyProof.Rows.callWith_builtin1 (thn (ha pos pins s σ H _ I h) fun us s1 ⟨vs,H1,I1,r1,q1⟩=>hc pins s1 σ H1 vs us Q I1 r1 q1) he hpl
theorem pe_callTy (hc:CallR X (.type T) r) (hg:Gl X x) (hm:X.mg x=none) (hv:bootBuiltins x=some (.type T)) (ha:PA X (e::es) t) (hn:x≠"__name__":=by decide) (hdb:(x == ("__debug__":Str))=false:=by decide)
  (he:starEach (e::es) X.env=(false,eval e X.env)::starEach es X.env:=by rfl) (hpl:(backTo pos (starEach es X.env)).any (·.1)=false:=by rfl):PE X (.Call (.Name x p) (e::es) [] pos) (tCB r t):=by
 intro pins s σ H Q I h
 refine wpAny_Call_Name_kw (yA I hg hm hv ?_ hn hdb)
 exact PyProof.Rows.callWith_type1 (thn (ha pos pins s σ H _ I h) fun us s1 ⟨vs,H1,I1,r1,q1⟩=>hc pins s1 σ H1 vs us Q I1 r1 q1) he hpl
end
end L2
namespace HT
open PySem PyProof.Rows
section
open PySem.SeqAt
open PySem.AutoSeq1 (wpAny_loadPart')
open PySem.MeetsSeq PySem.MeetsSeq2 PySem.MeetsSeq3
end
section
variable {prog:Program} {w:World} {A:Around} {E:Value→Shared→Prop} {s:Shared}
theorem cat_tup {t b:Addr} {vs ws:List Value} {Q:Value→Shared→Prop} (ht:IsTup s.heap t vs.toArray) (hb:IsTup s.heap b ws.toArray) (hv:vs≠[])
  (h1:ws=[]→Q (.ref t) s) (h2:ws≠[]→Q (.ref s.heap.objs.size) { s with heap:=s.heap.push { cls:=.type "tuple",data:=.seq (vs++ws).toArray } })
  (hsz:vs.length+ws.length≤sizeLine):wpAny (model prog w) A (binaryOp .Add (.ref t) (.ref b)) Q E s:=by
 obtain ⟨⟨cls,dd,data,sl⟩,ho,hc,n,hd⟩:=id ht
 obtain ⟨⟨cls2,dd2,data2,sl2⟩,ho2,hc2,n2,hd2⟩:=id hb
 simp only at hc hd hc2 hd2
 subst hc hd hc2 hd2
 have e:vs.toArray++ws.toArray=(vs++ws).toArray:=by simp
 by_cases hw:ws=[]
 ·exact concat_meets ⟨_,ho,rfl⟩ ⟨_,ho2,rfl⟩ noFill_tuple_add seq_tuple_add PySem.F.slot_tuple_add PySem.F.entry_tuple_add (PySem.F.args_tuple_add_2 _ _)
   (tuple_addW1 t b vs.toArray ws.toArray n n2 dd dd2 sl sl2 (by simpa using hv) (by simp [hw])) ⟨ho,ho2,h1 hw⟩
 ·refine concat_meets ⟨_,ho,rfl⟩ ⟨_,ho2,rfl⟩ noFill_tuple_add seq_tuple_add PySem.F.slot_tuple_add PySem.F.entry_tuple_add (PySem.F.args_tuple_add_2 _ _)
   (tuple_addW2 t b vs.toArray ws.toArray n n2 dd dd2 sl sl2 (by simpa using hv) (by simpa using hw) (by rw [List.size_toArray,List.size_toArray];exact hsz)) ⟨ho,ho2,?_⟩
  rw [e]
  exact h2 hw
noncomputable def sIx (n d:Nat):Option Int→Nat
 | none=>d
 | some v=>if v<0 then (v+(n:Int)).toNat else min v.toNat n
theorem sIx_le (n d:Nat) (hd:d≤n) (o:Option Int):sIx n d o≤n:=by
 cases o with
 | none=>exact hd
 | some v =>
  show (if v<0 then (v+(n:Int)).toNat else min v.toNat n)≤n
  by_cases hv:v<0
  ·rw [if_pos hv];omega
  ·rw [if_neg hv];exact Nat.min_le_right _ _
theorem rH (v:Int) (n d:Nat):(if v<0 then max (v+(n:Int)) 0 else min v (n:Int))=((sIx n d (some v):Nat):Int):=by
 show (if v<0 then max (v+(n:Int)) 0 else min v (n:Int))=(((if v<0 then (v+(n:Int)).toNat else min v.toNat n):Nat):Int)
 by_cases hv:v<0
 ·simp only [if_pos hv];omega
 ·simp only [if_neg hv];omega
theorem qJW (lo hi:Option Int) (n:Nat):Builtin.Slice.sliceAdjust lo hi 1 (n:Int)=(((sIx n 0 lo:Nat):Int),((sIx n n hi:Nat):Int)):=by
 have h1:¬ ((1:Int)<0):=by omega
 unfold Builtin.Slice.sliceAdjust
 simp only [h1,if_false]
 refine Prod.ext ?_ ?_
 ·cases lo with
  | none=>rfl
  | some v=>exact rH v n 0
 ·cases hi with
  | none=>rfl
  | some v=>exact rH v n n
theorem qDD (i j:Nat):Builtin.Slice.slicePlaces (i:Int) (j:Int) 1=j-i:=by
 unfold Builtin.Slice.slicePlaces
 have h1:(1:Int) > 0:=by omega
 simp only [h1,if_true,Int.ediv_one]
 split <;> omega
theorem hZ {v:Value} {o:Option Int} {Q:Option Int→Shared→Prop} (p:IsPart v o) (h:Q o s):wpAny (model prog w) A (Builtin.Slice.slicePartIndex v) Q E s:=by
 cases p with
 | none=>exact slicePart_none h
 | int i t=>exact slicePart_int h
theorem iA {sl:Addr} {vl vu:Value} {lo hi:Option Int} {n:Nat} {Q:Int × Int × Nat→Shared→Prop} (hs:s.heap.IsSliceOf sl vl vu .none) (pl:IsPart vl lo) (pu:IsPart vu hi)
  (h:Q (((sIx n 0 lo:Nat):Int),1,sIx n n hi-sIx n 0 lo) s):wpAny (model prog w) A (Builtin.Slice.sliceApplied (.ref sl) (pure (n:Int))) Q E s:=by
 obtain ⟨os,hos,hcs,hds⟩:=id hs
 unfold Builtin.Slice.sliceApplied Builtin.Slice.sliceFields
 refine wpAny_bind (wpAny_bind (wpAny_field hos hds (x:=vl) rfl (wpAny_bind (wpAny_field hos hds (x:=vu) rfl (wpAny_bind (wpAny_field hos hds (x:=.none) rfl (wpAny_pure ?_)))))))
 refine wpAny_bind (slicePart_none ?_)
 show wpAny _ _ (if ((1:Int) == 0)=true then _ else _) _ _ s
 rw [if_neg (by decide)]
 refine wpAny_bind (hZ pl (wpAny_bind (hZ pu (wpAny_bind (wpAny_pure ?_)))))
 show wpAny _ _ (match Builtin.Slice.sliceAdjust lo hi 1 (n:Int) with | (lo,hi)=>pure (lo,(1:Int),Builtin.Slice.slicePlaces lo hi 1)) _ _ s
 rw [qJW lo hi n]
 show wpAny _ _ (pure (((sIx n 0 lo:Nat):Int),(1:Int),Builtin.Slice.slicePlaces ((sIx n 0 lo:Nat):Int) ((sIx n n hi:Nat):Int) 1)) _ _ s
 rw [qDD]
 exact wpAny_pure h
theorem qDE (xs:Array Value) (i k:Nat):((List.range k).filterMap fun (m:Nat)=>xs[((i:Int)+(m:Int)*1).toNat]?).toArray=((xs.toList.drop i).take k).toArray:=by
 have e:(fun (m:Nat)=>xs[((i:Int)+(m:Int)*1).toNat]?)=fun m=>xs[i+m]?:=by
  funext m
  have:((i:Int)+(m:Int)*1).toNat=i+m:=by omega
  rw [this]
 rw [e]
 have:=pick_run xs i k
 rw [List.filterMap_map] at this
 have e2:((fun x=>xs[x]?) ∘ fun x=>i+x)=fun m=>xs[i+m]?:=rfl
 rw [e2] at this
 rw [this]
theorem getItem_tuple_cut {t sl:Addr} {items:Array Value} {vl vu:Value} {lo hi:Option Int} {Q:Value→Shared→Prop} (ht:IsTup s.heap t items) (hs:s.heap.IsSliceOf sl vl vu .none) (pl:IsPart vl lo) (pu:IsPart vu hi)
  (hw:¬ (sIx items.size 0 lo=0∧sIx items.size items.size hi=items.size))
  (h:Q (.ref s.heap.objs.size) { s with heap:=s.heap.push { cls:=.type "tuple",data:=.seq ((items.toList.drop (sIx items.size 0 lo)).take (sIx items.size items.size hi-sIx items.size 0 lo)).toArray } })
  (hsz:items.size≤sizeLine):wpAny (model prog w) A (getItem (.ref t) (.ref sl)) Q E s:=by
 have htake:sizeOk (.seq ((items.toList.drop (sIx items.size 0 lo)).take (sIx items.size items.size hi-sIx items.size 0 lo)).toArray):=by
  show ((items.toList.drop (sIx items.size 0 lo)).take (sIx items.size items.size hi-sIx items.size 0 lo)).toArray.size≤sizeLine
  rw [List.size_toArray,List.length_take,List.length_drop,Array.length_toList]
  omega
 have hj:sIx items.size items.size hi≤items.size:=sIx_le _ _ (Nat.le_refl _) hi
 obtain ⟨os,hos,hcs,hds⟩:=id hs
 have hTs:s.TypeIs (.ref sl) "slice":=⟨os,hos,hcs⟩
 unfold getItem
 try with_reducible refine wpAny_holding ?_
 first | refine wpAny_bind (wpAny_pure ?_) | skip
 refine wpAny_bind (wpAny_sequenceKey ht.typeIs (by decide) ?_)
 refine wpAny_bind (wpAny_callSpecial?_slot (name:=Str.ofString "__getitem__") ht.typeIs PyProof.Rows.slot_tuple_getitem
  (wpAny_call_entry PyProof.Rows.slot_tuple_getitem ht.typeIs entry_tuple_getitem ?_ (args_tuple_getitem _ _)))
 show wpAny _ _ (Builtin.Tuple.tupleItemsOf (.ref t) >>= _) _ _ s
 refine wpAny_bind (tupleItemsOf_ ht ?_)
 refine wpAny_bind (wpAny_typeOf hTs ?_)
 rw [if_pos (by decide)]
 refine wpAny_bind (iA hs pl pu ?_)
 have hno:¬ ((((sIx items.size 0 lo:Nat):Int) == 0&&(1:Int) == 1&&(sIx items.size items.size hi-sIx items.size 0 lo) == items.size)=true):=by
  intro q
  rw [Bool.and_eq_true,Bool.and_eq_true] at q
  have q1:((sIx items.size 0 lo:Nat):Int)=0:=eq_of_beq q.1.1
  have q2:sIx items.size items.size hi-sIx items.size 0 lo=items.size:=eq_of_beq q.2
  exact hw ⟨by omega,by omega⟩
 show wpAny _ _ (if (((sIx items.size 0 lo:Nat):Int) == 0&&(1:Int) == 1&&(sIx items.size items.size hi-sIx items.size 0 lo) == items.size)=true then _ else _) _ _ s
 rw [if_neg hno,qDE]
 first
  | exact wpAny_bind (m:=Builtin.Tuple.tupleExact _) (wpAny_newObj_type (wpAny_pure ⟨_,rfl,wpAny_pure h⟩) htake)
  | exact wpAny_bind (m:=Builtin.Tuple.tupleExact _) (wpAny_newObj_type (wpAny_bind (wpAny_pure (wpAny_pure ⟨_,rfl,wpAny_pure h⟩))) htake)
  | exact wpAny_bind (wpAny_bind (m:=Builtin.Tuple.tupleExact _) (wpAny_newObj_type (wpAny_pure (wpAny_pure ⟨_,rfl,wpAny_pure h⟩)) htake))
  | exact wpAny_bind (wpAny_bind (m:=Builtin.Tuple.tupleExact _) (wpAny_newObj_type (wpAny_pure ⟨_,rfl,wpAny_pure h⟩) htake))
end
end HT
namespace L2
open PySem PySem.Spec PyProof.Rows
noncomputable abbrev TO:=St→Hp→(Option Int→Hp→Prop)→Prop
noncomputable def PO (X:Cx) (e:Option Expr) (t:TO):Prop :=
 ∀ (pins:List (Addr × Obj)) (s:Shared) (σ:St) (H:Hp) (Q:Option Int→Hp→Prop),Inv X pins σ H s→t σ H Q →
  wpAny (model X.prog X.w) X.A (evalPart e X.env) (fun u s'=>∃ o H',Inv X pins σ H' s'∧IsPart u o∧Q o H') X.xe s
noncomputable def qBJ:TO:=fun _ H Q=>Q none H
noncomputable def qBF (t:TE):TO:=fun σ H Q=>t σ H fun x H1=>∃ i,x=.int i∧Q (some i) H1
theorem intsAre_of {ns:List Int}:∀ {us:List Value},Vals (ns.map V.int) us→IntsAre us ns:=by
 induction ns with
 | nil=>intro us r;rw [List.map_nil] at r;cases r;exact .nil
 | cons n ns ih =>
  intro us r
  rw [List.map_cons] at r
  cases r with
  | cons r1 r2 =>
   obtain ⟨t,e⟩:=r1
   subst e
   exact .cons n t (ih r2)
section
variable {X:Cx} {e:Expr} {te:TE} {lo hi:Option Expr} {tl th:TO} {pos p2:Pos}
theorem po_none:PO X none qBJ:=by
 intro pins s σ H Q I h
 rw [evalPart_none]
 exact wpAny_pure ⟨none,H,I,.none,h⟩
theorem po_some (h:PE X e te):PO X (some e) (qBF te):=by
 intro pins s σ H Q I hw
 rw [evalPart_some]
 refine thn (h pins s σ H _ I hw) fun u s1 ⟨x,H1,I1,r1,q1⟩=>?_
 obtain ⟨i,rfl,q⟩:=q1
 obtain ⟨t,rfl⟩:=r1
 exact ⟨some i,H1,I1,.int i t,q⟩
noncomputable def SlR (X:Cx) (r:V→Option Int→Option Int→Hp→VK→Prop):Prop :=
 ∀ (pins:List (Addr × Obj)) (s:Shared) (σ:St) (H:Hp) (x:V) (v vl vu:Value) (lo hi:Option Int) (sl:Addr) (Q:VK),Inv X pins σ H s→RelV x v→s.heap.IsSliceOf sl vl vu .none→IsPart vl lo→IsPart vu hi→r x lo hi H Q →
  ∃ T id,typeLookup (.type T) "__getitem__"=pure (some (.builtin id))∧s.TypeIs v T∧wpAny (model X.prog X.w) X.A (getItem v (.ref sl)) (EP X pins σ Q) X.xe s
theorem SlR.or {r r':V→Option Int→Option Int→Hp→VK→Prop} (h:SlR X r) (h':SlR X r'):SlR X (fun x lo hi H Q=>r x lo hi H Q∨r' x lo hi H Q):=by
 intro pins s σ H x v vl vu lo hi sl Q I rx hs pl pu q
 rcases q with q | q
 ·exact h pins s σ H x v vl vu lo hi sl Q I rx hs pl pu q
 ·exact h' pins s σ H x v vl vu lo hi sl Q I rx hs pl pu q
noncomputable def tSl (r:V→Option Int→Option Int→Hp→VK→Prop) (te:TE) (tl th:TO):TE:=fun σ H Q=>te σ H fun x H1=>tl σ H1 fun l H2=>th σ H2 fun u H3=>r x l u H3 Q
theorem pe_slice {r:V→Option Int→Option Int→Hp→VK→Prop} (hr:SlR X r) (he:PE X e te) (hl:PO X lo tl) (hu:PO X hi th):PE X (.Subscript e (.Slice lo hi none p2) pos) (tSl r te tl th):=by
 intro pins s σ H Q I h
 refine Subscript_ (thn (he pins s σ H _ I h) fun v s1 ⟨x,H1,I1,r1,q1⟩=>?_)
 refine wpAny_Slice (thn (hl pins s1 σ H1 _ I1 q1) fun vl s2 ⟨l,H2,I2,pl,q2⟩=>thn (hu pins s2 σ H2 _ I2 q2) fun vu s3 ⟨u,H3,I3,pu,q3⟩=>?_)
 rw [evalPart_none]
 refine wpAny_pure ?_
 have I4:Inv X pins σ H3 { s3 with heap:=s3.heap.push { cls:=.type "slice",data:=.fields #[vl,vu,.none] } }:=I3.kept (t':=s3.toks) fun b ob q=>Heap.get?_push_of_some _ q
 obtain ⟨T,id,hT,ht,hg⟩:=hr pins { s3 with heap:=s3.heap.push { cls:=.type "slice",data:=.fields #[vl,vu,.none] } } σ H3 x v vl vu l u s3.heap.objs.size Q I4 r1 (Heap.IsSliceOf.new ..) pl pu q3
 show wpAny (model X.prog X.w) X.A (subscriptTail e (.Slice lo hi none p2) v (.ref s3.heap.objs.size)) (EP X pins σ Q) X.xe { s3 with heap:=s3.heap.push { cls:=.type "slice",data:=.fields #[vl,vu,.none] } }
 exact tail_any (ops:=[.ref s3.heap.objs.size,v]) ht hT hg (by with_unfolding_all rfl)
noncomputable def cutV (xs:List V) (lo hi:Option Int):List V:=(xs.drop (HT.sIx xs.length 0 lo)).take (HT.sIx xs.length xs.length hi-HT.sIx xs.length 0 lo)
theorem pT (xs:List V) (lo hi:Option Int):(cutV xs lo hi).length≤xs.length:=by
 unfold cutV
 rw [List.length_take,List.length_drop]
 omega
noncomputable def qCx (K:PySem.W.Frag):V→Option Int→Option Int→Hp→VK→Prop:=fun x lo hi H Q=>∃ a xs,x=.ref a∧SqT K H a xs ∧
 ¬ (HT.sIx xs.length 0 lo=0∧HT.sIx xs.length xs.length hi=xs.length)∧∀ p,H p=none→Q (.ref p) (upd H p (.tup (cutV xs lo hi)))
theorem sl_tup:SlR X (qCx X.K):=by
 intro pins s σ H x v vl vu lo hi sl Q I rx hs pl pu h
 obtain ⟨a,xs,rfl,hx,hw,q⟩:=h
 cases rx
 obtain ⟨its,r,ht,hz⟩:=I.tuple hx
 have hlen:its.toArray.size=xs.length:=by rw [List.size_toArray];exact r.length.symm
 refine ⟨"tuple",_,PyProof.Rows.slot_tuple_getitem.lookup,ht.typeIs,?_⟩
 refine HT.getItem_tuple_cut ht hs pl pu (by rw [hlen];exact hw) ?_ (by rw [hlen];exact hz)
 rw [hlen]
 refine ⟨.ref s.heap.objs.size,_,I.laid (t':=s.toks) (o:=.tup (cutV xs lo hi)) (fun b ob q=>Heap.get?_push_of_some _ q) (Nat.le_refl _) ?_,rfl,q _ (I.hok.fresh (Nat.le_refl _))⟩
 exact ⟨Nat.le_trans (pT xs lo hi) hz,_,(r.drop (HT.sIx xs.length 0 lo)).take (HT.sIx xs.length xs.length hi-HT.sIx xs.length 0 lo),IsTup.new _ _⟩
noncomputable def qC5 (K:PySem.W.Frag):R2:=fun x y H Q=>∃ a b xs ys,x=.ref a∧y=.ref b∧SqT K H a xs∧SqT K H b ys∧xs≠[]∧xs.length+ys.length≤sizeLine ∧
 (ys=[]→Q (.ref a) H)∧(ys≠[]→∀ p,H p=none→Q (.ref p) (upd H p (.tup (xs++ys))))
theorem Vals.nil_iff {xs:List V} {us:List Value} (r:Vals xs us):us=[]↔xs=[]:=by
 cases r with
 | nil=>simp
 | cons _ _=>simp
theorem op_catT:OpR X (binaryOp .Add) (qC5 X.K):=by
 intro pins s σ H x y v u Q I rx ry h
 obtain ⟨a,b,xs,ys,rfl,rfl,ha,hb,hx,hz,q1,q2⟩:=h
 cases rx
 cases ry
 obtain ⟨its,r1,p1,_⟩:=I.tuple ha
 obtain ⟨its2,r2,p2,_⟩:=I.tuple hb
 refine HT.cat_tup p1 p2 (fun z=>hx (r1.nil_iff.mp z)) (fun z=>⟨.ref a,H,I,rfl,q1 (r2.nil_iff.mp z)⟩) (fun z=>?_) (by rw [← r1.length,← r2.length];exact hz)
 refine ⟨.ref s.heap.objs.size,_,I.laid (t':=s.toks) (o:=.tup (xs++ys)) (fun b ob q=>Heap.get?_push_of_some _ q) (Nat.le_refl _) ?_,rfl,q2 (fun w=>z (r2.nil_iff.mpr w)) _ (I.hok.fresh (Nat.le_refl _))⟩
 exact ⟨by rw [List.length_append];exact hz,_,r1.append r2,IsTup.new _ _⟩
end
end L2
namespace L2
open PySem PySem.Spec PyProof.Rows
noncomputable def ixN (n:Nat) (i:Int):Option Nat:=if 0≤i then (if i<n then some i.toNat else none) else if -(n:Int)≤i then some (i+n).toNat else none
noncomputable def atI {α:Type} (xs:List α) (i:Int):Option α:=(ixN xs.length i).bind fun j=>xs[j]?
theorem nJ {n:Nat} {i:Int} {j:Nat} (h:ixN n i=some j):seqIndex? i n=some j∧j<n∧-(n:Int)≤i∧i<n:=by
 unfold ixN at h
 by_cases h0:0≤i
 ·rw [if_pos h0] at h
  by_cases h1:i<n
  ·rw [if_pos h1] at h
   have e:i.toNat=j:=Option.some.inj h
   exact ⟨by rw [seqIndex_of h0 h1,e],by omega,by omega,h1⟩
  ·rw [if_neg h1] at h;cases h
 ·rw [if_neg h0] at h
  by_cases h1:-(n:Int)≤i
  ·rw [if_pos h1] at h
   have e:(i+n).toNat=j:=Option.some.inj h
   exact ⟨by rw [seqIndex_neg (by omega) h1,e],by omega,h1,by omega⟩
  ·rw [if_neg h1] at h;cases h
theorem eG {α:Type} {xs:List α} {i:Int} {v:α} (h:atI xs i=some v):∃ j,seqIndex? i xs.length=some j∧xs[j]?=some v∧j<xs.length∧-(xs.length:Int)≤i∧i<xs.length:=by
 unfold atI at h
 cases e:ixN xs.length i with
 | none=>rw [e] at h;cases h
 | some j =>
  rw [e] at h
  obtain ⟨h1,h2,h3,h4⟩:=nJ e
  exact ⟨j,h1,h,h2,h3,h4⟩
noncomputable def PlainIx (b:Expr):Prop:=∀ o i,subscripted b false o i=operate [o,i] (getItem o i)
noncomputable def IxR (X:Cx) (r:R2):Prop :=
 ∀ (value slice:Expr) (pins:List (Addr × Obj)) (s:Shared) (σ:St) (H:Hp) (x y:V) (v u:Value) (Q:VK),Inv X pins σ H s→RelV x v→RelV y u→r x y H Q →
  subscripted slice false v u=operate [v,u] (getItem v u)→wpAny (model X.prog X.w) X.A (subscriptTail value slice v u) (EP X pins σ Q) X.xe s
noncomputable def MtR (X:Cx) (id:String) (r:V→List V→Hp→VK→Prop):Prop :=
 ∀ (pins:List (Addr × Obj)) (s:Shared) (σ:St) (H:Hp) (x:V) (xs:List V) (v:Value) (us:List Value) (Q:VK),Inv X pins σ H s→RelV x v→Vals xs us→r x xs H Q →
  wpAny (model X.prog X.w) X.A (call (.builtin id) (v::us)) (EP X pins σ Q) X.xe s
section
variable {X:Cx} {a b:Expr} {ta tb:TE} {pos:Pos}
theorem IxR.or {r r':R2} (h:IxR X r) (h':IxR X r'):IxR X (fun x y H Q=>r x y H Q∨r' x y H Q):=by
 intro value slice pins s σ H x y v u Q I rx ry q hs
 rcases q with q | q
 ·exact h value slice pins s σ H x y v u Q I rx ry q hs
 ·exact h' value slice pins s σ H x y v u Q I rx ry q hs
theorem MtR.or {id:String} {r r':V→List V→Hp→VK→Prop} (h:MtR X id r) (h':MtR X id r'):MtR X id (fun x xs H Q=>r x xs H Q∨r' x xs H Q):=by
 intro pins s σ H x xs v us Q I rx rs q
 rcases q with q | q
 ·exact h pins s σ H x xs v us Q I rx rs q
 ·exact h' pins s σ H x xs v us Q I rx rs q
theorem pe_ix {r:R2} (hr:IxR X r) (ha:PE X a ta) (hb:PE X b tb) (hs:PlainIx b):PE X (.Subscript a b pos) (tOp r ta tb):=by
 intro pins s σ H Q I h
 exact Subscript_ (dF ha hb I h fun v u s2 x y H2 I2 rx ry q=>hr a b pins s2 σ H2 x y v u Q I2 rx ry q (hs _ _))
noncomputable def qC2 (K:PySem.W.Frag):R2:=fun x y H Q=>∃ p xs i v,x=.ref p∧y=.int i∧SqL K H p xs∧atI xs i=some v∧Q v H
noncomputable def qC0 (K:PySem.W.Frag):R2:=fun x y H Q=>∃ p xs i v,x=.ref p∧y=.int i∧SqT K H p xs∧atI xs i=some v∧Q v H
noncomputable def qC1:R2:=fun x y H Q=>∃ z i c,x=.str z∧y=.int i∧z.length≤sizeLine∧atI z.cps.toList i=some c∧Q (.str ⟨#[c]⟩) H
theorem ix_list:IxR X (qC2 X.K):=by
 intro value slice pins s σ H x y v u Q I rx ry h hs
 obtain ⟨p,xs,i,z,rfl,rfl,hq,he,q⟩:=h
 cases rx
 obtain ⟨t,rfl⟩:=ry
 obtain ⟨its,r,pl,hz⟩:=I.list hq
 obtain ⟨j,h1,h2,h3,h4,h5⟩:=eG he
 obtain ⟨w,ew,rw'⟩:=r.get h2
 have hl:=r.length
 have hn:=vO
 have fin:EP X pins σ Q w s:=⟨z,H,I,rw',q⟩
 by_cases h0:0≤i
 ·have hj:i.toNat=j:=by
   rw [seqIndex_of h0 h5] at h1
   exact Option.some.inj h1
  exact item_listR pl.isList h0 (by omega) (by rw [hj];simpa using ew) fin hs
 ·have hj:(i+(its.toArray.size:Int)).toNat=j:=by
   rw [seqIndex_neg (by omega) h4] at h1
   rw [List.size_toArray,← hl]
   exact Option.some.inj h1
  exact subscriptTail_builtinR (x:=w) pl.isList.typeIs slot_list_getitem.lookup
   (wpAny_getItem_list_neg (Q:=fun r s'=>r=w∧EP X pins σ Q r s') pl.isList (by omega) (by rw [List.size_toArray] <;> omega) (by omega) (by rw [hj];simpa using ew) ⟨rfl,fin⟩) hs
theorem ix_tup:IxR X (qC0 X.K):=by
 intro value slice pins s σ H x y v u Q I rx ry h hs
 obtain ⟨p,xs,i,z,rfl,rfl,hq,he,q⟩:=h
 cases rx
 obtain ⟨t,rfl⟩:=ry
 obtain ⟨its,r,pl,hz⟩:=I.tuple hq
 obtain ⟨j,h1,h2,h3,h4,h5⟩:=eG he
 obtain ⟨w,ew,rw'⟩:=r.get h2
 have hl:=r.length
 have hn:=vO
 have fin:EP X pins σ Q w s:=⟨z,H,I,rw',q⟩
 exact subscriptTail_builtinR (x:=w) pl.typeIs slot_tuple_getitem.lookup
  (getItem_tuple (j:=j) (Q:=fun r s'=>r=w∧EP X pins σ Q r s') pl (by omega) (by omega) (by rw [List.size_toArray,← hl];exact h1) (by simpa using ew) ⟨rfl,fin⟩) hs
theorem ix_str:IxR X qC1:=by
 intro value slice pins s σ H x y v u Q I rx ry h hs
 obtain ⟨z,i,c,rfl,rfl,hz,he,q⟩:=h
 obtain ⟨t,rfl⟩:=rx
 obtain ⟨t',rfl⟩:=ry
 obtain ⟨j,h1,h2,h3,h4,h5⟩:=eG he
 have hl:z.cps.toList.length=z.length:=by simp [Str.length]
 rw [hl] at h1 h4 h5
 have hn:=vO
 exact tail_any (typeIs_str s z t) slot_str_getitem.lookup (getItem_str (c:=c) (by
  have e1:decide (i < -(2 ^ 63:Int))=false:=decide_eq_false (by omega)
  have e2:decide (i ≥ 2 ^ 63)=false:=decide_eq_false (by omega)
  rw [e1,e2,Bool.or_false]) (by rw [h1];simpa using h2) ⟨.str ⟨#[c]⟩,H,I.tok _,⟨_,rfl⟩,q⟩) hs
theorem qEk (its:List Value) (n j:Nat) (u:Value):Obj.mapSeq (·.setIfInBounds j u) { cls:=.type "list",data:=.seq its.toArray n }={ cls:=.type "list",data:=.seq (its.set j u).toArray n }:=by
 simp [Obj.mapSeq]
theorem Inv.lst {pins:List (Addr × Obj)} {σ:St} {H:Hp} {s:Shared} {p:Addr} {xs:List V} (I:Inv X pins σ H s) (h:H p=some (.lst xs)) :
  ∃ (its:List Value) (n:Nat),Vals xs its∧s.heap.get? p=some { cls:=.type "list",data:=.seq its.toArray n }∧xs.length≤sizeLine:=by
 obtain ⟨z,its,n,r,e⟩:=I.hok p _ h
 exact ⟨its,n,r,e,z⟩
theorem Inv.lstUpd {pins:List (Addr × Obj)} {σ:St} {H:Hp} {s:Shared} {p:Addr} {xs ys:List V} {its its':List Value} {n n':Nat} {f:Obj→Obj} (I:Inv X pins σ H s) (h:H p=some (.lst xs))
  (ho:s.heap.get? p=some { cls:=.type "list",data:=.seq its.toArray n }) (hf:f { cls:=.type "list",data:=.seq its.toArray n }={ cls:=.type "list",data:=.seq its'.toArray n' }) (r:Vals ys its') (hz:ys.length≤sizeLine) (t:Nat) :
  Inv X pins σ (upd H p (.lst ys)) { s with heap:=s.heap.update p f,toks:=t }:=by
 have e:(s.heap.update p f).get? p=some { cls:=.type "list",data:=.seq its'.toArray n' }:=by
  rw [Heap.get?_update_self f ho (by rw [hf] <;> rfl),hf]
 refine I.write (x:=p) (e:=p) (by rw [h];trivial) (.inl rfl) (fun b u hb q=>(Heap.get?_update_other _ _ (Ne.symm hb)).trans q) ⟨_,e⟩ ?_
 exact ⟨hz,its',n',r,e⟩
noncomputable def rSetL:V→V→V→Hp→(Hp→Prop)→Prop:=fun o i v H Q=>∃ p xs k j,o=.ref p∧i=.int k∧H p=some (.lst xs)∧ixN xs.length k=some j∧Q (upd H p (.lst (xs.set j v)))
theorem set_list:PSet X rSetL:=by
 intro pins s σ H o i v ov iv u Q I ro ri rv h
 obtain ⟨p,xs,k,j,rfl,rfl,hp,hj,q⟩:=h
 cases ro
 obtain ⟨t,rfl⟩:=ri
 obtain ⟨its,n,r,ho,hz⟩:=I.lst hp
 obtain ⟨h1,h2,h3,h4⟩:=nJ hj
 have hl:=r.length
 have hn:=vO
 have I':Inv X pins σ (upd H p (.lst (xs.set j v))) { s with heap:=s.heap.update p (Obj.mapSeq (·.setIfInBounds j u)) } :=
  I.lstUpd hp ho (qEk its n j u) (r.set rv j) (by rw [List.length_set];exact hz) s.toks
 by_cases h0:0≤k
 ·have hk:k.toNat=j:=by
   rw [seqIndex_of h0 h4] at h1
   exact Option.some.inj h1
  exact PySem.W.ki_setAt ho h0 (by omega) (by rw [List.size_toArray,← hl];exact h4) (by rw [hk];exact ⟨_,I',q⟩)
 ·have hk:(k+(its.toArray.size:Int)).toNat=j:=by
   rw [seqIndex_neg (by omega) h3] at h1
   rw [List.size_toArray,← hl]
   exact Option.some.inj h1
  exact PySem.W.ki_setBack ho (by omega) (by rw [List.size_toArray,← hl];exact h3) (by omega) (by rw [hk];exact ⟨_,I',q⟩)
theorem qB5 (lo hi:Option Int) (n:Nat):(sliceBounds lo hi none n).1=((HT.sIx n 0 lo:Nat):Int)∧(sliceBounds lo hi none n).2.1=((HT.sIx n n hi:Nat):Int)∧(sliceBounds lo hi none n).2.2=1:=by
 refine ⟨?_,?_,rfl⟩
 ·cases lo with
  | none=>simp [sliceBounds,HT.sIx]
  | some i =>
   simp only [sliceBounds,HT.sIx,Option.getD_none,show (1:Int) > 0 by decide,if_true]
   by_cases h:i<0
   ·simp only [h,if_true] <;> omega
   ·simp only [h,if_false] <;> omega
 ·cases hi with
  | none=>simp [sliceBounds,HT.sIx]
  | some i =>
   simp only [sliceBounds,HT.sIx,Option.getD_none,show (1:Int) > 0 by decide,if_true]
   by_cases h:i<0
   ·simp only [h,if_true] <;> omega
   ·simp only [h,if_false] <;> omega
theorem qB6 (its:List Value) (lo hi:Option Int):slicePick its.toArray lo hi none=((its.drop (HT.sIx its.length 0 lo)).take (HT.sIx its.length its.length hi-HT.sIx its.length 0 lo)).toArray:=by
 obtain ⟨h1,h2,h3⟩:=qB5 lo hi its.toArray.size
 unfold slicePick
 rw [h1,h2,h3]
 simp only [sliceRange_one,pick_run,List.size_toArray] <;> rfl
noncomputable def qCy (K:PySem.W.Frag):V→Option Int→Option Int→Hp→VK→Prop:=fun x lo hi H Q=>∃ a xs,x=.ref a∧SqL K H a xs∧∀ p,H p=none→Q (.ref p) (upd H p (.lst (cutV xs lo hi)))
theorem sl_list:SlR X (qCy X.K):=by
 intro pins s σ H x v vl vu lo hi sl Q I rx hs pl pu h
 obtain ⟨a,xs,rfl,hx,q⟩:=h
 cases rx
 obtain ⟨its,r,ht,hz⟩:=I.list hx
 have hlen:=r.length
 refine ⟨"list",_,slot_list_getitem.lookup,ht.isList.typeIs,?_⟩
 refine wpAny_getItem_list_slice ht.isList hs pl pu .none (by simp) ?_ (by rw [List.size_toArray] <;> omega)
 rw [qB6,← hlen]
 refine ⟨.ref s.heap.objs.size,_,I.laid (t':=s.toks) (o:=.lst (cutV xs lo hi)) (fun b ob q=>Heap.get?_push_of_some _ q) (Nat.le_refl _) ?_,rfl,q _ (I.hok.fresh (Nat.le_refl _))⟩
 exact ⟨Nat.le_trans (pT xs lo hi) hz,_,0,(r.drop (HT.sIx xs.length 0 lo)).take (HT.sIx xs.length xs.length hi-HT.sIx xs.length 0 lo),Heap.get?_push_size _ rfl⟩
noncomputable def flatV:V→Bool
 | .non=>true
 | .bl _=>true
 | .int _=>true
 | .str _=>true
 | _=>false
noncomputable def eqV:V→V→Bool
 | .non,.non=>true
 | .bl a,.bl b=>a == b
 | .bl a,.int b=>(if a then 1 else 0) == b
 | .int a,.bl b=>a == (if b then 1 else 0)
 | .int a,.int b=>a == b
 | .str a,.str b=>a == b
 | _,_=>false
theorem qGr {A:Around} {s:Shared} {y x:V} {u v:Value} (ry:RelV y u) (rx:RelV x v) (fy:flatV y=true) (fx:flatV x=true):SeqAt.EqAt A s u v (eqV y x):=by
 cases y with
 | non =>
  cases ry
  cases x with
  | non=>cases rx;exact SeqAt.EqAt.same _
  | bl b=>cases rx;exact SeqAt.EqAt.none_bool b
  | int b=>obtain ⟨t,rfl⟩:=rx;exact SeqAt.EqAt.none_int b t
  | str b=>obtain ⟨t,rfl⟩:=rx;exact SeqAt.EqAt.none_str b t
  | _=>exact absurd (show false=true from fx) Bool.false_ne_true
 | bl a =>
  cases ry
  cases x with
  | non=>cases rx;exact SeqAt.EqAt.bool_none a
  | bl b=>cases rx;exact SeqAt.EqAt.bool_bool a b
  | int b=>obtain ⟨t,rfl⟩:=rx;exact SeqAt.EqAt.bool_int a b t
  | str b=>obtain ⟨t,rfl⟩:=rx;exact SeqAt.EqAt.bool_str a b t
  | _=>exact absurd (show false=true from fx) Bool.false_ne_true
 | int a =>
  obtain ⟨t',rfl⟩:=ry
  cases x with
  | non=>cases rx;exact SeqAt.EqAt.int_none a t'
  | bl b=>cases rx;exact SeqAt.EqAt.int_bool a t' b
  | int b=>obtain ⟨t,rfl⟩:=rx;exact SeqAt.EqAt.int_int a t' b t
  | str b=>obtain ⟨t,rfl⟩:=rx;exact SeqAt.EqAt.int_str a t' b t
  | _=>exact absurd (show false=true from fx) Bool.false_ne_true
 | str a =>
  obtain ⟨t',rfl⟩:=ry
  cases x with
  | non=>cases rx;exact SeqAt.EqAt.str_none a t'
  | bl b=>cases rx;exact SeqAt.EqAt.str_bool a t' b
  | int b=>obtain ⟨t,rfl⟩:=rx;exact SeqAt.EqAt.str_int a t' b t
  | str b=>obtain ⟨t,rfl⟩:=rx;exact SeqAt.EqAt.str_str a t' b t
  | _=>exact absurd (show false=true from fx) Bool.false_ne_true
 | _=>exact absurd (show false=true from fy) Bool.false_ne_true
noncomputable def eqU (x:V) (u:Value):Bool:=match u with
 | .none=>eqV .non x
 | .bool b=>eqV (.bl b) x
 | .int i _=>eqV (.int i) x
 | .str z _=>eqV (.str z) x
 | _=>false
theorem pJ {x y:V} {u:Value} (r:RelV y u) (f:flatV y=true):eqU x u=eqV y x:=by
 cases y with
 | non=>cases r;rfl
 | bl b=>cases r;rfl
 | int i=>obtain ⟨t,rfl⟩:=r;rfl
 | str z=>obtain ⟨t,rfl⟩:=r;rfl
 | _=>exact absurd (show false=true from f) Bool.false_ne_true
theorem yM {x:V}:∀ {xs:List V} {us:List Value},Vals xs us→xs.all flatV=true→us.any (eqU x)=xs.any fun y=>eqV y x
 | _,_,.nil,_=>rfl
 | y::xs,u::us,.cons r t,f=>by
  rw [List.all_cons,Bool.and_eq_true] at f
  rw [List.any_cons,List.any_cons,pJ r f.1,yM t f.2]
theorem wY {A:Around} {s:Shared} {x:V} {v:Value} (rx:RelV x v) (fx:flatV x=true):∀ {xs:List V} {us:List Value},Vals xs us→xs.all flatV=true→∀ u∈us,SeqAt.EqAt A s u v (eqU x u)
 | _,_,.nil,_=>fun u hu=>by cases hu
 | y::xs,u::us,.cons r t,f=>fun u' hu=>by
  rw [List.all_cons,Bool.and_eq_true] at f
  rcases List.mem_cons.mp hu with rfl | hu
  ·rw [pJ r f.1];exact qGr r rx f.1 fx
  ·exact wY rx fx t f.2 u' hu
noncomputable def inV (x:V) (xs:List V):Bool:=xs.any fun y=>eqV y x
noncomputable def rIn (K:PySem.W.Frag) (neg:Bool):R2:=fun x y H Q=>∃ p xs,y=.ref p∧(SqL K H p xs∨SqT K H p xs)∧flatV x=true∧xs.all flatV=true∧Q (.bl (if neg then !inV x xs else inV x xs)) H
theorem op_in_seq:OpR X (compareOp .In) (rIn X.K false):=by
 intro pins s σ H x y v u Q I rx ry h
 obtain ⟨p,xs,rfl,hq,fx,fs,q⟩:=h
 cases ry
 rcases hq with hq | hq
 ·obtain ⟨its,r,pl,hz⟩:=I.list hq
  refine SeqAt.in_listAt (eqU x) pl.isList (fun w hw=>wY rx fx r fs w (by simpa using hw)) ⟨.bl _,H,I,rfl,?_⟩
  rw [show its.toArray.any (eqU x)=its.any (eqU x) by simp,yM r fs]
  exact q
 ·obtain ⟨its,r,pl,hz⟩:=I.tuple hq
  refine SeqAt.in_tupleAt (eqU x) pl (fun w hw=>wY rx fx r fs w (by simpa using hw)) ⟨.bl _,H,I,rfl,?_⟩
  rw [show its.toArray.any (eqU x)=its.any (eqU x) by simp,yM r fs]
  exact q
theorem op_notIn_seq:OpR X (compareOp .NotIn) (rIn X.K true):=by
 intro pins s σ H x y v u Q I rx ry h
 obtain ⟨p,xs,rfl,hq,fx,fs,q⟩:=h
 cases ry
 rcases hq with hq | hq
 ·obtain ⟨its,r,pl,hz⟩:=I.list hq
  refine SeqAt.notIn_listAt (eqU x) pl.isList (fun w hw=>wY rx fx r fs w (by simpa using hw)) ⟨.bl _,H,I,rfl,?_⟩
  rw [show its.toArray.any (eqU x)=its.any (eqU x) by simp,yM r fs]
  exact q
 ·obtain ⟨its,r,pl,hz⟩:=I.tuple hq
  refine SeqAt.notIn_tupleAt (eqU x) pl (fun w hw=>wY rx fx r fs w (by simpa using hw)) ⟨.bl _,H,I,rfl,?_⟩
  rw [show its.toArray.any (eqU x)=its.any (eqU x) by simp,yM r fs]
  exact q
theorem CallR.or {f:Value} {r r':List V→Hp→VK→Prop} (h:CallR X f r) (h':CallR X f r'):CallR X f (fun xs H Q=>r xs H Q∨r' xs H Q):=by
 intro pins s σ H xs us Q I rs q
 rcases q with q | q
 ·exact h pins s σ H xs us Q I rs q
 ·exact h' pins s σ H xs us Q I rs q
theorem call_tuple_of:CallR X (.type "tuple") (fun xs H Q=>∃ p ys,xs=[.ref p]∧((SqL X.K H p ys∧∀ l,H l=none→Q (.ref l) (upd H l (.tup ys)))∨(SqT X.K H p ys∧Q (.ref p) H))):=by
 intro pins s σ H xs us Q I r h
 obtain ⟨p,ys,rfl,h⟩:=h
 obtain ⟨u,rfl,rx⟩:=vals1 r
 cases rx
 rcases h with ⟨hq,q⟩ | ⟨hq,q⟩
 ·obtain ⟨its,r',pl,hz⟩:=I.list hq
  have hlen:=r'.length
  refine call_tuple_list pl.isList (fun h' kp=>?_) (by simp only [List.size_toArray] <;> omega)
  have I1:Inv X pins σ H { s with heap:=h' }:=I.kept (t':=s.toks) kp
  have I2:Inv X pins σ (upd H h'.objs.size (.tup ys)) { s with heap:=h'.push { cls:=.type "tuple",data:=.seq its.toArray } } :=
   I1.laid (t':=s.toks) (fun b o e=>Heap.get?_push_of_some _ e) (Nat.le_refl _) (show ObjOk X.prog X.w _ _ _ (.tup ys) from ⟨hz,its,r',IsTup.new _ _⟩)
  exact ⟨.ref h'.objs.size,_,I2,rfl,q _ (I1.hok.fresh (Nat.le_refl _))⟩
 ·obtain ⟨its,r',pl,hz⟩:=I.tuple hq
  exact call_tuple_same pl ⟨.ref p,H,I,rfl,q⟩
noncomputable def tyV (K:PySem.W.Frag) (T:String) (x:V) (H:Hp):Prop:=match x with
 | .str _=>T="str"
 | .int _=>T="int"
 | .ref p=>(T="list"∧∃ xs,SqL K H p xs)∨(T="tuple"∧∃ o,K.lookup p=some o∧o.cls=.type "tuple"∧o.dict=none) ∨
   (T="dict"∧((∃ kvs,H p=some (.dK kvs))∨∃ kvs,H p=some (.dT kvs)))∨(T="set"∧∃ S n,H p=some (.set S n))
 | _=>False
theorem qAh {pins:List (Addr × Obj)} {σ:St} {H:Hp} {s:Shared} {T:String} {x:V} {v:Value} (I:Inv X pins σ H s) (r:RelV x v) (ty:tyV X.K T x H) :
  s.TypeIs v T∧∀ a,v=.ref a→∃ ob,s.heap.get? a=some ob∧ob.dict=none:=by
 cases x with
 | str z =>
  obtain ⟨t,rfl⟩:=r
  cases (show T="str" from ty)
  exact ⟨typeIs_str s z t,fun _ e=>nomatch e⟩
 | int i =>
  obtain ⟨t,rfl⟩:=r
  cases (show T="int" from ty)
  exact ⟨typeIs_int s i t,fun _ e=>nomatch e⟩
 | ref p =>
  cases r
  rcases ty with ⟨rfl,xs,hq⟩ | ⟨rfl,o,hk,hc,hd⟩ | ⟨rfl,hk⟩ | ⟨rfl,S,n,hk⟩
  ·obtain ⟨its,_,pl,_⟩:=I.list hq
   refine ⟨pl.isList.typeIs,fun a e=>?_⟩
   cases e
   obtain ⟨o,n,e,c,hd,_⟩:=pl
   exact ⟨o,e,hd⟩
  ·refine ⟨⟨o,I.kIn p o hk,hc⟩,fun a e=>?_⟩
   cases e
   exact ⟨o,I.kIn _ o hk,hd⟩
  ·have z:∃ o,s.heap.get? p=some o∧o.ExactDict:=by
    rcases hk with ⟨kvs,hk⟩ | ⟨kvs,hk⟩
    ·obtain ⟨_,_,_,_,o,_,_,e,ex,_⟩:=I.hok p _ hk
     exact ⟨o,e,ex⟩
    ·obtain ⟨_,_,_,_,o,_,_,e,ex,_⟩:=I.hok p _ hk
     exact ⟨o,e,ex⟩
   obtain ⟨o,e,ex⟩:=z
   refine ⟨⟨o,e,ex.1⟩,fun a e2=>?_⟩
   cases e2
   exact ⟨o,e,ex.2.1⟩
  ·obtain ⟨o,_,_,_,e,ex,_⟩:=I.hok p _ hk
   refine ⟨⟨o,e,ex.1⟩,fun a e2=>?_⟩
   cases e2
   exact ⟨o,e,ex.2.1⟩
 | _=>exact False.elim ty
noncomputable def tBM (K:PySem.W.Frag) (T:String) (r:V→List V→Hp→VK→Prop) (to:TE) (t:TA):TE:=fun σ H Q=>to σ H fun x H1=>tyV K T x H1∧t σ H1 fun xs H2=>r x xs H2 Q
variable {o e:Expr} {es:List Expr} {to:TE} {t:TA} {name:Str} {apos cpos:Pos} {T id:String} {r:V→List V→Hp→VK→Prop}
theorem pe_bm (pa:PlainAttrs T) (slot:Slot T name id) (hty:typeOf (.builtin id)=pure (.type "method_descriptor")) (hm:MtR X id r) (ho:PE X o to) (ha:PA X (e::es) t)
  (hbase:attributeBase o name X.env (eval o X.env)=eval o X.env:=by rfl)
  (hfew:((backTo cpos (starEach (e::es) X.env)).all (fun x=>!x.1)&&(backToKw cpos (keywordEach [] X.env)).all (fun x=>x.1.isSome)
  &&decide ((e::es).length+([]:List Keyword).length+(if ([]:List Keyword).isEmpty then 0 else 1)<30))=true:=by rfl)
  (hline:(apos.endLine == cpos.line)=true:=by rfl) (hs:starEach (e::es) X.env=(false,eval e X.env)::starEach es X.env:=by rfl) (hplain:(backTo cpos (starEach es X.env)).any (·.1)=false:=by rfl) :
  PE X (.Call (.Attribute o name apos) (e::es) [] cpos) (tBM X.K T r to t):=by
 intro pins s σ H Q I h
 refine wpAny_Call_method_late hbase hfew hline rfl (thn (ho pins s σ H _ I h) fun v s1 ⟨x,H1,I1,r1,ty,q1⟩=>?_)
 obtain ⟨h1,h2⟩:=qAh I1 r1 ty
 refine ⟨T,id,pa,slot,hty,h1,h2,?_⟩
 have hA:=ha cpos pins s1 σ H1 _ I1 q1
 rw [hs] at hA ⊢
 refine Calls.callWith_builtin (by show (false || (backTo cpos (starEach es X.env)).any (·.1))=false;rw [hplain] <;> rfl) (Calls.evalArgs_plain ?_)
 exact thn hA fun us s2 ⟨vs,H2,I2,r2,q2⟩=>hm pins s2 σ H2 x vs v us Q I2 r1 r2 q2
end
end L2
namespace L2
open PySem PySem.Spec PyProof.Rows
noncomputable def MtM (X:Cx) (id:String) (r:V→List V→Hp→VK→Prop):Prop :=
 ∀ (pins:List (Addr × Obj)) (s:Shared) (σ:St) (H:Hp) (x:V) (xs:List V) (v:Value) (us:List Value) (Q:VK),Inv X pins σ H s→RelV x v→Vals xs us→r x xs H Q →
  wpAny (model X.prog X.w) X.A (call (.builtin id) (v::us)) (EP X pins σ Q) X.xe s
theorem Vals.one:∀ {x:V} {us:List Value},Vals [x] us→∃ u,us=[u]∧RelV x u
 | _,_,.cons r .nil=>⟨_,rfl,r⟩
theorem Vals.two:∀ {x y:V} {us:List Value},Vals [x,y] us→∃ u v,us=[u,v]∧RelV x u∧RelV y v
 | _,_,_,.cons r (.cons q .nil)=>⟨_,_,rfl,r,q⟩
theorem Vals.dropLast {xs:List V} {us:List Value} (h:Vals xs us):Vals xs.dropLast us.dropLast:=by
 induction h with
 | nil=>exact .nil
 | cons r t ih =>
  cases t with
  | nil=>exact .nil
  | cons q t'=>exact .cons r ih
theorem Vals.reverse {xs:List V} {us:List Value} (h:Vals xs us):Vals xs.reverse us.reverse:=by
 induction h with
 | nil=>exact .nil
 | cons r t ih=>rw [List.reverse_cons,List.reverse_cons];exact Vals.append ih (.cons r .nil)
theorem Vals.rep {xs:List V} {us:List Value} (h:Vals xs us):∀ k:Nat,Vals (List.replicate k xs).flatten (List.replicate k us).flatten
 | 0=>.nil
 | k+1=>by
  rw [List.replicate_succ,List.replicate_succ,List.flatten_cons,List.flatten_cons]
  exact Vals.append h (Vals.rep h k)
theorem pA (its:List Value):∀ (k:Nat) (acc:List Value),
  List.foldl (fun x1 x2=>x1++x2) acc.toArray (List.replicate k its.toArray)=(acc++(List.replicate k its).flatten).toArray
 | 0,acc=>by simp
 | k+1,acc=>by
  have e:acc.toArray++its.toArray=(acc++its).toArray:=by simp
  have e2:(acc++its)++(List.replicate k its).flatten=acc++(List.replicate (k+1) its).flatten:=by
   rw [List.replicate_succ,List.flatten_cons,List.append_assoc]
  rw [← e2,← pA its k (acc++its),← e,List.replicate_succ,List.foldl_cons]
section
variable {X:Cx} {pins:List (Addr × Obj)} {σ:St} {H:Hp} {s:Shared} {l b:Addr} {xs ys zs:List V}
theorem Inv.lset {its its':List Value} {n:Nat} {f:Array Value→Array Value} {t':Nat} (I:Inv X pins σ H s) (hH:H l=some (.lst xs))
  (e:s.heap.get? l=some { cls:=.type "list",data:=.seq its.toArray n }) (hf:f its.toArray=its'.toArray) (hv:Vals ys its') (hz:ys.length≤sizeLine) :
  Inv X pins σ (upd H l (.lst ys)) { s with heap:=s.heap.update l (Obj.mapSeq f),toks:=t' }:=by
 have q:=PySem.IsL.update e f
 rw [hf] at q
 refine I.write (x:=l) (e:=l) (by rw [hH];exact trivial) (.inl rfl) (fun b' u hb hu=>(Heap.get?_update_other s.heap (Obj.mapSeq f) (Ne.symm hb)).trans hu) ⟨_,q⟩ ?_
 exact ⟨hz,its',_,hv,q⟩
theorem Inv.lnew {its:List Value} {t':Nat} (I:Inv X pins σ H s) (hv:Vals ys its) (hz:ys.length≤sizeLine) :
  Inv X pins σ (upd H s.heap.objs.size (.lst ys)) { s with heap:=s.heap.push { cls:=.type "list",data:=.seq its.toArray },toks:=t' } :=
 I.laid (fun _ _ q=>Heap.get?_push_of_some _ q) (Nat.le_refl _) ⟨hz,its,0,hv,Heap.get?_push_size _ rfl⟩
theorem Inv.fresh (I:Inv X pins σ H s):H s.heap.objs.size=none:=I.hok.fresh (Nat.le_refl _)
theorem Inv.lstM (I:Inv X pins σ H s) (hH:H l=some (.lst xs)):xs.length≤sizeLine∧∃ (its:List Value) (n:Nat),Vals xs its∧xs.length=its.length∧s.heap.get? l=some { cls:=.type "list",data:=.seq its.toArray n }:=by
 obtain ⟨z,its,n,r,e⟩:=I.hok l _ hH
 exact ⟨z,its,n,r,r.length,e⟩
theorem lV {n:Nat} (h:n≤sizeLine):Builtin.List.listTooLong n=false:=by
 unfold Builtin.List.listTooLong
 exact decide_eq_false (by omega)
end
section
variable {X:Cx}
noncomputable def qC7:V→List V→Hp→VK→Prop:=fun x vs H Q=>∃ l xs y,x=.ref l∧vs=[y]∧H l=some (.lst xs)∧xs.length<sizeLine∧Q .non (upd H l (.lst (xs++[y])))
theorem mt_append:MtM X "list.append" qC7:=by
 intro pins s σ H x vs v us Q I rx rv h
 obtain ⟨l,xs,y,rfl,rfl,hH,hz,q⟩:=h
 cases rx
 obtain ⟨u,rfl,ru⟩:=rv.one
 obtain ⟨z,its,n,r,hl,e⟩:=I.lstM hH
 refine call_meets F.slot_list_append ⟨_,e,rfl⟩ F.entry_list_append (F.args_list_append_2 _ _) (PySem.list_append l its.toArray n u (by rw [List.size_toArray];omega)) ⟨e,?_⟩
 refine ⟨.non,_,I.lset (its':=its++[u]) hH e (by simp) (r.append (.cons ru .nil)) ?_,rfl,q⟩
 rw [List.length_append,List.length_singleton]
 omega
noncomputable def qC4:V→List V→Hp→VK→Prop:=fun x vs H Q=>∃ l b xs zs,x=.ref l∧vs=[.ref b]∧H l=some (.lst xs)∧H b=some (.lst zs)∧xs.length+zs.length≤sizeLine∧Q .non (upd H l (.lst (xs++zs)))
theorem mt_extend:MtM X "list.extend" qC4:=by
 intro pins s σ H x vs v us Q I rx rv h
 obtain ⟨l,b,xs,zs,rfl,rfl,hH,hB,hz,q⟩:=h
 cases rx
 obtain ⟨u,rfl,ru⟩:=rv.one
 cases ru
 obtain ⟨z,its,n,r,hl,e⟩:=I.lstM hH
 obtain ⟨z2,its2,n2,r2,hl2,e2⟩:=I.lstM hB
 have hsz:its.toArray.size+its2.toArray.size≤sizeLine:=by rw [List.size_toArray,List.size_toArray];omega
 have hlong:¬ (!its.toArray.isEmpty&&Builtin.List.listTooLong (its.toArray.size+its2.toArray.size))=true:=by
  rw [lV hsz,Bool.and_false]
  exact Bool.false_ne_true
 refine call_meets F.slot_list_extend ⟨_,e,rfl⟩ F.entry_list_extend (F.args_list_extend_2 _ _)
  (AutoSeq1.list_extend_list_list_0 l its.toArray n b its2.toArray n2 hlong (by rw [List.size_toArray];omega) (by omega)) ⟨e,e2,?_⟩
 refine ⟨.non,_,I.lset (its':=its++its2) hH e (by simp) (r.append r2) ?_,rfl,q⟩
 rw [List.length_append]
 omega
noncomputable def qC6:R2:=fun x y H Q=>∃ l b xs zs,x=.ref l∧y=.ref b∧H l=some (.lst xs)∧H b=some (.lst zs)∧xs.length+zs.length≤sizeLine∧∀ p,H p=none→Q (.ref p) (upd H p (.lst (xs++zs)))
theorem op_cat:OpR X (binaryOp .Add) qC6:=by
 intro pins s σ H x y v u Q I rx ry h
 obtain ⟨l,b,xs,zs,rfl,rfl,hH,hB,hz,q⟩:=h
 cases rx
 cases ry
 obtain ⟨z,its,n,r,hl,e⟩:=I.lstM hH
 obtain ⟨z2,its2,n2,r2,hl2,e2⟩:=I.lstM hB
 refine PySem.P.add_list e e2 ?_ (by rw [List.size_toArray,List.size_toArray];omega)
 have ea:its.toArray++its2.toArray=(its++its2).toArray:=by simp
 rw [ea]
 exact ⟨.ref _,_,I.lnew (t':=s.toks) (r.append r2) (by rw [List.length_append];omega),rfl,q _ I.fresh⟩
noncomputable def qCz:R2:=fun x y H Q=>∃ l k xs,x=.ref l∧y=.int k∧H l=some (.lst xs)∧-(2 ^ 63)≤k∧k<2 ^ 63∧xs.length*k.toNat≤sizeLine ∧
 ∀ p,H p=none→Q (.ref p) (upd H p (.lst (List.replicate k.toNat xs).flatten))
theorem qFA {α:Type} (xs:List α) (k:Nat):(List.replicate k xs).flatten.length=k*xs.length:=by
 induction k with
 | zero=>simp
 | succ k ih=>rw [List.replicate_succ,List.flatten_cons,List.length_append,ih,Nat.succ_mul,Nat.add_comm]
theorem op_rep:OpR X (binaryOp .Mult) qCz:=by
 intro pins s σ H x y v u Q I rx ry h
 obtain ⟨l,k,xs,rfl,rfl,hH,h1,h2,hz,q⟩:=h
 cases rx
 obtain ⟨t,rfl⟩:=ry
 obtain ⟨z,its,n,r,hl,e⟩:=I.lstM hH
 have hlen:its.toArray.size*k.toNat≤sizeLine:=by rw [List.size_toArray,← hl];exact hz
 have hcap:¬ its.toArray.size*k.toNat > (2 ^ 63-1) / 8:=by
  have:(sizeLine:Nat)≤(2 ^ 63-1) / 8:=by decide
  omega
 have hfit:¬ (!Builtin.List.listFitsIndex k)=true:=by
  rw [fitsIndex_both h1 h2]
  exact Bool.false_ne_true
 have hlong:¬ Builtin.List.listTooLong (its.toArray.size*k.toNat)=true:=by
  rw [lV hlen]
  exact Bool.false_ne_true
 have hnew:List.foldl (fun x1 x2=>x1++x2) #[] (List.replicate (if its.toArray.isEmpty=true then 0 else k.toNat) its.toArray)=(List.replicate k.toNat its).flatten.toArray:=by
  have f0:∀ m:Nat,List.foldl (fun x1 x2=>x1++x2) #[] (List.replicate m its.toArray)=(List.replicate m its).flatten.toArray:=fun m=>by
   have:=pA its m []
   rw [List.nil_append] at this
   exact this
  rw [f0]
  cases its with
  | nil=>simp
  | cons a r'=>rw [if_neg (by simp)]
 refine wpAny_binaryOp_repeat_ref (T:="list") (U:="int") (by decide) ⟨_,e,rfl⟩ (fun s'=>typeIs_int s' k t) noFill_list_mul F.fills_int_mul F.slot_int_rmul repeat_list F.slot_int_index.lookup
  (call_meets F.slot_int_rmul (typeIs_int s k t) F.entry_int_rmul (F.args_int_rmul_2 _ _) (int___rmul___int_list k t l its.toArray n)
   ⟨e,rfl,⟨_,e,rfl⟩,call_meets F.slot_list_mul ⟨_,e,rfl⟩ F.entry_list_mul (F.args_list_mul_2 _ _) (AutoListH.list___mul___list_int_3 l its.toArray n k t hfit hcap hlong) ⟨e,?_⟩⟩)
 rw [hnew]
 exact ⟨.ref _,_,I.lnew (t':=s.toks) (r.rep k.toNat) (by rw [qFA,Nat.mul_comm];exact hz),rfl,q _ I.fresh⟩
end
section
variable {prog:Program} {w:World} {A:Around} {E:Value→Shared→Prop} {s:Shared}
end
section
variable {X:Cx}
end
end L2
namespace Att
open PySem PySem.W PySem.Calls PyProof.Rows
theorem qF3 {P:Params} {h:Heap}:∀ (ns:List Int) (vs:List Value),WellAll P h vs (ns.map WData.int)→IntsAre vs ns:=by
 intro ns
 induction ns with
 | nil =>
  intro vs w
  rw [List.map_nil] at w
  cases w
  exact .nil
 | cons n ns ih =>
  intro vs w
  rw [List.map_cons] at w
  cases w with
  | cons a b =>
   cases a
   exact .cons _ _ (ih _ b)
theorem qCK {l:OpenLaw} {n:Nat} (hn:l.most=some n) {P:Params} {h:Heap} {args:List WData} {vals:List Value}
  (hpre:l.row.toRowW.claim.pre args=true) (hwl:WellAll P h vals args) :
  ∃ a vs ns,vals=[Value.ref a]∧args=[WData.list (ns.map WData.int)]∧h.get? a=some { cls:=.type "list",data:=.seq vs.toArray }∧IntsAre vs ns∧ns.length≤n:=by
 have hsh:WShape.hasAll [] args [.list .int]=true:=(pre_splitW hpre).1
 have hc:l.pre.holds [] { args:=args }=true:=(pre_splitW hpre).2
 obtain ⟨d,r,rfl,h1,h2⟩:=hasAllW_cons hsh
 obtain rfl:=hasAllW_nil h2
 obtain ⟨xs,rfl,h3⟩:=hasW_list h1
 obtain ⟨ns,rfl⟩:=items_int h3
 have hlen:ns.length≤n:=by
  unfold OpenLaw.pre at hc
  have h4:(WTm.not (.lt (.lit (.int (n:Int))) (.len (.arg 0)))).holds [] { args:=[.list (ns.map .int)] }=true:=by
   have h4:=(holds_andW hc).1
   rw [hn] at h4
   exact h4
  have h5:=condW_of h4 (w_not (w_lt w_lit (w_len_list (w_arg rfl))))
  rw [List.length_map] at h5
  refine Nat.le_of_not_lt fun q=>?_
  have q':(n:Int)<((ns.length:Nat):Int):=by omega
  first
   | (rw [decide_eq_true q'] at h5;exact absurd h5 (by decide))
   | (simp at h5;omega)
 cases hwl with
 | cons w1 w2 =>
  cases w2
  cases w1 with
  | list ho hall=>exact ⟨_,_,ns,rfl,rfl,ho,qF3 ns _ hall,hlen⟩
theorem qDA (l:OpenLaw) (args:List WData):l.row.toRowW.claim.post args (.bool true) args=true :=
 postW_of (r:=l.row.toRowW) (X:=(true == true))
  (show WShape.has [] (.bool true) .bool=true by first | rfl | decide | simp [WShape.has,WShape.arms,WShape.armsAll])
  (show (WTm.eq .res (.lit (.bool true))).value [] { args:=args,res:=some (.bool true),after:=args }=some (.bool (true == true)) from w_eq_bool (w_res rfl) w_lit) rfl
theorem attach_call {l:OpenLaw} {n:Nat} {q:Program} {loose:List Str} {XP:(Str→Option Value)→Heap→Prop} {YP:World→Heap→Prop} {d:DefRec}
  (hn:l.most=some n) (hdf:d.params.defaults=[])
  (call:∀ (w:World) (s₀ s₁:Shared) (mg mb:Str→Option Value) (fa:Addr) (o:Obj) (pm cd doc:Value) (a:Addr) (vs:List Value) (ns:List Int),
   Ground q loose [] XP w s₀ mg mb s₁.heap→YP w s₁.heap →
   s₁.heap.get? fa=some o→o.data=.func (docDef d.name d.params d.body d.scope pm cd doc)→s₁.heap.CodeRec cd d.name→mg d.name=some (.ref fa) →
   s₁.heap.get? a=some { cls:=.type "list",data:=.seq vs.toArray }→IntsAre vs ns→ns.length≤n→s₁.gens=#[] →
   codeAny (model l.prog w) callerA (.call (.ref fa) ⟨[.ref a],[]⟩) (fun r s'=>r=.ok (.ret (.bool true))∧OldK s₁.heap s'.heap∧s'.os=s₁.os∧AllBare s'.gens) s₁) :
  WalkO q loose XP YP l.row.toRowW d [] (fun f vs=>PySem.call f vs):=by
 intro w s₀ s₁ mg mb G Y fa o pm cd doc dV kV ho hd hcd hD hmg hg args vals as hpre hlay hrd hwl hlo
 obtain rfl:dV=.none:=Dflts.none hD hdf
 obtain rfl:kV=.none:=Dflts.noKw hD
 obtain ⟨a,vs,ns,rfl,rfl,hobj,hints,hlen⟩:=qCK hn hpre hwl
 refine enter_call (codeAny_mono (call w s₀ s₁ mg mb fa o pm cd doc a vs ns G Y ho (fd_plain hd) hcd hmg hobj hints hlen hg) fun r s' hq=>?_)
 obtain ⟨rfl,h2,h3,h4⟩:=hq
 exact ⟨.inl ⟨.bool true,.bool true,[],rfl,fun _=>rfl,.bool true,qDA l _,fun _=>⟨List.Pairwise.nil,fun _ hm=>(nomatch hm)⟩⟩,h2,h3,h4⟩
section
variable {prog:Program} {w:World} {A:Around} {E:Value→Shared→Prop} {s:Shared} {K:Frag}
noncomputable def qJf (h:Heap) (L d:Addr):List (Addr × Obj):=(List.range h.objs.size).filterMap fun a=>if a=L∨a=d then none else (h.get? a).map fun o=>(a,o)
end
end Att
namespace L2
open PySem PySem.Spec PyProof.Rows
theorem vals_ints:∀ {vs:List Value} {ns:List Int},IntsAre vs ns→Vals (ns.map V.int) vs
 | _,_,.nil=>.nil
 | _,_,.cons n t h=>.cons ⟨t,rfl⟩ (vals_ints h)
noncomputable def Only (H:Hp):Prop:=∀ b,H b=none∨∃ o xs,H b=some (.frz o (.lst xs))
theorem qFJ {P:Program} {w:World} {K:PySem.W.Frag} {mg mb:Str→Option Value} {CX:CXT} {k:Nat} {fa a:Addr} {fd:FuncData} {x:Str} {sp:Sp} {s₁:Shared} {vs:List Value} {ns:List Int}
  (KX:K.In s₁.heap) (hns:s₁.heap.Ns mainGlobals mg) (hb:s₁.heap.Ns builtinsNs mb) (hbb:∀ x:Str,x≠"__name__"→mb x=bootBuiltins x) (hlim:s₁.heap.NoLimit) (hg:s₁.gens=#[])
  (ha:s₁.heap.get? a=some { cls:=.type "list",data:=.seq vs.toArray }) (hi:IntsAre vs ns) (hl:ns.length≤sizeLine) (hr:Room k callerA)
  (F:∀ base:Heap,K.In base→base.Ns mainGlobals mg→FnOk P w K mg base CX k fa fd [x] sp) (hbind:∀ (s:Shared) (u:Value),BindsTo s fd ⟨[u],[]⟩ [(x,u)])
  (hsp:∀ H:Hp,Only H→SqL K H a (ns.map V.int)→sp [.ref a] H (fun v _=>v=.bl true) fun _ _ _=>False)
  (hCX:∀ H e s',CX [] H s₁ (fun _ _ _=>False) e s'→False) :
  codeAny (model P w) callerA (.call (.ref fa) ⟨[.ref a],[]⟩) (fun r s'=>r=.ok (.ret (.bool true))∧OldK s₁.heap s'.heap∧s'.os=s₁.os∧AllBare s'.gens) s₁:=by
 have rv:=vals_ints hi
 have lenV:=hi.length
 have core:∀ H:Hp,Only H→SqL K H a (ns.map V.int)→HOk P w H s₁.heap→(∀ b,H b≠none→b=a)→(H a≠none→K.lookup a=none) →
   codeAny (model P w) callerA (.call (.ref fa) ⟨[.ref a],[]⟩) (fun r s'=>r=.ok (.ret (.bool true))∧OldK s₁.heap s'.heap∧s'.os=s₁.os∧AllBare s'.gens) s₁:=by
  intro H hO hS hok hA hK
  have base_of:∀ {b:Addr} {o:Obj},s₁.heap.get? b=some o→H b=none→(jZ s₁.heap H).get? b=some o:=fun e n=>qGV e n
  have noA:∀ {b:Addr} {o:Obj} {es:Array DictEntry} {ep:Nat},s₁.heap.get? b=some o→o.data=.dict es ep→H b=none:=fun {b o es ep} e d=>by
   cases q:H b with
   | none=>rfl
   | some u =>
    have e':b=a:=hA b (by rw [q];simp)
    subst e'
    rw [ha] at e;cases e
    have d':Data.seq vs.toArray _=Data.dict es ep:=d
    cases d'
  have nsK:∀ {b:Addr} {m:Str→Option Value},s₁.heap.Ns b m→(jZ s₁.heap H).Ns b m:=fun {b m} ⟨o,es,ep,e,d,r⟩=>⟨o,es,ep,base_of e (noA e d),d,r⟩
  have hKb:K.In (jZ s₁.heap H):=fun b o e=>base_of (KX b o e) (by
   cases q:H b with
   | none=>rfl
   | some u =>
    have e':b=a:=hA b (by rw [q];simp)
    subst e'
    rw [hK (by rw [q];simp)] at e;cases e)
  have hM:Mod K mg (jZ s₁.heap H):=⟨hKb,nsK hns,⟨mb,nsK hb,hbb⟩,let ⟨mc,h1,h2⟩:=hlim;⟨mc,nsK h1,h2⟩⟩
  have e0:Env0 P w K mg (jZ s₁.heap H) callerA [] s₁ H:=⟨rfl,hM,fun b o e=>qDX e,Nat.le_of_eq (qGU _ _),trivial,fun b hb=>absurd (show b∈([]:List Addr) from hb) (by simp),hok,.of_eq hg⟩
  refine codeAny_mono ((F _ hKb (nsK hns)).run callerA [] s₁ H ⟨[.ref a],[]⟩ [.ref a] [.ref a] _ _ hr e0 (hbind s₁ (.ref a)) (.cons rfl .nil) (hsp H hO hS)) fun r s' h=>?_
  cases r with
  | error e=>exact (hCX H e s' h).elim
  | ok fl =>
   cases fl with
   | next=>exact False.elim h
   | brk=>exact False.elim h
   | cont=>exact False.elim h
   | ret u =>
    obtain ⟨v,H',os,bare,un,hok',r',q⟩:=h
    have q':v=.bl true:=q
    subst q'
    obtain rfl:u=Value.bool true:=r'
    refine ⟨rfl,OldK.of_keep fun b o e=>?_,os,bare⟩
    cases q:H b with
    | none=>exact un.keep b o e q (by intro z;exact absurd (show b∈([]:List Addr) from z) (by simp)) (by simp)
    | some u =>
     rcases hO b with z | ⟨ob,xs,z⟩
     ·rw [q] at z;cases z
     ·have z2:=un.frzs b ob _ z
      obtain ⟨e1,_⟩:=hok b _ z
      obtain ⟨e2,_⟩:=hok' b _ z2
      rw [e] at e1;cases e1
      exact e2
 cases hk:K.lookup a with
 | some o =>
  have e:=KX a o hk
  rw [ha] at e
  cases e
  refine core (fun _=>none) (fun _=>.inl rfl) (.inr ⟨_,vs.toArray,_,hk,rfl,rfl,rfl,by rw [List.size_toArray,lenV];exact hl,by simpa using rv⟩) (fun b u z=>by have z':(none:Option HO)=some u:=z;cases z') (fun b z=>absurd rfl z) fun z=>absurd rfl z
 | none =>
  refine core (fun b=>if b=a then some (.frz { cls:=.type "list",data:=.seq vs.toArray } (.lst (ns.map V.int))) else none) (fun b=>?_) (.inl (.inr ⟨{ cls:=.type "list",data:=.seq vs.toArray },if_pos rfl⟩)) (fun b u z=>?_) (fun b z=>?_) fun _=>hk
  ·by_cases hb:b=a
   ·exact .inr ⟨_,_,if_pos hb⟩
   ·exact .inl (if_neg hb)
  ·by_cases hb:b=a
   ·have z':=(if_pos hb).symm.trans z
    cases z'
    subst hb
    exact ⟨ha,by rw [List.length_map];exact hl,vs,_,rv,ha⟩
   ·have z':=(if_neg hb).symm.trans z
    cases z'
  ·by_cases hb:b=a
   ·exact hb
   ·exact absurd (if_neg hb) z
end L2
namespace L2
open PySem PySem.Spec PyProof.Rows
noncomputable abbrev KOf {K:PySem.W.Frag} {h:Heap} (_:K.In h):PySem.W.Frag:=K
theorem walk_of {l:PySem.W.OpenLaw} {n k:Nat} {q:Program} {loose:List Str} {XP:(Str→Option Value)→Heap→Prop} {YP:World→Heap→Prop} {d:DefRec} {K:Params→PySem.W.Frag} {CX:World→CXT} {sp:World→Sp} {x:Str}
  (hn:l.most=some n) (hn2:n≤sizeLine) (hdf:d.params.defaults=[]) (hr:Room k callerA)
  (hY:∀ (w:World) (h:Heap),YP w h→(K w.params).In h)
  (F:∀ (w:World) (mg:Str→Option Value) (fa:Addr) (h:Heap),(K w.params).In h→h.Ns mainGlobals mg→mg d.name=some (.ref fa) →
   ∃ fd:FuncData,(∀ (s:Shared) (u:Value),BindsTo s fd ⟨[u],[]⟩ [(x,u)]) ∧
    ∀ base:Heap,(K w.params).In base→base.Ns mainGlobals mg→FnOk l.prog w (K w.params) mg base (CX w) k fa fd [x] (sp w))
  (hsp:∀ (w:World) (H:Hp) (a:Addr) (ns:List Int),ns.length≤n→Only H→SqL (K w.params) H a (ns.map V.int)→sp w [.ref a] H (fun v _=>v=.bl true) fun _ _ _=>False)
  (hCX:∀ (w:World) (H:Hp) (s:Shared) (e:Value) (s':Shared),CX w [] H s (fun _ _ _=>False) e s'→False) :
  PySem.W.WalkO q loose XP YP l.row.toRowW d [] (fun f vs=>PySem.call f vs):=by
 refine Att.attach_call hn hdf fun w s₀ s₁ mg mb fa o pm cd doc a vs ns G Y ho hd hcd hmg hobj hints hlen hg=>?_
 have KX:=hY w _ Y
 obtain ⟨fd,hb,hF⟩:=F w mg fa _ KX G.T.g hmg
 exact qFJ KX G.T.g G.T.b G.T.builtins G.T.nolimit hg hobj hints (Nat.le_trans hlen hn2) hr hF hb (fun H hO hS=>hsp w H a ns hlen hO hS) fun H e s'=>hCX w H s₁ e s'
end L2
namespace L2
open PySem PySem.Spec PyProof.Rows
noncomputable def defArgs (s:Stmt):Arguments:=match s with
 | .FunctionDef _ a _ _ _ _ _ _ _ _=>a
 | _=>{ posonlyargs:=[],args:=[],vararg:=none,kwonlyargs:=[],kw_defaults:=[],kwarg:=none,defaults:=[] }
noncomputable def defBody (s:Stmt):List Stmt:=match s with
 | .FunctionDef _ _ b _ _ _ _ _ _ _=>b
 | _=>[]
noncomputable def defScope (s:Stmt):Scope:=match s with
 | .FunctionDef _ _ _ _ _ _ sc _ _ _=>sc
 | _=>{ kind:=.function,names:=[],isGenerator:=false,isCoroutine:=false }
noncomputable abbrev CX0:CXT:=fun _ _ _ _ _ _=>False
structure Fun (K:PySem.W.Frag) (x qual:Str) (st:Stmt) (f:Addr) (fd:FuncData):Prop where
 ex:∃ (oc:Value) (od:Option Addr) (kV doc pm:Value) (an:Option Addr) (cdv ct:Value) (osl:Array (Option Value)),
  fd=PySem.W.fnOf x qual (defArgs st) (defBody st) (defScope st) .none kV doc pm an cdv ct∧K.lookup f=some ⟨oc,od,.func fd,osl⟩∧PySem.W.codeIn K cdv qual=true
 kp:PySem.W.keepIn K (.ref f)=true
section
variable {P:Program} {w:World} {K:PySem.W.Frag} {mg:Str→Option Value} {base:Heap}
theorem Fun.ok {x qual:Str} {st:Stmt} {f:Addr} {fd:FuncData} {N ps:List Str} {k:Nat} {sp:Sp} (F:Fun K x qual st f fd) (S:FnScope N ps (defScope st)) (len:∀ vs H Q E,sp vs H Q E→vs.length=ps.length)
  (hbody:∀ (cdv:Value) (A:Around) (outer:List Env) (s:Shared) (H:Hp) (vs:List V) (Q:VK) (E:XK),Room k (A.deeper (envOfC qual (defScope st) s.heap.objs.size f cdv))→sp vs H Q E →
   ∃ t,PSs (cxOf CX0 P w K mg base N qual (defScope st) f cdv A outer s H E).nox (defBody st) t∧t { nx:=fun _ H'=>Q .non H',rt:=Q } (start N vs) H):FnOk P w K mg base CX0 (k+1) f fd ps sp:=by
 obtain ⟨oc,od,kV,doc,pm,an,cdv,ct,osl,rfl,lk,hcd⟩:=F.ex
 refine fn_of lk hcd S len fun A outer s H vs Q E hr hsp=>?_
 obtain ⟨t,h,q⟩:=hbody cdv A outer s H vs Q E hr hsp
 exact ⟨t,h.nox,q⟩
theorem Fun.binds {x qual:Str} {st:Stmt} {f:Addr} {fd:FuncData} {ps:List Str} (F:Fun K x qual st f fd)
  (h:∀ (kV doc pm:Value) (an:Option Addr) (cdv ct:Value) (us:List Value),us.length=ps.length→bindArgs (PySem.W.fnOf x qual (defArgs st) (defBody st) (defScope st) .none kV doc pm an cdv ct) ⟨us,[]⟩=pure (ps.zip us)):Binds K fd ps []:=by
 obtain ⟨oc,od,kV,doc,pm,an,cdv,ct,osl,rfl,lk,hcd⟩:=F.ex
 exact .all (h kV doc pm an cdv ct)
theorem fun_mk {x qual:Str} {st:Stmt} {f:Addr} {oc:Value} {od an:Option Addr} {osl:Array (Option Value)} {kV doc pm cdv ct:Value} (l:K.lookup f=some ⟨oc,od,.func (PySem.W.fnOf x qual (defArgs st) (defBody st) (defScope st) .none kV doc pm an cdv ct),osl⟩)
  (c:PySem.W.codeIn K cdv qual=true) (k:PySem.W.keepIn K (.ref f)=true):Fun K x qual st f (PySem.W.fnOf x qual (defArgs st) (defBody st) (defScope st) .none kV doc pm an cdv ct):=⟨⟨oc,od,kV,doc,pm,an,cdv,ct,osl,rfl,l,c⟩,k⟩
end
section
variable {X:Cx}
theorem pv (i:Nat) {x:Str} {pos:Pos} (hN:X.N[i]?=some x:=by rfl) (hv:Vis X.env.scope x:=by first | exact Or.inl rfl | exact Or.inr (Or.inl rfl) | exact Or.inr (Or.inr rfl)) (hd:(x == ("__debug__":Str))=false:=by decide)
  (hcd:(x == ("__classdict__":Str))=false:=by decide):PE X (.Name x pos) (tVar i):=pe_var hN hv hd hcd
end
theorem iteF {A B:Prop} (h:B):if false=true then A else B:=by
 rw [if_neg Bool.false_ne_true]
 exact h
theorem iteT {A B:Prop} (h:A):if true=true then A else B:=by
 rw [if_pos rfl]
 exact h
noncomputable def Same (H H':Hp):Prop:=∀ b o,H b=some o→H' b=some o
theorem Same.refl (H:Hp):Same H H:=fun _ _ h=>h
theorem Same.trans {H H1 H2:Hp} (a:Same H H1) (b:Same H1 H2):Same H H2:=fun c o h=>b c o (a c o h)
theorem Same.free {H H':Hp} (e:Same H H') {l:Addr} (h:H' l=Option.none):H l=Option.none:=by
 cases q:H l with
 | none=>rfl
 | some o =>
  rw [e l o q] at h
  cases h
theorem Same.seq {K:PySem.W.Frag} {H H':Hp} {a:Addr} {xs:List V} (e:Same H H') (h:SqL K H a xs):SqL K H' a xs:=by
 rcases h with (h | ⟨o,h⟩) | h
 ·exact .inl (.inl (e _ _ h))
 ·exact .inl (.inr ⟨o,e _ _ h⟩)
 ·exact .inr h
end L2
namespace L2
open PySem PySem.Spec PyProof.Rows
section
variable {κ:Type} [DecidableEq κ]
noncomputable def valV (kvs:List (κ × V)) (k:κ):Option V:=(kvs.find? fun kv=>decide (kv.1=k)).map (·.2)
noncomputable def putK (kvs:List (κ × V)) (k:κ) (v:V):List (κ × V) :=
 if (kvs.any fun kv=>decide (kv.1=k))=true then kvs.map (fun kv=>if kv.1=k then (kv.1,v) else kv) else kvs++[(k,v)]
noncomputable def dropK (kvs:List (κ × V)) (k:κ):List (κ × V):=kvs.filter fun kv=>decide (kv.1≠k)
theorem valV_pos {p:κ × V} {r:List (κ × V)} {k:κ} (e:p.1=k):valV (p::r) k=some p.2:=by simp [valV,List.find?_cons,e]
theorem valV_neg {p:κ × V} {r:List (κ × V)} {k:κ} (e:¬ p.1=k):valV (p::r) k=valV r k:=by simp [valV,List.find?_cons,e]
theorem eR (k:κ):∀ kvs:List (κ × V),(kvs.any fun kv=>decide (kv.1=k))=(valV kvs k).isSome
 | []=>rfl
 | p::r=>by
  rw [List.any_cons]
  by_cases e:p.1=k
  ·simp only [valV_pos e,decide_eq_true e,Bool.true_or,Option.isSome_some]
  ·rw [valV_neg e,decide_eq_false e,Bool.false_or];exact eR k r
theorem length_putK (kvs:List (κ × V)) (k:κ) (v:V):(putK kvs k v).length≤kvs.length+1:=by
 unfold putK
 split
 ·rw [List.length_map];omega
 ·rw [List.length_append,List.length_cons,List.length_nil];omega
theorem RelO.isSome_eq {o:Option V} {u:Option Value} (r:RelO o u):o.isSome=u.isSome:=by
 cases o with
 | none=>cases u with
  | none=>rfl
  | some _=>exact (show False from r).elim
 | some _=>cases u with
  | none=>exact (show False from r).elim
  | some _=>rfl
theorem RelO.getD {o:Option V} {u:Option Value} {d:V} {d':Value} (r:RelO o u) (rd:RelV d d'):RelV (o.getD d) (u.getD d'):=by
 cases o with
 | none=>cases u with
  | none=>exact rd
  | some _=>exact (show False from r).elim
 | some _=>cases u with
  | none=>exact (show False from r).elim
  | some _=>exact r
theorem KV.val {kvs:List (κ × V)} {vs:List (κ × Value)} (r:KV kvs vs) (k:κ):RelO (valV kvs k) (valueAt vs k):=by
 unfold KV at r
 induction r with
 | nil=>exact True.intro
 | @cons p q ps qs h t ih =>
  obtain ⟨h1,h2⟩:=h
  by_cases e:p.1=k
  ·have e':q.1=k:=h1.symm.trans e
   have b:valueAt (q::qs) k=some q.2:=by simp [valueAt,List.find?_cons,e']
   rw [valV_pos e,b];exact h2
  ·have e':¬ q.1=k:=fun z=>e (h1.trans z)
   have b:valueAt (q::qs) k=valueAt qs k:=by simp [valueAt,List.find?_cons,e']
   rw [valV_neg e,b];exact ih
theorem KV.any {kvs:List (κ × V)} {vs:List (κ × Value)} (r:KV kvs vs) (k:κ):(kvs.any fun kv=>decide (kv.1=k))=vs.any fun kv=>decide (kv.1=k):=by
 unfold KV at r
 induction r with
 | nil=>rfl
 | cons h t ih=>rw [List.any_cons,List.any_cons,ih,h.1]
theorem KV.repl {kvs:List (κ × V)} {vs:List (κ × Value)} (r:KV kvs vs) (k:κ) {y:V} {u:Value} (ry:RelV y u) :
  KV (kvs.map fun kv=>if kv.1=k then (kv.1,y) else kv) (vs.map fun kv=>if kv.1=k then (kv.1,u) else kv):=by
 unfold KV at r ⊢
 induction r with
 | nil=>exact .nil
 | @cons p q ps qs h t ih =>
  rw [List.map_cons,List.map_cons]
  refine .cons ?_ ih
  obtain ⟨h1,h2⟩:=h
  by_cases e:p.1=k
  ·rw [if_pos e,if_pos (h1.symm.trans e)];exact ⟨h1,ry⟩
  ·rw [if_neg e,if_neg (fun z=>e (h1.trans z))];exact ⟨h1,h2⟩
theorem KV.put {kvs:List (κ × V)} {vs:List (κ × Value)} (r:KV kvs vs) (k:κ) {y:V} {u:Value} (ry:RelV y u):KV (putK kvs k y) (stored vs k u):=by
 unfold putK stored
 rw [r.any k]
 by_cases e:(vs.any fun kv=>decide (kv.1=k))=true
 ·rw [if_pos e,if_pos e];exact r.repl k ry
 ·rw [if_neg e,if_neg e];exact Paired.snoc r ⟨rfl,ry⟩
theorem KV.drop {kvs:List (κ × V)} {vs:List (κ × Value)} (r:KV kvs vs) (k:κ):KV (dropK kvs k) (without vs k):=by
 unfold KV at r ⊢
 unfold dropK without
 induction r with
 | nil=>exact .nil
 | @cons p q ps qs h t ih =>
  obtain ⟨h1,h2⟩:=h
  rw [List.filter_cons,List.filter_cons]
  by_cases e:p.1=k
  ·have a:¬ decide (p.1≠k)=true:=by simp [e]
   have b:¬ decide (q.1≠k)=true:=by simp [h1.symm.trans e]
   rw [if_neg a,if_neg b];exact ih
  ·have e':¬ q.1=k:=fun z=>e (h1.trans z)
   have a:decide (p.1≠k)=true:=by simp [e]
   have b:decide (q.1≠k)=true:=by simp [e']
   rw [if_pos a,if_pos b];exact .cons ⟨h1,h2⟩ ih
theorem KV.keys {kvs:List (κ × V)} {vs:List (κ × Value)} (r:KV kvs vs):kvs.map (·.1)=vs.map (·.1):=by
 unfold KV at r
 induction r with
 | nil=>rfl
 | cons h t ih=>rw [List.map_cons,List.map_cons,ih,h.1]
theorem KV.length {kvs:List (κ × V)} {vs:List (κ × Value)} (r:KV kvs vs):kvs.length=vs.length:=Paired.length r
theorem qHQ (kvs:List (κ × V)) (k:κ):(dropK kvs k).length≤kvs.length:=List.length_filter_le _ _
end
theorem kV_is {P:Program} {w:World} {k:Key} {u:Value} (r:RelV (kV k) u):(mixKind P w).is k u=true:=by
 cases k with
 | inl i=>obtain ⟨t,e⟩:=(show ∃ t,u=Value.int i t from r);subst e;exact qEU P w i t
 | inr x=>obtain ⟨t,e⟩:=(show ∃ t,u=Value.str x t from r);subst e;exact qET P w x t
noncomputable abbrev KT (H:Hp):List (List Key × V)→List (List Key × Addr × Value)→Prop:=Paired fun p q=>p.1=q.1∧H q.2.1=some (.tup (p.1.map kV))∧RelV p.2 q.2.2
theorem KT.val {H:Hp} {kvs:List (List Key × V)} {xs:List (List Key × Addr × Value)} (r:KT H kvs xs) (k:List Key):RelO (valV kvs k) ((atKey xs k).map (·.2)):=by
 induction r with
 | nil=>exact True.intro
 | @cons p q ps qs h t ih =>
  obtain ⟨h1,_,h2⟩:=h
  by_cases e:p.1=k
  ·have e':q.1=k:=h1.symm.trans e
   have b:atKey (q::qs) k=some q.2:=by simp [atKey,List.find?_cons,e']
   rw [valV_pos e,b];exact h2
  ·have e':¬ q.1=k:=fun z=>e (h1.trans z)
   have b:atKey (q::qs) k=atKey qs k:=by simp [atKey,List.find?_cons,e']
   rw [valV_neg e,b];exact ih
theorem KT.repl {H:Hp} {kvs:List (List Key × V)} {xs:List (List Key × Addr × Value)} (r:KT H kvs xs) (k:List Key) {y:V} {u:Value} (ry:RelV y u) :
  KT H (kvs.map fun kv=>if kv.1=k then (kv.1,y) else kv) (xs.map (putAt k u)):=by
 induction r with
 | nil=>exact .nil
 | @cons p q ps qs h t ih =>
  rw [List.map_cons,List.map_cons]
  refine .cons ?_ ih
  obtain ⟨h1,h2,h3⟩:=h
  unfold putAt
  by_cases e:p.1=k
  ·rw [if_pos e,if_pos (h1.symm.trans e)];exact ⟨h1,h2,ry⟩
  ·rw [if_neg e,if_neg (fun z=>e (h1.trans z))];exact ⟨h1,h2,h3⟩
theorem KT.put {H:Hp} {kvs:List (List Key × V)} {xs:List (List Key × Addr × Value)} (r:KT H kvs xs) (k:List Key) {b:Addr} {y:V} {u:Value} (hb:H b=some (.tup (k.map kV))) (ry:RelV y u) :
  KT H (putK kvs k y) (storedH xs k b u):=by
 have e:(kvs.any fun kv=>decide (kv.1=k))=(atKey xs k).isSome:=by
  rw [eR,(r.val k).isSome_eq,Option.isSome_map]
 unfold putK storedH
 rw [e]
 by_cases q:(atKey xs k).isSome=true
 ·rw [if_pos q,if_pos q];exact r.repl k ry
 ·rw [if_neg q,if_neg q];exact Paired.snoc r ⟨rfl,hb,ry⟩
theorem KT.keeps {H H':Hp} {kvs:List (List Key × V)} {xs:List (List Key × Addr × Value)} (r:KT H kvs xs) (ht:∀ b ys,H b=some (.tup ys)→H' b=some (.tup ys)):KT H' kvs xs :=
 Paired.mapP r fun _ _ z=>⟨z.1,ht _ _ z.2.1,z.2.2⟩
section
variable {P:Program} {w:World} {H:Hp} {h:Heap} {a:Addr}
theorem qCu {u:HO} (ok:HOk P w H h) (e:Rd H a u):ObjOk P w H h a u:=e.ok ok
theorem dk_rd {kvs:List (Key × V)} (ok:HOk P w H h) (e:Rd H a (.dK kvs)):kvs.length≤sizeLine∧(a == sysModules)=false∧∃ vs,KV kvs vs∧h.DictOf (mixKind P w) a vs :=
 show ObjOk P w H h a (.dK kvs) from qCu ok e
theorem dk_of {kvs:List (Key × V)} (ok:HOk P w H h) (e:H a=some (.dK kvs)):kvs.length≤sizeLine∧(a == sysModules)=false∧∃ vs,KV kvs vs∧h.DictOf (mixKind P w) a vs:=dk_rd ok (.inl e)
end
section
variable {X:Cx} {pins:List (Addr × Obj)} {σ:St} {H:Hp} {s:Shared} {a:Addr} {y v:V} {u r:Value} {o:Option V} {A:Around} {E:Value→Shared→Prop}
theorem Inv.big (I:Inv X pins σ H s):sysModules<s.heap.objs.size:=by
 have h:mainGlobals<s.heap.objs.size:=(I.mod.glob.keeps I.bk).lt
 exact Nat.lt_trans (by decide) h
theorem d_write {h':Heap} {t':Nat} {ob:HO} (I:Inv X pins σ H s) (mu:Mut (H a)) (hs:Heap.SameBut a s.heap h') (he:∃ q,h'.get? a=some q) (new:ObjOk X.prog X.w (upd H a ob) h' a ob) :
  Inv X pins σ (upd H a ob) { s with heap:=h',toks:=t' } :=
 I.write (x:=a) (e:=a) mu (.inl rfl) (fun b q hb z=>(hs.2 b hb).trans z) he new
theorem dk_new {P:Program} {w:World} {H':Hp} {h':Heap} {kvs:List (Key × V)} {vs:List (Key × Value)} (z:kvs.length≤sizeLine) (hd:(a == sysModules)=false) (rel:KV kvs vs) (dd:h'.DictOf (mixKind P w) a vs) :
  ObjOk P w H' h' a (.dK kvs):=⟨z,hd,vs,rel,dd⟩
end
section
variable {X:Cx} {pins:List (Addr × Obj)} {σ:St} {H:Hp} {s:Shared} {a:Addr} {kvs:List (Key × V)} {k:Key} {u:Value} {A:Around} {E:Value→Shared→Prop}
theorem d_pop {v:V} {more:List Value} {Q:Value→Shared→Prop} (I:Inv X pins σ H s) (e:H a=some (.dK kvs)) (ry:RelV (kV k) u) (l:valV kvs k=some v) (hm:more=[]∨∃ x,more=[x])
  (h:∀ w' s',Inv X pins σ (upd H a (.dK (dropK kvs k))) s'→RelV v w'→Q w' s'):wpAny (model X.prog X.w) A (call (.builtin "dict.pop") (.ref a::u::more)) Q E s:=by
 obtain ⟨z,hd,vs,rel,dd⟩:=dk_of I.hok e
 obtain ⟨w',hw,rw'⟩:=RelO.some_of (v:=v) (o:=valueAt vs k) (by rw [← l];exact rel.val k)
 have hp:(keyPart u).isSome=true:=by
  cases k with
  | inl i=>obtain ⟨t,q⟩:=(show ∃ t,u=Value.int i t from ry);subst q;rfl
  | inr x=>obtain ⟨t,q⟩:=(show ∃ t,u=Value.str x t from ry);subst q;rfl
 have ha:argsOk "dict.pop" ⟨.ref a::u::more,[]⟩:=by
  rcases hm with q | ⟨x,q⟩
  ·subst q;exact PySem.F.args_dict_pop_2 _ _
  ·subst q;exact PySem.F.args_dict_pop_3 _ _ _
 refine call_meetsIn PySem.F.slot_dict_pop dd.typeIs PySem.F.entry_dict_pop ha (meets_dict_pop_there (mixKind X.prog X.w) a (kV_is ry) more hm hp)
  ⟨vs,w',dd,by rw [← rel.length];exact z,hw,fun h' dd' hs=>h w' _ ?_ rw'⟩
 have he:∃ q,h'.get? a=some q:=let ⟨q,_,_,hq,_⟩:=dd';⟨q,hq⟩
 exact d_write I (by rw [e];exact True.intro) hs he (dk_new (Nat.le_trans (qHQ kvs k) z) hd (rel.drop k) dd')
end
theorem pP {P:Program} {w:World} {H:Hp} (h:Heap) (hb:sysModules<h.objs.size):ObjOk P w H (h.push { cls:=.type "dict",data:=.dict #[] }) h.objs.size (.dK []) :=
 ⟨Nat.zero_le _,beq_eq_false_iff_ne.mpr (Ne.symm (Nat.ne_of_lt hb)),[],.nil,Heap.DictOf.new h⟩
noncomputable def qBQ:TE:=fun _ H Q=>∀ p,H p=none→Q (.ref p) (upd H p (.dK []))
section
variable {X:Cx} {pos:Pos}
theorem pe_dnewK:PE X (.Dict [] [] pos) qBQ:=fun pins s σ H Q I h =>
 wpAny_Dict_empty ⟨.ref s.heap.objs.size,_,I.laid (a:=s.heap.objs.size) (o:=.dK []) (t':=s.toks) (fun _ _ q=>Heap.get?_push_of_some _ q) (Nat.le_refl _) (pP s.heap I.big),rfl,h _ (I.hok.fresh (Nat.le_refl _))⟩
end
noncomputable def tPairs:List (TE × TE)→St→Hp→(List (V × V)→Hp→Prop)→Prop
 | [],_,H,Q=>Q [] H
 | (tk,tv)::r,σ,H,Q=>tk σ H fun x H1=>tv σ H1 fun y H2=>tPairs r σ H2 fun ps H3=>Q ((x,y)::ps) H3
noncomputable abbrev VV:List (V × V)→List (Value × Value)→Prop:=Paired fun p q=>RelV p.1 q.1∧RelV p.2 q.2
noncomputable def PPs (X:Cx) (pos:Pos) (keys:List (Option Expr)) (values:List Expr) (trs:List (TE × TE)):Prop :=
 ∀ (pins:List (Addr × Obj)) (s:Shared) (σ:St) (H:Hp) (Q:List (V × V)→Hp→Prop),Inv X pins σ H s→tPairs trs σ H Q →
  wpAny (model X.prog X.w) X.A (evalPairs (pairTrees keys values X.env pos)) (fun vs s'=>∃ ps H',Inv X pins σ H' s'∧VV ps vs∧Q ps H') X.xe s
theorem pps_nil {X:Cx} {pos:Pos}:PPs X pos [] [] []:=fun pins s σ H Q I h=>pairTrees_nil_walk ⟨[],H,I,.nil,h⟩
theorem pps_cons {X:Cx} {pos:Pos} {k v:Expr} {ks:List (Option Expr)} {vs:List Expr} {tk tv:TE} {trs:List (TE × TE)} (hk:PE X k tk) (hv:PE X v tv) (hr:PPs X pos ks vs trs) :
  PPs X pos (some k::ks) (v::vs) ((tk,tv)::trs):=fun pins s σ H Q I h =>
 pairTrees_cons_walk (thn (hk pins s σ H _ I h) fun u s1 ⟨x,H1,I1,rx,q1⟩=>thn (hv pins s1 σ H1 _ I1 q1) fun w2 s2 ⟨y,H2,I2,ry,q2⟩ =>
  thn (hr pins s2 σ H2 _ I2 q2) fun ws s3 ⟨ps,H3,I3,rel,q3⟩=>⟨(x,y)::ps,H3,I3,.cons ⟨rx,ry⟩ rel,q3⟩)
noncomputable def mergeK (kvs more:List (Key × V)):List (Key × V):=more.foldl (fun acc kv=>putK acc kv.1 kv.2) kvs
theorem KV.merge:∀ {more:List (Key × V)} {rs:List (Key × Value)} {kvs:List (Key × V)} {vs:List (Key × Value)},KV more rs→KV kvs vs→KV (mergeK kvs more) (merged vs rs):=by
 intro more rs kvs vs r
 unfold KV at r
 induction r generalizing kvs vs with
 | nil=>intro q;exact q
 | @cons p q ps qs h t ih =>
  intro r0
  have e:KV (putK kvs p.1 p.2) (stored vs q.1 q.2):=by
   have:=r0.put p.1 h.2
   rw [← h.1];exact this
  exact ih e
theorem mX:∀ (more kvs:List (Key × V)),(mergeK kvs more).length≤kvs.length+more.length
 | [],kvs=>by show kvs.length≤kvs.length+0;omega
 | p::r,kvs=>by
  have h1:=mX r (putK kvs p.1 p.2)
  have h2:=length_putK kvs p.1 p.2
  show (mergeK (putK kvs p.1 p.2) r).length≤_
  rw [List.length_cons];omega
theorem rL {P:Program} {w:World}:∀ {kvs:List (Key × V)} {ws:List (Value × Value)},VV (kvs.map fun kv=>(kV kv.1,kv.2)) ws→∃ rs,Carries (mixKind P w) ws rs∧KV kvs rs
 | [],_,r=>by rw [List.map_nil] at r;cases r;exact ⟨[],True.intro,.nil⟩
 | p::kvs,_,r=>by
  rw [List.map_cons] at r
  cases r with
  | @cons a b as bs h t =>
   obtain ⟨rs,c,q⟩:=rL (P:=P) (w:=w) t
   obtain ⟨b1,b2⟩:=b
   exact ⟨(p.1,b2)::rs,⟨kV_is h.1,rfl,c⟩,.cons ⟨rfl,h.2⟩ q⟩
noncomputable def qBP (trs:List (TE × TE)):TE:=fun σ H Q=>∀ p,H p=none→tPairs trs σ (upd H p (.dK [])) fun ps H2=>H2 p=some (.dK [])∧∃ kvs:List (Key × V),ps=kvs.map (fun kv=>(kV kv.1,kv.2))∧kvs.length≤15∧Q (.ref p) (upd H2 p (.dK (mergeK [] kvs)))
theorem pe_disp {X:Cx} {pos:Pos} {keys:List (Option Expr)} {values:List Expr} {trs:List (TE × TE)} (h:PPs X pos keys values trs) (hall:keys.all (·.isSome)=true) (hl:keys.length=values.length) (h0:keys≠[])
  (h15:keys.length≤15):PE X (.Dict keys values pos) (qBP trs):=by
 intro pins s σ H Q I q
 have hn:=I.hok.fresh (Nat.le_refl s.heap.objs.size)
 have I1:=I.laid (a:=s.heap.objs.size) (o:=.dK []) (h':=s.heap.push { cls:=.type "dict",data:=.dict #[] }) (t':=s.toks) (fun _ _ q=>Heap.get?_push_of_some _ q) (Nat.le_refl _) (pP s.heap I.big)
 refine wpAny_Dict_walk (knd:=mixKind X.prog X.w) hall hl h0 h15 (thn (h pins _ σ _ _ I1 (q _ hn)) fun ws s2 ⟨ps,H2,I2,rel,e,kvs,ep,lk,q2⟩=>?_)
 subst ep
 obtain ⟨rs,c,rk⟩:=rL (P:=X.prog) (w:=X.w) rel
 obtain ⟨z,hd,vs0,r0,dd⟩:=dk_of I2.hok e
 cases r0
 refine ⟨rs,c,dd,fun h' dd' hs=>⟨.ref s.heap.objs.size,_,?_,rfl,q2⟩⟩
 have hz:(mergeK [] kvs).length≤sizeLine:=by
  have h1:=mX kvs []
  rw [List.length_nil] at h1
  rw [sizeLine_eq];omega
 have he:∃ q,h'.get? s.heap.objs.size=some q:=let ⟨q,_,_,hq,_⟩:=dd';⟨q,hq⟩
 exact d_write I2 (by rw [e];exact True.intro) hs he (dk_new hz hd (rk.merge .nil) dd')
end L2
set_option Elab.async false
set_option linter.all false
set_option genSizeOf false
set_option genSizeOfSpec false
set_option genInjectivity false
namespace Fy
open PySem
noncomputable abbrev Tx:=List Nat
inductive D where
 | non | bl (b:Bool) | int (i:Int) | str (x:Tx) | tup (xs:List D) | ref (i:Nat)
 deriving Inhabited
inductive Ky where
 | int (i:Int) | str (x:Tx)
 deriving DecidableEq
inductive O where
 | lst (xs:List D) | rol (xs:List D) | ins (c:Nat) (fs:List (Nat × D)) | dct (kvs:List (Ky × D)) | xc (c:Nat) | rod (kvs:List (Ky × D))
 deriving Inhabited
noncomputable def kL:Nat→Nat→List Nat→List Nat
 | 0,_,acc=>acc
 | f+1,n,acc=>if n=0 then acc else kL f (n / 256) (n % 256::acc)
noncomputable def qI (n:Nat):Str:=⟨(kL 60 n []).toArray⟩
noncomputable abbrev AH:=List O
noncomputable abbrev Env:=List (Option D)
inductive R (α:Type) where
 | ok (a:α) (h:AH) | exc (c:Nat) (h:AH) | bad
noncomputable abbrev M (α:Type):=AH→R α
noncomputable def R.bind {α β:Type}:R α→(α→AH→R β)→R β
 | .ok a h,f=>f a h
 | .exc c h,_=>.exc c h
 | .bad,_=>.bad
noncomputable def M.bind {α β:Type} (m:M α) (f:α→M β):M β:=fun h=>(m h).bind f
noncomputable def R.calm {α:Type}:R α→R α
 | .exc _ _=>.bad
 | r=>r
noncomputable def M.calm {α:Type} (m:M α):M α:=fun h=>(m h).calm
noncomputable def M.ret {α:Type} (a:α):M α:=fun h=>.ok a h
noncomputable def M.bad {α:Type}:M α:=fun _=>.bad
noncomputable def M.when {α:Type} (c:Prop) [Decidable c] (m:M α):M α:=fun h=>if c then m h else .bad
noncomputable def eH (o:O):M D:=fun h=>.ok (.ref h.length) (h++[o])
noncomputable def getL (h:AH) (i:Nat):Option (List D):=match h[i]? with
 | some (.lst xs)=>some xs
 | some (.rol xs)=>some xs
 | _=>none
noncomputable def zC (h:AH) (i:Nat):Nat:=((getL h i).getD []).length+1
noncomputable def newL (xs:List D):M D:=M.when (xs.length≤16777216) (eH (.lst xs))
inductive Ty where
 | int | str | bool | list | tuple
 deriving DecidableEq
inductive Un where
 | neg | len | str | int | ord | tuple | list | all | any | isN | notN | isB (b:Bool) | isi (t:Ty) | fmt | upper | sum | clear | isx (cs xl:List Nat) | fld (k:Nat) | nsB (b:Bool) | rev | sorted | lrng
 deriving DecidableEq
inductive Bi where
 | add | sub | mul | fdiv | mod | pow | eq | ne | lt | le | gt | ge | isin | notin | ix | min2 | max2 | find | split | join | append | zfill | remove | get | pop | starts | index | part | rpart | lpop | lrng | extend
 deriving DecidableEq
noncomputable def b2i (b:Bool):Int:=if b then 1 else 0
noncomputable def jK (h:AH) (t:Ty) (d:D):Option Bool:=match d with
 | .non=>some false
 | .bl _=>some (t == .bool || t == .int)
 | .int _=>some (t == .int)
 | .str _=>some (t == .str)
 | .tup _=>some (t == .tuple)
 | .ref i=>(getL h i).map fun _=>t == .list
noncomputable def txI (i:Int):Tx:=(toString i).toList.map Char.toNat
noncomputable def jI (d:D):M Bool:=fun h=>match d with
 | .non=>.ok false h
 | .bl b=>.ok b h
 | .int i=>.ok (i != 0) h
 | .str x=>if x.length≤16777216 then .ok (!x.isEmpty) h else .bad
 | .tup xs=>.ok (!xs.isEmpty) h
 | .ref i=>match getL h i with
  | some xs=>.ok (!xs.isEmpty) h
  | none=>.bad
noncomputable def dE:List D→Option (List Bool)
 | []=>some []
 | .bl b::r=>(dE r).map (b::·)
 | _::_=>none
noncomputable def tK (xs:List D):Option Bool:=(dE xs).map (·.all id)
noncomputable def tI (xs:List D):Option Bool:=(dE xs).map (·.any id)
noncomputable def eqW (f:D→D→Option Bool):List D→List D→Option Bool
 | [],[]=>some true
 | [],_::_=>some false
 | _::_,[]=>some false
 | x::xs,y::ys=>match f x y,eqW f xs ys with
  | some a,some b=>some (a&&b)
  | _,_=>none
noncomputable def eqD (h:AH):Nat→D→D→Option Bool
 | _,.non,.non=>some true
 | _,.bl a,.bl b=>some (a == b)
 | _,.int a,.int b=>some (a == b)
 | _,.str a,.str b=>some (a == b)
 | _,.bl a,.int b=>some (b2i a == b)
 | _,.int a,.bl b=>some (a == b2i b)
 | n+1,.tup xs,.tup ys=>eqW (eqD h n) xs ys
 | n+1,.ref i,.ref j=>match getL h i,getL h j with
  | some xs,some ys=>eqW (eqD h n) xs ys
  | _,_=>none
 | _,.non,.bl _=>some false
 | _,.non,.int _=>some false
 | _,.non,.str _=>some false
 | _,.bl _,.non=>some false
 | _,.int _,.non=>some false
 | _,.str _,.non=>some false
 | _,.int _,.str _=>some false
 | _,.str _,.int _=>some false
 | _,.bl _,.str _=>some false
 | _,.str _,.bl _=>some false
 | _,.tup _,.non=>some false
 | _,.tup _,.bl _=>some false
 | _,.tup _,.int _=>some false
 | _,.tup _,.str _=>some false
 | _,.non,.tup _=>some false
 | _,.bl _,.tup _=>some false
 | _,.int _,.tup _=>some false
 | _,.str _,.tup _=>some false
 | _,.ref i,.tup _=>(getL h i).map fun _=>false
 | _,.tup _,.ref i=>(getL h i).map fun _=>false
 | _,.ref i,.non=>(getL h i).map fun _=>false
 | _,.ref i,.bl _=>(getL h i).map fun _=>false
 | _,.ref i,.int _=>(getL h i).map fun _=>false
 | _,.ref i,.str _=>(getL h i).map fun _=>false
 | _,.non,.ref i=>(getL h i).map fun _=>false
 | _,.bl _,.ref i=>(getL h i).map fun _=>false
 | _,.int _,.ref i=>(getL h i).map fun _=>false
 | _,.str _,.ref i=>(getL h i).map fun _=>false
 | _,_,_=>none
noncomputable def ixN (n:Nat) (i:Int):Option Nat:=if 0≤i then (if i<n then some i.toNat else none) else if -(n:Int)≤i then some (i+n).toNat else none
noncomputable def qO (n d:Nat):Option Int→Nat
 | none=>d
 | some v=>if v<0 then (v+n).toNat else min v.toNat n
noncomputable def qS {α:Type} (xs:List α) (lo hi:Option Int):List α:=(xs.drop (qO xs.length 0 lo)).take (qO xs.length xs.length hi-qO xs.length 0 lo)
noncomputable def yC (x:Tx):Bool:=x.all fun c=>decide (48≤c∧c≤57)
noncomputable def pR (x:Tx):Nat:=x.foldl (fun acc c=>acc*10+(c-48)) 0
noncomputable def qV (k:Nat):List (Nat × D)→Option D
 | []=>none
 | (g,x)::r=>if g == k then some x else qV k r
noncomputable def jQ (k:Nat) (d:D):List (Nat × D)→List (Nat × D)
 | []=>[(k,d)]
 | (g,x)::r=>if g == k then (g,d)::r else (g,x)::jQ k d r
noncomputable def tbN:List (Nat × Nat)→Nat→Option Nat
 | [],_=>none
 | (g,x)::r,k=>if g == k then some x else tbN r k
noncomputable def zN:List D→Option (List Int)
 | []=>some []
 | .int x::r=>(zN r).map (x::·)
 | _::_=>none
noncomputable def vU (x:Int):List Int→List Int
 | []=>[x]
 | y::r=>if x≤y then x::y::r else y::vU x r
noncomputable def zX:List Int→List Int
 | []=>[]
 | x::r=>vU x (zX r)
noncomputable def qX (i:Int):Prop:=-4611686018427387904≤i∧i<4611686018427387904
instance (i:Int):Decidable (qX i):=by unfold qX;exact inferInstance
noncomputable def uP (k:Nat):M D:=fun h=>match h[k]? with
 | some (.dct kvs)=>.ok (.int kvs.length) h
 | _=>.bad
noncomputable def aT (ds:List D):M D:=fun h=>match zN ds with
 | some xs=>if xs.length<64 then newL ((zX xs).map .int) h else .bad
 | none=>.bad
noncomputable def vF:List (Ky × D)→Option (List Int)
 | []=>some []
 | (.int i,_)::r=>(vF r).map (i::·)
 | (.str _,_)::_=>none
noncomputable def kZ (k:Nat):M D:=fun h=>match h[k]? with
 | some (.dct kvs)=>match vF kvs with
  | some ns=>newL ((zX ns).map .int) h
  | none=>.bad
 | _=>.bad
noncomputable def qR (lo:Int) (n:Nat):List D:=(List.range n).map fun (k:Nat)=>D.int (lo+k)
noncomputable def unD (o:Un) (d:D):M D:=fun h=>match o,d with
 | .neg,.int i=>.ok (.int (-i)) h
 | .len,.str x=>if x.length≤16777216 then .ok (.int x.length) h else .bad
 | .len,.tup xs=>.ok (.int xs.length) h
 | .len,.ref i=>match getL h i with
  | some xs=>.ok (.int xs.length) h
  | none=>uP i h
 | .str,.int i=>if i.natAbs.log2<1920 then .ok (.str (txI i)) h else .bad
 | .int,.int i=>.ok (.int i) h
 | .int,.bl b=>.ok (.int (b2i b)) h
 | .int,.str x=>if x≠[]∧x.length≤640∧yC x=true then .ok (.int (pR x)) h else .bad
 | .ord,.str x=>match x with
  | [c]=>.ok (.int c) h
  | _=>.bad
 | .tuple,.tup xs=>.ok (.tup xs) h
 | .tuple,.ref i=>match getL h i with
  | some xs=>.ok (.tup xs) h
  | none=>.bad
 | .list,.tup xs=>newL xs h
 | .list,.ref i=>match getL h i with
  | some xs=>newL xs h
  | none=>.bad
 | .all,.ref i=>match (getL h i).bind tK with
  | some b=>.ok (.bl b) h
  | none=>.bad
 | .any,.ref i=>match (getL h i).bind tI with
  | some b=>.ok (.bl b) h
  | none=>.bad
 | .sorted,.ref i=>match getL h i with
  | some ds=>aT ds h
  | none=>kZ i h
 | .fld k,.ref i=>match h[i]? with
  | some (.ins _ fs)=>match qV k fs with
   | some d=>.ok d h
   | none=>.bad
  | _=>.bad
 | .isN,d=>.ok (.bl (match d with | .non=>true | _=>false)) h
 | .notN,d=>.ok (.bl (match d with | .non=>false | _=>true)) h
 | .isB b,.bl c=>.ok (.bl (b == c)) h
 | .isB _,.non=>.ok (.bl false) h
 | .isB _,.int _=>.ok (.bl false) h
 | .isB _,.str _=>.ok (.bl false) h
 | .nsB b,.bl c=>.ok (.bl (!(b == c))) h
 | .nsB _,.non=>.ok (.bl true) h
 | .nsB _,.int _=>.ok (.bl true) h
 | .nsB _,.str _=>.ok (.bl true) h
 | .isi t,d=>match jK h t d with
  | some b=>.ok (.bl b) h
  | none=>.bad
 | _,_=>.bad
noncomputable def kM (i j:Int):Prop:=(-18446744073709551616<i∧i<18446744073709551616)∨(-18446744073709551616<j∧j<18446744073709551616)
instance (i j:Int):Decidable (kM i j):=by unfold kM;exact inferInstance
noncomputable def qK (h:AH) (x y:D):Option Bool:=eqD h 40 x y
noncomputable def uV (x y:Tx):Option Bool:=match x with
 | [c]=>some (y.contains c)
 | _=>none
noncomputable def uG (c:Nat):Nat→Tx→List Nat
 | _,[]=>[]
 | k,x::r=>if x=c then k::uG c (k+1) r else uG c (k+1) r
noncomputable def nA (c:Nat):Nat→Tx→Option Nat
 | _,[]=>none
 | k,x::r=>match nA c (k+1) r with
  | some i=>some i
  | none=>if x=c then some k else none
noncomputable def lI (a:Tx) (cuts:List Nat):List Tx:=((0::cuts.map (·+1)).zip (cuts++[a.length])).map fun p=>(a.drop p.1).take (p.2-p.1)
noncomputable def iV (a:Tx) (c:Nat):List Tx:=match nA c 0 a with
 | some i=>[a.take i,[c],a.drop (i+1)]
 | none=>[[],[],a]
noncomputable def qQ:List D→Option (List Tx)
 | []=>some []
 | .str x::r=>(qQ r).map (x::·)
 | _::_=>none
noncomputable def zR (sep:Tx):List Tx→Tx
 | []=>[]
 | [x]=>x
 | x::y::r=>x++sep++zR sep (y::r)
noncomputable def zY (sep:Tx) (xs:List Tx):Nat:=(xs.map List.length).sum+xs.length*sep.length
noncomputable def jO (f:D→Option Bool):List D→Option Bool
 | []=>some false
 | x::xs=>match f x,jO f xs with
  | some a,some b=>some (a || b)
  | _,_=>none
noncomputable def qG (kvs:List (Ky × D)) (k:Ky):Option D:=(kvs.find? fun kv=>decide (kv.1=k)).map (·.2)
noncomputable def zU (kvs:List (Ky × D)) (k:Ky) (d:D):List (Ky × D):=if (kvs.any fun kv=>decide (kv.1=k))=true then kvs.map (fun kv=>if kv.1=k then (kv.1,d) else kv) else kvs++[(k,d)]
noncomputable def uM (kvs more:List (Ky × D)):List (Ky × D):=more.foldl (fun acc kv=>zU acc kv.1 kv.2) kvs
noncomputable def ixK (k:Nat) (y:Ky):M D:=fun h=>match h[k]? with
 | some (.dct kvs)=>match qG kvs y with
  | some d=>.ok d h
  | none=>.bad
 | some (.rod kvs)=>match qG kvs y with
  | some d=>.ok d h
  | none=>.bad
 | _=>.bad
noncomputable def kB (k:Nat) (y:Ky):M D:=fun h=>match h[k]? with
 | some (.dct kvs)=>.ok (.bl (qG kvs y).isSome) h
 | _=>.bad
noncomputable def kA (k:Nat) (y:Ky):M D:=fun h=>match h[k]? with
 | some (.dct kvs)=>.ok (.bl (!(qG kvs y).isSome)) h
 | _=>.bad
noncomputable def kI (d:D) (k:Nat) (y:Ky):M Unit:=fun h=>match h[k]? with
 | some (.dct kvs)=>if kvs.length<16777216 then .ok () (h.set k (.dct (zU kvs y d))) else .bad
 | _=>.bad
noncomputable def vZ (k:Nat) (y:Ky):M D:=fun h=>match h[k]? with
 | some (.dct kvs)=>.ok ((qG kvs y).getD .non) h
 | _=>.bad
noncomputable def zI (kvs:List (Ky × D)) (k:Ky):List (Ky × D):=kvs.filter fun kv=>decide (kv.1≠k)
noncomputable def uH (k:Nat) (y:Ky):M D:=fun h=>match h[k]? with
 | some (.dct kvs)=>match qG kvs y with
  | some d=>.ok d (h.set k (.dct (zI kvs y)))
  | none=>.bad
 | _=>.bad
noncomputable def yZ (k:Nat) (y:Ky) (d:D):M D:=fun h=>match h[k]? with
 | some (.dct kvs)=>match qG kvs y with
  | some x=>.ok x h
  | none=>if kvs.length<16777216 then .ok d (h.set k (.dct (zU kvs y d))) else .bad
 | _=>.bad
noncomputable def aU (x y z:D):M D:=match x,y with
 | .ref k,.int i=>yZ k (.int i) z
 | _,_=>M.bad
noncomputable def gL (ks:List Ky) (ds:List D) (p:Nat):M D:=fun h=>match h[p]? with
 | some (.dct [])=>if ks.length=ds.length∧ks.length≤15 then .ok (.ref p) (h.set p (.dct (uM [] (ks.zip ds)))) else .bad
 | _=>.bad
noncomputable def kyD:Ky→D
 | .int i=>.int i
 | .str x=>.str x
noncomputable def jJ (kvs:List (Ky × D)):List D:=kvs.map fun kv=>kyD kv.1
noncomputable def wL {α:Type} (i:Nat):R α→R α
 | .ok a h=>match h[i]? with
  | some (.rod kvs)=>.ok a (h.set i (.dct kvs))
  | _=>.bad
 | _=>.bad
noncomputable def eM (x:D) (k:List D→M D):M D:=fun h=>match x with
 | .ref i=>match h[i]? with
  | some (.dct kvs)=>if kvs.length<16777216 then wL i (k (jJ kvs) (h.set i (.rod kvs))) else .bad
  | _=>.bad
 | _=>.bad
noncomputable def biD (o:Bi) (x y:D):M D:=fun h=>match o,x,y with
 | .add,.int i,.int j=>.ok (.int (i+j)) h
 | .add,.str a,.str b=>if a.length+b.length≤16777216 then .ok (.str (a++b)) h else .bad
 | .add,.tup a,.tup b=>if a.length+b.length≤16777216 then .ok (.tup (a++b)) h else .bad
 | .add,.ref i,.ref j=>match h[i]?,h[j]? with
  | some (.lst xs),some (.lst ys)=>newL (xs++ys) h
  | _,_=>.bad
 | .sub,.int i,.int j=>.ok (.int (i-j)) h
 | .mul,.int i,.int j=>if kM i j then .ok (.int (i*j)) h else .bad
 | .mul,.str x,.int n=>if 0≤n∧n≤1000000∧x≠[]∧x.length*n.toNat≤16777216 then .ok (.str (List.replicate n.toNat x).flatten) h else .bad
 | .mul,.tup xs,.int n=>if xs≠[]∧n=0 then .ok (.tup []) h else if n=1 then .ok (.tup xs) h else .bad
 | .mul,.ref k,.int n=>match h[k]? with
  | some (.lst xs)=>if 0≤n∧n≤1000000∧xs.length*n.toNat≤16777216 then newL (List.replicate n.toNat xs).flatten h else .bad
  | _=>.bad
 | .fdiv,.int i,.int j=>if 0<j∧j<1073741824 then .ok (.int (i / j)) h else .bad
 | .mod,.int i,.int j=>if 0<j then .ok (.int (i % j)) h else .bad
 | .pow,.int i,.int j=>if 0≤j∧j≤1000000∧i.natAbs<18446744073709551616 then .ok (.int (i ^ j.toNat)) h else .bad
 | .eq,x,y=>match qK h x y with
  | some b=>.ok (.bl b) h
  | none=>.bad
 | .ne,x,y=>match qK h x y with
  | some b=>.ok (.bl (!b)) h
  | none=>.bad
 | .lt,.int i,.int j=>.ok (.bl (decide (i<j))) h
 | .le,.int i,.int j=>.ok (.bl (decide (i≤j))) h
 | .gt,.int i,.int j=>.ok (.bl (decide (j<i))) h
 | .ge,.int i,.int j=>.ok (.bl (decide (j≤i))) h
 | .isin,.str a,.str b=>match uV a b with
  | some r=>.ok (.bl r) h
  | none=>.bad
 | .isin,.int a,.ref i=>match (getL h i).bind zN with
  | some xs=>.ok (.bl (xs.contains a)) h
  | none=>kB i (.int a) h
 | .isin,.str a,.tup xs=>match qQ xs with
  | some ys=>.ok (.bl (ys.contains a)) h
  | none=>.bad
 | .isin,.tup a,.ref i=>match (getL h i).bind (jO fun x=>qK h x (.tup a)) with
  | some b=>.ok (.bl b) h
  | none=>.bad
 | .notin,.int a,.ref i=>match (getL h i).bind zN with
  | some xs=>.ok (.bl (!xs.contains a)) h
  | none=>kA i (.int a) h
 | .notin,.str a,.str b=>match uV a b with
  | some r=>.ok (.bl (!r)) h
  | none=>.bad
 | .ix,.tup xs,.int i=>match (ixN xs.length i).bind (xs[·]?) with
  | some d=>.ok d h
  | none=>.bad
 | .ix,.str x,.int i=>if x.length≤16777216 then match (ixN x.length i).bind (x[·]?) with
  | some c=>.ok (.str [c]) h
  | none=>.bad
  else .bad
 | .ix,.ref k,.int i=>match (getL h k).bind fun xs=>(ixN xs.length i).bind (xs[·]?) with
  | some d=>.ok d h
  | none=>ixK k (.int i) h
 | .ix,.ref k,.str x=>ixK k (.str x) h
 | .min2,.int i,.int j=>.ok (.int (if j<i then j else i)) h
 | .max2,.int i,.int j=>.ok (.int (if j > i then j else i)) h
 | .zfill,.str x,.int n=>if 0≤n∧n≤1000∧yC x=true∧x.length≤1000 then .ok (.str (List.replicate (n.toNat-x.length) 48++x)) h else .bad
 | .join,.str x,.ref i=>match (getL h i).bind qQ with
  | some xs=>if zY x xs≤16777216 then .ok (.str (zR x xs)) h else .bad
  | none=>.bad
 | .append,.ref k,d=>match h[k]? with
  | some (.lst xs)=>if xs.length<16777216 then .ok .non (h.set k (.lst (xs++[d]))) else .bad
  | _=>.bad
 | .split,.str a,.str b=>match b with
  | [c]=>if c<256∧a.length≤1000000 then newL ((lI a (uG c 0 a)).map .str) h else .bad
  | _=>.bad
 | .rpart,.str a,.str b=>match b with
  | [c]=>if a.length≤1000000 then .ok (.tup ((iV a c).map .str)) h else .bad
  | _=>.bad
 | .get,.ref k,.int i=>vZ k (.int i) h
 | .pop,.ref k,.int i=>uH k (.int i) h
 | .extend,.ref k,.ref j=>match h[k]?,h[j]? with
  | some (.lst xs),some (.lst ys)=>if xs.length+ys.length≤16777216 then .ok .non (h.set k (.lst (xs++ys))) else .bad
  | _,_=>.bad
 | _,_,_=>.bad
noncomputable def slD (x:D) (l u:Option Int):M D:=fun h=>match x with
 | .str x=>if x.length≤16777216 then .ok (.str (qS x l u)) h else .bad
 | .tup xs=>.ok (.tup (qS xs l u)) h
 | .ref i=>match getL h i with
  | some xs=>newL (qS xs l u) h
  | none=>.bad
 | _=>.bad
noncomputable def zL (o:Bi) (x:D):M Unit:=fun h=>match o,x with
 | .append,.ref i=>match getL h i with
  | some _=>.ok () h
  | none=>.bad
 | .extend,.ref i=>match getL h i with
  | some _=>.ok () h
  | none=>.bad
 | .split,.str _=>.ok () h
 | .rpart,.str _=>.ok () h
 | .join,.str _=>.ok () h
 | .zfill,.str _=>.ok () h
 | .get,.ref i=>match h[i]? with
  | some (.dct _)=>.ok () h
  | _=>.bad
 | .pop,.ref i=>match h[i]? with
  | some (.dct _)=>.ok () h
  | _=>.bad
 | _,_=>.bad
noncomputable def bM (m:Nat) (x:D):M Nat:=fun h=>match x with
 | .ref i=>match h[i]? with
  | some (.ins c fs)=>if (qV m fs).isNone then .ok c h else .bad
  | _=>.bad
 | _=>.bad
noncomputable def uB (k:Nat) (cs:List Nat) (d x:D):M Unit:=fun h=>match x with
 | .ref i=>match h[i]? with
  | some (.ins c fs)=>if cs.contains c=true∧fs.length<1000 then .ok () (h.set i (.ins c (jQ k d fs))) else .bad
  | _=>.bad
 | _=>.bad
noncomputable def vM (d x y:D):M Unit:=fun h=>match x,y with
 | .ref k,.int j=>match h[k]? with
  | some (.lst xs)=>match ixN xs.length j with
   | some p=>.ok () (h.set k (.lst (xs.set p d)))
   | none=>.bad
  | _=>kI d k (.int j) h
 | .ref k,.str x=>kI d k (.str x) h
 | _,_=>.bad
noncomputable def bP (F:Nat→List D→M D) (c f:Nat) (xs:List D):M D:=fun h=>(F f (.ref h.length::xs) (h++[.ins c []])).bind fun d h'=>match d with
 | .non=>.ok (.ref h.length) h'
 | _=>.bad
noncomputable def oH (d:D):M (Option Int):=fun h=>match d with
 | .int i=>.ok (some i) h
 | _=>.bad
mutual
inductive CE where
 | lit (d:D) | var (i:Nat) | un (o:Un) (a:CE) | bi (o:Bi) (a b:CE) | sl (a:CE) (lo hi:CP)
 | and (a b:CE) | or (a b:CE) | not (a:CE) | ite (c:CT) (a b:CE) | chain (o p:Bi) (a b c:CE) | me (o:Bi) (a b:CE) | setd (a b c:CE)
 | tup (es:CL) | lst (es:CL) | disp (ks:List Ky) (es:CL) | call (f:Nat) (es:CL) | meth (m:Nat) (tb:List (Nat × Nat)) (a:CE) (es:CL) | make (c f:Nat) (es:CL) | comp (elt:CE) (it:CI) | compIf (elt:CE) (c:CT) (it:CI) | compD (elt:CE) (c:CT) (d:CE)
inductive CT where
 | val (e:CE) | and (a b:CT) | or (a b:CT) | not (a:CT)
inductive CL where
 | nil | cons (e:CE) (r:CL)
inductive CI where
 | of (e:CE) | rng1 (e:CE) | rng2 (a b:CE) | rng3 (a b c:CE)
inductive CP where
 | no | at (e:CE)
end
inductive TG where
 | nm (i:Nat) | two (i j:Nat)
mutual
inductive CS where
 | skip | opq | seq (a b:CS) | set (t:TG) (e:CE) | exp (e:CE) | ret (e:CE) | retN | ite (c:CT) (a b:CS)
 | fori (t:TG) (it:CI) (b:CS) | forD (i:Nat) (e:CE) (b:CS) | whil (c:CT) (b:CS) | brk | cnt | raise (c:Nat) | setF (a:CE) (k:Nat) (cs:List Nat) (e:CE) | setIx (a i e:CE) | tryx (b:CS) (hs:CH)
inductive CH where
 | nil | cons (cs:List Nat) (k:CS) (r:CH) | as (cs:List Nat) (i:Nat) (k:CS) (r:CH)
end
inductive It where
 | row (xs:List D) | live (i:Nat) | pairs (xs:List D)
noncomputable def nS (i j k:Int):Nat:=if i<j then ((j-i-1) / k+1).toNat else 0
noncomputable def qCv (lo st:Int) (n:Nat):List D:=(List.range n).map fun (k:Nat)=>D.int (lo+k*st)
noncomputable def uR (d:D):M It:=fun h=>match d with
 | .str x=>.ok (.row (x.map fun c=>.str [c])) h
 | .tup xs=>.ok (.row xs) h
 | .ref i=>match getL h i with
  | some _=>.ok (.live i) h
  | none=>.bad
 | _=>.bad
noncomputable def jT (m:Env→M D) (σ:Env) (x:D):M (Option D):=(m (σ++[some x])).calm.bind fun y=>M.ret (some y)
noncomputable def vH (m:Env→M D) (c:Env→M Bool) (σ:Env) (x:D):M (Option D):=(c (σ++[some x])).calm.bind fun k=>if k then (m (σ++[some x])).calm.bind fun y=>M.ret (some y) else M.ret none
noncomputable def zB (f:D→M (Option D)):List D→M (List D)
 | []=>M.ret []
 | x::xs=>(f x).bind fun y=>(zB f xs).bind fun ys=>M.ret (match y with | some y=>y::ys | none=>ys)
noncomputable def zM (f:D→M (Option D)) (i:Nat):Nat→Nat→M (List D)
 | 0,_=>M.bad
 | n+1,k=>fun h=>match getL h i with
  | none=>.bad
  | some xs=>match xs[k]? with
   | none=>.ok [] h
   | some x=>((f x).bind fun y=>(zM f i n (k+1)).bind fun ys=>M.ret (match y with | some y=>y::ys | none=>ys)) h
noncomputable def vD (f:D→M (Option D)):It→M (List D)
 | .row xs=>M.when (xs.length<16777216) (zB f xs)
 | .live i=>fun h=>M.when (zC h i<16777216) (zM f i (zC h i) 0) h
 | .pairs _=>M.bad
noncomputable def bO (f:D→M (Option D)):It→M (List D)
 | .pairs xs=>M.when (xs.length<16777216) (zB f xs)
 | .row xs=>vD f (.row xs)
 | .live i=>vD f (.live i)
section
variable (F:Nat→List D→M D)
mutual
noncomputable def den:CE→Env→M D
 | .lit d,_=>M.ret d
 | .var i,σ=>fun h=>match σ[i]? with
  | some (some d)=>.ok d h
  | _=>.bad
 | .un o a,σ=>(den a σ).bind (unD o)
 | .bi o a b,σ=>(den a σ).bind fun x=>(den b σ).bind fun y=>biD o x y
 | .sl a lo hi,σ=>(den a σ).bind fun x=>(jM lo σ).bind fun l=>(jM hi σ).bind fun u=>slD x l u
 | .and a b,σ=>(den a σ).bind fun x=>match x with
  | .bl true=>den b σ
  | .bl false=>M.ret (.bl false)
  | _=>M.bad
 | .or a b,σ=>(den a σ).bind fun x=>match x with
  | .bl true=>M.ret (.bl true)
  | .bl false=>den b σ
  | _=>M.bad
 | .not a,σ=>((den a σ).bind jI).bind fun b=>M.ret (.bl (!b))
 | .ite c a b,σ=>(qH c σ).bind fun k=>if k then den a σ else den b σ
 | .chain o p a b c,σ=>(den a σ).bind fun x=>(den b σ).bind fun y=>(biD o x y).bind fun z=>match z with
  | .bl true=>(den c σ).bind fun w=>biD p y w
  | .bl false=>M.ret (.bl false)
  | _=>M.bad
 | .me o a b,σ=>(den a σ).bind fun x=>(zL o x).bind fun _=>(den b σ).bind fun y=>biD o x y
 | .setd a b c,σ=>(den a σ).bind fun x=>(zL .get x).bind fun _=>(den b σ).bind fun y=>(den c σ).bind fun z=>aU x y z
 | .tup es,σ=>(qN es σ).bind fun xs=>M.when (xs.length≤16777216) (M.ret (.tup xs))
 | .lst es,σ=>(qN es σ).bind newL
 | .disp ks es,σ=>fun h=>(qN es σ (h++[.dct []])).bind fun ds=>gL ks ds h.length
 | .call f es,σ=>(qN es σ).bind (F f)
 | .meth m tb a es,σ=>(den a σ).bind fun x=>(bM m x).bind fun c=>match tbN tb c with
  | some f=>(qN es σ).bind fun xs=>F f (x::xs)
  | none=>M.bad
 | .make c f es,σ=>(qN es σ).bind (bP F c f)
 | .comp e it,σ=>(zE it σ).bind fun r=>(vD (jT (den e) σ) r).bind newL
 | .compIf e c it,σ=>(zE it σ).bind fun r=>(vD (vH (den e) (qH c) σ) r).bind newL
 | .compD e c d,σ=>(den d σ).bind fun x=>eM x fun ks=>(zB (vH (den e) (qH c) σ) ks).bind newL
noncomputable def qN:CL→Env→M (List D)
 | .nil,_=>M.ret []
 | .cons e r,σ=>(den e σ).bind fun x=>(qN r σ).bind fun xs=>M.ret (x::xs)
noncomputable def zE:CI→Env→M It
 | .of e,σ=>(den e σ).bind uR
 | .rng1 e,σ=>(den e σ).bind fun x=>match x with
  | .int j=>M.when (qX j) (M.ret (.row (qR 0 j.toNat)))
  | _=>M.bad
 | .rng2 a b,σ=>(den a σ).bind fun x=>(den b σ).bind fun y=>match x,y with
  | .int i,.int j=>M.when (qX i∧qX j) (M.ret (.row (qR i (j-i).toNat)))
  | _,_=>M.bad
 | .rng3 a b c,σ=>(den a σ).bind fun x=>(den b σ).bind fun y=>(den c σ).bind fun z=>match x,y,z with
  | .int i,.int j,.int k=>M.when ((qX i∧qX j)∧0<k∧k<1073741824) (M.ret (.row (qCv i k (nS i j k))))
  | _,_,_=>M.bad
noncomputable def jM:CP→Env→M (Option Int)
 | .no,_=>M.ret none
 | .at e,σ=>(den e σ).bind oH
noncomputable def qH:CT→Env→M Bool
 | .val e,σ=>(den e σ).bind jI
 | .and a b,σ=>(qH a σ).bind fun x=>if x then qH b σ else M.ret false
 | .or a b,σ=>(qH a σ).bind fun x=>if x then M.ret true else qH b σ
 | .not a,σ=>(qH a σ).bind fun b=>M.ret (!b)
end
end
inductive SR where
 | nx (σ:Env) (h:AH) | rt (d:D) (h:AH) | bk (σ:Env) (h:AH) | ct (σ:Env) (h:AH) | exc (c:Nat) (σ:Env) (h:AH) | bad
noncomputable def SR.ofR {α:Type} (σ:Env):R α→(α→AH→SR)→SR
 | .ok a h,f=>f a h
 | .exc c h,_=>.exc c σ h
 | .bad,_=>.bad
noncomputable def SR.andThen:SR→(Env→AH→SR)→SR
 | .nx σ h,f=>f σ h
 | r,_=>r
noncomputable def kW (t:TG) (d:D) (σ:Env):Option Env:=match t with
 | .nm i=>some (σ.set i (some d))
 | .two i j=>match d with
  | .tup [a,b]=>some ((σ.set i (some a)).set j (some b))
  | _=>none
noncomputable def SR.calm:SR→SR
 | .exc _ _ _=>.bad
 | r=>r
noncomputable def SR.rtO:SR→SR
 | .rt d h=>.rt d h
 | _=>.bad
noncomputable def SR.catch:SR→(Nat→Env→AH→SR)→SR
 | .exc c σ h,f=>f c σ h
 | r,_=>r
noncomputable def SR.turn:SR→(Env→AH→SR)→SR
 | .nx σ h,f=>f σ h
 | .ct σ h,f=>f σ h
 | .bk σ h,_=>.nx σ h
 | .exc _ _ _,_=>.bad
 | r,_=>r
noncomputable def qP (t:TG) (b:Env→AH→SR) (x:D) (σ:Env) (h:AH):SR:=match kW t x σ with
 | some σ'=>b σ' h
 | none=>.bad
noncomputable def zO (step:D→Env→AH→SR):List D→Env→AH→SR
 | [],σ,h=>.nx σ h
 | x::xs,σ,h=>(step x σ h).turn (zO step xs)
noncomputable def kC (step:D→Env→AH→SR) (i:Nat):Nat→Nat→Env→AH→SR
 | 0,_,_,_=>.bad
 | n+1,k,σ,h=>match getL h i with
  | none=>.bad
  | some xs=>match xs[k]? with
   | none=>.nx σ h
   | some x=>(step x σ h).turn (kC step i n (k+1))
noncomputable def oY (step:D→Env→AH→SR):It→Env→AH→SR
 | .row xs,σ,h=>zO step xs σ h
 | .live i,σ,h=>kC step i (zC h i) 0 σ h
 | .pairs _,_,_=>.bad
noncomputable def SR.thaw (i:Nat):SR→SR
 | .nx σ h=>match h[i]? with
  | some (.rod kvs)=>.nx σ (h.set i (.dct kvs))
  | _=>.bad
 | .rt d h=>match h[i]? with
  | some (.rod kvs)=>.rt d (h.set i (.dct kvs))
  | _=>.bad
 | _=>.bad
noncomputable def oZ (step:D→Env→AH→SR) (x:D) (σ:Env) (h:AH):SR:=match x with
 | .ref i=>match h[i]? with
  | some (.dct kvs)=>(zO step (jJ kvs) σ (h.set i (.rod kvs))).thaw i
  | _=>.bad
 | _=>.bad
noncomputable def jP (c:Env→M Bool) (step:Env→AH→SR):Nat→Env→AH→SR
 | 0,_,_=>.bad
 | n+1,σ,h=>match c σ h with
  | .ok b h1=>if b then (step σ h1).turn (jP c step n) else .nx σ h1
  | _=>.bad
section
variable (F:Nat→List D→M D) (B:Nat)
mutual
noncomputable def qA:CS→Env→AH→SR
 | .skip,σ,h=>.nx σ h
 | .opq,_,_=>.bad
 | .seq a b,σ,h=>(qA a σ h).andThen (qA b)
 | .set t e,σ,h=>SR.ofR σ (den F e σ h) fun d h1=>match kW t d σ with
  | some σ'=>.nx σ' h1
  | none=>.bad
 | .exp e,σ,h=>SR.ofR σ (den F e σ h) fun _ h1=>.nx σ h1
 | .ret e,σ,h=>SR.ofR σ (den F e σ h) fun d h1=>.rt d h1
 | .retN,_,h=>.rt .non h
 | .ite c a b,σ,h=>SR.ofR σ (qH F c σ h) fun k h1=>if k then qA a σ h1 else qA b σ h1
 | .fori t it b,σ,h=>SR.ofR σ (zE F it σ h).calm fun r h1=>oY (qP t (qA b)) r σ h1
 | .forD i e b,σ,h=>SR.ofR σ (den F e σ h).calm fun d h1=>oZ (qP (.nm i) (qA b)) d σ h1
 | .whil c b,σ,h=>jP (qH F c) (qA b) B σ h
 | .brk,σ,h=>.bk σ h
 | .cnt,σ,h=>.ct σ h
 | .raise c,σ,h=>.exc c σ h
 | .setF a k cs e,σ,h=>SR.ofR σ (den F e σ h) fun d h1=>SR.ofR σ ((den F a σ).bind (uB k cs d) h1) fun _ h2=>.nx σ h2
 | .setIx a i e,σ,h=>SR.ofR σ (den F e σ h) fun d h1=>SR.ofR σ ((den F a σ).bind (fun x=>(den F i σ).bind fun y=>vM d x y) h1) fun _ h2=>.nx σ h2
 | .tryx b hs,σ,h=>(qA b σ h).catch fun c σ' h'=>kQ hs c σ' h'
noncomputable def kQ:CH→Nat→Env→AH→SR
 | .nil,_,_,_=>.bad
 | .cons cs k r,c,σ,h=>if cs.contains c then (qA k σ h).calm else kQ r c σ h
 | .as cs i k r,c,σ,h=>if cs.contains c then (qA k (σ.set i (some (.ref h.length))) (h++[.xc c])).rtO else kQ r c σ h
end
end
structure Fn where
 ar:Nat
 sl:Nat
 body:CS
noncomputable def fin:SR→R D
 | .nx _ h'=>.ok .non h'
 | .rt d h'=>.ok d h'
 | .exc c _ h'=>.exc c h'
 | _=>.bad
noncomputable def bC (F:Nat→List D→M D) (B:Nat) (f:Fn) (as:List D):M D:=fun h =>
 if as.length=f.ar then fin (qA F B f.body (as.map some++List.replicate (f.sl-f.ar) none) h) else .bad
noncomputable def qB (fs:List Fn) (B:Nat):Nat→Nat→List D→M D
 | 0,_,_=>M.bad
 | n+1,f,as=>match fs[f]? with
  | some fn=>bC (qB fs B n) B fn as
  | none=>M.bad
end Fy
set_option Elab.async false
set_option linter.all false
namespace Fy
theorem M.bind_eq {α β:Type} (m:M α) (f:α→M β) (h:AH):M.bind m f h=(m h).bind f:=(rfl)
theorem R.bind_ok {α β:Type} (a:α) (h:AH) (f:α→AH→R β):R.bind (.ok a h) f=f a h:=(rfl)
theorem R.bind_exc {α β:Type} (c:Nat) (h:AH) (f:α→AH→R β):R.bind (.exc c h) f=.exc c h:=(rfl)
theorem R.bind_bad {α β:Type} (f:α→AH→R β):R.bind .bad f=.bad:=(rfl)
theorem M.ret_eq {α:Type} (a:α) (h:AH):M.ret a h=.ok a h:=(rfl)
theorem M.bad_eq {α:Type} (h:AH):(M.bad:M α) h=.bad:=(rfl)
theorem bJ {α:Type} (σ:Env) (a:α) (h:AH) (f:α→AH→SR):SR.ofR σ (.ok a h) f=f a h:=(rfl)
theorem qDY {α:Type} (σ:Env) (c:Nat) (h:AH) (f:α→AH→SR):SR.ofR σ (.exc c h) f=.exc c σ h:=(rfl)
theorem qDZ {α:Type} (σ:Env) (f:α→AH→SR):SR.ofR σ .bad f=.bad:=(rfl)
theorem tU {α:Type} (c:Prop) [Decidable c] (m:M α) (h:AH):M.when c m h=if c then m h else .bad:=(rfl)
end Fy
namespace Fy
end Fy
namespace Fy
theorem qJU (f:Env→AH→SR):SR.andThen .bad f=.bad:=(rfl)
theorem yN (σ:Env) (h:AH) (f:Env→AH→SR):SR.andThen (.nx σ h) f=f σ h:=(rfl)
theorem qJQ (d:D) (h:AH) (f:Env→AH→SR):SR.andThen (.rt d h) f=.rt d h:=(rfl)
theorem qJT (σ:Env) (h:AH) (f:Env→AH→SR):SR.andThen (.bk σ h) f=.bk σ h:=(rfl)
theorem qJS (σ:Env) (h:AH) (f:Env→AH→SR):SR.andThen (.ct σ h) f=.ct σ h:=(rfl)
theorem qJR (c:Nat) (σ:Env) (h:AH) (f:Env→AH→SR):SR.andThen (.exc c σ h) f=.exc c σ h:=(rfl)
theorem qAk (σ:Env) (h:AH) (f:Env→AH→SR):SR.turn (.nx σ h) f=f σ h:=(rfl)
theorem qAn (σ:Env) (h:AH) (f:Env→AH→SR):SR.turn (.ct σ h) f=f σ h:=(rfl)
theorem qAo (σ:Env) (h:AH) (f:Env→AH→SR):SR.turn (.bk σ h) f=.nx σ h:=(rfl)
theorem qAi (d:D) (h:AH) (f:Env→AH→SR):SR.turn (.rt d h) f=.rt d h:=(rfl)
theorem qAl (c:Nat) (σ:Env) (h:AH) (f:Env→AH→SR):SR.turn (.exc c σ h) f=.bad:=(rfl)
theorem jV (i:Nat) (b:Env→AH→SR) (x:D) (σ:Env) (h:AH):qP (.nm i) b x σ h=b (σ.set i (some x)) h:=(rfl)
theorem qAp (i j:Nat) (b:Env→AH→SR) (x y:D) (σ:Env) (h:AH):qP (.two i j) b (.tup [x,y]) σ h=b ((σ.set i (some x)).set j (some y)) h:=(rfl)
theorem mE {i j:Int} (h:-18446744073709551616<j∧j<18446744073709551616):kM i j:=.inr h
theorem mF {i j:Int} (h:-18446744073709551616<i∧i<18446744073709551616):kM i j:=.inl h
theorem zW {h:AH} {i:Nat} {xs:List D} (g:AH) (e:getL h i=some xs):getL (h++g) i=some xs:=by
 unfold getL at e ⊢
 cases q:h[i]? with
 | none=>rw [q] at e;cases e
 | some o =>
  have hl:=(List.getElem?_eq_some_iff.mp q).1
  rw [List.getElem?_append_left hl,q]
  rw [q] at e
  exact e
end Fy
namespace Fy
theorem qCM (σ:Env) (h:AH):SR.calm (.nx σ h)=.nx σ h:=(rfl)
theorem qCL (d:D) (h:AH):SR.calm (.rt d h)=.rt d h:=(rfl)
theorem qEi (m i:Nat) (h:AH):bM m (.ref i) h=(match h[i]? with | some (.ins c fs)=>if (qV m fs).isNone then .ok c h else .bad | _=>.bad):=(rfl)
theorem qCJ (k:Nat) (cs:List Nat) (d:D) (i:Nat) (h:AH):uB k cs d (.ref i) h=(match h[i]? with | some (.ins c fs)=>if cs.contains c=true∧fs.length<1000 then .ok () (h.set i (.ins c (jQ k d fs))) else .bad | _=>.bad):=(rfl)
theorem qCI (d:D) (k:Nat) (j:Int) (h:AH):vM d (.ref k) (.int j) h=(match h[k]? with | some (.lst xs)=>(match ixN xs.length j with | some p=>.ok () (h.set k (.lst (xs.set p d))) | none=>.bad) | _=>kI d k (.int j) h):=(rfl)
theorem qCH (d:D) (k:Nat) (x:Tx) (h:AH):vM d (.ref k) (.str x) h=kI d k (.str x) h:=(rfl)
theorem qCp (d:D) (h:AH):SR.rtO (.rt d h)=.rt d h:=(rfl)
theorem qIV (σ:Env) (h:AH) (f:Nat→Env→AH→SR):SR.catch (.nx σ h) f=.nx σ h:=(rfl)
theorem qIU (d:D) (h:AH) (f:Nat→Env→AH→SR):SR.catch (.rt d h) f=.rt d h:=(rfl)
theorem qIW (c:Nat) (σ:Env) (h:AH) (f:Nat→Env→AH→SR):SR.catch (.exc c σ h) f=f c σ h:=(rfl)
theorem qGo:fin .bad=.bad:=(rfl)
theorem qGm (σ:Env) (h:AH):fin (.nx σ h)=.ok .non h:=(rfl)
theorem qGl (d:D) (h:AH):fin (.rt d h)=.ok d h:=(rfl)
theorem qGn (c:Nat) (σ:Env) (h:AH):fin (.exc c σ h)=.exc c h:=(rfl)
end Fy
namespace Fy
theorem kO (I:Nat→Env→AH→Prop) (step:D→Env→AH→SR):∀ (xs:List D) (k:Nat) (σ:Env) (h:AH),I k σ h →
  (∀ j x σ h,xs[j]?=some x→I (k+j) σ h→∃ σ' h',step x σ h=.nx σ' h'∧I (k+j+1) σ' h')→∃ σ' h',zO step xs σ h=.nx σ' h'∧I (k+xs.length) σ' h'
 | [],k,σ,h,i0,_=>⟨σ,h,rfl,i0⟩
 | x::xs,k,σ,h,i0,H=>by
  obtain ⟨σ1,h1,e1,i1⟩:=H 0 x σ h rfl i0
  obtain ⟨σ2,h2,e2,i2⟩:=kO I step xs (k+1) σ1 h1 i1 fun j y σ h hy i=>by
   have:=H (j+1) y σ h (by simpa using hy) (by rw [show k+(j+1)=k+1+j by omega];exact i)
   rwa [show k+(j+1)=k+1+j by omega] at this
  refine ⟨σ2,h2,?_,by rw [List.length_cons,show k+(xs.length+1)=k+1+xs.length by omega];exact i2⟩
  rw [zO,e1]
  exact e2
theorem oV (I:Nat→Env→AH→Prop) (step:D→Env→AH→SR) (i:Nat) (xs:List D) (hg:∀ k σ h,I k σ h→getL h i=some xs)
  (H:∀ j x σ h,xs[j]?=some x→I j σ h→∃ σ' h',step x σ h=.nx σ' h'∧I (j+1) σ' h') :
  ∀ (n k:Nat) (σ:Env) (h:AH),n+k=xs.length+1→k≤xs.length→I k σ h→∃ σ' h',kC step i n k σ h=.nx σ' h'∧I xs.length σ' h'
 | 0,k,σ,h,hn,hk,i0=>by omega
 | n+1,k,σ,h,hn,hk,i0=>by
  unfold kC
  rw [hg k σ h i0]
  simp only
  by_cases hlt:k<xs.length
  ·have e:xs[k]?=some xs[k]:=by simp [hlt]
   rw [e]
   simp only
   obtain ⟨σ1,h1,e1,i1⟩:=H k _ σ h e i0
   rw [e1]
   exact oV I step i xs hg H n (k+1) σ1 h1 (by omega) hlt i1
  ·have e:k=xs.length:=by omega
   subst e
   have e2:xs[xs.length]?=none:=by simp
   rw [e2]
   exact ⟨σ,h,rfl,i0⟩
theorem oW (I:Nat→Env→AH→Prop) (step:D→Env→AH→SR) (i:Nat) (xs:List D) (σ:Env) (h:AH) (i0:I 0 σ h) (hg:∀ k σ h,I k σ h→getL h i=some xs)
  (H:∀ j x σ h,xs[j]?=some x→I j σ h→∃ σ' h',step x σ h=.nx σ' h'∧I (j+1) σ' h'):∃ σ' h',kC step i (zC h i) 0 σ h=.nx σ' h'∧I xs.length σ' h':=by
 unfold zC
 rw [hg 0 σ h i0]
 exact oV I step i xs hg H _ 0 σ h rfl (Nat.zero_le _) i0
theorem vB {lo:Int} {n j:Nat} {x:D} (h:(qR lo n)[j]?=some x):j<n∧x=.int (lo+j):=by
 unfold qR at h
 rw [List.getElem?_map] at h
 by_cases hj:j<n
 ·rw [List.getElem?_range hj] at h
  exact ⟨hj,(Option.some.inj h).symm⟩
 ·rw [List.getElem?_eq_none (by simp;omega)] at h
  cases h
theorem kH (lo:Int) (n:Nat):(qR lo n).length=n:=by
 unfold qR
 simp
end Fy
namespace Fy
end Fy
namespace Fy
theorem qEm (f:D→M (Option D)) (xs:List D) (h:AH):vD f (.row xs) h=if xs.length<16777216 then zB f xs h else .bad:=(rfl)
theorem qEn (f:D→M (Option D)) (i:Nat) (h:AH):vD f (.live i) h=if zC h i<16777216 then zM f i (zC h i) 0 h else .bad:=(rfl)
theorem qEo (f:D→M (Option D)) (xs:List D) (h:AH):bO f (.row xs) h=if xs.length<16777216 then zB f xs h else .bad:=(rfl)
theorem qEq (f:D→M (Option D)) (i:Nat) (h:AH):bO f (.live i) h=if zC h i<16777216 then zM f i (zC h i) 0 h else .bad:=(rfl)
theorem qEp (f:D→M (Option D)) (xs:List D) (h:AH):bO f (.pairs xs) h=if xs.length<16777216 then zB f xs h else .bad:=(rfl)
theorem qIX {α:Type} (a:α) (h:AH):(R.ok a h).calm=.ok a h:=(rfl)
theorem qIY {α:Type} (m:M α) (h:AH):M.calm m h=(m h).calm:=(rfl)
theorem oF (a c:Nat):decide ((a:Int)≤(c:Int))=decide (a≤c):=by
 rw [Bool.eq_iff_iff]
 simp
theorem oE (a c:Nat):decide ((a:Int)<(c:Int))=decide (a<c):=by
 rw [Bool.eq_iff_iff]
 simp
end Fy
namespace Fy
theorem vR {n k:Nat} (h:k<n):ixN n (k:Int)=some k:=by
 unfold ixN
 rw [if_pos (by omega),if_pos (by omega),Int.toNat_natCast]
end Fy
set_option Elab.async false
set_option linter.all false
namespace Fy
theorem qAP (i:Int) (h:AH):unD .neg (.int i) h=(.ok (.int (-i)) h):=(rfl)
theorem qAU (x:Tx) (h:AH):unD .len (.str x) h=(if x.length≤16777216 then .ok (.int x.length) h else .bad):=(rfl)
theorem qAT (xs:List D) (h:AH):unD .len (.tup xs) h=(.ok (.int xs.length) h):=(rfl)
theorem qAS (i:Nat) (h:AH):unD .len (.ref i) h=(match getL h i with | some xs=>.ok (.int xs.length) h | none=>uP i h):=(rfl)
theorem qAH (i:Int) (h:AH):unD .str (.int i) h=(if i.natAbs.log2<1920 then .ok (.str (txI i)) h else .bad):=(rfl)
theorem qAd (i:Int) (h:AH):unD .int (.int i) h=(.ok (.int i) h):=(rfl)
theorem qAc (b:Bool) (h:AH):unD .int (.bl b) h=(.ok (.int (b2i b)) h):=(rfl)
theorem qAb (x:Tx) (h:AH):unD .int (.str x) h=(if x≠[]∧x.length≤640∧yC x=true then .ok (.int (pR x)) h else .bad):=(rfl)
theorem qAJ (c:Nat) (h:AH):unD .ord (.str [c]) h=(.ok (.int c) h):=(rfl)
theorem qAG (xs:List D) (h:AH):unD .tuple (.tup xs) h=(.ok (.tup xs) h):=(rfl)
theorem qAF (i:Nat) (h:AH):unD .tuple (.ref i) h=(match getL h i with | some xs=>.ok (.tup xs) h | none=>.bad):=(rfl)
theorem qAR (xs:List D) (h:AH):unD .list (.tup xs) h=(newL xs h):=(rfl)
theorem qAQ (i:Nat) (h:AH):unD .list (.ref i) h=(match getL h i with | some xs=>newL xs h | none=>.bad):=(rfl)
theorem qAg (i:Nat) (h:AH):unD .all (.ref i) h=(match (getL h i).bind tK with | some b=>.ok (.bl b) h | none=>.bad):=(rfl)
theorem qAf (i:Nat) (h:AH):unD .any (.ref i) h=(match (getL h i).bind tI with | some b=>.ok (.bl b) h | none=>.bad):=(rfl)
theorem qAI (i:Nat) (h:AH):unD .sorted (.ref i) h=(match getL h i with | some ds=>aT ds h | none=>kZ i h):=(rfl)
theorem qAe (k i:Nat) (h:AH):unD (.fld k) (.ref i) h=(match h[i]? with | some (.ins _ fs)=>(match qV k fs with | some d=>.ok d h | none=>.bad) | _=>.bad):=(rfl)
theorem qAW (d:D) (h:AH):unD .isN d h=(.ok (.bl (match d with | .non=>true | _=>false)) h):=(rfl)
theorem qAO (d:D) (h:AH):unD .notN d h=(.ok (.bl (match d with | .non=>false | _=>true)) h):=(rfl)
theorem qAa (b c:Bool) (h:AH):unD (.isB b) (.bl c) h=(.ok (.bl (b == c)) h):=(rfl)
theorem qAZ (b:Bool) (h:AH):unD (.isB b) (.non) h=(.ok (.bl false) h):=(rfl)
theorem qAY (b:Bool) (i:Int) (h:AH):unD (.isB b) (.int i) h=(.ok (.bl false) h):=(rfl)
theorem qAX (b:Bool) (x:Tx) (h:AH):unD (.isB b) (.str x) h=(.ok (.bl false) h):=(rfl)
theorem qAN (b c:Bool) (h:AH):unD (.nsB b) (.bl c) h=(.ok (.bl (!(b == c))) h):=(rfl)
theorem qAM (b:Bool) (h:AH):unD (.nsB b) (.non) h=(.ok (.bl true) h):=(rfl)
theorem qAL (b:Bool) (i:Int) (h:AH):unD (.nsB b) (.int i) h=(.ok (.bl true) h):=(rfl)
theorem qAK (b:Bool) (x:Tx) (h:AH):unD (.nsB b) (.str x) h=(.ok (.bl true) h):=(rfl)
theorem qAV (t:Ty) (d:D) (h:AH):unD (.isi t) d h=(match jK h t d with | some b=>.ok (.bl b) h | none=>.bad):=(rfl)
theorem qEC (i j:Int) (h:AH):biD .add (.int i) (.int j) h=(.ok (.int (i+j)) h):=(rfl)
theorem qEB (a b:Tx) (h:AH):biD .add (.str a) (.str b) h=(if a.length+b.length≤16777216 then .ok (.str (a++b)) h else .bad):=(rfl)
theorem qEA (a b:List D) (h:AH):biD .add (.tup a) (.tup b) h=(if a.length+b.length≤16777216 then .ok (.tup (a++b)) h else .bad):=(rfl)
theorem qD9 (i j:Nat) (h:AH):biD .add (.ref i) (.ref j) h=(match h[i]?,h[j]? with | some (.lst xs),some (.lst ys)=>newL (xs++ys) h | _,_=>.bad):=(rfl)
theorem qDc (i j:Int) (h:AH):biD .sub (.int i) (.int j) h=(.ok (.int (i-j)) h):=(rfl)
theorem qDn (i j:Int) (h:AH):biD .mul (.int i) (.int j) h=(if kM i j then .ok (.int (i*j)) h else .bad):=(rfl)
theorem qDm (x:Tx) (n:Int) (h:AH):biD .mul (.str x) (.int n) h=(if 0≤n∧n≤1000000∧x≠[]∧x.length*n.toNat≤16777216 then .ok (.str (List.replicate n.toNat x).flatten) h else .bad):=(rfl)
theorem qDl (xs:List D) (n:Int) (h:AH):biD .mul (.tup xs) (.int n) h=(if xs≠[]∧n=0 then .ok (.tup []) h else if n=1 then .ok (.tup xs) h else .bad):=(rfl)
theorem qDk (k:Nat) (n:Int) (h:AH):biD .mul (.ref k) (.int n) h=(match h[k]? with | some (.lst xs)=>if 0≤n∧n≤1000000∧xs.length*n.toNat≤16777216 then newL (List.replicate n.toNat xs).flatten h else .bad | _=>.bad):=(rfl)
theorem qDd (a:Tx) (c:Nat) (h:AH):biD .split (.str a) (.str [c]) h=(if c<256∧a.length≤1000000 then newL ((lI a (uG c 0 a)).map .str) h else .bad):=(rfl)
theorem qDe (a:Tx) (c:Nat) (h:AH):biD .rpart (.str a) (.str [c]) h=(if a.length≤1000000 then .ok (.tup ((iV a c).map .str)) h else .bad):=(rfl)
theorem qD3 (k:Nat) (i:Int) (h:AH):biD .get (.ref k) (.int i) h=(vZ k (.int i) h):=(rfl)
theorem qDg (k:Nat) (i:Int) (h:AH):biD .pop (.ref k) (.int i) h=(uH k (.int i) h):=(rfl)
theorem qD6 (k j:Nat) (h:AH):biD .extend (.ref k) (.ref j) h=(match h[k]?,h[j]? with | some (.lst xs),some (.lst ys)=>if xs.length+ys.length≤16777216 then .ok .non (h.set k (.lst (xs++ys))) else .bad | _,_=>.bad):=(rfl)
theorem qD5 (i j:Int) (h:AH):biD .fdiv (.int i) (.int j) h=(if 0<j∧j<1073741824 then .ok (.int (i / j)) h else .bad):=(rfl)
theorem qDo (i j:Int) (h:AH):biD .mod (.int i) (.int j) h=(if 0<j then .ok (.int (i % j)) h else .bad):=(rfl)
theorem qDf (i j:Int) (h:AH):biD .pow (.int i) (.int j) h=(if 0≤j∧j≤1000000∧i.natAbs<18446744073709551616 then .ok (.int (i ^ j.toNat)) h else .bad):=(rfl)
theorem qD7 (x y:D) (h:AH):biD .eq x y h=(match qK h x y with | some b=>.ok (.bl b) h | none=>.bad):=(rfl)
theorem qDj (x y:D) (h:AH):biD .ne x y h=(match qK h x y with | some b=>.ok (.bl (!b)) h | none=>.bad):=(rfl)
theorem qDr (i j:Int) (h:AH):biD .lt (.int i) (.int j) h=(.ok (.bl (decide (i<j))) h):=(rfl)
theorem qDs (i j:Int) (h:AH):biD .le (.int i) (.int j) h=(.ok (.bl (decide (i≤j))) h):=(rfl)
theorem qD2 (i j:Int) (h:AH):biD .gt (.int i) (.int j) h=(.ok (.bl (decide (j<i))) h):=(rfl)
theorem qD4 (i j:Int) (h:AH):biD .ge (.int i) (.int j) h=(.ok (.bl (decide (j≤i))) h):=(rfl)
theorem qD1 (c:Nat) (b:Tx) (h:AH):biD .isin (.str [c]) (.str b) h=(.ok (.bl (b.contains c)) h):=(rfl)
theorem qD0 (a:Int) (i:Nat) (h:AH):biD .isin (.int a) (.ref i) h=(match (getL h i).bind zN with | some xs=>.ok (.bl (xs.contains a)) h | none=>kB i (.int a) h):=(rfl)
theorem qDz (a:Tx) (xs:List D) (h:AH):biD .isin (.str a) (.tup xs) h=(match qQ xs with | some ys=>.ok (.bl (ys.contains a)) h | none=>.bad):=(rfl)
theorem qDy (a:List D) (i:Nat) (h:AH):biD .isin (.tup a) (.ref i) h=(match (getL h i).bind (jO fun x=>qK h x (.tup a)) with | some b=>.ok (.bl b) h | none=>.bad):=(rfl)
theorem qDi (a:Int) (i:Nat) (h:AH):biD .notin (.int a) (.ref i) h=(match (getL h i).bind zN with | some xs=>.ok (.bl (!xs.contains a)) h | none=>kA i (.int a) h):=(rfl)
theorem qDh (c:Nat) (b:Tx) (h:AH):biD .notin (.str [c]) (.str b) h=(.ok (.bl (!b.contains c)) h):=(rfl)
theorem qDx (xs:List D) (i:Int) (h:AH):biD .ix (.tup xs) (.int i) h=(match (ixN xs.length i).bind (xs[·]?) with | some d=>.ok d h | none=>.bad):=(rfl)
theorem qDw (x:Tx) (i:Int) (h:AH):biD .ix (.str x) (.int i) h=(if x.length≤16777216 then (match (ixN x.length i).bind (x[·]?) with | some c=>.ok (.str [c]) h | none=>.bad) else .bad):=(rfl)
theorem qDv (k:Nat) (i:Int) (h:AH):biD .ix (.ref k) (.int i) h=(match (getL h k).bind fun xs=>(ixN xs.length i).bind (xs[·]?) with | some d=>.ok d h | none=>ixK k (.int i) h):=(rfl)
theorem qDu (k:Nat) (x:Tx) (h:AH):biD .ix (.ref k) (.str x) h=(ixK k (.str x) h):=(rfl)
theorem qDp (i j:Int) (h:AH):biD .min2 (.int i) (.int j) h=(.ok (.int (if j<i then j else i)) h):=(rfl)
theorem qDq (i j:Int) (h:AH):biD .max2 (.int i) (.int j) h=(.ok (.int (if j > i then j else i)) h):=(rfl)
theorem qDb (x:Tx) (n:Int) (h:AH):biD .zfill (.str x) (.int n) h=(if 0≤n∧n≤1000∧yC x=true∧x.length≤1000 then .ok (.str (List.replicate (n.toNat-x.length) 48++x)) h else .bad):=(rfl)
theorem qDt (x:Tx) (i:Nat) (h:AH):biD .join (.str x) (.ref i) h=(match (getL h i).bind qQ with | some xs=>if zY x xs≤16777216 then .ok (.str (zR x xs)) h else .bad | none=>.bad):=(rfl)
theorem qD8 (k:Nat) (d:D) (h:AH):biD .append (.ref k) d h=(match h[k]? with | some (.lst xs)=>if xs.length<16777216 then .ok .non (h.set k (.lst (xs++[d]))) else .bad | _=>.bad):=(rfl)
theorem qA7  (h:AH):jI .non h=(.ok false h):=(rfl)
theorem qA9 (b:Bool) (h:AH):jI (.bl b) h=(.ok b h):=(rfl)
theorem qA8 (i:Int) (h:AH):jI (.int i) h=(.ok (i != 0) h):=(rfl)
theorem qA4 (x:Tx) (h:AH):jI (.str x) h=(if x.length≤16777216 then .ok (!x.isEmpty) h else .bad):=(rfl)
theorem qA3 (xs:List D) (h:AH):jI (.tup xs) h=(.ok (!xs.isEmpty) h):=(rfl)
theorem qA5 (i:Nat) (h:AH):jI (.ref i) h=(match getL h i with | some xs=>.ok (!xs.isEmpty) h | none=>.bad):=(rfl)
theorem qFi (x:Tx) (h:AH):uR (.str x) h=(.ok (.row (x.map fun c=>.str [c])) h):=(rfl)
theorem qFh (xs:List D) (h:AH):uR (.tup xs) h=(.ok (.row xs) h):=(rfl)
theorem qFj (i:Nat) (h:AH):uR (.ref i) h=(match getL h i with | some _=>.ok (.live i) h | none=>.bad):=(rfl)
theorem qCS (x:Tx) (l u:Option Int) (h:AH):slD (.str x) l u h=(if x.length≤16777216 then .ok (.str (qS x l u)) h else .bad):=(rfl)
theorem qCQ (x:List D) (l u:Option Int) (h:AH):slD (.tup x) l u h=(.ok (.tup (qS x l u)) h):=(rfl)
theorem qCY (i:Nat) (l u:Option Int) (h:AH):slD (.ref i) l u h=(match getL h i with | some xs=>newL (qS xs l u) h | none=>.bad):=(rfl)
theorem qEg (i:Nat) (h:AH):zL .append (.ref i) h=(match getL h i with | some _=>.ok () h | none=>.bad):=(rfl)
theorem qEZ (x:Tx) (h:AH):zL .zfill (.str x) h=.ok () h:=(rfl)
theorem qEd (x:Tx) (h:AH):zL .join (.str x) h=.ok () h:=(rfl)
theorem qEe (i:Nat) (h:AH):zL .get (.ref i) h=(match h[i]? with | some (.dct _)=>.ok () h | _=>.bad):=(rfl)
theorem qEc (i:Nat) (h:AH):zL .pop (.ref i) h=(match h[i]? with | some (.dct _)=>.ok () h | _=>.bad):=(rfl)
theorem qEf (i:Nat) (h:AH):zL .extend (.ref i) h=(match getL h i with | some _=>.ok () h | none=>.bad):=(rfl)
theorem tV (i:Nat) (k:List D→M D) (h:AH):eM (.ref i) k h=(match h[i]? with | some (.dct kvs)=>if kvs.length<16777216 then wL i (k (jJ kvs) (h.set i (.rod kvs))) else .bad | _=>.bad):=(rfl)
theorem qAz {α:Type} (i:Nat) (a:α) (h:AH):wL i (.ok a h)=(match h[i]? with | some (.rod kvs)=>.ok a (h.set i (.dct kvs)) | _=>.bad):=(rfl)
theorem qGj (step:D→Env→AH→SR) (i:Nat) (σ:Env) (h:AH):oZ step (.ref i) σ h=(match h[i]? with | some (.dct kvs)=>(zO step (jJ kvs) σ (h.set i (.rod kvs))).thaw i | _=>.bad):=(rfl)
theorem qAy (i:Nat) (σ:Env) (h:AH):SR.thaw i (.nx σ h)=(match h[i]? with | some (.rod kvs)=>.nx σ (h.set i (.dct kvs)) | _=>.bad):=(rfl)
theorem qEa (x:Tx) (h:AH):zL .split (.str x) h=.ok () h:=(rfl)
theorem qEb (x:Tx) (h:AH):zL .rpart (.str x) h=.ok () h:=(rfl)
theorem qCC (k:Nat) (i:Int) (d:D) (h:AH):aU (.ref k) (.int i) d h=yZ k (.int i) d h:=(rfl)
theorem qF5 (i:Int) (h:AH):oH (.int i) h=.ok (some i) h:=(rfl)
theorem qFp (t:Ty)  (h:AH):jK h t .non=(some false):=(rfl)
theorem qFr (t:Ty) (b:Bool) (h:AH):jK h t (.bl b)=(some (t == .bool || t == .int)):=(rfl)
theorem qFq (t:Ty) (i:Int) (h:AH):jK h t (.int i)=(some (t == .int)):=(rfl)
theorem qFl (t:Ty) (x:Tx) (h:AH):jK h t (.str x)=(some (t == .str)):=(rfl)
theorem qFk (t:Ty) (xs:List D) (h:AH):jK h t (.tup xs)=(some (t == .tuple)):=(rfl)
theorem qFm (t:Ty) (i:Nat) (h:AH):jK h t (.ref i)=((getL h i).map fun _=>t == .list):=(rfl)
theorem qG3  (h:AH):qK h .non .non=(some true):=(rfl)
theorem qG5 (b2:Bool) (h:AH):qK h .non (.bl b2)=(some false):=(rfl)
theorem qG4 (i2:Int) (h:AH):qK h .non (.int i2)=(some false):=(rfl)
theorem qG2 (x2:Tx) (h:AH):qK h .non (.str x2)=(some false):=(rfl)
theorem qG1 (t2:List D) (h:AH):qK h .non (.tup t2)=(some false):=(rfl)
theorem qHD (b1:Bool) (h:AH):qK h (.bl b1) .non=(some false):=(rfl)
theorem qHF (b1:Bool) (b2:Bool) (h:AH):qK h (.bl b1) (.bl b2)=(some (b1 == b2)):=(rfl)
theorem qHE (b1:Bool) (i2:Int) (h:AH):qK h (.bl b1) (.int i2)=(some (b2i b1 == i2)):=(rfl)
theorem qHC (b1:Bool) (x2:Tx) (h:AH):qK h (.bl b1) (.str x2)=(some false):=(rfl)
theorem qHB (b1:Bool) (t2:List D) (h:AH):qK h (.bl b1) (.tup t2)=(some false):=(rfl)
theorem qG8 (i1:Int) (h:AH):qK h (.int i1) .non=(some false):=(rfl)
theorem qHA (i1:Int) (b2:Bool) (h:AH):qK h (.int i1) (.bl b2)=(some (i1 == b2i b2)):=(rfl)
theorem qG9 (i1:Int) (i2:Int) (h:AH):qK h (.int i1) (.int i2)=(some (i1 == i2)):=(rfl)
theorem qG7 (i1:Int) (x2:Tx) (h:AH):qK h (.int i1) (.str x2)=(some false):=(rfl)
theorem qG6 (i1:Int) (t2:List D) (h:AH):qK h (.int i1) (.tup t2)=(some false):=(rfl)
theorem qGy (x1:Tx) (h:AH):qK h (.str x1) .non=(some false):=(rfl)
theorem qG0 (x1:Tx) (b2:Bool) (h:AH):qK h (.str x1) (.bl b2)=(some false):=(rfl)
theorem qGz (x1:Tx) (i2:Int) (h:AH):qK h (.str x1) (.int i2)=(some false):=(rfl)
theorem qGx (x1:Tx) (x2:Tx) (h:AH):qK h (.str x1) (.str x2)=(some (x1 == x2)):=(rfl)
theorem qGw (x1:Tx) (t2:List D) (h:AH):qK h (.str x1) (.tup t2)=(some false):=(rfl)
theorem qGt (t1:List D) (h:AH):qK h (.tup t1) .non=(some false):=(rfl)
theorem qGv (t1:List D) (b2:Bool) (h:AH):qK h (.tup t1) (.bl b2)=(some false):=(rfl)
theorem qGu (t1:List D) (i2:Int) (h:AH):qK h (.tup t1) (.int i2)=(some false):=(rfl)
theorem qGs (t1:List D) (x2:Tx) (h:AH):qK h (.tup t1) (.str x2)=(some false):=(rfl)
theorem pM (t1:List D) (t2:List D) (h:AH):qK h (.tup t1) (.tup t2)=(eqW (eqD h 39) t1 t2):=(rfl)
end Fy
set_option Elab.async false
set_option linter.all false
set_option maxRecDepth 100000
set_option maxHeartbeats 4000000
namespace Fy
open PySem PySem.Spec PyProof.Rows
open L2 (V Hp HO VK TE TT TA TS TI Cx Inv RelV Vals SqL SqT Rd upd qF qD PE PT PA PS PSs EP)
mutual
noncomputable def RepV (K:PySem.W.Frag) (ρ:List Addr) (H:Hp):D→V→Prop
 | .non,v=>v=.non
 | .bl b,v=>v=.bl b
 | .int i,v=>v=.int i
 | .str x,v=>v=.str ⟨x.toArray⟩
 | .tup xs,v=>∃ a vs,v=.ref a∧SqT K H a vs∧RepL K ρ H xs vs
 | .ref i,v=>∃ a,ρ[i]?=some a∧v=.ref a
noncomputable def RepL (K:PySem.W.Frag) (ρ:List Addr) (H:Hp):List D→List V→Prop
 | [],vs=>vs=[]
 | x::xs,vs=>∃ v r,vs=v::r∧RepV K ρ H x v∧RepL K ρ H xs r
end
noncomputable def KL (K:PySem.W.Frag) (a:Addr) (xs:List V):Prop :=
 ∃ (o:Obj) (its:Array Value) (n:Nat),K.lookup a=some o∧o.cls=.type "list"∧o.dict=none∧o.data=.seq its n∧its.size≤sizeLine∧Vals xs its.toList
noncomputable def qZ (K:PySem.W.Frag) (c:Nat) (C:Addr):Prop:=PySem.W.nsIn K mainGlobals (qI c)=some (some (.ref C))
noncomputable def xcO (a C:Addr):HO:=.ext fun h=>∃ o,h.get? a=some o∧o.cls=.ref C
noncomputable def RepF (K:PySem.W.Frag) (ρ:List Addr) (H:Hp) (C:Addr):List (Nat × D)→List (Str × V)→Prop
 | [],vs=>vs=[]
 | x::xs,vs=>∃ v r,vs=(qI x.1,v)::r∧x.1<256 ^ 60∧L2.NoAttr K C (qI x.1)∧RepV K ρ H x.2 v∧RepF K ρ H C xs r
noncomputable def kyV:Ky→L2.Key
 | .int i=>.inl i
 | .str x=>.inr ⟨x.toArray⟩
noncomputable def RepK (K:PySem.W.Frag) (ρ:List Addr) (H:Hp):List (Ky × D)→List (L2.Key × V)→Prop
 | [],vs=>vs=[]
 | x::xs,vs=>∃ v r,vs=(kyV x.1,v)::r∧RepV K ρ H x.2 v∧RepK K ρ H xs r
noncomputable def RepO (K:PySem.W.Frag) (ρ:List Addr) (H:Hp):O→Addr→Prop
 | .lst xs,a=>∃ vs,H a=some (.lst vs)∧RepL K ρ H xs vs
 | .rol xs,a=>∃ vs,((∃ o,H a=some (.frz o (.lst vs)))∨KL K a vs)∧RepL K ρ H xs vs
 | .ins c fs,a=>∃ C dx vs,qZ K c C∧L2.Cls K C∧H a=some (.ins C dx vs)∧RepF K ρ H C fs vs
 | .dct kvs,a=>∃ vs,H a=some (.dK vs)∧RepK K ρ H kvs vs
 | .xc c,a=>∃ C,qZ K c C∧H a=some (xcO a C)
 | .rod kvs,a=>∃ ob vs,H a=some (.frz ob (.dK vs))∧RepK K ρ H kvs vs
noncomputable def jD:O→Bool
 | .rol _=>false
 | .xc _=>false
 | _=>true
structure RepH (K:PySem.W.Frag) (ρ:List Addr) (h:AH) (H:Hp):Prop where
 len:ρ.length=h.length
 obj:∀ (i:Nat) (o:O),h[i]?=some o→∃ a,ρ[i]?=some a∧RepO K ρ H o a
 inj:∀ (i j:Nat) (a:Addr) (o o':O),h[i]?=some o→h[j]?=some o'→jD o=true→jD o'=true→ρ[i]?=some a→ρ[j]?=some a→i=j
noncomputable def Imm:HO→Bool
 | .tup _=>true
 | .frz _ _=>true
 | .ext _=>true
 | _=>false
structure Step (ρ:List Addr) (H:Hp) (ρ':List Addr) (H':Hp):Prop where
 pre:ρ <+: ρ'
 new:∀ a∈ρ',a∈ρ∨H a=none
 keep:∀ a o,H a=some o→(Imm o=true∨a∉ρ)→H' a=some o
theorem Step.refl (ρ:List Addr) (H:Hp):Step ρ H ρ H:=⟨List.prefix_refl _,fun _ h=>.inl h,fun _ _ h _=>h⟩
theorem Step.trans {ρ ρ1 ρ2:List Addr} {H H1 H2:Hp} (a:Step ρ H ρ1 H1) (b:Step ρ1 H1 ρ2 H2):Step ρ H ρ2 H2:=by
 refine ⟨a.pre.trans b.pre,fun x hx=>?_,fun x o h c=>b.keep x o (a.keep x o h c) (c.imp id fun n m=>?_)⟩
 ·rcases b.new x hx with h | h
  ·exact a.new x h
  ·by_cases m:x∈ρ
   ·exact .inl m
   ·cases q:H x with
    | none=>exact .inr rfl
    | some o =>
     rw [a.keep x o q (.inr m)] at h
     cases h
 ·rcases a.new x m with z | z
  ·exact n z
  ·rw [h] at z
   cases z
theorem Step.tup {ρ ρ':List Addr} {H H':Hp} (e:Step ρ H ρ' H') {a:Addr} {vs:List V} (h:Rd H a (.tup vs)):Rd H' a (.tup vs):=by
 rcases h with h | ⟨o,h⟩
 ·exact .inl (e.keep _ _ h (.inl rfl))
 ·exact .inr ⟨o,e.keep _ _ h (.inl rfl)⟩
theorem Step.sqt {K:PySem.W.Frag} {ρ ρ':List Addr} {H H':Hp} {a:Addr} {vs:List V} (e:Step ρ H ρ' H') (h:SqT K H a vs):SqT K H' a vs:=h.imp e.tup id
theorem jY {ρ ρ':List Addr} (p:ρ <+: ρ') {i:Nat} {a:Addr} (h:ρ[i]?=some a):ρ'[i]?=some a:=by
 obtain ⟨t,rfl⟩:=p
 rw [List.getElem?_append_left (List.getElem?_eq_some_iff.mp h).1]
 exact h
section
variable {K:PySem.W.Frag} {ρ ρ':List Addr} {H H':Hp} {a:Addr}
mutual
theorem RepV.mono (e:Step ρ H ρ' H'):∀ (d:D) (v:V),RepV K ρ H d v→RepV K ρ' H' d v
 | .non,_,h=>h
 | .bl _,_,h=>h
 | .int _,_,h=>h
 | .str _,_,h=>h
 | .tup xs,v,⟨a,vs,h1,h2,h3⟩=>⟨a,vs,h1,e.sqt h2,RepL.mono e xs vs h3⟩
 | .ref _,_,⟨a,h1,h2⟩=>⟨a,jY e.pre h1,h2⟩
theorem RepL.mono (e:Step ρ H ρ' H'):∀ (ds:List D) (vs:List V),RepL K ρ H ds vs→RepL K ρ' H' ds vs
 | [],_,h=>h
 | d::ds,_,⟨v,r,h1,h2,h3⟩=>⟨v,r,h1,RepV.mono e d v h2,RepL.mono e ds r h3⟩
end
theorem RepL.length:∀ {ds:List D} {vs:List V},RepL K ρ H ds vs→vs.length=ds.length
 | [],_,h=>by cases h;rfl
 | d::ds,_,⟨v,r,h1,_,h3⟩=>by subst h1;simp [RepL.length h3]
theorem RepL.get:∀ {ds:List D} {vs:List V} {i:Nat} {d:D},RepL K ρ H ds vs→ds[i]?=some d→∃ v,vs[i]?=some v∧RepV K ρ H d v
 | [],_,_,_,_,e=>by simp at e
 | x::ds,_,0,d,⟨v,r,h1,h2,_⟩,e=>by
  subst h1
  simp at e
  subst e
  exact ⟨v,rfl,h2⟩
 | x::ds,_,i+1,d,⟨v,r,h1,_,h3⟩,e=>by
  subst h1
  simpa using RepL.get (i:=i) h3 (by simpa using e)
theorem RepL.append:∀ {ds es:List D} {vs ws:List V},RepL K ρ H ds vs→RepL K ρ H es ws→RepL K ρ H (ds++es) (vs++ws)
 | [],_,_,_,h,k=>by cases h;exact k
 | x::ds,es,_,ws,⟨v,r,h1,h2,h3⟩,k=>by subst h1;exact ⟨v,r++ws,rfl,h2,RepL.append h3 k⟩
theorem RepL.drop:∀ {ds:List D} {vs:List V} (n:Nat),RepL K ρ H ds vs→RepL K ρ H (ds.drop n) (vs.drop n)
 | _,_,0,h=>h
 | [],_,n+1,h=>by cases h;exact rfl
 | x::ds,_,n+1,⟨v,r,h1,_,h3⟩=>by subst h1;exact RepL.drop n h3
theorem RepL.take:∀ {ds:List D} {vs:List V} (n:Nat),RepL K ρ H ds vs→RepL K ρ H (ds.take n) (vs.take n)
 | _,_,0,h=>by simp [RepL]
 | [],_,n+1,h=>by cases h;simp [RepL]
 | x::ds,_,n+1,⟨v,r,h1,h2,h3⟩=>by subst h1;exact ⟨v,r.take n,rfl,h2,RepL.take n h3⟩
theorem Step.fresh {p:Addr} {o:HO} (hp:H p=none):Step ρ H ρ (upd H p o) :=
 ⟨List.prefix_refl _,fun _ h=>.inl h,fun a ob h _=>by rw [qD (L2.ne_of_none h hp)];exact h⟩
theorem Step.new1 {p:Addr} {o:HO} (hp:H p=none):Step ρ H (ρ++[p]) (upd H p o) :=
 ⟨List.prefix_append _ _,fun a h=>(List.mem_append.mp h).imp id fun z=>by rw [List.mem_singleton.mp z];exact hp,fun a ob h _=>by rw [qD (L2.ne_of_none h hp)];exact h⟩
theorem Step.turn {p:Addr} {o o':HO} (hp:H p=some o) (hi:Imm o=false) (hm:p∈ρ):Step ρ H ρ (upd H p o'):=by
 refine ⟨List.prefix_refl _,fun _ h=>.inl h,fun a ob h c=>?_⟩
 rw [qD]
 ·exact h
 ·intro z
  subst z
  rcases c with c | c
  ·rw [hp] at h
   cases h
   rw [hi] at c
   cases c
  ·exact c hm
theorem RepF.mono {C:Addr} (e:Step ρ H ρ' H'):∀ (ds:List (Nat × D)) (vs:List (Str × V)),RepF K ρ H C ds vs→RepF K ρ' H' C ds vs
 | [],_,h=>h
 | d::ds,_,⟨v,r,h1,hb,hn,h2,h3⟩=>⟨v,r,h1,hb,hn,RepV.mono e _ v h2,RepF.mono e ds r h3⟩
theorem RepK.mono (e:Step ρ H ρ' H'):∀ (ds:List (Ky × D)) (vs:List (L2.Key × V)),RepK K ρ H ds vs→RepK K ρ' H' ds vs
 | [],_,h=>h
 | d::ds,_,⟨v,r,h1,h2,h3⟩=>⟨v,r,h1,RepV.mono e _ v h2,RepK.mono e ds r h3⟩
theorem RepO.mono (e:Step ρ H ρ' H') {o:O} (l:jD o=true→∀ u,H a=some u→H' a=some u) (h:RepO K ρ H o a):RepO K ρ' H' o a:=by
 cases o with
 | lst xs =>
  obtain ⟨vs,h1,h2⟩:=h
  exact ⟨vs,l rfl _ h1,RepL.mono e _ _ h2⟩
 | rol xs =>
  obtain ⟨vs,h1,h2⟩:=h
  refine ⟨vs,?_,RepL.mono e _ _ h2⟩
  rcases h1 with ⟨ob,h1⟩ | h1
  ·exact .inl ⟨ob,e.keep _ _ h1 (.inl rfl)⟩
  ·exact .inr h1
 | ins c fs =>
  obtain ⟨C,dx,vs,h1,hc,h2,h3⟩:=h
  exact ⟨C,dx,vs,h1,hc,l rfl _ h2,RepF.mono e _ _ h3⟩
 | dct kvs =>
  obtain ⟨vs,h1,h2⟩:=h
  exact ⟨vs,l rfl _ h1,RepK.mono e _ _ h2⟩
 | xc c =>
  obtain ⟨C,h1,h2⟩:=h
  exact ⟨C,h1,e.keep _ _ h2 (.inl rfl)⟩
 | rod kvs =>
  obtain ⟨ob,vs,h1,h2⟩:=h
  exact ⟨ob,vs,e.keep _ _ h1 (.inl rfl),RepK.mono e _ _ h2⟩
theorem RepO.there {o:O} (h:RepO K ρ H o a) (m:jD o=true):∃ u,H a=some u:=by
 cases o with
 | lst xs=>obtain ⟨vs,h1,_⟩:=h;exact ⟨_,h1⟩
 | rol xs=>cases m
 | ins c fs=>obtain ⟨C,dx,vs,_,_,h1,_⟩:=h;exact ⟨_,h1⟩
 | dct kvs=>obtain ⟨vs,h1,_⟩:=h;exact ⟨_,h1⟩
 | xc c=>cases m
 | rod kvs=>obtain ⟨ob,vs,h1,_⟩:=h;exact ⟨_,h1⟩
theorem RepH.fresh {h:AH} {p:Addr} {o:HO} (r:RepH K ρ h H) (hp:H p=none):RepH K ρ h (upd H p o) :=
 ⟨r.len,fun i ob hi=>let ⟨a,h1,h2⟩:=r.obj i ob hi;⟨a,h1,h2.mono (Step.fresh hp) (fun _ u z=>by rw [qD (L2.ne_of_none z hp)];exact z)⟩,r.inj⟩
theorem RepH.newO {h:AH} (r:RepH K ρ h H) {p:Addr} {o:O} {u:HO} (hp:H p=none) (ho:RepO K (ρ++[p]) (upd H p u) o p) :
  RepH K (ρ++[p]) (h++[o]) (upd H p u):=by
 have e:Step ρ H (ρ++[p]) (upd H p u):=Step.new1 hp
 refine ⟨by simp [r.len],fun i ob hi=>?_,fun i j a o1 o2 hi hj m1 m2 hai haj=>?_⟩
 ·by_cases hlt:i<h.length
  ·rw [List.getElem?_append_left hlt] at hi
   obtain ⟨a,h1,h2⟩:=r.obj i ob hi
   exact ⟨a,jY e.pre h1,h2.mono e (fun _ u z=>by rw [qD (L2.ne_of_none z hp)];exact z)⟩
  ·have hi':=(List.getElem?_eq_some_iff.mp hi).1
   simp at hi'
   have e':i=h.length:=by omega
   subst e'
   rw [List.getElem?_append_right (Nat.le_refl _)] at hi
   simp at hi
   subst hi
   refine ⟨p,?_,ho⟩
   rw [← r.len,List.getElem?_append_right (Nat.le_refl _)]
   simp
 ·have key:∀ (i:Nat) (z:O),jD z=true→(h++[o])[i]?=some z→(ρ++[p])[i]?=some a→(i<h.length∧h[i]?=some z∧ρ[i]?=some a∧a≠p)∨(i=h.length∧a=p):=fun i z mz hi hai=>by
   by_cases hlt:i<h.length
   ·rw [List.getElem?_append_left hlt] at hi
    rw [List.getElem?_append_left (by rw [r.len];exact hlt)] at hai
    refine .inl ⟨hlt,hi,hai,fun q=>?_⟩
    obtain ⟨b,h1,h2⟩:=r.obj i _ hi
    rw [hai] at h1
    cases h1
    obtain ⟨w,h3⟩:=h2.there mz
    rw [q,hp] at h3
    cases h3
   ·have hi':=(List.getElem?_eq_some_iff.mp hi).1
    simp at hi'
    have e':i=h.length:=by omega
    subst e'
    rw [← r.len,List.getElem?_append_right (Nat.le_refl _)] at hai
    simp at hai
    exact .inr ⟨rfl,hai.symm⟩
  rcases key i _ m1 hi hai with ⟨h1,h2,h3,h4⟩ | ⟨h1,h2⟩ <;> rcases key j _ m2 hj haj with ⟨k1,k2,k3,k4⟩ | ⟨k1,k2⟩
  ·exact r.inj i j a _ _ h2 k2 m1 m2 h3 k3
  ·exact absurd k2 h4
  ·exact absurd h2 k4
  ·omega
theorem RepH.setO {h:AH} (r:RepH K ρ h H) {k:Nat} {p:Addr} {o o':O} {u u':HO} (hk:h[k]?=some o) (m:jD o=true) (m':jD o'=true) (hr:ρ[k]?=some p) (hp:H p=some u) (hi':Imm u=false) (hx:RepO K ρ (upd H p u') o' p) :
  RepH K ρ (h.set k o') (upd H p u'):=by
 have e:Step ρ H ρ (upd H p u'):=Step.turn hp hi' (List.mem_of_getElem? hr)
 have hkl:=(List.getElem?_eq_some_iff.mp hk).1
 refine ⟨by simp [r.len],fun i ob hi=>?_,fun i j a o1 o2 hi hj m1 m2 hai haj=>?_⟩
 ·rw [List.getElem?_set] at hi
  by_cases hik:k=i
  ·rw [if_pos hik,if_pos (by omega)] at hi
   cases hi
   subst hik
   exact ⟨p,hr,hx⟩
  ·rw [if_neg hik] at hi
   obtain ⟨a,h1,h2⟩:=r.obj i ob hi
   refine ⟨a,h1,h2.mono e fun mo w hw=>?_⟩
   rw [qD fun z=>hik (r.inj k i p _ _ hk hi m mo hr (by rw [← z];exact h1))]
   exact hw
 ·have key:∀ (i:Nat) (z:O),jD z=true→(h.set k o')[i]?=some z→∃ z',h[i]?=some z'∧jD z'=true:=fun i z mz hi=>by
   rw [List.getElem?_set] at hi
   by_cases hik:k=i
   ·subst hik
    exact ⟨_,hk,m⟩
   ·rw [if_neg hik] at hi
    exact ⟨_,hi,mz⟩
  obtain ⟨_,hi',n1⟩:=key i _ m1 hi
  obtain ⟨_,hj',n2⟩:=key j _ m2 hj
  exact r.inj i j a _ _ hi' hj' n1 n2 hai haj
theorem RepH.newList {h:AH} (r:RepH K ρ h H) {p:Addr} {xs:List D} {vs:List V} (hp:H p=none) (hx:RepL K ρ H xs vs) :
  RepH K (ρ++[p]) (h++[.lst xs]) (upd H p (.lst vs)):=r.newO hp ⟨vs,qF,RepL.mono (Step.new1 hp) _ _ hx⟩
theorem RepH.setList {h:AH} (r:RepH K ρ h H) {k:Nat} {p:Addr} {xs ys:List D} {us vs:List V} (hk:h[k]?=some (.lst xs)) (hr:ρ[k]?=some p) (hp:H p=some (.lst us)) (hx:RepL K ρ H ys vs) :
  RepH K ρ (h.set k (.lst ys)) (upd H p (.lst vs)):=r.setO hk rfl rfl hr hp rfl ⟨vs,qF,RepL.mono (Step.turn hp rfl (List.mem_of_getElem? hr)) _ _ hx⟩
theorem RepH.list {h:AH} (r:RepH K ρ h H) {i:Nat} {xs:List D} (hi:getL h i=some xs):∃ a vs,ρ[i]?=some a∧SqL K H a vs∧RepL K ρ H xs vs:=by
 unfold getL at hi
 cases e:h[i]? with
 | none=>rw [e] at hi;cases hi
 | some o =>
  rw [e] at hi
  obtain ⟨a,h1,h2⟩:=r.obj i o e
  cases o with
  | lst ys =>
   cases hi
   obtain ⟨vs,h3,h4⟩:=h2
   exact ⟨a,vs,h1,L2.SqL.of h3,h4⟩
  | rol ys =>
   cases hi
   obtain ⟨vs,h3,h4⟩:=h2
   refine ⟨a,vs,h1,?_,h4⟩
   rcases h3 with ⟨ob,h3⟩ | h3
   ·exact .inl (.inr ⟨ob,h3⟩)
   ·exact .inr h3
  | _=>cases hi
end
noncomputable def RepS (K:PySem.W.Frag) (ρ:List Addr) (H:Hp) (env:Env) (σ:L2.St):Prop:=env.length=σ.length∧∀ (i:Nat) (d:D),env[i]?=some (some d)→∃ v,σ[i]?=some (some v)∧RepV K ρ H d v
theorem RepS.mono {K:PySem.W.Frag} {ρ ρ':List Addr} {H H':Hp} {env:Env} {σ:L2.St} (s:RepS K ρ H env σ) (e:Step ρ H ρ' H'):RepS K ρ' H' env σ :=
 ⟨s.1,fun i d h=>let ⟨v,h1,h2⟩:=s.2 i d h;⟨v,h1,h2.mono e _ _⟩⟩
theorem RepS.set {K:PySem.W.Frag} {ρ:List Addr} {H:Hp} {env:Env} {σ:L2.St} (s:RepS K ρ H env σ) (k:Nat) {d:D} {v:V} (r:RepV K ρ H d v):RepS K ρ H (env.set k (some d)) (σ.set k (some v)):=by
 refine ⟨by simp [s.1],fun i d' h=>?_⟩
 rw [List.getElem?_set] at h ⊢
 by_cases hk:k=i
 ·subst hk
  rw [if_pos rfl] at h ⊢
  by_cases hl:k<env.length
  ·rw [if_pos hl] at h
   cases h
   rw [if_pos (by rw [← s.1];exact hl)]
   exact ⟨v,rfl,r⟩
  ·rw [if_neg hl] at h
   cases h
 ·rw [if_neg hk] at h ⊢
  exact s.2 i d' h
noncomputable abbrev WX:=Nat→L2.St→Hp→Prop
noncomputable abbrev W1:=Nat→Hp→Prop
noncomputable abbrev WX.at (W:WX) (σ:L2.St):W1:=fun c H=>W c σ H
noncomputable def Post {α:Type} (K:PySem.W.Frag) (w:W1) (rep:List Addr→Hp→α→Prop) (ρ:List Addr) (H:Hp):R α→Prop
 | .ok a h=>∀ (ρ':List Addr) (H':Hp),Step ρ H ρ' H'→RepH K ρ' h H'→rep ρ' H' a
 | .exc c h=>∀ (ρ':List Addr) (H':Hp),Step ρ H ρ' H'→RepH K ρ' h H'→w c H'
 | .bad=>False
noncomputable abbrev PostV (K:PySem.W.Frag) (w:W1) (Q:VK) (ρ:List Addr) (H:Hp) (r:R D):Prop:=Post K w (fun ρ' H' d=>∀ v,RepV K ρ' H' d v→Q v H') ρ H r
theorem Post.mono {α:Type} {K:PySem.W.Frag} {w:W1} {rep:List Addr→Hp→α→Prop} {ρ ρ1:List Addr} {H H1:Hp} {r:R α} (p:Post K w rep ρ H r) (e:Step ρ H ρ1 H1):Post K w rep ρ1 H1 r:=by
 cases r with
 | ok a h=>exact fun ρ' H' e' rh=>p ρ' H' (e.trans e') rh
 | exc _ _=>exact fun ρ' H' e' rh=>p ρ' H' (e.trans e') rh
 | bad=>exact p
noncomputable def tD (K:PySem.W.Frag) (W:WX) (m:Env→M D):TE:=fun σ H Q=>∃ ρ env h,RepS K ρ H env σ∧RepH K ρ h H∧PostV K (W.at σ) Q ρ H (m env h)
noncomputable def tDT (K:PySem.W.Frag) (W:WX) (m:Env→M Bool):TT:=fun σ H Q=>∃ ρ env h,RepS K ρ H env σ∧RepH K ρ h H∧Post K (W.at σ) (fun _ H' b=>Q b H') ρ H (m env h)
noncomputable def tDL (K:PySem.W.Frag) (W:WX) (m:Env→M (List D)):TA:=fun σ H Q=>∃ ρ env h,RepS K ρ H env σ∧RepH K ρ h H∧Post K (W.at σ) (fun ρ' H' ds=>∀ vs,RepL K ρ' H' ds vs→Q vs H') ρ H (m env h)
theorem PE.imp {X:Cx} {e:Expr} {t t':TE} (h:PE X e t) (i:∀ σ H Q,t' σ H Q→t σ H Q):PE X e t':=fun pins s σ H Q I q=>h pins s σ H Q I (i σ H Q q)
theorem PT.imp {X:Cx} {e:Expr} {t t':TT} (h:PT X e t) (i:∀ σ H Q,t' σ H Q→t σ H Q):PT X e t':=fun pins s σ H Q I q=>h pins s σ H Q I (i σ H Q q)
theorem PA.imp {X:Cx} {e:List Expr} {t t':TA} (h:PA X e t) (i:∀ σ H Q,t' σ H Q→t σ H Q):PA X e t':=fun pos pins s σ H Q I q=>h pos pins s σ H Q I (i σ H Q q)
theorem PS.imp {X:Cx} {e:Stmt} {t t':TS} (h:PS X e t) (i:∀ D σ H,t' D σ H→t D σ H):PS X e t':=fun pins s σ H D I q=>h pins s σ H D I (i D σ H q)
theorem PSs.imp {X:Cx} {e:List Stmt} {t t':TS} (h:PSs X e t) (i:∀ D σ H,t' D σ H→t D σ H):PSs X e t':=fun pins s σ H D I q=>h pins s σ H D I (i D σ H q)
end Fy
set_option Elab.async false
set_option linter.all false
set_option maxRecDepth 100000
set_option maxHeartbeats 4000000
namespace Fy
open PySem PySem.Spec PyProof.Rows
open L2 (V Hp HO VK TE TT TA TS TI Cx Inv RelV Vals SqL SqT Rd upd qF qD PE PT PA PS PSs EP OpR CallR IxR MtR SlR PO TO)
theorem zJ:sizeLine=16777216:=sizeLine_eq
theorem aN (a b:Tx):((⟨a.toArray⟩:Str)++(⟨b.toArray⟩:Str))=⟨(a++b).toArray⟩:=by
 show Str.append _ _=_
 unfold Str.append
 simp
theorem zK (a:Tx):(⟨a.toArray⟩:Str).length=a.length:=by
 unfold Str.length
 simp
section
variable {X:Cx} {K:PySem.W.Frag} {ρ:List Addr} {H:Hp} {Q:VK} {h:AH} {w:W1}
theorem PostV.ite {c:Prop} [Decidable c] {r:R D} (p:PostV K w Q ρ H (if c then r else .bad)):c∧PostV K w Q ρ H r:=by
 by_cases hc:c
 ·rw [if_pos hc] at p
  exact ⟨hc,p⟩
 ·rw [if_neg hc] at p
  exact False.elim p
theorem PostV.now {d:D} {v:V} (p:PostV K w Q ρ H (.ok d h)) (r:RepH K ρ h H) (hv:RepV K ρ H d v):Q v H:=p ρ H (Step.refl ρ H) r v hv
theorem PostV.newL {xs:List D} {vs:List V} (p:PostV K w Q ρ H (newL xs h)) (r:RepH K ρ h H) (hv:RepL K ρ H xs vs):vs.length≤sizeLine∧∀ l,H l=none→Q (.ref l) (upd H l (.lst vs)):=by
 obtain ⟨hc,p⟩:=PostV.ite (c:=xs.length≤16777216) p
 refine ⟨by rw [hv.length,zJ];exact hc,fun l hl=>?_⟩
 refine p (ρ++[l]) _ (Step.new1 hl) (r.newList hl hv) _ ⟨l,?_,rfl⟩
 rw [← r.len,List.getElem?_append_right (Nat.le_refl _)]
 simp
theorem PostV.newT {xs:List D} {vs:List V} (p:PostV K w Q ρ H (.ok (.tup xs) h)) (r:RepH K ρ h H) (hv:RepL K ρ H xs vs):∀ l,H l=none→Q (.ref l) (upd H l (.tup vs)):=fun l hl=>by
 have e:Step ρ H ρ (upd H l (.tup vs)):=Step.fresh hl
 exact p ρ _ e (r.fresh hl) _ ⟨l,vs,rfl,L2.SqT.of qF,hv.mono e _ _⟩
noncomputable def rB (K:PySem.W.Frag) (o:Bi):L2.R2:=fun x y H Q=>∃ (w:W1),∃ ρ h d e,RepH K ρ h H∧RepV K ρ H d x∧RepV K ρ H e y∧PostV K w Q ρ H (biD o d e h)
theorem qDH:OpR X (binaryOp .Sub) (rB X.K .sub):=by
 rintro pins s σ H x y v u Q I rx ry ⟨w,ρ,h,d,e,r,hd,he,p⟩
 cases d with
 | int i =>
  cases e with
  | int j=>cases hd;cases he;exact L2.op_sub pins s σ H _ _ v u Q I rx ry ⟨i,j,rfl,rfl,p.now r rfl⟩
  | _=>exact (show False from p).elim
 | _=>exact (show False from p).elim
theorem pB:∀ (n:Nat) (x acc:Array Nat),((List.replicate n x).foldl (·++·) acc).toList=acc.toList++(List.replicate n x.toList).flatten
 | 0,x,acc=>by simp
 | n+1,x,acc=>by
  rw [List.replicate_succ,List.foldl_cons,pB n x (acc++x),List.replicate_succ,List.flatten_cons,Array.toList_append,List.append_assoc]
theorem fM (n:Nat) (x:Tx):(⟨(List.replicate n x.toArray).foldl (·++·) #[]⟩:Str)=⟨(List.replicate n x).flatten.toArray⟩:=by
 congr 1
 apply Array.toList_inj.mp
 rw [pB]
 simp
theorem qEG:fillsNumberSlot (.type "tuple") "mul"=pure false :=
 PySem.fillsNumberSlot_seq (id:="tuple.__mul__") (r:=some (.builtin "tuple.__rmul__")) F.slot_tuple_mul.lookup (by decide +kernel) F.slot_tuple_rmul.lookup (by decide +kernel)
theorem qCq:seqRepeat? (.type "tuple")=pure (some (.builtin "tuple.__mul__")):=by
 unfold seqRepeat?
 rw [PySem.seqSlot_of (T:="tuple") (name:="__mul__") (id:="tuple.__mul__") F.slot_tuple_mul.lookup (by decide +kernel),PySem.seqSlot_of (T:="tuple") (name:="__rmul__") (id:="tuple.__rmul__") F.slot_tuple_rmul.lookup (by decide +kernel)]
 rfl
theorem qF4 (a:Int) (t:Tok) (l:Addr) (items:Array Value) (n:Nat) (dd:Option Addr) (sl:Array (Option Value)) :
  Meets (Builtin.«int.__rmul__» ⟨[.int a t,.ref l],[]⟩) (fun _ R s=>s.heap.get? l=some { cls:=.type "tuple",dict:=dd,data:=.seq items n,slots:=sl }∧R (.ok (.ret Value.notImplemented)) s) :=
 .of_wp fun prog w A R s h=>by obtain ⟨hp,g,d,tk,os⟩:=s;obtain ⟨hl,h⟩:=h;wp_walk;exact ⟨_,rfl,h⟩
theorem qAr (l:Addr) (items:Array Value) (n:Nat) (dd:Option Addr) (sl:Array (Option Value)) (u:Tok) :
  Meets (Builtin.«tuple.__mul__» ⟨[.ref l,.int 1 u],[]⟩) (fun _ R s=>s.heap.get? l=some { cls:=.type "tuple",dict:=dd,data:=.seq items n,slots:=sl }∧R (.ok (.ret (.ref l))) s) :=
 .of_wp fun prog w A R s h=>by obtain ⟨hp,g,d,tk,os⟩:=s;obtain ⟨hl,h⟩:=h;wp_walk;exact ⟨_,rfl,h⟩
theorem qAs (l:Addr) (items:Array Value) (n:Nat) (dd:Option Addr) (sl:Array (Option Value)) (u:Tok) (hi:items.isEmpty=false) :
  Meets (Builtin.«tuple.__mul__» ⟨[.ref l,.int 0 u],[]⟩) (fun _ R s=>s.heap.get? l=some { cls:=.type "tuple",dict:=dd,data:=.seq items n,slots:=sl }∧R (.ok (.ret (.ref s.heap.objs.size))) { s with heap:=s.heap.push { cls:=.type "tuple",data:=.seq #[] } }) :=
 .of_wp fun prog w A R s h=>by obtain ⟨hp,g,d,tk,os⟩:=s;obtain ⟨hl,h⟩:=h;wp_walk;exact ⟨_,rfl,h⟩
theorem qCt {K:PySem.W.Frag} {ρ:List Addr} {H:Hp} {xs:List D} {vs:List V} (n:Nat) (h:RepL K ρ H xs vs):RepL K ρ H (List.replicate n xs).flatten (List.replicate n vs).flatten:=by
 induction n with
 | zero=>rfl
 | succ n ih =>
  rw [List.replicate_succ,List.replicate_succ,List.flatten_cons,List.flatten_cons]
  exact h.append ih
theorem qDL:OpR X (binaryOp .Mult) (rB X.K .mul):=by
 rintro pins s σ H x y v u Q I rx ry ⟨w,ρ,h,d,e,r,hd,he,p⟩
 cases d with
 | int i =>
  cases e with
  | int j =>
   cases hd;cases he
   obtain ⟨hc,p⟩:=PostV.ite (c:=kM i j) p
   exact L2.op_mul pins s σ H _ _ v u Q I rx ry ⟨i,j,rfl,rfl,hc,p.now r rfl⟩
  | _=>exact (show False from p).elim
 | str x =>
  cases e with
  | int n =>
   cases hd;cases he
   obtain ⟨hc,p⟩:=PostV.ite (c:=0≤n∧n≤1000000∧x≠[]∧x.length*n.toNat≤16777216) p
   obtain ⟨h1,h2,h3,h4⟩:=hc
   obtain ⟨t,rfl⟩:=rx
   obtain ⟨t2,rfl⟩:=ry
   have hx:0<x.length:=List.length_pos_iff.mpr h3
   have hx0:((⟨x.toArray⟩:Str).length == 0)=false:=by
    rw [zK]
    exact beq_eq_false_iff_ne.mpr (by omega)
   refine P.mul_str ?_ ?_ ?_ ?_
   ·rw [decide_eq_false (by omega),decide_eq_false (by omega)];rfl
   ·intro _ _
    rw [zK]
    have:x.length≤16777216:=Nat.le_trans (Nat.le_mul_of_pos_right _ (by omega)) h4
    have h5:(16777216:Int)≤(2 ^ 63-1) / n:=by
     rw [Int.le_ediv_iff_mul_le (by omega)]
     omega
    omega
   ·intro _ _
    rw [zK]
    exact decide_eq_false (by rw [zJ];omega)
   ·by_cases z:n<1
    ·obtain rfl:n=0:=by omega
     rw [if_pos z]
     exact ⟨by decide,⟨.str ⟨#[]⟩,H,I.tok _,⟨_,rfl⟩,p.now r rfl⟩⟩
    rw [if_neg z,hx0,Bool.or_false]
    by_cases z1:n=1
    ·subst z1
     rw [if_pos (show ((1:Int) == 1)=true from rfl)]
     exact ⟨.str ⟨x.toArray⟩,H,I,⟨_,rfl⟩,by have:=p.now r rfl;simpa using this⟩
    ·rw [if_neg (by simpa using z1)]
     refine ⟨?_,?_⟩
     ·rw [fM,zK,List.length_flatten,List.map_replicate,List.sum_replicate_nat,zJ,Nat.mul_comm];exact h4
     ·refine ⟨.str ⟨(List.replicate n.toNat x).flatten.toArray⟩,H,I.tok _,⟨_,by rw [← fM]⟩,p.now r rfl⟩
  | _=>exact (show False from p).elim
 | tup a =>
  cases e with
  | int n =>
   obtain ⟨pa,va,rfl,ta,la⟩:=hd
   cases he
   cases rx
   obtain ⟨t2,rfl⟩:=ry
   obtain ⟨its,r1,p1,_⟩:=I.tuple ta
   obtain ⟨⟨cls,dd,data,sl⟩,ho,hc,k,hdd⟩:=id p1
   simp only at hc hdd
   subst hc hdd
   have p2:PostV X.K w Q ρ H (if a≠[]∧n=0 then .ok (.tup []) h else if n=1 then .ok (.tup a) h else .bad):=p
   have go:∀ {S:PySem.Spec},Meets (Builtin.«tuple.__mul__» ⟨[.ref pa,.int n t2],[]⟩) S→S X.A (wants (EP X pins σ Q) X.xe) s→wpAny (model X.prog X.w) X.A (binaryOp .Mult (.ref pa) (.int n t2)) (EP X pins σ Q) X.xe s:=fun g h =>
    wpAny_binaryOp_repeat_ref (T:="tuple") (U:="int") (by decide) ⟨_,ho,rfl⟩ (fun s'=>typeIs_int s' n t2) qEG F.fills_int_mul F.slot_int_rmul qCq F.slot_int_index.lookup
     (call_meets F.slot_int_rmul (typeIs_int s n t2) F.entry_int_rmul (F.args_int_rmul_2 _ _) (qF4 n t2 pa its.toArray k dd sl)
      ⟨ho,rfl,⟨_,ho,rfl⟩,call_meets F.slot_tuple_mul ⟨_,ho,rfl⟩ F.entry_tuple_mul (F.args_tuple_mul_2 _ _) g h⟩)
   by_cases c0:a≠[]∧n=0
   ·rw [if_pos c0] at p2
    clear p
    obtain ⟨hne,rfl⟩:=c0
    have hi:its.toArray.isEmpty=false:=by
     have h1:=la.length
     have h2:=r1.length
     have h3:=List.length_pos_iff.mpr hne
     rw [List.isEmpty_toArray,List.isEmpty_eq_false_iff]
     intro z
     rw [z] at h2
     rw [List.length_nil] at h2
     omega
    refine go (qAs pa its.toArray k dd sl t2 hi) ⟨ho,?_⟩
    refine ⟨.ref s.heap.objs.size,_,I.laid (t':=s.toks) (o:=.tup []) (fun b ob q=>Heap.get?_push_of_some _ q) (Nat.le_refl _) ?_,rfl,p2.newT r (show RepL X.K ρ H [] [] from rfl) _ (I.hok.fresh (Nat.le_refl _))⟩
    exact ⟨by simp,_,.nil,IsTup.new _ _⟩
   ·rw [if_neg c0] at p2
    clear p
    obtain ⟨rfl,p⟩:=PostV.ite p2
    exact go (qAr pa its.toArray k dd sl t2) ⟨ho,⟨.ref pa,H,I,rfl,p.now r ⟨pa,va,rfl,ta,la⟩⟩⟩
  | _=>exact (show False from p).elim
 | ref k =>
  cases e with
  | int n =>
   have p:PostV X.K w Q ρ H (match h[k]? with | some (.lst xs)=>(if 0≤n∧n≤1000000∧xs.length*n.toNat≤16777216 then newL (List.replicate n.toNat xs).flatten h else .bad) | _=>.bad):=p
   split at p
   ·rename_i xs q
    obtain ⟨⟨h1,h2,h3⟩,p⟩:=PostV.ite p
    cases he
    obtain ⟨a,h4,rfl⟩:=hd
    obtain ⟨b,h5,vs,hH,hl⟩:=r.obj k _ q
    rw [h4] at h5
    cases h5
    refine L2.op_rep pins s σ H _ _ v u Q I rx ry ⟨a,n,vs,rfl,rfl,hH,by omega,by omega,by rw [hl.length,zJ];exact h3,?_⟩
    exact (PostV.newL p r (qCt n.toNat hl)).2
   ·exact False.elim p
  | _=>exact (show False from p).elim
 | _=>exact (show False from p).elim
theorem qDS:OpR X (binaryOp .FloorDiv) (rB X.K .fdiv):=by
 rintro pins s σ H x y v u Q I rx ry ⟨w,ρ,h,d,e,r,hd,he,p⟩
 cases d with
 | int i =>
  cases e with
  | int j =>
   cases hd;cases he
   obtain ⟨hc,p⟩:=PostV.ite (c:=0<j∧j<1073741824) p
   exact L2.op_fdiv pins s σ H _ _ v u Q I rx ry ⟨i,j,rfl,rfl,hc,p.now r rfl⟩
  | _=>exact (show False from p).elim
 | _=>exact (show False from p).elim
theorem qDM:OpR X (binaryOp .Mod) (rB X.K .mod):=by
 rintro pins s σ H x y v u Q I rx ry ⟨w,ρ,h,d,e,r,hd,he,p⟩
 cases d with
 | int i =>
  cases e with
  | int j =>
   cases hd;cases he
   obtain ⟨hc,p⟩:=PostV.ite (c:=0<j) p
   exact L2.op_mod pins s σ H _ _ v u Q I rx ry ⟨i,j,rfl,rfl,hc,p.now r rfl⟩
  | _=>exact (show False from p).elim
 | _=>exact (show False from p).elim
theorem qDI:OpR X (binaryOp .Pow) (rB X.K .pow):=by
 rintro pins s σ H x y v u Q I rx ry ⟨w,ρ,h,d,e,r,hd,he,p⟩
 cases d with
 | int i =>
  cases e with
  | int j =>
   cases hd;cases he
   obtain ⟨hc,p⟩:=PostV.ite (c:=0≤j∧j≤1000000∧i.natAbs<2 ^ 64) p
   exact L2.op_pow pins s σ H _ _ v u Q I rx ry ⟨i,j,rfl,rfl,hc,p.now r rfl⟩
  | _=>exact (show False from p).elim
 | _=>exact (show False from p).elim
theorem qDN:OpR X (compareOp .Lt) (rB X.K .lt):=by
 rintro pins s σ H x y v u Q I rx ry ⟨w,ρ,h,d,e,r,hd,he,p⟩
 cases d with
 | int i =>
  cases e with
  | int j=>cases hd;cases he;exact L2.op_lt pins s σ H _ _ v u Q I rx ry ⟨i,j,rfl,rfl,p.now r rfl⟩
  | _=>exact (show False from p).elim
 | _=>exact (show False from p).elim
theorem qDO:OpR X (compareOp .LtE) (rB X.K .le):=by
 rintro pins s σ H x y v u Q I rx ry ⟨w,ρ,h,d,e,r,hd,he,p⟩
 cases d with
 | int i =>
  cases e with
  | int j=>cases hd;cases he;exact L2.op_le pins s σ H _ _ v u Q I rx ry ⟨i,j,rfl,rfl,p.now r rfl⟩
  | _=>exact (show False from p).elim
 | _=>exact (show False from p).elim
theorem qDQ:OpR X (compareOp .Gt) (rB X.K .gt):=by
 rintro pins s σ H x y v u Q I rx ry ⟨w,ρ,h,d,e,r,hd,he,p⟩
 cases d with
 | int i =>
  cases e with
  | int j=>cases hd;cases he;exact L2.op_gt pins s σ H _ _ v u Q I rx ry ⟨i,j,rfl,rfl,p.now r rfl⟩
  | _=>exact (show False from p).elim
 | _=>exact (show False from p).elim
theorem qDR:OpR X (compareOp .GtE) (rB X.K .ge):=by
 rintro pins s σ H x y v u Q I rx ry ⟨w,ρ,h,d,e,r,hd,he,p⟩
 cases d with
 | int i =>
  cases e with
  | int j=>cases hd;cases he;exact L2.op_ge pins s σ H _ _ v u Q I rx ry ⟨i,j,rfl,rfl,p.now r rfl⟩
  | _=>exact (show False from p).elim
 | _=>exact (show False from p).elim
theorem RepH.own {i:Nat} {xs:List D} (r:RepH K ρ h H) (e:h[i]?=some (.lst xs)) {v:V} (hv:RepV K ρ H (.ref i) v):∃ a vs,v=.ref a∧ρ[i]?=some a∧H a=some (.lst vs)∧RepL K ρ H xs vs:=by
 obtain ⟨a,h1,h2⟩:=hv
 obtain ⟨b,h3,vs,h4,h5⟩:=r.obj i _ e
 rw [h1] at h3
 cases h3
 exact ⟨a,vs,h2,h1,h4,h5⟩
theorem RepH.seen {i:Nat} {xs:List D} (r:RepH K ρ h H) (e:getL h i=some xs) {v:V} (hv:RepV K ρ H (.ref i) v):∃ a vs,v=.ref a∧SqL K H a vs∧RepL K ρ H xs vs:=by
 obtain ⟨a,h1,h2⟩:=hv
 obtain ⟨b,vs,h3,h4,h5⟩:=r.list e
 rw [h1] at h3
 cases h3
 exact ⟨a,vs,h2,h4,h5⟩
theorem qDU:OpR X (binaryOp .Add) (rB X.K .add):=by
 rintro pins s σ H x y v u Q I rx ry ⟨w,ρ,h,d,e,r,hd,he,p⟩
 cases d with
 | int i =>
  cases e with
  | int j=>cases hd;cases he;exact L2.op_add pins s σ H _ _ v u Q I rx ry ⟨i,j,rfl,rfl,p.now r rfl⟩
  | _=>exact (show False from p).elim
 | str a =>
  cases e with
  | str b =>
   cases hd;cases he
   obtain ⟨hc,p⟩:=PostV.ite (c:=a.length+b.length≤16777216) p
   exact L2.op_add_str pins s σ H _ _ v u Q I rx ry ⟨_,_,rfl,rfl,by rw [zK,zK,zJ];exact hc,by rw [aN];exact p.now r rfl⟩
  | _=>exact (show False from p).elim
 | tup a =>
  cases e with
  | tup b =>
   obtain ⟨pa,va,rfl,ta,la⟩:=hd
   obtain ⟨pb,vb,rfl,tb,lb⟩:=he
   obtain ⟨hz,p⟩:=PostV.ite (c:=a.length+b.length≤16777216) p
   by_cases hc:a=[]
   ·subst hc
    have ev:va=[]:=List.eq_nil_of_length_eq_zero la.length
    subst ev
    cases rx
    cases ry
    obtain ⟨its,r1,p1,_⟩:=I.tuple ta
    obtain ⟨its2,r2,p2,_⟩:=I.tuple tb
    have ei:its=[]:=r1.nil_iff.mpr rfl
    subst ei
    obtain ⟨⟨cls,dd,data,sl⟩,ho,hc,n,hd⟩:=id p1
    obtain ⟨⟨cls2,dd2,data2,sl2⟩,ho2,hc2,n2,hd2⟩:=id p2
    simp only at hc hd hc2 hd2
    subst hc hd hc2 hd2
    exact concat_meets ⟨_,ho,rfl⟩ ⟨_,ho2,rfl⟩ noFill_tuple_add seq_tuple_add PySem.F.slot_tuple_add PySem.F.entry_tuple_add (PySem.F.args_tuple_add_2 _ _)
     (tuple_addW0 pa pb _ _ n n2 dd dd2 sl sl2 rfl) ⟨ho,ho2,⟨.ref pb,H,I,rfl,p.now r ⟨pb,vb,rfl,tb,lb⟩⟩⟩
   refine L2.op_catT pins s σ H _ _ v u Q I rx ry ⟨pa,pb,va,vb,rfl,rfl,ta,tb,fun z=>hc ?_,by rw [la.length,lb.length,zJ];exact hz,fun z=>?_,fun _=>p.newT r (la.append lb)⟩
   ·have:=la.length
    rw [z] at this
    exact List.eq_nil_of_length_eq_zero this.symm
   ·subst z
    have e:b=[]:=List.eq_nil_of_length_eq_zero lb.length.symm
    subst e
    rw [List.append_nil] at p
    exact p.now r ⟨pa,va,rfl,ta,la⟩
  | _=>exact (show False from p).elim
 | ref i =>
  cases e with
  | ref j =>
   have p:PostV X.K w Q ρ H (match h[i]?,h[j]? with | some (.lst xs),some (.lst ys)=>newL (xs++ys) h | _,_=>.bad):=p
   split at p
   ·rename_i xs ys e1 e2
    obtain ⟨a,va,rfl,_,ha,la⟩:=r.own e1 hd
    obtain ⟨b,vb,rfl,_,hb,lb⟩:=r.own e2 he
    obtain ⟨hz,q⟩:=p.newL r (la.append lb)
    exact L2.op_cat pins s σ H _ _ v u Q I rx ry ⟨a,b,va,vb,rfl,rfl,ha,hb,by rw [← List.length_append];exact hz,q⟩
   ·exact (show False from p).elim
  | _=>exact (show False from p).elim
 | _=>exact (show False from p).elim
end
end Fy
set_option Elab.async false
set_option linter.all false
set_option maxRecDepth 100000
set_option maxHeartbeats 4000000
namespace Fy
open PySem PySem.Spec PyProof.Rows
open L2 (V Hp HO VK TE TT TA TS TI Cx Inv RelV Vals SqL SqT Rd upd qF qD PE PT PA PS PSs EP OpR CallR IxR MtR SlR PO TO)
theorem Post.bind {α β:Type} {K:PySem.W.Frag} {w:W1} {rep:List Addr→Hp→β→Prop} {rep':List Addr→Hp→α→Prop} {ρ:List Addr} {H:Hp} {m:M α} {f:α→M β} {h:AH} (p:Post K w rep ρ H (M.bind m f h))
  (k:∀ ρ' h' a H',Step ρ H ρ' H'→RepH K ρ' h' H'→Post K w rep ρ' H' (f a h')→rep' ρ' H' a):Post K w rep' ρ H (m h):=by
 unfold M.bind at p
 cases e:m h with
 | ok a h1 =>
  rw [e] at p
  exact fun ρ1 H1 e1 r1=>k ρ1 h1 a H1 e1 r1 (Post.mono p e1)
 | exc c h1=>rw [e] at p;exact p
 | bad=>rw [e] at p;exact p
theorem Post.when {α:Type} {K:PySem.W.Frag} {w:W1} {rep:List Addr→Hp→α→Prop} {ρ:List Addr} {H:Hp} {c:Prop} [Decidable c] {m:M α} {h:AH} (p:Post K w rep ρ H (M.when c m h)):c∧Post K w rep ρ H (m h):=by
 unfold M.when at p
 by_cases hc:c
 ·rw [if_pos hc] at p
  exact ⟨hc,p⟩
 ·rw [if_neg hc] at p
  exact False.elim p
theorem Post.imp {α:Type} {K:PySem.W.Frag} {w:W1} {rep rep':List Addr→Hp→α→Prop} {ρ:List Addr} {H:Hp} {r:R α} (p:Post K w rep ρ H r) (k:∀ ρ' H' a,rep ρ' H' a→rep' ρ' H' a):Post K w rep' ρ H r:=by
 cases r with
 | ok a h=>exact fun ρ' H' e rh=>k ρ' H' a (p ρ' H' e rh)
 | exc _ _=>exact p
 | bad=>exact p
theorem Post.ret {α:Type} {K:PySem.W.Frag} {w:W1} {rep:List Addr→Hp→α→Prop} {ρ:List Addr} {H:Hp} {a:α} {h:AH} (p:Post K w rep ρ H (M.ret a h)) (r:RepH K ρ h H):rep ρ H a:=p ρ H (Step.refl ρ H) r
section
variable {X:Cx} {F:Nat→List D→M D} {W:WX} {w:W1}
theorem two {o:Bi} {ca cb:CE} {σ:L2.St} {H:Hp} {Q:VK} (t:tD X.K W (den F (.bi o ca cb)) σ H Q):L2.tOp (rB X.K o) (tD X.K W (den F ca)) (tD X.K W (den F cb)) σ H Q:=by
 obtain ⟨ρ,env,h,s,r,p⟩:=t
 rw [den] at p
 exact ⟨ρ,env,h,s,r,Post.bind p fun ρ1 h1 d H1 e1 r1 q v hv=>⟨ρ1,env,h1,s.mono e1,r1,Post.bind q fun ρ2 h2 d2 H2 e2 r2 q2 w hw=>⟨_,ρ2,h2,d,d2,r2,hv.mono e2 _ _,hw,q2⟩⟩⟩
noncomputable def rU (K:PySem.W.Frag) (o:Un):V→Hp→VK→Prop:=fun x H Q=>∃ (w:W1),∃ ρ h d,RepH K ρ h H∧RepV K ρ H d x∧PostV K w Q ρ H (unD o d h)
noncomputable def rC (K:PySem.W.Frag) (o:Un):List V→Hp→VK→Prop:=fun xs H Q=>∃ x,xs=[x]∧rU K o x H Q
noncomputable def rC2 (K:PySem.W.Frag) (o:Bi):List V→Hp→VK→Prop:=fun xs H Q=>∃ x y,xs=[x,y]∧rB K o x y H Q
theorem one {o:Un} {ca:CE} {σ:L2.St} {H:Hp} {Q:VK} (t:tD X.K W (den F (.un o ca)) σ H Q):tD X.K W (den F ca) σ H fun x H1=>rU X.K o x H1 Q:=by
 obtain ⟨ρ,env,h,s,r,p⟩:=t
 rw [den] at p
 exact ⟨ρ,env,h,s,r,Post.bind p fun ρ1 h1 d H1 e1 r1 q v hv=>⟨_,ρ1,h1,d,r1,hv,q⟩⟩
theorem yE {v:V} {e:Expr} {d:D} (he:PE X e (L2.tC v)) (hv:∀ ρ H,RepV X.K ρ H d v):PE X e (tD X.K W (den F (.lit d))):=PE.imp he fun σ H Q t=>by
 obtain ⟨ρ,env,h,s,r,p⟩:=t
 rw [den] at p
 exact Post.ret p r v (hv ρ H)
theorem qHm {i:Nat} {e:Expr} (he:PE X e (L2.tVar i)):PE X e (tD X.K W (den F (.var i))):=PE.imp he fun σ H Q t=>by
 obtain ⟨ρ,env,h,s,r,p⟩:=t
 rw [den] at p
 cases q:env[i]? with
 | none=>rw [q] at p;exact False.elim p
 | some o =>
  cases o with
  | none=>rw [q] at p;exact False.elim p
  | some d =>
   rw [q] at p
   obtain ⟨v,h1,h2⟩:=s.2 i d q
   exact ⟨v,h1,p ρ H (Step.refl ρ H) r v h2⟩
theorem qHk {es:List Expr}:PA X [] (tDL X.K W (qN F .nil)):=PA.imp L2.pa_nil fun σ H Q t=>by
 obtain ⟨ρ,env,h,s,r,p⟩:=t
 rw [qN] at p
 exact Post.ret p r [] rfl
theorem qHl {e:Expr} {es:List Expr} {c:CE} {cl:CL} (he:PE X e (tD X.K W (den F c))) (hr:PA X es (tDL X.K W (qN F cl))) (hs:starEach (e::es) X.env=(false,eval e X.env)::starEach es X.env) :
  PA X (e::es) (tDL X.K W (qN F (.cons c cl))):=PA.imp (L2.pa_cons he hr hs) fun σ H Q t=>by
 obtain ⟨ρ,env,h,s,r,p⟩:=t
 rw [qN] at p
 refine ⟨ρ,env,h,s,r,Post.bind p fun ρ1 h1 d H1 e1 r1 q v hv=>⟨ρ1,env,h1,s.mono e1,r1,Post.bind q fun ρ2 h2 ds H2 e2 r2 q2 vs hvs=>?_⟩⟩
 exact Post.ret q2 r2 (v::vs) ⟨v,vs,rfl,hv.mono e2 _ _,hvs⟩
theorem qID {a b:Expr} {qE:List Expr} {pos:Pos} {ca cb:CE} (ha:PE X a (tD X.K W (den F ca))) (hb:PE X (.BoolOp .And (b::qE) pos) (tD X.K W (den F cb))) :
  PE X (.BoolOp .And (a::b::qE) pos) (tD X.K W (den F (.and ca cb))):=PE.imp (L2.pe_and ha hb) fun σ H Q t=>by
 obtain ⟨ρ,env,h,s,r,p⟩:=t
 rw [den] at p
 refine ⟨ρ,env,h,s,r,Post.bind p fun ρ1 h1 d H1 e1 r1 q v hv=>?_⟩
 cases d with
 | bl c =>
  cases hv
  cases c with
  | true=>exact ⟨true,rfl,⟨ρ1,env,h1,s.mono e1,r1,q⟩⟩
  | false=>exact ⟨false,rfl,Post.ret q r1 _ rfl⟩
 | _=>exact False.elim q
theorem qHq {a b:Expr} {qE:List Expr} {pos:Pos} {ca cb:CE} (ha:PE X a (tD X.K W (den F ca))) (hb:PE X (.BoolOp .Or (b::qE) pos) (tD X.K W (den F cb))) :
  PE X (.BoolOp .Or (a::b::qE) pos) (tD X.K W (den F (.or ca cb))):=PE.imp (L2.pe_or ha hb) fun σ H Q t=>by
 obtain ⟨ρ,env,h,s,r,p⟩:=t
 rw [den] at p
 refine ⟨ρ,env,h,s,r,Post.bind p fun ρ1 h1 d H1 e1 r1 q v hv=>?_⟩
 cases d with
 | bl c =>
  cases hv
  cases c with
  | true=>exact ⟨true,rfl,Post.ret q r1 _ rfl⟩
  | false=>exact ⟨false,rfl,⟨ρ1,env,h1,s.mono e1,r1,q⟩⟩
 | _=>exact False.elim q
theorem TruV.of {ρ:List Addr} {H:Hp} {h:AH} {d:D} {v:V} {rep:List Addr→Hp→Bool→Prop} (r:RepH X.K ρ h H) (hv:RepV X.K ρ H d v) (p:Post X.K w rep ρ H (jI d h)):∃ k,L2.TruV X.K v H k∧rep ρ H k:=by
 cases d with
 | non=>cases hv;exact ⟨false,rfl,Post.ret (a:=false) p r⟩
 | bl b=>cases hv;exact ⟨b,rfl,Post.ret (a:=b) p r⟩
 | int i=>cases hv;exact ⟨i != 0,rfl,Post.ret (a:=i != 0) p r⟩
 | str x =>
  cases hv
  have p:Post X.K w rep ρ H (if x.length≤16777216 then .ok (!x.isEmpty) h else .bad):=p
  by_cases hc:x.length≤16777216
  ·rw [if_pos hc] at p
   refine ⟨!x.isEmpty,⟨by rw [zK,zJ];exact hc,?_⟩,Post.ret (a:=!x.isEmpty) p r⟩
   rw [zK]
   cases x with
   | nil=>rfl
   | cons c x=>simp;omega
  ·rw [if_neg hc] at p
   exact False.elim p
 | tup xs =>
  obtain ⟨a,vs,rfl,h1,h2⟩:=hv
  refine ⟨!xs.isEmpty,.inr (.inl ⟨vs,h1,?_⟩),Post.ret (a:=!xs.isEmpty) p r⟩
  have:=h2.length
  cases xs <;> cases vs <;> simp_all
 | ref i =>
  have p:Post X.K w rep ρ H (match getL h i with | some xs=>.ok (!xs.isEmpty) h | none=>.bad):=p
  cases e:getL h i with
  | none=>rw [e] at p;exact False.elim p
  | some xs =>
   rw [e] at p
   obtain ⟨a,vs,rfl,h1,h2⟩:=r.seen e hv
   refine ⟨!xs.isEmpty,.inl ⟨vs,h1,?_⟩,Post.ret (a:=!xs.isEmpty) p r⟩
   have:=h2.length
   cases xs <;> cases vs <;> simp_all
theorem qHI {e:Expr} {c:CE} (he:PE X e (tD X.K W (den F c))) (hi:∀ whole,isTrue e X.env whole=(do let v ← whole;standAt e.pos;holding [v] (truthy v))) :
  PT X e (tDT X.K W (qH F (.val c))):=PT.imp (L2.pt_truth he hi) fun σ H Q t=>by
 obtain ⟨ρ,env,h,s,r,p⟩:=t
 rw [qH] at p
 exact ⟨ρ,env,h,s,r,Post.bind p fun ρ1 h1 d H1 e1 r1 q v hv=>TruV.of r1 hv q⟩
noncomputable def vT:Bi→Bool
 | .eq | .ne | .lt | .le | .gt | .ge | .isin | .notin=>true
 | _=>false
theorem qGa {k:Nat} {y:Ky} {h h':AH} {r:D} (q:kB k y h=.ok r h'):∃ b,r=.bl b:=by
 unfold kB at q
 split at q
 ·cases q;exact ⟨_,rfl⟩
 ·cases q
theorem qGZ {k:Nat} {y:Ky} {h h':AH} {r:D} (q:kA k y h=.ok r h'):∃ b,r=.bl b:=by
 unfold kA at q
 split at q
 ·cases q;exact ⟨_,rfl⟩
 ·cases q
theorem rF {o:Bi} {d e r:D} {h h':AH} (hc:vT o=true) (q:biD o d e h=.ok r h'):∃ k,r=.bl k:=by
  cases o with
  | eq =>
    have q:(match qK h d e with | some b=>R.ok (D.bl b) h | none=>.bad)=.ok r h':=q
    split at q <;> cases q
    exact ⟨_,rfl⟩
  | ne =>
    have q:(match qK h d e with | some b=>R.ok (D.bl (!b)) h | none=>.bad)=.ok r h':=q
    split at q <;> cases q
    exact ⟨_,rfl⟩
  | lt=>cases d <;> first | cases q | (cases e <;> first | (cases q;exact ⟨_,rfl⟩) | cases q)
  | le=>cases d <;> first | cases q | (cases e <;> first | (cases q;exact ⟨_,rfl⟩) | cases q)
  | gt=>cases d <;> first | cases q | (cases e <;> first | (cases q;exact ⟨_,rfl⟩) | cases q)
  | ge=>cases d <;> first | cases q | (cases e <;> first | (cases q;exact ⟨_,rfl⟩) | cases q)
  | isin =>
    cases d <;> first | cases q | cases e <;> first
      | (rename_i x y
         have q:(match uV x y with | some b=>R.ok (D.bl b) h | none=>.bad)=.ok r h':=q
         split at q <;> cases q
         exact ⟨_,rfl⟩)
      | (rename_i x y
         have q:(match (getL h y).bind zN with | some xs=>R.ok (D.bl (xs.contains x)) h | none=>kB y (.int x) h)=.ok r h':=q
         split at q
         · cases q;exact ⟨_,rfl⟩
         · exact qGa q)
      | (rename_i x y
         have q:(match qQ y with | some ys=>R.ok (D.bl (ys.contains x)) h | none=>.bad)=.ok r h':=q
         split at q <;> cases q
         exact ⟨_,rfl⟩)
      | (rename_i x y
         have q:(match (getL h y).bind (jO fun z=>qK h z (.tup x)) with | some b=>R.ok (D.bl b) h | none=>.bad)=.ok r h':=q
         split at q <;> cases q
         exact ⟨_,rfl⟩)
      | cases q
  | notin =>
    cases d <;> first | cases q | cases e <;> first
      | (rename_i x y
         have q:(match uV x y with | some b=>R.ok (D.bl (!b)) h | none=>.bad)=.ok r h':=q
         split at q <;> cases q
         exact ⟨_,rfl⟩)
      | (rename_i x y
         have q:(match (getL h y).bind zN with | some xs=>R.ok (D.bl (!xs.contains x)) h | none=>kA y (.int x) h)=.ok r h':=q
         split at q
         · cases q;exact ⟨_,rfl⟩
         · exact qGZ q)
      | cases q
  | _=>cases hc
theorem Post.cmp {o:Bi} {d e:D} {K:PySem.W.Frag} {w:W1} {ρ:List Addr} {H:Hp} {h:AH} {Q:Bool→Hp→Prop} (hc:vT o=true) (p:Post K w (fun _ H' b=>Q b H') ρ H (M.bind (biD o d e) jI h)) :
  PostV K w (fun x H'=>∃ k,x=.bl k∧Q k H') ρ H (biD o d e h):=by
 unfold M.bind at p
 cases q:biD o d e h with
 | ok r h' =>
  rw [q] at p
  obtain ⟨k,rfl⟩:=rF hc q
  exact fun ρ' H' e' r' v hv=>⟨k,hv,p ρ' H' e' r'⟩
 | exc c h'=>rw [q] at p;exact p
 | bad=>rw [q] at p;exact p
theorem qH9 {a b:Expr} {op:CmpOp} {o:Bi} {ca cb:CE} {pos:Pos} (ho:OpR X (compareOp op) (rB X.K o)) (ha:PE X a (tD X.K W (den F ca))) (hb:PE X b (tD X.K W (den F cb))) (hm:behindInMarks op b=false) :
  PE X (.Compare a [op] [b] pos) (tD X.K W (den F (.bi o ca cb))):=PE.imp (L2.pe_cmpR ho ha hb hm) fun _ _ _ t=>two t
theorem jU {α β γ:Type} (m:M α) (f:α→M β) (g:β→M γ):M.bind (M.bind m f) g=M.bind m fun x=>M.bind (f x) g:=by
 funext h
 unfold M.bind
 cases m h <;> rfl
theorem qHO {a b:Expr} {op:CmpOp} {o:Bi} {ca cb:CE} {pos:Pos} (hc:vT o=true) (ho:OpR X (compareOp op) (rB X.K o)) (ha:PE X a (tD X.K W (den F ca))) (hb:PE X b (tD X.K W (den F cb))) (hm:behindInMarks op b=false) :
  PT X (.Compare a [op] [b] pos) (tDT X.K W (qH F (.val (.bi o ca cb)))):=PT.imp (L2.pt_cmpR ho ha hb hm) fun σ H Q t=>by
 obtain ⟨ρ,env,h,s,r,p⟩:=t
 rw [qH,den,jU] at p
 refine ⟨ρ,env,h,s,r,Post.bind p fun ρ1 h1 d H1 e1 r1 q v hv=>⟨ρ1,env,h1,s.mono e1,r1,?_⟩⟩
 have q:Post X.K (W.at σ) (fun _ H' b=>Q b H') ρ1 H1 (M.bind (M.bind (den F cb env) fun y=>biD o d y) jI h1):=q
 rw [jU] at q
 exact Post.bind q fun ρ2 h2 d2 H2 e2 r2 q2 w hw=>⟨_,ρ2,h2,d,d2,r2,hv.mono e2 _ _,hw,Post.cmp hc q2⟩
theorem rJ {o o':Bi} {ca cb cc:CE} {σ:L2.St} {H:Hp} {Q:VK} (t:tD X.K W (den F (.chain o o' ca cb cc)) σ H Q):L2.tChain (rB X.K o) (rB X.K o') (tD X.K W (den F ca)) (tD X.K W (den F cb)) (tD X.K W (den F cc)) σ H Q:=by
 obtain ⟨ρ,env,h,s,r,p⟩:=t
 rw [den] at p
 refine ⟨ρ,env,h,s,r,Post.bind p fun ρ1 h1 d H1 e1 r1 q v hv=>⟨ρ1,env,h1,s.mono e1,r1,Post.bind q fun ρ2 h2 d2 H2 e2 r2 q2 w hw=>⟨_,ρ2,h2,d,d2,r2,hv.mono e2 _ _,hw,Post.bind q2 fun ρ3 h3 z H3 e3 r3 q3 zv hz=>?_⟩⟩⟩
 cases z with
 | bl k =>
  cases hz
  cases k with
  | true=>exact ⟨true,rfl,L2.iteT ⟨ρ3,env,h3,((s.mono e1).mono e2).mono e3,r3,Post.bind q3 fun ρ4 h4 d4 H4 e4 r4 q4 x hx=>⟨_,ρ4,h4,d2,d4,r4,(hw.mono e3 _ _).mono e4 _ _,hx,q4⟩⟩⟩
  | false=>exact ⟨false,rfl,L2.iteF (Post.ret q3 r3 _ rfl)⟩
 | _=>exact False.elim q3
theorem qIA {a b c:Expr} {op op':CmpOp} {o o':Bi} {ca cb cc:CE} {pos:Pos} (ho:OpR X (compareOp op) (rB X.K o)) (ho':OpR X (compareOp op') (rB X.K o')) (ha:PE X a (tD X.K W (den F ca))) (hb:PE X b (tD X.K W (den F cb))) (hc:PE X c (tD X.K W (den F cc)))
  (hm:lastMarks [op,op'] [b,c]=false):PE X (.Compare a [op,op'] [b,c] pos) (tD X.K W (den F (.chain o o' ca cb cc))):=PE.imp (L2.pe_chain ho ho' ha hb hc hm) fun σ H Q t=>rJ t
theorem wJ {ce:CE} (hb:∀ env h d h',den F ce env h=.ok d h'→∃ k,d=.bl k) {σ:L2.St} {H:Hp} {Q:Bool→Hp→Prop} (t:tDT X.K W (qH F (.val ce)) σ H Q):tD X.K W (den F ce) σ H (fun x H'=>∃ k,x=.bl k∧Q k H'):=by
 obtain ⟨ρ,env,h,s,r,p⟩:=t
 rw [qH] at p
 refine ⟨ρ,env,h,s,r,?_⟩
 unfold M.bind at p
 cases q:den F ce env h with
 | ok d h' =>
  rw [q] at p
  obtain ⟨k,rfl⟩:=hb _ _ _ _ q
  exact fun ρ' H' e' r' v hv=>⟨k,hv,p ρ' H' e' r'⟩
 | exc c h'=>rw [q] at p;exact p
 | bad=>rw [q] at p;exact p
theorem bind_ok {α β:Type} {m:M α} {f:α→M β} {h h':AH} {b:β} (e:M.bind m f h=.ok b h'):∃ a h1,m h=.ok a h1∧f a h1=.ok b h':=by
 unfold M.bind at e
 cases q:m h with
 | ok a h1=>rw [q] at e;exact ⟨a,h1,rfl,e⟩
 | exc _ _=>rw [q] at e;cases e
 | bad=>rw [q] at e;cases e
theorem qIT {o o':Bi} {ca cb cc:CE} (h2:vT o'=true) (env:Env) (h:AH) (d:D) (h':AH) (e:den F (.chain o o' ca cb cc) env h=.ok d h'):∃ k,d=.bl k:=by
 rw [den] at e
 obtain ⟨x,g1,_,e⟩:=bind_ok e
 obtain ⟨y,g2,_,e⟩:=bind_ok e
 obtain ⟨z,g3,_,e⟩:=bind_ok e
 cases z with
 | bl k =>
  cases k with
  | true =>
   obtain ⟨w,g4,_,e⟩:=bind_ok e
   exact rF h2 e
  | false=>cases e;exact ⟨_,rfl⟩
 | _=>cases e
theorem qHP {a b c:Expr} {op op':CmpOp} {o o':Bi} {ca cb cc:CE} {pos:Pos} (h2:vT o'=true) (ho:OpR X (compareOp op) (rB X.K o)) (ho':OpR X (compareOp op') (rB X.K o')) (ha:PE X a (tD X.K W (den F ca))) (hb:PE X b (tD X.K W (den F cb))) (hc:PE X c (tD X.K W (den F cc)))
  (hm:lastMarks [op,op'] [b,c]=false):PT X (.Compare a [op,op'] [b,c] pos) (tDT X.K W (qH F (.val (.chain o o' ca cb cc)))):=PT.imp (L2.pt_chain ho ho' ha hb hc hm) fun σ H Q t=>rJ (wJ (qIT h2) t)
theorem qHt {a:Expr} {ca:CE} {pos:Pos} (ha:PE X a (tD X.K W (den F ca))):PE X (.UnaryOp .Not a pos) (tD X.K W (den F (.not ca))):=by
 intro pins s σ H Q I t
 refine UnaryOp_ (L2.thn (ha pins s σ H (fun x H1=>∃ k,L2.TruV X.K x H1 k∧Q (.bl (!k)) H1) I ?_) fun v s1 ⟨x,H1,I1,r1,k,hk,q1⟩=>?_)
 ·obtain ⟨ρ,env,h,s',r,p⟩:=t
  rw [den] at p
  refine ⟨ρ,env,h,s',r,Post.bind (rep':=fun ρ' H' d=>∀ v,RepV X.K ρ' H' d v→∃ k,L2.TruV X.K v H' k∧Q (.bl (!k)) H') (by rw [jU] at p;exact p) fun ρ1 h1 d H1 e1 r1 q v hv=>?_⟩
  exact TruV.of (rep:=fun ρ' H' k=>Q (.bl (!k)) H') r1 hv (Post.bind q fun ρ2 h2 k H2 e2 r2 q2=>Post.ret q2 r2 _ rfl)
 ·exact not_of (L2.thn (L2.tru_ok pins s1 σ H1 x v (fun k H'=>Q (.bl (!k)) H') I1 r1 ⟨k,hk,q1⟩) fun c s2 ⟨H2,I2,q2⟩=>⟨.bl (!c),H2,I2,rfl,q2⟩)
theorem qHn {es:List Expr} {cl:CL} {k:Nat} {pos:Pos} (h:PA X es (tDL X.K W (qN F cl))):PE X (.Tuple es k pos) (tD X.K W (den F (.tup cl))):=PE.imp (L2.pe_tup h) fun σ H Q t=>by
 obtain ⟨ρ,env,h,s,r,p⟩:=t
 rw [den] at p
 refine ⟨ρ,env,h,s,r,Post.bind p fun ρ1 h1 ds H1 e1 r1 q vs hvs=>?_⟩
 obtain ⟨hc,q⟩:=Post.when q
 exact ⟨by rw [hvs.length,zJ];exact hc,PostV.newT q r1 hvs⟩
theorem qHz {es:List Expr} {cl:CL} {pos:Pos} (h:PA X es (tDL X.K W (qN F cl))):PE X (.List es pos) (tD X.K W (den F (.lst cl))):=PE.imp (L2.pe_lst h) fun σ H Q t=>by
 obtain ⟨ρ,env,h,s,r,p⟩:=t
 rw [den] at p
 exact ⟨ρ,env,h,s,r,Post.bind p fun ρ1 h1 ds H1 e1 r1 q vs hvs=>PostV.newL q r1 hvs⟩
noncomputable def spD (K:PySem.W.Frag) (m:List D→M D):L2.Sp:=fun vs H Q E=>∃ ρ h ds,RepH K ρ h H∧RepL K ρ H ds vs∧PostV K (fun c H'=>∀ e,E e (some c) H') Q ρ H (m ds h)
theorem cS {a:Expr} {ca:CE} {o:Un} {e:Expr} {r:List V→Hp→VK→Prop} (he:PE X e (L2.tCB r (L2.tCons (tD X.K W (den F ca)) L2.tNil))) (hr:∀ x H Q,rU X.K o x H Q→r [x] H Q):PE X e (tD X.K W (den F (.un o ca))):=PE.imp he fun σ H Q t=>by
 obtain ⟨ρ,env,h,s,r',p⟩:=one t
 exact ⟨ρ,env,h,s,r',Post.imp p fun ρ' H' d q v hv=>hr v H' Q (q v hv)⟩
theorem qIB {ca cb:CE} {o:Bi} {e:Expr} {r:List V→Hp→VK→Prop} (he:PE X e (L2.tCB r (L2.tCons (tD X.K W (den F ca)) (L2.tCons (tD X.K W (den F cb)) L2.tNil)))) (hr:∀ x y H Q,rB X.K o x y H Q→r [x,y] H Q):PE X e (tD X.K W (den F (.bi o ca cb))):=PE.imp he fun σ H Q t=>by
 obtain ⟨ρ,env,h,s,r',p⟩:=two t
 refine ⟨ρ,env,h,s,r',Post.imp p fun ρ' H' d q v hv=>?_⟩
 obtain ⟨ρ1,env1,h1,s1,r1,p1⟩:=q v hv
 exact ⟨ρ1,env1,h1,s1,r1,Post.imp p1 fun ρ2 H2 d2 q2 w hw=>hr v w H2 Q (q2 w hw)⟩
end
end Fy
set_option Elab.async false
set_option linter.all false
set_option maxRecDepth 100000
set_option maxHeartbeats 4000000
namespace Fy
open PySem PySem.Spec PyProof.Rows
open L2 (V Hp HO VK TE TT TA TS TI Cx Inv RelV Vals SqL SqT Rd upd qF qD PE PT PA PS PSs EP OpR CallR IxR MtR SlR PO TO)
theorem kyV_inj {a b:Ky}:kyV a=kyV b↔a=b:=by
 constructor
 ·intro h
  cases a with
  | int i=>cases b with
   | int j=>cases h;rfl
   | str y=>cases h
  | str x=>cases b with
   | int j=>cases h
   | str y =>
    have h:(Sum.inr (⟨x.toArray⟩:Str):L2.Key)=Sum.inr ⟨y.toArray⟩:=h
    have h2:=congrArg Str.cps (Sum.inr.inj h)
    have h3:x=y:=by simpa using congrArg Array.toList h2
    rw [h3]
 ·rintro rfl;rfl
section
variable {K:PySem.W.Frag} {ρ:List Addr} {H:Hp}
theorem RepK.val (k:Ky):∀ {kvs:List (Ky × D)} {vs:List (L2.Key × V)},RepK K ρ H kvs vs→(∃ d v,qG kvs k=some d∧L2.valV vs (kyV k)=some v∧RepV K ρ H d v)∨(qG kvs k=none∧L2.valV vs (kyV k)=none)
 | [],_,h=>by cases h;exact .inr ⟨rfl,rfl⟩
 | x::kvs,_,⟨v,r,rfl,h1,h2⟩=>by
  by_cases e:x.1=k
  ·refine .inl ⟨x.2,v,?_,L2.valV_pos (kyV_inj.mpr e),h1⟩
   unfold qG
   rw [List.find?_cons_of_pos (by simpa using e)]
   rfl
  ·have e2:qG (x::kvs) k=qG kvs k:=by unfold qG;rw [List.find?_cons_of_neg (by simpa using e)]
   rw [e2,L2.valV_neg (fun z=>e (kyV_inj.mp z))]
   exact RepK.val k h2
theorem RepK.any (k:Ky):∀ {kvs:List (Ky × D)} {vs:List (L2.Key × V)},RepK K ρ H kvs vs→(kvs.any fun kv=>decide (kv.1=k))=(vs.any fun kv=>decide (kv.1=kyV k))
 | [],_,h=>by cases h;rfl
 | x::kvs,_,⟨v,r,rfl,h1,h2⟩=>by
  rw [List.any_cons,List.any_cons,RepK.any k h2]
  congr 1
  exact decide_eq_decide.mpr kyV_inj.symm
theorem RepK.length:∀ {kvs:List (Ky × D)} {vs:List (L2.Key × V)},RepK K ρ H kvs vs→kvs.length=vs.length
 | [],_,h=>by cases h;rfl
 | x::kvs,_,⟨v,r,rfl,h1,h2⟩=>by rw [List.length_cons,List.length_cons,RepK.length h2]
theorem RepK.repl (k:Ky) {d:D} {v:V} (hv:RepV K ρ H d v):∀ {kvs:List (Ky × D)} {vs:List (L2.Key × V)},RepK K ρ H kvs vs→RepK K ρ H (kvs.map fun kv=>if kv.1=k then (kv.1,d) else kv) (vs.map fun kv=>if kv.1=kyV k then (kv.1,v) else kv)
 | [],_,h=>by cases h;rfl
 | x::kvs,_,⟨u,r,rfl,h1,h2⟩=>by
  rw [List.map_cons,List.map_cons]
  by_cases e:x.1=k
  ·rw [if_pos e,if_pos (kyV_inj.mpr e)]
   exact ⟨v,_,rfl,hv,RepK.repl k hv h2⟩
  ·rw [if_neg e,if_neg (fun z=>e (kyV_inj.mp z))]
   exact ⟨u,_,rfl,h1,RepK.repl k hv h2⟩
theorem RepK.snoc (k:Ky) {d:D} {v:V} (hv:RepV K ρ H d v):∀ {kvs:List (Ky × D)} {vs:List (L2.Key × V)},RepK K ρ H kvs vs→RepK K ρ H (kvs++[(k,d)]) (vs++[(kyV k,v)])
 | [],_,h=>by cases h;exact ⟨v,[],rfl,hv,rfl⟩
 | x::kvs,_,⟨u,r,rfl,h1,h2⟩=>⟨u,r++[(kyV k,v)],rfl,h1,RepK.snoc k hv h2⟩
theorem RepK.put (k:Ky) {d:D} {v:V} (hv:RepV K ρ H d v) {kvs:List (Ky × D)} {vs:List (L2.Key × V)} (h:RepK K ρ H kvs vs):RepK K ρ H (zU kvs k d) (L2.putK vs (kyV k) v):=by
 unfold zU L2.putK
 rw [h.any k]
 split
 ·exact h.repl k hv
 ·exact h.snoc k hv
theorem RepK.merge:∀ {more:List (Ky × D)} {ms:List (L2.Key × V)} {kvs:List (Ky × D)} {vs:List (L2.Key × V)},RepK K ρ H more ms→RepK K ρ H kvs vs→RepK K ρ H (uM kvs more) (L2.mergeK vs ms)
 | [],_,_,_,h,h0=>by cases h;exact h0
 | x::more,_,kvs,vs,⟨v,r,rfl,h1,h2⟩,h0=>RepK.merge (more:=more) (ms:=r) h2 (h0.put x.1 h1)
theorem RepH.dict {h:AH} {i:Nat} {kvs:List (Ky × D)} (r:RepH K ρ h H) (e:h[i]?=some (.dct kvs)) {v:V} (hv:RepV K ρ H (.ref i) v):∃ a vs,v=.ref a∧ρ[i]?=some a∧H a=some (.dK vs)∧RepK K ρ H kvs vs:=by
 obtain ⟨a,h1,h2⟩:=hv
 obtain ⟨b,h3,vs,h4,h5⟩:=r.obj i _ e
 rw [h1] at h3
 cases h3
 exact ⟨a,vs,h2,h1,h4,h5⟩
theorem RepH.setDict {h:AH} (r:RepH K ρ h H) {k:Nat} {p:Addr} {xs ys:List (Ky × D)} {us vs:List (L2.Key × V)} (hk:h[k]?=some (.dct xs)) (hr:ρ[k]?=some p) (hp:H p=some (.dK us)) (hx:RepK K ρ H ys vs) :
  RepH K ρ (h.set k (.dct ys)) (upd H p (.dK vs)):=r.setO hk rfl rfl hr hp rfl ⟨vs,qF,RepK.mono (Step.turn hp rfl (List.mem_of_getElem? hr)) _ _ hx⟩
end
section
variable {X:Cx} {pins:List (Addr × Obj)} {σ:L2.St} {H:Hp} {s:Shared} {a:Addr} {vs:List (L2.Key × V)} {k:L2.Key} {v:V} {u:Value} {A:Around} {E:Value→Shared→Prop}
theorem qHc {Q:Value→Shared→Prop} (I:Inv X pins σ H s) (e:Rd H a (.dK vs)) (l:L2.valV vs k=some v) (ry:RelV (L2.kV k) u) (h:∀ w' s',Inv X pins σ H s'→RelV v w'→Q w' s'):wpAny (model X.prog X.w) A (getItem (.ref a) u) Q E s:=by
 obtain ⟨z,hd,ws,rel,dd⟩:=L2.dk_rd I.hok e
 obtain ⟨w',hw,rw'⟩:=L2.RelO.some_of (v:=v) (o:=valueAt ws k) (by rw [← l];exact rel.val k)
 exact wpAny_getItem_of (L2.kV_is ry) dd.mapOf hw (h w' _ (I.tok _) rw')
theorem qHb {Q:Value→Shared→Prop} (I:Inv X pins σ H s) (e:H a=some (.dK vs)) (ry:RelV (L2.kV k) u) (h:∀ s',Inv X pins σ H s'→Q (.bool (L2.valV vs k).isSome) s'):wpAny (model X.prog X.w) A (compareOp .In u (.ref a)) Q E s:=by
 obtain ⟨z,hd,ws,rel,dd⟩:=L2.dk_rd I.hok (.inl e)
 refine wpAny_in_of (L2.kV_is ry) hd dd.mapOf ?_
 rw [← (rel.val k).isSome_eq]
 exact h _ (I.tok _)
theorem qHZ {Q:Value→Shared→Prop} (I:Inv X pins σ H s) (e:H a=some (.dK vs)) (ry:RelV (L2.kV k) u) (h:∀ s',Inv X pins σ H s'→Q (.bool (!(L2.valV vs k).isSome)) s'):wpAny (model X.prog X.w) A (compareOp .NotIn u (.ref a)) Q E s:=by
 obtain ⟨z,hd,ws,rel,dd⟩:=L2.dk_rd I.hok (.inl e)
 refine wpAny_notIn_of (L2.kV_is ry) hd dd.mapOf ?_
 rw [← (rel.val k).isSome_eq]
 exact h _ (I.tok _)
theorem qHa {Q:Value→Shared→Prop} (I:Inv X pins σ H s) (e:H a=some (.dK vs)) (h:∀ t s',Inv X pins σ H s'→Q (.int vs.length t) s'):wpAny (model X.prog X.w) A (call (.builtin "len") [.ref a]) Q E s:=by
 obtain ⟨z,hd,ws,rel,dd⟩:=L2.dk_rd I.hok (.inl e)
 refine call_len_dict hd dd (by rw [← rel.length];rw [sizeLine_eq] at z;omega) ?_
 rw [← rel.length]
 exact h _ _ (I.tok _)
theorem qHY {r:Value} {Q:Unit→Shared→Prop} (I:Inv X pins σ H s) (e:H a=some (.dK vs)) (hl0:vs.length<sizeLine) (ry:RelV (L2.kV k) u) (rv:RelV v r) (h:∀ s',Inv X pins σ (upd H a (.dK (L2.putK vs k v))) s'→Q () s'):wpAny (model X.prog X.w) A (setItem (.ref a) u r) Q E s:=by
 obtain ⟨z,hd,ws,rel,dd⟩:=L2.dk_of I.hok e
 have hz:ws.length≤sizeLine:=by rw [← rel.length];exact z
 have hl:(L2.putK vs k v).length≤sizeLine:=by have:=L2.length_putK vs k v;omega
 refine wpAny_setItem_pairs (hsz:=hz) (L2.kV_is ry) dd fun h' dd' hs=>h _ ?_
 have he:∃ q,h'.get? a=some q:=let ⟨q,_,_,hq,_⟩:=dd';⟨q,hq⟩
 exact L2.d_write I (by rw [e];exact True.intro) hs he (L2.dk_new hl hd (rel.put k rv) dd')
theorem qHW (I:Inv X pins σ H s) (e:Rd H a (.dK vs)):s.TypeIs (.ref a) "dict":=by
 obtain ⟨_,_,_,_,dd⟩:=L2.dk_rd I.hok e
 exact dd.typeIs
theorem qHX {value slice:Expr} {Q:Value→Shared→Prop} (hT:s.TypeIs (.ref a) "dict") (hs:subscripted slice false (.ref a) u=operate [.ref a,u] (getItem (.ref a) u)) (h₂:wpAny (model X.prog X.w) A (getItem (.ref a) u) Q E s):wpAny (model X.prog X.w) A (subscriptTail value slice (.ref a) u) Q E s:=by
 unfold subscriptTail
 refine wpAny_bind ?_
 rw [getitemInPython_of_ne hT.not_modules]
 refine wpAny_bind (wpAny_specialOf hT PySem.F.slot_dict_getitem.lookup ?_)
 have fin:wpAny (model X.prog X.w) A (subscripted slice false (.ref a) u) (fun r s₃=>wpAny (model X.prog X.w) A (letTemporaryGo value (.ref a) r >>= fun _=>pure r) Q E s₃) E s:=by
  rw [hs]
  exact wpAny_operating (wpAny_mono h₂ (fun r s₃ h₃=>wpAny_bind (wpAny_letTemporaryGo (wpAny_pure h₃))) fun _ _ x=>x)
 first
  | exact wpAny_pure (wpAny_bind fin)
  | exact wpAny_bind (wpAny_pure (wpAny_bind fin))
  | exact wpAny_bind fin
end
section
variable {X:Cx} {F:Nat→List D→M D} {W:WX}
theorem uQ {K:PySem.W.Frag} {ρ:List Addr} {H:Hp} {k:Ky} {x:V} (h:RepV K ρ H (kyD k) x):x=L2.kV (kyV k):=by
 cases k with
 | int i=>cases h;rfl
 | str y=>cases h;rfl
theorem nI {value slice:Expr} {pins:List (Addr × Obj)} {s:Shared} {σ:L2.St} {H:Hp} {x y:V} {v u:Value} {Q:VK} {w:W1} {ρ:List Addr} {h:AH} {k:Nat} {ky:Ky} (I:Inv X pins σ H s) (r:RepH X.K ρ h H) (hd:RepV X.K ρ H (.ref k) x) (he:RepV X.K ρ H (kyD ky) y) (rx:RelV x v) (ry:RelV y u)
  (p:PostV X.K w Q ρ H (ixK k ky h)) (hs:subscripted slice false v u=operate [v,u] (getItem v u)):wpAny (model X.prog X.w) X.A (subscriptTail value slice v u) (EP X pins σ Q) X.xe s:=by
 have go:∀ {kvs:List (Ky × D)} {a:Addr} {vs:List (L2.Key × V)},x=.ref a→Rd H a (.dK vs)→RepK X.K ρ H kvs vs→PostV X.K w Q ρ H (match qG kvs ky with | some d=>.ok d h | none=>.bad)→wpAny (model X.prog X.w) X.A (subscriptTail value slice v u) (EP X pins σ Q) X.xe s:=fun {kvs a vs} ea hH hk p=>by
  subst ea
  cases rx
  have hy:=uQ he
  subst hy
  rcases hk.val ky with ⟨d,v',e1,e2,hv⟩ | ⟨e1,_⟩
  ·rw [e1] at p
   exact qHX (qHW I hH) hs (qHc I hH e2 ry fun w' s' I' rw'=>⟨v',H,I',rw',PostV.now p r hv⟩)
  ·rw [e1] at p
   exact False.elim p
 have p:PostV X.K w Q ρ H (match h[k]? with | some (.dct kvs)=>(match qG kvs ky with | some d=>.ok d h | none=>.bad) | some (.rod kvs)=>(match qG kvs ky with | some d=>.ok d h | none=>.bad) | _=>.bad):=p
 obtain ⟨a,h1,h2⟩:=hd
 split at p
 ·rename_i kvs q
  obtain ⟨b,h3,vs,h4,h5⟩:=r.obj k _ q
  rw [h1] at h3
  cases h3
  exact go h2 (.inl h4) h5 p
 ·rename_i kvs q
  obtain ⟨b,h3,ob,vs,h4,h5⟩:=r.obj k _ q
  rw [h1] at h3
  cases h3
  exact go h2 (.inr ⟨ob,h4⟩) h5 p
 ·exact False.elim p
theorem qF8 {pins:List (Addr × Obj)} {s:Shared} {σ:L2.St} {H:Hp} {x y:V} {v u:Value} {Q:VK} {w:W1} {ρ:List Addr} {h:AH} {k:Nat} {ky:Ky} (I:Inv X pins σ H s) (r:RepH X.K ρ h H) (hd:RepV X.K ρ H (kyD ky) x) (he:RepV X.K ρ H (.ref k) y) (rx:RelV x v) (ry:RelV y u)
  (p:PostV X.K w Q ρ H (kB k ky h)):wpAny (model X.prog X.w) X.A (compareOp .In v u) (EP X pins σ Q) X.xe s:=by
 have p:PostV X.K w Q ρ H (match h[k]? with | some (.dct kvs)=>.ok (.bl (qG kvs ky).isSome) h | _=>.bad):=p
 split at p
 ·rename_i kvs q
  obtain ⟨a,vs,rfl,ha,hH,hk⟩:=r.dict q he
  cases ry
  have hy:=uQ hd
  subst hy
  refine qHb I hH rx fun s' I'=>⟨.bl (L2.valV vs (kyV ky)).isSome,H,I',rfl,?_⟩
  have e:(L2.valV vs (kyV ky)).isSome=(qG kvs ky).isSome:=by
   rcases hk.val ky with ⟨d,v',e1,e2,hv⟩ | ⟨e1,e2⟩
   ·rw [e1,e2];rfl
   ·rw [e1,e2];rfl
  rw [e]
  exact PostV.now p r rfl
 ·exact False.elim p
theorem qEF {pins:List (Addr × Obj)} {s:Shared} {σ:L2.St} {H:Hp} {x y:V} {v u:Value} {Q:VK} {w:W1} {ρ:List Addr} {h:AH} {k:Nat} {ky:Ky} (I:Inv X pins σ H s) (r:RepH X.K ρ h H) (hd:RepV X.K ρ H (kyD ky) x) (he:RepV X.K ρ H (.ref k) y) (rx:RelV x v) (ry:RelV y u)
  (p:PostV X.K w Q ρ H (kA k ky h)):wpAny (model X.prog X.w) X.A (compareOp .NotIn v u) (EP X pins σ Q) X.xe s:=by
 have p:PostV X.K w Q ρ H (match h[k]? with | some (.dct kvs)=>.ok (.bl (!(qG kvs ky).isSome)) h | _=>.bad):=p
 split at p
 ·rename_i kvs q
  obtain ⟨a,vs,rfl,ha,hH,hk⟩:=r.dict q he
  cases ry
  have hy:=uQ hd
  subst hy
  refine qHZ I hH rx fun s' I'=>⟨.bl (!(L2.valV vs (kyV ky)).isSome),H,I',rfl,?_⟩
  have e:(L2.valV vs (kyV ky)).isSome=(qG kvs ky).isSome:=by
   rcases hk.val ky with ⟨d,v',e1,e2,hv⟩ | ⟨e1,e2⟩
   ·rw [e1,e2];rfl
   ·rw [e1,e2];rfl
  rw [e]
  exact PostV.now p r rfl
 ·exact False.elim p
theorem qFE {pins:List (Addr × Obj)} {s:Shared} {σ:L2.St} {H:Hp} {y:V} {u:Value} {Q:VK} {w:W1} {ρ:List Addr} {h:AH} {k:Nat} (I:Inv X pins σ H s) (r:RepH X.K ρ h H) (he:RepV X.K ρ H (.ref k) y) (ry:RelV y u)
  (p:PostV X.K w Q ρ H (uP k h)):wpAny (model X.prog X.w) X.A (call (.builtin "len") [u]) (EP X pins σ Q) X.xe s:=by
 have p:PostV X.K w Q ρ H (match h[k]? with | some (.dct kvs)=>.ok (.int kvs.length) h | _=>.bad):=p
 split at p
 ·rename_i kvs q
  obtain ⟨a,vs,rfl,ha,hH,hk⟩:=r.dict q he
  cases ry
  refine qHa I hH fun t s' I'=>⟨.int vs.length,H,I',⟨t,rfl⟩,?_⟩
  rw [← hk.length]
  exact PostV.now p r rfl
 ·exact False.elim p
end
end Fy
set_option Elab.async false
set_option linter.all false
set_option maxRecDepth 100000
set_option maxHeartbeats 4000000
namespace Fy
open PySem PySem.Spec PyProof.Rows
open L2 (V Hp HO VK TE TT TA TS TI Cx Inv RelV Vals SqL SqT Rd upd qF qD PE PT PA PS PSs EP OpR CallR IxR MtR SlR PO TO)
noncomputable def gW:CL→Nat
 | .nil=>0
 | .cons _ l=>gW l+1
section
variable {X:Cx} {F:Nat→List D→M D} {W:WX}
noncomputable def trs (X:Cx) (F:Nat→List D→M D) (W:WX):List Ky→CL→List (TE × TE)
 | k::ks,.cons e l=>(L2.tC (L2.kV (kyV k)),tD X.K W (den F e))::trs X F W ks l
 | _,_=>[]
theorem lK:∀ {ks:List Ky} {es:CL} {σ:L2.St} {H:Hp} {env:Env} {ρ:List Addr} {h:AH} {Q:List (V × V)→Hp→Prop},gW es=ks.length→RepS X.K ρ H env σ→RepH X.K ρ h H →
  Post X.K (W.at σ) (fun ρ' H' ds=>∀ vs,RepL X.K ρ' H' ds vs→Q (((ks.map kyV).zip vs).map fun kv=>(L2.kV kv.1,kv.2)) H') ρ H (qN F es env h)→L2.tPairs (trs X F W ks es) σ H Q
 | [],.nil,σ,H,env,ρ,h,Q,_,s,r,p=>by
  rw [qN] at p
  exact Post.ret p r [] rfl
 | [],.cons _ _,_,_,_,_,_,_,hl,_,_,_=>by cases hl
 | _::_,.nil,_,_,_,_,_,_,hl,_,_,_=>by cases hl
 | k::ks,.cons e l,σ,H,env,ρ,h,Q,hl,s,r,p=>by
  rw [qN] at p
  refine ⟨ρ,env,h,s,r,Post.bind p fun ρ1 h1 d H1 e1 r1 q v hv=>?_⟩
  refine lK (ks:=ks) (es:=l) (Nat.succ.inj hl) (s.mono e1) r1 (Post.bind q fun ρ2 h2 ds H2 e2 r2 q2=>?_)
  intro vs hvs
  exact Post.ret q2 r2 (v::vs) ⟨v,vs,rfl,hv.mono e2 _ _,hvs⟩
theorem RepK.zip {K:PySem.W.Frag} {ρ:List Addr} {H:Hp}:∀ {ks:List Ky} {ds:List D} {vs:List V},RepL K ρ H ds vs→RepK K ρ H (ks.zip ds) ((ks.map kyV).zip vs)
 | [],_,_,_=>by simp [RepK]
 | k::ks,[],_,h=>by cases h;simp [RepK]
 | k::ks,d::ds,_,⟨v,r,rfl,h1,h2⟩=>⟨v,_,rfl,h1,RepK.zip h2⟩
theorem qH8 {keys:List (Option Expr)} {values:List Expr} {ks:List Ky} {es:CL} {pos:Pos} (h:L2.PPs X pos keys values (trs X F W ks es)) (hall:keys.all (·.isSome)=true) (hl:keys.length=values.length) (h15:keys.length≤15) (hk:gW es=ks.length) (h0:keys=[]→ks=[]∧es=.nil∧values=[]) :
  PE X (.Dict keys values pos) (tD X.K W (den F (.disp ks es))):=by
 have main:∀ (σ:L2.St) (H:Hp) (Q:VK),tD X.K W (den F (.disp ks es)) σ H Q→∀ p,H p=none→L2.tPairs (trs X F W ks es) σ (upd H p (.dK [])) fun ps H2=>H2 p=some (.dK [])∧∃ kvs:List (L2.Key × V),ps=kvs.map (fun kv=>(L2.kV kv.1,kv.2))∧kvs.length≤15∧Q (.ref p) (upd H2 p (.dK (L2.mergeK [] kvs))):=by
  intro σ H Q t p hp
  obtain ⟨ρ,env,h,s,r,q⟩:=t
  rw [den] at q
  have st:Step ρ H (ρ++[p]) (upd H p (.dK [])):=Step.new1 hp
  have r1:RepH X.K (ρ++[p]) (h++[.dct []]) (upd H p (.dK [])):=r.newO hp ⟨[],qF,rfl⟩
  have q1:PostV X.K (W.at σ) Q (ρ++[p]) (upd H p (.dK [])) (M.bind (qN F es env) (fun ds=>gL ks ds h.length) (h++[.dct []])):=Post.mono q st
  refine lK hk (s.mono st) r1 (Post.bind q1 fun ρ2 h2 ds H2 e2 r2 q2=>?_)
  intro vs hvs
  have q2:PostV X.K (W.at σ) Q ρ2 H2 (match h2[h.length]? with | some (.dct [])=>(if ks.length=ds.length∧ks.length≤15 then .ok (.ref h.length) (h2.set h.length (.dct (uM [] (ks.zip ds)))) else .bad) | _=>.bad):=q2
  have hpl:(ρ++[p])[h.length]?=some p:=by rw [← r.len,List.getElem?_append_right (Nat.le_refl _)];simp
  have hpl2:ρ2[h.length]?=some p:=jY e2.pre hpl
  split at q2
  ·rename_i z
   obtain ⟨⟨c1,c2⟩,q2⟩:=PostV.ite q2
   obtain ⟨a,us,ea,ha,hH,hu⟩:=r2.dict z (v:=.ref p) ⟨p,hpl2,rfl⟩
   cases ea
   cases hu
   refine ⟨hH,(ks.map kyV).zip vs,rfl,?_,?_⟩
   ·rw [List.length_zip,List.length_map];omega
   ·have stp:Step ρ2 H2 ρ2 (upd H2 p (.dK (L2.mergeK [] ((ks.map kyV).zip vs)))):=Step.turn hH rfl (List.mem_of_getElem? ha)
    exact q2 ρ2 _ stp (r2.setDict z ha hH (RepK.merge (RepK.zip hvs) rfl)) (.ref p) ⟨p,hpl2,rfl⟩
  ·exact False.elim q2
 by_cases z:keys=[]
 ·obtain ⟨rfl,rfl,rfl⟩:=h0 z
  subst z
  refine PE.imp L2.pe_dnewK fun σ H Q t p hp=>?_
  obtain ⟨hH,kvs,e1,_,q⟩:=main σ H Q t p hp
  cases kvs with
  | cons a b=>cases e1
  | nil =>
   have:upd (upd H p (.dK [])) p (.dK (L2.mergeK [] []))=upd H p (.dK []):=L2.upd_upd
   rw [this] at q
   exact q
 ·exact PE.imp (L2.pe_disp h hall hl z h15) fun σ H Q t=>main σ H Q t
end
end Fy
set_option Elab.async false
set_option linter.all false
set_option maxRecDepth 100000
set_option maxHeartbeats 4000000
namespace Fy
open PySem PySem.Spec PyProof.Rows
open L2 (V Hp HO VK TE TT TA TS TI Cx Inv RelV Vals SqL SqT Rd upd qF qD PE PT PA PS PSs EP OpR CallR IxR MtR SlR PO TO PI PG PIE Turn qJ Ends)
noncomputable def Its (z:Str):L2.It:=⟨fun i _=>i<z.cps.size,fun i H x H'=>H'=H∧∃ c,z.cps[i]?=some c∧x=.str ⟨#[c]⟩,fun i _=>i=z.cps.size⟩
theorem eZ {P:Program} {w:World} {K:PySem.W.Frag} {tg:Expr} {z:Str} {t:Tok} {ty:String} (it:Addr)
  (hty:["enumerate","zip","dict_itemiterator","dict_reverseitemiterator","odict_iterator","itertools.zip_longest","itertools.pairwise"].contains ty=false)
  (W:∀ A':Around,A'.handled=none→Walks P w A' it [it] [it] z.cps.size (SignAt z) (fun i h=>h.IsStrIter it ty z t i))
  (W':∀ (A:Around) (i:Nat) (s:Shared) (Q:Value→Shared→Prop) (E:Value→Shared→Prop),s.heap.IsStrIter it ty z t i→Q (.ref it) s→wpAny (model P w) A (pyIter (.ref it)) Q E s) :
  Turn P w K tg (Its z) [it] it (fun i h=>h.IsStrIter it ty z t i) where
 mem:=by simp
 obj:=fun i h st b hb=>by
  have e:b=it:=by simpa using hb
  subst e
  obtain ⟨o,e,c,d⟩:=st
  exact ⟨o,e,fun v z=>by rw [d] at z;cases z⟩
 keep:=fun i h h' st k=>by
  obtain ⟨o,e,c,d⟩:=st
  exact ⟨o,k it (by simp) o e,c,d⟩
 item:=by
  intro X hP hw hK hc i pins s σ H E I hf st hg
  subst hP hw hK
  obtain ⟨f0,f1,f2,f3,f4,f5⟩:=hf it (by simp)
  refine (W X.A (I.ok.hd hc)).item i s _ E hg st fun v h' tk hv st' kp=>?_
  obtain ⟨c,u,hcz,rfl⟩:=hv
  have I1:Inv X pins σ H { s with heap:=h',toks:=tk }:=I.turned (t':=tk) (fun b o hb e=>kp b o (by simpa using hb) e) f0 f1 f3 f4 f5
  obtain ⟨o,e,cc,d⟩:=id st'
  exact ⟨_,rfl,L2.go_of (s:={ s with heap:=h',toks:=tk }) e cc d hty ⟨.str ⟨#[c]⟩,H,I1,⟨u,rfl⟩,⟨rfl,c,hcz,rfl⟩,st',fun b hb=>(hf b hb).1⟩⟩
 done:=by
  intro X hP hw hK hc i pins s σ H E I hf st hg
  subst hP hw hK
  obtain ⟨f0,f1,f2,f3,f4,f5⟩:=hf it (by simp)
  have hg:i=z.cps.size:=hg
  subst hg
  exact (W X.A (I.ok.hd hc)).done s _ E st fun h' tk kp=>⟨rfl,I.turned (t':=tk) (fun b o hb e=>kp b o (by simpa using hb) e) f0 f1 f3 f4 f5⟩
 self:=fun A i s Q E st h=>W' A i s Q E st h
section
variable {X:Cx} {tg:Expr}
noncomputable def qGQ (K:PySem.W.Frag) (tl:TE):TI:=fun σ H R=>tl σ H fun x H1 =>
 (∃ a,x=.ref a∧(∃ xs,SqL K H1 a xs)∧R (L2.Itl K a) H1)∨(∃ a,x=.ref a∧(∃ xs,SqT K H1 a xs)∧R (L2.Itt K a) H1)∨∃ z,x=.str z∧R (Its z) H1
theorem qDF {l:Expr} {tl:TE} (hl:PE X l tl):PI X tg l (qGQ X.K tl):=by
 intro pins s σ H R I h
 refine L2.thn (hl pins s σ H _ I h) fun v s1 ⟨x,H1,I1,r1,q1⟩=>?_
 have one:∀ {h':Heap} {t':Nat} {b:Addr},b∈[s1.heap.objs.size]→qJ X pins H1 b:=fun hb=>by
  have e:=List.mem_singleton.mp hb
  subst e
  exact I1.fpOk (Nat.le_refl _) (I1.hok.fresh (Nat.le_refl _))
 rcases q1 with ⟨a,e,⟨xs,hq⟩,q⟩ | ⟨a,e,⟨xs,hq⟩,q⟩ | ⟨z,e,q⟩
 ·subst e
  cases r1
  obtain ⟨its,rv,p,hz⟩:=I1.list hq
  refine wpAny_pyIter_list p.isList ?_
  exact ⟨s1.heap.objs.size,[s1.heap.objs.size],_,_,H1,rfl,I1.kept (t':=s1.toks) fun b o e=>Heap.get?_push_of_some _ e,L2.turn_list a _,⟨_,Heap.get?_push_size _ rfl,rfl,rfl⟩,fun b hb=>one (h':=s1.heap) (t':=0) hb,q⟩
 ·subst e
  cases r1
  obtain ⟨its,rv,p,hz⟩:=I1.tuple hq
  refine wpAny_pyIter_tuple (show s1.heap.IsTuple a its.toArray from p) ?_
  exact ⟨s1.heap.objs.size,[s1.heap.objs.size],_,_,H1,rfl,I1.kept (t':=s1.toks) fun b o e=>Heap.get?_push_of_some _ e,L2.turn_tuple a _,⟨_,Heap.get?_push_size _ rfl,rfl,rfl⟩,fun b hb=>one (h':=s1.heap) (t':=0) hb,q⟩
 ·subst e
  obtain ⟨t,rfl⟩:=r1
  cases ha:z.cps.all (·<128)
  ·refine wpAny_pyIter_wide ha ?_
   exact ⟨s1.heap.objs.size,[s1.heap.objs.size],_,_,H1,rfl,I1.kept (t':=s1.toks) fun b o e=>Heap.get?_push_of_some _ e,eZ (t:=t) _ (by decide) (fun A' hA=>Walks.strWide hA _ z t) (fun A i s Q E st h=>wpAny_pyIter_striter_wide st h),⟨_,Heap.get?_push_size _ rfl,rfl,rfl⟩,fun b hb=>one (h':=s1.heap) (t':=0) hb,q⟩
  ·refine wpAny_pyIter_ascii ha ?_
   exact ⟨s1.heap.objs.size,[s1.heap.objs.size],_,_,H1,rfl,I1.kept (t':=s1.toks) fun b o e=>Heap.get?_push_of_some _ e,eZ (t:=t) _ (by decide) (fun A' hA=>Walks.strAscii hA _ z t) (fun A i s Q E st h=>wpAny_pyIter_striter_ascii st h),⟨_,Heap.get?_push_size _ rfl,rfl,rfl⟩,fun b hb=>one (h':=s1.heap) (t':=0) hb,q⟩
end
noncomputable def PostS (K:PySem.W.Frag) (W:WX) (D:Ends) (ρ:List Addr) (H:Hp):SR→Prop
 | .nx e h=>∀ ρ' H' st,Step ρ H ρ' H'→RepH K ρ' h H'→RepS K ρ' H' e st→D.nx st H'
 | .rt d h=>∀ ρ' H' v,Step ρ H ρ' H'→RepH K ρ' h H'→RepV K ρ' H' d v→D.rt v H'
 | .bk e h=>∀ ρ' H' st,Step ρ H ρ' H'→RepH K ρ' h H'→RepS K ρ' H' e st→D.bk st H'
 | .ct e h=>∀ ρ' H' st,Step ρ H ρ' H'→RepH K ρ' h H'→RepS K ρ' H' e st→D.ct st H'
 | .exc c e h=>∀ ρ' H' st,Step ρ H ρ' H'→RepH K ρ' h H'→RepS K ρ' H' e st→W c st H'
 | .bad=>False
theorem PostS.mono {K:PySem.W.Frag} {W:WX} {D:Ends} {ρ ρ1:List Addr} {H H1:Hp} {r:SR} (p:PostS K W D ρ H r) (e:Step ρ H ρ1 H1):PostS K W D ρ1 H1 r:=by
 cases r with
 | nx _ _=>exact fun ρ' H' st e'=>p ρ' H' st (e.trans e')
 | rt _ _=>exact fun ρ' H' st e'=>p ρ' H' st (e.trans e')
 | bk _ _=>exact fun ρ' H' st e'=>p ρ' H' st (e.trans e')
 | ct _ _=>exact fun ρ' H' st e'=>p ρ' H' st (e.trans e')
 | exc _ _ _=>exact fun ρ' H' st e'=>p ρ' H' st (e.trans e')
 | bad=>exact p
noncomputable abbrev WF:WX:=fun _ _ _=>False
noncomputable def tDS (K:PySem.W.Frag) (W:WX) (m:Env→AH→SR):TS:=fun D σ H=>∃ ρ env h,RepS K ρ H env σ∧RepH K ρ h H∧PostS K W D ρ H (m env h)
theorem PostS.ofR {α:Type} {K:PySem.W.Frag} {W:WX} {D:Ends} {rep:List Addr→Hp→α→Prop} {ρ:List Addr} {H:Hp} {env:Env} {σ:L2.St} {r:R α} {f:α→AH→SR} (s:RepS K ρ H env σ) (p:PostS K W D ρ H (SR.ofR env r f))
  (k:∀ ρ' h' a H',Step ρ H ρ' H'→RepH K ρ' h' H'→PostS K W D ρ' H' (f a h')→rep ρ' H' a):Post K (W.at σ) rep ρ H r:=by
 cases r with
 | ok a h=>exact fun ρ' H' e r'=>k ρ' h a H' e r' (PostS.mono p e)
 | exc c h=>exact fun ρ' H' e r'=>p ρ' H' σ e r' (s.mono e)
 | bad=>exact p
section
variable {X:Cx} {F:Nat→List D→M D} {B:Nat} {W:WX}
theorem qCd:PSs X [] (tDS X.K W (qA F B .skip)):=PSs.imp L2.pss_nil fun D σ H t=>by
 obtain ⟨ρ,env,h,s,r,p⟩:=t
 exact p ρ H σ (Step.refl ρ H) r s
theorem qCi {st:Stmt} {qE:List Stmt} {a b:CS} (h1:PS X st (tDS X.K W (qA F B a))) (h2:PSs X qE (tDS X.K W (qA F B b))):PSs X (st::qE) (tDS X.K W (qA F B (.seq a b))):=PSs.imp (L2.pss_cons h1 h2) fun D σ H t=>by
 obtain ⟨ρ,env,h,s,r,p⟩:=t
 refine ⟨ρ,env,h,s,r,?_⟩
 rw [qA] at p
 cases e:qA F B a env h with
 | nx e1 g1 =>
  rw [e] at p
  exact fun ρ' H' st' e' r' s'=>⟨ρ',e1,g1,s',r',PostS.mono p e'⟩
 | rt _ _=>rw [e] at p;exact p
 | bk _ _=>rw [e] at p;exact p
 | ct _ _=>rw [e] at p;exact p
 | exc _ _ _=>rw [e] at p;exact p
 | bad=>rw [e] at p;exact p
theorem iD {i:Nat} {x:Str} {e:Expr} {c:CE} {pos pos':Pos} (hN:X.N.Nodup) (hi:X.N[i]?=some x) (hx:L2.Loc X.env.scope x) (he:PE X e (tD X.K W (den F c)))
  (hs:swapsWith e (some (.Name x pos')) pos.line X.env=pure false) (hf:X.fn x=true∨X.env.scope.names.lookup x=some .local):PS X (.Assign [.Name x pos'] e pos) (tDS X.K W (qA F B (.set (.nm i) c))):=PS.imp (L2.ps_set hN hi hx he hs hf) fun D σ H t=>by
 obtain ⟨ρ,env,h,s,r,p⟩:=t
 rw [qA] at p
 exact ⟨ρ,env,h,s,r,PostS.ofR s p fun ρ' h' d H' e' r' q v hv=>q ρ' H' _ (Step.refl _ _) r' ((s.mono e').set i hv)⟩
theorem qCh {e:Expr} {c:CE} {pos:Pos} (he:PE X e (tD X.K W (den F c))) (hs:swapsWith e none pos.line X.env=pure false):PS X (.Expr e pos) (tDS X.K W (qA F B (.exp c))):=PS.imp (L2.ps_expr he hs) fun D σ H t=>by
 obtain ⟨ρ,env,h,s,r,p⟩:=t
 rw [qA] at p
 exact ⟨ρ,env,h,s,r,PostS.ofR s p fun ρ' h' d H' e' r' q v hv=>q ρ' H' _ (Step.refl _ _) r' (s.mono e')⟩
theorem qCX {e:Expr} {c:CE} {pos:Pos} (he:PE X e (tD X.K W (den F c))):PS X (.Return (some e) pos) (tDS X.K W (qA F B (.ret c))):=PS.imp (L2.ps_ret he) fun D σ H t=>by
 obtain ⟨ρ,env,h,s,r,p⟩:=t
 rw [qA] at p
 exact ⟨ρ,env,h,s,r,PostS.ofR s p fun ρ' h' d H' e' r' q v hv=>q ρ' H' v (Step.refl _ _) r' hv⟩
theorem qCW {pos:Pos}:PS X (.Return none pos) (tDS X.K W (qA F B .retN)):=PS.imp L2.ps_retN fun D σ H t=>by
 obtain ⟨ρ,env,h,s,r,p⟩:=t
 rw [qA] at p
 exact p ρ H .non (Step.refl _ _) r rfl
theorem qCa {pos:Pos}:PS X (.Pass pos) (tDS X.K W (qA F B .skip)):=PS.imp L2.ps_pass fun D σ H t=>by
 obtain ⟨ρ,env,h,s,r,p⟩:=t
 exact p ρ H σ (Step.refl ρ H) r s
theorem qCk {pos:Pos}:PS X (.Break pos) (tDS X.K W (qA F B .brk)):=PS.imp L2.ps_break fun D σ H t=>by
 obtain ⟨ρ,env,h,s,r,p⟩:=t
 exact p ρ H σ (Step.refl ρ H) r s
theorem qCj {pos:Pos}:PS X (.Continue pos) (tDS X.K W (qA F B .cnt)):=PS.imp L2.ps_continue fun D σ H t=>by
 obtain ⟨ρ,env,h,s,r,p⟩:=t
 exact p ρ H σ (Step.refl ρ H) r s
theorem qCe {c:Expr} {a b:List Stmt} {pos:Pos} {cc:CT} {ca cb:CS} (hc:PT X c (tDT X.K W (qH F cc))) (ha:PSs X a (tDS X.K W (qA F B ca))) (hb:PSs X b (tDS X.K W (qA F B cb))) :
  PS X (.If c a b pos) (tDS X.K W (qA F B (.ite cc ca cb))):=PS.imp (L2.ps_if hc ha hb) fun D σ H t=>by
 obtain ⟨ρ,env,h,s,r,p⟩:=t
 rw [qA] at p
 refine ⟨ρ,env,h,s,r,PostS.ofR s p fun ρ' h' k H' e' r' q=>?_⟩
 cases k with
 | true=>exact L2.iteT ⟨ρ',env,h',s.mono e',r',q⟩
 | false=>exact L2.iteF ⟨ρ',env,h',s.mono e',r',q⟩
noncomputable def kY (K:PySem.W.Frag) (t:TG) (g:L2.TG):Prop:=∀ (ρ:List Addr) (H:Hp) (env env':Env) (σ:L2.St) (d:D) (v:V) (Q:L2.St→Hp→Prop),RepS K ρ H env σ→RepV K ρ H d v→kW t d env=some env'→(∀ st,RepS K ρ H env' st→Q st H)→g v σ H Q
theorem qA0 {K:PySem.W.Frag} (i:Nat):kY K (.nm i) (L2.gName i):=by
 intro ρ H env env' σ d v Q s hv e q
 cases e
 exact q _ (s.set i hv)
theorem PostS.turn {K:PySem.W.Frag} {D:Ends} {ρ:List Addr} {H:Hp} {r:SR} {f:Env→AH→SR} {N:L2.St→Hp→Prop} (p:PostS K W D ρ H (r.turn f))
  (hN:∀ ρ' H' env h st,Step ρ H ρ' H'→RepH K ρ' h H'→RepS K ρ' H' env st→PostS K W D ρ' H' (f env h)→N st H'):PostS K WF { D with nx:=N,ct:=N,bk:=D.nx } ρ H r:=by
 cases r with
 | nx e g=>exact fun ρ' H' st e' r' s'=>hN ρ' H' e g st e' r' s' (PostS.mono p e')
 | ct e g=>exact fun ρ' H' st e' r' s'=>hN ρ' H' e g st e' r' s' (PostS.mono p e')
 | bk e g=>exact p
 | rt _ _=>exact p
 | exc _ _ _=>exact False.elim p
 | bad=>exact p
theorem lQ {K:PySem.W.Frag} {E:Ends} {ρ:List Addr} {H:Hp} {env:Env} {h:AH} {σ:L2.St} {t:TG} {g:L2.TG} {cb:CS} {d:D} {v:V} {f:Env→AH→SR} {N:L2.St→Hp→Prop} (ht:kY K t g) (s:RepS K ρ H env σ) (r:RepH K ρ h H) (hv:RepV K ρ H d v)
  (p:PostS K W E ρ H ((qP t (qA F B cb) d env h).turn f)) (hN:∀ ρ' H' env h st,Step ρ H ρ' H'→RepH K ρ' h H'→RepS K ρ' H' env st→PostS K W E ρ' H' (f env h)→N st H') :
  g v σ H fun σ2 H2=>tDS K WF (qA F B cb) { E with nx:=N,ct:=N,bk:=E.nx } σ2 H2:=by
 unfold qP at p
 cases e:kW t d env with
 | none=>rw [e] at p;exact False.elim p
 | some env' =>
  rw [e] at p
  exact ht ρ H env env' σ d v _ s hv e fun st s'=>⟨ρ,env',h,s',r,PostS.turn p hN⟩
theorem mU {K:PySem.W.Frag} {E:Ends} {ρ:List Addr} {H:Hp} {env:Env} {h:AH} {σ:L2.St} {t:TG} {g:L2.TG} {cb:CS} {J:L2.It} {xs:List D} (ht:kY K t g) (s:RepS K ρ H env σ) (r:RepH K ρ h H)
  (go:∀ (i:Nat) ρ' H',Step ρ H ρ' H'→i<xs.length→J.go i H') (yl:∀ (i:Nat) ρ' H' x H'',Step ρ H ρ' H'→i<xs.length→J.yld i H' x H''→H''=H'∧∃ d,xs[i]?=some d∧RepV K ρ' H' d x) (sp:∀ (i:Nat) ρ' H',Step ρ H ρ' H'→i=xs.length→J.stop i H')
  (p:PostS K W E ρ H (zO (qP t (qA F B cb)) xs env h)) :
  ∃ Wi:Nat→Nat→L2.St→Hp→Prop,(∃ m,Wi 0 m σ H)∧∀ i m σ H,Wi i m σ H →
   (J.stop i H∧E.nx σ H)∨(J.go i H∧∃ N:L2.St→Hp→Prop,(∀ σ' H',N σ' H'→∃ m',m'<m∧Wi (i+1) m' σ' H')∧∀ x H',J.yld i H x H'→g x σ H' fun σ2 H2=>tDS K WF (qA F B cb) { E with nx:=N,ct:=N,bk:=E.nx } σ2 H2):=by
 refine ⟨fun i m σ' H'=>m=xs.length-i∧i≤xs.length∧∃ ρ' env' h',Step ρ H ρ' H'∧RepS K ρ' H' env' σ'∧RepH K ρ' h' H'∧PostS K W E ρ' H' (zO (qP t (qA F B cb)) (xs.drop i) env' h'),⟨_,rfl,Nat.zero_le _,ρ,env,h,Step.refl _ _,s,r,p⟩,?_⟩
 rintro i m σ' H' ⟨rfl,hi,ρ',env',h',e',s',r',p'⟩
 by_cases hlt:i<xs.length
 ·refine .inr ⟨go i ρ' H' e' hlt,fun σ2 H2=>∃ ρ2 env2 h2,Step ρ H ρ2 H2∧RepS K ρ2 H2 env2 σ2∧RepH K ρ2 h2 H2∧PostS K W E ρ2 H2 (zO (qP t (qA F B cb)) (xs.drop (i+1)) env2 h2),fun σ2 H2 q=>⟨xs.length-(i+1),by omega,rfl,hlt,q⟩,fun x H'' y=>?_⟩
  obtain ⟨rfl,d,hd,hv⟩:=yl i ρ' H' x H'' e' hlt y
  rw [List.drop_eq_getElem_cons hlt] at p'
  have ed:xs[i]=d:=by
   rw [List.getElem?_eq_getElem hlt] at hd
   exact Option.some.inj hd
  rw [ed,zO] at p'
  exact lQ ht s' r' hv p' fun ρ2 H2 env2 h2 st e2 r2 s2 p2=>⟨ρ2,env2,h2,e'.trans e2,s2,r2,p2⟩
 ·have e:i=xs.length:=by omega
  subst e
  rw [List.drop_length] at p'
  exact .inl ⟨sp _ ρ' H' e' rfl,p' ρ' H' σ' (Step.refl _ _) r' s'⟩
theorem qE8 {K:PySem.W.Frag} {E:Ends} {ρ:List Addr} {H:Hp} {env:Env} {h:AH} {σ:L2.St} {t:TG} {g:L2.TG} {cb:CS} {k:Nat} {a:Addr} {n:Nat} (ht:kY K t g) (s:RepS K ρ H env σ) (r:RepH K ρ h H) (ha:ρ[k]?=some a)
  (p:PostS K W E ρ H (kC (qP t (qA F B cb)) k n 0 env h)) :
  ∃ Wi:Nat→Nat→L2.St→Hp→Prop,(∃ m,Wi 0 m σ H)∧∀ i m σ H,Wi i m σ H →
   ((L2.Itl K a).stop i H∧E.nx σ H)∨((L2.Itl K a).go i H∧∃ N:L2.St→Hp→Prop,(∀ σ' H',N σ' H'→∃ m',m'<m∧Wi (i+1) m' σ' H')∧∀ x H',(L2.Itl K a).yld i H x H'→g x σ H' fun σ2 H2=>tDS K WF (qA F B cb) { E with nx:=N,ct:=N,bk:=E.nx } σ2 H2):=by
 refine ⟨fun i m σ' H'=>∃ ρ' env' h',Step ρ H ρ' H'∧RepS K ρ' H' env' σ'∧RepH K ρ' h' H'∧PostS K W E ρ' H' (kC (qP t (qA F B cb)) k m i env' h'),⟨n,ρ,env,h,Step.refl _ _,s,r,p⟩,?_⟩
 rintro i m σ' H' ⟨ρ',env',h',e',s',r',p'⟩
 cases m with
 | zero=>exact False.elim p'
 | succ m =>
  rw [kC] at p'
  cases q:getL h' k with
  | none=>rw [q] at p';exact False.elim p'
  | some xs =>
   rw [q] at p'
   obtain ⟨b,vs,h1,h2,h3⟩:=r'.list q
   rw [jY e'.pre ha] at h1
   cases h1
   cases qx:xs[i]? with
   | none =>
    simp only [qx] at p'
    refine .inl ⟨⟨vs,h2,?_⟩,p' ρ' H' σ' (Step.refl _ _) r' s'⟩
    rw [h3.length]
    exact List.getElem?_eq_none_iff.mp qx
   | some d =>
    simp only [qx] at p'
    obtain ⟨w,hw,hv⟩:=h3.get qx
    refine .inr ⟨⟨vs,w,h2,hw⟩,fun σ2 H2=>∃ ρ2 env2 h2,Step ρ H ρ2 H2∧RepS K ρ2 H2 env2 σ2∧RepH K ρ2 h2 H2∧PostS K W E ρ2 H2 (kC (qP t (qA F B cb)) k m (i+1) env2 h2),fun σ2 H2 z=>⟨m,by omega,z⟩,fun x H'' y=>?_⟩
    obtain ⟨rfl,y⟩:=y
    have ew:=y vs h2
    rw [hw] at ew
    cases ew
    exact lQ ht s' r' hv p' fun ρ2 H2 env2 h2 st e2 r2 s2 p2=>⟨ρ2,env2,h2,e'.trans e2,s2,r2,p2⟩
end
end Fy
set_option Elab.async false
set_option linter.all false
set_option maxRecDepth 100000
set_option maxHeartbeats 4000000
namespace Fy
open PySem PySem.Spec PyProof.Rows
open L2 (V Hp HO VK TE TT TA TS TI Cx Inv RelV Vals SqL SqT Rd upd qF qD PE PT PA PS PSs EP OpR CallR IxR MtR SlR PO TO)
section
variable {X:Cx} {F:Nat→List D→M D} {W:WX}
theorem tG {K:PySem.W.Frag} {ρ:List Addr} {H:Hp} {xs:List D} {vs:List V} {i:Int} {d:D} (l:RepL K ρ H xs vs) (e:(ixN xs.length i).bind (xs[·]?)=some d):∃ w,L2.atI vs i=some w∧RepV K ρ H d w:=by
 cases q:ixN xs.length i with
 | none=>rw [q] at e;cases e
 | some j =>
  rw [q] at e
  have e:xs[j]?=some d:=e
  obtain ⟨w,h1,h2⟩:=l.get e
  refine ⟨w,?_,h2⟩
  show (L2.ixN vs.length i).bind (fun j=>vs[j]?)=some w
  rw [l.length]
  have q':L2.ixN xs.length i=some j:=q
  rw [q']
  exact h1
theorem qFe:IxR X (rB X.K .ix):=by
 rintro value slice pins s σ H x y v u Q I rx ry ⟨w,ρ,h,d,e,r,hd,he,p⟩ hs
 cases d with
 | tup xs =>
  cases e with
  | int i =>
   cases he
   obtain ⟨a,vs,rfl,h1,h2⟩:=hd
   have p:PostV X.K w Q ρ H (match (ixN xs.length i).bind (xs[·]?) with | some d=>.ok d h | none=>.bad):=p
   cases q:(ixN xs.length i).bind (xs[·]?) with
   | none=>rw [q] at p;exact False.elim p
   | some d =>
    rw [q] at p
    obtain ⟨w,h3,h4⟩:=tG h2 q
    exact L2.ix_tup value slice pins s σ H _ _ v u Q I rx ry ⟨a,vs,i,w,rfl,rfl,h1,h3,PostV.now p r h4⟩ hs
  | _=>exact (show False from p).elim
 | str x =>
  cases e with
  | int i =>
   cases he
   cases hd
   have p:PostV X.K w Q ρ H (if x.length≤16777216 then (match (ixN x.length i).bind (x[·]?) with | some c=>.ok (.str [c]) h | none=>.bad) else .bad):=p
   obtain ⟨hz,p⟩:=PostV.ite p
   cases q:(ixN x.length i).bind (x[·]?) with
   | none=>rw [q] at p;exact False.elim p
   | some c =>
    rw [q] at p
    exact L2.ix_str value slice pins s σ H _ _ v u Q I rx ry ⟨⟨x.toArray⟩,i,c,rfl,rfl,by rw [zK,zJ];exact hz,q,PostV.now p r rfl⟩ hs
  | _=>exact (show False from p).elim
 | ref k =>
  cases e with
  | int i =>
   have p:PostV X.K w Q ρ H (match (getL h k).bind fun xs=>(ixN xs.length i).bind (xs[·]?) with | some d=>.ok d h | none=>ixK k (.int i) h):=p
   cases q:((getL h k).bind fun xs=>(ixN xs.length i).bind (xs[·]?)) with
   | none=>rw [q] at p;exact nI (ky:=.int i) I r hd he rx ry p hs
   | some d =>
    rw [q] at p
    cases he
    cases q0:getL h k with
    | none=>rw [q0] at q;cases q
    | some xs =>
     rw [q0] at q
     obtain ⟨a,vs,rfl,h1,h2⟩:=r.seen q0 hd
     obtain ⟨w,h3,h4⟩:=tG h2 q
     exact L2.ix_list value slice pins s σ H _ _ v u Q I rx ry ⟨a,vs,i,w,rfl,rfl,h1,h3,PostV.now p r h4⟩ hs
  | str x=>exact nI (ky:=.str x) I r hd he rx ry p hs
  | _=>exact (show False from p).elim
 | _=>exact (show False from p).elim
theorem qH1 {a b:Expr} {ca cb:CE} {pos:Pos} (ha:PE X a (tD X.K W (den F ca))) (hb:PE X b (tD X.K W (den F cb))) (hs:L2.PlainIx b):PE X (.Subscript a b pos) (tD X.K W (den F (.bi .ix ca cb))):=PE.imp (L2.pe_ix qFe ha hb hs) fun _ _ _ t=>two t
theorem qAE:L2.UnR X (unaryOp .USub) (rU X.K .neg):=by
 rintro pins s σ H x v Q I rx ⟨w,ρ,h,d,r,hd,p⟩
 cases d with
 | int i=>cases hd;exact L2.un_neg pins s σ H _ v Q I rx ⟨i,rfl,PostV.now p r rfl⟩
 | _=>exact (show False from p).elim
theorem qHu {a:Expr} {ca:CE} {pos:Pos} (ha:PE X a (tD X.K W (den F ca))):PE X (.UnaryOp .USub a pos) (tD X.K W (den F (.un .neg ca))):=PE.imp (L2.pe_un qAE ha) fun _ _ _ t=>one t
theorem qIe:CallR X (.builtin "len") (rC X.K .len):=by
 rintro pins s σ H xs us Q I rv ⟨x,rfl,w,ρ,h,d,r,hd,p⟩
 cases d with
 | str x =>
  cases hd
  obtain ⟨hz,p⟩:=PostV.ite (c:=x.length≤16777216) p
  exact L2.call_len pins s σ H _ us Q I rv ⟨_,x.length,rfl,⟨by rw [zK,zJ];exact hz,by rw [zK]⟩,PostV.now p r rfl⟩
 | tup ys =>
  obtain ⟨a,vs,rfl,h1,h2⟩:=hd
  exact L2.call_len pins s σ H _ us Q I rv ⟨_,ys.length,rfl,.inr ⟨vs,h1,h2.length.symm⟩,PostV.now (h:=h) p r rfl⟩
 | ref i =>
  have p:PostV X.K w Q ρ H (match getL h i with | some xs=>.ok (.int xs.length) h | none=>uP i h):=p
  cases q:getL h i with
  | none =>
   rw [q] at p
   cases rv with
   | cons ru rn=>cases rn;exact qFE I r hd ru p
  | some ys =>
   rw [q] at p
   obtain ⟨a,vs,rfl,h1,h2⟩:=r.seen q hd
   exact L2.call_len pins s σ H _ us Q I rv ⟨_,ys.length,rfl,.inl ⟨vs,h1,h2.length.symm⟩,PostV.now p r rfl⟩
 | _=>exact (show False from p).elim
theorem qIg:CallR X (.type "int") (rC X.K .int):=by
 rintro pins s σ H xs us Q I rv ⟨x,rfl,w,ρ,h,d,r,hd,p⟩
 cases d with
 | int i=>cases hd;exact L2.call_int1 pins s σ H _ us Q I rv (.inl ⟨i,rfl,PostV.now (h:=h) p r rfl⟩)
 | bl b=>cases hd;exact L2.call_int1 pins s σ H _ us Q I rv (.inr ⟨b,rfl,PostV.now (h:=h) p r rfl⟩)
 | str x =>
  cases hd
  obtain ⟨hc,p⟩:=PostV.ite (c:=x≠[]∧x.length≤640∧yC x=true) p
  obtain ⟨h1,h2,h3⟩:=hc
  obtain ⟨u,rfl,t,rfl⟩:=L2.vals1 rv
  have hd:PySem.NumText.AllDigits x:=fun c hc=>by
   have:=List.all_eq_true.mp h3 c hc
   exact of_decide_eq_true this
  exact PySem.W.KIN.call_text (PySem.intText_digits (x:=⟨x.toArray⟩) hd h1 (by rw [zK];omega)) (by rw [zK];exact h2) ⟨.int _,H,I.tok _,⟨_,rfl⟩,PostV.now p r rfl⟩
 | _=>exact (show False from p).elim
theorem qIZ:CallR X (.type "tuple") (rC X.K .tuple):=by
 rintro pins s σ H xs us Q I rv ⟨x,rfl,w,ρ,h,d,r,hd,p⟩
 cases d with
 | tup ys =>
  obtain ⟨a,vs,rfl,h1,h2⟩:=hd
  exact L2.call_tuple_of pins s σ H _ us Q I rv ⟨a,vs,rfl,.inr ⟨h1,PostV.now (h:=h) p r ⟨a,vs,rfl,h1,h2⟩⟩⟩
 | ref i =>
  have p:PostV X.K w Q ρ H (match getL h i with | some xs=>.ok (.tup xs) h | none=>.bad):=p
  cases q:getL h i with
  | none=>rw [q] at p;exact False.elim p
  | some ys =>
   rw [q] at p
   obtain ⟨a,vs,rfl,h1,h2⟩:=r.seen q hd
   exact L2.call_tuple_of pins s σ H _ us Q I rv ⟨a,vs,rfl,.inl ⟨h1,PostV.newT p r h2⟩⟩
 | _=>exact (show False from p).elim
theorem qIc (hc:X.calm=true):CallR X (.builtin "min") (rC2 X.K .min2):=by
 rintro pins s σ H xs us Q I rv ⟨x,y,rfl,w,ρ,h,d,e,r,hd,he,p⟩
 cases d with
 | int i =>
  cases e with
  | int j=>cases hd;cases he;exact L2.call_min2 hc pins s σ H _ us Q I rv ⟨i,j,rfl,PostV.now (h:=h) p r rfl⟩
  | _=>exact (show False from p).elim
 | _=>exact (show False from p).elim
theorem qId (hc:X.calm=true):CallR X (.builtin "max") (rC2 X.K .max2):=by
 rintro pins s σ H xs us Q I rv ⟨x,y,rfl,w,ρ,h,d,e,r,hd,he,p⟩
 cases d with
 | int i =>
  cases e with
  | int j=>cases hd;cases he;exact L2.call_max2 hc pins s σ H _ us Q I rv ⟨i,j,rfl,PostV.now (h:=h) p r rfl⟩
  | _=>exact (show False from p).elim
 | _=>exact (show False from p).elim
theorem nN {ca:CE} {σ:L2.St} {H:Hp} {Q:VK} (t:tD X.K W (den F (.un .isN ca)) σ H Q):L2.tIsN (tD X.K W (den F ca)) σ H Q:=by
 obtain ⟨ρ,env,h,s,r,p⟩:=one t
 refine ⟨ρ,env,h,s,r,Post.imp p fun ρ' H' d q v hv=>?_⟩
 obtain ⟨w1,ρ1,h1,d1,r1,hd1,p1⟩:=q v hv
 have e:=PostV.now (h:=h1) p1 r1 (v:=.bl (decide (v=.non))) (by
  cases d1 <;> first
   | (cases hd1;rfl)
   | (obtain ⟨a,vs,rfl,_⟩:=hd1;rfl)
   | (obtain ⟨a,_,rfl⟩:=hd1;rfl))
 exact e
theorem lU {ca:CE} {σ:L2.St} {H:Hp} {Q:VK} (t:tD X.K W (den F (.un .notN ca)) σ H Q):L2.tNotN (tD X.K W (den F ca)) σ H Q:=by
 obtain ⟨ρ,env,h,s,r,p⟩:=one t
 refine ⟨ρ,env,h,s,r,Post.imp p fun ρ' H' d q v hv=>?_⟩
 obtain ⟨w1,ρ1,h1,d1,r1,hd1,p1⟩:=q v hv
 have e:=PostV.now (h:=h1) p1 r1 (v:=.bl (!decide (v=.non))) (by
  cases d1 <;> first
   | (cases hd1;rfl)
   | (obtain ⟨a,vs,rfl,_⟩:=hd1;rfl)
   | (obtain ⟨a,_,rfl⟩:=hd1;rfl))
 exact e
theorem eW {o:Un} (ho:o=.isN∨o=.notN) {ca:CE} (env:Env) (h:AH) (d:D) (h':AH) (e:den F (.un o ca) env h=.ok d h'):∃ k,d=.bl k:=by
 rw [den] at e
 obtain ⟨x,g1,_,e⟩:=bind_ok e
 rcases ho with rfl | rfl <;> (cases e;exact ⟨_,rfl⟩)
theorem qH3 {a:Expr} {ca:CE} {j:Nat} {pos pos':Pos} (ha:PE X a (tD X.K W (den F ca))):PE X (.Compare a [.Is] [.Constant .none j pos'] pos) (tD X.K W (den F (.un .isN ca))):=PE.imp (L2.pe_cmp (L2.pc_isN ha)) fun σ H Q t=>nN t
theorem qHs {a:Expr} {ca:CE} {j:Nat} {pos pos':Pos} (ha:PE X a (tD X.K W (den F ca))):PE X (.Compare a [.IsNot] [.Constant .none j pos'] pos) (tD X.K W (den F (.un .notN ca))):=PE.imp (L2.pe_cmp (L2.pc_notN ha)) fun σ H Q t=>lU t
theorem qHM {a:Expr} {ca:CE} {j:Nat} {pos pos':Pos} (ha:PE X a (tD X.K W (den F ca))):PT X (.Compare a [.Is] [.Constant .none j pos'] pos) (tDT X.K W (qH F (.val (.un .isN ca)))):=PT.imp (L2.pt_cmp (L2.pc_isN ha)) fun σ H Q t=>nN (wJ (eW (.inl rfl)) t)
theorem qHK {a:Expr} {ca:CE} {j:Nat} {pos pos':Pos} (ha:PE X a (tD X.K W (den F ca))):PT X (.Compare a [.IsNot] [.Constant .none j pos'] pos) (tDT X.K W (qH F (.val (.un .notN ca)))):=PT.imp (L2.pt_cmp (L2.pc_notN ha)) fun σ H Q t=>lU (wJ (eW (.inr rfl)) t)
end
end Fy
set_option Elab.async false
set_option linter.all false
set_option maxRecDepth 100000
set_option maxHeartbeats 4000000
namespace Fy
open PySem PySem.Spec PyProof.Rows
open L2 (V Hp HO VK TE TT TA TS TI Cx Inv RelV Vals SqL SqT Rd upd qF qD PE PT PA PS PSs EP OpR CallR IxR MtR SlR PO TO PI PG PIE Turn qJ Ends)
section
variable {X:Cx} {F:Nat→List D→M D} {B:Nat} {W:WX}
theorem PS.nox {st:Stmt} {t:TS} (h:PS X.nox st t):PS X st t:=fun pins s σ H D I hw =>
 wpAny_mono (h pins s σ H D (I.wish _) hw) (fun _ _ q=>q.unwish) fun _ _ z=>False.elim z
theorem qCP {c:Expr} {body:List Stmt} {pos:Pos} {cc:CT} {cb:CS} (hc:PT X.nox c (tDT X.K WF (qH F cc))) (hb:PSs X.nox body (tDS X.K WF (qA F B cb))) :
  PS X (.While c body [] pos) (tDS X.K W (qA F B (.whil cc cb))):=PS.imp (PS.nox (L2.ps_while PassesOwn.never hc hb)) fun E σ H q=>by
 obtain ⟨ρ,env,h,s,r,p⟩:=q
 rw [qA] at p
 refine ⟨fun m σ' H'=>∃ ρ' env' h',RepS X.K ρ' H' env' σ'∧RepH X.K ρ' h' H'∧PostS X.K W E ρ' H' (jP (qH F cc) (qA F B cb) m env' h'),⟨B,ρ,env,h,s,r,p⟩,?_⟩
 rintro m σ' H' ⟨ρ',env',h',s',r',p'⟩
 cases m with
 | zero=>exact False.elim p'
 | succ m =>
  rw [jP] at p'
  refine ⟨ρ',env',h',s',r',?_⟩
  cases q:qH F cc env' h' with
  | ok k g =>
   rw [q] at p'
   intro ρ1 H1 e1 r1
   have q1:=PostS.mono p' e1
   cases k with
   | true =>
    refine L2.iteT ⟨fun σ2 H2=>∃ ρ2 env2 h2,RepS X.K ρ2 H2 env2 σ2∧RepH X.K ρ2 h2 H2∧PostS X.K W E ρ2 H2 (jP (qH F cc) (qA F B cb) m env2 h2),fun σ2 H2 z=>⟨m,Nat.lt_succ_self _,z⟩,?_⟩
    exact ⟨ρ1,env',g,s'.mono e1,r1,PostS.turn q1 fun ρ2 H2 env2 h2 st e2 r2 s2 p2=>⟨ρ2,env2,h2,s2,r2,p2⟩⟩
   | false=>exact L2.iteF (q1 ρ1 H1 σ' (Step.refl _ _) r1 (s'.mono e1))
  | exc _ _=>rw [q] at p';exact False.elim p'
  | bad=>rw [q] at p';exact False.elim p'
theorem qHL {a:Expr} {ca:CT} {pos:Pos} (ha:PT X a (tDT X.K W (qH F ca))):PT X (.UnaryOp .Not a pos) (tDT X.K W (qH F (.not ca))):=PT.imp (L2.pt_not ha) fun σ H Q t=>by
 obtain ⟨ρ,env,h,s,r,p⟩:=t
 rw [qH] at p
 exact ⟨ρ,env,h,s,r,Post.bind p fun ρ1 h1 k H1 e1 r1 q=>Post.ret q r1⟩
theorem qHH {a b:Expr} {qE:List Expr} {ca cb:CT} {pos:Pos} (ha:PT X a (tDT X.K W (qH F ca))) (hb:L2.PW X (.BoolOp .And (b::qE) pos) (tDT X.K W (qH F cb))):L2.PW X (.BoolOp .And (a::b::qE) pos) (tDT X.K W (qH F (.and ca cb))):=fun wh pins s σ H Q I t =>
 L2.pw_and ha hb wh pins s σ H Q I (by
  obtain ⟨ρ,env,h,s,r,p⟩:=t
  rw [qH] at p
  refine ⟨ρ,env,h,s,r,Post.bind p fun ρ1 h1 k H1 e1 r1 q=>?_⟩
  cases k with
  | true=>exact L2.iteT ⟨ρ1,env,h1,s.mono e1,r1,q⟩
  | false=>exact L2.iteF (Post.ret q r1))
theorem qHG {a b:Expr} {qE:List Expr} {ca cb:CT} {pos:Pos} (ha:PT X a (tDT X.K W (qH F ca))) (hb:L2.PW X (.BoolOp .Or (b::qE) pos) (tDT X.K W (qH F cb))):L2.PW X (.BoolOp .Or (a::b::qE) pos) (tDT X.K W (qH F (.or ca cb))):=fun wh pins s σ H Q I t =>
 L2.pw_or ha hb wh pins s σ H Q I (by
  obtain ⟨ρ,env,h,s,r,p⟩:=t
  rw [qH] at p
  refine ⟨ρ,env,h,s,r,Post.bind p fun ρ1 h1 k H1 e1 r1 q=>?_⟩
  cases k with
  | true=>exact L2.iteT (Post.ret q r1)
  | false=>exact L2.iteF ⟨ρ1,env,h1,s.mono e1,r1,q⟩)
end
end Fy
set_option Elab.async false
set_option linter.all false
set_option maxRecDepth 100000
set_option maxHeartbeats 4000000
namespace Fy
open PySem PySem.Spec PyProof.Rows PySem.SeqAt
open L2 (V Hp HO VK TE TT TA TS TI Cx Inv RelV Vals SqL SqT Rd upd qF qD PE PT PA PS PSs EP OpR CallR IxR MtR SlR PO TO PI PG PIE Turn qJ Ends)
noncomputable def zZ (f:D→D→Option Bool) (xs ys:List D) (j:Nat):Bool:=match xs[j]?,ys[j]? with
 | some x,some y=>(f x y).getD false
 | _,_=>false
theorem wC {f:D→D→Option Bool}:∀ {xs ys:List D} {b:Bool},eqW f xs ys=some b →
  (∀ j x y,xs[j]?=some x→ys[j]?=some y→f x y=some (zZ f xs ys j))∧b=((List.range (min xs.length ys.length)).all (zZ f xs ys)&&(xs.length == ys.length))
 | [],[],b,e=>by
  cases e
  exact ⟨fun j x y h=>by simp at h,rfl⟩
 | [],y::ys,b,e=>by
  cases e
  exact ⟨fun j x y h=>by simp at h,by simp⟩
 | x::xs,[],b,e=>by
  cases e
  exact ⟨fun j x y _ h=>by simp at h,by simp⟩
 | x::xs,y::ys,b,e=>by
  unfold eqW at e
  cases e1:f x y with
  | none=>rw [e1] at e;cases e
  | some c =>
   cases e2:eqW f xs ys with
   | none=>rw [e1,e2] at e;cases e
   | some d =>
    rw [e1,e2] at e
    cases e
    obtain ⟨h1,h2⟩:=wC e2
    refine ⟨fun j x' y' hx hy=>?_,?_⟩
    ·cases j with
     | zero =>
      cases hx
      cases hy
      show f x y=some ((f x y).getD false)
      rw [e1]
      rfl
     | succ j=>exact h1 j x' y' (by simpa using hx) (by simpa using hy)
    ·rw [h2]
     have e3:zZ f (x::xs) (y::ys) 0=c:=by
      show (f x y).getD false=c
      rw [e1]
      rfl
     have e4:∀ j,zZ f (x::xs) (y::ys) (j+1)=zZ f xs ys j:=fun j=>by
      unfold zZ
      simp
     have e5:min (x::xs).length (y::ys).length=min xs.length ys.length+1:=by simp
     rw [e5,List.range_succ_eq_map,List.all_cons,e3,List.all_map]
     have e6:(zZ f (x::xs) (y::ys) ∘ Nat.succ)=zZ f xs ys:=funext e4
     rw [e6]
     simp [Bool.and_assoc]
section
variable {X:Cx} {pins:List (Addr × Obj)} {σ:L2.St} {H:Hp} {s:Shared} {ρ:List Addr} {h:AH}
theorem nY {y:D} (h:RepV X.K ρ H y .non):y=.non:=by
 cases y with
 | non=>rfl
 | tup xs=>obtain ⟨_,_,z,_⟩:=h;cases z
 | ref i=>obtain ⟨_,_,z⟩:=h;cases z
 | _=>cases h
theorem oA {y:D} {c:Bool} (h:RepV X.K ρ H y (.bl c)):y=.bl c:=by
 cases y with
 | bl d=>cases h;rfl
 | tup xs=>obtain ⟨_,_,z,_⟩:=h;cases z
 | ref i=>obtain ⟨_,_,z⟩:=h;cases z
 | _=>cases h
theorem nZ {y:D} {c:Int} (h:RepV X.K ρ H y (.int c)):y=.int c:=by
 cases y with
 | int d=>cases h;rfl
 | tup xs=>obtain ⟨_,_,z,_⟩:=h;cases z
 | ref i=>obtain ⟨_,_,z⟩:=h;cases z
 | _=>cases h
theorem nW {y:D} {c:Tx} (h:RepV X.K ρ H y (.str ⟨c.toArray⟩)):y=.str c:=by
 cases y with
 | str d =>
  have z:V.str ⟨c.toArray⟩=V.str ⟨d.toArray⟩:=h
  have z:c.toArray=d.toArray:=by injection z with z;injection z
  have z:c=d:=by simpa using congrArg Array.toList z
  rw [z]
 | tup xs=>obtain ⟨_,_,z,_⟩:=h;cases z
 | ref i=>obtain ⟨_,_,z⟩:=h;cases z
 | _=>cases h
theorem uT {y:D} {a:Addr} (h:RepV X.K ρ H y (.ref a)):(∃ ys vs,y=.tup ys∧SqT X.K H a vs∧RepL X.K ρ H ys vs)∨∃ j,y=.ref j∧ρ[j]?=some a:=by
 cases y with
 | tup xs=>obtain ⟨_,vs,z,h1,h2⟩:=h;cases z;exact .inl ⟨xs,vs,rfl,h1,h2⟩
 | ref i=>obtain ⟨_,h1,z⟩:=h;cases z;exact .inr ⟨i,rfl,h1⟩
 | _=>cases h
theorem bH {x:D} {v:V} {vv:Value} (h:RepV X.K ρ H x v) (r:RelV v vv):vv=.none∨(∃ c,vv=.bool c)∨(∃ c t,vv=.int c t)∨(∃ c t,vv=.str c t)∨∃ c,vv=.ref c:=by
 cases x with
 | non=>cases h;exact .inl r
 | bl c=>cases h;exact .inr (.inl ⟨c,r⟩)
 | int c=>cases h;obtain ⟨t,r⟩:=r;exact .inr (.inr (.inl ⟨c,t,r⟩))
 | str c=>cases h;obtain ⟨t,r⟩:=r;exact .inr (.inr (.inr (.inl ⟨_,t,r⟩)))
 | tup xs=>obtain ⟨a,_,rfl,_⟩:=h;exact .inr (.inr (.inr (.inr ⟨a,r⟩)))
 | ref i=>obtain ⟨a,_,rfl⟩:=h;exact .inr (.inr (.inr (.inr ⟨a,r⟩)))
theorem yR {a:Addr} {vs ws:List V} (I:Inv X pins σ H s) (ht:SqT X.K H a vs) (hl:SqL X.K H a ws):False:=by
 obtain ⟨its,_,⟨o,h1,h2,_⟩,_⟩:=I.tuple ht
 obtain ⟨its2,_,⟨o2,n,k1,k2,_⟩,_⟩:=I.list hl
 rw [h1] at k1
 cases k1
 rw [h2] at k2
 exact absurd k2 (by decide)
theorem qCO (I:Inv X pins σ H s) (r:RepH X.K ρ h H):∀ (n:Nat) (x y:D) (b:Bool) (v:V),eqD h n x y=some b→RepV X.K ρ H x v→RepV X.K ρ H y v→b=true:=by
 intro n
 have rows:∀ m,(∀ (x y:D) (b:Bool) (v:V),eqD h m x y=some b→RepV X.K ρ H x v→RepV X.K ρ H y v→b=true)→∀ (xs ys:List D) (b:Bool) (vs:List V),eqW (eqD h m) xs ys=some b→RepL X.K ρ H xs vs→RepL X.K ρ H ys vs→b=true:=by
  intro m ih xs
  induction xs with
  | nil =>
   intro ys b vs e hx hy
   cases hx
   cases ys with
   | nil=>cases e;rfl
   | cons y ys=>obtain ⟨_,_,z,_⟩:=hy;cases z
  | cons x xs ihx =>
   intro ys b vs e hx hy
   obtain ⟨v,qE,rfl,h1,h2⟩:=hx
   cases ys with
   | nil=>cases hy
   | cons y ys =>
    obtain ⟨v',rest',z,k1,k2⟩:=hy
    cases z
    unfold eqW at e
    cases e1:eqD h m x y with
    | none=>rw [e1] at e;cases e
    | some c =>
     cases e2:eqW (eqD h m) xs ys with
     | none=>rw [e1,e2] at e;cases e
     | some d =>
      rw [e1,e2] at e
      cases e
      rw [ih x y c v e1 h1 k1,ihx ys d qE e2 h2 k2]
      rfl
 induction n with
 | zero =>
  intro x y b v e hx hy
  cases x with
  | non=>cases hx;cases nY hy;cases e;rfl
  | bl c=>cases hx;cases oA hy;cases e;simp
  | int c=>cases hx;cases nZ hy;cases e;simp
  | str c=>cases hx;cases nW hy;cases e;simp
  | tup xs =>
   obtain ⟨a,vs,rfl,k1,k2⟩:=hx
   rcases uT hy with ⟨ys,ws,rfl,k3,k4⟩ | ⟨j,rfl,k3⟩
   ·cases e
   ·have e:(getL h j).map (fun _=>false)=some b:=e
    cases q:getL h j with
    | none=>rw [q] at e;cases e
    | some zs =>
     obtain ⟨a',ws,k5,k6,_⟩:=r.list q
     rw [k3] at k5
     cases k5
     exact (yR I k1 k6).elim
  | ref i =>
   obtain ⟨a,k1,rfl⟩:=hx
   rcases uT hy with ⟨ys,ws,rfl,k3,k4⟩ | ⟨j,rfl,k3⟩
   ·have e:(getL h i).map (fun _=>false)=some b:=e
    cases q:getL h i with
    | none=>rw [q] at e;cases e
    | some zs =>
     obtain ⟨a',ws',k5,k6,_⟩:=r.list q
     rw [k1] at k5
     cases k5
     exact (yR I k3 k6).elim
   ·cases e
 | succ n ih =>
  intro x y b v e hx hy
  cases x with
  | non=>cases hx;cases nY hy;cases e;rfl
  | bl c=>cases hx;cases oA hy;cases e;simp
  | int c=>cases hx;cases nZ hy;cases e;simp
  | str c=>cases hx;cases nW hy;cases e;simp
  | tup xs =>
   obtain ⟨a,vs,rfl,k1,k2⟩:=hx
   rcases uT hy with ⟨ys,ws,rfl,k3,k4⟩ | ⟨j,rfl,k3⟩
   ·have:=I.tuple_inj k1 k3
    subst this
    exact rows n ih xs ys b vs e k2 k4
   ·have e:(getL h j).map (fun _=>false)=some b:=e
    cases q:getL h j with
    | none=>rw [q] at e;cases e
    | some zs =>
     obtain ⟨a',ws,k5,k6,_⟩:=r.list q
     rw [k3] at k5
     cases k5
     exact (yR I k1 k6).elim
  | ref i =>
   obtain ⟨a,k1,rfl⟩:=hx
   rcases uT hy with ⟨ys,ws,rfl,k3,k4⟩ | ⟨j,rfl,k3⟩
   ·have e:(getL h i).map (fun _=>false)=some b:=e
    cases q:getL h i with
    | none=>rw [q] at e;cases e
    | some zs =>
     obtain ⟨a',ws',k5,k6,_⟩:=r.list q
     rw [k1] at k5
     cases k5
     exact (yR I k3 k6).elim
   ·have e:(match getL h i,getL h j with | some xs,some ys=>eqW (eqD h n) xs ys | _,_=>none)=some b:=e
    cases q:getL h i with
    | none=>rw [q] at e;cases e
    | some xs =>
     cases q2:getL h j with
     | none=>rw [q,q2] at e;cases e
     | some ys =>
      rw [q,q2] at e
      obtain ⟨a1,vs,m1,m2,m3⟩:=r.list q
      obtain ⟨a2,ws,n1,n2,n3⟩:=r.list q2
      rw [k1] at m1
      rw [k3] at n1
      cases m1
      cases n1
      have:=I.list_inj m2 n2
      subst this
      exact rows n ih xs ys b vs e m3 n3
theorem pK (I:Inv X pins σ H s) (r:RepH X.K ρ h H):∀ (m:Nat),(∀ (x y:D) (b:Bool) (v u:V) (vv uu:Value) (A:Around),eqD h m x y=some b→RepV X.K ρ H x v→RepV X.K ρ H y u→RelV v vv→RelV u uu→A.units+m<cLine→RcAt A s vv uu b) →
  ∀ (x y:D) (b:Bool) (v u:V) (vv uu:Value) (A:Around),eqD h m x y=some b→RepV X.K ρ H x v→RepV X.K ρ H y u→RelV v vv→RelV u uu→A.units+m<cLine→EqAt A s vv uu b:=by
 intro m ih x y b v u vv uu A e hx hy rv ru hu prog w E Q hq
 unfold eqBool
 refine wpAny_holding ?_
 refine wpAny_ite_split (fun hab=>?_) (fun _=>?_)
 ·have hab:=eq_of_beq hab
  subst hab
  have:=rv.inj ru
  subst this
  have:=qCO I r m x y b v e hx hy
  subst this
  exact wpAny_bind (wpAny_rule (wpAny_pure hq))
 ·have go:=ih x y b v u vv uu A e hx hy rv ru hu prog w E (fun c s'=>wpAny (model prog w) A (truthOfDropped c) Q E s') (wpAny_truthy_bool hq)
  rcases bH hx rv with rfl | ⟨c,rfl⟩ | ⟨c,t,rfl⟩ | ⟨c,t,rfl⟩ | ⟨c,rfl⟩ <;> exact wpAny_bind go
theorem uC (I:Inv X pins σ H s) (r:RepH X.K ρ h H):∀ (m:Nat) (A:Around),(∀ (x y:D) (b:Bool) (v u:V) (vv uu:Value) (A:Around),eqD h m x y=some b→RepV X.K ρ H x v→RepV X.K ρ H y u→RelV v vv→RelV u uu→A.units+m<cLine→RcAt A s vv uu b)→A.units+(m+1)<cLine →
  ∀ (xs ys:List D) (b:Bool) (vs us:List V) (its its2:List Value),eqW (eqD h m) xs ys=some b→RepL X.K ρ H xs vs→RepL X.K ρ H ys us→Vals vs its→Vals us its2 →
   (∀ j (h1:j<its.toArray.size) (h2:j<its2.toArray.size),EqAt A.in1 s its.toArray[j] its2.toArray[j] (zZ (eqD h m) xs ys j)):=by
 intro m A ih hu xs ys b vs us its its2 e hx hy rv ru j h1 h2
 obtain ⟨k1,_⟩:=wC e
 have l1:=rv.length
 have l2:=ru.length
 have l3:=hx.length
 have l4:=hy.length
 rw [List.size_toArray] at h1 h2
 have q1:xs[j]?=some (xs[j]'(by omega)):=by simp
 have q2:ys[j]?=some (ys[j]'(by omega)):=by simp
 obtain ⟨w1,p1,p2⟩:=hx.get q1
 obtain ⟨w2,p3,p4⟩:=hy.get q2
 obtain ⟨u1,p5,p6⟩:=rv.get p1
 obtain ⟨u2,p7,p8⟩:=ru.get p3
 have f1:its.toArray[j]'(by simpa using h1)=u1:=by
  have:its[j]?=some (its[j]'h1):=by simp
  rw [this] at p5
  simpa using p5
 have f2:its2.toArray[j]'(by simpa using h2)=u2:=by
  have:its2[j]?=some (its2[j]'h2):=by simp
  rw [this] at p7
  simpa using p7
 rw [f1,f2]
 exact pK I r m ih _ _ _ w1 w2 u1 u2 A.in1 (k1 j _ _ q1 q2) p2 p4 p6 p8 (by show A.units+1+m<cLine;omega)
theorem gK (I:Inv X pins σ H s) (r:RepH X.K ρ h H):∀ (n:Nat) (x y:D) (b:Bool) (v u:V) (vv uu:Value) (A:Around),eqD h n x y=some b→RepV X.K ρ H x v→RepV X.K ρ H y u→RelV v vv→RelV u uu→A.units+n<cLine→RcAt A s vv uu b:=by
 intro n
 have tups:∀ {l b:Addr} {vs us:List V},SqT X.K H l vs→SqT X.K H b us→∃ its its2:List Value,Vals vs its∧Vals us its2∧s.heap.IsTuple l its.toArray∧s.heap.IsTuple b its2.toArray:=fun h1 h2=>by
  obtain ⟨its,k1,k2,_⟩:=I.tuple h1
  obtain ⟨its2,k3,k4,_⟩:=I.tuple h2
  exact ⟨its,its2,k1,k3,k2,k4⟩
 have isT:∀ {l:Addr} {vs:List V},SqT X.K H l vs→∃ its:Array Value,s.heap.IsTuple l its:=fun h1=>by
  obtain ⟨its,k1,k2,_⟩:=I.tuple h1
  exact ⟨_,k2⟩
 have isL:∀ {i:Nat} {l:Addr},ρ[i]?=some l→∀ {b:Bool},(getL h i).map (fun _=>false)=some b→b=false∧∃ its:Array Value,s.heap.IsList l its:=fun {i l} k1 {b} e=>by
  cases q:getL h i with
  | none=>rw [q] at e;cases e
  | some zs =>
   rw [q] at e
   cases e
   obtain ⟨a',ws',k5,k6,_⟩:=r.list q
   rw [k1] at k5
   cases k5
   obtain ⟨its,_,p,_⟩:=I.list k6
   exact ⟨rfl,_,p.isList⟩
 have strEq:∀ {A:Around} (x y:Tx) (t t':Tok),RcAt A s (.str ⟨x.toArray⟩ t) (.str ⟨y.toArray⟩ t') (x == y):=fun x y t t'=>by
  have e:(x == y)=((⟨x.toArray⟩:Str) == (⟨y.toArray⟩:Str)):=by
   rw [Bool.eq_iff_iff]
   simp
  rw [e]
  exact RcAt.str_str _ _ _ _
 induction n with
 | zero =>
  intro x y b v u vv uu A e hx hy rv ru hu
  have hu0:A.units<cLine:=by omega
  cases x with
  | non =>
   cases y with
   | non=>cases hx;cases rv;cases hy;cases ru;cases e;exact RcAt.none_none
   | bl y=>cases hx;cases rv;cases hy;cases ru;cases e;exact RcAt.none_bool _
   | int y=>cases hx;cases rv;cases hy;obtain ⟨t',rfl⟩:=ru;cases e;exact RcAt.none_int _ _
   | str y=>cases hx;cases rv;cases hy;obtain ⟨t',rfl⟩:=ru;cases e;exact RcAt.none_str _ _
   | tup y=>cases hx;cases rv;obtain ⟨a2,us,rfl,m1,m2⟩:=hy;cases ru;cases e;obtain ⟨_,T⟩:=isT m1;exact RcAt.none_tuple T hu0
   | ref y=>cases hx;cases rv;obtain ⟨a2,m1,rfl⟩:=hy;cases ru;obtain ⟨rfl,_,T⟩:=isL m1 e;exact RcAt.none_list T hu0
  | bl x =>
   cases y with
   | non=>cases hx;cases rv;cases hy;cases ru;cases e;exact RcAt.bool_none _
   | bl y=>cases hx;cases rv;cases hy;cases ru;cases e;exact RcAt.bool_bool _ _
   | int y=>cases hx;cases rv;cases hy;obtain ⟨t',rfl⟩:=ru;cases e;exact RcAt.bool_int _ _ _
   | str y=>cases hx;cases rv;cases hy;obtain ⟨t',rfl⟩:=ru;cases e;exact RcAt.bool_str _ _ _
   | tup y=>cases hx;cases rv;obtain ⟨a2,us,rfl,m1,m2⟩:=hy;cases ru;cases e;obtain ⟨_,T⟩:=isT m1;exact RcAt.bool_tuple _ T hu0
   | ref y=>cases hx;cases rv;obtain ⟨a2,m1,rfl⟩:=hy;cases ru;obtain ⟨rfl,_,T⟩:=isL m1 e;exact RcAt.bool_list _ T hu0
  | int x =>
   cases y with
   | non=>cases hx;obtain ⟨t,rfl⟩:=rv;cases hy;cases ru;cases e;exact RcAt.int_none _ _
   | bl y=>cases hx;obtain ⟨t,rfl⟩:=rv;cases hy;cases ru;cases e;exact RcAt.int_bool _ _ _
   | int y=>cases hx;obtain ⟨t,rfl⟩:=rv;cases hy;obtain ⟨t',rfl⟩:=ru;cases e;exact RcAt.int_int _ _ _ _
   | str y=>cases hx;obtain ⟨t,rfl⟩:=rv;cases hy;obtain ⟨t',rfl⟩:=ru;cases e;exact RcAt.int_str _ _ _ _
   | tup y=>cases hx;obtain ⟨t,rfl⟩:=rv;obtain ⟨a2,us,rfl,m1,m2⟩:=hy;cases ru;cases e;obtain ⟨_,T⟩:=isT m1;exact RcAt.int_tuple _ _ T hu0
   | ref y=>cases hx;obtain ⟨t,rfl⟩:=rv;obtain ⟨a2,m1,rfl⟩:=hy;cases ru;obtain ⟨rfl,_,T⟩:=isL m1 e;exact RcAt.int_list _ _ T hu0
  | str x =>
   cases y with
   | non=>cases hx;obtain ⟨t,rfl⟩:=rv;cases hy;cases ru;cases e;exact RcAt.str_none _ _
   | bl y=>cases hx;obtain ⟨t,rfl⟩:=rv;cases hy;cases ru;cases e;exact RcAt.str_bool _ _ _
   | int y=>cases hx;obtain ⟨t,rfl⟩:=rv;cases hy;obtain ⟨t',rfl⟩:=ru;cases e;exact RcAt.str_int _ _ _ _
   | str y=>cases hx;obtain ⟨t,rfl⟩:=rv;cases hy;obtain ⟨t',rfl⟩:=ru;cases e;exact strEq _ _ _ _
   | tup y=>cases hx;obtain ⟨t,rfl⟩:=rv;obtain ⟨a2,us,rfl,m1,m2⟩:=hy;cases ru;cases e;obtain ⟨_,T⟩:=isT m1;exact RcAt.str_tuple _ _ T hu0
   | ref y=>cases hx;obtain ⟨t,rfl⟩:=rv;obtain ⟨a2,m1,rfl⟩:=hy;cases ru;obtain ⟨rfl,_,T⟩:=isL m1 e;exact RcAt.str_list _ _ T hu0
  | tup x =>
   cases y with
   | non=>obtain ⟨a,vs,rfl,k1,k2⟩:=hx;cases rv;cases hy;cases ru;cases e;obtain ⟨_,T⟩:=isT k1;exact RcAt.tuple_none T hu0
   | bl y=>obtain ⟨a,vs,rfl,k1,k2⟩:=hx;cases rv;cases hy;cases ru;cases e;obtain ⟨_,T⟩:=isT k1;exact RcAt.tuple_bool _ T hu0
   | int y=>obtain ⟨a,vs,rfl,k1,k2⟩:=hx;cases rv;cases hy;obtain ⟨t',rfl⟩:=ru;cases e;obtain ⟨_,T⟩:=isT k1;exact RcAt.tuple_int _ _ T hu0
   | str y=>obtain ⟨a,vs,rfl,k1,k2⟩:=hx;cases rv;cases hy;obtain ⟨t',rfl⟩:=ru;cases e;obtain ⟨_,T⟩:=isT k1;exact RcAt.tuple_str _ _ T hu0
   | tup y=>cases e
   | ref y=>obtain ⟨a,vs,rfl,k1,k2⟩:=hx;cases rv;obtain ⟨a2,m1,rfl⟩:=hy;cases ru;obtain ⟨rfl,_,T⟩:=isL m1 e;obtain ⟨_,U⟩:=isT k1;exact RcAt.tuple_list U T hu0
  | ref x =>
   cases y with
   | non=>obtain ⟨a,k1,rfl⟩:=hx;cases rv;cases hy;cases ru;obtain ⟨rfl,_,T⟩:=isL k1 e;exact RcAt.list_none T hu0
   | bl y=>obtain ⟨a,k1,rfl⟩:=hx;cases rv;cases hy;cases ru;obtain ⟨rfl,_,T⟩:=isL k1 e;exact RcAt.list_bool _ T hu0
   | int y=>obtain ⟨a,k1,rfl⟩:=hx;cases rv;cases hy;obtain ⟨t',rfl⟩:=ru;obtain ⟨rfl,_,T⟩:=isL k1 e;exact RcAt.list_int _ _ T hu0
   | str y=>obtain ⟨a,k1,rfl⟩:=hx;cases rv;cases hy;obtain ⟨t',rfl⟩:=ru;obtain ⟨rfl,_,T⟩:=isL k1 e;exact RcAt.list_str _ _ T hu0
   | tup y=>obtain ⟨a,k1,rfl⟩:=hx;cases rv;obtain ⟨a2,us,rfl,m1,m2⟩:=hy;cases ru;obtain ⟨rfl,_,T⟩:=isL k1 e;obtain ⟨_,U⟩:=isT m1;exact RcAt.list_tuple T U hu0
   | ref y=>cases e
 | succ n ih =>
  intro x y b v u vv uu A e hx hy rv ru hu
  have hu0:A.units<cLine:=by omega
  have tt:∀ {a a2:Addr} {vs us:List V} {xs ys:List D},SqT X.K H a vs→SqT X.K H a2 us→RepL X.K ρ H xs vs→RepL X.K ρ H ys us→eqW (eqD h n) xs ys=some b→RcAt A s (.ref a) (.ref a2) b:=fun k1 m1 k2 m2 e=>by
   obtain ⟨its,its2,q1,q2,q3,q4⟩:=tups k1 m1
   have:=RcAt.tuples (e:=zZ (eqD h n) _ _) q3 q4 hu0 (uC I r n A ih (by omega) _ _ b _ _ its its2 e k2 m2 q1 q2)
   obtain ⟨_,eb⟩:=wC e
   rw [eb]
   have l1:=q1.length
   have l2:=q2.length
   have l3:=k2.length
   have l4:=m2.length
   rw [List.size_toArray,List.size_toArray,← l1,← l2,l3,l4] at this
   exact this
  have ll:∀ {i j:Nat} {a a2:Addr},ρ[i]?=some a→ρ[j]?=some a2→(match getL h i,getL h j with | some xs,some ys=>eqW (eqD h n) xs ys | _,_=>none)=some b→RcAt A s (.ref a) (.ref a2) b:=fun {i j a a2} k1 m1 e=>by
   cases q:getL h i with
   | none=>rw [q] at e;cases e
   | some xs =>
    cases q2:getL h j with
    | none=>rw [q,q2] at e;cases e
    | some ys =>
     rw [q,q2] at e
     obtain ⟨a1,vs,p1,p2,p3⟩:=r.list q
     obtain ⟨a2',us,o1,o2,o3⟩:=r.list q2
     rw [k1] at p1
     rw [m1] at o1
     cases p1
     cases o1
     obtain ⟨its,r1,pl1,_⟩:=I.list p2
     obtain ⟨its2,r2,pl2,_⟩:=I.list o2
     have l1:=r1.length
     have l2:=r2.length
     have l3:=p3.length
     have l4:=o3.length
     obtain ⟨_,eb⟩:=wC e
     rw [eb]
     by_cases hsz:xs.length=ys.length
     ·have:=RcAt.lists (e:=zZ (eqD h n) xs ys) pl1.isList pl2.isList (by rw [List.size_toArray,List.size_toArray];omega) hu0 (uC I r n A ih (by omega) _ _ b _ _ its its2 e p3 o3 r1 r2)
      rw [List.size_toArray,← l1,l3] at this
      rw [← hsz,Nat.min_self,beq_self_eq_true,Bool.and_true]
      exact this
     ·have e2:(xs.length == ys.length)=false:=by simpa using hsz
      rw [e2,Bool.and_false]
      exact RcAt.lists_lengths pl1.isList pl2.isList (by rw [List.size_toArray,List.size_toArray,← l1,← l2,l3,l4];simpa using hsz) hu0
  cases x with
  | non =>
   cases y with
   | non=>cases hx;cases rv;cases hy;cases ru;cases e;exact RcAt.none_none
   | bl y=>cases hx;cases rv;cases hy;cases ru;cases e;exact RcAt.none_bool _
   | int y=>cases hx;cases rv;cases hy;obtain ⟨t',rfl⟩:=ru;cases e;exact RcAt.none_int _ _
   | str y=>cases hx;cases rv;cases hy;obtain ⟨t',rfl⟩:=ru;cases e;exact RcAt.none_str _ _
   | tup y=>cases hx;cases rv;obtain ⟨a2,us,rfl,m1,m2⟩:=hy;cases ru;cases e;obtain ⟨_,T⟩:=isT m1;exact RcAt.none_tuple T hu0
   | ref y=>cases hx;cases rv;obtain ⟨a2,m1,rfl⟩:=hy;cases ru;obtain ⟨rfl,_,T⟩:=isL m1 e;exact RcAt.none_list T hu0
  | bl x =>
   cases y with
   | non=>cases hx;cases rv;cases hy;cases ru;cases e;exact RcAt.bool_none _
   | bl y=>cases hx;cases rv;cases hy;cases ru;cases e;exact RcAt.bool_bool _ _
   | int y=>cases hx;cases rv;cases hy;obtain ⟨t',rfl⟩:=ru;cases e;exact RcAt.bool_int _ _ _
   | str y=>cases hx;cases rv;cases hy;obtain ⟨t',rfl⟩:=ru;cases e;exact RcAt.bool_str _ _ _
   | tup y=>cases hx;cases rv;obtain ⟨a2,us,rfl,m1,m2⟩:=hy;cases ru;cases e;obtain ⟨_,T⟩:=isT m1;exact RcAt.bool_tuple _ T hu0
   | ref y=>cases hx;cases rv;obtain ⟨a2,m1,rfl⟩:=hy;cases ru;obtain ⟨rfl,_,T⟩:=isL m1 e;exact RcAt.bool_list _ T hu0
  | int x =>
   cases y with
   | non=>cases hx;obtain ⟨t,rfl⟩:=rv;cases hy;cases ru;cases e;exact RcAt.int_none _ _
   | bl y=>cases hx;obtain ⟨t,rfl⟩:=rv;cases hy;cases ru;cases e;exact RcAt.int_bool _ _ _
   | int y=>cases hx;obtain ⟨t,rfl⟩:=rv;cases hy;obtain ⟨t',rfl⟩:=ru;cases e;exact RcAt.int_int _ _ _ _
   | str y=>cases hx;obtain ⟨t,rfl⟩:=rv;cases hy;obtain ⟨t',rfl⟩:=ru;cases e;exact RcAt.int_str _ _ _ _
   | tup y=>cases hx;obtain ⟨t,rfl⟩:=rv;obtain ⟨a2,us,rfl,m1,m2⟩:=hy;cases ru;cases e;obtain ⟨_,T⟩:=isT m1;exact RcAt.int_tuple _ _ T hu0
   | ref y=>cases hx;obtain ⟨t,rfl⟩:=rv;obtain ⟨a2,m1,rfl⟩:=hy;cases ru;obtain ⟨rfl,_,T⟩:=isL m1 e;exact RcAt.int_list _ _ T hu0
  | str x =>
   cases y with
   | non=>cases hx;obtain ⟨t,rfl⟩:=rv;cases hy;cases ru;cases e;exact RcAt.str_none _ _
   | bl y=>cases hx;obtain ⟨t,rfl⟩:=rv;cases hy;cases ru;cases e;exact RcAt.str_bool _ _ _
   | int y=>cases hx;obtain ⟨t,rfl⟩:=rv;cases hy;obtain ⟨t',rfl⟩:=ru;cases e;exact RcAt.str_int _ _ _ _
   | str y=>cases hx;obtain ⟨t,rfl⟩:=rv;cases hy;obtain ⟨t',rfl⟩:=ru;cases e;exact strEq _ _ _ _
   | tup y=>cases hx;obtain ⟨t,rfl⟩:=rv;obtain ⟨a2,us,rfl,m1,m2⟩:=hy;cases ru;cases e;obtain ⟨_,T⟩:=isT m1;exact RcAt.str_tuple _ _ T hu0
   | ref y=>cases hx;obtain ⟨t,rfl⟩:=rv;obtain ⟨a2,m1,rfl⟩:=hy;cases ru;obtain ⟨rfl,_,T⟩:=isL m1 e;exact RcAt.str_list _ _ T hu0
  | tup x =>
   cases y with
   | non=>obtain ⟨a,vs,rfl,k1,k2⟩:=hx;cases rv;cases hy;cases ru;cases e;obtain ⟨_,T⟩:=isT k1;exact RcAt.tuple_none T hu0
   | bl y=>obtain ⟨a,vs,rfl,k1,k2⟩:=hx;cases rv;cases hy;cases ru;cases e;obtain ⟨_,T⟩:=isT k1;exact RcAt.tuple_bool _ T hu0
   | int y=>obtain ⟨a,vs,rfl,k1,k2⟩:=hx;cases rv;cases hy;obtain ⟨t',rfl⟩:=ru;cases e;obtain ⟨_,T⟩:=isT k1;exact RcAt.tuple_int _ _ T hu0
   | str y=>obtain ⟨a,vs,rfl,k1,k2⟩:=hx;cases rv;cases hy;obtain ⟨t',rfl⟩:=ru;cases e;obtain ⟨_,T⟩:=isT k1;exact RcAt.tuple_str _ _ T hu0
   | tup y=>obtain ⟨a,vs,rfl,k1,k2⟩:=hx;cases rv;obtain ⟨a2,us,rfl,m1,m2⟩:=hy;cases ru;exact tt k1 m1 k2 m2 e
   | ref y=>obtain ⟨a,vs,rfl,k1,k2⟩:=hx;cases rv;obtain ⟨a2,m1,rfl⟩:=hy;cases ru;obtain ⟨rfl,_,T⟩:=isL m1 e;obtain ⟨_,U⟩:=isT k1;exact RcAt.tuple_list U T hu0
  | ref x =>
   cases y with
   | non=>obtain ⟨a,k1,rfl⟩:=hx;cases rv;cases hy;cases ru;obtain ⟨rfl,_,T⟩:=isL k1 e;exact RcAt.list_none T hu0
   | bl y=>obtain ⟨a,k1,rfl⟩:=hx;cases rv;cases hy;cases ru;obtain ⟨rfl,_,T⟩:=isL k1 e;exact RcAt.list_bool _ T hu0
   | int y=>obtain ⟨a,k1,rfl⟩:=hx;cases rv;cases hy;obtain ⟨t',rfl⟩:=ru;obtain ⟨rfl,_,T⟩:=isL k1 e;exact RcAt.list_int _ _ T hu0
   | str y=>obtain ⟨a,k1,rfl⟩:=hx;cases rv;cases hy;obtain ⟨t',rfl⟩:=ru;obtain ⟨rfl,_,T⟩:=isL k1 e;exact RcAt.list_str _ _ T hu0
   | tup y=>obtain ⟨a,k1,rfl⟩:=hx;cases rv;obtain ⟨a2,us,rfl,m1,m2⟩:=hy;cases ru;obtain ⟨rfl,_,T⟩:=isL k1 e;obtain ⟨_,U⟩:=isT m1;exact RcAt.list_tuple T U hu0
   | ref y=>obtain ⟨a,k1,rfl⟩:=hx;cases rv;obtain ⟨a2,m1,rfl⟩:=hy;cases ru;exact ll k1 m1 e
theorem qEQ (I:Inv X pins σ H s) (r:RepH X.K ρ h H):∀ (n:Nat) (x y:D) (b:Bool) (v u:V) (vv uu:Value) (A:Around),eqD h (n+1) x y=some b→RepV X.K ρ H x v→RepV X.K ρ H y u→RelV v vv→RelV u uu→A.units+(n+1)<cLine→RcNeAt A s vv uu (!b):=by
 intro n
 have tups:∀ {l b:Addr} {vs us:List V},SqT X.K H l vs→SqT X.K H b us→∃ its its2:List Value,Vals vs its∧Vals us its2∧s.heap.IsTuple l its.toArray∧s.heap.IsTuple b its2.toArray:=fun h1 h2=>by
  obtain ⟨its,k1,k2,_⟩:=I.tuple h1
  obtain ⟨its2,k3,k4,_⟩:=I.tuple h2
  exact ⟨its,its2,k1,k3,k2,k4⟩
 have isT:∀ {l:Addr} {vs:List V},SqT X.K H l vs→∃ its:Array Value,s.heap.IsTuple l its:=fun h1=>by
  obtain ⟨its,k1,k2,_⟩:=I.tuple h1
  exact ⟨_,k2⟩
 have isL:∀ {i:Nat} {l:Addr},ρ[i]?=some l→∀ {b:Bool},(getL h i).map (fun _=>false)=some b→b=false∧∃ its:Array Value,s.heap.IsList l its:=fun {i l} k1 {b} e=>by
  cases q:getL h i with
  | none=>rw [q] at e;cases e
  | some zs =>
   rw [q] at e
   cases e
   obtain ⟨a',ws',k5,k6,_⟩:=r.list q
   rw [k1] at k5
   cases k5
   obtain ⟨its,_,p,_⟩:=I.list k6
   exact ⟨rfl,_,p.isList⟩
 have strEq:∀ {A:Around} (x y:Tx) (t t':Tok),RcNeAt A s (.str ⟨x.toArray⟩ t) (.str ⟨y.toArray⟩ t') (!(x == y)):=fun x y t t'=>by
  have e:(x == y)=((⟨x.toArray⟩:Str) == (⟨y.toArray⟩:Str)):=by
   rw [Bool.eq_iff_iff]
   simp
  rw [e]
  exact RcNeAt.str_str _ _ _ _
 intro x y b v u vv uu A e hx hy rv ru hu
 have hu0:A.units<cLine:=by omega
 have tt:∀ {a a2:Addr} {vs us:List V} {xs ys:List D},SqT X.K H a vs→SqT X.K H a2 us→RepL X.K ρ H xs vs→RepL X.K ρ H ys us→eqW (eqD h n) xs ys=some b→RcNeAt A s (.ref a) (.ref a2) (!b):=fun k1 m1 k2 m2 e=>by
  obtain ⟨its,its2,q1,q2,q3,q4⟩:=tups k1 m1
  have:=RcNeAt.tuples (e:=zZ (eqD h n) _ _) q3 q4 hu0 (uC I r n A (gK I r n) (by omega) _ _ b _ _ its its2 e k2 m2 q1 q2)
  obtain ⟨_,eb⟩:=wC e
  rw [eb]
  have l1:=q1.length
  have l2:=q2.length
  have l3:=k2.length
  have l4:=m2.length
  rw [List.size_toArray,List.size_toArray,← l1,← l2,l3,l4] at this
  exact this
 have ll:∀ {i j:Nat} {a a2:Addr},ρ[i]?=some a→ρ[j]?=some a2→(match getL h i,getL h j with | some xs,some ys=>eqW (eqD h n) xs ys | _,_=>none)=some b→RcNeAt A s (.ref a) (.ref a2) (!b):=fun {i j a a2} k1 m1 e=>by
  cases q:getL h i with
  | none=>rw [q] at e;cases e
  | some xs =>
   cases q2:getL h j with
   | none=>rw [q,q2] at e;cases e
   | some ys =>
    rw [q,q2] at e
    obtain ⟨a1,vs,p1,p2,p3⟩:=r.list q
    obtain ⟨a2',us,o1,o2,o3⟩:=r.list q2
    rw [k1] at p1
    rw [m1] at o1
    cases p1
    cases o1
    obtain ⟨its,r1,pl1,_⟩:=I.list p2
    obtain ⟨its2,r2,pl2,_⟩:=I.list o2
    have l1:=r1.length
    have l2:=r2.length
    have l3:=p3.length
    have l4:=o3.length
    obtain ⟨_,eb⟩:=wC e
    rw [eb]
    by_cases hsz:xs.length=ys.length
    ·have:=RcNeAt.lists (e:=zZ (eqD h n) xs ys) pl1.isList pl2.isList (by rw [List.size_toArray,List.size_toArray];omega) hu0 (uC I r n A (gK I r n) (by omega) _ _ b _ _ its its2 e p3 o3 r1 r2)
     rw [List.size_toArray,← l1,l3] at this
     rw [← hsz,Nat.min_self,beq_self_eq_true,Bool.and_true]
     exact this
    ·have e2:(xs.length == ys.length)=false:=by simpa using hsz
     rw [e2,Bool.and_false]
     exact RcNeAt.lists_lengths pl1.isList pl2.isList (by rw [List.size_toArray,List.size_toArray,← l1,← l2,l3,l4];simpa using hsz) hu0
 cases x with
 | non =>
  cases y with
  | non=>cases hx;cases rv;cases hy;cases ru;cases e;exact RcNeAt.none_none
  | bl y=>cases hx;cases rv;cases hy;cases ru;cases e;exact RcNeAt.none_bool _
  | int y=>cases hx;cases rv;cases hy;obtain ⟨t',rfl⟩:=ru;cases e;exact RcNeAt.none_int _ _
  | str y=>cases hx;cases rv;cases hy;obtain ⟨t',rfl⟩:=ru;cases e;exact RcNeAt.none_str _ _
  | tup y=>cases hx;cases rv;obtain ⟨a2,us,rfl,m1,m2⟩:=hy;cases ru;cases e;obtain ⟨_,T⟩:=isT m1;exact RcNeAt.none_tuple T hu0
  | ref y=>cases hx;cases rv;obtain ⟨a2,m1,rfl⟩:=hy;cases ru;obtain ⟨rfl,_,T⟩:=isL m1 e;exact RcNeAt.none_list T hu0
 | bl x =>
  cases y with
  | non=>cases hx;cases rv;cases hy;cases ru;cases e;exact RcNeAt.bool_none _
  | bl y=>cases hx;cases rv;cases hy;cases ru;cases e;exact RcNeAt.bool_bool _ _
  | int y=>cases hx;cases rv;cases hy;obtain ⟨t',rfl⟩:=ru;cases e;exact RcNeAt.bool_int _ _ _
  | str y=>cases hx;cases rv;cases hy;obtain ⟨t',rfl⟩:=ru;cases e;exact RcNeAt.bool_str _ _ _
  | tup y=>cases hx;cases rv;obtain ⟨a2,us,rfl,m1,m2⟩:=hy;cases ru;cases e;obtain ⟨_,T⟩:=isT m1;exact RcNeAt.bool_tuple _ T hu0
  | ref y=>cases hx;cases rv;obtain ⟨a2,m1,rfl⟩:=hy;cases ru;obtain ⟨rfl,_,T⟩:=isL m1 e;exact RcNeAt.bool_list _ T hu0
 | int x =>
  cases y with
  | non=>cases hx;obtain ⟨t,rfl⟩:=rv;cases hy;cases ru;cases e;exact RcNeAt.int_none _ _
  | bl y=>cases hx;obtain ⟨t,rfl⟩:=rv;cases hy;cases ru;cases e;exact RcNeAt.int_bool _ _ _
  | int y=>cases hx;obtain ⟨t,rfl⟩:=rv;cases hy;obtain ⟨t',rfl⟩:=ru;cases e;exact RcNeAt.int_int _ _ _ _
  | str y=>cases hx;obtain ⟨t,rfl⟩:=rv;cases hy;obtain ⟨t',rfl⟩:=ru;cases e;exact RcNeAt.int_str _ _ _ _
  | tup y=>cases hx;obtain ⟨t,rfl⟩:=rv;obtain ⟨a2,us,rfl,m1,m2⟩:=hy;cases ru;cases e;obtain ⟨_,T⟩:=isT m1;exact RcNeAt.int_tuple _ _ T hu0
  | ref y=>cases hx;obtain ⟨t,rfl⟩:=rv;obtain ⟨a2,m1,rfl⟩:=hy;cases ru;obtain ⟨rfl,_,T⟩:=isL m1 e;exact RcNeAt.int_list _ _ T hu0
 | str x =>
  cases y with
  | non=>cases hx;obtain ⟨t,rfl⟩:=rv;cases hy;cases ru;cases e;exact RcNeAt.str_none _ _
  | bl y=>cases hx;obtain ⟨t,rfl⟩:=rv;cases hy;cases ru;cases e;exact RcNeAt.str_bool _ _ _
  | int y=>cases hx;obtain ⟨t,rfl⟩:=rv;cases hy;obtain ⟨t',rfl⟩:=ru;cases e;exact RcNeAt.str_int _ _ _ _
  | str y=>cases hx;obtain ⟨t,rfl⟩:=rv;cases hy;obtain ⟨t',rfl⟩:=ru;cases e;exact strEq _ _ _ _
  | tup y=>cases hx;obtain ⟨t,rfl⟩:=rv;obtain ⟨a2,us,rfl,m1,m2⟩:=hy;cases ru;cases e;obtain ⟨_,T⟩:=isT m1;exact RcNeAt.str_tuple _ _ T hu0
  | ref y=>cases hx;obtain ⟨t,rfl⟩:=rv;obtain ⟨a2,m1,rfl⟩:=hy;cases ru;obtain ⟨rfl,_,T⟩:=isL m1 e;exact RcNeAt.str_list _ _ T hu0
 | tup x =>
  cases y with
  | non=>obtain ⟨a,vs,rfl,k1,k2⟩:=hx;cases rv;cases hy;cases ru;cases e;obtain ⟨_,T⟩:=isT k1;exact RcNeAt.tuple_none T hu0
  | bl y=>obtain ⟨a,vs,rfl,k1,k2⟩:=hx;cases rv;cases hy;cases ru;cases e;obtain ⟨_,T⟩:=isT k1;exact RcNeAt.tuple_bool _ T hu0
  | int y=>obtain ⟨a,vs,rfl,k1,k2⟩:=hx;cases rv;cases hy;obtain ⟨t',rfl⟩:=ru;cases e;obtain ⟨_,T⟩:=isT k1;exact RcNeAt.tuple_int _ _ T hu0
  | str y=>obtain ⟨a,vs,rfl,k1,k2⟩:=hx;cases rv;cases hy;obtain ⟨t',rfl⟩:=ru;cases e;obtain ⟨_,T⟩:=isT k1;exact RcNeAt.tuple_str _ _ T hu0
  | tup y=>obtain ⟨a,vs,rfl,k1,k2⟩:=hx;cases rv;obtain ⟨a2,us,rfl,m1,m2⟩:=hy;cases ru;exact tt k1 m1 k2 m2 e
  | ref y=>obtain ⟨a,vs,rfl,k1,k2⟩:=hx;cases rv;obtain ⟨a2,m1,rfl⟩:=hy;cases ru;obtain ⟨rfl,_,T⟩:=isL m1 e;obtain ⟨_,U⟩:=isT k1;exact RcNeAt.tuple_list U T hu0
 | ref x =>
  cases y with
  | non=>obtain ⟨a,k1,rfl⟩:=hx;cases rv;cases hy;cases ru;obtain ⟨rfl,_,T⟩:=isL k1 e;exact RcNeAt.list_none T hu0
  | bl y=>obtain ⟨a,k1,rfl⟩:=hx;cases rv;cases hy;cases ru;obtain ⟨rfl,_,T⟩:=isL k1 e;exact RcNeAt.list_bool _ T hu0
  | int y=>obtain ⟨a,k1,rfl⟩:=hx;cases rv;cases hy;obtain ⟨t',rfl⟩:=ru;obtain ⟨rfl,_,T⟩:=isL k1 e;exact RcNeAt.list_int _ _ T hu0
  | str y=>obtain ⟨a,k1,rfl⟩:=hx;cases rv;cases hy;obtain ⟨t',rfl⟩:=ru;obtain ⟨rfl,_,T⟩:=isL k1 e;exact RcNeAt.list_str _ _ T hu0
  | tup y=>obtain ⟨a,k1,rfl⟩:=hx;cases rv;obtain ⟨a2,us,rfl,m1,m2⟩:=hy;cases ru;obtain ⟨rfl,_,T⟩:=isL k1 e;obtain ⟨_,U⟩:=isT m1;exact RcNeAt.list_tuple T U hu0
  | ref y=>obtain ⟨a,k1,rfl⟩:=hx;cases rv;obtain ⟨a2,m1,rfl⟩:=hy;cases ru;exact ll k1 m1 e
end
section
variable {X:Cx}
theorem qDT (hu:X.A.units+64<cLine):OpR X (compareOp .Eq) (rB X.K .eq):=by
 rintro pins s σ H x y v u Q I rx ry ⟨w,ρ,h,d,e,r,hd,he,p⟩
 have p:PostV X.K w Q ρ H (match eqD h 40 d e with | some b=>.ok (.bl b) h | none=>.bad):=p
 cases q:eqD h 40 d e with
 | none=>rw [q] at p;exact False.elim p
 | some b =>
  rw [q] at p
  exact gK I r 40 d e b x y v u X.A q hd he rx ry (by omega) X.prog X.w X.xe _ ⟨.bl b,H,I,rfl,PostV.now p r rfl⟩
theorem qDK (hu:X.A.units+64<cLine):OpR X (compareOp .NotEq) (rB X.K .ne):=by
 rintro pins s σ H x y v u Q I rx ry ⟨w,ρ,h,d,e,r,hd,he,p⟩
 have p:PostV X.K w Q ρ H (match eqD h 40 d e with | some b=>.ok (.bl (!b)) h | none=>.bad):=p
 cases q:eqD h 40 d e with
 | none=>rw [q] at p;exact False.elim p
 | some b =>
  rw [q] at p
  exact qEQ I r 39 d e b x y v u X.A q hd he rx ry (by omega) X.prog X.w X.xe _ ⟨.bl (!b),H,I,rfl,PostV.now p r rfl⟩
end
end Fy
set_option Elab.async false
set_option linter.all false
set_option maxRecDepth 100000
set_option maxHeartbeats 4000000
namespace Fy
open PySem PySem.Spec PyProof.Rows PySem.StrLaws Builtin.Str
open L2 (V Hp HO VK TE TT TA TS TI Cx Inv RelV Vals SqL SqT Rd upd qF qD PE PT PA PS PSs EP OpR CallR IxR MtR SlR PO TO PI PG PIE Turn qJ Ends)
theorem yF (n d:Nat) (o:Option Int):qO n d o=HT.sIx n d o:=by cases o <;> rfl
theorem pS (xs:List V) (lo hi:Option Int):L2.cutV xs lo hi=qS xs lo hi:=by
 unfold L2.cutV qS
 rw [yF,yF]
theorem pU (n d:Nat) (hd:d≤n) (o:Option Int):qO n d o≤n:=by rw [yF];exact HT.sIx_le n d hd o
theorem RepL.cut {K:PySem.W.Frag} {ρ:List Addr} {H:Hp} {xs:List D} {vs:List V} (l:RepL K ρ H xs vs) (lo hi:Option Int):RepL K ρ H (qS xs lo hi) (qS vs lo hi):=by
 unfold qS
 rw [l.length]
 exact (l.drop _).take _
theorem nH (lo hi:Option Int) (n:Nat):strSliceIndices lo hi 1 n=(List.range (qO n n hi-qO n 0 lo)).map fun k=>qO n 0 lo+k:=by
 have c1:(match lo with | none=>(0:Int) | some i=>max 0 (min (if i<0 then i+(n:Int) else i) (n:Int)))=(qO n 0 lo:Int):=by
  cases lo with
  | none=>rfl
  | some v=>unfold qO;simp only;split <;> omega
 have c2:(match hi with | none=>(n:Int) | some i=>max 0 (min (if i<0 then i+(n:Int) else i) (n:Int)))=(qO n n hi:Int):=by
  cases hi with
  | none=>rfl
  | some v=>unfold qO;simp only;split <;> omega
 have e:strSliceIndices lo hi 1 n=sliceRange (qO n 0 lo:Int) (qO n n hi:Int) 1:=by
  rw [← c1,← c2]
  unfold strSliceIndices
  cases lo <;> cases hi <;> simp
 rw [e]
 unfold sliceRange
 simp only [show (1:Int) > 0 from by decide,if_true]
 by_cases hlt:(qO n 0 lo:Int)<(qO n n hi:Int)
 ·rw [if_pos hlt]
  have e3:(((qO n n hi:Int)-(qO n 0 lo:Int)+1-1) / 1).toNat=qO n n hi-qO n 0 lo:=by
   rw [Int.ediv_one]
   omega
  rw [e3]
  refine List.map_congr_left fun k _=>?_
  omega
 ·rw [if_neg hlt]
  have:qO n n hi-qO n 0 lo=0:=by omega
  rw [this]
  rfl
theorem qB4 (x:Tx) (lo hi:Option Int):Txt.slice ⟨x.toArray⟩ lo hi=⟨(qS x lo hi).toArray⟩:=by
 have hl:(⟨x.toArray⟩:Str).length=x.length:=zK x
 have a1:=pU x.length 0 (Nat.zero_le _) lo
 have a2:=pU x.length x.length (Nat.le_refl _) hi
 have pk:((strSliceIndices lo hi 1 (⟨x.toArray⟩:Str).length).filterMap ((⟨x.toArray⟩:Str).cps[·]?))=qS x lo hi:=by
  rw [hl,nH]
  unfold qS
  by_cases hc:qO x.length 0 lo≤qO x.length x.length hi
  ·have:=picks x (qO x.length x.length hi-qO x.length 0 lo) (qO x.length 0 lo) (by omega)
   simpa using this
  ·have:qO x.length x.length hi-qO x.length 0 lo=0:=by omega
   rw [this]
   simp
 unfold Txt.slice
 split
 ·rename_i hc
  have hc':(strSliceIndices lo hi 1 (⟨x.toArray⟩:Str).length).length=x.length:=by simpa [hl] using hc
  rw [hl,nH,List.length_map,List.length_range] at hc'
  have e:qS x lo hi=x:=by
   unfold qS
   have z:qO x.length 0 lo=0:=by omega
   rw [z,List.drop_zero]
   exact List.take_of_length_le (by omega)
  rw [e]
 ·rw [pk]
section
open HT
variable {prog:Program} {w:World} {A:Around} {E:Value→Shared→Prop} {s:Shared}
theorem qAq {t sl:Addr} {items:Array Value} {vl vu:Value} {lo hi:Option Int} {Q:Value→Shared→Prop} (ht:IsTup s.heap t items) (hs:s.heap.IsSliceOf sl vl vu .none) (pl:IsPart vl lo) (pu:IsPart vu hi)
  (hw:sIx items.size 0 lo=0∧sIx items.size items.size hi=items.size) (h:Q (.ref t) s):wpAny (model prog w) A (getItem (.ref t) (.ref sl)) Q E s:=by
 obtain ⟨os,hos,hcs,hds⟩:=id hs
 have hTs:s.TypeIs (.ref sl) "slice":=⟨os,hos,hcs⟩
 unfold getItem
 try with_reducible refine wpAny_holding ?_
 first | refine wpAny_bind (wpAny_pure ?_) | skip
 refine wpAny_bind (wpAny_sequenceKey ht.typeIs (by decide) ?_)
 refine wpAny_bind (wpAny_callSpecial?_slot (name:=Str.ofString "__getitem__") ht.typeIs PyProof.Rows.slot_tuple_getitem
  (wpAny_call_entry PyProof.Rows.slot_tuple_getitem ht.typeIs entry_tuple_getitem ?_ (args_tuple_getitem _ _)))
 show wpAny _ _ (Builtin.Tuple.tupleItemsOf (.ref t) >>= _) _ _ s
 refine wpAny_bind (tupleItemsOf_ ht ?_)
 refine wpAny_bind (wpAny_typeOf hTs ?_)
 rw [if_pos (by decide)]
 refine wpAny_bind (iA hs pl pu ?_)
 have hno:((((sIx items.size 0 lo:Nat):Int) == 0&&(1:Int) == 1&&(sIx items.size items.size hi-sIx items.size 0 lo) == items.size)=true):=by
  rw [hw.1,hw.2]
  simp
 show wpAny _ _ (if (((sIx items.size 0 lo:Nat):Int) == 0&&(1:Int) == 1&&(sIx items.size items.size hi-sIx items.size 0 lo) == items.size)=true then _ else _) _ _ s
 rw [if_pos hno]
 refine wpAny_bind ?_
 unfold Builtin.Tuple.tupleIsExact
 refine wpAny_bind (wpAny_typeOf ht.typeIs (wpAny_pure ?_))
 rw [if_pos (by decide)]
 exact wpAny_bind (wpAny_rule (wpAny_pure ⟨_,rfl,wpAny_pure h⟩))
end
section
variable {X:Cx} {F:Nat→List D→M D} {W:WX}
theorem lJ {v:Value} {o:Option Int} (p:IsPart v o):∃ q:Option (Int × Tok),v=partValue q∧q.map (·.1)=o:=by
 cases p with
 | none=>exact ⟨none,rfl,rfl⟩
 | int i t=>exact ⟨some (i,t),rfl,rfl⟩
noncomputable def rSl (K:PySem.W.Frag):V→Option Int→Option Int→Hp→VK→Prop:=fun x lo hi H Q=>∃ (w:W1),∃ ρ h d,RepH K ρ h H∧RepV K ρ H d x∧PostV K w Q ρ H (slD d lo hi h)
theorem qB7:SlR X (rSl X.K):=by
 rintro pins s σ H x v vl vu lo hi sl Q I rx hs pl pu ⟨w,ρ,h,d,r,hd,p⟩
 unfold slD at p
 cases d with
 | str x =>
  cases hd
  obtain ⟨t,rfl⟩:=rx
  obtain ⟨hz,p⟩:=PostV.ite (c:=x.length≤16777216) p
  obtain ⟨ql,rfl,rfl⟩:=lJ pl
  obtain ⟨qu,rfl,rfl⟩:=lJ pu
  refine ⟨"str",_,F.slot_str_getitem.lookup,typeIs_str _ _ _,wpAny_getItem_str_slice (l:=ql) (u:=qu) (st:=none) hs rfl ?_⟩
  refine post_val_or_str ?_
  show (Txt.slice ⟨x.toArray⟩ (ql.map (·.1)) (qu.map (·.1))).length≤sizeLine∧∀ t' k,EP X pins σ Q (.str (Txt.slice ⟨x.toArray⟩ (ql.map (·.1)) (qu.map (·.1))) t') { s with toks:=k }
  refine ⟨Nat.le_trans (Txt.slice_le _ _ _) (by rw [zK,zJ];exact hz),fun t' k=>?_⟩
  rw [qB4]
  exact ⟨.str ⟨(qS x (ql.map fun z:Int × Tok=>z.1) (qu.map fun z:Int × Tok=>z.1)).toArray⟩,H,I.tok k,⟨t',rfl⟩,PostV.now p r rfl⟩
 | tup xs =>
  obtain ⟨a,vs,rfl,h1,h2⟩:=hd
  by_cases hw:HT.sIx vs.length 0 lo=0∧HT.sIx vs.length vs.length hi=vs.length
  ·cases rx
   obtain ⟨its,rv,ht,hz⟩:=I.tuple h1
   refine ⟨"tuple",_,PyProof.Rows.slot_tuple_getitem.lookup,ht.typeIs,qAq ht hs pl pu (by rw [List.size_toArray,← rv.length];exact hw) ?_⟩
   refine ⟨.ref a,H,I,rfl,PostV.now p r ⟨a,vs,rfl,h1,?_⟩⟩
   have e:qS xs lo hi=xs:=by
    unfold qS
    rw [yF,yF,← h2.length,hw.1,hw.2,List.drop_zero,Nat.sub_zero,h2.length]
    exact List.take_length
   rw [e]
   exact h2
  ·exact L2.sl_tup pins s σ H _ v vl vu lo hi sl Q I rx hs pl pu ⟨a,vs,rfl,h1,hw,by rw [pS];exact PostV.newT p r (h2.cut lo hi)⟩
 | ref i =>
  simp only at p
  cases q:getL h i with
  | none=>rw [q] at p;exact False.elim p
  | some xs =>
   rw [q] at p
   obtain ⟨a,vs,rfl,h1,h2⟩:=r.seen q hd
   exact L2.sl_list pins s σ H _ v vl vu lo hi sl Q I rx hs pl pu ⟨a,vs,rfl,h1,by rw [pS];exact (PostV.newL p r (h2.cut lo hi)).2⟩
 | _=>exact (show False from p).elim
noncomputable def tDP (K:PySem.W.Frag) (W:WX) (m:Env→M (Option Int)):TO:=fun σ H Q=>∃ ρ env h,RepS K ρ H env σ∧RepH K ρ h H∧Post K (W.at σ) (fun _ H' o=>Q o H') ρ H (m env h)
theorem PO.imp {o:Option Expr} {t t':TO} (h:PO X o t) (i:∀ σ H Q,t' σ H Q→t σ H Q):PO X o t':=fun pins s σ H Q I q=>h pins s σ H Q I (i σ H Q q)
theorem qHS:PO X none (tDP X.K W (jM F .no)):=PO.imp L2.po_none fun σ H Q t=>by
 obtain ⟨ρ,env,h,s,r,p⟩:=t
 rw [jM] at p
 exact Post.ret p r
theorem qHT {e:Expr} {c:CE} (he:PE X e (tD X.K W (den F c))):PO X (some e) (tDP X.K W (jM F (.at c))):=PO.imp (L2.po_some he) fun σ H Q t=>by
 obtain ⟨ρ,env,h,s,r,p⟩:=t
 rw [jM] at p
 refine ⟨ρ,env,h,s,r,Post.bind p fun ρ1 h1 d H1 e1 r1 q v hv=>?_⟩
 cases d with
 | int i=>cases hv;exact ⟨i,rfl,Post.ret (a:=some i) q r1⟩
 | _=>exact False.elim q
theorem qHo {a:Expr} {lo hi:Option Expr} {ca:CE} {cl ch:CP} {p2 pos:Pos} (ha:PE X a (tD X.K W (den F ca))) (hl:PO X lo (tDP X.K W (jM F cl))) (hh:PO X hi (tDP X.K W (jM F ch))) :
  PE X (.Subscript a (.Slice lo hi none p2) pos) (tD X.K W (den F (.sl ca cl ch))):=PE.imp (L2.pe_slice qB7 ha hl hh) fun σ H Q t=>by
 obtain ⟨ρ,env,h,s,r,p⟩:=t
 rw [den] at p
 exact ⟨ρ,env,h,s,r,Post.bind p fun ρ1 h1 d H1 e1 r1 q v hv=>⟨ρ1,env,h1,s.mono e1,r1,Post.bind q fun ρ2 h2 l H2 e2 r2 q2=>⟨ρ2,env,h2,(s.mono e1).mono e2,r2,Post.bind q2 fun ρ3 h3 u H3 e3 r3 q3=>⟨_,ρ3,h3,d,r3,(hv.mono e2 _ _).mono e3 _ _,q3⟩⟩⟩⟩
end
end Fy
set_option Elab.async false
set_option linter.all false
set_option maxRecDepth 100000
set_option maxHeartbeats 4000000
namespace Fy
open PySem PySem.Spec PyProof.Rows
open L2 (V Hp HO VK TE TT TA TS TI Cx Inv RelV Vals SqL SqT Rd upd qF qD PE PT PA PS PSs EP OpR CallR IxR MtR SlR PO TO PI PG PIE Turn qJ Ends)
noncomputable def tyS:Ty→String
 | .int=>"int" | .str=>"str" | .bool=>"bool" | .list=>"list" | .tuple=>"tuple"
section
variable (K:PySem.W.Frag)
theorem qFN (t:Ty):PySem.W.kitOne K (.type "NoneType") (.type (tyS t))=some false:=by cases t <;> first | rfl | kernel_rfl
theorem qFQ (t:Ty):PySem.W.kitOne K (.type "bool") (.type (tyS t))=some (t == .bool || t == .int):=by cases t <;> first | rfl | kernel_rfl
theorem qFP (t:Ty):PySem.W.kitOne K (.type "int") (.type (tyS t))=some (t == .int):=by cases t <;> first | rfl | kernel_rfl
theorem qFM (t:Ty):PySem.W.kitOne K (.type "str") (.type (tyS t))=some (t == .str):=by cases t <;> first | rfl | kernel_rfl
theorem qFL (t:Ty):PySem.W.kitOne K (.type "tuple") (.type (tyS t))=some (t == .tuple):=by cases t <;> first | rfl | kernel_rfl
theorem qFO (t:Ty):PySem.W.kitOne K (.type "list") (.type (tyS t))=some (t == .list):=by cases t <;> first | rfl | kernel_rfl
end
section
variable {X:Cx} {F:Nat→List D→M D} {W:WX}
theorem qFn {pins:List (Addr × Obj)} {σ:L2.St} {H:Hp} {s:Shared} {ρ:List Addr} {h:AH} {t:Ty} {d:D} {x:V} {u:Value} {b:Bool} {A:Around} {E:Value→Shared→Prop} {Q:Value→Shared→Prop}
  (I:Inv X pins σ H s) (r:RepH X.K ρ h H) (hd:RepV X.K ρ H d x) (rx:RelV x u) (e:jK h t d=some b) (q:∀ tk,Q (.bool b) { s with toks:=tk }) :
  wpAny (model X.prog X.w) A (call (.builtin "isinstance") [u,.type (tyS t)]) Q E s:=by
 cases d with
 | non=>cases hd;cases e;cases (show u=Value.none from rx);exact PySem.W.kia_one PySem.W.kitx_none I.kIn True.intro (qFN _ t) (fun z=>nomatch z) q
 | bl c=>cases hd;cases e;cases (show u=Value.bool c from rx);exact PySem.W.kia_one PySem.W.kitx_bool I.kIn True.intro (qFQ _ t) (fun z=>nomatch z) q
 | int i=>cases hd;cases e;obtain ⟨tk,z⟩:=rx;cases z;exact PySem.W.kia_one PySem.W.kitx_int I.kIn True.intro (qFP _ t) (fun z=>nomatch z) q
 | str y=>cases hd;cases e;obtain ⟨tk,z⟩:=rx;cases z;exact PySem.W.kia_one PySem.W.kitx_str I.kIn True.intro (qFM _ t) (fun z=>nomatch z) q
 | tup ys =>
  obtain ⟨a,vs,rfl,h1,h2⟩:=hd
  cases e
  cases rx
  obtain ⟨its,_,⟨o,k1,k2,_⟩,_⟩:=I.tuple h1
  exact PySem.W.kia_one PySem.W.kitx_tuple I.kIn ⟨o,k1,k2⟩ (qFL _ t) (fun z=>nomatch z) q
 | ref i =>
  have e:(getL h i).map (fun _=>t == .list)=some b:=e
  cases z:getL h i with
  | none=>rw [z] at e;cases e
  | some ys =>
   rw [z] at e
   cases e
   obtain ⟨a,vs,rfl,h1,h2⟩:=r.seen z hd
   cases rx
   obtain ⟨its,_,pl,_⟩:=I.list h1
   obtain ⟨o,n,k1,k2,_⟩:=pl
   exact PySem.W.kia_one PySem.W.kitx_list I.kIn ⟨o,k1,k2⟩ (qFO _ t) (fun z=>nomatch z) q
noncomputable def qC3 (K:PySem.W.Frag) (t:Ty):List V→Hp→VK→Prop:=fun xs H Q=>∃ x,xs=[x,.ty (tyS t)]∧rU K (.isi t) x H Q
theorem qIf (t:Ty):CallR X (.builtin "isinstance") (qC3 X.K t):=by
 rintro pins s σ H xs us Q I rv ⟨x,rfl,w,ρ,h,d,r,hd,p⟩
 obtain ⟨u,w,rfl,ru,rw'⟩:=L2.Vals.two rv
 cases rw'
 have p:PostV X.K w Q ρ H (match jK h t d with | some b=>.ok (.bl b) h | none=>.bad):=p
 cases e:jK h t d with
 | none=>rw [e] at p;exact False.elim p
 | some b =>
  rw [e] at p
  exact qFn I r hd ru e fun tk=>⟨.bl b,H,I.tok tk,rfl,PostV.now p r rfl⟩
theorem qH2 {a:Expr} {ca:CE} {t:Ty} {x y:Str} {p1 p2 pos:Pos} (hx:x="isinstance") (hg:L2.Gl X x) (hm:X.mg x=none) (hgT:L2.Gl X y) (hmT:X.mg y=none) (hv:bootBuiltins y=some (.type (tyS t))) (hn:y≠"__name__") (hdb:(y == ("__debug__":Str))=false)
  (ha:PE X a (tD X.K W (den F ca))) (hst:starEach [a,.Name y p2] X.env=[(false,eval a X.env),(false,eval (.Name y p2) X.env)]):PE X (.Call (.Name x p1) [a,.Name y p2] [] pos) (tD X.K W (den F (.un (.isi t) ca))):=by
 subst hx
 refine PE.imp (L2.pe_callB (qIf t) hg hm boot_isinstance (L2.pa_cons ha (L2.pa_cons (L2.pe_bltn (v:=.ty (tyS t)) hgT hmT hv rfl hn hdb) L2.pa_nil (by rfl)) (by rw [hst];rfl)) (he:=by rw [hst];rfl)) fun σ H Q q=>?_
 obtain ⟨ρ,env,h,s,r',p⟩:=one q
 exact ⟨ρ,env,h,s,r',Post.imp p fun ρ' H' d q v hv=>⟨v,rfl,q v hv⟩⟩
theorem yD {o:Bi} {ca cb:CE} {e:Expr} {T:String} {r:V→List V→Hp→VK→Prop} (he:PE X e (L2.tBM X.K T r (tD X.K W (den F ca)) (L2.tCons (tD X.K W (den F cb)) L2.tNil)))
  (hty:∀ ρ h d v H,RepH X.K ρ h H→RepV X.K ρ H d v→∀ h',zL o d h=.ok () h'→h'=h∧L2.tyV X.K T v H) (hexc:∀ d h c h',zL o d h≠.exc c h') (hr:∀ x y H Q,rB X.K o x y H Q→r x [y] H Q):PE X e (tD X.K W (den F (.me o ca cb))):=PE.imp he fun σ H Q t=>by
 obtain ⟨ρ,env,h,s,r',p⟩:=t
 rw [den] at p
 refine ⟨ρ,env,h,s,r',Post.bind p fun ρ1 h1 d H1 e1 r1 q v hv=>?_⟩
 unfold M.bind at q
 cases z:zL o d h1 with
 | ok u h2 =>
  rw [z] at q
  obtain ⟨rfl,ty⟩:=hty ρ1 h1 d v H1 r1 hv _ z
  refine ⟨ty,ρ1,env,_,s.mono e1,r1,?_⟩
  exact Post.bind q fun ρ2 h2 d2 H2 e2 r2 q2 w hw=>hr v w H2 Q ⟨_,ρ2,h2,d,d2,r2,hv.mono e2 _ _,hw,q2⟩
 | exc c h2=>exact absurd z (hexc _ _ _ _)
 | bad=>rw [z] at q;exact False.elim q
theorem vN (o:Bi) (d:D) (h:AH) (c:Nat) (h':AH):zL o d h≠.exc c h':=by
 unfold zL
 intro z
 split at z
 all_goals first | cases z | (split at z <;> cases z)
theorem qIC {a b:Expr} {ca cb:CE} {x:Str} {apos cpos:Pos} (hx:x="append") (ha:PE X a (tD X.K W (den F ca))) (hb:PE X b (tD X.K W (den F cb))) (hbase:attributeBase a x X.env (eval a X.env)=eval a X.env) (hline:(apos.endLine == cpos.line)=true)
  (hst:starEach [b] X.env=[(false,eval b X.env)]):PE X (.Call (.Attribute a x apos) [b] [] cpos) (tD X.K W (den F (.me .append ca cb))):=by
 subst hx
 refine yD (L2.pe_bm PySem.F.plainAttrs_list PySem.F.slot_list_append PySem.F.type_list_append L2.mt_append ha (L2.pa_cons hb L2.pa_nil (by rw [hst];rfl)) hbase (by rw [hst];rfl) hline (by rw [hst];rfl)) (fun ρ h d v H r hv h' z=>?_) (vN _) (fun x y H Q z=>?_)
 ·cases d with
  | ref i =>
   have z:(match getL h i with | some _=>R.ok () h | none=>.bad)=.ok () h':=z
   cases e:getL h i with
   | none=>rw [e] at z;cases z
   | some xs =>
    rw [e] at z
    cases z
    obtain ⟨a,vs,rfl,h1,_⟩:=r.seen e hv
    exact ⟨rfl,.inl ⟨rfl,vs,h1⟩⟩
  | _=>cases z
 ·obtain ⟨w,ρ,h,d,e,r,hd,he,p⟩:=z
  cases d with
  | ref k =>
   have p:PostV X.K w Q ρ H (match h[k]? with | some (.lst xs)=>if xs.length<16777216 then .ok .non (h.set k (.lst (xs++[e]))) else .bad | _=>.bad):=p
   split at p
   ·rename_i xs q
    obtain ⟨hz,p⟩:=PostV.ite p
    obtain ⟨a,vs,rfl,ha,hH,hl⟩:=r.own q hd
    refine ⟨a,vs,y,rfl,rfl,hH,by rw [hl.length,zJ];exact hz,?_⟩
    have hl':RepL X.K ρ H (xs++[e]) (vs++[y]):=hl.append ⟨y,[],rfl,he,rfl⟩
    exact p ρ _ (Step.turn hH rfl (List.mem_of_getElem? ha)) (r.setList q ha hH hl') _ rfl
   ·exact False.elim p
  | _=>exact (show False from p).elim
theorem uU {K:PySem.W.Frag} {ρ:List Addr} {H:Hp}:∀ {ds:List D} {vs:List V} {ns:List Int},zN ds=some ns→RepL K ρ H ds vs→vs=ns.map V.int
 | [],_,_,e,h=>by cases e;cases h;rfl
 | d::ds,_,ns,e,⟨v,vs,hv,h1,h2⟩=>by
  subst hv
  cases d with
  | int b =>
   unfold zN at e
   cases q:zN ds with
   | none=>rw [q] at e;cases e
   | some cs =>
    rw [q] at e
    cases e
    cases h1
    rw [List.map_cons,uU q h2]
  | _=>cases e
theorem oJ (a:Int) (ns:List Int):L2.inV (.int a) (ns.map V.int)=ns.contains a:=by
 unfold L2.inV
 rw [List.any_map,List.contains_eq_any_beq]
 congr 1
 funext i
 show L2.eqV (.int i) (.int a)=(a == i)
 rw [Bool.eq_iff_iff]
 simp [L2.eqV]
 exact eq_comm
theorem pC (ns:List Int):(ns.map V.int).all L2.flatV=true:=by
 rw [List.all_map,List.all_eq_true]
 intro _ _
 rfl
theorem tH {f:D→Option Bool}:∀ {xs:List D} {b:Bool},jO f xs=some b→∃ g:Nat→Bool,(∀ k (hk:k<xs.length),f xs[k]=some (g k))∧(b=true↔∃ k,k<xs.length∧g k=true)
 | [],b,h=>by cases h;exact ⟨fun _=>false,fun k hk=>absurd hk (Nat.not_lt_zero k),by simp⟩
 | x::xs,b,h=>by
  unfold jO at h
  cases q:f x with
  | none=>rw [q] at h;cases h
  | some a =>
   cases z:jO f xs with
   | none=>rw [q,z] at h;cases h
   | some c =>
    rw [q,z] at h
    cases h
    obtain ⟨g,h1,h2⟩:=tH z
    refine ⟨fun k=>match k with | 0=>a | k+1=>g k,fun k hk=>?_,?_⟩
    ·cases k with
     | zero=>exact q
     | succ k=>exact h1 k (by simpa using hk)
    ·rw [Bool.or_eq_true,h2]
     constructor
     ·rintro (z | ⟨k,k1,k2⟩)
      ·exact ⟨0,by simp,z⟩
      ·exact ⟨k+1,by simpa using k1,k2⟩
     ·rintro ⟨k,k1,k2⟩
      cases k with
      | zero=>exact .inl k2
      | succ k=>exact .inr ⟨k,by simpa using k1,k2⟩
open Classical in
theorem qF7 {pins:List (Addr × Obj)} {s:Shared} {σ:L2.St} {H:Hp} {ρ:List Addr} {h:AH} (I:Inv X pins σ H s) (r:RepH X.K ρ h H) (hu:X.A.units+64<cLine) {a:Addr} {vs:List V} {ds:List D} {d:D} {x:V} {v u:Value} {b:Bool} {Q:VK} (h1:SqL X.K H a vs) (h2:RepL X.K ρ H ds vs) (hd:RepV X.K ρ H d x) (rx:RelV x v) (ry:RelV (.ref a) u)
  (qb:jO (fun x=>qK h x d) ds=some b) (p:Q (.bl b) H):wpAny (model X.prog X.w) X.A (compareOp .In v u) (L2.EP X pins σ Q) X.xe s:=by
 cases ry
 obtain ⟨its,rr,pl,hz⟩:=I.list h1
 obtain ⟨g,g1,g2⟩:=tH qb
 have l1:=rr.length
 have l2:=h2.length
 have at':∀ k (hk:k<its.length),SeqAt.EqAt X.A.in1 s its[k] v (g k):=fun k hk=>by
  have q1:ds[k]?=some (ds[k]'(by omega)):=by simp
  obtain ⟨w1,p1,p2⟩:=h2.get q1
  obtain ⟨u1,p5,p6⟩:=rr.get p1
  have f1:its[k]'hk=u1:=by
   have:its[k]?=some (its[k]'hk):=by simp
   rw [this] at p5
   simpa using p5
  rw [f1]
  exact pK I r 40 (gK I r 40) _ d _ w1 x u1 v X.A.in1 (g1 k (by omega)) p2 hd p6 rx (by show X.A.units+1+40<cLine;omega)
 refine SeqAt.in_listAt (fun w=>decide (∃ k,∃ hk:k<its.length,its[k]=w∧g k=true)) pl.isList (fun w hw=>?_) ⟨.bl b,H,I,?_,p⟩
 ·by_cases z:∃ k,∃ hk:k<its.length,its[k]=w∧g k=true
  ·rw [decide_eq_true z]
   obtain ⟨k,hk,rfl,e⟩:=z
   have:=at' k hk
   rw [e] at this
   exact this
  ·rw [decide_eq_false z]
   obtain ⟨k,hk,rfl⟩:=List.mem_iff_getElem.mp (show w∈its by simpa using hw)
   have:=at' k hk
   rw [show g k=false from Bool.eq_false_iff.mpr fun e=>z ⟨k,hk,rfl,e⟩] at this
   exact this
 ·show Value.bool _=Value.bool _
  congr 1
  rw [Bool.eq_iff_iff,g2]
  simp only [List.any_toArray,List.any_eq_true,decide_eq_true_eq]
  constructor
  ·rintro ⟨w,hw,k,hk,_,e⟩
   exact ⟨k,by omega,e⟩
  ·rintro ⟨k,hk,e⟩
   exact ⟨its[k]'(by omega),List.getElem_mem _,k,by omega,rfl,e⟩
theorem fJ {K:PySem.W.Frag} {ρ:List Addr} {H:Hp}:∀ {ds:List D} {vs:List V} {ns:List Tx},qQ ds=some ns→RepL K ρ H ds vs→vs=ns.map fun y=>V.str ⟨y.toArray⟩
 | [],_,_,e,h=>by cases e;cases h;rfl
 | d::ds,_,ns,e,⟨v,vs,hv,h1,h2⟩=>by
  subst hv
  cases d with
  | str b =>
   unfold qQ at e
   cases q:qQ ds with
   | none=>rw [q] at e;cases e
   | some cs =>
    rw [q] at e
    cases e
    cases h1
    rw [List.map_cons,fJ q h2]
  | _=>cases e
theorem qF6 (a:Tx) (ns:List Tx):L2.inV (.str ⟨a.toArray⟩) (ns.map fun y=>V.str ⟨y.toArray⟩)=ns.contains a:=by
 unfold L2.inV
 rw [List.any_map,List.contains_eq_any_beq]
 congr 1
 funext i
 show L2.eqV (.str ⟨i.toArray⟩) (.str ⟨a.toArray⟩)=(a == i)
 rw [Bool.eq_iff_iff]
 simp [L2.eqV]
 exact eq_comm
theorem qGk (ns:List Tx):(ns.map fun y=>V.str ⟨y.toArray⟩).all L2.flatV=true:=by
 rw [List.all_map,List.all_eq_true]
 intro _ _
 rfl
theorem qDP (hu:X.A.units+64<cLine):OpR X (compareOp .In) (rB X.K .isin):=by
 rintro pins s σ H x y v u Q I rx ry ⟨w,ρ,h,d,e,r,hd,he,p⟩
 cases d with
 | str a =>
  cases e with
  | str b =>
   cases hd;cases he
   match a,p,rx with
   | [c],p,rx =>
    obtain ⟨t,rfl⟩:=rx
    obtain ⟨t',rfl⟩:=ry
    refine PyProof.Rows.in_str ?_
    refine ⟨.bl (b.contains c),H,I,?_,PostV.now (h:=h) p r rfl⟩
    show Value.bool _=Value.bool _
    have e1:(⟨[c].toArray⟩:Str)=⟨#[c]⟩:=rfl
    rw [e1,PySem.StrLaws.found_one]
    congr 1
    rw [Bool.eq_iff_iff]
    simp
   | [],p,_=>exact (show False from p).elim
   | _::_::_,p,_=>exact (show False from p).elim
  | tup ds =>
   have p:PostV X.K w Q ρ H (match qQ ds with | some ys=>.ok (.bl (ys.contains a)) h | none=>.bad):=p
   cases q:qQ ds with
   | none=>rw [q] at p;exact False.elim p
   | some ys =>
    rw [q] at p
    obtain ⟨l,vs,rfl,h1,h2⟩:=he
    have hv:=fJ q h2
    subst hv
    cases hd
    refine L2.op_in_seq pins s σ H _ _ v u Q I rx ry ⟨l,_,rfl,.inr h1,rfl,qGk ys,?_⟩
    show Q (.bl (L2.inV (.str ⟨a.toArray⟩) (ys.map fun y=>V.str ⟨y.toArray⟩))) H
    rw [qF6]
    exact PostV.now (h:=h) p r rfl
  | _=>exact (show False from p).elim
 | int c =>
  cases e with
  | ref i =>
   have p:PostV X.K w Q ρ H (match (getL h i).bind zN with | some xs=>.ok (.bl (xs.contains c)) h | none=>kB i (.int c) h):=p
   cases q1:(getL h i).bind zN with
   | none=>rw [q1] at p;exact qF8 (ky:=.int c) I r hd he rx ry p
   | some ns =>
    rw [q1] at p
    cases q:getL h i with
    | none=>rw [q] at q1;cases q1
    | some ds =>
     rw [q] at q1
     obtain ⟨a,vs,rfl,h1,h2⟩:=r.seen q he
     have hv:=uU q1 h2
     subst hv
     cases hd
     refine L2.op_in_seq pins s σ H _ _ v u Q I rx ry ⟨a,_,rfl,.inl h1,rfl,pC ns,?_⟩
     show Q (.bl (L2.inV (.int c) (ns.map V.int))) H
     rw [oJ]
     exact PostV.now (h:=h) p r rfl
  | _=>exact (show False from p).elim
 | tup as =>
  cases e with
  | ref i =>
   have p:PostV X.K w Q ρ H (match (getL h i).bind (jO fun x=>qK h x (.tup as)) with | some b=>.ok (.bl b) h | none=>.bad):=p
   cases q:getL h i with
   | none=>rw [q] at p;exact False.elim p
   | some ds =>
    rw [q] at p
    have p:PostV X.K w Q ρ H (match jO (fun x=>qK h x (.tup as)) ds with | some b=>.ok (.bl b) h | none=>.bad):=p
    cases qb:jO (fun x=>qK h x (.tup as)) ds with
    | none=>rw [qb] at p;exact False.elim p
    | some b =>
     rw [qb] at p
     obtain ⟨a,vs,rfl,h1,h2⟩:=r.seen q he
     exact qF7 I r hu h1 h2 hd rx ry qb (PostV.now (h:=h) p r rfl)
  | _=>exact (show False from p).elim
 | _=>exact (show False from p).elim
theorem qDJ:OpR X (compareOp .NotIn) (rB X.K .notin):=by
 rintro pins s σ H x y v u Q I rx ry ⟨w,ρ,h,d,e,r,hd,he,p⟩
 cases d with
 | str a =>
  cases e with
  | str b =>
   cases hd;cases he
   match a,p,rx with
   | [c],p,rx =>
    obtain ⟨t,rfl⟩:=rx
    obtain ⟨t',rfl⟩:=ry
    refine PyProof.Rows.notIn_str ?_
    refine ⟨.bl (!b.contains c),H,I,?_,PostV.now (h:=h) p r rfl⟩
    show Value.bool _=Value.bool _
    have e1:(⟨[c].toArray⟩:Str)=⟨#[c]⟩:=rfl
    rw [e1,PySem.StrLaws.found_one]
    congr 2
    rw [Bool.eq_iff_iff]
    simp
   | [],p,_=>exact (show False from p).elim
   | _::_::_,p,_=>exact (show False from p).elim
  | _=>exact (show False from p).elim
 | int c =>
  cases e with
  | ref i =>
   have p:PostV X.K w Q ρ H (match (getL h i).bind zN with | some xs=>.ok (.bl (!xs.contains c)) h | none=>kA i (.int c) h):=p
   cases q1:(getL h i).bind zN with
   | none=>rw [q1] at p;exact qEF (ky:=.int c) I r hd he rx ry p
   | some ns =>
    rw [q1] at p
    cases q:getL h i with
    | none=>rw [q] at q1;cases q1
    | some ds =>
     rw [q] at q1
     obtain ⟨a,vs,rfl,h1,h2⟩:=r.seen q he
     have hv:=uU q1 h2
     subst hv
     cases hd
     refine L2.op_notIn_seq pins s σ H _ _ v u Q I rx ry ⟨a,_,rfl,.inl h1,rfl,pC ns,?_⟩
     show Q (.bl (!L2.inV (.int c) (ns.map V.int))) H
     rw [oJ]
     exact PostV.now (h:=h) p r rfl
  | _=>exact (show False from p).elim
 | _=>exact (show False from p).elim
theorem qF0 {ρ:List Addr} {H:Hp} {h:AH} {b:Bool} {d:D} {v:V} {u:Value} {Q:VK} {w:W1} (r:RepH X.K ρ h H) (hd:RepV X.K ρ H d v) (rv:RelV v u) (p:PostV X.K w Q ρ H (unD (.isB b) d h)):∃ k,((u == Value.bool b)=k)∧Q (.bl k) H:=by
 cases d with
 | bl c =>
  cases hd
  cases rv
  refine ⟨_,rfl,PostV.now (h:=h) (d:=.bl (b == c)) p r ?_⟩
  cases b <;> cases c <;> rfl
 | non=>cases hd;cases rv;exact ⟨_,rfl,PostV.now (h:=h) (d:=.bl false) p r rfl⟩
 | int i=>cases hd;obtain ⟨t,rfl⟩:=rv;exact ⟨_,rfl,PostV.now (h:=h) (d:=.bl false) p r rfl⟩
 | str x=>cases hd;obtain ⟨t,rfl⟩:=rv;exact ⟨_,rfl,PostV.now (h:=h) (d:=.bl false) p r rfl⟩
 | tup xs=>exact (show False from p).elim
 | ref i=>exact (show False from p).elim
noncomputable def fH (K:PySem.W.Frag) (b:Bool) (ta:TE):TE:=fun σ H Q=>ta σ H fun x H1=>rU K (.isB b) x H1 Q
theorem lH {a:Expr} {ta:TE} {b:Bool} {j:Nat} {pos':Pos} (ha:PE X a ta):L2.PC X .Is a (.Constant (.bool b) j pos') (fH X.K b ta):=by
 intro pins s σ H Q I h
 refine L2.thn (ha pins s σ H _ I h) fun v s1 ⟨x,H1,I1,r1,w,ρ,hh,d,r,hd,p⟩=>?_
 obtain ⟨k,hk,q⟩:=qF0 r hd r1 p
 refine Constant_bool ?_
 have key:∀ Qv:Value→Shared→Prop,Qv (.bool (v == .bool b)) s1→wpAny (model X.prog X.w) X.A (compareOp .Is v (.bool b)) Qv X.xe s1:=by
  intro Qv hQ
  rcases bH hd r1 with rfl | ⟨c,rfl⟩ | ⟨c,t,rfl⟩ | ⟨c,t,rfl⟩ | ⟨c,rfl⟩ <;> exact wpAny_pure hQ
 refine key _ ⟨.bl k,H1,I1,by rw [hk];rfl,q⟩
theorem nV {b:Bool} {ca:CE} {σ:L2.St} {H:Hp} {Q:VK} (t:tD X.K W (den F (.un (.isB b) ca)) σ H Q):fH X.K b (tD X.K W (den F ca)) σ H Q:=one t
theorem qF1 {b:Bool} {ca:CE} (env:Env) (h:AH) (d:D) (h':AH) (e:den F (.un (.isB b) ca) env h=.ok d h'):∃ k,d=.bl k:=by
 rw [den] at e
 obtain ⟨x,g1,_,e⟩:=bind_ok e
 cases x <;> first | (cases e;exact ⟨_,rfl⟩) | cases e
theorem qH4 {a:Expr} {ca:CE} {b:Bool} {j:Nat} {pos pos':Pos} (ha:PE X a (tD X.K W (den F ca))):PE X (.Compare a [.Is] [.Constant (.bool b) j pos'] pos) (tD X.K W (den F (.un (.isB b) ca))):=PE.imp (L2.pe_cmp (lH ha)) fun σ H Q t=>nV t
theorem qHN {a:Expr} {ca:CE} {b:Bool} {j:Nat} {pos pos':Pos} (ha:PE X a (tD X.K W (den F ca))):PT X (.Compare a [.Is] [.Constant (.bool b) j pos'] pos) (tDT X.K W (qH F (.val (.un (.isB b) ca)))):=PT.imp (L2.pt_cmp (lH ha)) fun σ H Q t=>nV (wJ qF1 t)
theorem qED {ρ:List Addr} {H:Hp} {h:AH} {b:Bool} {d:D} {v:V} {u:Value} {Q:VK} {w:W1} (r:RepH X.K ρ h H) (hd:RepV X.K ρ H d v) (rv:RelV v u) (p:PostV X.K w Q ρ H (unD (.nsB b) d h)):∃ k,((!(u == Value.bool b))=k)∧Q (.bl k) H:=by
 cases d with
 | bl c =>
  cases hd
  cases rv
  refine ⟨_,rfl,PostV.now (h:=h) (d:=.bl (!(b == c))) p r ?_⟩
  cases b <;> cases c <;> rfl
 | non=>cases hd;cases rv;exact ⟨_,rfl,PostV.now (h:=h) (d:=.bl true) p r rfl⟩
 | int i=>cases hd;obtain ⟨t,rfl⟩:=rv;exact ⟨_,rfl,PostV.now (h:=h) (d:=.bl true) p r rfl⟩
 | str x=>cases hd;obtain ⟨t,rfl⟩:=rv;exact ⟨_,rfl,PostV.now (h:=h) (d:=.bl true) p r rfl⟩
 | tup xs=>exact (show False from p).elim
 | ref i=>exact (show False from p).elim
noncomputable def qBH (K:PySem.W.Frag) (b:Bool) (ta:TE):TE:=fun σ H Q=>ta σ H fun x H1=>rU K (.nsB b) x H1 Q
theorem lG {a:Expr} {ta:TE} {b:Bool} {j:Nat} {pos':Pos} (ha:PE X a ta):L2.PC X .IsNot a (.Constant (.bool b) j pos') (qBH X.K b ta):=by
 intro pins s σ H Q I h
 refine L2.thn (ha pins s σ H _ I h) fun v s1 ⟨x,H1,I1,r1,w,ρ,hh,d,r,hd,p⟩=>?_
 obtain ⟨k,hk,q⟩:=qED r hd r1 p
 refine Constant_bool ?_
 have key:∀ Qv:Value→Shared→Prop,Qv (.bool (!(v == .bool b))) s1→wpAny (model X.prog X.w) X.A (compareOp .IsNot v (.bool b)) Qv X.xe s1:=by
  intro Qv hQ
  rcases bH hd r1 with rfl | ⟨c,rfl⟩ | ⟨c,t,rfl⟩ | ⟨c,t,rfl⟩ | ⟨c,rfl⟩ <;> exact wpAny_pure hQ
 refine key _ ⟨.bl k,H1,I1,by rw [hk];rfl,q⟩
theorem qEE {b:Bool} {ca:CE} (env:Env) (h:AH) (d:D) (h':AH) (e:den F (.un (.nsB b) ca) env h=.ok d h'):∃ k,d=.bl k:=by
 rw [den] at e
 obtain ⟨x,g1,_,e⟩:=bind_ok e
 cases x <;> first | (cases e;exact ⟨_,rfl⟩) | cases e
theorem qHr {a:Expr} {ca:CE} {b:Bool} {j:Nat} {pos pos':Pos} (ha:PE X a (tD X.K W (den F ca))):PE X (.Compare a [.IsNot] [.Constant (.bool b) j pos'] pos) (tD X.K W (den F (.un (.nsB b) ca))):=PE.imp (L2.pe_cmp (lG ha)) fun σ H Q t=>one t
theorem qHJ {a:Expr} {ca:CE} {b:Bool} {j:Nat} {pos pos':Pos} (ha:PE X a (tD X.K W (den F ca))):PT X (.Compare a [.IsNot] [.Constant (.bool b) j pos'] pos) (tDT X.K W (qH F (.val (.un (.nsB b) ca)))):=PT.imp (L2.pt_cmp (lG ha)) fun σ H Q t=>one (wJ qEE t)
end
end Fy
set_option Elab.async false
set_option linter.all false
set_option maxRecDepth 100000
set_option maxHeartbeats 4000000
namespace Fy
open PySem PySem.Spec PyProof.Rows
open L2 (V Hp HO VK TE TT TA TS TI Cx Inv RelV Vals SqL SqT Rd upd qF qD PE PT PA PS PSs EP OpR CallR IxR MtR SlR PO TO)
section
variable {K:PySem.W.Frag} {ρ:List Addr} {H:Hp}
theorem RepK.drop (k:Ky):∀ {kvs:List (Ky × D)} {vs:List (L2.Key × V)},RepK K ρ H kvs vs→RepK K ρ H (zI kvs k) (L2.dropK vs (kyV k))
 | [],_,h=>by cases h;rfl
 | x::kvs,_,⟨v,r,rfl,h1,h2⟩=>by
  unfold zI L2.dropK
  by_cases e:x.1=k
  ·rw [List.filter_cons_of_neg (by simpa using e),List.filter_cons_of_neg (by simpa using kyV_inj.mpr e)]
   exact RepK.drop k h2
  ·rw [List.filter_cons_of_pos (by simpa using e),List.filter_cons_of_pos (by simpa using fun z=>e (kyV_inj.mp z))]
   exact ⟨v,_,rfl,h1,RepK.drop k h2⟩
end
section
variable {prog:Program} {w:World} {K:Type} [DecidableEq K] {knd:KeyKind prog w K} {A:Around} {E:Value→Shared→Prop} {s:Shared}
theorem qB9 {d:Addr} {kvs:List (K × Value)} {k:K} {key dflt:Value} {Q:Value→Shared→Prop} (hkey:knd.is k key=true) (hm:s.heap.DictOf knd d kvs) (hz:kvs.length≤sizeLine)
  (hthere:∀ v,valueAt kvs k=some v→Q v { s with toks:=s.toks+1 })
  (hnew:valueAt kvs k=none→∀ h',h'.DictOf knd d (stored kvs k dflt)→Heap.SameBut d s.heap h'→Q dflt { s with heap:=h',toks:=s.toks+1 }) :
  wpAny (model prog w) A (dictSetDefault d key dflt) Q E s:=by
 have hmm:=hm.mapOf
 obtain ⟨o,es,ep,ho,hc,hd,hk,hp,hn⟩:=hm
 have hes:es.size≤sizeLine:=by
  have e1:=hp.length
  have e2:es.toList.length=es.size:=by simp
  omega
 have hidx:(es.findIdx? fun e=>knd.is k e.key)=kvs.findIdx? fun kv=>decide (kv.1=k):=by
  rw [← hp.findIdx k]
  obtain ⟨l⟩:=es
  simp
 obtain ⟨o2,es2,ep2,ho2,hc2,hd2,hk2,hf2⟩:=hmm
 rw [ho] at ho2
 cases ho2
 rw [hd] at hd2
 cases hd2
 unfold dictSetDefault
 try with_reducible refine wpAny_holding ?_
 refine wpAny_bind (knd.pyHash hkey ?_)
 refine wpAny_bind (wpAny_dictFind_of (s:={ s with toks:=s.toks+1 }) hkey ho hd hk ?_)
 cases hi:es.findIdx? fun e=>knd.is k e.key with
 | some i =>
  have hfk:valueAt kvs k=(es[i]?).map (·.val):=by rw [← hf2 k,findBy_of_findIdx?,hi]
  refine wpAny_bind (wpAny_dictEntries (s:={ s with toks:=s.toks+1 }) ho hd ?_)
  cases he:es[i]? with
  | none =>
   have hlt:i<es.size:=(Array.findIdx?_eq_some_iff_findIdx_eq.mp hi).1
   rw [Array.getElem?_eq_getElem hlt] at he
   exact nomatch he
  | some e =>
   rw [he] at hfk
   exact wpAny_bind (wpAny_rule (wpAny_pure (hthere e.val hfk)))
 | none =>
  have hfk:valueAt kvs k=none:=by rw [← hf2 k,findBy_of_findIdx?,hi]
  have hnot:k∉kvs.map (·.1):=not_mem_of_findIdx_none (hidx ▸ hi)
  have hany:¬ (kvs.any fun kv=>decide (kv.1=k))=true:=by
   rw [List.any_eq_true]
   rintro ⟨kv,hkv,he⟩
   exact hnot (List.mem_map.mpr ⟨kv,hkv,of_decide_eq_true he⟩)
  have hst:stored kvs k dflt=kvs++[(k,dflt)]:=by rw [stored,if_neg hany]
  refine wpAny_bind (wpAny_rule (wpAny_bind (wpAny_updateDictKeys (hz:=hes) (s:={ s with toks:=s.toks+1 }) ho hd (wpAny_pure (hnew hfk _ (by
   rw [hst]
   refine ⟨_,_,ep+1,Heap.get?_update_self _ ho (Obj.isFreed_of_dict (Obj.data_mapDictKeys hd _)),hc.mapDictKeys _,Obj.data_mapDictKeys hd _,hk.push hkey _,?_,?_⟩
   ·have:=hp.append hkey (knd.hash k) dflt
    obtain ⟨l⟩:=es
    simpa using this
   ·rw [List.map_append,List.nodup_append]
    refine ⟨hn,by simp,?_⟩
    intro a ha b hb
    have hb:b=k:=by simpa using hb
    subst hb
    exact fun e=>hnot (e ▸ ha)) (Heap.SameBut.update ..))))))
end
section
variable {prog:Program} {w:World} {K:Type} [DecidableEq K]
theorem qCA (knd:KeyKind prog w K) (d:Addr) {k:K} {key:Value} (hkey:knd.is k key=true) (hd:(d == sysModules)=false) (dflt:Value) :
  MeetsIn prog w (Builtin.«dict.setdefault» ⟨[.ref d,key,dflt],[]⟩) (fun _ R s=>∃ kvs,s.heap.DictOf knd d kvs∧kvs.length≤sizeLine ∧
   (∀ v,valueAt kvs k=some v→R (.ok (.ret v)) { s with toks:=s.toks+1 }) ∧
   (valueAt kvs k=none→∀ h',h'.DictOf knd d (stored kvs k dflt)→Heap.SameBut d s.heap h'→R (.ok (.ret dflt)) { s with heap:=h',toks:=s.toks+1 })) :=
 .of_wp fun A R s ⟨kvs,hm,hz,h1,h2⟩=>by
  unfold Builtin.«dict.setdefault»
  refine wpAny_bind ?_
  unfold Builtin.Dict.keyAndDefault
  refine wpAny_bind (wpAny_notOrdered_dict hm.typeIs ?_)
  refine wpAny_pure ?_
  show wpAny _ _ (if (d == sysModules)=true then _ else (dictSetDefault d key dflt >>= _)) _ _ s
  rw [hd]
  exact wpAny_bind (qB9 hkey hm hz (fun v hv=>wpAny_pure ⟨v,rfl,h1 v hv⟩) fun hn h' hm' hs'=>wpAny_pure ⟨dflt,rfl,h2 hn h' hm' hs'⟩)
end
section
variable {X:Cx} {F:Nat→List D→M D} {W:WX}
theorem cG {ρ:List Addr} {h h':AH} {d:D} {v:V} {H:Hp} (r:RepH X.K ρ h H) (hv:RepV X.K ρ H d v) (z:zL .get d h=.ok () h'):h'=h∧L2.tyV X.K "dict" v H:=by
 cases d with
 | ref i =>
  have z:(match h[i]? with | some (.dct _)=>R.ok () h | _=>.bad)=.ok () h':=z
  split at z
  ·rename_i kvs q
   cases z
   obtain ⟨a,vs,rfl,_,h1,_⟩:=r.dict q hv
   exact ⟨rfl,.inr (.inr (.inl ⟨rfl,.inl ⟨vs,h1⟩⟩))⟩
  ·cases z
 | _=>cases z
theorem qH5 {a b:Expr} {ca cb:CE} {x:Str} {apos cpos:Pos} (hx:x="get") (ha:PE X a (tD X.K W (den F ca))) (hb:PE X b (tD X.K W (den F cb))) (hbase:attributeBase a x X.env (eval a X.env)=eval a X.env) (hline:(apos.endLine == cpos.line)=true)
  (hst:starEach [b] X.env=[(false,eval b X.env)]):PE X (.Call (.Attribute a x apos) [b] [] cpos) (tD X.K W (den F (.me .get ca cb))):=by
 subst hx
 have mt:L2.MtR X "dict.get" fun x ys H Q=>∃ y,ys=[y]∧rB X.K .get x y H Q:=by
  rintro pins s σ H x vs v us Q I rx rv ⟨y,rfl,w,ρ,h,d,e,r,hd,he,p⟩
  obtain ⟨u,rfl,ru⟩:=rv.one
  cases d with
  | ref k =>
   cases e with
   | int i =>
    have p:PostV X.K w Q ρ H (match h[k]? with | some (.dct kvs)=>.ok ((qG kvs (.int i)).getD .non) h | _=>.bad):=p
    split at p
    ·rename_i kvs q
     obtain ⟨a,ws,rfl,ha',hH,hk⟩:=r.dict q hd
     cases rx
     cases he
     obtain ⟨z,hd',os,rel,dd⟩:=L2.dk_rd I.hok (.inl hH)
     have ry:RelV (L2.kV (.inl i)) u:=ru
     refine call_meetsIn PySem.F.slot_dict_get dd.typeIs PySem.F.entry_dict_get (PySem.F.args_dict_get_2 _ _) (meets_dict_get (L2.mixKind X.prog X.w) a (L2.kV_is ry) hd') ⟨_,dd.mapOf,?_⟩
     have gv:=(rel.val (.inl i)).getD (d:=.non) (d':=.none) rfl
     rcases hk.val (.int i) with ⟨d,v',e1,e2,hv⟩ | ⟨e1,e2⟩
     ·rw [e1] at p
      have e2:L2.valV ws (Sum.inl i)=some v':=e2
      rw [e2] at gv
      exact ⟨v',H,I.tok _,gv,PostV.now p r hv⟩
     ·rw [e1] at p
      have e2:L2.valV ws (Sum.inl i)=none:=e2
      rw [e2] at gv
      exact ⟨.non,H,I.tok _,gv,PostV.now p r rfl⟩
    ·exact False.elim p
   | _=>exact (show False from p).elim
  | _=>exact (show False from p).elim
 exact yD (L2.pe_bm PySem.F.plainAttrs_dict PySem.F.slot_dict_get PySem.F.type_dict_get mt ha (L2.pa_cons hb L2.pa_nil (by rw [hst];rfl)) hbase (by rw [hst];rfl) hline (by rw [hst];rfl)) (fun ρ h d v H r hv h' z=>cG r hv z) (vN _) (fun x y H Q z=>⟨y,rfl,z⟩)
theorem d_pop {a b:Expr} {ca cb:CE} {x:Str} {apos cpos:Pos} (hx:x="pop") (ha:PE X a (tD X.K W (den F ca))) (hb:PE X b (tD X.K W (den F cb))) (hbase:attributeBase a x X.env (eval a X.env)=eval a X.env) (hline:(apos.endLine == cpos.line)=true)
  (hst:starEach [b] X.env=[(false,eval b X.env)]):PE X (.Call (.Attribute a x apos) [b] [] cpos) (tD X.K W (den F (.me .pop ca cb))):=by
 subst hx
 have mt:L2.MtR X "dict.pop" fun x ys H Q=>∃ y,ys=[y]∧rB X.K .pop x y H Q:=by
  rintro pins s σ H x vs v us Q I rx rv ⟨y,rfl,w,ρ,h,d,e,r,hd,he,p⟩
  obtain ⟨u,rfl,ru⟩:=rv.one
  cases d with
  | ref k =>
   cases e with
   | int i =>
    have p:PostV X.K w Q ρ H (match h[k]? with | some (.dct kvs)=>(match qG kvs (.int i) with | some d=>.ok d (h.set k (.dct (zI kvs (.int i)))) | none=>.bad) | _=>.bad):=p
    split at p
    ·rename_i kvs q
     obtain ⟨a,ws,rfl,ha',hH,hk⟩:=r.dict q hd
     cases rx
     cases he
     have ry:RelV (L2.kV (.inl i)) u:=ru
     rcases hk.val (.int i) with ⟨d,v',e1,e2,hv⟩ | ⟨e1,e2⟩
     ·rw [e1] at p
      have e2:L2.valV ws (Sum.inl i)=some v':=e2
      have stp:Step ρ H ρ (upd H a (.dK (L2.dropK ws (Sum.inl i)))):=Step.turn hH rfl (List.mem_of_getElem? ha')
      exact L2.d_pop (k:=Sum.inl i) I hH ry e2 (.inl rfl) fun w' s' I' rw'=>⟨v',_,I',rw',p ρ _ stp (r.setDict q ha' hH (hk.drop (.int i))) v' (hv.mono stp _ _)⟩
     ·rw [e1] at p
      exact False.elim p
    ·exact False.elim p
   | _=>exact (show False from p).elim
  | _=>exact (show False from p).elim
 exact yD (L2.pe_bm PySem.F.plainAttrs_dict PySem.F.slot_dict_pop PySem.F.type_dict_pop mt ha (L2.pa_cons hb L2.pa_nil (by rw [hst];rfl)) hbase (by rw [hst];rfl) hline (by rw [hst];rfl)) (fun ρ h d v H r hv h' z=>by cases d <;> exact cG r hv z) (vN _) (fun x y H Q z=>⟨y,rfl,z⟩)
theorem qHp {a b c:Expr} {ca cb cc:CE} {x:Str} {apos cpos:Pos} (hx:x="setdefault") (ha:PE X a (tD X.K W (den F ca))) (hb:PE X b (tD X.K W (den F cb))) (hc:PE X c (tD X.K W (den F cc))) (hbase:attributeBase a x X.env (eval a X.env)=eval a X.env) (hline:(apos.endLine == cpos.line)=true)
  (hst:starEach [b,c] X.env=[(false,eval b X.env),(false,eval c X.env)]) (hst2:starEach [c] X.env=[(false,eval c X.env)]):PE X (.Call (.Attribute a x apos) [b,c] [] cpos) (tD X.K W (den F (.setd ca cb cc))):=by
 subst hx
 have mt:L2.MtR X "dict.setdefault" fun x ys H Q=>∃ (y z:V) (w:W1) (ρ:List Addr) (h:AH) (d e f:D),ys=[y,z]∧RepH X.K ρ h H∧RepV X.K ρ H d x∧RepV X.K ρ H e y∧RepV X.K ρ H f z∧PostV X.K w Q ρ H (aU d e f h):=by
  rintro pins s σ H x vs v us Q I rx rv ⟨y,z,w,ρ,h,d,e,f,rfl,r,hd,he,hf,p⟩
  obtain ⟨u,u2,rfl,ru,ru2⟩:=L2.Vals.two rv
  cases d with
  | ref k =>
   cases e with
   | int i =>
    have p:PostV X.K w Q ρ H (match h[k]? with | some (.dct kvs)=>(match qG kvs (.int i) with | some x=>.ok x h | none=>if kvs.length<16777216 then .ok f (h.set k (.dct (zU kvs (.int i) f))) else .bad) | _=>.bad):=p
    split at p
    ·rename_i kvs q
     obtain ⟨a,ws,rfl,ha',hH,hk⟩:=r.dict q hd
     cases rx
     cases he
     obtain ⟨z0,hd',os,rel,dd⟩:=L2.dk_of I.hok hH
     have ry:RelV (L2.kV (.inl i)) u:=ru
     have hz0:os.length≤sizeLine:=by rw [← rel.length];exact z0
     refine call_meetsIn PySem.F.slot_dict_setdefault dd.typeIs PySem.F.entry_dict_setdefault (PySem.F.args_dict_setdefault_3 _ _ _) (qCA (L2.mixKind X.prog X.w) a (L2.kV_is ry) hd' u2) ⟨os,dd,hz0,fun v hv=>?_,fun hn h' dd' hs=>?_⟩
     ·have gv:=rel.val (.inl i)
      rw [hv] at gv
      rcases hk.val (.int i) with ⟨d,v',e1,e2,hv'⟩ | ⟨e1,e2⟩
      ·rw [e1] at p
       have e2:L2.valV ws (Sum.inl i)=some v':=e2
       rw [e2] at gv
       exact ⟨v',H,I.tok _,gv,PostV.now p r hv'⟩
      ·have e2:L2.valV ws (Sum.inl i)=none:=e2
       rw [e2] at gv
       exact (show False from gv).elim
     ·have gv:=rel.val (.inl i)
      rw [hn] at gv
      rcases hk.val (.int i) with ⟨d,v',e1,e2,hv'⟩ | ⟨e1,e2⟩
      ·have e2:L2.valV ws (Sum.inl i)=some v':=e2
       rw [e2] at gv
       exact (show False from gv).elim
      ·rw [e1] at p
       obtain ⟨hlt,p⟩:=PostV.ite p
       have stp:Step ρ H ρ (upd H a (.dK (L2.putK ws (Sum.inl i) z))):=Step.turn hH rfl (List.mem_of_getElem? ha')
       have hl:(L2.putK ws (Sum.inl i) z).length≤sizeLine:=by
        have h1:=L2.length_putK ws (Sum.inl i) z
        have h2:=hk.length
        rw [zJ]
        omega
       have he:∃ q,h'.get? a=some q:=let ⟨q,_,_,hq,_⟩:=dd';⟨q,hq⟩
       exact ⟨z,_,L2.d_write I (by rw [hH];exact True.intro) hs he (L2.dk_new hl hd' (rel.put (.inl i) ru2) dd'),ru2,p ρ _ stp (r.setDict q ha' hH (hk.put (.int i) hf)) z (hf.mono stp _ _)⟩
    ·exact False.elim p
   | _=>exact (show False from p).elim
  | _=>exact (show False from p).elim
 refine PE.imp (L2.pe_bm PySem.F.plainAttrs_dict PySem.F.slot_dict_setdefault PySem.F.type_dict_setdefault mt ha (L2.pa_cons hb (L2.pa_cons hc L2.pa_nil (by rw [hst2];rfl)) (by rw [hst,hst2])) hbase (by rw [hst];rfl) hline (by rw [hst,hst2]) (by rw [hst2];rfl)) fun σ H Q t=>?_
 obtain ⟨ρ,env,h,s,r',p⟩:=t
 rw [den] at p
 refine ⟨ρ,env,h,s,r',Post.bind p fun ρ1 h1 d H1 e1 r1 q v hv=>?_⟩
 unfold M.bind at q
 cases z:zL .get d h1 with
 | ok u h2 =>
  rw [z] at q
  obtain ⟨rfl,ty⟩:=cG r1 hv z
  refine ⟨ty,ρ1,env,_,s.mono e1,r1,?_⟩
  exact Post.bind q fun ρ2 h2 d2 H2 e2 r2 q2 w hw=>⟨ρ2,env,h2,(s.mono e1).mono e2,r2,Post.bind q2 fun ρ3 h3 d3 H3 e3 r3 q3 w3 hw3=>⟨w,w3,_,ρ3,h3,d,d2,d3,rfl,r3,(hv.mono e2 _ _).mono e3 _ _,hw.mono e3 _ _,hw3,q3⟩⟩
 | exc c h2=>exact absurd z (vN _ _ _ _ _)
 | bad=>rw [z] at q;exact False.elim q
end
end Fy
set_option Elab.async false
set_option linter.all false
set_option maxRecDepth 100000
set_option maxHeartbeats 4000000
namespace Fy
open PySem PySem.Spec PyProof.Rows
open L2 (V Hp HO VK TE TT TA TS TI Cx Inv RelV Vals SqL SqT Rd upd qF qD PE PT PA PS PSs EP OpR CallR IxR MtR SlR PO TO)
section
open PySem.Builtin PySem.Builtin.Str
end
section
variable {K:PySem.W.Frag} {ρ:List Addr} {H:Hp}
end
section
variable {X:Cx} {F:Nat→List D→M D} {W:WX}
end
end Fy
set_option Elab.async false
set_option linter.all false
set_option maxRecDepth 100000
set_option maxHeartbeats 4000000
namespace Fy
open PySem PySem.Spec PyProof.Rows
open L2 (V Hp HO VK TE TT TA TS TI Cx Inv RelV Vals SqL SqT Rd upd qF qD PE PT PA PS PSs EP OpR CallR IxR MtR SlR PO TO)
section
variable {X:Cx} {F:Nat→List D→M D} {W:WX}
theorem qH7 {a b:Expr} {ca cb:CE} {x:Str} {apos cpos:Pos} (hx:x="extend") (ha:PE X a (tD X.K W (den F ca))) (hb:PE X b (tD X.K W (den F cb))) (hbase:attributeBase a x X.env (eval a X.env)=eval a X.env) (hline:(apos.endLine == cpos.line)=true)
  (hst:starEach [b] X.env=[(false,eval b X.env)]):PE X (.Call (.Attribute a x apos) [b] [] cpos) (tD X.K W (den F (.me .extend ca cb))):=by
 subst hx
 refine yD (L2.pe_bm PySem.F.plainAttrs_list PySem.F.slot_list_extend PySem.F.type_list_extend L2.mt_extend ha (L2.pa_cons hb L2.pa_nil (by rw [hst];rfl)) hbase (by rw [hst];rfl) hline (by rw [hst];rfl)) (fun ρ h d v H r hv h' z=>?_) (vN _) (fun x y H Q z=>?_)
 ·cases d with
  | ref i =>
   have z:(match getL h i with | some _=>R.ok () h | none=>.bad)=.ok () h':=z
   cases e:getL h i with
   | none=>rw [e] at z;cases z
   | some xs =>
    rw [e] at z
    cases z
    obtain ⟨a,vs,rfl,h1,_⟩:=r.seen e hv
    exact ⟨rfl,.inl ⟨rfl,vs,h1⟩⟩
  | _=>cases z
 ·obtain ⟨w,ρ,h,d,e,r,hd,he,p⟩:=z
  cases d with
  | ref k =>
   cases e with
   | ref j =>
    have p:PostV X.K w Q ρ H (match h[k]?,h[j]? with | some (.lst xs),some (.lst ys)=>(if xs.length+ys.length≤16777216 then .ok .non (h.set k (.lst (xs++ys))) else .bad) | _,_=>.bad):=p
    split at p
    ·rename_i xs ys q1 q2
     obtain ⟨hz,p⟩:=PostV.ite p
     obtain ⟨a,vs,rfl,ha,hH,hl⟩:=r.own q1 hd
     obtain ⟨b,us,rfl,hb,hB,hm⟩:=r.own q2 he
     have stp:Step ρ H ρ (upd H a (.lst (vs++us))):=Step.turn hH rfl (List.mem_of_getElem? ha)
     exact ⟨a,b,vs,us,rfl,rfl,hH,hB,by rw [hl.length,hm.length,zJ];exact hz,p ρ _ stp (r.setList q1 ha hH (hl.append hm)) .non rfl⟩
    ·exact False.elim p
   | _=>exact (show False from p).elim
  | _=>exact (show False from p).elim
end
end Fy
set_option Elab.async false
set_option linter.all false
set_option maxRecDepth 100000
set_option maxHeartbeats 4000000
namespace Fy
open PySem PySem.Spec PyProof.Rows
open L2 (V Hp HO VK TE TT TA TS TI Cx Inv RelV Vals SqL SqT Rd upd qF qD PE PT PA PS PSs EP OpR CallR IxR MtR SlR PO TO PI PG PIE Turn qJ Ends)
section
variable {X:Cx} {F:Nat→List D→M D} {W:WX}
theorem fK {K:PySem.W.Frag} {ρ:List Addr} {H:Hp}:∀ {ds:List D} {vs:List V} {us:List Value} {xs:List Tx},qQ ds=some xs→RepL K ρ H ds vs→Vals vs us→∃ l:List (Str × Tok),us=strValues l∧l.map (·.1)=xs.map fun x=>⟨x.toArray⟩
 | [],_,_,_,e,h,r=>by
  cases e
  cases h
  cases r
  exact ⟨[],rfl,rfl⟩
 | d::ds,_,us,bs,e,⟨v,vs,hv,h1,h2⟩,r=>by
  subst hv
  cases d with
  | str b =>
   unfold qQ at e
   cases q:qQ ds with
   | none=>rw [q] at e;cases e
   | some cs =>
    rw [q] at e
    cases e
    cases h1
    cases r with
    | cons r1 r2 =>
     obtain ⟨t,rfl⟩:=r1
     obtain ⟨l,rfl,e2⟩:=fK q h2 r2
     exact ⟨(⟨b.toArray⟩,t)::l,rfl,by rw [List.map_cons,List.map_cons,e2]⟩
  | _=>cases e
theorem nD (z:Tx):∀ xs:List Tx,Str.join ⟨z.toArray⟩ (xs.map fun x=>⟨x.toArray⟩)=⟨(zR z xs).toArray⟩
 | []=>rfl
 | [x]=>rfl
 | x::y::r=>by
  have ih:=nD z (y::r)
  show (⟨x.toArray⟩:Str)++⟨z.toArray⟩++Str.join ⟨z.toArray⟩ ((y::r).map fun x=>⟨x.toArray⟩)=_
  rw [ih,aN,aN]
  rfl
theorem qH0 {a b:Expr} {ca cb:CE} {x:Str} {apos cpos:Pos} (hx:x="join") (ha:PE X a (tD X.K W (den F ca))) (hb:PE X b (tD X.K W (den F cb))) (hbase:attributeBase a x X.env (eval a X.env)=eval a X.env) (hline:(apos.endLine == cpos.line)=true)
  (hst:starEach [b] X.env=[(false,eval b X.env)]):PE X (.Call (.Attribute a x apos) [b] [] cpos) (tD X.K W (den F (.me .join ca cb))):=by
 subst hx
 have mt:L2.MtR X "str.join" fun x ys H Q=>∃ y,ys=[y]∧rB X.K .join x y H Q:=by
  rintro pins s σ H x ys v us Q I rx rv ⟨y,rfl,w,ρ,h,d,e,r,hd,he,p⟩
  obtain ⟨u,rfl,ru⟩:=L2.Vals.one rv
  cases d with
  | str z =>
   cases e with
   | ref i =>
    cases hd
    have p:PostV X.K w Q ρ H (match (getL h i).bind qQ with | some xs=>if zY z xs≤16777216 then .ok (.str (zR z xs)) h else .bad | none=>.bad):=p
    cases q:getL h i with
    | none=>rw [q] at p;exact False.elim p
    | some ds =>
     rw [q] at p
     cases qs:qQ ds with
     | none =>
      have p:PostV X.K w Q ρ H (match qQ ds with | some xs=>if zY z xs≤16777216 then .ok (.str (zR z xs)) h else .bad | none=>.bad):=p
      rw [qs] at p;exact False.elim p
     | some xs =>
      have p:PostV X.K w Q ρ H (match qQ ds with | some xs=>if zY z xs≤16777216 then .ok (.str (zR z xs)) h else .bad | none=>.bad):=p
      rw [qs] at p
      obtain ⟨hz,p⟩:=PostV.ite (c:=zY z xs≤16777216) p
      obtain ⟨a',vs,rfl,h1,h2⟩:=r.seen q he
      cases ru
      obtain ⟨t,rfl⟩:=rx
      obtain ⟨its,rv',pl,_⟩:=I.list h1
      obtain ⟨l,rfl,el⟩:=fK qs h2 rv'
      refine PySem.SC.join (l:=l) (texts:=xs.map fun x=>⟨x.toArray⟩) pl.isList el ?_ fun t2 k=>?_
      ·unfold JoinOk
       rw [PySem.StrLaws.joinTotal,Bool.not_eq_true']
       refine decide_eq_false ?_
       rw [zJ,List.map_map,List.length_map,zK]
       unfold zY at hz
       have:(xs.map ((fun p:Str=>p.length) ∘ fun x=>(⟨x.toArray⟩:Str)))=xs.map List.length:=List.map_congr_left fun x _=>zK x
       rw [this]
       omega
      ·have e:Txt.join ⟨z.toArray⟩ (xs.map fun x=>⟨x.toArray⟩)=⟨(zR z xs).toArray⟩:=by
        unfold Txt.join
        rw [PySem.StrLaws.glued_eq_join,nD]
       rw [e]
       exact ⟨.str ⟨(zR z xs).toArray⟩,H,I.tok _,⟨_,rfl⟩,PostV.now p r rfl⟩
   | _=>exact (show False from p).elim
  | _=>exact (show False from p).elim
 refine yD (L2.pe_bm PySem.F.plainAttrs_str PySem.F.slot_str_join PySem.F.type_str_join mt ha (L2.pa_cons hb L2.pa_nil (by rw [hst];rfl)) hbase (by rw [hst];rfl) hline (by rw [hst];rfl)) (fun ρ h d v H r hv h' z=>?_) (vN _) (fun x y H Q z=>⟨y,rfl,z⟩)
 cases d with
 | str y=>cases z;cases hv;exact ⟨rfl,rfl⟩
 | _=>cases z
end
end Fy
set_option Elab.async false
set_option linter.all false
set_option maxRecDepth 100000
set_option maxHeartbeats 4000000
namespace Fy
open PySem PySem.Spec PyProof.Rows
open L2 (V Hp HO VK TE TT TA TS TI Cx Inv RelV Vals SqL SqT Rd upd qF qD PE PT PA PS PSs EP OpR CallR IxR MtR SlR PO TO PI PG PIE Turn qJ Ends thn)
section
variable {X:Cx} {F:Nat→List D→M D} {W:WX}
end
end Fy
set_option Elab.async false
set_option linter.all false
set_option maxRecDepth 100000
set_option maxHeartbeats 4000000
namespace Fy
open PySem PySem.Spec PyProof.Rows
open L2 (V Hp HO VK TE TT TA TS TI Cx Inv RelV Vals SqL SqT Rd upd qF qD PE PT PA PS PSs EP OpR CallR IxR MtR SlR PO TO)
section
variable {X:Cx} {F:Nat→List D→M D} {W:WX}
end
end Fy
set_option Elab.async false
set_option linter.all false
namespace Fy
theorem cD (x:Int):∀ l:List Int,(vU x l).Perm (x::l)
 | []=>.refl _
 | y::r=>by
  unfold vU
  split
  ·exact .refl _
  ·exact ((cD x r).cons y).trans (.swap x y r)
theorem wQ:∀ l:List Int,(zX l).Perm l
 | []=>.refl _
 | x::r=>(cD x (zX r)).trans ((wQ r).cons x)
theorem oI (x:Int):∀ {l:List Int},l.Pairwise (·≤·)→(vU x l).Pairwise (·≤·)
 | [],_=>List.pairwise_singleton ..
 | y::r,h=>by
  unfold vU
  obtain ⟨h1,h2⟩:=List.pairwise_cons.mp h
  split
  ·rename_i c
   refine List.pairwise_cons.mpr ⟨fun z hz=>?_,h⟩
   rcases List.mem_cons.mp hz with e | e
   ·omega
   ·have:=h1 z e;omega
  ·rename_i c
   refine List.pairwise_cons.mpr ⟨fun z hz=>?_,oI x h2⟩
   rcases List.mem_cons.mp ((cD x r).mem_iff.mp hz) with e | e
   ·omega
   ·exact h1 z e
theorem yY:∀ l:List Int,(zX l).Pairwise (·≤·)
 | []=>.nil
 | x::r=>oI x (yY r)
theorem yQ:∀ {a b:List Int},a.Perm b→a.Pairwise (·≤·)→b.Pairwise (·≤·)→a=b
 | [],b,p,_,_=>(List.nil_perm.mp p).symm
 | x::a,[],p,_,_=>absurd p.length_eq (by simp)
 | x::a,y::b,p,ha,hb=>by
  obtain ⟨a1,a2⟩:=List.pairwise_cons.mp ha
  obtain ⟨b1,b2⟩:=List.pairwise_cons.mp hb
  have hx:x∈y::b:=p.mem_iff.mp (List.mem_cons_self ..)
  have hy:y∈x::a:=p.mem_iff.mpr (List.mem_cons_self ..)
  have e:x=y:=by
   rcases List.mem_cons.mp hx with e | e
   ·exact e
   ·rcases List.mem_cons.mp hy with z | z
    ·exact z.symm
    ·have:=b1 x e
     have:=a1 y z
     omega
  subst e
  rw [yQ ((List.perm_cons x).mp p) a2 b2]
end Fy
set_option Elab.async false
set_option linter.all false
set_option maxRecDepth 100000
namespace Sr
open PySem PyProof.Rows
noncomputable def kf (p:Keyed):Int:=numOf p.1
noncomputable def isI (p:Keyed):Prop:=∃ n t,p.1=.int n t
section
variable {prog:Program} {w:World} {A:Around} {E:Value→Shared→Prop} {s:Shared}
theorem wN {st:SortSt} {x y:Keyed} {Q:Option Bool→SortSt→Prop} (hk:kindOf st=oneType') (hx:isI x) (hy:isI y)
  (h:Q (some (decide (kf x<kf y))) st):wpS (model prog w) A E s (lt' x y) Q st:=by
 obtain ⟨n,t,ex⟩:=hx
 obtain ⟨m,u,ey⟩:=hy
 have e:decide (kf x<kf y)=decide (n<m):=by unfold kf;rw [ex,ey];rfl
 rw [lt'_eq]
 refine wpS_bind (wpS_get ?_)
 rw [hk,keyLt'_oneType,ex,ey]
 refine wpS_bind (wpS_lift (wpAny_attempt (oneLt_int ⟨rfl,?_⟩)))
 rw [e] at h
 exact wpS_pure h
theorem qW {st:SortSt} {xs:Array Keyed} {i:Nat} {p:Keyed} {Q:Keyed→SortSt→Prop} (hi:xs[i]?=some p) (h:Q p st) :
  wpS (model prog w) A E s (elem' xs i) Q st:=by
 rw [elem'_eq,hi];exact wpS_pure h
theorem vK {st:SortSt} {n:String} {Q:Unit→SortSt→Prop} (h:Q () st):wpS (model prog w) A E s (liftM (rule n):StateT SortSt Sem Unit) Q st :=
 wpS_lift (wpAny_rule ⟨rfl,h⟩)
noncomputable def oR (f:Nat→StateT SortSt Sem (Option Bool)) (n a b:Nat):StateT SortSt Sem (Option Nat):=do
 let mut u:=a
 let mut v:=b
 for _ in [0:n] do
  if u ≥ v then break
  let m:=u+(v-u) / 2
  let some q ← f m | return none
  if q then u:=m+1 else v:=m
 return some v
noncomputable def gal (f:Nat→StateT SortSt Sem (Option Bool)) (n g:Nat):StateT SortSt Sem (Option Nat):=do
 let mut l:=0
 let mut o:=1
 let mut u:=0
 let mut v:=0
 let some r ← f g | return none
 if r then
  let z:=n-g
  for _ in [0:n] do
   if o ≥ z then break
   let some m ← f (g+o) | return none
   if !m then break
   l:=o
   o:=2*o+1
  u:=g+l+1
  v:=g+min o z
 else
  let z:=g+1
  for _ in [0:n] do
   if o ≥ z then break
   let some m ← f (g-o) | return none
   if m then break
   l:=o
   o:=2*o+1
  u:=g+1-min o z
  v:=g-l
 for _ in [0:n] do
  if u ≥ v then break
  let m:=u+(v-u) / 2
  let some q ← f m | return none
  if q then u:=m+1 else v:=m
 return some v
noncomputable def bey (left:Bool) (key:Keyed) (xs:Array Keyed) (b:Nat) (i:Nat):StateT SortSt Sem (Option Bool):=do
 let x ← elem' xs (b+i)
 if left then lt' x key else return (← lt' key x).map (!·)
noncomputable def gallop':Bool→Keyed→Array Keyed→Nat→Nat→Nat→StateT SortSt Sem (Option Nat):=sortPriv% PySem.Builtin.gallop
theorem gallop'_eq (left:Bool) (key:Keyed) (xs:Array Keyed) (b n g:Nat):gallop' left key xs b n g=gal (bey left key xs b) n g:=rfl
noncomputable def Cut (P:Nat→Bool) (n k:Nat):Prop:=k≤n∧(∀ i,i<k→P i=true)∧(∀ i,k≤i→i<n→P i=false)
theorem qBu {st:SortSt} {f:Nat→StateT SortSt Sem (Option Bool)} {P:Nat→Bool} {n g:Nat} {Q:Option Nat→SortSt→Prop}
  (hf:∀ i,i<n→∀ Q':Option Bool→SortSt→Prop,Q' (some (P i)) st→wpS (model prog w) A E s (f i) Q' st)
  (hP:∀ i j,i≤j→j<n→P j=true→P i=true) (hg:g<n)
  (h:∀ k,Cut P n k→Q (some k) st):wpS (model prog w) A E s (gal f n g) Q st:=by
 have hN:∀ i j,i≤j→j<n→P i=false→P j=false:=by
  intro i j hij hj hi
  cases q:P j with
  | false=>rfl
  | true=>rw [hP i j hij hj q] at hi;cases hi
 have last:∀ u v,u≤v→v≤n→(∀ i,i<u→P i=true)→(∀ i,v≤i→i<n→P i=false) →
   wpS (model prog w) A E s (oR f n u v) Q st:=by
  intro u v huv hvn h1 h2
  unfold oR
  refine wpS_bind (wpS_mono (wpS_forRange (I:=fun x c st'=>st'=st∧∃ u v,c=(none,u,v)∧u≤v∧v≤n∧v-u≤n-x∧(∀ i,i<u→P i=true)∧(∀ i,v≤i→i<n→P i=false))
   (Q:=fun c st'=>st'=st∧∃ v,c=(none,v,v)∧Cut P n v) ?a ?b ⟨rfl,u,v,rfl,huv,hvn,by omega,h1,h2⟩) ?c)
  case c =>
   rintro c st' ⟨rfl,v,rfl,hc⟩
   exact wpS_pure (h v hc)
  case b =>
   rintro c st' ⟨rfl,u,v,rfl,a1,a2,a3,a4,a5⟩
   obtain rfl:u=v:=by omega
   exact ⟨rfl,u,rfl,a2,a4,a5⟩
  case a =>
   rintro x c st' _ hx ⟨rfl,u,v,rfl,a1,a2,a3,a4,a5⟩
   dsimp only
   by_cases hc:u ≥ v
   ·rw [if_pos hc]
    obtain rfl:u=v:=by omega
    exact wpS_pure ⟨rfl,u,rfl,a2,a4,a5⟩
   ·rw [if_neg hc]
    refine wpS_bind (hf _ (by omega) _ ?_)
    cases q:P (u+(v-u) / 2) with
    | true =>
     dsimp only
     rw [if_pos rfl]
     exact wpS_pure ⟨rfl,_,_,rfl,by omega,a2,by omega,fun i hi=>hP i _ (by omega) (by omega) q,a5⟩
    | false =>
     dsimp only
     rw [if_neg Bool.false_ne_true]
     exact wpS_pure ⟨rfl,_,_,rfl,by omega,by omega,by omega,a4,fun i hi hn=>hN _ i hi hn q⟩
 unfold gal
 refine wpS_bind (hf g hg _ ?_)
 cases q:P g with
 | true =>
  dsimp only
  rw [if_pos rfl]
  refine wpS_bind (wpS_mono (wpS_forRange (I:=fun x c st'=>st'=st∧∃ l o,c=(none,l,o)∧l<o∧x<o∧g+l<n∧P (g+l)=true)
   (Q:=fun c st'=>st'=st∧∃ l o,c=(none,l,o)∧l<o∧g+l<n∧P (g+l)=true∧(n-g≤o∨P (g+o)=false)) ?a ?b ⟨rfl,0,1,rfl,by omega,by omega,hg,q⟩) ?c)
  case c =>
   rintro c st' ⟨rfl,l,o,rfl,a1,a2,a3,a4⟩
   refine last (g+l+1) (g+min o (n-g)) (by omega) (by omega) (fun i hi=>hP i _ (by omega) a2 a3) fun i hi hn=>?_
   rcases a4 with a4 | a4
   ·omega
   ·exact hN (g+o) i (by omega) hn a4
  case b =>
   rintro c st' ⟨rfl,l,o,rfl,a1,a2,a3,a4⟩
   exact ⟨rfl,l,o,rfl,a1,a3,a4,.inl (by omega)⟩
  case a =>
   rintro x c st' _ hx ⟨rfl,l,o,rfl,a1,a2,a3,a4⟩
   dsimp only
   by_cases hc:o ≥ n-g
   ·rw [if_pos hc]
    exact wpS_pure ⟨rfl,l,o,rfl,a1,a3,a4,.inl hc⟩
   ·rw [if_neg hc]
    refine wpS_bind (hf _ (by omega) _ ?_)
    cases q:P (g+o) with
    | true =>
     dsimp only
     rw [if_neg (by decide)]
     exact wpS_pure ⟨rfl,_,_,rfl,by omega,by omega,by omega,q⟩
    | false =>
     dsimp only
     rw [if_pos (by decide)]
     exact wpS_pure ⟨rfl,l,o,rfl,a1,a3,a4,.inr q⟩
 | false =>
  dsimp only
  rw [if_neg Bool.false_ne_true]
  refine wpS_bind (wpS_mono (wpS_forRange (I:=fun x c st'=>st'=st∧∃ l o,c=(none,l,o)∧l<o∧x<o∧l≤g∧P (g-l)=false)
   (Q:=fun c st'=>st'=st∧∃ l o,c=(none,l,o)∧l<o∧l≤g∧P (g-l)=false∧(g+1≤o∨P (g-o)=true)) ?a ?b ⟨rfl,0,1,rfl,by omega,by omega,by omega,q⟩) ?c)
  case c =>
   rintro c st' ⟨rfl,l,o,rfl,a1,a2,a3,a4⟩
   refine last (g+1-min o (g+1)) (g-l) (by omega) (by omega) (fun i hi=>?_) fun i hi hn=>hN (g-l) i hi hn a3
   rcases a4 with a4 | a4
   ·omega
   ·exact hP i (g-o) (by omega) (by omega) a4
  case b =>
   rintro c st' ⟨rfl,l,o,rfl,a1,a2,a3,a4⟩
   exact ⟨rfl,l,o,rfl,a1,a3,a4,.inl (by omega)⟩
  case a =>
   rintro x c st' _ hx ⟨rfl,l,o,rfl,a1,a2,a3,a4⟩
   dsimp only
   by_cases hc:o ≥ g+1
   ·rw [if_pos hc]
    exact wpS_pure ⟨rfl,l,o,rfl,a1,a3,a4,.inl hc⟩
   ·rw [if_neg hc]
    refine wpS_bind (hf _ (by omega) _ ?_)
    cases q:P (g-o) with
    | true =>
     dsimp only
     rw [if_pos rfl]
     exact wpS_pure ⟨rfl,l,o,rfl,a1,a3,a4,.inr q⟩
    | false =>
     dsimp only
     rw [if_neg Bool.false_ne_true]
     exact wpS_pure ⟨rfl,_,_,rfl,by omega,by omega,by omega,q⟩
end
end Sr
set_option Elab.async false
set_option linter.all false
set_option maxRecDepth 100000
namespace Sr
open PySem PyProof.Rows
noncomputable abbrev KA:=Array Keyed
noncomputable abbrev SM:=StateT SortSt Sem
noncomputable def vA (g:Nat):SM Unit:=modify fun s=>SortSt.mk' (kindOf s) (arrOf s) (pendingOf s) g (failedOf s)
noncomputable def mergeLo':KA→KA→SM KA:=sortPriv% PySem.Builtin.mergeLo
noncomputable def mergeHi':KA→KA→SM KA:=sortPriv% PySem.Builtin.mergeHi
noncomputable def dnL (a b o:KA) (i j:Nat):KA:=o++a.extract i a.size++b.extract j b.size
noncomputable def laL (a b o:KA) (i j:Nat):KA:=o++b.extract j b.size++a.extract i a.size
theorem mergeLo'_eq (a b:KA):mergeLo' a b=(do
 rule "list.sort.merge-lo"
 let T:=a.size+b.size
 let mut o:KA:=#[← elem' b 0]
 let mut i:=0
 let mut j:=1
 if j == b.size then return dnL a b o i j
 if i+1 == a.size then return laL a b o i j
 let mut g:=gallopOf (← get)
 for _ in [0:T] do
  let mut p:=0
  let mut q:=0
  for _ in [0:T] do
   let some z ← lt' (← elem' b j) (← elem' a i) | return dnL a b o i j
   if z then
    o:=o.push (← elem' b j);j:=j+1;q:=q+1;p:=0
    if j == b.size then return dnL a b o i j
    if q ≥ g then break
   else
    o:=o.push (← elem' a i);i:=i+1;p:=p+1;q:=0
    if i+1 == a.size then return laL a b o i j
    if p ≥ g then break
  rule "list.sort.gallop"
  g:=g+1
  for _ in [0:T] do
   if g > 1 then g:=g-1
   vA g
   let some k ← gallop' false (← elem' b j) a i (a.size-i) 0 | return dnL a b o i j
   p:=k
   if k > 0 then
    o:=o++a.extract i (i+k);i:=i+k
    if i+1 == a.size then return laL a b o i j
    if i == a.size then return dnL a b o i j
   o:=o.push (← elem' b j);j:=j+1
   if j == b.size then return dnL a b o i j
   let some k ← gallop' true (← elem' a i) b j (b.size-j) 0 | return dnL a b o i j
   q:=k
   if k > 0 then
    o:=o++b.extract j (j+k);j:=j+k
    if j == b.size then return dnL a b o i j
   o:=o.push (← elem' a i);i:=i+1
   if i+1 == a.size then return laL a b o i j
   if p<7&&q<7 then break
  g:=g+1
  vA g
 unsupported "internal:list.sort.merge-bound"):=rfl
noncomputable def dnH (a b o:KA) (i j:Nat):KA:=a.extract 0 i++b.extract 0 j++o.reverse
noncomputable def fbH (a b o:KA) (i j:Nat):KA:=b.extract 0 j++a.extract 0 i++o.reverse
theorem mergeHi'_eq (a b:KA):mergeHi' a b=(do
 rule "list.sort.merge-hi"
 let T:=a.size+b.size
 let mut i:=a.size-1
 let mut j:=b.size
 let mut o:KA:=#[← elem' a i]
 if i == 0 then return dnH a b o i j
 if j == 1 then return fbH a b o i j
 let mut g:=gallopOf (← get)
 for _ in [0:T] do
  let mut p:=0
  let mut q:=0
  for _ in [0:T] do
   let some z ← lt' (← elem' b (j-1)) (← elem' a (i-1)) | return dnH a b o i j
   if z then
    i:=i-1;o:=o.push (← elem' a i);p:=p+1;q:=0
    if i == 0 then return dnH a b o i j
    if p ≥ g then break
   else
    j:=j-1;o:=o.push (← elem' b j);q:=q+1;p:=0
    if j == 1 then return fbH a b o i j
    if q ≥ g then break
  rule "list.sort.gallop"
  g:=g+1
  for _ in [0:T] do
   if g > 1 then g:=g-1
   vA g
   let some at_ ← gallop' false (← elem' b (j-1)) a 0 i (i-1) | return dnH a b o i j
   let k:=i-at_
   p:=k
   if k > 0 then
    o:=o++(a.extract at_ i).reverse;i:=at_
    if i == 0 then return dnH a b o i j
   j:=j-1;o:=o.push (← elem' b j)
   if j == 1 then return fbH a b o i j
   let some at_ ← gallop' true (← elem' a (i-1)) b 0 j (j-1) | return dnH a b o i j
   let k:=j-at_
   q:=k
   if k > 0 then
    o:=o++(b.extract at_ j).reverse;j:=at_
    if j == 1 then return fbH a b o i j
    if j == 0 then return dnH a b o i j
   i:=i-1;o:=o.push (← elem' a i)
   if i == 0 then return dnH a b o i j
   if p<7&&q<7 then break
  g:=g+1
  vA g
 unsupported "internal:list.sort.merge-bound"):=rfl
end Sr
set_option Elab.async false
set_option linter.all false
set_option maxRecDepth 100000
namespace Sr
open PySem PyProof.Rows
noncomputable abbrev KL:=List Keyed
noncomputable def So (f:Keyed→Int) (l:KL):Prop:=l.Pairwise fun x y=>f x≤f y
structure J (f:Keyed→Int) (o X Y T:KL):Prop where
 pm:(o++(X++Y)).Perm T
 so:So f o
 ou:∀ x∈o,∀ y,y∈X∨y∈Y→f x≤f y
 sx:So f X
 sy:So f Y
theorem J.swap {f:Keyed→Int} {o X Y T:KL} (h:J f o X Y T):J f o Y X T :=
 ⟨(List.Perm.append_left o List.perm_append_comm).trans h.pm,h.so,fun x hx y hy=>h.ou x hx y hy.symm,h.sy,h.sx⟩
theorem J.take {f:Keyed→Int} {o X Z Y T:KL} (h:J f o (X++Z) Y T) (q:∀ x∈X,∀ y∈Y,f x≤f y):J f (o++X) Z Y T:=by
 obtain ⟨h1,h2,h3,h4,h5⟩:=h
 have h4':=List.pairwise_append.mp h4
 refine ⟨by simpa using h1,List.pairwise_append.mpr ⟨h2,h4'.1,fun x hx y hy=>h3 x hx y (.inl (List.mem_append_left _ hy))⟩,fun x hx y hy=>?_,h4'.2.1,h5⟩
 rcases List.mem_append.mp hx with hx | hx
 ·exact h3 x hx y (hy.imp (List.mem_append_right _) id)
 ·rcases hy with hy | hy
  ·exact h4'.2.2 x hx y hy
  ·exact q x hx y hy
theorem J.fin {f:Keyed→Int} {o X T:KL} (h:J f o X [] T):(o++X).Perm T∧So f (o++X):=by
 obtain ⟨h1,h2,h3,h4,h5⟩:=h
 exact ⟨by simpa using h1,List.pairwise_append.mpr ⟨h2,h4,fun x hx y hy=>h3 x hx y (.inl hy)⟩⟩
theorem cF {l:KL} {i:Nat} {x:Keyed} (h:l[i]?=some x):l.drop i=[x]++l.drop (i+1):=by
 obtain ⟨hi,e⟩:=List.getElem?_eq_some_iff.mp h
 rw [← List.getElem_cons_drop hi,e];rfl
theorem aL {l:KL} {i:Nat} {x:Keyed} (h:l[i]?=some x):(l.take (i+1)).reverse=[x]++(l.take i).reverse:=by
 obtain ⟨hi,e⟩:=List.getElem?_eq_some_iff.mp h
 rw [List.take_succ_eq_append_getElem hi,e];simp
theorem pO (l:KL) (i k:Nat):l.drop i=(l.drop i).take k++l.drop (i+k):=by
 rw [← List.drop_drop,List.take_append_drop]
theorem fD {l:KL} {i k:Nat} (h:k≤i):(l.take i).reverse=((l.take i).drop k).reverse++(l.take k).reverse:=by
 rw [← List.reverse_append]
 congr 1
 conv=>lhs;rw [← List.take_append_drop k (l.take i)]
 rw [List.take_take,Nat.min_eq_left h]
theorem jX {f:Keyed→Int} {l:KL} (h:So f l) {i j:Nat} {x y:Keyed} (hij:i≤j) (hx:l[i]?=some x) (hy:l[j]?=some y):f x≤f y:=by
 obtain ⟨hi,ex⟩:=List.getElem?_eq_some_iff.mp hx
 obtain ⟨hj,ey⟩:=List.getElem?_eq_some_iff.mp hy
 by_cases e:i=j
 ·subst e;rw [hx] at hy;cases hy;exact Int.le_refl _
 ·rw [← ex,← ey];exact List.pairwise_iff_getElem.mp h i j hi hj (by omega)
theorem mem_drop' {l:KL} {i:Nat} {x:Keyed} (h:x∈l.drop i):∃ j,i≤j∧l[j]?=some x:=by
 obtain ⟨k,hk⟩:=List.mem_iff_getElem?.mp h
 rw [List.getElem?_drop] at hk
 exact ⟨i+k,by omega,hk⟩
theorem mem_take' {l:KL} {i:Nat} {x:Keyed} (h:x∈l.take i):∃ j,j<i∧l[j]?=some x:=by
 obtain ⟨k,hk⟩:=List.mem_iff_getElem?.mp h
 rw [List.getElem?_take] at hk
 split at hk
 ·exact ⟨k,by omega,hk⟩
 ·cases hk
theorem mK {l:KL} {i k:Nat} {x:Keyed} (h:x∈(l.drop i).take k):∃ t,t<k∧l[i+t]?=some x:=by
 obtain ⟨t,ht,e⟩:=mem_take' h
 rw [List.getElem?_drop] at e
 exact ⟨t,ht,e⟩
theorem mJ {l:KL} {i k:Nat} {x:Keyed} (h:x∈(l.take i).drop k):∃ t,k≤t∧t<i∧l[t]?=some x:=by
 obtain ⟨t,ht,e⟩:=mem_drop' h
 rw [List.getElem?_take] at e
 split at e
 ·exact ⟨t,ht,by omega,e⟩
 ·cases e
theorem zA {a:KA} {i:Nat} {x:Keyed} (h:a[i]?=some x):K a i=kf x:=by unfold K;rw [h];rfl
theorem zF {a:KA} {i:Nat} (h:i<a.size):∃ x,a[i]?=some x:=⟨a[i],getElem?_pos a i h⟩
theorem wZ {a:KA} {i:Nat} {x:Keyed} (h:a[i]?=some x):i<a.size:=(Array.getElem?_eq_some_iff.mp h).1
theorem zP {a:KA} {i:Nat} {x:Keyed} (h:a[i]?=some x):a.toList[i]?=some x:=by rw [Array.getElem?_toList];exact h
theorem jR {a:KA} {i:Nat} {x:Keyed} (h:a.toList[i]?=some x):a[i]?=some x:=by rw [Array.getElem?_toList] at h;exact h
theorem zQ {a:KA} {i:Nat} {x:Keyed} (h:a[i]?=some x):x∈a.toList:=List.mem_of_getElem? (zP h)
section
variable {prog:Program} {w:World} {A:Around} {E:Value→Shared→Prop} {s:Shared}
noncomputable def hit (left:Bool) (key:Keyed) (xs:KA) (b i:Nat):Bool:=if left then decide (K xs (b+i)<kf key) else !decide (kf key<K xs (b+i))
theorem vL {st:SortSt} {left:Bool} {key:Keyed} {xs:KA} {b n g:Nat} {Q:Option Nat→SortSt→Prop} (hk:kindOf st=oneType')
  (hi:∀ x∈xs.toList,isI x) (hy:isI key) (hn:b+n≤xs.size) (hs:∀ i j,b≤i→i≤j→j<b+n→K xs i≤K xs j) (hg:g<n)
  (h:∀ k,Cut (hit left key xs b) n k→Q (some k) st):wpS (model prog w) A E s (gallop' left key xs b n g) Q st:=by
 rw [gallop'_eq]
 refine qBu (P:=hit left key xs b) (fun i hin Q' h'=>?_) (fun i j hij hj hp=>?_) hg h
 ·obtain ⟨x,hx⟩:=zF (a:=xs) (i:=b+i) (by omega)
  unfold bey
  refine wpS_bind (qW hx ?_)
  unfold hit at h'
  rw [zA hx] at h'
  cases left with
  | true=>exact wN hk (hi x (zQ hx)) hy h'
  | false=>exact wpS_bind (wN hk hy (hi x (zQ hx)) (wpS_pure h'))
 ·have:=hs (b+i) (b+j) (by omega) (by omega) (by omega)
  unfold hit at hp ⊢
  cases left with
  | true=>simp only [if_true,decide_eq_true_eq] at hp ⊢;omega
  | false=>simp only [Bool.false_eq_true,if_false,Bool.not_eq_true',decide_eq_false_iff_not] at hp ⊢;omega
structure Sm (st st':SortSt):Prop where
 k:kindOf st'=kindOf st
 a:arrOf st'=arrOf st
 p:pendingOf st'=pendingOf st
 f:failedOf st'=failedOf st
theorem Sm.rfl' (st:SortSt):Sm st st:=⟨rfl,rfl,rfl,rfl⟩
theorem yV {st st':SortSt} {g:Nat} {Q:Unit→SortSt→Prop} (e:Sm st st') (h:∀ st',Sm st st'→Q () st'):wpS (model prog w) A E s (vA g) Q st' :=
 wpS_modify (h _ ⟨e.k,e.a,e.p,e.f⟩)
noncomputable def Fin' (a b r:KA):Prop:=r.toList.Perm (a.toList++b.toList)∧So kf r.toList
structure Two (a b:KA):Prop where
 ia:∀ x∈a.toList,isI x
 ib:∀ x∈b.toList,isI x
 sa:So kf a.toList
 sb:So kf b.toList
 na:1≤a.size
 nb:1≤b.size
 fst:∀ x y,b[0]?=some y→x∈a.toList→kf y≤kf x
 lst:∀ x y,a[a.size-1]?=some x→y∈b.toList→kf y≤kf x
noncomputable def Jl (a b o:KA) (i j:Nat):Prop:=J kf o.toList (a.toList.drop i) (b.toList.drop j) (a.toList++b.toList)
variable {a b o:KA} {i j:Nat}
theorem Jl.b1 {y:Keyed} (h:Jl a b o i j) (hy:b[j]?=some y) (q:∀ x∈a.toList.drop i,kf y≤kf x):Jl a b (o.push y) i (j+1):=by
 unfold Jl at h ⊢
 rw [cF (zP hy)] at h
 rw [Array.toList_push]
 exact (h.swap.take fun x hx z hz=>by rw [List.mem_singleton.mp hx];exact q z hz).swap
theorem Jl.a1 {y:Keyed} (h:Jl a b o i j) (hy:a[i]?=some y) (q:∀ x∈b.toList.drop j,kf y≤kf x):Jl a b (o.push y) (i+1) j:=by
 unfold Jl at h ⊢
 rw [cF (zP hy)] at h
 rw [Array.toList_push]
 exact h.take fun x hx z hz=>by rw [List.mem_singleton.mp hx];exact q z hz
theorem pH (a:KA) (i k:Nat):(a.extract i (i+k)).toList=(a.toList.drop i).take k:=by
 rw [Array.toList_extract,List.extract_eq_take_drop];congr 1;omega
theorem Jl.ak {k:Nat} (h:Jl a b o i j) (q:∀ x∈(a.toList.drop i).take k,∀ y∈b.toList.drop j,kf x≤kf y):Jl a b (o++a.extract i (i+k)) (i+k) j:=by
 unfold Jl at h ⊢
 rw [pO a.toList i k] at h
 rw [Array.toList_append,pH]
 exact h.take q
theorem Jl.bk {k:Nat} (h:Jl a b o i j) (q:∀ x∈(b.toList.drop j).take k,∀ y∈a.toList.drop i,kf x≤kf y):Jl a b (o++b.extract j (j+k)) i (j+k):=by
 unfold Jl at h ⊢
 rw [pO b.toList j k] at h
 rw [Array.toList_append,pH]
 exact (h.swap.take q).swap
theorem gH (a:KA) (i:Nat):(a.extract i a.size).toList=a.toList.drop i:=by
 rw [Array.toList_extract,List.extract_eq_take_drop,List.take_of_length_le]
 simp
theorem qHU:(dnL a b o i j).toList=o.toList++(a.toList.drop i++b.toList.drop j):=by
 unfold dnL;rw [Array.toList_append,Array.toList_append,gH,gH,List.append_assoc]
theorem qFK:(laL a b o i j).toList=o.toList++(b.toList.drop j++a.toList.drop i):=by
 unfold laL;rw [Array.toList_append,Array.toList_append,gH,gH,List.append_assoc]
theorem Jl.dn (h:Jl a b o i j) (hj:j=b.size∨i=a.size):Fin' a b (dnL a b o i j):=by
 unfold Fin';rw [qHU]
 unfold Jl at h
 rcases hj with rfl | rfl
 ·have e:b.toList.drop b.size=[]:=List.drop_eq_nil_of_le (Nat.le_refl _)
  rw [e] at h ⊢
  rw [List.append_nil]
  exact h.fin
 ·have e:a.toList.drop a.size=[]:=List.drop_eq_nil_of_le (Nat.le_refl _)
  rw [e] at h ⊢
  exact h.swap.fin
theorem Jl.la (T:Two a b) (h:Jl a b o i j) (hi:i+1=a.size):Fin' a b (laL a b o i j):=by
 unfold Fin';rw [qFK]
 unfold Jl at h
 obtain ⟨x,hx⟩:=zF (a:=a) (i:=i) (by omega)
 have h':=h.swap
 rw [← List.append_nil (b.toList.drop j)] at h'
 have h2:=(h'.take fun y hy z hz=>?_).swap.fin
 ·rw [← List.append_assoc];exact h2
 ·rw [cF (zP hx),List.drop_eq_nil_of_le (by rw [Array.length_toList];omega)] at hz
  rw [show z=x by simpa using hz]
  exact T.lst x y (by rw [← hi];exact hx) (List.mem_of_mem_drop hy)
noncomputable def Res (a b:KA) (N:Nat) (r:Option KA) (o:KA) (i j:Nat):Prop:=match r with
 | some r=>Fin' a b r
 | none=>Jl a b o i j∧i+1<a.size∧j<b.size∧N≤i+j
theorem soK {a:KA} (h:So kf a.toList) {i j:Nat} (hij:i≤j) (hj:j<a.size):K a i≤K a j:=by
 obtain ⟨x,hx⟩:=zF (a:=a) (i:=i) (by omega)
 obtain ⟨y,hy⟩:=zF hj
 rw [zA hx,zA hy];exact jX h hij (zP hx) (zP hy)
theorem qBq {st:SortSt} {g T N:Nat} (W:Two a b) (hk:kindOf st=oneType') (hT:1≤T) (h:Jl a b o i j) (hi:i+1<a.size) (hj:j<b.size) (hN:N≤i+j)
  {f:Nat→Option KA × KA × Nat × Nat × Nat × Nat→SM (ForInStep (Option KA × KA × Nat × Nat × Nat × Nat))} {Q:Option KA × KA × Nat × Nat × Nat × Nat→SortSt→Prop}
  (hf:∀ x o i j p q,f x (none,o,i,j,p,q)=do
   let z ← lt' (← elem' b j) (← elem' a i)
   match z with
   | some z =>
    if z=true then do
     let y ← elem' b j
     (if (j+1 == b.size)=true then pure (.done (some (dnL a b (o.push y) i (j+1)),o.push y,i,j+1,0,q+1)) else if q+1 ≥ g then pure (.done (none,o.push y,i,j+1,0,q+1)) else pure (.yield (none,o.push y,i,j+1,0,q+1)))
    else do
     let y ← elem' a i
     (if (i+1+1 == a.size)=true then pure (.done (some (laL a b (o.push y) (i+1) j),o.push y,i+1,j,p+1,0)) else if p+1 ≥ g then pure (.done (none,o.push y,i+1,j,p+1,0)) else pure (.yield (none,o.push y,i+1,j,p+1,0)))
   | x=>pure (.done (some (dnL a b o i j),o,i,j,p,q)))
  (hQ:∀ r o i j p q,Res a b (N+1) r o i j→Q (r,o,i,j,p,q) st) :
  wpS (model prog w) A E s (forIn [0:T] (none,o,i,j,0,0) f) Q st:=by
 refine wpS_forRange (I:=fun x c st'=>st'=st∧∃ o i j p q,c=(none,o,i,j,p,q)∧Res a b (N+x) none o i j) ?a ?b ⟨rfl,o,i,j,0,0,rfl,h,hi,hj,by omega⟩
 case b =>
  rintro c st' ⟨rfl,o,i,j,p,q,rfl,h1,h2,h3,h4⟩
  exact hQ none o i j p q ⟨h1,h2,h3,by omega⟩
 case a =>
  rintro x c st' _ hx ⟨rfl,o,i,j,p,q,rfl,h1,h2,h3,h4⟩
  rw [hf]
  obtain ⟨u,hu⟩:=zF h3
  obtain ⟨v,hv⟩:=zF (a:=a) (i:=i) (by omega)
  refine wpS_bind (qW hu (wpS_bind (qW hv (wpS_bind (wN hk (W.ib u (zQ hu)) (W.ia v (zQ hv)) ?_)))))
  by_cases hc:kf u<kf v
  ·simp only [hc,decide_true,if_true]
   refine wpS_bind (qW hu ?_)
   have h1':=h1.b1 hu fun x hx=>by
    obtain ⟨m,hm,e⟩:=mem_drop' hx
    have:=jX W.sa hm (zP hv) e
    omega
   by_cases e:j+1=b.size
   ·rw [if_pos (beq_iff_eq.mpr e)]
    exact wpS_pure (hQ _ _ _ _ _ _ (h1'.dn (.inl e)))
   ·rw [if_neg (mt beq_iff_eq.mp e)]
    split
    ·exact wpS_pure (hQ none _ _ _ _ _ ⟨h1',h2,by omega,by omega⟩)
    ·exact wpS_pure ⟨rfl,_,_,_,_,_,rfl,h1',h2,by omega,by omega⟩
  ·simp only [hc,decide_false,Bool.false_eq_true,if_false]
   refine wpS_bind (qW hv ?_)
   have h1':=h1.a1 hv fun x hx=>by
    obtain ⟨m,hm,e⟩:=mem_drop' hx
    have:=jX W.sb hm (zP hu) e
    omega
   by_cases e:i+1+1=a.size
   ·rw [if_pos (beq_iff_eq.mpr e)]
    exact wpS_pure (hQ _ _ _ _ _ _ (h1'.la W e))
   ·rw [if_neg (mt beq_iff_eq.mp e)]
    split
    ·exact wpS_pure (hQ none _ _ _ _ _ ⟨h1',by omega,h3,by omega⟩)
    ·exact wpS_pure ⟨rfl,_,_,_,_,_,rfl,h1',by omega,h3,by omega⟩
end
end Sr
set_option Elab.async false
set_option linter.all false
set_option maxRecDepth 100000
namespace Sr
open PySem PyProof.Rows
section
variable {prog:Program} {w:World} {A:Around} {E:Value→Shared→Prop} {s:Shared} {a b:KA}
theorem wO {α:Type} {c:Prop} [Decidable c] {x y:SM α} {Q:α→SortSt→Prop} {st:SortSt} (h1:wpS (model prog w) A E s x Q st) (h2:wpS (model prog w) A E s y Q st) :
  wpS (model prog w) A E s (if c then x else y) Q st:=by
 split
 ·exact h1
 ·exact h2
theorem cZ {key:Keyed} {xs:KA} {b n k:Nat} (h:Cut (hit false key xs b) n k):k≤n∧(∀ i,i<k→K xs (b+i)≤kf key)∧(∀ i,k≤i→i<n→kf key<K xs (b+i)):=by
 refine ⟨h.1,fun i hi=>?_,fun i hi hn=>?_⟩
 ·have:=h.2.1 i hi
  simp only [hit,Bool.false_eq_true,if_false,Bool.not_eq_true',decide_eq_false_iff_not] at this;omega
 ·have:=h.2.2 i hi hn
  simp only [hit,Bool.false_eq_true,if_false,Bool.not_eq_false',decide_eq_true_eq] at this;omega
theorem cY {key:Keyed} {xs:KA} {b n k:Nat} (h:Cut (hit true key xs b) n k):k≤n∧(∀ i,i<k→K xs (b+i)<kf key)∧(∀ i,k≤i→i<n→kf key≤K xs (b+i)):=by
 refine ⟨h.1,fun i hi=>?_,fun i hi hn=>?_⟩
 ·have:=h.2.1 i hi
  simp only [hit,if_true,decide_eq_true_eq] at this;omega
 ·have:=h.2.2 i hi hn
  simp only [hit,if_true,decide_eq_false_iff_not] at this;omega
noncomputable abbrev S7:=Option KA × KA × Nat × Nat × Nat × Nat × Nat
noncomputable def loC (a b:KA) (g k k' i:Nat) (o:KA) (j:Nat):SM (ForInStep S7):=do
 let v ← elem' a i
 if (i+1+1 == a.size)=true then pure (.done (some (laL a b (o.push v) (i+1) j),o.push v,i+1,j,g,k,k'))
 else if (decide (k<7)&&decide (k'<7))=true then pure (.done (none,o.push v,i+1,j,g,k,k'))
 else pure (.yield (none,o.push v,i+1,j,g,k,k'))
noncomputable def loB (a b:KA) (g k q j:Nat) (o:KA) (i:Nat):SM (ForInStep S7):=do
 let u ← elem' b j
 if (j+1 == b.size)=true then pure (.done (some (dnL a b (o.push u) i (j+1)),o.push u,i,j+1,g,k,q))
 else do
  let v ← elem' a i
  let z ← gallop' true v b (j+1) (b.size-(j+1)) 0
  match z with
  | some k' =>
   if k' > 0 then
    if (j+1+k' == b.size)=true then pure (.done (some (dnL a b (o.push u++b.extract (j+1) (j+1+k')) i (j+1+k')),o.push u++b.extract (j+1) (j+1+k'),i,j+1+k',g,k,k'))
    else loC a b g k k' i (o.push u++b.extract (j+1) (j+1+k')) (j+1+k')
   else loC a b g k k' i (o.push u) (j+1)
  | x=>pure (.done (some (dnL a b (o.push u) i (j+1)),o.push u,i,j+1,g,k,q))
noncomputable def loA (a b:KA) (o:KA) (i j p q g:Nat):SM (ForInStep S7):=do
 vA g
 let u ← elem' b j
 let z ← gallop' false u a i (a.size-i) 0
 match z with
 | some k =>
  if k > 0 then
   if (i+k+1 == a.size)=true then pure (.done (some (laL a b (o++a.extract i (i+k)) (i+k) j),o++a.extract i (i+k),i+k,j,g,k,q))
   else if (i+k == a.size)=true then pure (.done (some (dnL a b (o++a.extract i (i+k)) (i+k) j),o++a.extract i (i+k),i+k,j,g,k,q))
   else loB a b g k q j (o++a.extract i (i+k)) (i+k)
  else loB a b g k q j o i
 | x=>pure (.done (some (dnL a b o i j),o,i,j,g,p,q))
noncomputable def PL (a b:KA) (st:SortSt) (N:Nat) (r:ForInStep S7) (st':SortSt):Prop:=match r with
 | .done c=>Sm st st'∧∃ r o i j g p q,c=(r,o,i,j,g,p,q)∧Res a b N r o i j
 | .yield c=>Sm st st'∧∃ o i j g p q,c=(none,o,i,j,g,p,q)∧Res a b N none o i j
theorem fS {st st':SortSt} {N g k k' i j:Nat} {o:KA} (W:Two a b) (hm:Sm st st') {v:Keyed} (hv:a[i]?=some v)
  (h1:Jl a b o i j) (h2:i+1<a.size) (h3:j<b.size) (h4:N≤i+j) (hv1:∀ y∈b.toList.drop j,kf v≤kf y) :
  wpS (model prog w) A E s (loC a b g k k' i o j) (PL a b st N) st':=by
 unfold loC
 refine wpS_bind (qW hv ?_)
 have b1:=h1.a1 hv hv1
 by_cases e:i+1+1=a.size
 ·rw [if_pos (beq_iff_eq.mpr e)]
  exact wpS_pure ⟨hm,_,_,_,_,_,_,_,rfl,b1.la W e⟩
 rw [if_neg (mt beq_iff_eq.mp e)]
 split
 ·exact wpS_pure ⟨hm,none,_,_,_,_,_,_,rfl,b1,by omega,h3,by omega⟩
 ·exact wpS_pure ⟨hm,_,_,_,_,_,_,rfl,b1,by omega,h3,by omega⟩
theorem fT {st st':SortSt} {N g k q i j:Nat} {o:KA} (W:Two a b) (hk:kindOf st=oneType') (hm:Sm st st') {u:Keyed} (hu:b[j]?=some u)
  (h1:Jl a b o i j) (h2:i+1<a.size) (h4:N≤i+j) (hu1:∀ x∈a.toList.drop i,kf u≤kf x) :
  wpS (model prog w) A E s (loB a b g k q j o i) (PL a b st N) st':=by
 unfold loB
 have hk':kindOf st'=oneType':=hm.k.trans hk
 have h3:=wZ hu
 refine wpS_bind (qW hu ?_)
 have b1:=h1.b1 hu hu1
 by_cases e:j+1=b.size
 ·rw [if_pos (beq_iff_eq.mpr e)]
  exact wpS_pure ⟨hm,_,_,_,_,_,_,_,rfl,b1.dn (.inl e)⟩
 rw [if_neg (mt beq_iff_eq.mp e)]
 obtain ⟨v,hv⟩:=zF (a:=a) (i:=i) (by omega)
 refine wpS_bind (qW hv ?_)
 refine wpS_bind (vL hk' W.ib (W.ia v (zQ hv)) (by omega) (fun i' j' _ hij hj=>soK W.sb hij (by omega)) (by omega) fun k' hc=>?_)
 obtain ⟨ck',d1,d2⟩:=cY hc
 dsimp only
 have b3:∀ y∈b.toList.drop (j+1+k'),kf v≤kf y:=fun y hy=>by
  obtain ⟨t,ht,e⟩:=mem_drop' hy
  have hl:=wZ (jR e)
  have:=d2 (t-(j+1)) (by omega) (by omega)
  rwa [show j+1+(t-(j+1))=t by omega,zA (jR e)] at this
 by_cases hk0:k' > 0
 ·rw [if_pos hk0]
  have b2:Jl a b (o.push u++b.extract (j+1) (j+1+k')) i (j+1+k'):=b1.bk fun x hx y hy=>by
   obtain ⟨t,ht,e⟩:=mK hx
   obtain ⟨t',ht',e'⟩:=mem_drop' hy
   have:=d1 t ht
   rw [zA (jR e)] at this
   have:=jX W.sa ht' (zP hv) e'
   omega
  by_cases e:j+1+k'=b.size
  ·rw [if_pos (beq_iff_eq.mpr e)]
   exact wpS_pure ⟨hm,_,_,_,_,_,_,_,rfl,b2.dn (.inl e)⟩
  rw [if_neg (mt beq_iff_eq.mp e)]
  exact fS W hm hv b2 h2 (by omega) (by omega) b3
 ·rw [if_neg hk0]
  obtain rfl:k'=0:=by omega
  exact fS W hm hv b1 h2 (by omega) (by omega) b3
theorem qBp {st st':SortSt} {N g p q i j:Nat} {o:KA} (W:Two a b) (hk:kindOf st=oneType') (hm:Sm st st') (hr:Res a b N none o i j) :
  wpS (model prog w) A E s (loA a b o i j p q g) (PL a b st N) st':=by
 unfold loA
 refine wpS_bind (yV hm fun st' hm=>?_)
 have hk':kindOf st'=oneType':=hm.k.trans hk
 obtain ⟨h1,h2,h3,h4⟩:=hr
 obtain ⟨u,hu⟩:=zF h3
 refine wpS_bind (qW hu ?_)
 refine wpS_bind (vL hk' W.ia (W.ib u (zQ hu)) (by omega) (fun i' j' _ hij hj=>soK W.sa hij (by omega)) (by omega) fun k hc=>?_)
 obtain ⟨ck,c1,c2⟩:=cZ hc
 have a1:Jl a b (o++a.extract i (i+k)) (i+k) j:=h1.ak fun x hx y hy=>by
  obtain ⟨t,ht,e⟩:=mK hx
  obtain ⟨t',ht',e'⟩:=mem_drop' hy
  have:=c1 t ht
  rw [zA (jR e)] at this
  have:=jX W.sb ht' (zP hu) e'
  omega
 have a2:∀ x∈a.toList.drop (i+k),kf u≤kf x:=fun x hx=>by
  obtain ⟨t,ht,e⟩:=mem_drop' hx
  have hl:=wZ (jR e)
  have:=c2 (t-i) (by omega) (by omega)
  rw [show i+(t-i)=t by omega,zA (jR e)] at this
  omega
 dsimp only
 by_cases hk0:k > 0
 ·rw [if_pos hk0]
  by_cases e:i+k+1=a.size
  ·rw [if_pos (beq_iff_eq.mpr e)]
   exact wpS_pure ⟨hm,_,_,_,_,_,_,_,rfl,a1.la W e⟩
  rw [if_neg (mt beq_iff_eq.mp e)]
  by_cases e':i+k=a.size
  ·rw [if_pos (beq_iff_eq.mpr e')]
   exact wpS_pure ⟨hm,_,_,_,_,_,_,_,rfl,a1.dn (.inr e')⟩
  rw [if_neg (mt beq_iff_eq.mp e')]
  exact fT W hk hm hu a1 (by omega) (by omega) a2
 ·rw [if_neg hk0]
  obtain rfl:k=0:=by omega
  exact fT W hk hm hu h1 h2 h4 a2
theorem qBm {st:SortSt} {Q:KA→SortSt→Prop} (W:Two a b) (hk:kindOf st=oneType')
  (h:∀ r st',Sm st st'→Fin' a b r→Q r st'):wpS (model prog w) A E s (mergeLo' a b) Q st:=by
 rw [mergeLo'_eq]
 refine wpS_bind (vK ?_)
 obtain ⟨y,hy⟩:=zF (a:=b) (i:=0) W.nb
 refine wpS_bind (qW hy ?_)
 have j0:Jl a b #[y] 0 1:=by
  have:Jl a b #[] 0 0:=⟨by simp,.nil,fun x hx=>by simp at hx,W.sa,W.sb⟩
  exact this.b1 hy fun x hx=>W.fst x y hy (List.mem_of_mem_drop hx)
 dsimp only
 by_cases e1:1=b.size
 ·rw [if_pos (beq_iff_eq.mpr e1)]
  exact wpS_pure (h _ _ (.rfl' _) (j0.dn (.inl e1)))
 rw [if_neg (mt beq_iff_eq.mp e1)]
 by_cases e2:0+1=a.size
 ·rw [if_pos (beq_iff_eq.mpr e2)]
  exact wpS_pure (h _ _ (.rfl' _) (j0.la W e2))
 rw [if_neg (mt beq_iff_eq.mp e2)]
 refine wpS_bind (wpS_get ?_)
 have na:=W.na
 have nb:=W.nb
 refine wpS_bind (wpS_mono (wpS_forRange (I:=fun x c st'=>Sm st st'∧∃ o i j g,c=(none,o,i,j,g)∧Res a b (1+x) none o i j)
  (Q:=fun c st'=>Sm st st'∧∃ r o i j g,c=(some r,o,i,j,g)∧Fin' a b r) ?stp ?fin ⟨.rfl' _,_,_,_,_,rfl,j0,by omega,by omega,by omega⟩) ?post)
 case post =>
  rintro c st' ⟨hm,r,o,i,j,g,rfl,hr⟩
  exact wpS_pure (h r st' hm hr)
 case fin =>
  rintro c st' ⟨hm,o,i,j,g,rfl,h1,h2,h3,h4⟩
  omega
 case stp =>
  rintro x c st' _ hx ⟨hm,o,i,j,g,rfl,h1,h2,h3,h4⟩
  have hk':kindOf st'=oneType':=hm.k.trans hk
  refine wpS_bind (qBq W hk' (by omega) h1 h2 h3 h4 (g:=g) (fun _ _ _ _ _ _=>rfl) fun r o i j p q hr=>?_)
  cases r with
  | some r=>exact wpS_pure ⟨hm,r,o,i,j,g,rfl,hr⟩
  | none =>
   refine wpS_bind (vK ?_)
   refine wpS_bind (wpS_mono (wpS_forRange (I:=fun _ c st'=>Sm st st'∧∃ o i j g p q,c=(none,o,i,j,g,p,q)∧Res a b (1+x+1) none o i j)
    (Q:=fun c st'=>Sm st st'∧∃ r o i j g p q,c=(r,o,i,j,g,p,q)∧Res a b (1+x+1) r o i j) ?stp2 ?fin2 ⟨hm,_,_,_,_,_,_,rfl,hr⟩) ?post2)
   case fin2 =>
    rintro c st' ⟨hm,o,i,j,g,p,q,rfl,hr⟩
    exact ⟨hm,none,_,_,_,_,_,_,rfl,hr⟩
   case post2 =>
    rintro c st' ⟨hm,r,o,i,j,g,p,q,rfl,hr⟩
    cases r with
    | some r=>exact wpS_pure ⟨hm,r,o,i,j,g,rfl,hr⟩
    | none=>exact wpS_bind (yV hm fun st'' hm=>wpS_pure ⟨hm,_,_,_,_,rfl,hr⟩)
   case stp2 =>
    clear hr hm h1 h2 h3 h4 hk' st'
    rintro x' c st' _ _ ⟨hm,o,i,j,g,p,q,rfl,hr⟩
    have body:∀ g,wpS (model prog w) A E s (loA a b o i j p q g) (PL a b st (1+x+1)) st':=fun g=>qBp W hk hm hr
    refine wpS_mono (Q:=PL a b st (1+x+1)) (wO (body _) (body _)) (fun r st' h=>?_)
    cases r with
    | done c=>exact h
    | yield c=>exact h
end
end Sr
set_option Elab.async false
set_option linter.all false
set_option maxRecDepth 100000
namespace Sr
open PySem PyProof.Rows
section
variable {prog:Program} {w:World} {A:Around} {E:Value→Shared→Prop} {s:Shared} {a b o:KA} {i j:Nat}
noncomputable def nf (p:Keyed):Int:=- kf p
noncomputable def Jh (a b o:KA) (i j:Nat):Prop:=J nf o.toList (a.toList.take i).reverse (b.toList.take j).reverse (a.toList++b.toList)
theorem hV {l:KL} (h:So kf l):So nf l.reverse:=by
 unfold So at h ⊢
 rw [List.pairwise_reverse]
 exact h.imp fun {x y} q=>by unfold nf;omega
theorem so_rev' {l:KL} (h:So nf l):So kf l.reverse:=by
 unfold So at h ⊢
 rw [List.pairwise_reverse]
 exact h.imp fun {x y} q=>by unfold nf at q;omega
theorem Jh.b1 {y:Keyed} (h:Jh a b o i (j+1)) (hy:b[j]?=some y) (q:∀ x∈a.toList.take i,kf x≤kf y):Jh a b (o.push y) i j:=by
 unfold Jh at h ⊢
 rw [aL (zP hy)] at h
 rw [Array.toList_push]
 exact (h.swap.take fun x hx z hz=>by rw [List.mem_singleton.mp hx];have:=q z (List.mem_reverse.mp hz);unfold nf;omega).swap
theorem Jh.a1 {y:Keyed} (h:Jh a b o (i+1) j) (hy:a[i]?=some y) (q:∀ x∈b.toList.take j,kf x≤kf y):Jh a b (o.push y) i j:=by
 unfold Jh at h ⊢
 rw [aL (zP hy)] at h
 rw [Array.toList_push]
 exact h.take fun x hx z hz=>by rw [List.mem_singleton.mp hx];have:=q z (List.mem_reverse.mp hz);unfold nf;omega
theorem pG (a:KA) (k i:Nat):(a.extract k i).reverse.toList=((a.toList.take i).drop k).reverse:=by
 rw [Array.toList_reverse,Array.toList_extract,List.extract_eq_take_drop,List.drop_take]
theorem Jh.ak {k:Nat} (h:Jh a b o i j) (hk:k≤i) (q:∀ x∈(a.toList.take i).drop k,∀ y∈b.toList.take j,kf y≤kf x):Jh a b (o++(a.extract k i).reverse) k j:=by
 unfold Jh at h ⊢
 rw [fD hk] at h
 rw [Array.toList_append,pG]
 exact h.take fun x hx y hy=>by have:=q x (List.mem_reverse.mp hx) y (List.mem_reverse.mp hy);unfold nf;omega
theorem Jh.bk {k:Nat} (h:Jh a b o i j) (hk:k≤j) (q:∀ x∈(b.toList.take j).drop k,∀ y∈a.toList.take i,kf y≤kf x):Jh a b (o++(b.extract k j).reverse) i k:=by
 unfold Jh at h ⊢
 rw [fD hk] at h
 rw [Array.toList_append,pG]
 exact (h.swap.take fun x hx y hy=>by have:=q x (List.mem_reverse.mp hx) y (List.mem_reverse.mp hy);unfold nf;omega).swap
theorem gI (a:KA) (i:Nat):(a.extract 0 i).toList=a.toList.take i:=by
 rw [Array.toList_extract,List.extract_eq_take_drop];simp
theorem qHV:(dnH a b o i j).toList=(o.toList++((b.toList.take j).reverse++(a.toList.take i).reverse)).reverse:=by
 unfold dnH;rw [Array.toList_append,Array.toList_append,gI,gI,Array.toList_reverse];simp
theorem qGp:(fbH a b o i j).toList=(o.toList++((a.toList.take i).reverse++(b.toList.take j).reverse)).reverse:=by
 unfold fbH;rw [Array.toList_append,Array.toList_append,gI,gI,Array.toList_reverse];simp
theorem pD {l:KL} {r:KA} (e:r.toList=l.reverse) (h:l.Perm (a.toList++b.toList)∧So nf l):Fin' a b r :=
 ⟨e ▸ (List.reverse_perm l).trans h.1,e ▸ so_rev' h.2⟩
theorem Jh.dn (h:Jh a b o i j) (hj:j=0∨i=0):Fin' a b (dnH a b o i j):=by
 refine pD qHV ?_
 unfold Jh at h
 rcases hj with rfl | rfl
 ·exact h.fin
 ·have:=h.swap.fin
  rw [List.take_zero,List.reverse_nil,List.append_nil];exact this
theorem Jh.fb (T:Two a b) (h:Jh a b o i 1):Fin' a b (fbH a b o i 1):=by
 refine pD qGp ?_
 unfold Jh at h
 obtain ⟨x,hx⟩:=zF (a:=b) (i:=0) T.nb
 have h':=h
 rw [← List.append_nil (a.toList.take i).reverse] at h'
 have h2:=(h'.take fun y hy z hz=>?_).swap.fin
 ·rw [← List.append_assoc];exact h2
 ·rw [aL (zP hx)] at hz
  rw [show z=x by simpa using hz]
  have:=T.fst y x hx (List.mem_of_mem_take (List.mem_reverse.mp hy))
  unfold nf;omega
noncomputable def ReH (a b:KA) (N:Nat) (r:Option KA) (o:KA) (i j:Nat):Prop:=match r with
 | some r=>Fin' a b r
 | none=>Jh a b o i j∧1≤i∧i≤a.size∧1<j∧j≤b.size∧i+j≤N
noncomputable abbrev S7h:=Option KA × Nat × Nat × KA × Nat × Nat × Nat
noncomputable def hiC (a b:KA) (g k k' i:Nat) (o:KA) (j:Nat):SM (ForInStep S7h):=do
 let v ← elem' a (i-1)
 if (i-1 == 0)=true then pure (.done (some (dnH a b (o.push v) (i-1) j),i-1,j,o.push v,g,k,k'))
 else if (decide (k<7)&&decide (k'<7))=true then pure (.done (none,i-1,j,o.push v,g,k,k'))
 else pure (.yield (none,i-1,j,o.push v,g,k,k'))
noncomputable def hiB (a b:KA) (g k q j:Nat) (o:KA) (i:Nat):SM (ForInStep S7h):=do
 let u ← elem' b (j-1)
 if (j-1 == 1)=true then pure (.done (some (fbH a b (o.push u) i (j-1)),i,j-1,o.push u,g,k,q))
 else do
  let v ← elem' a (i-1)
  let z ← gallop' true v b 0 (j-1) (j-1-1)
  match z with
  | some c =>
   if j-1-c > 0 then
    if (c == 1)=true then pure (.done (some (fbH a b (o.push u++(b.extract c (j-1)).reverse) i c),i,c,o.push u++(b.extract c (j-1)).reverse,g,k,j-1-c))
    else if (c == 0)=true then pure (.done (some (dnH a b (o.push u++(b.extract c (j-1)).reverse) i c),i,c,o.push u++(b.extract c (j-1)).reverse,g,k,j-1-c))
    else hiC a b g k (j-1-c) i (o.push u++(b.extract c (j-1)).reverse) c
   else hiC a b g k (j-1-c) i (o.push u) (j-1)
  | x=>pure (.done (some (dnH a b (o.push u) i (j-1)),i,j-1,o.push u,g,k,q))
noncomputable def hiA (a b:KA) (o:KA) (i j p q g:Nat):SM (ForInStep S7h):=do
 vA g
 let u ← elem' b (j-1)
 let z ← gallop' false u a 0 i (i-1)
 match z with
 | some c =>
  if i-c > 0 then
   if (c == 0)=true then pure (.done (some (dnH a b (o++(a.extract c i).reverse) c j),c,j,o++(a.extract c i).reverse,g,i-c,q))
   else hiB a b g (i-c) q j (o++(a.extract c i).reverse) c
  else hiB a b g (i-c) q j o i
 | x=>pure (.done (some (dnH a b o i j),i,j,o,g,p,q))
noncomputable def PH (a b:KA) (st:SortSt) (N:Nat) (r:ForInStep S7h) (st':SortSt):Prop:=match r with
 | .done c=>Sm st st'∧∃ r o i j g p q,c=(r,i,j,o,g,p,q)∧ReH a b N r o i j
 | .yield c=>Sm st st'∧∃ o i j g p q,c=(none,i,j,o,g,p,q)∧ReH a b N none o i j
theorem fU {st st':SortSt} {N g k k' i j:Nat} {o:KA} (W:Two a b) (hm:Sm st st') {v:Keyed} (hv:a[i]?=some v)
  (h1:Jh a b o (i+1) j) (h3:1<j) (h3':j≤b.size) (h4:i+1+j≤N) (hv1:∀ y∈b.toList.take j,kf y≤kf v) :
  wpS (model prog w) A E s (hiC a b g k k' (i+1) o j) (PH a b st N) st':=by
 unfold hiC
 simp only [Nat.add_sub_cancel]
 have hl:=wZ hv
 refine wpS_bind (qW hv ?_)
 have b1:=h1.a1 hv hv1
 by_cases e:i=0
 ·rw [if_pos (beq_iff_eq.mpr e)]
  exact wpS_pure ⟨hm,_,_,_,_,_,_,_,rfl,b1.dn (.inr e)⟩
 rw [if_neg (mt beq_iff_eq.mp e)]
 refine wO ?_ ?_
 ·exact wpS_pure ⟨hm,none,_,_,_,_,_,_,rfl,b1,by omega,by omega,h3,h3',by omega⟩
 ·exact wpS_pure ⟨hm,_,_,_,_,_,_,rfl,b1,by omega,by omega,h3,h3',by omega⟩
theorem fV {st st':SortSt} {N g k q i j:Nat} {o:KA} (W:Two a b) (hk:kindOf st=oneType') (hm:Sm st st') {u:Keyed} (hu:b[j]?=some u)
  (h1:Jh a b o (i+1) (j+1)) (hi:i<a.size) (h3:1≤j) (h4:i+1+(j+1)≤N) (hu1:∀ x∈a.toList.take (i+1),kf x≤kf u) :
  wpS (model prog w) A E s (hiB a b g k q (j+1) o (i+1)) (PH a b st N) st':=by
 unfold hiB
 have hk':kindOf st'=oneType':=hm.k.trans hk
 have h5:=wZ hu
 simp only [Nat.add_sub_cancel]
 refine wpS_bind (qW hu ?_)
 have b1:=h1.b1 hu hu1
 by_cases e:j=1
 ·subst e
  exact wpS_pure ⟨hm,_,_,_,_,_,_,_,rfl,b1.fb W⟩
 rw [if_neg (mt beq_iff_eq.mp e)]
 obtain ⟨v,hv⟩:=zF hi
 refine wpS_bind (qW hv ?_)
 refine wpS_bind (vL hk' W.ib (W.ia v (zQ hv)) (by omega) (fun i' j' _ hij hj=>soK W.sb hij (by omega)) (by omega) fun c hc=>?_)
 obtain ⟨ck,d1,d2⟩:=cY hc
 simp only [Nat.zero_add] at d1 d2
 dsimp only
 have b3:∀ y∈b.toList.take c,kf y≤kf v:=fun y hy=>by
  obtain ⟨t,ht,e⟩:=mem_take' hy
  have:=d1 t ht
  rw [zA (jR e)] at this;omega
 by_cases hk0:j-c > 0
 ·rw [if_pos hk0]
  have b2:Jh a b (o.push u++(b.extract c j).reverse) (i+1) c:=b1.bk (by omega) fun x hx y hy=>by
   obtain ⟨t,ht,ht2,e⟩:=mJ hx
   obtain ⟨t',ht',e'⟩:=mem_take' hy
   have:=d2 t ht ht2
   rw [zA (jR e)] at this
   have:=jX W.sa (show t'≤i by omega) e' (zP hv)
   omega
  by_cases e:c=1
  ·subst e
   exact wpS_pure ⟨hm,_,_,_,_,_,_,_,rfl,b2.fb W⟩
  rw [if_neg (mt beq_iff_eq.mp e)]
  by_cases e':c=0
  ·rw [if_pos (beq_iff_eq.mpr e')]
   exact wpS_pure ⟨hm,_,_,_,_,_,_,_,rfl,b2.dn (.inl e')⟩
  rw [if_neg (mt beq_iff_eq.mp e')]
  exact fU W hm hv b2 (by omega) (by omega) (by omega) b3
 ·rw [if_neg hk0]
  obtain rfl:c=j:=by omega
  exact fU W hm hv b1 (by omega) (by omega) (by omega) b3
theorem qBs {st st':SortSt} {N g p q i j:Nat} {o:KA} (W:Two a b) (hk:kindOf st=oneType') (hm:Sm st st') (hr:ReH a b N none o i j) :
  wpS (model prog w) A E s (hiA a b o i j p q g) (PH a b st N) st':=by
 obtain ⟨h1,h2,h2',h3,h3',h4⟩:=hr
 obtain ⟨i,rfl⟩:∃ k,i=k+1:=⟨i-1,by omega⟩
 obtain ⟨j,rfl⟩:∃ k,j=k+1:=⟨j-1,by omega⟩
 unfold hiA
 refine wpS_bind (yV hm fun st' hm=>?_)
 have hk':kindOf st'=oneType':=hm.k.trans hk
 obtain ⟨u,hu⟩:=zF (a:=b) (i:=j) (by omega)
 simp only [Nat.add_sub_cancel]
 refine wpS_bind (qW hu ?_)
 refine wpS_bind (vL hk' W.ia (W.ib u (zQ hu)) (by omega) (fun i' j' _ hij hj=>soK W.sa hij (by omega)) (by omega) fun c hc=>?_)
 obtain ⟨ck,c1,c2⟩:=cZ hc
 simp only [Nat.zero_add] at c1 c2
 have a2:∀ x∈a.toList.take c,kf x≤kf u:=fun x hx=>by
  obtain ⟨t,ht,e⟩:=mem_take' hx
  have:=c1 t ht
  rwa [zA (jR e)] at this
 dsimp only
 by_cases hk0:i+1-c > 0
 ·rw [if_pos hk0]
  have a1:Jh a b (o++(a.extract c (i+1)).reverse) c (j+1):=h1.ak (by omega) fun x hx y hy=>by
   obtain ⟨t,ht,ht2,e⟩:=mJ hx
   obtain ⟨t',ht',e'⟩:=mem_take' hy
   have:=c2 t ht ht2
   rw [zA (jR e)] at this
   have:=jX W.sb (show t'≤j by omega) e' (zP hu)
   omega
  by_cases e:c=0
  ·rw [if_pos (beq_iff_eq.mpr e)]
   exact wpS_pure ⟨hm,_,_,_,_,_,_,_,rfl,a1.dn (.inr e)⟩
  rw [if_neg (mt beq_iff_eq.mp e)]
  obtain ⟨c,rfl⟩:∃ k,c=k+1:=⟨c-1,by omega⟩
  exact fV W hk hm hu a1 (by omega) (by omega) (by omega) a2
 ·rw [if_neg hk0]
  obtain rfl:c=i+1:=by omega
  exact fV W hk hm hu h1 (by omega) (by omega) (by omega) a2
theorem qBt {st:SortSt} {g T N:Nat} (W:Two a b) (hk:kindOf st=oneType') (hT:1≤T) (h:ReH a b N none o i j)
  {f:Nat→Option KA × Nat × Nat × KA × Nat × Nat→SM (ForInStep (Option KA × Nat × Nat × KA × Nat × Nat))} {Q:Option KA × Nat × Nat × KA × Nat × Nat→SortSt→Prop}
  (hf:∀ x o i j p q,f x (none,i,j,o,p,q)=do
   let z ← lt' (← elem' b (j-1)) (← elem' a (i-1))
   match z with
   | some z =>
    if z=true then do
     let y ← elem' a (i-1)
     (if (i-1 == 0)=true then pure (.done (some (dnH a b (o.push y) (i-1) j),i-1,j,o.push y,p+1,0)) else if p+1 ≥ g then pure (.done (none,i-1,j,o.push y,p+1,0)) else pure (.yield (none,i-1,j,o.push y,p+1,0)))
    else do
     let y ← elem' b (j-1)
     (if (j-1 == 1)=true then pure (.done (some (fbH a b (o.push y) i (j-1)),i,j-1,o.push y,0,q+1)) else if q+1 ≥ g then pure (.done (none,i,j-1,o.push y,0,q+1)) else pure (.yield (none,i,j-1,o.push y,0,q+1)))
   | x=>pure (.done (some (dnH a b o i j),i,j,o,p,q)))
  (hQ:∀ r o i j p q,ReH a b (N-1) r o i j→Q (r,i,j,o,p,q) st) :
  wpS (model prog w) A E s (forIn [0:T] (none,i,j,o,0,0) f) Q st:=by
 refine wpS_forRange (I:=fun x c st'=>st'=st∧∃ i j o p q,c=(none,i,j,o,p,q)∧ReH a b (N-x) none o i j) ?stp ?fin ⟨rfl,_,_,_,_,_,rfl,h⟩
 case fin =>
  rintro c st' ⟨rfl,i,j,o,p,q,rfl,h1,h2,h3,h4,h5,h6⟩
  exact hQ none o i j p q ⟨h1,h2,h3,h4,h5,by omega⟩
 case stp =>
  rintro x c st' _ hx ⟨rfl,i,j,o,p,q,rfl,h1,h2,h3,h4,h5,h6⟩
  obtain ⟨i,rfl⟩:∃ k,i=k+1:=⟨i-1,by omega⟩
  obtain ⟨j,rfl⟩:∃ k,j=k+1:=⟨j-1,by omega⟩
  rw [hf]
  simp only [Nat.add_sub_cancel]
  obtain ⟨u,hu⟩:=zF (a:=b) (i:=j) (by omega)
  obtain ⟨v,hv⟩:=zF (a:=a) (i:=i) (by omega)
  refine wpS_bind (qW hu (wpS_bind (qW hv (wpS_bind (wN hk (W.ib u (zQ hu)) (W.ia v (zQ hv)) ?_)))))
  by_cases hc:kf u<kf v
  ·simp only [hc,decide_true,if_true]
   refine wpS_bind (qW hv ?_)
   have h1':=h1.a1 hv fun x hx=>by
    obtain ⟨m,hm,e⟩:=mem_take' hx
    have:=jX W.sb (show m≤j by omega) e (zP hu)
    omega
   by_cases e:i=0
   ·rw [if_pos (beq_iff_eq.mpr e)]
    exact wpS_pure (hQ _ _ _ _ _ _ (h1'.dn (.inr e)))
   ·rw [if_neg (mt beq_iff_eq.mp e)]
    split
    ·exact wpS_pure (hQ none _ _ _ _ _ ⟨h1',by omega,by omega,h4,h5,by omega⟩)
    ·exact wpS_pure ⟨rfl,_,_,_,_,_,rfl,h1',by omega,by omega,h4,h5,by omega⟩
  ·simp only [hc,decide_false,Bool.false_eq_true,if_false]
   refine wpS_bind (qW hu ?_)
   have h1':=h1.b1 hu fun x hx=>by
    obtain ⟨m,hm,e⟩:=mem_take' hx
    have:=jX W.sa (show m≤i by omega) e (zP hv)
    omega
   by_cases e:j=1
   ·subst e
    exact wpS_pure (hQ _ _ _ _ _ _ (h1'.fb W))
   ·rw [if_neg (mt beq_iff_eq.mp e)]
    split
    ·exact wpS_pure (hQ none _ _ _ _ _ ⟨h1',h2,h3,by omega,by omega,by omega⟩)
    ·exact wpS_pure ⟨rfl,_,_,_,_,_,rfl,h1',h2,h3,by omega,by omega,by omega⟩
theorem qBn {st:SortSt} {Q:KA→SortSt→Prop} (W:Two a b) (hk:kindOf st=oneType')
  (h:∀ r st',Sm st st'→Fin' a b r→Q r st'):wpS (model prog w) A E s (mergeHi' a b) Q st:=by
 rw [mergeHi'_eq]
 refine wpS_bind (vK ?_)
 have na:=W.na
 have nb:=W.nb
 obtain ⟨y,hy⟩:=zF (a:=a) (i:=a.size-1) (by omega)
 have j0:Jh a b #[y] (a.size-1) b.size:=by
  have e:∀ l:KA,l.toList.take l.size=l.toList:=fun l=>List.take_of_length_le (Nat.le_refl _)
  have:Jh a b #[] (a.size-1+1) b.size:=by
   rw [show a.size-1+1=a.size by omega]
   unfold Jh
   rw [e,e]
   exact ⟨(List.reverse_perm _).append (List.reverse_perm _),.nil,fun x hx=>by simp at hx,hV W.sa,hV W.sb⟩
  exact this.a1 hy fun x hx=>W.lst y x hy (List.mem_of_mem_take hx)
 refine wpS_bind (qW hy ?_)
 by_cases e1:a.size-1=0
 ·rw [if_pos (beq_iff_eq.mpr e1)]
  exact wpS_pure (h _ _ (.rfl' _) (j0.dn (.inr e1)))
 rw [if_neg (mt beq_iff_eq.mp e1)]
 by_cases e2:b.size=1
 ·rw [if_pos (beq_iff_eq.mpr e2)]
  rw [e2] at j0 ⊢
  exact wpS_pure (h _ _ (.rfl' _) (j0.fb W))
 rw [if_neg (mt beq_iff_eq.mp e2)]
 refine wpS_bind (wpS_get ?_)
 refine wpS_bind (wpS_mono (wpS_forRange (I:=fun x c st'=>Sm st st'∧∃ i j o g,c=(none,i,j,o,g)∧ReH a b (a.size+b.size-x) none o i j)
  (Q:=fun c st'=>Sm st st'∧∃ r i j o g,c=(some r,i,j,o,g)∧Fin' a b r) ?stp ?fin ⟨.rfl' _,_,_,_,_,rfl,j0,by omega,by omega,by omega,by omega,by omega⟩) ?post)
 case post =>
  rintro c st' ⟨hm,r,i,j,o,g,rfl,hr⟩
  exact wpS_pure (h r st' hm hr)
 case fin =>
  rintro c st' ⟨hm,i,j,o,g,rfl,h1,h2,h3,h4,h5,h6⟩
  omega
 case stp =>
  rintro x c st' _ hx ⟨hm,i,j,o,g,rfl,hr⟩
  have hk':kindOf st'=oneType':=hm.k.trans hk
  refine wpS_bind (qBt W hk' (by omega) hr (g:=g) (fun _ _ _ _ _ _=>rfl) fun r o i j p q hr=>?_)
  rw [show a.size+b.size-x-1=a.size+b.size-(x+1) by omega] at hr
  cases r with
  | some r=>exact wpS_pure ⟨hm,r,i,j,o,g,rfl,hr⟩
  | none =>
   refine wpS_bind (vK ?_)
   refine wpS_bind (wpS_mono (wpS_forRange (I:=fun _ c st'=>Sm st st'∧∃ o i j g p q,c=(none,i,j,o,g,p,q)∧ReH a b (a.size+b.size-(x+1)) none o i j)
    (Q:=fun c st'=>Sm st st'∧∃ r o i j g p q,c=(r,i,j,o,g,p,q)∧ReH a b (a.size+b.size-(x+1)) r o i j) ?stp2 ?fin2 ⟨hm,_,_,_,_,_,_,rfl,hr⟩) ?post2)
   case fin2 =>
    rintro c st' ⟨hm,o,i,j,g,p,q,rfl,hr⟩
    exact ⟨hm,none,_,_,_,_,_,_,rfl,hr⟩
   case post2 =>
    rintro c st' ⟨hm,r,o,i,j,g,p,q,rfl,hr⟩
    cases r with
    | some r=>exact wpS_pure ⟨hm,r,i,j,o,g,rfl,hr⟩
    | none=>exact wpS_bind (yV hm fun st'' hm=>wpS_pure ⟨hm,_,_,_,_,rfl,hr⟩)
   case stp2 =>
    clear hr hm hk' st'
    rintro x' c st' _ _ ⟨hm,o,i,j,g,p,q,rfl,hr⟩
    have body:∀ g,wpS (model prog w) A E s (hiA a b o i j p q g) (PH a b st (a.size+b.size-(x+1))) st':=fun g=>qBs W hk hm hr
    refine wpS_mono (Q:=PH a b st (a.size+b.size-(x+1))) (wO (body _) (body _)) (fun r st' h=>?_)
    cases r with
    | done c=>exact h
    | yield c=>exact h
end
end Sr
set_option Elab.async false
set_option linter.all false
set_option maxRecDepth 100000
namespace Sr
open PySem PyProof.Rows
section
variable {prog:Program} {w:World} {A:Around} {E:Value→Shared→Prop} {s:Shared} {a₀:KA}
theorem qBk {st t:SortSt} {Q:PUnit→SortSt→Prop} (h:Q ⟨⟩ t):wpS (model prog w) A E s (set t:SM PUnit) Q st:=by
 unfold wpS;rw [StateT.run_set];exact wpAny_pure ⟨rfl,h⟩
noncomputable def wrt (sa:Nat) (l:KL) (xs:KA):KA:=l.zipIdx.foldl (fun a (p,j)=>a.setIfInBounds (sa+j) p) xs
theorem mergeAt'_eq (i:Nat):mergeAt' i=(do
 let t ← get
 let (some (sa,na,q),some (sb,nb,_)):=((pendingOf t)[i]?,(pendingOf t)[i+1]?) | unsupported "internal:list.sort.pending"
 set (setPending t (((pendingOf t).setIfInBounds i (sa,na+nb,q)).eraseIdxIfInBounds (i+1)))
 let some k ← gallop' false (← elem' (arrOf t) sb) (arrOf t) sa na 0 | return false
 let (sa,na):=(sa+k,na-k)
 if na == 0 then return true
 let some nb ← gallop' true (← elem' (arrOf t) (sa+na-1)) (arrOf t) sb nb (nb-1) | return false
 if nb == 0 then return true
 let x:=(arrOf t).extract sa sb
 let y:=(arrOf t).extract sb (sb+nb)
 let r ← if na≤nb then mergeLo' x y else mergeHi' x y
 modify fun s=>setArr s (wrt sa r.toList (arrOf s))
 return (failedOf (← get)).isNone):=rfl
theorem eL (sa:Nat):∀ (l:KL) (n:Nat) (xs:KA),sa+n+l.length≤xs.size→∀ t:Nat,
  ((l.zipIdx n).foldl (fun a (p,j)=>a.setIfInBounds (sa+j) p) xs)[t]?=if sa+n≤t∧t<sa+n+l.length then l[t-(sa+n)]? else xs[t]?
 | [],n,xs,_,t=>by rw [if_neg (by simp only [List.length_nil];omega)];rfl
 | p::l,n,xs,h,t=>by
  rw [List.length_cons] at h ⊢
  rw [List.zipIdx_cons,List.foldl_cons,eL sa l (n+1) _ (by rw [Array.size_setIfInBounds];omega) t]
  by_cases h1:sa+(n+1)≤t∧t<sa+(n+1)+l.length
  ·rw [if_pos h1,if_pos (by omega),show t-(sa+n)=(t-(sa+(n+1)))+1 by omega,List.getElem?_cons_succ]
  ·rw [if_neg h1,Array.getElem?_setIfInBounds]
   by_cases h2:sa+n=t
   ·rw [if_pos h2,if_pos (by omega),if_pos (by omega),show t-(sa+n)=0 by omega];rfl
   ·rw [if_neg h2,if_neg (by omega)]
theorem wI {sa:Nat} {l:KL} {xs:KA} (h:sa+l.length≤xs.size) (t:Nat):(wrt sa l xs)[t]?=if sa≤t∧t<sa+l.length then l[t-sa]? else xs[t]?:=eL sa l 0 xs h t
theorem tT {sa:Nat} {l:KL} {xs:KA} (h:sa+l.length≤xs.size):(wrt sa l xs).toList=xs.toList.take sa++(l++xs.toList.drop (sa+l.length)):=by
 refine List.ext_getElem? fun t=>?_
 rw [Array.getElem?_toList,wI h,List.getElem?_append,List.getElem?_append,List.length_take,show xs.toList.length=xs.size from rfl,List.getElem?_take,List.getElem?_drop,xs.getElem?_toList,xs.getElem?_toList]
 by_cases h1:t<sa
 ·rw [if_neg (by omega),if_pos (by omega),if_pos h1]
 ·by_cases h2:t<sa+l.length
  ·rw [if_pos (by omega),if_neg (by omega),if_pos (by omega)];congr 1;omega
  ·rw [if_neg (by omega),if_neg (by omega),if_neg (by omega)];congr 1;omega
noncomputable def Seg (xs:KA) (lo hi:Nat):Prop:=∀ i j,lo≤i→i≤j→j<hi→K xs i≤K xs j
theorem qB3 {a:KA} (h:∀ i j,i≤j→j<a.size→K a i≤K a j):So kf a.toList:=by
 unfold So
 rw [List.pairwise_iff_getElem]
 intro i j hi hj hij
 have hi':i<a.size:=hi
 have hj':j<a.size:=hj
 have:=h i j (by omega) hj'
 rw [zA (getElem?_pos a i hi'),zA (getElem?_pos a j hj')] at this
 exact this
theorem gG {a:KA} {lo hi t:Nat} (h:hi≤a.size) (ht:lo+t<hi):(a.extract lo hi)[t]?=a[lo+t]?:=by
 rw [Array.getElem?_extract,if_pos (by omega)]
theorem wA {a:KA} {lo hi:Nat} {x:Keyed} (h:x∈(a.extract lo hi).toList):∃ t,lo≤t∧t<hi∧a[t]?=some x:=by
 obtain ⟨t,ht⟩:=List.mem_iff_getElem?.mp h
 rw [Array.getElem?_toList,Array.getElem?_extract] at ht
 split at ht
 ·exact ⟨lo+t,by omega,by omega,ht⟩
 ·cases ht
theorem pF {a:KA} {lo hi lo' hi':Nat} (h:Seg a lo' hi') (hh:hi≤a.size) (h1:lo'≤lo) (h2:hi≤hi'):So kf (a.extract lo hi).toList:=by
 refine qB3 fun i j hij hj=>?_
 rw [Array.size_extract] at hj
 rw [K_congr (gG hh (by omega)),K_congr (gG hh (by omega))]
 exact h _ _ (by omega) (by omega) (by omega)
structure SB (a₀:KA) (st:SortSt):Prop where
 perm:(arrOf st).Perm a₀
 kind:kindOf st=oneType'
 failed:failedOf st=none
theorem SB.size {st:SortSt} (h:SB a₀ st):(arrOf st).size=a₀.size:=h.perm.size_eq
theorem SB.int {st:SortSt} (h:SB a₀ st) (h0:IntKeys a₀):∀ x∈(arrOf st).toList,isI x :=
 fun x hx=>h0 x ((Array.perm_iff_toList_perm.mp h.perm).mem_iff.mp hx)
theorem qBo {st:SortSt} {i sa na nb p p':Nat} {Q:Bool→SortSt→Prop} (h0:IntKeys a₀) (hB:SB a₀ st)
  (e1:(pendingOf st)[i]?=some (sa,na,p)) (e2:(pendingOf st)[i+1]?=some (sa+na,nb,p')) (hna:1≤na) (hnb:1≤nb) (hsz:sa+na+nb≤a₀.size)
  (sA:Seg (arrOf st) sa (sa+na)) (sB:Seg (arrOf st) (sa+na) (sa+na+nb))
  (h:∀ st',SB a₀ st'→pendingOf st'=((pendingOf st).setIfInBounds i (sa,na+nb,p)).eraseIdxIfInBounds (i+1) →
   (∀ t,t<sa∨sa+na+nb≤t→K (arrOf st') t=K (arrOf st) t)→Seg (arrOf st') sa (sa+na+nb)→Q true st') :
  wpS (model prog w) A E s (mergeAt' i) Q st:=by
 rw [mergeAt'_eq]
 refine wpS_bind (wpS_get ?_)
 rw [e1,e2]
 have hI:=hB.int h0
 have hs:=hB.size
 obtain ⟨u,hu⟩:=zF (a:=arrOf st) (i:=sa+na) (by omega)
 have hB2:SB a₀ (setPending st (((pendingOf st).setIfInBounds i (sa,na+nb,p)).eraseIdxIfInBounds (i+1))):=⟨hB.perm,hB.kind,hB.failed⟩
 refine wpS_bind (qBk (wpS_bind (qW hu ?_)))
 refine wpS_bind (vL (xs:=arrOf st) hB2.kind hI (hI u (zQ hu)) (by omega) sA (by omega) fun k hc=>?_)
 obtain ⟨ck,c1,c2⟩:=cZ hc
 have hKu:=zA hu
 dsimp only
 by_cases e:na-k=0
 ·rw [if_pos (beq_iff_eq.mpr e)]
  refine wpS_pure (h _ hB2 rfl (fun _ _=>rfl) fun i j h1 h2 h3=>?_)
  show K (arrOf st) i≤K (arrOf st) j
  by_cases q1:j<sa+na
  ·exact sA i j h1 h2 q1
  by_cases q2:i<sa+na
  ·have:=c1 (i-sa) (by omega)
   rw [show sa+(i-sa)=i by omega] at this
   have:=sB (sa+na) j (by omega) (by omega) h3
   omega
  ·exact sB i j (by omega) h2 h3
 rw [if_neg (mt beq_iff_eq.mp e)]
 have el:sa+k+(na-k)-1=sa+na-1:=by omega
 obtain ⟨v,hv⟩:=zF (a:=arrOf st) (i:=sa+na-1) (by omega)
 have hKv:=zA hv
 rw [el]
 refine wpS_bind (qW hv ?_)
 refine wpS_bind (vL (xs:=arrOf st) hB2.kind hI (hI v (zQ hv)) (by omega) sB (by omega) fun n hc=>?_)
 obtain ⟨cn,d1,d2⟩:=cY hc
 dsimp only
 by_cases e':n=0
 ·rw [if_pos (beq_iff_eq.mpr e')]
  refine wpS_pure (h _ hB2 rfl (fun _ _=>rfl) fun i j h1 h2 h3=>?_)
  show K (arrOf st) i≤K (arrOf st) j
  by_cases q1:j<sa+na
  ·exact sA i j h1 h2 q1
  by_cases q2:i<sa+na
  ·have:=d2 (j-(sa+na)) (by omega) (by omega)
   rw [show sa+na+(j-(sa+na))=j by omega] at this
   have:=sA i (sa+na-1) h1 (by omega) (by omega)
   omega
  ·exact sB i j (by omega) h2 h3
 rw [if_neg (mt beq_iff_eq.mp e')]
 have W:Two ((arrOf st).extract (sa+k) (sa+na)) ((arrOf st).extract (sa+na) (sa+na+n)):=by
  refine ⟨fun x hx=>?_,fun x hx=>?_,pF sA (by omega) (by omega) (by omega),pF sB (by omega) (by omega) (by omega),by rw [Array.size_extract];omega,by rw [Array.size_extract];omega,fun x y hy hx=>?_,fun x y hx hy=>?_⟩
  ·obtain ⟨t,_,_,ht⟩:=wA hx;exact hI x (zQ ht)
  ·obtain ⟨t,_,_,ht⟩:=wA hx;exact hI x (zQ ht)
  ·rw [gG (by omega) (by omega)] at hy
   obtain rfl:u=y:=Option.some.inj (hu.symm.trans hy)
   obtain ⟨t,h1,h2,ht⟩:=wA hx
   have:=c2 (t-sa) (by omega) (by omega)
   rw [show sa+(t-sa)=t by omega,zA ht] at this
   omega
  ·rw [Array.size_extract,gG (by omega) (by omega),show sa+k+(min (sa+na) (arrOf st).size-(sa+k)-1)=sa+na-1 by omega] at hx
   obtain rfl:v=x:=Option.some.inj (hv.symm.trans hx)
   obtain ⟨t,h1,h2,ht⟩:=wA hy
   have:=d1 (t-(sa+na)) (by omega)
   rw [show sa+na+(t-(sa+na))=t by omega,zA ht] at this
   omega
 have go:∀ r st',Sm (setPending st (((pendingOf st).setIfInBounds i (sa,na+nb,p)).eraseIdxIfInBounds (i+1))) st' →
   Fin' ((arrOf st).extract (sa+k) (sa+na)) ((arrOf st).extract (sa+na) (sa+na+n)) r →
   wpS (model prog w) A E s (do
    modify fun s=>setArr s (wrt (sa+k) r.toList (arrOf s))
    return (failedOf (← get)).isNone) Q st':=by
  rintro r st' hm ⟨hp,hso⟩
  refine wpS_bind (wpS_modify (wpS_bind (wpS_get ?_)))
  have hlen:r.toList.length=na-k+n:=by
   rw [hp.length_eq,List.length_append,Array.length_toList,Array.length_toList,Array.size_extract,Array.size_extract];omega
  have ha:arrOf st'=arrOf st:=hm.a
  have hle:sa+k+r.toList.length≤(arrOf st).size:=by omega
  have hmem:∀ x∈r.toList,∃ t,sa+k≤t∧t<sa+na+n∧(arrOf st)[t]?=some x:=fun x hx=>by
   rcases List.mem_append.mp (hp.mem_iff.mp hx) with h | h
   ·obtain ⟨t,h1,h2,ht⟩:=wA h;exact ⟨t,by omega,by omega,ht⟩
   ·obtain ⟨t,h1,h2,ht⟩:=wA h;exact ⟨t,by omega,by omega,ht⟩
  have inn:∀ t,sa+k≤t→t<sa+na+n→∃ t',sa+k≤t'∧t'<sa+na+n∧K (wrt (sa+k) r.toList (arrOf st)) t=K (arrOf st) t':=fun t h1 h2=>by
   have hg:=wI hle t
   rw [if_pos (by omega)] at hg
   obtain ⟨x,hx⟩:∃ x,r.toList[t-(sa+k)]?=some x:=⟨r.toList[t-(sa+k)]'(by omega),List.getElem?_eq_getElem (by omega)⟩
   rw [hx] at hg
   obtain ⟨t',g1,g2,g3⟩:=hmem x (List.mem_of_getElem? hx)
   exact ⟨t',g1,g2,by rw [zA hg,zA g3]⟩
  have out:∀ t,t<sa+k∨sa+na+n≤t→K (wrt (sa+k) r.toList (arrOf st)) t=K (arrOf st) t:=fun t h1=>by
   have hg:=wI hle t
   rw [if_neg (by omega)] at hg
   exact K_congr hg
  have mid:∀ t,sa+k≤t→t<sa+na+n→kf u≤K (arrOf st) t∧K (arrOf st) t≤kf v:=fun t h1 h2=>by
   by_cases q:t<sa+na
   ·have a1:=c2 (t-sa) (by omega) (by omega)
    rw [show sa+(t-sa)=t by omega] at a1
    have a2:=sA t (sa+na-1) (by omega) (by omega) (by omega)
    omega
   ·have a1:=sB (sa+na) t (by omega) (by omega) (by omega)
    have a2:=d1 (t-(sa+na)) (by omega)
    rw [show sa+na+(t-(sa+na))=t by omega] at a2
    omega
  have low:∀ t,sa≤t→t<sa+k→K (arrOf st) t≤kf u:=fun t h1 h2=>by
   have:=c1 (t-sa) (by omega)
   rwa [show sa+(t-sa)=t by omega] at this
  have hig:∀ t,sa+na+n≤t→t<sa+na+nb→kf v≤K (arrOf st) t:=fun t h1 h2=>by
   have:=d2 (t-(sa+na)) (by omega) (by omega)
   rwa [show sa+na+(t-(sa+na))=t by omega] at this
  have huv:kf u≤kf v:=by have:=mid (sa+na-1) (by omega) (by omega);omega
  have hfin:wrt (sa+k) r.toList (arrOf st')=wrt (sa+k) r.toList (arrOf st):=by rw [ha]
  refine wpS_pure ?_
  show Q (failedOf st').isNone _
  rw [hm.f,show failedOf (setPending st _)=failedOf st from rfl,hB.failed]
  refine h _ ⟨?_,hm.k.trans hB.kind,hm.f.trans hB.failed⟩ hm.p (fun t ht=>?_) fun i j h1 h2 h3=>?_
  ·show (wrt (sa+k) r.toList (arrOf st')).Perm a₀
   rw [hfin]
   refine (Array.perm_iff_toList_perm.mpr ?_).trans hB.perm
   rw [tT hle]
   have e3:(arrOf st).toList=(arrOf st).toList.take (sa+k)++(((arrOf st).extract (sa+k) (sa+na)).toList++((arrOf st).extract (sa+na) (sa+na+n)).toList++(arrOf st).toList.drop (sa+k+r.toList.length)):=by
    rw [Array.toList_extract,Array.toList_extract,List.extract_eq_take_drop,List.extract_eq_take_drop]
    conv=>lhs;rw [← List.take_append_drop (sa+k) (arrOf st).toList]
    congr 1
    conv=>lhs;rw [← List.take_append_drop (sa+na-(sa+k)) ((arrOf st).toList.drop (sa+k)),List.drop_drop,show sa+k+(sa+na-(sa+k))=sa+na by omega,
     ← List.take_append_drop (sa+na+n-(sa+na)) ((arrOf st).toList.drop (sa+na)),List.drop_drop,← List.append_assoc]
    congr 2
    omega
   exact (List.Perm.append_left _ (List.Perm.append_right _ hp)).trans (List.Perm.of_eq e3.symm)
  ·show K (wrt (sa+k) r.toList (arrOf st')) t=_
   rw [hfin];exact out t (by omega)
  ·show K (wrt (sa+k) r.toList (arrOf st')) i≤K (wrt (sa+k) r.toList (arrOf st')) j
   rw [hfin]
   by_cases q1:i<sa+k
   ·rw [out i (.inl q1)]
    have l1:=low i h1 q1
    by_cases q2:j<sa+k
    ·rw [out j (.inl q2)];exact sA i j h1 h2 (by omega)
    by_cases q3:j<sa+na+n
    ·obtain ⟨t',g1,g2,g3⟩:=inn j (by omega) q3
     rw [g3]
     have:=mid t' g1 g2
     omega
    ·rw [out j (by omega)]
     have:=hig j (by omega) h3
     omega
   by_cases q2:sa+na+n≤i
   ·rw [out i (.inr q2),out j (by omega)];exact sB i j (by omega) h2 h3
   by_cases q3:j<sa+na+n
   ·have hgi:=wI hle i
    have hgj:=wI hle j
    rw [if_pos (by omega),Array.getElem?_toList] at hgi hgj
    rw [K_congr hgi,K_congr hgj]
    exact soK hso (by omega) (by rw [← Array.length_toList];omega)
   ·obtain ⟨t',g1,g2,g3⟩:=inn i (by omega) (by omega)
    rw [g3,out j (by omega)]
    have:=mid t' g1 g2
    have:=hig j (by omega) h3
    omega
 refine wO (wpS_bind ?_) (wpS_bind ?_)
 ·exact qBm W hB2.kind go
 ·exact qBn W hB2.kind go
end
end Sr
set_option Elab.async false
set_option linter.all false
set_option maxRecDepth 100000
namespace Sr
open PySem PyProof.Rows
section
variable {prog:Program} {w:World} {A:Around} {E:Value→Shared→Prop} {s:Shared} {a₀:KA}
theorem wP {st:SortSt} {i j:Nat} {Q:Option Bool→SortSt→Prop} (h0:IntKeys a₀) (hB:SB a₀ st) (hi:i<a₀.size) (hj:j<a₀.size)
  (h:Q (some (decide (K (arrOf st) i<K (arrOf st) j))) st):wpS (model prog w) A E s (ltAt' i j) Q st:=by
 have hs:=hB.size
 obtain ⟨u,hu⟩:=zF (a:=arrOf st) (i:=i) (by omega)
 obtain ⟨v,hv⟩:=zF (a:=arrOf st) (i:=j) (by omega)
 rw [zA hu,zA hv] at h
 rw [ltAt'_eq]
 refine wpS_bind (wpS_get (wpS_bind (qW hu (wpS_bind (qW hv (wN hB.kind (hB.int h0 u (zQ hu)) (hB.int h0 v (zQ hv)) h))))))
structure Fr (a₀:KA) (lo hi:Nat) (st st':SortSt):Prop where
 b:SB a₀ st'
 p:pendingOf st'=pendingOf st
 k:∀ t,t<lo∨hi≤t→K (arrOf st') t=K (arrOf st) t
theorem Fr.refl {st:SortSt} (h:SB a₀ st) (lo hi:Nat):Fr a₀ lo hi st st:=⟨h,rfl,fun _ _=>rfl⟩
theorem Fr.trans {lo hi:Nat} {st st1 st2:SortSt} (h:Fr a₀ lo hi st st1) (g:Fr a₀ lo hi st1 st2):Fr a₀ lo hi st st2 :=
 ⟨g.b,g.p.trans h.p,fun t ht=>(g.k t ht).trans (h.k t ht)⟩
theorem fP {st st0:SortSt} {i j lo hi:Nat} {Q:Unit→SortSt→Prop} (hF:Fr a₀ lo hi st0 st) (hi':lo≤i) (hj:j≤hi) (hh:hi≤a₀.size)
  (h:∀ st',Fr a₀ lo hi st0 st'→(∀ k,K (arrOf st') k=if i≤k∧k<j then K (arrOf st) (i+j-1-k) else K (arrOf st) k)→Q () st') :
  wpS (model prog w) A E s (reverseSlice' i j) Q st:=by
 rw [reverseSlice'_eq]
 have hs:=hF.b.size
 have hk:∀ k,K (mirror (arrOf st) i j ((j-i) / 2)) k=_:=K_mirror (show j≤(arrOf st).size by omega)
 refine wpS_modify (h _ ⟨⟨(mirror_perm _ _ _ _).trans hF.b.perm,hF.b.kind,hF.b.failed⟩,hF.p,fun t ht=>?_⟩ hk)
 refine Eq.trans ?_ (hF.k t ht)
 show K (mirror (arrOf st) i j ((j-i) / 2)) t=_
 rw [hk,if_neg (by omega)]
theorem fW {st:SortSt} {lo a n0:Nat} {f:Nat→Option (Option Nat) × Nat→SM (ForInStep (Option (Option Nat) × Nat))} {Q:Option (Option Nat) × Nat→SortSt→Prop}
  (h0:IntKeys a₀) (hB:SB a₀ st)
  (hf:∀ x n,f x (none,n)=do
   let z ← ltAt' (lo+n) (lo+n-1)
   match z with
   | some z=>if z=true then pure (.done (none,n)) else pure (.yield (none,n+1))
   | x=>pure (.done (some none,n)))
  (hl:lo+n0≤a₀.size) (ha:1≤a) (han:a≤n0) (hs:Seg (arrOf st) lo (lo+a))
  (hQ:∀ n,a≤n→n≤n0→Seg (arrOf st) lo (lo+n)→(n=n0∨K (arrOf st) (lo+n)<K (arrOf st) (lo+n-1))→Q (none,n) st) :
  wpS (model prog w) A E s (forIn [a:n0] (none,a) f) Q st:=by
 refine wpS_forRange (I:=fun x c st'=>st'=st∧c=(none,x)∧Seg (arrOf st) lo (lo+x)) ?stp ?fin ⟨rfl,rfl,hs⟩
 case fin =>
  rintro c st' ⟨rfl,rfl,h1⟩
  rw [show max a n0=n0 by omega] at h1 ⊢
  exact hQ n0 han (Nat.le_refl _) h1 (.inl rfl)
 case stp =>
  rintro x c st' h1 h2 ⟨rfl,rfl,h3⟩
  rw [hf]
  refine wpS_bind (wP h0 hB (by omega) (by omega) ?_)
  by_cases hc:K (arrOf st') (lo+x)<K (arrOf st') (lo+x-1)
  ·simp only [hc,decide_true,if_true]
   exact wpS_pure (hQ x h1 (by omega) h3 (.inr hc))
  ·simp only [hc,decide_false,Bool.false_eq_true,if_false]
   refine wpS_pure ⟨rfl,rfl,fun i j q1 q2 q3=>?_⟩
   by_cases e:j<lo+x
   ·exact h3 i j q1 q2 e
   ·obtain rfl:j=lo+x:=by omega
    by_cases e':i=lo+x
    ·subst e';exact Int.le_refl _
    ·have:=h3 i (lo+x-1) q1 (by omega) (by omega)
     omega
noncomputable def dsc (lo m n0:Nat):SM (Option Nat):=do
 rule "list.sort.descending-run"
 let mut n:=m+1
 let mut e:=0
 for _ in [n:n0] do
  let some z ← ltAt' (lo+n) (lo+n-1) | return none
  if z then
   if e > 0 then reverseSlice' (lo+n-(e+1)) (lo+n)
   e:=0
  else
   let some z ← ltAt' (lo+n-1) (lo+n) | return none
   if z then break
   e:=e+1
  n:=n+1
 if e > 0 then reverseSlice' (lo+n-(e+1)) (lo+n)
 reverseSlice' lo (lo+n)
 for _ in [n:n0] do
  let some z ← ltAt' (lo+n) (lo+n-1) | return none
  if z then break
  n:=n+1
 return some n
noncomputable def dsT (lo n n0:Nat):SM (Option Nat):=do
 let mut n:=n
 reverseSlice' lo (lo+n)
 for _ in [n:n0] do
  let some z ← ltAt' (lo+n) (lo+n-1) | return none
  if z then break
  n:=n+1
 return some n
noncomputable def Non (xs:KA) (lo hi:Nat):Prop:=∀ i j,lo≤i→i≤j→j<hi→K xs j≤K xs i
theorem qBw {st st0:SortSt} {lo n n0:Nat} {Q:Option Nat→SortSt→Prop} (h0:IntKeys a₀) (hl:lo+n0≤a₀.size) (h1:1≤n) (hn:n≤n0)
  (hF:Fr a₀ lo (lo+n0) st0 st) (hs:Non (arrOf st) lo (lo+n))
  (h:∀ m st',Fr a₀ lo (lo+n0) st0 st'→1≤m→m≤n0→Seg (arrOf st') lo (lo+m)→Q (some m) st') :
  wpS (model prog w) A E s (dsT lo n n0) Q st:=by
 unfold dsT
 refine wpS_bind (fP hF (Nat.le_refl _) (by omega) hl fun st' hF' hk=>?_)
 refine wpS_bind (fW h0 hF'.b (fun _ _=>rfl) hl h1 hn (fun i j q1 q2 q3=>?_) fun m m1 m2 m3 _=>wpS_pure (h m st' hF' (by omega) m2 m3))
 rw [hk,hk,if_pos (by omega),if_pos (by omega)]
 exact hs _ _ (by omega) (by omega) (by omega)
theorem aQ {st st0:SortSt} {i j lo hi:Nat} {Q:Unit→SortSt→Prop} (hF:Fr a₀ lo hi st0 st) (hi':lo≤i) (hj:j≤hi) (hh:hi≤a₀.size)
  (he:∀ k,i≤k→k<j→K (arrOf st) k=K (arrOf st) (j-1))
  (h:∀ st',Fr a₀ lo hi st0 st'→(∀ k,K (arrOf st') k=K (arrOf st) k)→Q () st'):wpS (model prog w) A E s (reverseSlice' i j) Q st:=by
 refine fP hF hi' hj hh fun st' hF' hk=>h st' hF' fun k=>?_
 rw [hk]
 split
 ·rw [he _ (by omega) (by omega),he k (by omega) (by omega)]
 ·rfl
theorem qBv {st st0:SortSt} {lo m n0:Nat} {Q:Option Nat→SortSt→Prop} (h0:IntKeys a₀) (hl:lo+n0≤a₀.size) (hn:m+1≤n0)
  (hF:Fr a₀ lo (lo+n0) st0 st) (hs:Non (arrOf st) lo (lo+(m+1)))
  (h:∀ m st',Fr a₀ lo (lo+n0) st0 st'→1≤m→m≤n0→Seg (arrOf st') lo (lo+m)→Q (some m) st') :
  wpS (model prog w) A E s (dsc lo m n0) Q st:=by
 unfold dsc
 refine wpS_bind (vK ?_)
 refine wpS_bind (wpS_mono (wpS_forRange (I:=fun x c st'=>∃ e,c=(none,x,e)∧Fr a₀ lo (lo+n0) st0 st'∧Non (arrOf st') lo (lo+x)∧e+1≤x ∧
   (∀ i,lo+x-(e+1)≤i→i<lo+x→K (arrOf st') i=K (arrOf st') (lo+x-1)))
  (Q:=fun c st'=>∃ x e,c=(none,x,e)∧m+1≤x∧x≤n0∧Fr a₀ lo (lo+n0) st0 st'∧Non (arrOf st') lo (lo+x)∧e+1≤x ∧
   (∀ i,lo+x-(e+1)≤i→i<lo+x→K (arrOf st') i=K (arrOf st') (lo+x-1))) ?stp ?fin ⟨0,rfl,hF,hs,by omega,fun i q1 q2=>by congr 1;omega⟩) ?post)
 case fin =>
  rintro c st' ⟨e,rfl,r⟩
  rw [show max (m+1) n0=n0 by omega] at r ⊢
  exact ⟨n0,e,rfl,hn,Nat.le_refl _,r⟩
 case post =>
  rintro c st' ⟨x,e,rfl,x1,x2,hF',hs',e1,he⟩
  have tl:∀ st',Fr a₀ lo (lo+n0) st0 st'→Non (arrOf st') lo (lo+x)→wpS (model prog w) A E s (dsT lo x n0) Q st':=fun st' hF' hs'=>qBw h0 hl (by omega) x2 hF' hs' h
  by_cases hc:e > 0
  ·refine Eq.mpr (congrArg (fun z=>wpS (model prog w) A E s z Q st') (if_pos hc)) (wpS_bind (aQ (i:=lo+x-(e+1)) (j:=lo+x) hF' (by omega) (by omega) hl he fun st2 hF2 hk=>?_))
   exact tl st2 hF2 fun i j q1 q2 q3=>by rw [hk,hk];exact hs' i j q1 q2 q3
  ·exact Eq.mpr (congrArg (fun z=>wpS (model prog w) A E s z Q st') (if_neg hc)) (tl st' hF' hs')
 case stp =>
  rintro x c st' x1 x2 ⟨e,rfl,hF',hs',e1,he⟩
  dsimp only
  refine wpS_bind (wP h0 hF'.b (by omega) (by omega) ?_)
  by_cases hc:K (arrOf st') (lo+x)<K (arrOf st') (lo+x-1)
  ·simp only [hc,decide_true,if_true]
   have st1:∀ xs:KA,(∀ k,K xs k=K (arrOf st') k)→Non xs lo (lo+(x+1)):=by
    intro xs hk i j q1 q2 q3
    rw [hk,hk]
    by_cases g:j<lo+x
    ·exact hs' i j q1 q2 g
    ·obtain rfl:j=lo+x:=by omega
     by_cases g':i=lo+x
     ·subst g';exact Int.le_refl _
     ·have:=hs' i (lo+x-1) q1 (by omega) (by omega)
      omega
   by_cases hg:e > 0
   ·rw [if_pos hg]
    exact wpS_bind (aQ hF' (by omega) (by omega) hl he fun st2 hF2 hk=>wpS_pure ⟨0,rfl,hF2,st1 _ hk,by omega,fun i q1 q2=>by congr 1;omega⟩)
   ·rw [if_neg hg]
    exact wpS_pure ⟨0,rfl,hF',st1 _ (fun _=>rfl),by omega,fun i q1 q2=>by congr 1;omega⟩
  ·simp only [hc,decide_false,Bool.false_eq_true,if_false]
   refine wpS_bind (wP h0 hF'.b (by omega) (by omega) ?_)
   by_cases hg:K (arrOf st') (lo+x-1)<K (arrOf st') (lo+x)
   ·simp only [hg,decide_true,if_true]
    exact wpS_pure ⟨x,e,rfl,x1,by omega,hF',hs',e1,he⟩
   ·simp only [hg,decide_false,Bool.false_eq_true,if_false]
    have eq:K (arrOf st') (lo+x)=K (arrOf st') (lo+x-1):=by omega
    refine wpS_pure ⟨e+1,rfl,hF',fun i j q1 q2 q3=>?_,by omega,fun i q1 q2=>?_⟩
    ·by_cases g:j<lo+x
     ·exact hs' i j q1 q2 g
     ·obtain rfl:j=lo+x:=by omega
      by_cases g':i=lo+x
      ·subst g';exact Int.le_refl _
      ·have:=hs' i (lo+x-1) q1 (by omega) (by omega)
       omega
    ·rw [show lo+(x+1)-1=lo+x by omega]
     by_cases g:i=lo+x
     ·rw [g]
     ·rw [eq];exact he i (by omega) (by omega)
theorem qBx {st:SortSt} {lo n0:Nat} {Q:Option Nat→SortSt→Prop} (h0:IntKeys a₀) (hB:SB a₀ st) (hl:lo+n0≤a₀.size) (h1:1≤n0)
  (h:∀ m st',Fr a₀ lo (lo+n0) st st'→1≤m→m≤n0→Seg (arrOf st') lo (lo+m)→Q (some m) st') :
  wpS (model prog w) A E s (countRun' lo n0) Q st:=by
 rw [countRun'_eq]
 have hF:=Fr.refl hB lo (lo+n0)
 refine wpS_bind (fW h0 hB (fun _ _=>rfl) hl (Nat.le_refl 1) h1 (fun i j q1 q2 q3=>?_) fun n n1 n2 n3 n4=>?_)
 ·obtain rfl:i=j:=by omega
  exact Int.le_refl _
 dsimp only
 by_cases e:n=n0
 ·rw [if_pos (beq_iff_eq.mpr e)]
  exact wpS_pure (h n st hF n1 n2 n3)
 rw [if_neg (mt beq_iff_eq.mp e)]
 have hlt:=n4.resolve_left e
 have dn:∀ st',Fr a₀ lo (lo+n0) st st'→(∀ k,K (arrOf st') k=K (arrOf st) k)→(∀ k,lo≤k→k<lo+n→K (arrOf st) k=K (arrOf st) (lo+n-1))→wpS (model prog w) A E s (dsc lo n n0) Q st':=by
  intro st' hF' hk he
  refine qBv h0 hl (by omega) hF' (fun i j q1 q2 q3=>?_) h
  rw [hk,hk]
  by_cases g:j<lo+n
  ·rw [he i (by omega) (by omega),he j (by omega) g];exact Int.le_refl _
  ·obtain rfl:j=lo+n:=by omega
   by_cases g':i=lo+n
   ·subst g';exact Int.le_refl _
   ·rw [he i (by omega) (by omega)];omega
 by_cases hg:n > 1
 ·rw [if_pos hg]
  refine wpS_bind (wP h0 hB (by omega) (by omega) ?_)
  by_cases hc:K (arrOf st) lo<K (arrOf st) (lo+n-1)
  ·simp only [hc,decide_true,if_true]
   exact wpS_pure (h n st hF n1 n2 n3)
  ·have he:∀ k,lo≤k→k<lo+n→K (arrOf st) k=K (arrOf st) (lo+n-1):=fun k q1 q2=>by
    have g1:=n3 lo k (Nat.le_refl _) q1 q2
    have g2:=n3 k (lo+n-1) q1 (by omega) (by omega)
    omega
   rw [decide_eq_false hc]
   exact wpS_bind (aQ hF (Nat.le_refl _) (by omega) hl he fun st' hF' hk=>dn st' hF' hk he)
 ·rw [if_neg hg]
  exact dn st hF (fun _=>rfl) fun k q1 q2=>by congr 1;omega
end
end Sr
set_option Elab.async false
set_option linter.all false
set_option maxRecDepth 100000
namespace Sr
open PySem PyProof.Rows
section
variable {prog:Program} {w:World} {A:Around} {E:Value→Shared→Prop} {s:Shared} {a₀:KA}
theorem qBy {st:SortSt} {lo n ok hi:Nat} {Q:Bool→SortSt→Prop} (h0:IntKeys a₀) (hB:SB a₀ st) (hh:lo+n≤hi) (hl:hi≤a₀.size) (hok:ok≤n) (hs:Seg (arrOf st) lo (lo+ok))
  (h:∀ st',Fr a₀ lo hi st st'→Seg (arrOf st') lo (lo+n)→Q true st'):wpS (model prog w) A E s (binarySort' lo n ok) Q st:=by
 rw [binarySort'_eq]
 refine wpS_bind (wpS_mono (wpS_forRange (I:=fun k c st'=>c=(none,())∧Fr a₀ lo hi st st'∧Seg (arrOf st') lo (lo+min k n))
  (Q:=fun c st'=>c=(none,())∧Fr a₀ lo hi st st'∧Seg (arrOf st') lo (lo+n)) ?stp ?fin ?init) ?post)
 case post =>
  rintro c st' ⟨rfl,h1,h2⟩
  exact wpS_pure (h st' h1 h2)
 case init =>
  refine ⟨rfl,.refl hB _ _,fun i j q1 q2 q3=>?_⟩
  by_cases e:j<lo+ok
  ·exact hs i j q1 q2 e
  ·obtain rfl:i=j:=by omega
   exact Int.le_refl _
 case fin =>
  rintro c st' ⟨hc,h1,h2⟩
  rw [show min (max (max ok 1) n) n=n by omega] at h2
  exact ⟨hc,h1,h2⟩
 case stp =>
  rintro k c st' k1 k2 ⟨rfl,hF,hs'⟩
  rw [show min k n=k by omega] at hs'
  refine wpS_bind (wpS_mono (wpS_forRange (I:=fun x c st''=>st''=st'∧∃ l r,c=(none,l,r)∧l≤r∧r≤k∧r-l≤k-x ∧
    (∀ i,lo≤i→i<lo+l→K (arrOf st') i≤K (arrOf st') (lo+k))∧(∀ i,lo+r≤i→i<lo+k→K (arrOf st') (lo+k)<K (arrOf st') i))
   (Q:=fun c st''=>st''=st'∧∃ l r,c=(none,l,r)∧l≤k ∧
    (∀ i,lo≤i→i<lo+l→K (arrOf st') i≤K (arrOf st') (lo+k))∧(∀ i,lo+l≤i→i<lo+k→K (arrOf st') (lo+k)<K (arrOf st') i)) ?stp2 ?fin2 ?init2) ?post2)
  case init2=>exact ⟨rfl,0,k,rfl,by omega,by omega,by omega,fun i q1 q2=>by omega,fun i q1 q2=>by omega⟩
  case fin2 =>
   rintro c st'' ⟨rfl,l,r,rfl,h1,h2,h3,h4,h5⟩
   obtain rfl:l=r:=by omega
   exact ⟨rfl,l,l,rfl,h2,h4,h5⟩
  case stp2 =>
   rintro x c st'' _ hx ⟨rfl,l,r,rfl,h1,h2,h3,h4,h5⟩
   dsimp only
   by_cases e:l ≥ r
   ·rw [if_pos e]
    obtain rfl:l=r:=by omega
    exact wpS_pure ⟨rfl,l,l,rfl,h2,h4,h5⟩
   ·rw [if_neg e]
    refine wpS_bind (wP h0 hF.b (by omega) (by omega) ?_)
    by_cases hc:K (arrOf st'') (lo+k)<K (arrOf st'') (lo+(l+r) / 2)
    ·simp only [hc,decide_true,if_true]
     refine wpS_pure ⟨rfl,_,_,rfl,by omega,by omega,by omega,h4,fun i q1 q2=>?_⟩
     have:=hs' (lo+(l+r) / 2) i (by omega) q1 q2
     omega
    ·simp only [hc,decide_false,Bool.false_eq_true,if_false]
     refine wpS_pure ⟨rfl,_,_,rfl,by omega,by omega,by omega,fun i q1 q2=>?_,h5⟩
     have:=hs' i (lo+(l+r) / 2) q1 (by omega) (by omega)
     omega
  case post2 =>
   rintro c st'' ⟨rfl,l,r,rfl,h2,h4,h5⟩
   show wpS _ _ _ _ (do moveDown' (lo+k) (lo+l);pure (ForInStep.yield (none,()))) _ _
   rw [moveDown'_eq]
   have hsz:lo+k<(arrOf st'').size:=by rw [hF.b.size];omega
   have hk:∀ t,K (bubble (arrOf st'') (lo+k) (lo+k-(lo+l))) t=_:=K_bubble hsz (by omega)
   refine wpS_bind (wpS_modify (wpS_pure ⟨rfl,⟨⟨(bubble_perm _ _ _).trans hF.b.perm,hF.b.kind,hF.b.failed⟩,hF.p,fun t ht=>?_⟩,fun i j q1 q2 q3=>?_⟩))
   ·refine Eq.trans ?_ (hF.k t ht)
    show K (bubble (arrOf st'') (lo+k) (lo+k-(lo+l))) t=_
    rw [hk,if_neg (by omega),if_neg (by omega)]
   ·show K (bubble (arrOf st'') (lo+k) (lo+k-(lo+l))) i≤K (bubble (arrOf st'') (lo+k) (lo+k-(lo+l))) j
    rw [hk,hk,show lo+k-(lo+k-(lo+l))=lo+l by omega]
    repeat' split
    all_goals first
     | (exfalso;omega)
     | exact Int.le_refl _
     | exact h4 _ (by omega) (by omega)
     | exact Int.le_of_lt (h5 _ (by omega) (by omega))
     | exact hs' _ _ (by omega) (by omega) (by omega)
noncomputable def Runs (xs:KA):Nat→List (Nat × Nat × Nat)→Nat→Prop
 | lo,[],hi=>lo=hi
 | lo,(s,n,_)::r,hi=>s=lo∧1≤n∧Seg xs lo (lo+n)∧Runs xs (lo+n) r hi
theorem Runs.le {xs:KA}:∀ {l:List (Nat × Nat × Nat)} {lo hi:Nat},Runs xs lo l hi→lo+l.length≤hi
 | [],lo,hi,h=>by cases h;exact Nat.le_refl _
 | (s,n,p)::r,lo,hi,h=>by
  obtain ⟨rfl,h1,_,h2⟩:=h
  have:=h2.le
  rw [List.length_cons];omega
theorem Runs.congr {xs ys:KA}:∀ {l:List (Nat × Nat × Nat)} {lo hi:Nat},Runs xs lo l hi→(∀ t,lo≤t→t<hi→K ys t=K xs t)→Runs ys lo l hi
 | [],lo,hi,h,_=>h
 | (s,n,p)::r,lo,hi,h,q=>by
  obtain ⟨rfl,h1,h3,h2⟩:=h
  have:=h2.le
  refine ⟨rfl,h1,fun i j q1 q2 q3=>?_,h2.congr fun t t1 t2=>q t (by omega) t2⟩
  rw [q i (by omega) (by omega),q j (by omega) (by omega)]
  exact h3 i j q1 q2 q3
theorem Runs.app {xs:KA}:∀ {l r:List (Nat × Nat × Nat)} {lo hi:Nat},Runs xs lo (l++r) hi↔∃ m,Runs xs lo l m∧Runs xs m r hi
 | [],r,lo,hi=>⟨fun h=>⟨lo,rfl,h⟩,fun ⟨m,h1,h2⟩=>by cases h1;exact h2⟩
 | (s,n,p)::l,r,lo,hi=>by
  constructor
  ·rintro ⟨rfl,h1,h2,h3⟩
   obtain ⟨m,h4,h5⟩:=Runs.app.mp h3
   exact ⟨m,⟨rfl,h1,h2,h4⟩,h5⟩
  ·rintro ⟨m,⟨rfl,h1,h2,h4⟩,h5⟩
   exact ⟨rfl,h1,h2,Runs.app.mpr ⟨m,h4,h5⟩⟩
theorem qBz {l:List (Nat × Nat × Nat)} {i:Nat} (h:i+1<l.length):∃ a b x y,l=a++(x::y::b)∧a.length=i∧l[i]?=some x∧l[i+1]?=some y:=by
 refine ⟨l.take i,l.drop (i+2),l[i]'(by omega),l[i+1],?_,by rw [List.length_take];omega,List.getElem?_eq_getElem (by omega),List.getElem?_eq_getElem h⟩
 rw [List.getElem_cons_drop,List.getElem_cons_drop,List.take_append_drop]
theorem fR {st:SortSt} {i hi:Nat} {Q:Bool→SortSt→Prop} (h0:IntKeys a₀) (hB:SB a₀ st) (hr:Runs (arrOf st) 0 (pendingOf st).toList hi) (hh:hi≤a₀.size) (hi':i+1<(pendingOf st).size)
  (h:∀ st',SB a₀ st'→Runs (arrOf st') 0 (pendingOf st').toList hi→(pendingOf st').size=(pendingOf st).size-1→(∀ t,hi≤t→K (arrOf st') t=K (arrOf st) t)→Q true st') :
  wpS (model prog w) A E s (mergeAt' i) Q st:=by
 obtain ⟨a,b,⟨sa,na,p⟩,⟨sb,nb,p'⟩,e,ea,e1,e2⟩:=qBz (l:=(pendingOf st).toList) (i:=i) hi'
 rw [Array.getElem?_toList] at e1 e2
 rw [e] at hr
 obtain ⟨m,r1,rfl,g1,g2,rfl,g3,g4,r2⟩:=Runs.app.mp hr
 have l1:=r1.le
 have l2:=r2.le
 refine qBo h0 hB e1 e2 g1 g3 (by omega) g2 g4 fun st' hB' hp hk hs=>?_
 have ep:(pendingOf st').toList=a++((sa,na+nb,p)::b):=by
  rw [hp,Array.toList_eraseIdxIfInBounds,Array.toList_setIfInBounds,e,← ea]
  simp [List.eraseIdx_append]
  intro q;omega
 refine h st' hB' ?_ ?_ fun t ht=>hk t (by omega)
 ·rw [ep]
  refine Runs.app.mpr ⟨sa,r1.congr fun t t1 t2=>hk t (.inl t2),rfl,by omega,?_,?_⟩
  ·rw [← Nat.add_assoc];exact hs
  ·rw [← Nat.add_assoc];exact r2.congr fun t t1 t2=>hk t (.inr t1)
 ·rw [← Array.length_toList,ep,← Array.length_toList (xs:=pendingOf st),e]
  simp
end
end Sr
set_option Elab.async false
set_option linter.all false
set_option maxRecDepth 100000
namespace Sr
open PySem PyProof.Rows
section
variable {prog:Program} {w:World} {A:Around} {E:Value→Shared→Prop} {s:Shared} {a₀:KA}
theorem Runs.modify {xs:KA} {pw:Nat}:∀ {l:List (Nat × Nat × Nat)} {k lo hi:Nat},Runs xs lo l hi→Runs xs lo (l.modify k fun q=>(q.1,q.2.1,pw)) hi
 | [],k,lo,hi,h=>by cases k <;> exact h
 | (a,n,p)::r,0,lo,hi,h=>h
 | (a,n,p)::r,k+1,lo,hi,h=>⟨h.1,h.2.1,h.2.2.1,Runs.modify h.2.2.2⟩
theorem Runs.one {xs:KA} {l:List (Nat × Nat × Nat)} {hi:Nat} (h:Runs xs 0 l hi) (hl:l.length≤1):Seg xs 0 hi:=by
 match l,h,hl with
 | [],h,_=>cases h;intro i j _ _ q;omega
 | [(a,n,p)],h,_ =>
  obtain ⟨rfl,_,h1,h2⟩:=h
  cases h2;exact h1
 | _::_::_,_,h=>simp at h
noncomputable def psh (lo n:Nat):SM (ForInStep (Option Unit × Nat)):=do
 modify fun s=>setPending s ((pendingOf s).push (lo,n,0))
 pure (ForInStep.yield (none,lo+n))
noncomputable def aft (z lo n:Nat):SM (ForInStep (Option Unit × Nat)):=do
 let t ← get
 match (pendingOf t).back? with
 | some (s1,n1,_) =>
  let c ← forIn [0:z] ((none,()):Option Unit × Unit) fun _ _=>do
   let t ← get
   match (if (pendingOf t).size > 1 then (pendingOf t)[(pendingOf t).size-2]? else none) with
   | some (_,_,o)=>if o≤power' z (2*s1+n1) (2*s1+n1+n1+n) z then pure (.done (none,())) else do
    let q ← mergeAt' ((pendingOf t).size-2)
    if (!q)=true then pure (.done (some (),())) else pure (.yield (none,()))
   | x=>pure (.done (none,()))
  Break.runK.match_1 (fun _=>SM (ForInStep (Option Unit × Nat))) c.1 (fun r=>pure (.done (some r,lo))) fun _=>do
   modify fun s=>setPending s ((pendingOf s).modify ((pendingOf s).size-1) fun (st,len,_)=>(st,len,power' z (2*s1+n1) (2*s1+n1+n1+n) z))
   psh lo n
 | x=>psh lo n
noncomputable def Pr (a₀:KA) (x:Nat) (r:ForInStep (Option Unit × Nat)) (st':SortSt):Prop:=match r with
 | .done c=>c=(none,a₀.size)∧SB a₀ st'∧Runs (arrOf st') 0 (pendingOf st').toList a₀.size
 | .yield c=>∃ lo,c=((none:Option Unit),lo)∧SB a₀ st'∧Runs (arrOf st') 0 (pendingOf st').toList lo∧lo≤a₀.size∧x+1≤lo
theorem fQ {x lo n:Nat} {st2 st3:SortSt} (n1:1≤n) (n2:lo+n≤a₀.size) (hx:x≤lo) (hs:Seg (arrOf st2) lo (lo+n)) (hB:SB a₀ st3) (hR:Runs (arrOf st3) 0 (pendingOf st3).toList lo)
  (hk:∀ t,lo≤t→K (arrOf st3) t=K (arrOf st2) t):wpS (model prog w) A E s (psh lo n) (Pr a₀ x) st3:=by
 refine wpS_bind (wpS_modify (wpS_pure ⟨lo+n,rfl,⟨hB.perm,hB.kind,hB.failed⟩,?_,n2,by omega⟩))
 show Runs (arrOf st3) 0 ((pendingOf st3).push (lo,n,0)).toList (lo+n)
 rw [Array.toList_push]
 refine Runs.app.mpr ⟨lo,hR,rfl,n1,fun i j q1 q2 q3=>?_,rfl⟩
 rw [hk i (by omega),hk j (by omega)]
 exact hs i j q1 q2 q3
theorem fX {x lo n:Nat} {st2:SortSt} (h0:IntKeys a₀) (n1:1≤n) (n2:lo+n≤a₀.size) (hx:x≤lo) (hs:Seg (arrOf st2) lo (lo+n)) (hB:SB a₀ st2) (hR:Runs (arrOf st2) 0 (pendingOf st2).toList lo) :
  wpS (model prog w) A E s (aft a₀.size lo n) (Pr a₀ x) st2:=by
 unfold aft
 refine wpS_bind (wpS_get ?_)
 cases (pendingOf st2).back? with
 | none=>exact fQ n1 n2 hx hs hB hR fun _ _=>rfl
 | some q =>
  obtain ⟨s1,m1,p1⟩:=q
  refine wpS_bind (wpS_mono (wpS_forRange (I:=fun _ c st'=>c=(none,())∧SB a₀ st'∧Runs (arrOf st') 0 (pendingOf st').toList lo∧∀ t,lo≤t→K (arrOf st') t=K (arrOf st2) t)
   (Q:=fun c st'=>c=(none,())∧SB a₀ st'∧Runs (arrOf st') 0 (pendingOf st').toList lo∧∀ t,lo≤t→K (arrOf st') t=K (arrOf st2) t) ?stp (fun _ _ h=>h) ⟨rfl,hB,hR,fun _ _=>rfl⟩) ?post)
  case stp =>
   rintro y c st3 _ _ ⟨rfl,h1,h2,h3⟩
   refine wpS_bind (wpS_get ?_)
   by_cases e:(pendingOf st3).size > 1
   ·rw [if_pos e]
    obtain ⟨⟨u,v,o⟩,hq⟩:∃ q,(pendingOf st3)[(pendingOf st3).size-2]?=some q:=⟨_,getElem?_pos _ _ (by omega)⟩
    rw [hq]
    dsimp only
    refine wO (wpS_pure ⟨rfl,h1,h2,h3⟩) (wpS_bind (fR h0 h1 h2 (by omega) (by omega) fun st4 g1 g2 g3 g4=>?_))
    exact wpS_pure ⟨rfl,g1,g2,fun t ht=>(g4 t ht).trans (h3 t ht)⟩
   ·rw [if_neg e]
    exact wpS_pure ⟨rfl,h1,h2,h3⟩
  case post =>
   rintro c st3 ⟨rfl,h1,h2,h3⟩
   refine wpS_bind (wpS_modify (fQ n1 n2 hx hs ⟨h1.perm,h1.kind,h1.failed⟩ ?_ h3))
   show Runs (arrOf st3) 0 ((pendingOf st3).modify ((pendingOf st3).size-1) fun (st,len,_)=>(st,len,power' a₀.size (2*s1+m1) (2*s1+m1+m1+n) a₀.size)).toList lo
   rw [Array.toList_modify]
   exact h2.modify
theorem il (c:Prop) [Decidable c] (n:Nat):(if c then n-1 else n)≤n:=by
 split
 ·exact Nat.sub_le _ _
 ·exact Nat.le_refl _
theorem qBr {α:Type} {c:Prop} [Decidable c] {x y:SM α} {Q:α→SortSt→Prop} {st:SortSt} (h1:c→wpS (model prog w) A E s x Q st) (h2:¬ c→wpS (model prog w) A E s y Q st) :
  wpS (model prog w) A E s (if c then x else y) Q st:=by
 split
 ·exact h1 ‹_›
 ·exact h2 ‹_›
theorem qBl {st:SortSt} {Q:Unit→SortSt→Prop} (h0:IntKeys a₀) (hB:SB a₀ st) (hp:pendingOf st=#[])
  (h:∀ st',(arrOf st').Perm a₀→failedOf st'=none→SortedTo (arrOf st') a₀.size→Q () st'):wpS (model prog w) A E s sortRuns' Q st:=by
 rw [sortRuns'_eq]
 refine wpS_bind (wpS_get ?_)
 dsimp only
 rw [hB.size]
 refine wpS_bind (wpS_mono (wpS_forRange (I:=fun x c st'=>∃ lo,c=(none,lo)∧SB a₀ st'∧Runs (arrOf st') 0 (pendingOf st').toList lo∧lo≤a₀.size∧x≤lo)
  (Q:=fun c st'=>c=(none,a₀.size)∧SB a₀ st'∧Runs (arrOf st') 0 (pendingOf st').toList a₀.size) ?stp ?fin ⟨0,rfl,hB,by rw [hp];rfl,by omega,by omega⟩) ?post)
 case fin =>
  rintro c st' ⟨lo,rfl,h1,h2,h3,h4⟩
  obtain rfl:lo=a₀.size:=by omega
  exact ⟨rfl,h1,h2⟩
 case stp =>
  rintro x c st1 _ hx ⟨lo,rfl,h1,h2,h3,h4⟩
  refine wpS_mono (Q:=Pr a₀ x) ?_ (fun r st' h=>by cases r <;> exact h)
  dsimp only
  by_cases e:lo ≥ a₀.size
  ·rw [if_pos e]
   obtain rfl:lo=a₀.size:=by omega
   exact wpS_pure ⟨rfl,h1,h2⟩
  rw [if_neg e]
  refine wpS_bind (qBx h0 h1 (by omega) (by omega) fun m st2 hF m1 m2 m3=>?_)
  rw [show lo+(a₀.size-lo)=a₀.size by omega] at hF
  have hR:∀ st',Fr a₀ lo a₀.size st1 st'→Runs (arrOf st') 0 (pendingOf st').toList lo:=fun st' hF=>by
   rw [hF.p];exact h2.congr fun t _ t2=>hF.k t (.inl t2)
  refine qBr (c:=m<minRun' a₀.size a₀.size 0) (fun hm=>?_) (fun hm=>?_)
  ·refine wpS_bind (vK (wpS_bind (qBy (hi:=a₀.size) h0 hF.b (by omega) (Nat.le_refl _) (by omega) m3 fun st3 hF3 hs3=>?_)))
   exact fX h0 (by omega) (by omega) h4 hs3 hF3.b (hR st3 (hF.trans hF3))
  ·exact fX h0 m1 (by omega) h4 m3 hF.b (hR st2 hF)
 case post =>
  rintro c st' ⟨rfl,h1,h2⟩
  have hl:(pendingOf st').size+0≤a₀.size:=by have:=h2.le;rw [Array.length_toList] at this;omega
  refine wpS_bind (wpS_mono (wpS_forRange (I:=fun x c st'=>c=(none,())∧SB a₀ st'∧Runs (arrOf st') 0 (pendingOf st').toList a₀.size∧((pendingOf st').size≤1∨(pendingOf st').size+x≤a₀.size))
   (Q:=fun c st'=>c=(none,())∧SB a₀ st'∧Runs (arrOf st') 0 (pendingOf st').toList a₀.size∧(pendingOf st').size≤1) ?stp2 ?fin2 ⟨rfl,h1,h2,.inr hl⟩) ?post2)
  case fin2 =>
   rintro c st' ⟨h1,h2,h3,h4⟩
   exact ⟨h1,h2,h3,by omega⟩
  case post2 =>
   rintro c st' ⟨rfl,h1,h2,h3⟩
   exact wpS_pure (h st' h1.perm h1.failed fun i j q1 q2=>h2.one h3 i j (Nat.zero_le _) q1 q2)
  case stp2 =>
   rintro x c st3 _ hx ⟨rfl,g1,g2,g3⟩
   refine wpS_bind (wpS_get ?_)
   by_cases e:(pendingOf st3).size≤1
   ·rw [if_pos e]
    exact wpS_pure ⟨rfl,g1,g2,e⟩
   rw [if_neg e]
   refine wpS_bind (fR h0 g1 g2 (Nat.le_refl _) (Nat.lt_of_le_of_lt (Nat.succ_le_succ (il _ ((pendingOf st3).size-2))) (by omega)) fun st4 f1 f2 f3 f4=>?_)
   exact wpS_pure ⟨rfl,f1,f2,by omega⟩
end
end Sr
set_option Elab.async false
set_option linter.all false
set_option maxRecDepth 100000
namespace Sr
open PySem PyProof.Rows
section
variable {prog:Program} {w:World} {A:Around} {E:Value→Shared→Prop} {s:Shared}
theorem qB1 {a:Addr} {vs:List Value} {ns:List Int} {n:Nat} {P:Fin→Shared→Prop} (ho:s.heap.get? a=some (seqObj "list" vs.toArray n)) (hI:IntsAre vs ns) (hz:vs.length≤sizeLine)
  (h:∀ (o:Array Value) (m:List Int),IntsAre o.toList m→m.Perm ns→m.Pairwise (·≤·)→P (.done (.ret .none)) { s with heap:=sortedHeap s.heap a vs o }) :
  wpAny (model prog w) A (Builtin.«list.sort» ⟨[.ref a],[]⟩) P E s:=by
 have hv:vs.toArray.size≤sizeLine:=by simpa using hz
 have la:a<s.heap.objs.size:=Heap.lt_size ho
 rw [list_sort_plain]
 refine wpAny_bind (listItems_at ho rfl (wpAny_bind (listUpdate_at ho rfl ?_ hv (Nat.zero_le _))))
 obtain ⟨m,h1⟩:∃ m,(s.heap.update a (Obj.mapSeq fun _=>#[])).get? a=some (seqObj "list" #[] m):=⟨_,get?_update_seq ho fun _=>#[]⟩
 refine wpAny_bind (seqEpoch_at h1 rfl (wpAny_bind (wpAny_newTuple (wpAny_bind (wpAny_newList (wpAny_holding ?_))) (by simpa using hz))))
 have h2:(((s.heap.update a (Obj.mapSeq fun _=>#[])).push (seqObj "tuple" vs.toArray 0)).push (seqObj "list" #[] 0)).get? a=some (seqObj "list" #[] m):=by
  rw [Heap.get?_push_ne _ _ _ (by rw [size_push',Heap.size_update];exact Nat.ne_of_lt (Nat.lt_succ_of_lt la)),Heap.get?_push_ne _ _ _ (by rw [Heap.size_update];exact Nat.ne_of_lt la)]
  exact h1
 show wpAny (model prog w) A _ P E { s with heap:=((s.heap.update a (Obj.mapSeq fun _=>#[])).push (seqObj "tuple" vs.toArray 0)).push (seqObj "list" #[] 0) }
 dsimp only
 have fin:∀ st:SortSt,(arrOf st).Perm (pairsOf vs)→failedOf st=none→SortedTo (arrOf st) (pairsOf vs).size →
   wpAny (model prog w) A (do
    let t:=(← seqEpoch a) != m
    Builtin.List.listUpdate (.ref a) fun _=>(arrOf st).map (·.2)
    if let some e:=failedOf st then rule "list.sort.comparison-raised";throw e
    if t then rule "list.sort.modified";raiseError "ValueError" "list modified during sort"
    ret .none) P E { s with heap:=((s.heap.update a (Obj.mapSeq fun _=>#[])).push (seqObj "tuple" vs.toArray 0)).push (seqObj "list" #[] 0) }:=by
  intro st p1 p2 p3
  refine wpAny_bind (seqEpoch_at h2 rfl ?_)
  refine wpAny_bind (listUpdate_at h2 rfl ?_ (Nat.zero_le _) (by rw [Array.size_map,p1.size_eq,pairsOf_size];omega))
  rw [p2]
  simp only [bne_self_eq_false,Bool.false_eq_true,if_false]
  obtain ⟨ns',q1,q2,q3⟩:=sorted_out hI p1 p3
  exact wpAny_pure (h _ ns' q1 q2 q3)
 by_cases hc:vs.toArray.size<2
 ·rw [if_pos hc,if_pos hc]
  refine wpAny_bind (wpAny_pure ?_)
  rw [StateT.run_pure]
  refine wpAny_bind (wpAny_pure (fin (SortSt.mk' general' (vs.toArray.zip vs.toArray) #[] 7 none) (Array.Perm.refl _) rfl fun i j q1 q2=>?_))
  rw [pairsOf_size] at q2
  rw [List.size_toArray] at hc
  obtain rfl:i=j:=by omega
  exact Int.le_refl _
 ·rw [if_neg hc,if_neg hc]
  have hk:keyKind' vs.toArray=pure oneType':=by
   match vs,hI,hc with
   | [],_,hc=>simp at hc
   | [_],_,hc=>simp at hc
   | v::u::r,hI,_=>exact keyKind_ints hI
  rw [hk]
  refine wpAny_bind (wpAny_pure (wpAny_bind (wpAny_mono (qBl (a₀:=pairsOf vs) (st:=SortSt.mk' oneType' (vs.toArray.zip vs.toArray) #[] 7 none)
   (Q:=fun _ st=>(arrOf st).Perm (pairsOf vs)∧failedOf st=none∧SortedTo (arrOf st) (pairsOf vs).size) hI.intKeys ⟨Array.Perm.refl _,rfl,rfl⟩ rfl fun st p1 p2 p3=>⟨p1,p2,p3⟩) ?_ fun _ _ e=>e)))
  rintro ⟨⟨⟩,st⟩ s' ⟨rfl,p1,p2,p3⟩
  exact fin st p1 p2 p3
open PySem.W in
theorem qIM {T:String} {r d:Addr} {n:Nat} {P:Nat→Value→Prop} {OK:Heap→Prop} {R:List Value→Shared→Prop} (K:KdlSrc prog w T r d n P OK) (hh:A.handled=none) (hok:OK s.heap) (hn:n≤sizeLine)
  (h:∀ (g:Heap) (tk:Nat) (x:Array Value),s.heap.objs.size<g.objs.size→(∀ b o,s.heap.get? b=some o→g.get? b=some o)→ItemsOf P x n→R x.toList { s with heap:=g,toks:=tk }) :
  wpAny (model prog w) A (collect (.ref r)) R E s:=by
 have lt:=K.there _ hok
 unfold collect
 refine wpAny_bind (wpAny_runValue (codeAny_builtin entry_proto_collect' ?_))
 rw [Around.under_plainId PySem.F.plain_proto_collect _]
 refine wpAny_bind (m:=newList []) (wpAny_newObj_type (wpAny_pure ⟨plainId_quiet PySem.F.plain_list_iadd _,codeAny_builtin entry_list_iadd' ?_⟩))
 rw [Around.under_plainId PySem.F.plain_list_iadd _]
 have e1:(s.heap.push (seqObj "list" #[] 0)).get? s.heap.objs.size=some (seqObj "list" #[] 0):=Heap.get?_push_size _ rfl
 have go:∀ (g:Heap) (tk:Nat) (x:Array Value) (c:Nat),(∀ b o,s.heap.get? b=some o→g.get? b=some o)→g.get? s.heap.objs.size=some (seqObj "list" x c)→ItemsOf P x n →
   wpAny (model prog w) A (load s.heap.objs.size >>= fun o=>match o.data with
    | .seq xs _=>pure xs.toList
    | _=>unsupported "internal:collect") R E { s with heap:=g,toks:=tk }:=fun g tk x c k1 k2 k3 =>
  wpAny_bind (wpAny_load k2 (wpAny_pure (h g tk x (Heap.lt_size k2) k1 k3)))
 have key:=kdl_extend (A:=A) (s:={ s with heap:=s.heap.push (seqObj "list" #[] 0) })
  (R:=fun (q:Result) (s':Shared)=>∃ (g:Heap) (tk:Nat) (x:Array Value) (c:Nat),q=.ok (.ret (.ref s.heap.objs.size))∧s'={ s with heap:=g,toks:=tk } ∧
   (∀ b o,s.heap.get? b=some o→g.get? b=some o)∧g.get? s.heap.objs.size=some (seqObj "list" x c)∧ItemsOf P x n)
  K hh (K.keep _ _ hok fun b _ o e=>Heap.get?_push_of_some _ e) s.heap.objs.size (Nat.ne_of_gt lt.1) (Nat.ne_of_gt lt.2) (.ref s.heap.objs.size) 0 e1
  (fun g tk x c k1 k2 k3=>⟨g,tk,x,c,rfl,rfl,fun b o e=>k1 b o (Nat.ne_of_lt (Heap.lt_size e)) (Heap.get?_push_of_some _ e),k2,k3⟩) hn
 refine wpAny_mono key (fun f s' q=>?_) fun e s' q=>?_
 ·cases f with
  | done f =>
   obtain ⟨g,tk,x,c,e,rfl,k1,k2,k3⟩:=q
   cases e
   exact go g tk x c k1 k2 k3
  | again c1 =>
   refine ⟨q.1,codeAny_mono q.2 fun f s2 q=>?_⟩
   obtain ⟨g,tk,x,c,rfl,rfl,k1,k2,k3⟩:=q
   exact go g tk x c k1 k2 k3
 ·obtain ⟨_,_,_,_,e',_⟩:=q
  cases e'
theorem oB:∀ (vs:List Value) (ns:List Int),vs.length=ns.length→(∀ (j:Nat) v,vs[j]?=some v→∃ t n,ns[j]?=some n∧v=.int n t)→IntsAre vs ns
 | [],[],_,_=>.nil
 | [],_::_,e,_=>by cases e
 | _::_,[],e,_=>by cases e
 | v::vs,n::ns,e,q=>by
  obtain ⟨t,n',e1,e2⟩:=q 0 v rfl
  cases e1
  subst e2
  exact .cons n t (oB vs ns (Nat.succ.inj e) fun j v hj=>q (j+1) v hj)
theorem sorted_dict {K:Type} [DecidableEq K] {knd:KeyKind prog w K} {d:Addr} {kvs:List (K × Value)} {ep:Nat} {ns:List Int} {Q:Value→Shared→Prop} (hh:A.handled=none) (hd:(d == sysModules)=false)
  (hat:s.heap.DictAt knd d kvs ep) (hz:kvs.length≤sizeLine) (hk:∀ (i:Nat) (k:K) (x v:Value),kvs[i]?=some (k,x)→knd.is k v=true→∃ t n,ns[i]?=some n∧v=.int n t) (hn:ns.length=kvs.length)
  (h:∀ (h':Heap) (tk:Nat) (B:Addr) (o:Array Value) (e:Nat) (m:List Int),s.heap.objs.size≤B→(∀ b ob,s.heap.get? b=some ob→h'.get? b=some ob)→h'.get? B=some (seqObj "list" o e)→IntsAre o.toList m→m.Perm ns→m.Pairwise (·≤·) →
   Q (.ref B) { s with heap:=h',toks:=tk }):wpAny (model prog w) A (call (.builtin "sorted") [.ref d]) Q E s:=by
 refine Calls.call_function_entry kind_sorted plain_sorted entry_sorted (args_sorted1 _) ?_
 unfold Builtin.«sorted»
 refine wpAny_bind (m:=checkCount "sorted" 1 1 _) (wpAny_pure ?_)
 refine wpAny_bind (qIM (A:=A.in1) (PySem.W.kdl_dict (knd:=knd) (kvs:=kvs) (ep:=ep) hd) hh hat hz fun h1 tk x lt hk1 hx=>?_)
 have hl:x.toList.length=kvs.length:=by rw [Array.length_toList];exact hx.1
 have hI:IntsAre x.toList ns:=oB _ _ (hl.trans hn.symm) fun j v hj=>by
  obtain ⟨k,y,e1,e2⟩:=hx.2 j v (by rw [← Array.getElem?_toList];exact hj)
  exact hk j k y v e1 e2
 refine wpAny_bind (wpAny_newList ?_ (by rw [hl];exact hz))
 have hB:(h1.push (seqObj "list" x.toList.toArray 0)).get? h1.objs.size=some (seqObj "list" x.toList.toArray 0):=Heap.get?_push_size _ rfl
 refine wpAny_bind (wpAny_holding (wpAny_call_entry slot_list_sort ⟨_,hB,rfl⟩ entry_list_sort (qB1 hB hI (by rw [hl];exact hz) fun o m a1 a2 a3=>⟨_,rfl,?_⟩) (args_list_sort _)))
 obtain ⟨e,he⟩:=sortedHeap_at (out:=o) hB
 refine wpAny_pure ⟨_,rfl,h _ tk h1.objs.size o e m (Nat.le_of_lt lt) (fun b ob q=>?_) he a1 a2 a3⟩
 have q1:=hk1 b ob q
 have q2:=Heap.lt_size q1
 exact (sortedHeap_old (Nat.ne_of_lt q2) (by rw [size_push'];exact Nat.lt_succ_of_lt q2)).trans (Heap.get?_push_of_some _ q1)
end
end Sr
set_option Elab.async false
set_option linter.all false
set_option maxRecDepth 100000
set_option maxHeartbeats 4000000
namespace Fy
open PySem PySem.Spec PyProof.Rows
open L2 (V Hp HO VK TE TT TA TS TI Cx Inv RelV Vals SqL SqT Rd upd qF qD PE PT PA PS PSs EP OpR CallR IxR MtR SlR PO TO thn)
theorem bD {K:PySem.W.Frag} {ρ:List Addr} {H:Hp}:∀ ns:List Int,RepL K ρ H (ns.map .int) (ns.map V.int)
 | []=>rfl
 | n::r=>⟨.int n,_,rfl,rfl,bD r⟩
theorem vals_ints:∀ {us:List Value} {ns:List Int},IntsAre us ns→Vals (ns.map V.int) us
 | [],[],_=>.nil
 | u::us,n::ns,h=>by
  cases h with
  | cons _ t h2=>exact .cons ⟨_,rfl⟩ (vals_ints h2)
section
variable {X:Cx} {F:Nat→List D→M D} {W:WX}
theorem oG {K:PySem.W.Frag} {ρ:List Addr} {H:Hp}:∀ {kvs:List (Ky × D)} {vs:List (L2.Key × V)} {ns:List Int},vF kvs=some ns→RepK K ρ H kvs vs→vs.map (·.1)=ns.map Sum.inl
 | [],_,_,e,h=>by cases e;cases h;rfl
 | (.str _,_)::_,_,_,e,_=>by cases e
 | (.int i,d)::r,_,_,e,⟨v,vs,rfl,_,h2⟩=>by
  unfold vF at e
  cases q:vF r with
  | none=>rw [q] at e;cases e
  | some ns =>
   rw [q] at e
   cases e
   rw [List.map_cons,List.map_cons,oG q h2]
   rfl
theorem qB2 {pins:List (Addr × Obj)} {s:Shared} {σ:L2.St} {H:Hp} {y:V} {u:Value} {Q:VK} {w:W1} {ρ:List Addr} {h:AH} {k:Nat} (hc:X.calm=true) (I:Inv X pins σ H s) (r:RepH X.K ρ h H) (he:RepV X.K ρ H (.ref k) y) (ry:RelV y u)
  (p:PostV X.K w Q ρ H (kZ k h)):wpAny (model X.prog X.w) X.A (call (.builtin "sorted") [u]) (EP X pins σ Q) X.xe s:=by
 unfold kZ at p
 split at p
 ·rename_i kvs q
  split at p
  ·rename_i ns q2
   obtain ⟨a,vs,rfl,ha,hH,hk⟩:=r.dict q he
   cases ry
   obtain ⟨z,hd,ws,rel,dd⟩:=L2.dk_rd I.hok (.inl hH)
   obtain ⟨ep,hat⟩:=dd.dictAt
   have ks:ws.map (·.1)=ns.map Sum.inl:=rel.keys.symm.trans (oG q2 hk)
   have ln:ns.length=ws.length:=by simpa using (congrArg List.length ks).symm
   refine Sr.sorted_dict (I.ok.hd hc) hd hat (by rw [← rel.length];exact z) (fun i k x v e1 e2=>?_) ln fun h' tk B o e m le kp he a1 a2 a3=>?_
   ·have e3:(ns.map Sum.inl)[i]?=some k:=by rw [← ks,List.getElem?_map,e1];rfl
    rw [List.getElem?_map] at e3
    cases q3:ns[i]? with
    | none=>rw [q3] at e3;cases e3
    | some n =>
     rw [q3] at e3
     cases e3
     have e2:L2.keyIs (Sum.inl n) v=true:=e2
     rcases L2.keyIs_shape e2 with ⟨j,t,w1,rfl⟩ | ⟨x,t,w1,_⟩
     ·cases w1;exact ⟨t,n,rfl,rfl⟩
     ·cases w1
   ·have e':m=zX ns:=yQ (a2.trans (wQ ns).symm) a3 (yY ns)
    subst e'
    have pv:=PostV.newL p r (bD (K:=X.K) (ρ:=ρ) (H:=H) (zX ns))
    exact ⟨.ref B,_,I.laid (t':=tk) kp le (show L2.ObjOk X.prog X.w _ _ _ (.lst ((zX ns).map V.int)) from ⟨pv.1,o.toList,e,vals_ints a1,he⟩),rfl,pv.2 _ (I.hok.fresh le)⟩
  ·exact False.elim p
 ·exact False.elim p
theorem qIa (hc:X.calm=true):CallR X (.builtin "sorted") (rC X.K .sorted):=by
 rintro pins s σ H xs us Q I rv ⟨x,rfl,w,ρ,h,d,r,hd,p⟩
 cases d with
 | ref i =>
  have p:PostV X.K w Q ρ H (match getL h i with | some ds=>aT ds h | none=>kZ i h):=p
  obtain ⟨u,rfl,ru⟩:=L2.Vals.one rv
  cases q:getL h i with
  | none=>rw [q] at p;exact qB2 hc I r hd ru p
  | some ds =>
   rw [q] at p
   have p:PostV X.K w Q ρ H (match zN ds with | some xs=>(if xs.length<64 then newL ((zX xs).map .int) h else .bad) | none=>.bad):=p
   cases qb:zN ds with
   | none=>rw [qb] at p;exact False.elim p
   | some ns =>
    rw [qb] at p
    obtain ⟨h64,p⟩:=PostV.ite (c:=ns.length<64) p
    obtain ⟨a,vs,rfl,h1,h2⟩:=r.seen q hd
    cases ru
    obtain ⟨its,rv',pl,hz⟩:=I.list h1
    have hv:=uU qb h2
    subst hv
    have hb:=L2.intsAre_of rv'
    have hl:=pl.isList
    have len:=rv'.length
    rw [List.length_map] at len
    refine sorted_ints hl hb (by omega) fun out ns' o1 o2 o3=>?_
    have e:ns'=zX ns:=yQ (o2.trans (wQ ns).symm) o3 (yY ns)
    subst e
    obtain ⟨e,he⟩:=sortedAll_at s.heap its out
    have pv:=PostV.newL p r (bD (K:=X.K) (ρ:=ρ) (H:=H) (zX ns))
    exact ⟨.ref (s.heap.objs.size+1),_,I.laid (t':=s.toks) (fun _ _=>sortedAll_old) (Nat.le_succ _) (show L2.ObjOk X.prog X.w _ _ _ (.lst ((zX ns).map V.int)) from ⟨pv.1,out.toList,e,vals_ints o1,he⟩),rfl,pv.2 _ (I.hok.fresh (Nat.le_succ _))⟩
 | _=>exact (show False from p).elim
end
end Fy
set_option Elab.async false
set_option linter.all false
set_option maxRecDepth 100000
set_option maxHeartbeats 4000000
namespace Fy
open PySem PySem.Spec PyProof.Rows
open L2 (V Hp HO VK TE TT TA TS TI Cx Inv RelV Vals SqL SqT Rd upd qF qD PE PT PA PS PSs EP PI PG PIE Turn qJ Ends Un HOk frs)
section
variable {prog:Program} {w:World} {A:Around} {R:Result→Shared→Prop} {s:Shared}
theorem qIJ {elt target iter:Expr} {ifs:List Expr} {scope:Scope} {pos:Pos} {it acc:Value} {env:PySem.Env} (I:Nat→Shared→Prop)
  (turn:∀ n s,I n s→wpAny (model prog w) A (pyNext it) (fun r s₁=>match r with
   | none=>R (.ok .next) s₁
   | some v=>wpAny (model prog w) A (letOwnedTupleGo target it v) (fun _ s₁'=>wpAny (model prog w) A (assign target env v) (fun _ s₂ =>
     wpAny (model prog w) A (forIn ifs true fun c r=>if r=true then do let ok ← isTrue c env (eval c env);pure (ForInStep.yield ok) else pure (ForInStep.yield r)) (fun ok s₃ =>
      if ok=true then wpAny (model prog w) A (eval elt env) (fun x s₄ =>
       wpAny (model prog w) A (call (.builtin "list.append") [acc,x]) (fun _ s₅=>∃ m,m<n∧I m s₅) (notedBy (model prog w) A env fun e s'=>R (.error e) s') s₄) (notedBy (model prog w) A env fun e s'=>R (.error e) s') s₃
      else ∃ m,m<n∧I m s₃) (notedBy (model prog w) A env fun e s'=>R (.error e) s') s₂) (notedBy (model prog w) A env fun e s'=>R (.error e) s') s₁') (notedBy (model prog w) A env fun e s'=>R (.error e) s') s₁) (notedBy (model prog w) A env fun e s'=>R (.error e) s') s)
  (n:Nat) (h:I n s):codeAny (model prog w) A (.compLoop (.ListComp elt [⟨target,iter,ifs,0⟩] scope pos) 0 it acc env) R s:=by
 refine codeAny_loop rfl I (fun n s hI=>?_) n h
 show wpAny _ A ((compTurn (.ListComp elt [⟨target,iter,ifs,0⟩] scope pos) 0 it acc env).onRaise (fun x=>do noteFrame x env;theTreesLotGoes x)) _ _ s
 refine wpAny_noted ?_
 rw [compTurn_list]
 refine wpAny_bind (wpAny_standAt (wpAny_bind (wpAny_mono (turn n s hI) (fun r s₁ h₁=>?_) fun _ _ h'=>h')))
 cases r with
 | none=>exact wpAny_pure h₁
 | some v =>
  refine wpAny_bind (wpAny_mono h₁ (fun _ s₁' h₁'=>?_) fun _ _ h'=>h')
  refine wpAny_bind (wpAny_mono h₁' (fun _ s₂ h₂=>wpAny_bind (wpAny_mono h₂ (fun ok s₃ h₃=>?_) fun _ _ h'=>h')) fun _ _ h'=>h')
  cases ok with
  | false=>exact wpAny_pure ⟨rfl,h₃⟩
  | true =>
   exact wpAny_bind (wpAny_bind (wpAny_mono h₃ (fun x s₄ h₄=>wpAny_bind (wpAny_mono h₄ (fun _ s₅ h₅=>wpAny_pure (wpAny_pure ⟨rfl,h₅⟩)) fun _ _ h'=>h')) fun _ _ h'=>h'))
end
theorem dD {env:PySem.Env}:∀ (names:List (Str × NameKind)) (acc:List (Str × Addr)),(∀ y∈names,y.2=.free→∃ c,env.cells.lookup y.1=some c)→(∀ y c,acc.lookup y=some c→env.cells.lookup y=some c) →
  ∃ cl,(forIn names acc fun (p:Str × NameKind) (r:List (Str × Addr))=>(do if (p.2 == NameKind.free)=true then (do let a ← cellOf env p.1;pure (ForInStep.yield ((p.1,a)::r))) else pure (ForInStep.yield r):Sem (ForInStep (List (Str × Addr)))))=(pure cl:Sem (List (Str × Addr))) ∧
   (∀ y c,cl.lookup y=some c→env.cells.lookup y=some c)∧(∀ y∈names,y.2=.free→∃ c,cl.lookup y.1=some c)∧∀ y c,acc.lookup y=some c→∃ c,cl.lookup y=some c
 | [],acc,_,ha=>⟨acc,rfl,ha,fun _ h=>absurd h (by simp),fun y c h=>⟨c,h⟩⟩
 | (n,k)::r,acc,hn,ha=>by
  by_cases hk:k=.free
  ·subst hk
   obtain ⟨c,hc⟩:=hn (n,.free) (List.mem_cons_self ..) rfl
   have ha':∀ y d,((n,c)::acc).lookup y=some d→env.cells.lookup y=some d:=fun y d h=>by
    rw [List.lookup_cons] at h
    cases q:(y == n) with
    | true =>
     rw [q] at h
     cases h
     have:y=n:=by simpa using q
     rw [this]
     exact hc
    | false=>rw [q] at h;exact ha y d h
   obtain ⟨cl,h1,h2,h3,h4⟩:=dD r ((n,c)::acc) (fun y hy=>hn y (List.mem_cons_of_mem _ hy)) ha'
   have hl:((n,c)::acc).lookup n=some c:=by rw [List.lookup_cons];simp
   refine ⟨cl,?_,h2,fun y hy hf=>?_,fun y d hd=>?_⟩
   ·rw [List.forIn_cons]
    have e:cellOf env n=pure c:=by unfold cellOf;rw [hc]
    simp only [beq_self_eq_true,if_true,e]
    exact h1
   ·rcases List.mem_cons.mp hy with rfl | hy
    ·exact h4 n c hl
    ·exact h3 y hy hf
   ·by_cases q:y=n
    ·subst q
     exact h4 y c hl
    ·refine h4 y d ?_
     rw [List.lookup_cons]
     have:(y == n)=false:=by simpa using q
     rw [this]
     exact hd
  ·obtain ⟨cl,h1,h2,h3,h4⟩:=dD r acc (fun y hy=>hn y (List.mem_cons_of_mem _ hy)) ha
   refine ⟨cl,?_,h2,fun y hy hf=>?_,h4⟩
   ·rw [List.forIn_cons]
    have e:(k == NameKind.free)=false:=by simpa using hk
    simp only [e,Bool.false_eq_true,if_false]
    exact h1
   ·rcases List.mem_cons.mp hy with rfl | hy
    ·exact absurd hf hk
    ·exact h3 y hy hf
theorem qIO {env:PySem.Env} {scope:Scope} (hn:∀ y∈scope.names,y.2=.free→∃ c,env.cells.lookup y.1=some c) :
  ∃ cl,closureFor scope env=pure cl∧(∀ y c,cl.lookup y=some c→env.cells.lookup y=some c)∧∀ y∈scope.names,y.2=.free→∃ c,cl.lookup y.1=some c:=by
 obtain ⟨cl,h1,h2,h3,_⟩:=dD (env:=env) scope.names [] hn (fun _ _ h=>nomatch h)
 refine ⟨cl,?_,h2,h3⟩
 exact (congrArg (fun t:Sem (List (Str × Addr))=>t >>= fun z=>pure z) h1).trans rfl
end Fy
set_option Elab.async false
set_option linter.all false
set_option maxRecDepth 100000
set_option maxHeartbeats 4000000
namespace Fy
open PySem PySem.Spec PyProof.Rows
open L2 (V Hp HO VK TE TT TA TS TI Cx Inv RelV Vals SqL SqT Rd upd qF qD PE PT PA PS PSs EP PI PG PIE Turn qJ Ends Un HOk frs)
noncomputable abbrev noN:Str:=""
noncomputable def zV (N:List Str) (x:Str):List Str:=N.map fun y=>if y=x then noN else y
theorem uN (N:List Str) (x:Str):(zV N x).length=N.length:=by unfold zV;simp
theorem qEj {N:List Str} {x y:Str} {i:Nat} (h:(zV N x)[i]?=some y):(N[i]?=some y∧y≠x)∨(N[i]?=some x∧y=noN):=by
 unfold zV at h
 rw [List.getElem?_map] at h
 cases q:N[i]? with
 | none=>rw [q] at h;cases h
 | some z =>
  rw [q] at h
  have h:(if z=x then noN else z)=y:=Option.some.inj h
  by_cases e:z=x
  ·rw [if_pos e] at h
   exact .inr ⟨by rw [e],h.symm⟩
  ·rw [if_neg e] at h
   exact .inl ⟨by rw [h],h ▸ e⟩
theorem mL {N:List Str} {x:Str} (nd:N.Nodup) (h1:x≠noN) (h2:x∈N→noN∉N):(zV N x++[x]).Nodup:=by
 have inj:∀ a∈N,∀ b∈N,(if a=x then noN else a)=(if b=x then noN else b)→a=b:=fun a ha b hb e=>by
  by_cases ea:a=x
  ·by_cases eb:b=x
   ·rw [ea,eb]
   ·rw [if_pos ea,if_neg eb] at e
    exact absurd (e ▸ hb) (h2 (ea ▸ ha))
  ·by_cases eb:b=x
   ·rw [if_neg ea,if_pos eb] at e
    exact absurd (e ▸ ha) (h2 (eb ▸ hb))
   ·rw [if_neg ea,if_neg eb] at e
    exact e
 rw [List.nodup_append]
 refine ⟨?_,by simp,fun a ha b hb z=>?_⟩
 ·unfold zV
  clear h1 h2
  induction N with
  | nil=>simp
  | cons c r ih =>
   rw [List.nodup_cons] at nd
   rw [List.map_cons,List.nodup_cons]
   refine ⟨fun hm=>?_,ih nd.2 fun a ha b hb=>inj a (List.mem_cons_of_mem _ ha) b (List.mem_cons_of_mem _ hb)⟩
   obtain ⟨d,hd,e⟩:=List.mem_map.mp hm
   have:=inj d (List.mem_cons_of_mem _ hd) c (List.mem_cons_self ..) e
   exact nd.1 (this ▸ hd)
 ·rw [List.mem_singleton.mp hb] at z
  subst z
  unfold zV at ha
  obtain ⟨d,hd,e⟩:=List.mem_map.mp ha
  have e:(if d=a then noN else d)=a:=e
  by_cases q:d=a
  ·rw [if_pos q] at e;exact h1 e.symm
  ·rw [if_neg q] at e;exact q e
noncomputable def cxC (X:Cx) (x:Str) (scope:Scope) (cl:List (Str × Addr)) (C:Addr) (s3:Shared) (H3:Hp) (fp:List Addr) (E:Value→Shared→Prop):Cx :=
 { X with N:=zV X.N x++[x],s₀:=s3,H₀:=H3,env:=compEnvC scope cl C X.env,outer:=X.stack,ex:=fp,fn:=fun _=>false,pn:=[],xe:=E }
structure CompOk (X:Cx) (x:Str) (scope:Scope):Prop where
 kind:scope.kind=.function
 nocell:∀ y∈scope.names,y.2≠.cell
 loc:∀ y∈scope.names,y.2=.local→scope.names.lookup y.1=some .local
 own:scope.names.lookup x=some .local
 free:∀ y∈scope.names,y.2=.free→X.env.kindOf y.1=some .cell∨X.env.kindOf y.1=some .free
 new:x≠noN
 hole:x∈X.N→noN∉X.N∧scope.names.lookup noN=none
 others:∀ y,y≠x→scope.names.lookup y=some .local→y∈X.N→False
section
variable {X:Cx} {x:Str} {scope:Scope} {cl:List (Str × Addr)} {pins:List (Addr × Obj)} {σ:L2.St} {H:Hp} {s:Shared} {fp:List Addr}
theorem jE {env:PySem.Env} {y:Str} {k:NameKind}:∀ {names:List (Str × NameKind)},(names.map fun (n,k)=>if (k == NameKind.free&&env.scope.kind == .function&&env.kindOf n == some .cell) then (n,NameKind.cell) else (n,k)).lookup y=some k →
  names.lookup y=some k∨(names.lookup y=some .free∧k=.cell)
 | [],h=>by simp at h
 | (n,k')::r,h=>by
  have ih:=@jE env y k r
  have h:List.lookup y ((if (k' == NameKind.free&&env.scope.kind == .function&&env.kindOf n == some .cell)=true then (n,NameKind.cell) else (n,k'))::(r.map fun (n,k)=>if (k == NameKind.free&&env.scope.kind == .function&&env.kindOf n == some .cell) then (n,NameKind.cell) else (n,k)))=some k:=h
  by_cases hc:(k' == NameKind.free&&env.scope.kind == .function&&env.kindOf n == some .cell)=true
  ·rw [if_pos hc,List.lookup_cons] at h
   rw [List.lookup_cons]
   cases q:(y == n) with
   | true =>
    rw [q] at h
    cases h
    have:k'=.free:=by
     simp only [Bool.and_eq_true] at hc
     simpa using hc.1.1
    subst this
    exact .inr ⟨rfl,rfl⟩
   | false=>rw [q] at h;exact ih h
  ·rw [if_neg hc,List.lookup_cons] at h
   rw [List.lookup_cons]
   cases q:(y == n) with
   | true=>rw [q] at h;exact .inl h
   | false=>rw [q] at h;exact ih h
theorem vC {names:List (Str × NameKind)} {y:Str} {k:NameKind} (h:names.lookup y=some k):(y,k)∈names:=PySem.mem_of_lookup h
theorem CompOk.vis (C:CompOk X x scope) {y:Str} (hy:y∈X.N) (hne:y≠x) (hv:L2.Vis (relabel scope X.env) y):(scope.names.lookup y=some .free)∧((relabel scope X.env).names.lookup y=some .cell∨(relabel scope X.env).names.lookup y=some .free):=by
 rcases hv with h | h | h
 ·rcases jE h with z | ⟨_,z⟩
  ·exact (C.others y hne z hy).elim
  ·cases z
 ·rcases jE h with z | ⟨z,_⟩
  ·exact absurd rfl (C.nocell _ (vC z))
  ·exact ⟨z,.inl h⟩
 ·rcases jE h with z | ⟨z,w⟩
  ·exact ⟨z,.inr h⟩
  ·cases w
theorem qIE {C:Addr} {E:Value→Shared→Prop} (K:CompOk X x scope) (I:Inv X pins σ H s) (hC:C=s.heap.objs.size) (hcl:∀ y c,cl.lookup y=some c→X.env.cells.lookup y=some c) (hfr:∀ y∈scope.names,y.2=.free→∃ c,cl.lookup y.1=some c)
  (hfp:∀ b∈fp,qJ X pins H b) (hlt:∀ b∈fp,b<s.heap.objs.size):(cxC X x scope cl C s H fp E).Ok where
 mod:=I.mod
 kind:=K.kind
 glob:=I.ok.glob
 blt:=I.ok.blt
 above:=by rw [hC];exact Nat.le_refl _
 inj:=fun y z c h1 h2=>I.ok.inj y z c (hcl y c h1) (hcl z c h2)
 has:=fun y hy=>by
  have hy:(relabel scope X.env).names.lookup y=some .cell∨(relabel scope X.env).names.lookup y=some .free:=hy
  have:scope.names.lookup y=some .free:=by
   rcases hy with h | h
   ·rcases jE h with z | ⟨z,_⟩
    ·exact absurd rfl (K.nocell _ (vC z))
    ·exact z
   ·rcases jE h with z | ⟨_,w⟩
    ·exact z
    ·cases w
  exact hfr _ (vC this) rfl
 cab:=fun y c h=>by cases h
 hd:=I.ok.hd
 frames:=I.ok.frames
 stk:=.inl rfl
 exf:=fun b hb=>⟨fun z=>by have:=hlt b hb;rw [show b=C from z,hC] at this;exact absurd this (Nat.lt_irrefl _),fun y c h=>(hfp b hb).2.2.2.2.1 y c (hcl y c h)⟩
 bs:=I.bs
 bsz:=Nat.le_trans I.ok.bsz I.sz
 noex:=fun b o e hb=>by
  obtain ⟨_,_,_,f3,_⟩:=hfp b hb
  rcases f3 with z | z
  ·exact I.ok.noex b o e z
  ·exact absurd (Nat.lt_of_lt_of_le (Heap.lt_size e) (Nat.le_trans I.ok.bsz z)) (Nat.lt_irrefl _)
 exfs:=fun b hb z=>by
  obtain ⟨_,f1,f2,_⟩:=hfp b hb
  rcases List.mem_cons.mp (I.stkSub b z) with q | q
  ·exact f1 q
  ·exact f2 q
 funs:=I.stack
 frf:=I.stkFree
theorem qIF {C:Addr} {E:Value→Shared→Prop} {h1:Heap} {tk:Nat} (K:CompOk X x scope) (I:Inv X pins σ H s) (hC:C=s.heap.objs.size) (hcl:∀ y c,cl.lookup y=some c→X.env.cells.lookup y=some c) (hfr:∀ y∈scope.names,y.2=.free→∃ c,cl.lookup y.1=some c)
  (hfp:∀ b∈fp,qJ X pins H b) (hlt:∀ b∈fp,b<s.heap.objs.size) (hns:h1.Ns C fun _=>none) (old:∀ b o,s.heap.get? b=some o→h1.get? b=some o) :
  Inv (cxC X x scope cl C s H fp E) [] (σ++[none]) H { s with heap:=h1,toks:=tk }:=by
 have ok:(cxC X x scope cl C s H fp E).Ok:=qIE K I hC hcl hfr hfp hlt
 have fC:H C=none:=I.hok.fresh (by rw [hC];exact Nat.le_refl _)
 refine ⟨ok,rfl,I.bare,Un.kept old,⟨_,hns,fun i y v e1 e2 e3=>?_⟩,fun y c h=>?_,fC,fun y c h=>I.freeC y c (hcl y c h),fun p hp=>absurd hp (by show p∉([]:List (Addr × Obj))++[];simp),I.hok.kept old,?_⟩
 ·have e1:(zV X.N x++[x])[i]?=some y:=e1
  by_cases hi:i<σ.length
  ·rw [List.getElem?_append_left hi] at e2
   rw [List.getElem?_append_left (by rw [uN,← I.len];exact hi)] at e1
   rcases qEj e1 with ⟨e1,hne⟩ | ⟨e9,rfl⟩
   rotate_left
   ·exfalso
    have hz:=(K.hole (List.mem_of_getElem? e9)).2
    rcases e3 with z | z | z
    ·rcases jE z with w | ⟨w,_⟩ <;> (rw [hz] at w;cases w)
    ·rcases jE z with w | ⟨w,_⟩ <;> (rw [hz] at w;cases w)
    ·rcases jE z with w | ⟨w,_⟩ <;> (rw [hz] at w;cases w)
   obtain ⟨hf,hk⟩:=K.vis (List.mem_of_getElem? e1) hne e3
   have ho:=K.free _ (vC hf) rfl
   obtain ⟨m,hn,hl⟩:=I.loc
   have vo:L2.Vis X.env.scope y:=by
    rcases ho with z | z
    ·exact .inr (.inl z)
    ·exact .inr (.inr z)
   obtain ⟨u,r,l⟩:=hl i y v e1 e2 vo
   refine ⟨u,r,.inr ⟨hk,?_⟩⟩
   rcases l with ⟨hk',_⟩ | ⟨_,c,hc,o,hoc,hd⟩
   ·rcases ho with z | z
    ·have z:X.env.kindOf y=some .cell:=z
     rw [hk'] at z;cases z
    ·have z:X.env.kindOf y=some .free:=z
     rw [hk'] at z;cases z
   ·obtain ⟨c',hc'⟩:=hfr _ (vC hf) rfl
    have e:=hcl _ _ hc'
    rw [hc] at e
    cases e
    exact ⟨c,hc',o,old _ _ hoc,hd⟩
  ·rw [List.getElem?_append_right (Nat.le_of_not_lt hi)] at e2
   cases q:i-σ.length with
   | zero=>rw [q] at e2;cases e2
   | succ n=>rw [q] at e2;simp at e2
 ·obtain ⟨v,o,ho,hd⟩:=I.cell y c (hcl y c h)
  exact ⟨v,o,old _ _ ho,hd⟩
 ·show (σ++[none]).length=(zV X.N x++[x]).length
  rw [List.length_append,List.length_append,uN,I.len]
  rfl
end
end Fy
set_option Elab.async false
set_option linter.all false
set_option maxRecDepth 100000
set_option maxHeartbeats 4000000
namespace Fy
open PySem PySem.Spec PyProof.Rows
open L2 (store_ok V Hp HO VK TE TT TA TS TI Cx Inv RelV Vals SqL SqT Rd upd qF qD PE PT PA PS PSs EP TP PI PG PIE Turn qJ Ends Un HOk frs thn)
noncomputable def uI:Option TT→TT
 | none=>fun _ H Q=>Q true H
 | some t=>t
noncomputable def wM (K:PySem.W.Frag) (wi:TI) (tt:Option TT) (te:TE):TE:=fun σ H Q=>wi σ H fun J H1=>∀ d,H1 d=none→K.lookup d=none→∃ W:Nat→Nat→Hp→Prop,(∃ m,W 0 m (upd H1 d (.lst [])))∧∀ i m H,W i m H →
 (J.stop i H∧Q (.ref d) H)∨(J.go i H∧∀ x H',J.yld i H x H'→uI tt (σ++[some x]) H' fun b H2=>if b=true then te (σ++[some x]) H2 fun y H3=>∃ ys,H3 d=some (.lst ys)∧ys.length<sizeLine∧∃ m',m'<m∧W (i+1) m' (upd H3 d (.lst (ys++[y]))) else ∃ m',m'<m∧W (i+1) m' H2)
noncomputable def PTs (X:Cx) (ifs:List Expr):Option TT→Prop
 | none=>ifs=[]
 | some t=>∃ c,ifs=[c]∧PT X c t
section
variable {X:Cx} {x:Str} {scope:Scope} {pins:List (Addr × Obj)} {σ:L2.St} {H:Hp} {s:Shared} {elt iter:Expr} {ifs:List Expr} {px pos p:Pos} {wi:TI} {tt:Option TT} {te:TE} {Q:VK}
theorem qA1 {t:Option TT} {Q':Bool→Hp→Prop} (h:PTs X ifs t) (I:Inv X pins σ H s) (q:uI t σ H Q') :
  wpAny (model X.prog X.w) X.A (forIn ifs true fun c r=>if r=true then do let ok ← isTrue c X.env (eval c X.env);pure (ForInStep.yield ok) else pure (ForInStep.yield r)) (TP X pins σ Q') X.xe s:=by
 cases t with
 | none =>
  have h:ifs=[]:=h
  subst h
  exact wpAny_tests_nil ⟨H,I,q⟩
 | some t =>
  obtain ⟨c,rfl,hc⟩:=h
  exact wpAny_tests_one (hc pins s σ H Q' I q)
theorem pZ {use:Option (Value→Sem Unit)} {Qf:Value→Shared→Prop} (K:CompOk X x scope) (nd:X.N.Nodup) (hc:X.calm=true) (hi:PI X (.Name x px) iter wi) (hfs:∀ x,foldedSetIterable iter X.env x=pure x)
  (hin:∀ cl C s3 H3 fp E,PE (cxC X x scope cl C s3 H3 fp E) elt te∧PTs (cxC X x scope cl C s3 H3 fp E) ifs tt) (I:Inv X pins σ H s) (h:wM X.K wi tt te σ H Q)
  (fin:∀ (d C:Addr) (H':Hp) (s':Shared) (m:Str→Option Value),Inv X pins σ H' s'→s'.heap.Ns C m→qJ X pins H' C→Q (.ref d) H'→compPost (model X.prog X.w) X.A X.xe use Qf (.ref d) C (.ok .next) s') :
  wpAny (model X.prog X.w) X.A (comprehension (.ListComp elt [⟨.Name x px,iter,ifs,0⟩] scope pos) scope X.env p (newList []) false (eval iter X.env) use) Qf X.xe s:=by
 obtain ⟨cl,hclos,hcl,hfr⟩:=qIO (env:=X.env) (scope:=scope) fun y hy hf=>I.ok.has _ (K.free y hy hf)
 refine wpAny_comprehension_free (use:=use) rfl hfs hclos K.kind K.loc (thn (hi pins s σ H _ I h) fun v s1 h1=>thn h1 fun itv s2 h2=>?_)
 obtain ⟨it,fp,tn,J,H2,e,I2,T,st2,f2,hR⟩:=h2
 subst e
 refine wpAny_newObj_type ?_
 obtain ⟨W,⟨m0,w0⟩,turn⟩:=hR s2.heap.objs.size I2.fresh (by
  cases q:X.K.lookup s2.heap.objs.size with
  | none=>rfl
  | some o=>exact absurd (Heap.lt_size (I2.kIn _ o q)) (Nat.lt_irrefl _))
 have I3:=I2.lnew (its:=[]) (ys:=[]) (t':=s2.toks) .nil (Nat.zero_le _)
 have fd:∀ b∈fp,b<s2.heap.objs.size:=fun b hb=>let ⟨o,e,_⟩:=T.obj _ _ st2 b hb;Heap.lt_size e
 have f3:∀ b∈fp,qJ X pins (upd H2 s2.heap.objs.size (.lst [])) b:=fun b hb=>⟨by rw [qD (Nat.ne_of_lt (fd b hb))];exact (f2 b hb).1,(f2 b hb).2⟩
 have st3:tn 0 (s2.heap.push { cls:=.type "list",data:=.seq ([]:List Value).toArray }):=T.keep _ _ _ st2 fun b _ o e=>Heap.get?_push_of_some _ e
 generalize hd:s2.heap.objs.size=d at *
 generalize hH3:upd H2 d (.lst [])=H3 at *
 generalize hs3:({ s2 with heap:=s2.heap.push { cls:=.type "list",data:=.seq ([]:List Value).toArray },toks:=s2.toks }:Shared)=s3 at *
 have st3:tn 0 s3.heap:=by rw [← hs3];exact st3
 have lt3:∀ b∈fp,b<s3.heap.objs.size:=fun b hb=>let ⟨o,e,_⟩:=T.obj _ _ st3 b hb;Heap.lt_size e
 refine wpAny_newFunctionEnv K.nocell (by intro y hy;simp at hy) (fun h1 hns hsb=>?_) K.kind
 have old:∀ b o,s3.heap.get? b=some o→h1.get? b=some o:=fun b o e=>hsb.extBut b o (Nat.ne_of_lt (Heap.lt_size e)) (Heap.get?_push_of_some _ e)
 show codeAny _ _ (.compStart (.ListComp elt [⟨.Name x px,iter,ifs,0⟩] scope pos) 0 (.ref it) (.ref d) (compEnvC scope cl s3.heap.objs.size X.env)) (compPost (model X.prog X.w) X.A X.xe use Qf (.ref d) s3.heap.objs.size) _
 generalize hC:s3.heap.objs.size=C at *
 have I4:=qIF (E:=notedBy (model X.prog X.w) X.A (compEnvC scope cl C X.env) fun e s'=>compPost (model X.prog X.w) X.A X.xe use Qf (.ref d) C (.error e) s') (tk:=s3.toks+([]:List (Str × Value)).length) K I3 hC.symm hcl hfr f3 (by rw [hC];exact lt3) hns old
 obtain ⟨hE,hT⟩:=hin cl C s3 H3 fp (notedBy (model X.prog X.w) X.A (compEnvC scope cl C X.env) fun e s'=>compPost (model X.prog X.w) X.A X.xe use Qf (.ref d) C (.error e) s')
 generalize hX:cxC X x scope cl C s3 H3 fp (notedBy (model X.prog X.w) X.A (compEnvC scope cl C X.env) fun e s'=>compPost (model X.prog X.w) X.A X.xe use Qf (.ref d) C (.error e) s')=X' at I4 hE hT
 have pX:X'.prog=X.prog:=by rw [← hX];rfl
 have wX:X'.w=X.w:=by rw [← hX];rfl
 have kX:X'.K=X.K:=by rw [← hX];rfl
 have aX:X'.A=X.A:=by rw [← hX];rfl
 have cX:X'.calm=true:=by rw [← hX];exact hc
 have eX:X'.env=compEnvC scope cl C X.env:=by rw [← hX];rfl
 have xX:X'.xe=notedBy (model X.prog X.w) X.A (compEnvC scope cl C X.env) fun e s'=>compPost (model X.prog X.w) X.A X.xe use Qf (.ref d) C (.error e) s':=by rw [← hX];rfl
 have nX:X'.N=zV X.N x++[x]:=by rw [← hX];rfl
 have sX:X'.s₀=s3:=by rw [← hX];rfl
 have hX0:X'.H₀=H3:=by rw [← hX];rfl
 have oX:X'.fs=frs X.stack:=by rw [← hX];rfl
 have exX:X'.ex=fp:=by rw [← hX];rfl
 have pnX:X'.pn=[]:=by rw [← hX];rfl
 have lX:X'.env.locals=C:=by rw [eX];rfl
 have slot:X'.N[σ.length]?=some x:=by
  rw [nX,List.getElem?_append_right (by rw [uN,I3.len];exact Nat.le_refl _),uN,I3.len]
  simp
 have ndX:X'.N.Nodup:=by
  rw [nX]
  exact mL nd K.new fun z=>(K.hole z).1
 have locX:L2.Loc X'.env.scope x:=by
  rw [eX]
  exact .inl (lookup_relabel_local K.own)
 have stat:∀ {H':Hp},(∀ b∈fp,H' b=none)→∀ b∈fp,qJ X' [] H' b:=fun hn b hb=>by
  refine ⟨hn b hb,?_,?_,.inl (by rw [exX];exact hb),fun y c h=>?_,fun p hp=>?_⟩
  ·rw [lX]
   exact Nat.ne_of_lt (lt3 b hb)
  ·rw [oX]
   intro z
   rcases List.mem_cons.mp (I3.stkSub b z) with q | q
   ·exact (f3 b hb).2.1 q
   ·exact (f3 b hb).2.2.1 q
  ·rw [eX] at h
   exact (f3 b hb).2.2.2.2.1 y c (hcl y c h)
  ·rw [pnX] at hp
   simp at hp
 have loop:∀ s':Shared,s'={ s3 with heap:=h1,toks:=s3.toks+([]:List (Str × Value)).length } →
   codeAny (model X.prog X.w) X.A (.compLoop (.ListComp elt [⟨.Name x px,iter,ifs,0⟩] scope pos) 0 (.ref it) (.ref d) (compEnvC scope cl C X.env)) (compPost (model X.prog X.w) X.A X.xe use Qf (.ref d) C) s':=by
  rintro s' rfl
  refine qIJ (fun n s'=>∃ i v H',Inv X' [] (σ++[v]) H' s'∧tn i s'.heap∧(∀ b∈fp,H' b=none)∧W i n H') ?_ m0 ⟨0,none,H3,I4,T.keep _ _ _ st3 fun b _ o e=>old b o e,fun b hb=>(f3 b hb).1,w0⟩
  rintro n s4 ⟨i,v4,H4,I4,st4,fr4,w4⟩
  rcases turn i n H4 w4 with ⟨stop,qn⟩ | ⟨go,step⟩
  ·have td:=T.done X' pX wX kX cX i [] s4 _ H4 (notedBy (model X.prog X.w) X.A (compEnvC scope cl C X.env) fun e s'=>compPost (model X.prog X.w) X.A X.xe use Qf (.ref d) C (.error e) s') I4 (stat fr4) st4 stop
   rw [aX] at td
   refine thn td fun r s5 ⟨hr,I5⟩=>?_
   subst hr
   obtain ⟨m,hn,_⟩:=I5.loc
   rw [lX] at hn
   have fC:H4 C=none:=by rw [← lX];exact I5.free
   have un:L2.Un (frs X.stack) fp H3 H4 s3.heap s5.heap:=by
    have:=I5.base
    rw [sX,hX0,oX,exX] at this
    exact this
   have IX:Inv X pins σ H4 s5:=I3.call' (by have:=I5.os;rw [sX] at this;exact this) un (by have:=I5.hok;rw [pX,wX] at this;exact this) I5.bare fun b hb=>⟨(f3 b hb).2.2.2.1,(f3 b hb).2.1,(f3 b hb).2.2.2.2.1,(f3 b hb).2.2.2.2.2⟩
   exact fin d C H4 s5 m IX hn (I3.fpOk (by rw [hC];exact Nat.le_refl _) fC) qn
  ·have ti:=T.item X' pX wX kX cX i [] s4 _ H4 (notedBy (model X.prog X.w) X.A (compEnvC scope cl C X.env) fun e s'=>compPost (model X.prog X.w) X.A X.xe use Qf (.ref d) C (.error e) s') I4 (stat fr4) st4 go
   rw [aX] at ti
   refine thn ti fun r s5 ⟨u,hr,h5⟩=>?_
   subst hr
   refine thn h5 fun _ s6 ⟨xv,H6,I6,r6,y6,st6,fr6⟩=>?_
   have I6':=I6.pinned (stat fr6) (T.obj _ _ st6)
   have as:=wpAny_assign_Name (pos:=px) (store_ok (M:=model X.prog X.w) (A:=X.A) (E:=notedBy (model X.prog X.w) X.A (compEnvC scope cl C X.env) fun e s'=>compPost (model X.prog X.w) X.A X.xe use Qf (.ref d) C (.error e) s') (Q:=fun _ s7=>Inv X' ([]++L2.pinsAt fp s6.heap) (σ++[some xv]) H6 s7) I6' ndX slot locX r6 (fun s7 I7=>by
    have e:(σ++[v4]).set σ.length (some xv)=σ++[some xv]:=by simp
    rw [e] at I7
    exact I7) (.inr (by rw [eX];exact lookup_relabel_local K.own)))
   rw [eX] at as
   refine thn as fun _ s7 I7=>?_
   have te:=qA1 hT I7 (step xv H6 y6)
   rw [pX,wX,aX,xX,eX] at te
   refine thn te fun ok s8 ⟨H8,I8,q8⟩=>?_
   have again:∀ {H9:Hp} {s9:Shared} {k:Nat},Inv X' ([]++L2.pinsAt fp s6.heap) (σ++[some xv]) H9 s9→W (i+1) k H9→∃ i v H',Inv X' [] (σ++[v]) H' s9∧tn i s9.heap∧(∀ b∈fp,H' b=none)∧W i k H':=fun {H9 s9 k} I9 w9=>by
    refine ⟨i+1,some xv,H9,I9.unpinned,T.keep _ _ _ st6 fun b hb o e=>(I9.pin (b,o) (List.mem_append_right _ (List.mem_append_right _ (L2.mem_pinsAt hb e)))).1,fun b hb=>?_,w9⟩
    obtain ⟨o,e,_⟩:=T.obj _ _ st6 b hb
    exact (I9.pin (b,o) (List.mem_append_right _ (List.mem_append_right _ (L2.mem_pinsAt hb e)))).2.1
   cases ok with
   | false =>
    obtain ⟨m',hm,w9⟩:=q8
    exact ⟨m',hm,again I8 w9⟩
   | true =>
    have ev:=hE _ s8 _ H8 _ I8 q8
    rw [pX,wX,aX,xX,eX] at ev
    refine thn ev fun y s9 ⟨yv,H9,I9,r9,ys,hd9,hz,m',hm,w9⟩=>?_
    have ap:=L2.mt_append (X:=X') _ s9 _ H9 (.ref d) [yv] (.ref d) [y] (fun _ H'=>H'=upd H9 d (.lst (ys++[yv]))) I9 rfl (.cons r9 .nil) ⟨d,ys,yv,rfl,rfl,hd9,hz,rfl⟩
    rw [pX,wX,aX,xX] at ap
    refine thn ap fun z s10 ⟨_,H10,I10,_,e10⟩=>?_
    subst e10
    exact ⟨m',hm,again I10 w9⟩
 exact codeAny_compStart_list (loop _ rfl) (T.self _ 0 _ _ _ (T.keep _ _ _ st3 fun b _ o e=>old b o e) (loop _ rfl))
theorem tO {C:Addr} {h':Heap} {H':Hp} {s':Shared} (I:Inv X pins σ H' s') (f:qJ X pins H' C) (hs:Heap.SameBut C s'.heap h'):Inv X pins σ H' { s' with heap:=h' } :=
 I.turned (t':=s'.toks) (fun b o hb e=>hs.extBut b o hb e) f.1 f.2.1 f.2.2.2.1 f.2.2.2.2.1 f.2.2.2.2.2
theorem bI (K:CompOk X x scope) (nd:X.N.Nodup) (hc:X.calm=true) (hi:PI X (.Name x px) iter wi) (hfs:∀ x,foldedSetIterable iter X.env x=pure x)
  (hin:∀ cl C s3 H3 fp E,PE (cxC X x scope cl C s3 H3 fp E) elt te∧PTs (cxC X x scope cl C s3 H3 fp E) ifs tt):PE X (.ListComp elt [⟨.Name x px,iter,ifs,0⟩] scope pos) (wM X.K wi tt te):=by
 intro pins s σ H Q I h
 rw [eval_ListComp]
 refine pZ (use:=none) K nd hc hi hfs hin I h fun d C H' s' m IX hn f q=>?_
 exact ⟨m,hn,fun h' hs'=>⟨.ref d,H',tO IX f hs',rfl,q⟩⟩
theorem lD {y:Str} {i:Nat} {py spos:Pos} (K:CompOk X x scope) (nd:X.N.Nodup) (hc:X.calm=true) (hi:PI X (.Name x px) iter wi) (hfs:∀ x,foldedSetIterable iter X.env x=pure x)
  (hin:∀ cl C s3 H3 fp E,PE (cxC X x scope cl C s3 H3 fp E) elt te∧PTs (cxC X x scope cl C s3 H3 fp E) ifs tt) (hy:X.N[i]?=some y) (hk:X.env.scope.names.lookup y=some .local)
  (hsw:swapsWith (.ListComp elt [⟨.Name x px,iter,ifs,0⟩] scope pos) (some (.Name y py)) spos.line X.env=pure true) :
  PS X (.Assign [.Name y py] (.ListComp elt [⟨.Name x px,iter,ifs,0⟩] scope pos) spos) (fun D σ H=>wM X.K wi tt te σ H fun v H'=>D.nx (σ.set i (some v)) H'):=by
 intro pins s σ H D I h
 rw [exec_Assign_Name_used _ _ _ _ hsw]
 refine wpAny_bind (wpAny_standAt (wpAny_bind ?_))
 show wpAny _ X.A (do let _ ← comprehension (.ListComp elt [⟨.Name x px,iter,ifs,0⟩] scope pos) scope X.env _ (newList []) false (eval iter X.env) (some (assign (.Name y py) X.env))) _ _ s
 refine wpAny_bind (wpAny_mono (pZ (use:=some (assign (.Name y py) X.env)) (Qf:=fun _ s'=>L2.SP X pins D .next s') K nd hc hi hfs hin I h fun d C H' s' m IX hn f q=>?_) (fun _ s' hq=>wpAny_pure (wpAny_pure hq)) fun _ _ e=>e)
 obtain ⟨oC,es,ep,hC,hr⟩:=id hn
 have dC:∀ v,oC.data≠.cell v:=fun v z=>by rw [hr.1] at z;cases z
 have IP:Inv X (pins++[(C,oC)]) σ H' s':=IX.pins_of fun p hp=>by
  rcases List.mem_append.mp hp with z | z
  ·exact IX.pin p (List.mem_append_right _ z)
  ·have e:p=(C,oC):=List.mem_singleton.mp z
   subst e
   exact ⟨hC,f.1,f.2.1,f.2.2.1,dC⟩
 show wpAny _ X.A (assign (.Name y py) X.env (.ref d)) _ _ _
 refine wpAny_assign_Name (store_ok IP nd hy (.inl hk) (v:=.ref d) rfl (fun s7 I7=>?_) (.inr hk))
 have k7:=(I7.pin (C,oC) (List.mem_append_right _ (List.mem_append_right _ (List.mem_singleton.mpr rfl)))).1
 exact ⟨m,⟨oC,es,ep,k7,hr⟩,fun h' hs'=>⟨_,H',tO I7.unpinned f hs',q⟩⟩
end
end Fy
set_option Elab.async false
set_option linter.all false
set_option maxRecDepth 100000
set_option maxHeartbeats 4000000
namespace Fy
open PySem PySem.Spec PyProof.Rows
open L2 (V Hp HO VK TE TT TA TS TI Cx Inv RelV Vals SqL SqT Rd upd qF qD PE PT PA PS PSs EP PI PG PIE Turn qJ Ends Un HOk frs)
structure CompM (X:Cx) (N' xs:List Str) (scope:Scope):Prop where
 kind:scope.kind=.function
 nocell:∀ y∈scope.names,y.2≠.cell
 loc:∀ y∈scope.names,y.2=.local→scope.names.lookup y.1=some .local
 own:∀ x∈xs,scope.names.lookup x=some .local
 free:∀ y∈scope.names,y.2=.free→X.env.kindOf y.1=some .cell∨X.env.kindOf y.1=some .free
 len:N'.length=X.N.length
 nd:(N'++xs).Nodup
 get:∀ (i:Nat) (y:Str),N'[i]?=some y→(X.N[i]?=some y∧y∉xs)∨scope.names.lookup y=none
 others:∀ y,y∉xs→scope.names.lookup y=some .local→y∈X.N→False
section
variable {X:Cx} {N' xs:List Str} {scope:Scope} {cl:List (Str × Addr)} {pins:List (Addr × Obj)} {σ:L2.St} {H:Hp} {s:Shared} {fp:List Addr}
theorem CompM.vis (C:CompM X N' xs scope) {y:Str} (hy:y∈X.N) (hne:y∉xs) (hv:L2.Vis (relabel scope X.env) y):(scope.names.lookup y=some .free)∧((relabel scope X.env).names.lookup y=some .cell∨(relabel scope X.env).names.lookup y=some .free):=by
 rcases hv with h | h | h
 ·rcases jE h with z | ⟨_,z⟩
  ·exact (C.others y hne z hy).elim
  ·cases z
 ·rcases jE h with z | ⟨z,_⟩
  ·exact absurd rfl (C.nocell _ (vC z))
  ·exact ⟨z,.inl h⟩
 ·rcases jE h with z | ⟨z,w⟩
  ·exact ⟨z,.inr h⟩
  ·cases w
end
end Fy
set_option Elab.async false
set_option linter.all false
set_option maxRecDepth 100000
set_option maxHeartbeats 4000000
namespace Fy
open PySem PySem.Spec PyProof.Rows
open L2 (store_ok V Hp HO VK TE TT TA TS TI Cx Inv RelV Vals SqL SqT Rd upd qF qD PE PT PA PS PSs EP TP PI PG PIE Turn qJ Ends Un HOk frs thn)
section
variable {X:Cx} {N' xs:List Str} {scope:Scope} {pins:List (Addr × Obj)} {σ:L2.St} {H:Hp} {s:Shared} {tg elt iter:Expr} {g:L2.TG} {ifs:List Expr} {pos p:Pos} {wi:TI} {tt:Option TT} {te:TE} {Q:VK}
end
end Fy
set_option Elab.async false
set_option linter.all false
set_option maxRecDepth 100000
set_option maxHeartbeats 4000000
namespace Fy
open PySem PySem.Spec PyProof.Rows
open L2 (V Hp HO VK TE TT TA TS TI Cx Inv RelV Vals SqL SqT Rd upd qF qD PE PT PA PS PSs EP TP PI PG PIE Turn qJ Ends HOk frs thn)
noncomputable def wG (K:PySem.W.Frag) (ρ:List Addr) (H:Hp):It→L2.It→Prop
 | .row xs,J=>(∀ (i:Nat) ρ' H',Step ρ H ρ' H'→i<xs.length→J.go i H')∧(∀ (i:Nat) ρ' H' x H'',Step ρ H ρ' H'→i<xs.length→J.yld i H' x H''→H''=H'∧∃ d,xs[i]?=some d∧RepV K ρ' H' d x)∧∀ (i:Nat) ρ' H',Step ρ H ρ' H'→i=xs.length→J.stop i H'
 | .live k,J=>∃ a,ρ[k]?=some a∧J=L2.Itl K a
 | .pairs xs,J=>(∀ (i:Nat) ρ' H',Step ρ H ρ' H'→i<xs.length→J.go i H')∧(∀ (i:Nat) ρ' H' x H'',Step ρ H ρ' H'→i<xs.length→J.yld i H' x H''→∃ p u,H' p=none∧H''=upd H' p u∧∃ d,xs[i]?=some d∧RepV K ρ' H'' d x)∧∀ (i:Nat) ρ' H',Step ρ H ρ' H'→i=xs.length→J.stop i H'
noncomputable def tDI (K:PySem.W.Frag) (W:WX) (m:Env→M It):TI:=fun σ H R=>∃ ρ env h,RepS K ρ H env σ∧RepH K ρ h H∧Post K (W.at σ) (fun ρ' H' r=>∀ J,wG K ρ' H' r J→R J H') ρ H (m env h)
theorem PI.imp {X:Cx} {tg e:Expr} {t t':TI} (h:PI X tg e t) (i:∀ σ H R,t' σ H R→t σ H R):PI X tg e t':=fun pins s σ H R I q=>h pins s σ H R I (i σ H R q)
theorem iX {K:PySem.W.Frag} {ρ:List Addr} {H:Hp} (lo:Int) (n:Nat):wG K ρ H (.row (qR lo n)) (L2.Itr lo n):=by
 have hl:(qR lo n).length=n:=by unfold qR;simp
 refine ⟨fun i ρ' H' _ hi=>by rw [hl] at hi;exact hi,fun i ρ' H' x H'' _ hi y=>?_,fun i ρ' H' _ hi=>by rw [hl] at hi;exact Nat.le_of_eq hi.symm⟩
 obtain ⟨rfl,rfl⟩:=y
 rw [hl] at hi
 refine ⟨rfl,.int (lo+i),?_,rfl⟩
 unfold qR
 rw [List.getElem?_map,List.getElem?_range hi]
 rfl
theorem qCs {K:PySem.W.Frag} {ρ:List Addr} {H:Hp} (x:Tx):wG K ρ H (.row (x.map fun c=>D.str [c])) (Its ⟨x.toArray⟩):=by
 have hl:(x.map fun c=>D.str [c]).length=x.toArray.size:=by simp
 refine ⟨fun i ρ' H' _ hi=>by rw [hl] at hi;exact hi,fun i ρ' H' z H'' _ hi y=>?_,fun i ρ' H' _ hi=>by rw [hl] at hi;exact hi⟩
 obtain ⟨rfl,c,hc,rfl⟩:=y
 refine ⟨rfl,.str [c],?_,rfl⟩
 have hc:x.toArray[i]?=some c:=hc
 rw [List.getElem?_map]
 rw [List.getElem?_toArray] at hc
 rw [hc]
 rfl
theorem qCr {K:PySem.W.Frag} {ρ:List Addr} {H:Hp} {xs:List D} {vs:List V} {a:Addr} (ha:SqT K H a vs) (hx:RepL K ρ H xs vs):wG K ρ H (.row xs) (L2.Itt K a):=by
 have hl:=hx.length
 refine ⟨fun i ρ' H' e hi=>?_,fun i ρ' H' z H'' e hi y=>?_,fun i ρ' H' e hi=>⟨vs,e.sqt ha,by omega⟩⟩
 ·exact ⟨vs,vs[i]'(by omega),e.sqt ha,by simp [show i<vs.length by omega]⟩
 ·obtain ⟨rfl,y⟩:=y
  have q:xs[i]?=some xs[i]:=by simp [hi]
  obtain ⟨w,h1,h2⟩:=hx.get q
  have y':=y vs (e.sqt ha)
  rw [h1] at y'
  cases y'
  exact ⟨rfl,_,q,h2.mono e _ _⟩
section
variable {X:Cx} {F:Nat→List D→M D} {tg:Expr} {W:WX}
theorem qHi {e:Expr} {c:CE} (he:PE X e (tD X.K W (den F c))):PI X tg e (tDI X.K W (zE F (.of c))):=PI.imp (qDF he) fun σ H Rr t=>by
 obtain ⟨ρ,env,h,s,r,p⟩:=t
 rw [zE] at p
 refine ⟨ρ,env,h,s,r,Post.bind p fun ρ1 h1 d H1 e1 r1 q v hv=>?_⟩
 cases d with
 | str x=>cases hv;exact .inr (.inr ⟨_,rfl,Post.ret (a:=It.row (x.map fun c=>D.str [c])) q r1 _ (qCs x)⟩)
 | tup xs =>
  obtain ⟨a,vs,rfl,k1,k2⟩:=hv
  exact .inr (.inl ⟨a,rfl,⟨vs,k1⟩,Post.ret (a:=It.row xs) q r1 _ (qCr k1 k2)⟩)
 | ref i =>
  have q:Post X.K (W.at σ) _ ρ1 H1 (match getL h1 i with | some _=>R.ok (It.live i) h1 | none=>.bad):=q
  cases z:getL h1 i with
  | none=>rw [z] at q;exact False.elim q
  | some xs =>
   rw [z] at q
   obtain ⟨a,k1,rfl⟩:=hv
   obtain ⟨b,vs,k2,k3,_⟩:=r1.list z
   rw [k1] at k2
   cases k2
   exact .inl ⟨a,rfl,⟨vs,k3⟩,Post.ret (a:=It.live i) q r1 _ ⟨a,k1,rfl⟩⟩
 | _=>exact False.elim q
theorem qHh {a:Expr} {p1 p2:Pos} {c:CE} (hgl:L2.Gl X "range") (hm:X.mg "range"=none) (he:PE X a (tD X.K W (den F c))) (hst:starEach [a] X.env=[(false,eval a X.env)]) :
  PI X tg (.Call (.Name "range" p1) [a] [] p2) (tDI X.K W (zE F (.rng1 c))):=PI.imp (L2.pi_range1 hgl hm (L2.pa_cons he L2.pa_nil hst) hst) fun σ H R t=>by
 obtain ⟨ρ,env,h,s,r,p⟩:=t
 rw [zE] at p
 refine ⟨ρ,env,h,s,r,Post.bind p fun ρ1 h1 d H1 e1 r1 q v hv=>?_⟩
 cases d with
 | int j =>
  cases hv
  obtain ⟨z,q⟩:=Post.when q
  exact ⟨j,rfl,by have:=z.1;omega,by have:=z.2;omega,Post.ret q r1 _ (iX 0 j.toNat)⟩
 | _=>exact False.elim q
theorem qHg {a b:Expr} {p1 p2:Pos} {c c':CE} (hgl:L2.Gl X "range") (hm:X.mg "range"=none) (he:PE X a (tD X.K W (den F c))) (he':PE X b (tD X.K W (den F c'))) (hst:starEach [a,b] X.env=[(false,eval a X.env),(false,eval b X.env)]) (hst2:starEach [b] X.env=[(false,eval b X.env)]) :
  PI X tg (.Call (.Name "range" p1) [a,b] [] p2) (tDI X.K W (zE F (.rng2 c c'))):=PI.imp (L2.pi_range2 hgl hm (L2.pa_cons he (L2.pa_cons he' L2.pa_nil hst2) (by rw [hst,hst2])) hst hst2) fun σ H R t=>by
 obtain ⟨ρ,env,h,s,r,p⟩:=t
 rw [zE] at p
 refine ⟨ρ,env,h,s,r,Post.bind p fun ρ1 h1 d H1 e1 r1 q v hv=>?_⟩
 refine ⟨ρ1,env,h1,s.mono e1,r1,Post.bind q fun ρ2 h2 d2 H2 e2 r2 q2 w hw=>?_⟩
 have hv:=hv.mono e2 _ _
 cases d with
 | int i =>
  cases d2 with
  | int j =>
   cases hv
   cases hw
   obtain ⟨z,q⟩:=Post.when q2
   exact ⟨i,j,rfl,⟨by have:=z.1.1;omega,by have:=z.1.2;omega,by have:=z.2.1;omega,by have:=z.2.2;omega⟩,Post.ret q r2 _ (iX i _)⟩
  | _=>exact False.elim q2
 | _=>exact False.elim q2
end
noncomputable def del (H:Hp) (d:Addr):Hp:=fun b=>if b=d then none else H b
theorem kR {H:Hp} {d:Addr}:del H d d=none:=if_pos rfl
theorem kD {H:Hp} {d b:Addr} (h:b≠d):del H d b=H b:=if_neg h
theorem jS {H:Hp} {d:Addr} {o:HO}:del (upd H d o) d=del H d:=by
 funext b
 by_cases h:b=d
 ·rw [h,kR,kR]
 ·rw [kD h,kD h,qD h]
theorem aI {H:Hp} {d:Addr} {o:HO} (h:H d=some o):upd (del H d) d o=H:=by
 funext b
 by_cases hb:b=d
 ·rw [hb,qF,h]
 ·rw [qD hb,kD hb]
theorem wD {H:Hp} {d:Addr} (h:H d=none):del H d=H:=by
 funext b
 by_cases hb:b=d
 ·rw [hb,kR,h]
 ·rw [kD hb]
section
variable {K:PySem.W.Frag} {ρ:List Addr} {H:Hp} {d:Addr} {ys:List V}
theorem fY (hd:H d=some (.lst ys)) {a:Addr} {vs:List V} (h:SqT K H a vs):SqT K (del H d) a vs:=by
 rcases h with (h | ⟨o,h⟩) | h
 ·exact .inl (.inl (by rw [kD (by rintro rfl;rw [hd] at h;cases h)];exact h))
 ·exact .inl (.inr ⟨o,by rw [kD (by rintro rfl;rw [hd] at h;cases h)];exact h⟩)
 ·exact .inr h
mutual
theorem RepV.sq {H':Hp} (hs:∀ b us,SqT K H b us→SqT K H' b us):∀ (x:D) (v:V),RepV K ρ H x v→RepV K ρ H' x v
 | .non,_,h=>h
 | .bl _,_,h=>h
 | .int _,_,h=>h
 | .str _,_,h=>h
 | .tup xs,v,⟨a,vs,h1,h2,h3⟩=>⟨a,vs,h1,hs _ _ h2,RepL.sq hs xs vs h3⟩
 | .ref _,_,h=>h
theorem RepL.sq {H':Hp} (hs:∀ b us,SqT K H b us→SqT K H' b us):∀ (xs:List D) (vs:List V),RepL K ρ H xs vs→RepL K ρ H' xs vs
 | [],_,h=>h
 | x::xs,_,⟨v,r,h1,h2,h3⟩=>⟨v,r,h1,RepV.sq hs x v h2,RepL.sq hs xs r h3⟩
end
theorem RepF.sq {H':Hp} (hs:∀ b us,SqT K H b us→SqT K H' b us) {C:Addr}:∀ (xs:List (Nat × D)) (vs:List (Str × V)),RepF K ρ H C xs vs→RepF K ρ H' C xs vs
 | [],_,h=>h
 | x::xs,_,⟨v,r,h1,hb,hn,h2,h3⟩=>⟨v,r,h1,hb,hn,RepV.sq hs _ v h2,RepF.sq hs xs r h3⟩
theorem RepK.sq {H':Hp} (hs:∀ b us,SqT K H b us→SqT K H' b us):∀ (xs:List (Ky × D)) (vs:List (L2.Key × V)),RepK K ρ H xs vs→RepK K ρ H' xs vs
 | [],_,h=>h
 | x::xs,_,⟨v,r,h1,h2,h3⟩=>⟨v,r,h1,RepV.sq hs _ v h2,RepK.sq hs xs r h3⟩
theorem RepO.sq {H':Hp} (hs:∀ b us,SqT K H b us→SqT K H' b us) {o:O} {a:Addr} (na:H' a=H a) (h2:RepO K ρ H o a):RepO K ρ H' o a:=by
 cases o with
 | lst xs =>
  obtain ⟨vs,k1,k2⟩:=h2
  exact ⟨vs,by rw [na];exact k1,k2.sq hs _ _⟩
 | rol xs =>
  obtain ⟨vs,k1,k2⟩:=h2
  refine ⟨vs,?_,k2.sq hs _ _⟩
  rcases k1 with ⟨ob,k1⟩ | k1
  ·exact .inl ⟨ob,by rw [na];exact k1⟩
  ·exact .inr k1
 | ins c fs =>
  obtain ⟨C,dx,vs,k1,kc,k2,k3⟩:=h2
  exact ⟨C,dx,vs,k1,kc,by rw [na];exact k2,k3.sq hs _ _⟩
 | dct kvs =>
  obtain ⟨vs,k1,k2⟩:=h2
  exact ⟨vs,by rw [na];exact k1,k2.sq hs _ _⟩
 | xc c =>
  obtain ⟨C,k1,k2⟩:=h2
  exact ⟨C,k1,by rw [na];exact k2⟩
 | rod kvs =>
  obtain ⟨ob,vs,k1,k2⟩:=h2
  exact ⟨ob,vs,by rw [na];exact k1,k2.sq hs _ _⟩
theorem RepV.del (hd:H d=some (.lst ys)) (x:D) (v:V) (h:RepV K ρ H x v):RepV K ρ (del H d) x v:=RepV.sq (fun _ _=>fY hd) x v h
theorem RepH.del {h:AH} (r:RepH K ρ h H) (hd:H d=some (.lst ys)) (hn:d∉ρ):RepH K ρ h (del H d):=by
 refine ⟨r.len,fun i o hi=>?_,r.inj⟩
 obtain ⟨a,h1,h2⟩:=r.obj i o hi
 exact ⟨a,h1,h2.sq (fun _ _=>fY hd) (kD (by
  rintro rfl
  exact hn (List.mem_of_getElem? h1)))⟩
theorem RepH.not {h:AH} (r:RepH K ρ h H) (hd:H d=none) (hK:K.lookup d=none):d∉ρ:=fun z=>by
 obtain ⟨k,hk⟩:=List.getElem?_of_mem z
 have hlt:=(List.getElem?_eq_some_iff.mp hk).1
 obtain ⟨a,h2,h3⟩:=r.obj k _ (List.getElem?_eq_getElem (by rw [← r.len];exact hlt))
 rw [hk] at h2
 cases h2
 generalize h[k]'(by rw [← r.len];exact hlt)=o at h3
 cases o with
 | lst xs=>obtain ⟨vs,z1,_⟩:=h3;rw [hd] at z1;cases z1
 | rol xs =>
  obtain ⟨vs,z1,_⟩:=h3
  rcases z1 with ⟨ob,z1⟩ | ⟨ob,its,n,z1,_⟩
  ·rw [hd] at z1;cases z1
  ·rw [hK] at z1;cases z1
 | ins c fs=>obtain ⟨C,dx,vs,_,_,z1,_⟩:=h3;rw [hd] at z1;cases z1
 | dct kvs=>obtain ⟨vs,z1,_⟩:=h3;rw [hd] at z1;cases z1
 | xc c=>obtain ⟨C,_,z1⟩:=h3;rw [hd] at z1;cases z1
 | rod kvs=>obtain ⟨ob,vs,z1,_⟩:=h3;rw [hd] at z1;cases z1
theorem Step.del {ρ':List Addr} {H':Hp} (e:Step ρ H ρ' H') (hn:d∉ρ) (hd:H d=some (.lst ys)):Step ρ (del H d) ρ' (del H' d)∧d∉ρ'∧H' d=some (.lst ys):=by
 refine ⟨⟨e.pre,fun a ha=>?_,fun a o h c=>?_⟩,fun z=>?_,e.keep _ _ hd (.inr hn)⟩
 ·rcases e.new a ha with z | z
  ·exact .inl z
  ·refine .inr ?_
   by_cases q:a=d
   ·rw [q];exact kR
   ·rw [kD q];exact z
 ·have na:a≠d:=by
   rintro rfl
   rw [kR] at h
   cases h
  rw [kD na] at h ⊢
  exact e.keep a o h c
 ·rcases e.new d z with q | q
  ·exact hn q
  ·rw [hd] at q;cases q
end
theorem iW {α β:Type} (a:α) (f:α→M β):M.bind (M.ret a) f=f a:=rfl
theorem qEl (f:D→M (Option D)) (x:D) (r acc:List D):(M.bind (zB f (x::r)) fun qE=>newL (acc++qE))=M.bind (f x) fun y=>M.bind (zB f r) fun qE=>newL ((acc++y.toList)++qE):=by
 rw [zB,jU]
 congr 1
 funext y
 rw [jU]
 congr 1
 funext ys
 rw [iW]
 cases y <;> simp
section
variable {K:PySem.W.Frag} {F:Nat→List D→M D} {Q:VK} {w:W1} {W:WX}
structure Mid (K:PySem.W.Frag) (ρ1:List Addr) (H1:Hp) (d:Addr) (ρ:List Addr) (h:AH) (acc:List D) (ys:List V) (H:Hp):Prop where
 st:Step ρ1 H1 ρ (del H d)
 nd:d∉ρ
 at':H d=some (.lst ys)
 rh:RepH K ρ h (del H d)
 rl:RepL K ρ (del H d) acc ys
theorem Mid.up {ρ1 ρ:List Addr} {H1 H:Hp} {d:Addr} {h:AH} {acc:List D} {ys:List V} (G0:Mid K ρ1 H1 d ρ h acc ys H):Step ρ (del H d) ρ H:=by
 have:=Step.fresh (ρ:=ρ) (H:=del H d) (p:=d) (o:=.lst ys) kR
 rw [aI G0.at'] at this
 exact this
theorem Mid.rh' {ρ1 ρ:List Addr} {H1 H:Hp} {d:Addr} {h:AH} {acc:List D} {ys:List V} (G0:Mid K ρ1 H1 d ρ h acc ys H):RepH K ρ h H:=by
 have:=G0.rh.fresh (p:=d) (o:=.lst ys) kR
 rw [aI G0.at'] at this
 exact this
theorem Mid.go {ρ1 ρ ρ2:List Addr} {H1 H H2:Hp} {d:Addr} {h h2:AH} {acc:List D} {ys:List V} (G0:Mid K ρ1 H1 d ρ h acc ys H) (e:Step ρ H ρ2 H2) (r:RepH K ρ2 h2 H2):Step ρ (del H d) ρ2 (del H2 d)∧Mid K ρ1 H1 d ρ2 h2 acc ys H2:=by
 obtain ⟨e1,e2,e3⟩:=e.del G0.nd G0.at'
 exact ⟨e1,G0.st.trans e1,e2,e3,r.del e3 e2,G0.rl.mono e1 _ _⟩
theorem Mid.add {ρ1 ρ:List Addr} {H1 H:Hp} {d:Addr} {h:AH} {acc:List D} {ys:List V} {y:D} {v:V} (G0:Mid K ρ1 H1 d ρ h acc ys H) (hv:RepV K ρ H y v):Mid K ρ1 H1 d ρ h (acc++[y]) (ys++[v]) (upd H d (.lst (ys++[v]))):=by
 refine ⟨by rw [jS];exact G0.st,G0.nd,qF,by rw [jS];exact G0.rh,?_⟩
 rw [jS]
 exact G0.rl.append ⟨v,[],rfl,hv.del G0.at' _ _,rfl⟩
theorem pL {ρ1 ρ:List Addr} {H1 H:Hp} {d:Addr} {h:AH} {acc:List D} {ys:List V} {m:Env→M D} {qE:List D→M D} {env:Env} {σ:L2.St} {W:Hp→Prop} (G0:Mid K ρ1 H1 d ρ h acc ys H) (s:RepS K ρ H env σ) (hz:acc.length<16777216)
  (p:PostV K w Q ρ (del H d) (M.bind (m env).calm (fun y=>qE (acc++[y])) h))
  (hW:∀ ρ' h' acc' ys' H',Mid K ρ1 H1 d ρ' h' acc' ys' H'→acc'.length=acc.length+1→PostV K w Q ρ' (del H' d) (qE acc' h')→W H') :
  tD K WF m σ H fun v H3=>∃ ys,H3 d=some (.lst ys)∧ys.length<sizeLine∧W (upd H3 d (.lst (ys++[v]))):=by
 refine ⟨ρ,env,h,s,G0.rh',?_⟩
 unfold M.bind M.calm at p
 cases q:m env h with
 | ok y h2 =>
  rw [q] at p
  intro ρ2 H2 e2 r2 v hv
  obtain ⟨e3,M2⟩:=G0.go e2 r2
  refine ⟨ys,M2.at',by rw [G0.rl.length,zJ];exact hz,hW ρ2 h2 _ _ _ (M2.add hv) (by simp) ?_⟩
  rw [jS]
  exact Post.mono p e3
 | exc c h2=>rw [q] at p;exact False.elim p
 | bad=>rw [q] at p;exact p
noncomputable def yO (K:PySem.W.Frag) (f:Env→D→M (Option D)) (tt:Option TT) (te:TE):Prop :=
 ∀ (w:W1) (Q:VK) (ρ1 ρ:List Addr) (H1 H:Hp) (d:Addr) (h:AH) (acc:List D) (ys:List V) (qE:List D→M D) (env:Env) (σ:L2.St) (W:Hp→Prop) (x:D) (xv:V),Mid K ρ1 H1 d ρ h acc ys H→RepS K ρ H env σ→RepV K ρ H x xv→acc.length<16777216 →
  PostV K w Q ρ (del H d) (M.bind (f env x) (fun y=>qE (acc++y.toList)) h) →
  (∀ ρ' h' acc' ys' H',Mid K ρ1 H1 d ρ' h' acc' ys' H'→acc'.length≤acc.length+1→PostV K w Q ρ' (del H' d) (qE acc' h')→W H') →
  uI tt (σ++[some xv]) H fun b H2=>if b=true then te (σ++[some xv]) H2 fun v H3=>∃ ys,H3 d=some (.lst ys)∧ys.length<sizeLine∧W (upd H3 d (.lst (ys++[v]))) else W H2
theorem RepS.snoc {ρ:List Addr} {H:Hp} {env:Env} {σ:L2.St} {x:D} {xv:V} (s:RepS K ρ H env σ) (hx:RepV K ρ H x xv):RepS K ρ H (env++[some x]) (σ++[some xv]):=by
 refine ⟨by simp [s.1],fun i e hi=>?_⟩
 by_cases hlt:i<env.length
 ·rw [List.getElem?_append_left hlt] at hi
  rw [List.getElem?_append_left (by rw [← s.1];exact hlt)]
  exact s.2 i e hi
 ·rw [List.getElem?_append_right (Nat.le_of_not_lt hlt)] at hi
  rw [List.getElem?_append_right (by rw [← s.1];exact Nat.le_of_not_lt hlt),← s.1]
  cases q:i-env.length with
  | zero =>
   rw [q] at hi
   cases hi
   exact ⟨xv,rfl,hx⟩
  | succ n=>rw [q] at hi;simp at hi
theorem fA (m:Env→M D):yO K (fun env x=>jT m env x) none (tD K WF m):=by
 intro w Q ρ1 ρ H1 H d h acc ys qE env σ W x xv G0 s hx hz p hW
 refine L2.iteT (B:=W H) (pL (qE:=qE) G0 (s.snoc hx) hz ?_ fun ρ' h' acc' ys' H' M' hl p'=>hW ρ' h' acc' ys' H' M' (Nat.le_of_eq hl) p')
 have e:(M.bind (jT m env x) fun y=>qE (acc++y.toList))=M.bind (m (env++[some x])).calm fun y=>qE (acc++[y]):=by
  unfold jT
  rw [jU]
  rfl
 rw [e] at p
 exact p
theorem aK (m:Env→M D) (c:Env→M Bool):yO K (fun env x=>vH m c env x) (some (tDT K WF c)) (tD K WF m):=by
 intro w Q ρ1 ρ H1 H d h acc ys qE env σ W x xv G0 s hx hz p hW
 have p:PostV K w Q ρ (del H d) (M.bind (M.bind (c (env++[some x])).calm fun k=>if k then M.bind (m (env++[some x])).calm (fun y=>M.ret (some y)) else M.ret none) (fun y=>qE (acc++y.toList)) h):=p
 rw [jU] at p
 refine ⟨ρ,env++[some x],h,s.snoc hx,G0.rh',?_⟩
 unfold M.bind M.calm at p
 cases q:c (env++[some x]) h with
 | ok k h2 =>
  rw [q] at p
  intro ρ2 H2 e2 r2
  obtain ⟨e3,M2⟩:=G0.go e2 r2
  have p:=Post.mono p e3
  cases k with
  | true =>
   refine L2.iteT (pL (qE:=qE) M2 ((s.snoc hx).mono e2) hz ?_ fun ρ' h' acc' ys' H' M' hl p'=>hW ρ' h' acc' ys' H' M' (Nat.le_of_eq hl) p')
   have e:(M.bind (M.bind (m (env++[some x])).calm fun y=>M.ret (some y)) fun y=>qE (acc++y.toList))=M.bind (m (env++[some x])).calm fun y=>qE (acc++[y]):=by
    rw [jU]
    rfl
   have p':PostV K w Q ρ2 (del H2 d) (M.bind (M.bind (m (env++[some x])).calm fun y=>M.ret (some y)) (fun y=>qE (acc++y.toList)) h2):=p
   rw [e] at p'
   exact p'
  | false =>
   refine L2.iteF (hW ρ2 h2 acc ys H2 M2 (Nat.le_succ _) ?_)
   have p':PostV K w Q ρ2 (del H2 d) (qE (acc++[]) h2):=p
   rw [List.append_nil] at p'
   exact p'
 | exc _ h2=>rw [q] at p;exact False.elim p
 | bad=>rw [q] at p;exact p
theorem Mid.fin {ρ1 ρ':List Addr} {H1 H':Hp} {d:Addr} {h':AH} {acc:List D} {ys:List V} (G0:Mid K ρ1 H1 d ρ' h' acc ys H') (p:PostV K w Q ρ' (del H' d) (newL (acc++[]) h')):Q (.ref d) H':=by
 rw [List.append_nil] at p
 have q:=(PostV.newL p G0.rh G0.rl).2 d kR
 rw [aI G0.at'] at q
 exact q
theorem pY {f:Env→D→M (Option D)} {tt:Option TT} {te:TE} (ht:yO K f tt te) {σ:L2.St} {env:Env} {ρ1:List Addr} {h1:AH} {H1:Hp} {xs:List D} {J:L2.It} {d:Addr} (s1:RepS K ρ1 H1 env σ) (r1:RepH K ρ1 h1 H1) (hJ:wG K ρ1 H1 (.row xs) J) (hz:xs.length<16777216) (q:PostV K w Q ρ1 H1 (M.bind (zB (f env) xs) newL h1)) (hd:H1 d=none) (hK:K.lookup d=none) :
  ∃ W:Nat→Nat→Hp→Prop,(∃ m,W 0 m (upd H1 d (.lst [])))∧∀ i m H,W i m H →
   (J.stop i H∧Q (.ref d) H)∨(J.go i H∧∀ x H',J.yld i H x H'→uI tt (σ++[some x]) H' fun b H2=>if b=true then te (σ++[some x]) H2 fun y H3=>∃ ys,H3 d=some (.lst ys)∧ys.length<sizeLine∧∃ m',m'<m∧W (i+1) m' (upd H3 d (.lst (ys++[y]))) else ∃ m',m'<m∧W (i+1) m' H2):=by
 have M0:Mid K ρ1 H1 d ρ1 h1 [] [] (upd H1 d (.lst [])):=⟨by rw [jS,wD hd];exact Step.refl _ _,r1.not hd hK,qF,by rw [jS,wD hd];exact r1,rfl⟩
 obtain ⟨go,yl,sp⟩:=hJ
 have q:PostV K w Q ρ1 H1 (M.bind (zB (f env) xs) (fun qE=>newL ([]++qE)) h1):=q
 refine ⟨fun i m H'=>m=xs.length-i∧i≤xs.length∧∃ ρ' h' acc ys,Mid K ρ1 H1 d ρ' h' acc ys H'∧acc.length≤i∧PostV K w Q ρ' (del H' d) (M.bind (zB (f env) (xs.drop i)) (fun qE=>newL (acc++qE)) h'),⟨_,rfl,Nat.zero_le _,ρ1,h1,[],[],M0,Nat.le_refl _,by rw [jS,wD hd];exact q⟩,?_⟩
 rintro i m H' ⟨rfl,hi,ρ',h',acc,ys,G0,ha,p'⟩
 have up:Step ρ1 H1 ρ' H':=G0.st.trans G0.up
 by_cases hlt:i<xs.length
 ·refine .inr ⟨go i ρ' H' up hlt,fun x H'' y=>?_⟩
  obtain ⟨rfl,dx,hdx,hv⟩:=yl i ρ' H' x H'' up hlt y
  rw [List.drop_eq_getElem_cons hlt] at p'
  have ed:xs[i]=dx:=by
   rw [List.getElem?_eq_getElem hlt] at hdx
   exact Option.some.inj hdx
  rw [ed,qEl] at p'
  exact ht _ Q ρ1 ρ' H1 H'' d h' acc ys (fun a=>M.bind (zB (f env) (xs.drop (i+1))) fun qE=>newL (a++qE)) env σ (fun H3=>∃ m',m'<xs.length-i∧m'=xs.length-(i+1)∧i+1≤xs.length∧∃ ρ' h' acc ys,Mid K ρ1 H1 d ρ' h' acc ys H3∧acc.length≤i+1∧PostV K w Q ρ' (del H3 d) (M.bind (zB (f env) (xs.drop (i+1))) (fun qE=>newL (acc++qE)) h')) dx x G0 (s1.mono up) hv (by omega) p'
   fun ρ2 h2 acc2 ys2 H2 M2 hl2 p2=>⟨xs.length-(i+1),by omega,rfl,hlt,ρ2,h2,acc2,ys2,M2,by omega,p2⟩
 ·have e:i=xs.length:=by omega
  subst e
  rw [List.drop_length] at p'
  exact .inl ⟨sp _ ρ' H' up rfl,G0.fin p'⟩
theorem gO {f:Env→D→M (Option D)} {tt:Option TT} {te:TE} {mi:Env→M It} (ht:yO K f tt te) {σ:L2.St} {H:Hp} (t:tD K W (fun env=>M.bind (mi env) fun r=>M.bind (vD (f env) r) newL) σ H Q):wM K (tDI K W mi) tt te σ H Q:=by
 obtain ⟨ρ,env,h,s,r,p⟩:=t
 refine ⟨ρ,env,h,s,r,Post.bind p fun ρ1 h1 it H1 e1 r1 q J hJ d hd hK=>?_⟩
 have s1:=s.mono e1
 have nd:d∉ρ1:=r1.not hd hK
 cases it with
 | row xs =>
  have q:PostV K (W.at σ) Q ρ1 H1 (M.bind (M.when (xs.length<16777216) (zB (f env) xs)) newL h1):=q
  have hz:xs.length<16777216:=by
   unfold M.bind M.when at q
   by_cases z:xs.length<16777216
   ·exact z
   ·rw [if_neg z] at q;exact False.elim q
  have q:PostV K (W.at σ) Q ρ1 H1 (M.bind (zB (f env) xs) newL h1):=by
   unfold M.bind M.when at q
   rw [if_pos hz] at q
   exact q
  exact pY ht s1 r1 hJ hz q hd hK
 | pairs xs=>exact (show False from q).elim
 | live k =>
  obtain ⟨a,ha,rfl⟩:=hJ
  have M0:Mid K ρ1 H1 d ρ1 h1 [] [] (upd H1 d (.lst [])):=⟨by rw [jS,wD hd];exact Step.refl _ _,nd,qF,by rw [jS,wD hd];exact r1,rfl⟩
  have q:PostV K (W.at σ) Q ρ1 H1 (M.bind (M.when (zC h1 k<16777216) (zM (f env) k (zC h1 k) 0)) newL h1):=q
  have hz:zC h1 k<16777216:=by
   unfold M.bind M.when at q
   by_cases z:zC h1 k<16777216
   ·exact z
   ·rw [if_neg z] at q;exact False.elim q
  have q:PostV K (W.at σ) Q ρ1 H1 (M.bind (zM (f env) k (zC h1 k) 0) (fun qE=>newL ([]++qE)) h1):=by
   unfold M.bind M.when at q
   rw [if_pos hz] at q
   exact q
  generalize zC h1 k=n at hz q
  refine ⟨fun i m H'=>m+i=n∧∃ ρ' h' acc ys,Mid K ρ1 H1 d ρ' h' acc ys H'∧acc.length≤i∧PostV K (W.at σ) Q ρ' (del H' d) (M.bind (zM (f env) k m i) (fun qE=>newL (acc++qE)) h'),⟨n,rfl,ρ1,h1,[],[],M0,Nat.le_refl _,by rw [jS,wD hd];exact q⟩,?_⟩
  rintro i m H' ⟨hm,ρ',h',acc,ys,G0,hl,p'⟩
  have up:Step ρ1 H1 ρ' H':=G0.st.trans G0.up
  cases m with
  | zero=>exact False.elim p'
  | succ m =>
   have r':=G0.rh'
   cases qg:getL h' k with
   | none =>
    unfold M.bind zM at p'
    rw [qg] at p'
    exact False.elim p'
   | some xs =>
    obtain ⟨b,vs,h2,h3,h4⟩:=r'.list qg
    rw [jY up.pre ha] at h2
    cases h2
    cases qx:xs[i]? with
    | none =>
     refine .inl ⟨⟨vs,h3,?_⟩,Mid.fin (w:=W.at σ) G0 ?_⟩
     ·rw [h4.length]
      exact List.getElem?_eq_none_iff.mp qx
     ·unfold M.bind zM at p'
      simp only [qg,qx] at p'
      exact p'
    | some dx =>
     obtain ⟨w,hw,hv⟩:=h4.get qx
     refine .inr ⟨⟨vs,w,h3,hw⟩,fun x H'' y=>?_⟩
     obtain ⟨rfl,y⟩:=y
     have ew:=y vs h3
     rw [hw] at ew
     cases ew
     have e:M.bind (zM (f env) k (m+1) i) (fun qE=>newL (acc++qE)) h'=M.bind (f env dx) (fun y=>M.bind (zM (f env) k m (i+1)) fun qE=>newL ((acc++y.toList)++qE)) h':=by
      have e1:zM (f env) k (m+1) i h'=M.bind (f env dx) (fun y=>M.bind (zM (f env) k m (i+1)) fun ys=>M.ret (match y with | some y=>y::ys | none=>ys)) h':=by
       rw [zM]
       simp only [qg,qx] <;> rfl
      show R.bind (zM (f env) k (m+1) i h') _=_
      rw [e1]
      show M.bind (M.bind (f env dx) _) (fun qE=>newL (acc++qE)) h'=_
      rw [jU]
      congr 1
      funext y
      rw [jU]
      congr 1
      funext ys
      rw [iW]
      cases y <;> simp
     rw [e] at p'
     exact ht _ Q ρ1 ρ' H1 _ d h' acc ys (fun a=>M.bind (zM (f env) k m (i+1)) fun qE=>newL (a++qE)) env σ (fun H3=>∃ m',m'<m+1∧m'+(i+1)=n∧∃ ρ' h' acc ys,Mid K ρ1 H1 d ρ' h' acc ys H3∧acc.length≤i+1∧PostV K (W.at σ) Q ρ' (del H3 d) (M.bind (zM (f env) k m' (i+1)) (fun qE=>newL (acc++qE)) h')) dx _ G0 (s1.mono up) hv (by omega) p'
      fun ρ2 h2 acc2 ys2 H2 M2 hl2 p2=>⟨m,Nat.lt_succ_self _,by omega,ρ2,h2,acc2,ys2,M2,by omega,p2⟩
end
end Fy
set_option Elab.async false
set_option linter.all false
set_option maxRecDepth 100000
set_option maxHeartbeats 4000000
namespace Fy
open PySem PySem.Spec PyProof.Rows
open L2 (V Hp HO VK TE TT TA TS TI Cx Inv RelV Vals SqL SqT Rd upd qF qD PE PT PA PS PSs EP TP PI PG PIE Turn qJ Ends HOk frs thn)
section
variable {K:PySem.W.Frag} {W:WX} {Q:VK}
noncomputable def g2 (K:PySem.W.Frag) (n:Nat):L2.TG:=L2.gTup K 2 (L2.gCons (L2.gName n) (L2.gCons (L2.gName (n+1)) L2.gNil))
end
end Fy
set_option Elab.async false
set_option linter.all false
set_option maxRecDepth 100000
set_option maxHeartbeats 4000000
namespace L2
open PySem PySem.Spec PyProof.Rows
section
variable {X:Cx} {pins:List (Addr × Obj)} {σ:St} {H:Hp} {s:Shared} {h':Heap}
end
section
variable {X:Cx}
end
end L2
namespace Fy
open PySem PySem.Spec PySem.Calls PyProof.Rows
open L2 (V Hp HO VK XK TE TT TA TS TI Cx Inv RelV Vals SqL SqT Rd upd qF qD PE PT PA PS PSs EP TP SP PI PG PIE Turn qJ Ends HOk frs thn OpR CallR)
section
variable {F:Nat→List D→M D} {B:Nat} {W:WX}
end
end Fy
set_option Elab.async false
set_option linter.all false
set_option maxRecDepth 100000
set_option maxHeartbeats 4000000
namespace L2
open PySem PySem.Spec PyProof.Rows
section
variable {X:Cx} {pins:List (Addr × Obj)} {σ:St} {H:Hp} {s:Shared} {h':Heap}
end
section
variable {prog:Program} {w:World} {A:Around} {E:Value→Shared→Prop} {s:Shared} {z TI TO i1 i2:Addr} {n1 n2 k:Nat} {P1 P2:Nat→Value→Prop} {S1 S2:Nat→Heap→Prop} {va vb:Value}
end
end L2
set_option Elab.async false
set_option linter.all false
set_option maxRecDepth 100000
set_option maxHeartbeats 4000000
namespace L2
open PySem PySem.Spec PyProof.Rows
section
variable {prog:Program} {w:World} {A:Around} {E:Value→Shared→Prop} {s:Shared}
end
section
variable {X:Cx}
end
end L2
set_option Elab.async false
set_option linter.all false
set_option maxRecDepth 100000
set_option maxHeartbeats 4000000
namespace Fy
open PySem PySem.Spec PyProof.Rows
open L2 (V Hp HO VK TE TT TA TS TI Cx Inv RelV Vals SqL SqT Rd upd qF qD PE PT PA PS PSs EP TP PI PG PIE Turn qJ Ends HOk frs thn)
section
variable {X:Cx} {F:Nat→List D→M D} {W:WX}
end
end Fy
set_option Elab.async false
set_option linter.all false
set_option maxRecDepth 100000
set_option maxHeartbeats 4000000
namespace L2
open PySem PySem.Spec PyProof.Rows
noncomputable def Itd (a:Addr) (ob:Obj) (vs:List (Key × V)):It :=
 ⟨fun i H=>H a=some (.frz ob (.dK vs))∧i<vs.length,fun i H x H'=>H'=H∧∃ kv,vs[i]?=some kv∧x=kV kv.1,fun i H=>H a=some (.frz ob (.dK vs))∧vs.length≤i⟩
section
variable {X:Cx} {pins:List (Addr × Obj)} {σ:St} {H:Hp} {s:Shared}
theorem Inv.refit {a:Addr} {o o':HO} (I:Inv X pins σ H s) (ha:H a=some o) (no:∀ x,o≠.own x) (nt:∀ xs,o≠.tup xs) (nb:∀ ps,o≠.tbl ps) (nf:∀ ob u,X.H₀ a≠some (.frz ob u))
  (new:ObjOk X.prog X.w (upd H a o') s.heap a o'):Inv X pins σ (upd H a o') s:=by
 have nn:∀ b,H b=none→b≠a:=fun b z q=>by rw [q,ha] at z;cases z
 refine ⟨I.ok,I.os,I.bare,⟨I.base.keep,I.base.slot,fun b ob q n hx=>?_,I.base.there,fun b xs q=>?_,fun b ob u q=>?_,fun b ps q=>?_⟩,I.loc,I.cell,?_,fun x c e=>?_,fun p hpp=>?_,fun b u e=>?_,I.len⟩
 ·have z:=I.base.free b ob q n hx
  rw [qD (nn b z)]
  exact z
 ·have z:=I.base.tups b xs q
  rw [qD (fun w=>by rw [w,ha] at z;cases z;exact nt _ rfl)]
  exact z
 ·rw [qD (fun w=>by rw [w] at q;exact nf _ _ q)]
  exact I.base.frzs b ob u q
 ·obtain ⟨more,z⟩:=I.base.tbls b ps q
  exact ⟨more,by rw [qD (fun w=>by rw [w,ha] at z;cases z;exact nb _ rfl)];exact z⟩
 ·rw [qD (nn _ I.free)]
  exact I.free
 ·rw [qD (nn _ (I.freeC x c e))]
  exact I.freeC x c e
 ·obtain ⟨e,n,ne,nf',d⟩:=I.pin p hpp
  exact ⟨e,by rw [qD (nn _ n)];exact n,ne,nf',d⟩
 ·by_cases hb:b=a
  ·subst hb
   rw [qF] at e
   cases e
   exact new
  ·rw [qD hb] at e
   exact (I.hok b u e).stay (fun c v _ q=>q) (fun c q=>by rw [qD (fun w=>by rw [w,ha] at q;cases q;exact no _ rfl)];exact q) fun c xs q=>by rw [qD (fun w=>by rw [w,ha] at q;cases q;exact nt _ rfl)];exact q
theorem qHd {P:Program} {w:World} {h:Heap} {a:Addr} {ob:Obj} {vs:List (Key × V)} (H':Hp) (x:ObjOk P w H h a (.dK vs)) (e:h.get? a=some ob):ObjOk P w H' h a (.frz ob (.dK vs)):=⟨e,x⟩
theorem qHe {P:Program} {w:World} {h:Heap} {a:Addr} {vs:List (Key × V)} (H':Hp) (x:ObjOk P w H h a (.dK vs)):ObjOk P w H' h a (.dK vs):=x
theorem qFT {k:Key} {v:Value} (h:keyIs k v=true):RelV (kV k) v:=by
 rcases keyIs_shape h with ⟨i,t,rfl,rfl⟩ | ⟨x,t,rfl,rfl⟩
 ·exact ⟨t,rfl⟩
 ·exact ⟨t,rfl⟩
theorem oU {P:Program} {w:World} {h:Heap} {a:Addr} {ob:Obj} {vs:List (Key × V)} {ep:Nat} (hep:∃ es,ob.data=.dict es ep) (x:ObjOk P w H h a (.frz ob (.dK vs))):∃ ws,KV vs ws∧h.DictAt (mixKind P w) a ws ep:=by
 obtain ⟨e,_,_,ws,rel,o,es,ep',h1,h2,h3,h4⟩:=x
 obtain ⟨es',h5⟩:=hep
 rw [e] at h1
 cases h1
 rw [h3] at h5
 cases h5
 exact ⟨ws,rel,ob,es,e,h2,h3,h4⟩
theorem qAm {P:Program} {w:World} {K:PySem.W.Frag} {tg:Expr} (a it:Addr) (ob:Obj) (vs:List (Key × V)) (ep:Nat) (hep:∃ es,ob.data=.dict es ep):Turn P w K tg (Itd a ob vs) [it] it (fun i h=>h.IsKeyIter it a i vs.length ep) where
 mem:=by simp
 obj:=fun i h st b hb=>by
  have e:b=it:=by simpa using hb
  subst e
  obtain ⟨o,e,c,d⟩:=st
  exact ⟨o,e,fun v z=>by rw [d] at z;cases z⟩
 keep:=fun i h h' st k=>st.at fun o e=>k it (by simp) o e
 item:=by
  intro X hP hw hK hc i pins s σ H E I hf st hg
  subst hP hw hK
  obtain ⟨hH,hi⟩:=hg
  obtain ⟨ws,rel,dd⟩:=oU hep (I.hok a _ hH)
  have hl:=rel.length
  obtain ⟨f0,f1,f2,f3,f4,f5⟩:=hf it (by simp)
  obtain ⟨⟨k,x⟩,hx⟩:∃ p,ws[i]?=some p:=⟨ws[i]'(by omega),by simp⟩
  obtain ⟨⟨k',y⟩,hy⟩:∃ p,vs[i]?=some p:=⟨vs[i]'hi,by simp [hi]⟩
  have ek:k'=k:=by
   have z:=congrArg (fun l:List Key=>l[i]?) rel.keys
   simp only [List.getElem?_map,hx,hy,Option.map_some] at z
   exact Option.some.inj z
  subst ek
  refine wpAny_pyNext_dict_item (knd:=mixKind X.prog X.w) (by rw [hl] at st;exact st) dd hx fun key h' hkey st' sb=>?_
  rw [← hl] at st'
  have I1:Inv X pins σ H { s with heap:=h' }:=I.turned (t':=s.toks) (fun b o hb e=>(sb.2 b hb).trans e) f0 f1 f3 f4 f5
  obtain ⟨o,e,c,d⟩:=id st'
  exact ⟨key,rfl,go_of (s:={ s with heap:=h' }) e c d (by decide) ⟨kV k',H,I1,qFT hkey,⟨rfl,_,hy,rfl⟩,st',fun b hb=>(hf b hb).1⟩⟩
 done:=by
  intro X hP hw hK hc i pins s σ H E I hf st hg
  subst hP hw hK
  obtain ⟨hH,hi⟩:=hg
  obtain ⟨ws,rel,dd⟩:=oU hep (I.hok a _ hH)
  have hl:=rel.length
  obtain ⟨f0,f1,f2,f3,f4,f5⟩:=hf it (by simp)
  exact wpAny_pyNext_dict_end (knd:=mixKind X.prog X.w) (I.ok.hd hc) (by rw [hl] at st;exact st) dd (by simp;omega) fun h' eb=>⟨rfl,I.turned (t':=s.toks) (fun b o hb e=>eb b o hb e) f0 f1 f3 f4 f5⟩
 self:=fun _ _ _ _ _ st h=>wpAny_pyIter_keyiter st h
noncomputable abbrev Nfz (X:Cx) (a:Addr):Prop:=∀ o u,X.H₀ a≠some (.frz o u)
noncomputable def iDict (X:Cx) (tl:TE):TI:=fun σ H R=>tl σ H fun x H1=>∃ a vs,x=.ref a∧H1 a=some (.dK vs)∧∀ ob,Nfz X a→R (Itd a ob vs) (upd H1 a (.frz ob (.dK vs)))
theorem pi_dict {tg l:Expr} {tl:TE} (hl:PE X l tl):PI X tg l (iDict X tl):=by
 intro pins s σ H R I h
 refine thn (hl pins s σ H _ I h) fun v s1 ⟨x,H1,I1,r1,q1⟩=>?_
 obtain ⟨a,vs,e,hH,q⟩:=q1
 subst e
 cases r1
 have ok:=I1.hok a _ hH
 obtain ⟨z,hd,ws,rel,o,es,ep,h1,h2,h3,h4⟩:=id ok
 have nf:Nfz X a:=fun o u w=>by
  have:=I1.base.frzs a o u w
  rw [hH] at this
  cases this
 have dd:s1.heap.DictAt (mixKind X.prog X.w) a ws ep:=⟨o,es,h1,h2,h3,h4⟩
 refine wpAny_pyIter_dict hd dd ?_
 have I2:Inv X pins σ (upd H1 a (.frz o (.dK vs))) s1:=I1.refit hH (fun _ w=>nomatch w) (fun _ w=>nomatch w) (fun _ w=>nomatch w) nf (qHd _ ok h1)
 refine ⟨s1.heap.objs.size,[s1.heap.objs.size],_,_,_,rfl,I2.kept (t':=s1.toks) fun b o e=>Heap.get?_push_of_some _ e,qAm a _ o vs ep ⟨es,h3⟩,?_,fun b hb=>?_,q o nf⟩
 ·rw [rel.length]
  exact ⟨_,Heap.get?_push_size _ rfl,rfl,rfl⟩
 ·have e:=List.mem_singleton.mp hb
  subst e
  exact I2.fpOk (Nat.le_refl _) (I2.hok.fresh (Nat.le_refl _))
noncomputable def thawQ (X:Cx) (Q:VK):VK:=fun v H'=>∃ a ob vs,Nfz X a∧H' a=some (.frz ob (.dK vs))∧Q v (upd H' a (.dK vs))
theorem Inv.thaw {a:Addr} {ob:Obj} {vs:List (Key × V)} (I:Inv X pins σ H s) (nf:Nfz X a) (ha:H a=some (.frz ob (.dK vs))):Inv X pins σ (upd H a (.dK vs)) s :=
 I.refit ha (fun _ w=>nomatch w) (fun _ w=>nomatch w) (fun _ w=>nomatch w) nf (qHe _ (I.hok a _ ha).2)
theorem pe_thaw {e:Expr} {t:TE} (h:PE X e t):PE X e (fun σ H Q=>t σ H (thawQ X Q)):=fun pins s σ H Q I q=>thn (h pins s σ H _ I q) fun u s' ⟨v,H',I',rv,a,ob,vs,nf,ha,z⟩=>⟨v,_,I'.thaw nf ha,rv,z⟩
noncomputable def thawE (X:Cx) (E:Ends):Ends :=
 ⟨fun σ H'=>∃ a ob vs,Nfz X a∧H' a=some (.frz ob (.dK vs))∧E.nx σ (upd H' a (.dK vs)),fun v H'=>∃ a ob vs,Nfz X a∧H' a=some (.frz ob (.dK vs))∧E.rt v (upd H' a (.dK vs)),fun _ _=>False,fun _ _=>False⟩
theorem ps_thaw {st:Stmt} {t:TS} (h:PS X st t):PS X st (fun E σ H=>t (thawE X E) σ H):=fun pins s σ H E I q=>thn (h pins s σ H _ I q) fun f s' z=>by
 cases f with
 | next=>obtain ⟨σ',H',I',a,ob,vs,nf,ha,z⟩:=z;exact ⟨σ',_,I'.thaw nf ha,z⟩
 | ret u=>obtain ⟨v,σ',H',I',rv,a,ob,vs,nf,ha,z⟩:=z;exact ⟨v,σ',_,I'.thaw nf ha,rv,z⟩
 | brk=>obtain ⟨σ',H',I',z⟩:=z;exact False.elim z
 | cont=>obtain ⟨σ',H',I',z⟩:=z;exact False.elim z
end
end L2
namespace Fy
open PySem PySem.Spec PyProof.Rows
open L2 (V Hp HO VK XK TE TT TA TS TI Cx Inv RelV Vals SqL SqT Rd upd qF qD PE PT PA PS PSs EP TP SP PI PG PIE Turn qJ Ends HOk frs thn OpR CallR)
section
variable {K:PySem.W.Frag} {ρ ρ1:List Addr} {H H1:Hp} {a:Addr} {i:Nat} {ob:Obj} {vs:List (L2.Key × V)} {kvs:List (Ky × D)}
theorem iY (ha:H a=some (.frz ob (.dK vs))) (hk:RepK K ρ H kvs vs):wG K ρ H (.row (jJ kvs)) (L2.Itd a ob vs):=by
 have hl:(jJ kvs).length=vs.length:=by unfold jJ;rw [List.length_map];exact hk.length
 have key:∀ {kvs:List (Ky × D)} {vs:List (L2.Key × V)} {j:Nat} {kv:L2.Key × V},RepK K ρ H kvs vs→vs[j]?=some kv→∃ k:Ky,(jJ kvs)[j]?=some (kyD k)∧kv.1=kyV k:=by
  intro kvs
  induction kvs with
  | nil=>intro vs j kv h e;cases h;simp at e
  | cons x r ih =>
   intro vs j kv h e
   obtain ⟨v,r',rfl,h1,h2⟩:=h
   cases j with
   | zero=>simp at e;subst e;exact ⟨x.1,rfl,rfl⟩
   | succ j=>exact ih h2 (by simpa using e)
 refine ⟨fun j ρ' H' e hj=>⟨e.keep _ _ ha (.inl rfl),by omega⟩,fun j ρ' H' x H'' e hj y=>?_,fun j ρ' H' e hj=>⟨e.keep _ _ ha (.inl rfl),by omega⟩⟩
 obtain ⟨rfl,kv,h1,rfl⟩:=y
 obtain ⟨k,h2,h3⟩:=key hk h1
 refine ⟨rfl,_,h2,?_⟩
 rw [h3]
 cases k with
 | int j=>rfl
 | str y=>rfl
theorem RepH.freeze {h:AH} (r:RepH K ρ h H) (hi:h[i]?=some (.dct kvs)) (hr:ρ[i]?=some a) (ha:H a=some (.dK vs)) (hk:RepK K ρ H kvs vs):RepH K ρ (h.set i (.rod kvs)) (upd H a (.frz ob (.dK vs))) :=
 r.setO hi rfl rfl hr ha rfl ⟨ob,vs,qF,RepK.mono (Step.turn ha rfl (List.mem_of_getElem? hr)) _ _ hk⟩
theorem yW (ha:H a=some (.frz ob (.dK vs))) (b:Addr) (us:List V) (h:SqT K H b us):SqT K (upd H a (.dK vs)) b us:=by
 rcases h with (h | ⟨o,h⟩) | h
 ·exact .inl (.inl (by rw [qD (by rintro rfl;rw [ha] at h;cases h)];exact h))
 ·exact .inl (.inr ⟨o,by rw [qD (by rintro rfl;rw [ha] at h;cases h)];exact h⟩)
 ·exact .inr h
theorem RepH.thaw {h:AH} (r:RepH K ρ h H) (hi:h[i]?=some (.rod kvs)) (hr:ρ[i]?=some a) (ha:H a=some (.frz ob (.dK vs))):RepH K ρ (h.set i (.dct kvs)) (upd H a (.dK vs)):=by
 have sq:=yW (K:=K) ha
 have hil:=(List.getElem?_eq_some_iff.mp hi).1
 refine ⟨by simp [r.len],fun j o hj=>?_,fun j k b o1 o2 hj hk m1 m2 e1 e2=>?_⟩
 ·rw [List.getElem?_set] at hj
  by_cases z:i=j
  ·rw [if_pos z,if_pos (by omega)] at hj
   cases hj
   subst z
   obtain ⟨b,h1,ob',vs',h2,h3⟩:=r.obj i _ hi
   rw [hr] at h1
   cases h1
   rw [ha] at h2
   cases h2
   exact ⟨a,hr,vs,qF,h3.sq sq _ _⟩
  ·rw [if_neg z] at hj
   obtain ⟨b,h1,h2⟩:=r.obj j o hj
   by_cases hb:b=a
   ·subst hb
    cases hm:jD o with
    | true=>exact absurd (r.inj i j b _ _ hi hj rfl hm hr h1) z
    | false =>
     refine ⟨b,h1,?_⟩
     cases o with
     | rol xs =>
      obtain ⟨us,k1,k2⟩:=h2
      rcases k1 with ⟨o',k1⟩ | k1
      ·rw [ha] at k1;cases k1
      ·exact ⟨us,.inr k1,k2.sq sq _ _⟩
     | xc c=>obtain ⟨C,_,k1⟩:=h2;rw [ha] at k1;cases k1
     | _=>cases hm
   ·exact ⟨b,h1,h2.sq sq (qD hb)⟩
 ·have key:∀ (j:Nat) (z:O),jD z=true→(h.set i (.dct kvs))[j]?=some z→∃ z',h[j]?=some z'∧jD z'=true:=fun j z mz hj=>by
   rw [List.getElem?_set] at hj
   by_cases q:i=j
   ·subst q
    exact ⟨_,hi,rfl⟩
   ·rw [if_neg q] at hj
    exact ⟨_,hj,mz⟩
  obtain ⟨_,g1,n1⟩:=key j _ m1 hj
  obtain ⟨_,g2,n2⟩:=key k _ m2 hk
  exact r.inj j k b _ _ g1 g2 n1 n2 e1 e2
theorem aP {ρ':List Addr} {H':Hp} (hr:a∈ρ) (ha:H a=some (.dK vs)) (e:Step ρ (upd H a (.frz ob (.dK vs))) ρ' H'):Step ρ H ρ' (upd H' a (.dK vs)):=by
 refine ⟨e.pre,fun b hb=>?_,fun b o h c=>?_⟩
 ·rcases e.new b hb with z | z
  ·exact .inl z
  ·by_cases q:b=a
   ·rw [q,qF] at z;cases z
   ·rw [qD q] at z;exact .inr z
 ·by_cases q:b=a
  ·subst q
   rw [ha] at h
   cases h
   rw [qF]
  ·rw [qD q]
   exact e.keep b o (by rw [qD q];exact h) c
theorem qAx {X:Cx} {Q:VK} {w:W1} {r:R D} (nf:L2.Nfz X a) (hr:ρ[i]?=some a) (ha:H a=some (.dK vs)) (p:PostV K w Q ρ H (wL i r)):PostV K w (L2.thawQ X Q) ρ (upd H a (.frz ob (.dK vs))) r:=by
 cases r with
 | ok d h =>
  have p:PostV K w Q ρ H (match h[i]? with | some (.rod kvs)=>.ok d (h.set i (.dct kvs)) | _=>.bad):=p
  split at p
  ·rename_i kvs z
   intro ρ' H' e rh v hv
   have ha':H' a=some (.frz ob (.dK vs)):=e.keep _ _ qF (.inl rfl)
   have hr':=jY e.pre hr
   exact ⟨a,ob,vs,nf,ha',p ρ' _ (aP (List.mem_of_getElem? hr) ha e) (rh.thaw z hr' ha') v (hv.sq (yW ha') _ _)⟩
  ·exact False.elim p
 | exc c h=>exact False.elim p
 | bad=>exact False.elim p
theorem qAw {X:Cx} {E:Ends} {W:WX} {r:SR} (nf:L2.Nfz X a) (hr:ρ[i]?=some a) (ha:H a=some (.dK vs)) (p:PostS K W E ρ H (SR.thaw i r)):PostS K W (L2.thawE X E) ρ (upd H a (.frz ob (.dK vs))) r:=by
 have rs:∀ {ρ':List Addr} {H':Hp} {env:Env} {σ:L2.St},H' a=some (.frz ob (.dK vs))→RepS K ρ' H' env σ→RepS K ρ' (upd H' a (.dK vs)) env σ:=fun {ρ' H' env σ} ha' s=>⟨s.1,fun j d h=>let ⟨v,h1,h2⟩:=s.2 j d h;⟨v,h1,h2.sq (yW ha') _ _⟩⟩
 cases r with
 | nx env h =>
  have p:PostS K W E ρ H (match h[i]? with | some (.rod kvs)=>.nx env (h.set i (.dct kvs)) | _=>.bad):=p
  split at p
  ·rename_i kvs z
   intro ρ' H' st e rh s
   have ha':H' a=some (.frz ob (.dK vs)):=e.keep _ _ qF (.inl rfl)
   exact ⟨a,ob,vs,nf,ha',p ρ' _ st (aP (List.mem_of_getElem? hr) ha e) (rh.thaw z (jY e.pre hr) ha') (rs ha' s)⟩
  ·exact False.elim p
 | rt d h =>
  have p:PostS K W E ρ H (match h[i]? with | some (.rod kvs)=>.rt d (h.set i (.dct kvs)) | _=>.bad):=p
  split at p
  ·rename_i kvs z
   intro ρ' H' v e rh hv
   have ha':H' a=some (.frz ob (.dK vs)):=e.keep _ _ qF (.inl rfl)
   exact ⟨a,ob,vs,nf,ha',p ρ' _ v (aP (List.mem_of_getElem? hr) ha e) (rh.thaw z (jY e.pre hr) ha') (hv.sq (yW ha') _ _)⟩
  ·exact False.elim p
 | _=>exact False.elim p
end
section
variable {X:Cx} {F:Nat→List D→M D} {B:Nat} {W:WX}
theorem compD {e d:CE} {c:CT} {tt:Option TT} (ht:yO X.K (fun env x=>vH (den F e) (qH F c) env x) tt (tD X.K WF (den F e))) {σ:L2.St} {H:Hp} {Q:VK} (t:tD X.K W (den F (.compD e c d)) σ H Q):wM X.K (L2.iDict X (tD X.K W (den F d))) tt (tD X.K WF (den F e)) σ H (L2.thawQ X Q):=by
 obtain ⟨ρ,env,h,s,r,p⟩:=t
 rw [den] at p
 refine ⟨ρ,env,h,s,r,Post.bind p fun ρ1 h1 x H1 e1 r1 q v hv=>?_⟩
 cases x with
 | ref i =>
  have q:PostV X.K (W.at σ) Q ρ1 H1 (match h1[i]? with | some (.dct kvs)=>(if kvs.length<16777216 then wL i (M.bind (zB (vH (den F e) (qH F c) env) (jJ kvs)) newL (h1.set i (.rod kvs))) else .bad) | _=>.bad):=q
  split at q
  ·rename_i kvs z
   obtain ⟨hz,q⟩:=PostV.ite q
   obtain ⟨a,vs,rfl,hr,hH,hk⟩:=r1.dict z hv
   refine ⟨a,vs,rfl,hH,fun ob nf dd hd hK=>?_⟩
   have st:Step ρ1 H1 ρ1 (upd H1 a (.frz ob (.dK vs))):=Step.turn hH rfl (List.mem_of_getElem? hr)
   exact pY ht ((s.mono e1).mono st) (r1.freeze z hr hH hk) (iY qF (hk.mono st _ _)) (by unfold jJ;rw [List.length_map];exact hz) (qAx nf hr hH q) hd hK
  ·exact False.elim q
 | _=>exact False.elim q
theorem rM {α:Type} {K:PySem.W.Frag} {w:W1} {rep:List Addr→Hp→α→Prop} {ρ:List Addr} {H:Hp} {r:R α} (p:Post K w rep ρ H r.calm) (w':W1):Post K w' rep ρ H r:=by
 cases r with
 | ok a h=>exact p
 | exc _ _=>exact False.elim p
 | bad=>exact p
theorem qCf {i:Nat} {g:L2.TG} {tg iter:Expr} {ce:CE} {body:List Stmt} {cb:CS} {pos:Pos} (ht:kY X.K (.nm i) g) (hc:X.calm=true) (he:PE X.nox iter (tD X.K WF (den F ce))) (hg:PG X.nox tg g) (hb:PSs X.nox body (tDS X.K WF (qA F B cb)))
  (hs:∀ x,foldedSetIterable iter X.env x=pure x):PS X (.For tg iter body [] pos) (tDS X.K W (qA F B (.forD i ce cb))):=PS.imp (PS.nox (L2.ps_thaw (X:=X.nox) (L2.ps_for PassesOwn.never hc (L2.pi_dict he) hg hb hs))) fun E σ H q=>by
 obtain ⟨ρ,env,h,s,r,p⟩:=q
 rw [qA] at p
 refine ⟨ρ,env,h,s,r,rM (PostS.ofR s p fun ρ1 h1 x H1 e1 r1 q v hv=>?_) _⟩
 cases x with
 | ref k =>
  have q:PostS X.K W E ρ1 H1 (match h1[k]? with | some (.dct kvs)=>(zO (qP (.nm i) (qA F B cb)) (jJ kvs) env (h1.set k (.rod kvs))).thaw k | _=>.bad):=q
  split at q
  ·rename_i kvs z
   obtain ⟨a,vs,rfl,hr,hH,hk⟩:=r1.dict z hv
   refine ⟨a,vs,rfl,hH,fun ob nf=>?_⟩
   have st:Step ρ1 H1 ρ1 (upd H1 a (.frz ob (.dK vs))):=Step.turn hH rfl (List.mem_of_getElem? hr)
   obtain ⟨go,yl,sp⟩:=iY (K:=X.K) (ρ:=ρ1) (a:=a) (ob:=ob) (H:=upd H1 a (.frz ob (.dK vs))) qF (hk.mono st _ _)
   exact mU ht ((s.mono e1).mono st) (r1.freeze z hr hH hk) go yl sp (qAw (X:=X.nox) nf hr hH q)
  ·exact False.elim q
 | _=>exact False.elim q
end
end Fy
set_option Elab.async false
set_option linter.all false
set_option maxRecDepth 100000
set_option maxHeartbeats 4000000
namespace Fy
open PySem PySem.Spec PyProof.Rows
open L2 (V Hp HO VK XK TE TT TA TS TI Cx Inv RelV Vals SqL SqT Rd upd qF qD PE PT PA PS PSs EP TP PI PG PIE Turn qJ Ends HOk frs thn)
noncomputable def CXD (P:Program) (w:World) (ex:Nat→Option Addr):L2.CXT:=fun outer H s E e s' =>
 ∃ (a C:Addr) (c:Nat) (B:Heap) (a0:Value) (H':Hp),e=.ref a∧ex c=some C∧Heap.FlyingW B outer a (.ref C) a0 s'.heap∧HOk P w H' B ∧
  (∀ b o,s.heap.get? b=some o→b∉frs outer→∃ o',B.get? b=some o')∧L2.Un (frs outer) [] H H' s.heap s'.heap∧s'.os=s.os∧AllBare s'.gens∧E e (some c) H'
theorem CXD.imp {P:Program} {w:World} {ex:Nat→Option Addr} {outer:List PySem.Env} {H:Hp} {s s':Shared} {E E':XK} {e:Value} (x:CXD P w ex outer H s E e s') (h:∀ e c H',E e c H'→E' e c H'):CXD P w ex outer H s E' e s':=by
 obtain ⟨a,C,c,B,a0,H',h1,h2,h3,h4,h5,h6,h7,h8,h9⟩:=x
 exact ⟨a,C,c,B,a0,H',h1,h2,h3,h4,h5,h6,h7,h8,h _ _ _ h9⟩
section
variable {fs:List Addr} {H H':Hp} {h0 h1 h' B:Heap} {l:List PySem.Env}
theorem aJ (u:L2.Un (frs l) [] H H' h0 h1) (hB:B.StaysIn h1) (cov:∀ b o,h0.get? b=some o→b∉frs l→∃ o',B.get? b=some o') (fr:h1.FunFrames B l) (hB':B.StaysIn h') (up:h1.UpToSlots h'):L2.Un (frs l) [] H H' h0 h' where
 keep:=fun b o e n hb hx=>by
  obtain ⟨o',e'⟩:=cov b o e hb
  have k1:=u.keep b o e n hb hx
  have k2:=hB b o' e'
  rw [k1] at k2
  cases k2
  exact hB' b o e'
 slot:=fun b o e n hb hx=>by
  obtain ⟨sl,k1⟩:=u.slot b o e n hb hx
  obtain ⟨_,o2,k2,k3⟩:=fr.mem hb
  rw [k1] at k2
  cases k2
  obtain ⟨sl',k4⟩:=up b _ k1 k3
  exact ⟨sl',k4⟩
 free:=u.free
 there:=fun b o e hx=>by
  by_cases hb:b∈frs l
  ·obtain ⟨_,o2,k2,k3⟩:=fr.mem hb
   obtain ⟨sl',k4⟩:=up b _ k2 k3
   exact ⟨_,k4⟩
  ·obtain ⟨o',e'⟩:=cov b o e hb
   exact ⟨o',hB' b o' e'⟩
 tups:=u.tups
 frzs:=u.frzs
 tbls:=u.tbls
theorem qAC {fs':List Addr} (u:L2.Un fs' [] H H' h0 h') (hs:∀ b∈fs',b∉fs→h0.get? b=none):L2.Un fs [] H H' h0 h' where
 keep:=fun b o e n hb hx=>u.keep b o e n (fun z=>by rw [hs b z hb] at e;cases e) hx
 slot:=fun b o e n hb hx=>u.any e n hx
 free:=u.free
 there:=u.there
 tups:=u.tups
 frzs:=u.frzs
 tbls:=u.tbls
end
theorem funFrames_hide' {base h:Heap} {as:List Addr} {l:List PySem.Env} (x:h.FunFrames base l) (ha:∀ b∈frs l,b∈as):h.FunFrames (PySem.W.hideAll h as) l :=
 PySem.W.funFrames_hide x fun env he a ha'=>ha a (List.mem_filterMap.mpr ⟨env,he,ha'⟩)
section
variable {X:Cx} {pins:List (Addr × Obj)} {σ:L2.St} {H:Hp} {s s':Shared} {ex:Nat→Option Addr}
theorem uF {k:Nat} {f:Addr} {fd:FuncData} {ps:List Str} {sp:L2.Sp} {E:XK} {Q:VK} {us:List Value} {vs:List V} (F:L2.FnOk X.prog X.w X.K X.mg X.base (CXD X.prog X.w ex) k f fd ps sp) (hr:L2.Room k X.A) (hb:L2.Binds X.K fd ps [])
  (hx:∀ e s',CXD X.prog X.w ex X.stack H s E e s'→X.xe e s') (I:Inv X pins σ H s) (r:Vals vs us) (h:sp vs H Q E):wpAny (model X.prog X.w) X.A (call (.ref f) us) (EP X pins σ Q) X.xe s:=by
 have hl:us.length=ps.length:=by rw [← r.length];exact F.len _ _ _ _ h
 have hb':=hb s us I.kIn (by rw [List.append_nil];exact hl)
 rw [List.append_nil] at hb'
 refine wpAny_call (codeAny_mono (F.run X.A X.stack s H ⟨us,[]⟩ us vs Q E hr I.env0 hb' r h) fun r s' hq=>?_)
 cases r with
 | error e=>exact hx e s' hq
 | ok fl =>
  cases fl with
  | ret u=>exact I.after hq
  | next=>exact False.elim hq
  | brk=>exact False.elim hq
  | cont=>exact False.elim hq
end
section
variable {P:Program} {w:World} {K:PySem.W.Frag} {mg:Str→Option Value} {base:Heap} {N:List Str} {qual:Str} {scope:Scope} {f:Addr} {cd:Value} {A:Around} {outer:List PySem.Env} {s0:Shared} {H0:Hp} {E:XK} {ex:Nat→Option Addr}
variable {pins:List (Addr × Obj)} {σ:L2.St} {H:Hp} {s s':Shared}
noncomputable abbrev cxX (ex:Nat→Option Addr) (P:Program) (w:World) (K:PySem.W.Frag) (mg:Str→Option Value) (base:Heap) (N:List Str) (qual:Str) (scope:Scope) (f:Addr) (cd:Value) (A:Around) (outer:List PySem.Env) (s0:Shared) (H0:Hp) (E:XK):Cx:=L2.cxOf (CXD P w ex) P w K mg base N qual scope f cd A outer s0 H0 E
theorem lM {h':Heap} {H':Hp} (I:Inv (cxX ex P w K mg base N qual scope f cd A outer s0 H0 E) pins σ H s) (u:L2.Un (frs (cxX ex P w K mg base N qual scope f cd A outer s0 H0 E).stack) [] H H' s.heap h'):L2.Un (frs outer) [] H0 H' s0.heap h':=by
 have b1:L2.Un (frs outer) [] H0 H s0.heap s.heap:=I.base
 have b2:=b1.mono (fs':=frs (cxX ex P w K mg base N qual scope f cd A outer s0 H0 E).stack) (ex':=[]) (fun b hb=>by
  show b∈frs (envOfC qual scope s0.heap.objs.size f cd::outer)
  exact List.mem_cons_of_mem _ hb) fun _ z=>z
 refine qAC (b2.trans u) fun b hb hn=>?_
 rcases List.mem_cons.mp (show b∈s0.heap.objs.size::frs outer from hb) with rfl | z
 ·cases q:s0.heap.get? s0.heap.objs.size with
  | none=>rfl
  | some o=>exact absurd (Heap.lt_size q) (Nat.lt_irrefl _)
 ·exact absurd z hn
theorem lN {B:Heap} (I:Inv (cxX ex P w K mg base N qual scope f cd A outer s0 H0 E) pins σ H s) (cov:∀ b o,s.heap.get? b=some o→b∉frs (cxX ex P w K mg base N qual scope f cd A outer s0 H0 E).stack→∃ o',B.get? b=some o') :
  ∀ b o,s0.heap.get? b=some o→b∉frs outer→∃ o',B.get? b=some o':=fun b o e hb=>by
 have b1:L2.Un (frs outer) [] H0 H s0.heap s.heap:=I.base
 obtain ⟨o1,e1⟩:=b1.there b o e (by simp)
 refine cov b o1 e1 fun z=>?_
 rcases List.mem_cons.mp (show b∈s0.heap.objs.size::frs outer from z) with rfl | z
 ·exact absurd (Heap.lt_size e) (Nat.lt_irrefl _)
 ·exact hb z
theorem qFG {W:WX} {e:Value} (hW:∀ c σ H,W c σ H→∀ e,E e (some c) H) (I:Inv (cxX ex P w K mg base N qual scope f cd A outer s0 H0 E) pins σ H s)
  (x:CXD P w ex (cxX ex P w K mg base N qual scope f cd A outer s0 H0 E).stack H s (fun _ co H'=>∃ c,co=some c∧W c σ H') e s'):(cxX ex P w K mg base N qual scope f cd A outer s0 H0 E).xe e s':=by
 obtain ⟨a,C,c,B,a0,H',rfl,h2,h3,h4,h5,h6,h7,h8,c',e',h9⟩:=x
 cases e'
 have fr:=I.ok.frames
 refine wpAny_leaves_onW (env:=envOfC qual scope s0.heap.objs.size f cd) (outer:=outer) fr rfl h3 fun h' hfl up=>?_
 have un:=aJ h6 h3.1 h5 h3.2.2.1 hfl.1 up
 refine ⟨a,C,c,B,a0,H',rfl,h2,hfl,h4,lN I h5,lM I un,?_,h8,hW c σ H' h9 _⟩
 rw [show ({ s' with heap:=h' }:Shared).os=s'.os from rfl,h7]
 exact I.os
theorem qFF {W:WX} {a C:Addr} {c:Nat} {args:List Value} {h1:Heap} (hW:∀ c σ H,W c σ H→∀ e,E e (some c) H) (I:Inv (cxX ex P w K mg base N qual scope f cd A outer s0 H0 E) pins σ H s) (hc:ex c=some C)
  (m:Heap.MadeExcOf s.heap h1 a (.ref C) args) (hw:W c σ H):(cxX ex P w K mg base N qual scope f cd A outer s0 H0 E).xe (.ref a) { s with heap:=h1 }:=by
 have fr:=I.ok.frames
 have ff:=I.stack
 have hB:(PySem.W.hideAll s.heap (frs (cxX ex P w K mg base N qual scope f cd A outer s0 H0 E).stack)).StaysIn s.heap:=fun b o e=>PySem.W.of_hideAll _ e
 have hcov:∀ b o,s.heap.get? b=some o→b∉frs (cxX ex P w K mg base N qual scope f cd A outer s0 H0 E).stack→∃ o',(PySem.W.hideAll s.heap (frs (cxX ex P w K mg base N qual scope f cd A outer s0 H0 E).stack)).get? b=some o':=fun b o e hb=>⟨o,PySem.W.hideAll_get _ e hb⟩
 have hok:HOk P w H (PySem.W.hideAll s.heap (frs (cxX ex P w K mg base N qual scope f cd A outer s0 H0 E).stack)):=fun b u e=>by
  refine (show L2.ObjOk P w H s.heap b u from I.hok b u e).stay (fun c v hc q=>PySem.W.hideAll_get _ q fun z=>?_) (fun _ q=>q) fun _ _ q=>q
  have n:=I.stkFree c z
  rcases hc with rfl | hc
  ·rw [e] at n;cases n
  ·rw [hc] at n;cases n
 refine wpAny_leaves_madeW (env:=envOfC qual scope s0.heap.objs.size f cd) (outer:=outer) fr rfl hB (funFrames_hide' ff fun _ z=>z) m fun h' t hfl _ _ up=>?_
 have up':s.heap.UpToSlots h':=(Heap.UpToSlots.of_keeps m.keeps).trans up
 have un:=aJ (L2.Un.refl (fs:=frs (cxX ex P w K mg base N qual scope f cd A outer s0 H0 E).stack) (ex:=[]) (H:=H) (h:=s.heap)) hB hcov (funFrames_hide' ff fun _ z=>z) hfl.1 up'
 exact ⟨a,C,c,_,_,H,rfl,hc,hfl,hok,lN I hcov,lM I un,I.os,I.bare,hW c σ H hw _⟩
end
end Fy
set_option Elab.async false
set_option linter.all false
set_option maxRecDepth 100000
set_option maxHeartbeats 4000000
namespace Fy
open PySem PySem.Spec PyProof.Rows
open L2 (V Hp HO VK XK TE TT TA TS TI Cx Inv RelV Vals SqL SqT Rd upd qF qD PE PT PA PS PSs EP TP PI PG PIE Turn qJ Ends HOk frs thn)
noncomputable def vE (K:PySem.W.Frag) (C:Addr):Bool:=PySem.W.excIn K C [.type "ValueError",.type "Exception",.type "BaseException",.type "object"] "ValueError.__new__"
theorem tR {K:PySem.W.Frag} {h:Heap} {C:Addr} (X:K.In h) (q:vE K C=true):∃ nm qn N bs bm hdct sn sub ab col dd k0 k1 k2 k3 k5 mN,h.get? C=some (excClassObj nm qn C N bs bm hdct sn sub ab col dd k0 k1 k2 k3 k5 "ValueError.__new__")∧h.Ns N mN∧mN "__init__"=none ∧
  OwnTail h [.type "ValueError",.type "Exception",.type "BaseException",.type "object"] bm:=by
 unfold vE PySem.W.excIn at q
 cases hl:K.lookup C with
 | none=>rw [hl] at q;cases q
 | some ob =>
  rw [hl] at q
  have at':=X C ob hl
  split at q
  ·rename_i dx cx sx eqo
   cases eqo
   split at q
   ·rename_i Cx' tl w0 w1 w2 w3 nn w5 emro eslots
    simp only [Bool.and_eq_true,beq_iff_eq,Bool.not_eq_true'] at q
    obtain ⟨⟨⟨⟨⟨q1,q2⟩,q3⟩,q4⟩,q5⟩,q6⟩:=q
    obtain ⟨xa,xb,xc,xd,xe,xf,xg,xh,xi,xj,xk⟩:=cx
    simp only at emro q3 q5 q6
    subst q1 q2 emro q3
    have es:sx=#[w0,w1,w2,w3,some (.builtin "ValueError.__new__"),w5]:=by
     cases sx with
     | mk l=>exact congrArg Array.mk eslots
    subst es
    exact ⟨xa,xe,xd,xb,tl,xf,xg,xh,xi,xj,dx,w0,w1,w2,w3,w5,_,at',.of_isNs (PySem.W.isNs_of_in X q5),PySem.W.nsMap_none_of_in X q5 q6,PySem.W.tail_of_in X q4⟩
   ·cases q
  ·cases q
section
variable {X:Cx} {F:Nat→List D→M D} {B:Nat} {W:WX} {ex:Nat→Option Addr}
theorem qCZ {x:Str} {C:Addr} {c:Nat} {msg:Str} {j:Nat} {np mp cpos pos:Pos} (hc:X.calm=true) (hg:L2.Gl X x) (hdb:(x == ("__debug__":Str))=false) (hm:X.mg x=some (.ref C)) (hK:vE X.K C=true)
  (hx:∀ pins σ H s a args h',Inv X pins σ H s→Heap.MadeExcOf s.heap h' a (.ref C) args→W c σ H→X.xe (.ref a) { s with heap:=h' }) :
  PS X (.Raise (some (.Call (.Name x np) [.Constant (.str msg) j mp] [] cpos)) none pos) (tDS X.K W (qA F B (.raise c))):=by
 intro pins s σ H E I t
 obtain ⟨ρ,env,h,st,r,p⟩:=t
 have hw:W c σ H:=p ρ H σ (Step.refl _ _) r st
 obtain ⟨nm,qn,N,bs,bm,hdct,sn,sub,ab,col,dd,k0,k1,k2,k3,k5,mN,hC,hN,hni,T⟩:=tR I.ok.mod.kin hK
 refine wpAny_Raise_call_subU (C:=C) (nm:=nm) (q:=qn) (N:=N) (bs:=bs) (bm:=bm) (hdct:=hdct) (sn:=sn) (sub:=sub) (ab:=ab) (col:=col) (dd:=dd) (k0:=k0) (k1:=k1) (k2:=k2) (k3:=k3) (k5:=k5) PySem.F.excBase_ValueError (by decide) PySem.F.excBase_ValueError (mN:=mN) (T.hasType PySem.F.excBase_ValueError.hasBase) (I.ok.hd hc) rfl hni
  (L2.ld_glob I hg hm ⟨rfl,?_⟩ hdb)
 refine Calls.evalArgs_plain ?_
 have pa:PA X [.Constant (.str msg) j mp] (L2.tCons (L2.tC (.str msg)) L2.tNil):=L2.pa_cons L2.pe_str L2.pa_nil
 refine thn (pa cpos pins s σ H (fun vs H'=>vs.length≤1∧H'=H) I ⟨Nat.le_refl _,rfl⟩) fun us s2 ⟨vs,H2,I2,rv,hl,e2⟩=>?_
 subst e2
 exact ⟨rfl,by rw [← rv.length];exact Nat.le_trans hl (by decide),I2.bk _ _ hC,hN.keeps I2.bk,T.keeps I2.bk,fun h' e m=>hx pins σ H2 s2 e us h' I2 m hw⟩
end
end Fy
set_option Elab.async false
set_option linter.all false
set_option maxRecDepth 100000
set_option maxHeartbeats 4000000
namespace Fy
open PySem PySem.Spec PyProof.Rows
open L2 (V Hp HO VK XK TE TT TA TS TI Cx Inv RelV Vals SqL SqT Rd upd qF qD PE PT PA PS PSs EP TP SP PI PG PIE Turn qJ Ends HOk frs thn)
noncomputable abbrev hold (X:Cx) (pins:List (Addr × Obj)) (E:Value→Shared→Prop):Cx:={ X with pn:=X.pn++pins,xe:=E }
noncomputable abbrev mark (X:Cx) (e:Value):Cx:={ X with A:=X.A.mark (some e),calm:=false,xe:=fun _ _=>False }
section
variable {X:Cx} {pins pins':List (Addr × Obj)} {σ:L2.St} {H:Hp} {s:Shared} {E:Value→Shared→Prop}
theorem lT (ok:X.Ok):(hold X pins E).Ok:=⟨ok.mod,ok.kind,ok.glob,ok.blt,ok.above,ok.inj,ok.has,ok.cab,ok.hd,ok.frames,ok.stk,ok.exf,ok.bs,ok.bsz,ok.noex,ok.exfs,ok.funs,ok.frf⟩
theorem lR (ok:(hold X pins E).Ok):X.Ok:=⟨ok.mod,ok.kind,ok.glob,ok.blt,ok.above,ok.inj,ok.has,ok.cab,ok.hd,ok.frames,ok.stk,ok.exf,ok.bs,ok.bsz,ok.noex,ok.exfs,ok.funs,ok.frf⟩
theorem qDV {e:Value} (ok:X.Ok):(mark X e).Ok:=⟨ok.mod,ok.kind,ok.glob,ok.blt,ok.above,ok.inj,ok.has,ok.cab,(fun z=>by cases z),ok.frames,ok.stk,ok.exf,ok.bs,ok.bsz,ok.noex,ok.exfs,ok.funs,ok.frf⟩
theorem Inv.hold (I:Inv X pins σ H s) (E:Value→Shared→Prop):Inv (hold X pins E) [] σ H s:=⟨lT I.ok,I.os,I.bare,I.base,I.loc,I.cell,I.free,I.freeC,fun p hp=>I.pin p (by simpa using hp),I.hok,I.len⟩
theorem Inv.unhold (I:Inv (Fy.hold X pins E) pins' σ H s):Inv X pins σ H s:=⟨lR I.ok,I.os,I.bare,I.base,I.loc,I.cell,I.free,I.freeC,fun p hp=>I.pin p (List.mem_append_left _ hp),I.hok,I.len⟩
theorem Inv.mark {e:Value} (I:Inv X pins σ H s):Inv (mark X e) pins σ H s:=⟨qDV I.ok,I.os,I.bare,I.base,I.loc,I.cell,I.free,I.freeC,I.pin,I.hok,I.len⟩
theorem Inv.unmark {e:Value} (I:Inv (Fy.mark X e) pins σ H s) (ok:X.Ok):Inv X pins σ H s:=⟨ok,I.os,I.bare,I.base,I.loc,I.cell,I.free,I.freeC,I.pin,I.hok,I.len⟩
theorem SP.unhold {D:Ends} {f:Flow} {s':Shared} (h:SP (Fy.hold X pins E) pins' D f s'):SP X pins D f s':=by
 cases f with
 | next=>obtain ⟨σ',H',I,q⟩:=h;exact ⟨σ',H',Inv.unhold I,q⟩
 | brk=>obtain ⟨σ',H',I,q⟩:=h;exact ⟨σ',H',Inv.unhold I,q⟩
 | cont=>obtain ⟨σ',H',I,q⟩:=h;exact ⟨σ',H',Inv.unhold I,q⟩
 | ret u=>obtain ⟨v,σ',H',I,r,q⟩:=h;exact ⟨v,σ',H',Inv.unhold I,r,q⟩
theorem SP.unmark {e:Value} {D:Ends} {f:Flow} {s':Shared} (h:SP (Fy.mark X e) pins D f s') (ok:X.Ok):SP X pins D f s':=by
 cases f with
 | next=>obtain ⟨σ',H',I,q⟩:=h;exact ⟨σ',H',Inv.unmark I ok,q⟩
 | brk=>obtain ⟨σ',H',I,q⟩:=h;exact ⟨σ',H',Inv.unmark I ok,q⟩
 | cont=>obtain ⟨σ',H',I,q⟩:=h;exact ⟨σ',H',Inv.unmark I ok,q⟩
 | ret u=>obtain ⟨v,σ',H',I,r,q⟩:=h;exact ⟨v,σ',H',Inv.unmark I ok,r,q⟩
end
theorem qDa {P:Program} {w:World} {H:Hp} {h:Heap} {a:Addr} {o:HO} (x:L2.ObjOk P w H h a o):∃ ob,h.get? a=some ob:=by
 cases o with
 | lst xs=>obtain ⟨_,_,_,_,e⟩:=x;exact ⟨_,e⟩
 | tup xs=>obtain ⟨_,_,_,ob,e,_⟩:=x;exact ⟨_,e⟩
 | dK kvs=>obtain ⟨_,_,_,_,o,_,_,e,_⟩:=x;exact ⟨_,e⟩
 | dT kvs=>obtain ⟨_,_,_,_,o,_,_,e,_⟩:=x;exact ⟨_,e⟩
 | set S n=>obtain ⟨o,_,_,_,e,_⟩:=x;exact ⟨_,e⟩
 | ins C dx fs=>obtain ⟨_,_,_,e,_⟩:=x;exact ⟨_,e⟩
 | own y=>exact x
 | xd fs=>obtain ⟨_,⟨_,_,_,e,_⟩,_⟩:=x;exact ⟨_,e⟩
 | rng lo hi=>obtain ⟨_,_,_,e⟩:=x;exact ⟨_,e⟩
 | frz ob u=>obtain ⟨e,_⟩:=x;exact ⟨_,e⟩
 | tbl ps=>exact ⟨_,(show h.get? a=some _ from x)⟩
 | met f y=>exact ⟨_,(show h.get? a=some _ from x)⟩
 | ext φ=>obtain ⟨_,⟨_,e⟩,_⟩:=x;exact ⟨_,e⟩
section
variable {X:Cx} {pins:List (Addr × Obj)} {σ:L2.St} {H:Hp} {s:Shared}
theorem Inv.track {a:Addr} {o:HO} (I:Inv X pins σ H s) (hn:H a=none) (h0:X.s₀.heap.get? a=none) (hl:a≠X.env.locals) (hc:∀ x c,X.env.cells.lookup x=some c→c≠a) (hp:∀ p∈X.pn++pins,p.1≠a)
  (new:L2.ObjOk X.prog X.w (upd H a o) s.heap a o):Inv X pins σ (upd H a o) s:=by
 refine ⟨I.ok,I.os,I.bare,⟨I.base.keep,I.base.slot,fun b ob q n hx=>?_,I.base.there,fun b xs q=>?_,fun b ob u q=>?_,fun b ps q=>?_⟩,I.loc,I.cell,?_,fun x c e=>?_,fun p hpp=>?_,fun b u e=>?_,I.len⟩
 ·rw [qD (fun z=>by rw [z,h0] at q;cases q)]
  exact I.base.free b ob q n hx
 ·have:=I.base.tups b xs q
  rw [qD (L2.ne_of_none this hn)]
  exact this
 ·have:=I.base.frzs b ob u q
  rw [qD (L2.ne_of_none this hn)]
  exact this
 ·obtain ⟨more,e⟩:=I.base.tbls b ps q
  exact ⟨more,by rw [qD (L2.ne_of_none e hn)];exact e⟩
 ·rw [qD (Ne.symm hl)]
  exact I.free
 ·rw [qD (hc x c e)]
  exact I.freeC x c e
 ·obtain ⟨e,n,ne,nf,d⟩:=I.pin p hpp
  exact ⟨e,by rw [qD (hp p hpp)];exact n,ne,nf,d⟩
 ·by_cases hb:b=a
  ·subst hb
   rw [qF] at e
   cases e
   exact new
  ·rw [qD hb] at e
   exact (I.hok b u e).stay (fun c v _ q=>q) (fun c q=>by rw [qD (L2.ne_of_none q hn)];exact q) fun c xs q=>by rw [qD (L2.ne_of_none q hn)];exact q
theorem Inv.blank {h':Heap} {m':Str→Option Value} {tk:Nat} (I:Inv X pins σ H s) (hn':h'.Ns X.env.locals m') (hs:Heap.SameBut X.env.locals s.heap h'):Inv X pins (σ.map fun _=>none) H { s with heap:=h',toks:=tk }:=by
 have cne:=I.cne
 refine ⟨I.ok,I.os,I.bare,⟨fun b o e n hb hx=>?_,fun b o e n hb hx=>?_,I.base.free,fun b o e hx=>?_,I.base.tups,I.base.frzs,I.base.tbls⟩,⟨_,hn',fun j y v' e1 e2 e3=>?_⟩,fun y c e=>?_,I.free,I.freeC,fun p hp=>?_,fun b ob e=>?_,by simpa using I.len⟩
 ·exact (hs.2 b (Nat.ne_of_lt (Nat.lt_of_lt_of_le (Heap.lt_size e) I.ok.above))).trans (I.base.keep b o e n hb hx)
 ·obtain ⟨sl,e1⟩:=I.base.slot b o e n hb hx
  exact ⟨sl,(hs.2 b (Nat.ne_of_lt (Nat.lt_of_lt_of_le (Heap.lt_size e) I.ok.above))).trans e1⟩
 ·obtain ⟨o',e1⟩:=I.base.there b o e hx
  exact ⟨o',(hs.2 b (Nat.ne_of_lt (Nat.lt_of_lt_of_le (Heap.lt_size e) I.ok.above))).trans e1⟩
 ·rw [List.getElem?_map] at e2
  cases q:σ[j]? with
  | none=>rw [q] at e2;cases e2
  | some z=>rw [q] at e2;cases e2
 ·obtain ⟨w',z⟩:=I.cell y c e
  exact ⟨w',z.sameBut hs (cne y c e)⟩
 ·obtain ⟨e,n,ne,nf,d⟩:=I.pin p hp
  exact ⟨(hs.2 p.1 ne).trans e,n,ne,nf,d⟩
 ·have hfree:=I.free
  refine (I.hok b ob e).stay (fun c w' hc q=>(hs.2 c ?_).trans q) (fun _ q=>q) fun _ _ q=>q
  rintro rfl
  rcases hc with rfl | hc
  ·rw [hfree] at e;cases e
  ·rw [hfree] at hc;cases hc
end
section
variable {X:Cx} {F:Nat→List D→M D} {B:Nat} {W:WX} {ex:Nat→Option Addr}
noncomputable def HOf (X:Cx) (F:Nat→List D→M D) (B:Nat) (ex:Nat→Option Addr):List ExceptHandler→CH→Prop
 | [],.nil=>True
 | .ExceptHandler (some (.Name x np)) none body pos::r,.cons cs k r'=>(∃ C,L2.Gl X x∧(x == ("__debug__":Str))=false∧X.mg x=some (.ref C)∧∀ c D,ex c=some D→PySem.W.exmOne X.K (.ref D) (.ref C)=some (cs.contains c)) ∧
   (∃ b0 qE,body=b0::qE)∧(∀ e,PSs (mark X e) body (tDS X.K WF (qA F B k)))∧HOf X F B ex r r'
 | .ExceptHandler (some (.Name x np)) (some n) body pos::r,.as cs i k r'=>(∃ C,L2.Gl X x∧(x == ("__debug__":Str))=false∧X.mg x=some (.ref C)∧∀ c D,ex c=some D→PySem.W.exmOne X.K (.ref D) (.ref C)=some (cs.contains c)) ∧
   (∃ b0 qE,body=b0::qE)∧(X.ex=[]∧X.N.Nodup∧X.N[i]?=some n∧X.env.scope.names.lookup n=some .local∧∀ c C,ex c=some C→qZ X.K c C)∧(∀ e,PSs (mark X e) body (tDS X.K WF (qA F B k)))∧HOf X F B ex r r'
 | _,_=>False
structure Look (X:Cx) (ex:Nat→Option Addr) (pins:List (Addr × Obj)) (σ:L2.St) (Hc H:Hp) (s0 s:Shared) (Bs:Heap) (a C:Addr) (a0:Value):Prop where
 inv:Inv X pins σ Hc s0
 fl:Heap.FlyingW Bs X.stack a (.ref C) a0 s.heap
 hok:HOk X.prog X.w H Bs
 cov:∀ b o,s0.heap.get? b=some o→b∉frs X.stack→∃ o',Bs.get? b=some o'
 un:L2.Un (frs X.stack) [] Hc H s0.heap s.heap
 os:s.os=s0.os
 bare:AllBare s.gens
theorem Look.go {pins:List (Addr × Obj)} {σ:L2.St} {Hc H:Hp} {s0 s:Shared} {Bs h':Heap} {a C:Addr} {a0:Value} (L:Look X ex pins σ Hc H s0 s Bs a C a0) (fl:Heap.FlyingW Bs X.stack a (.ref C) a0 h') (up:s.heap.UpToSlots h'):Look X ex pins σ Hc H s0 { s with heap:=h' } Bs a C a0 :=
 ⟨L.inv,fl,L.hok,L.cov,aJ L.un L.fl.1 L.cov L.fl.2.2.1 fl.1 up,L.os,L.bare⟩
theorem Look.now {pins:List (Addr × Obj)} {σ:L2.St} {Hc H:Hp} {s0 s:Shared} {Bs:Heap} {a C:Addr} {a0:Value} (L:Look X ex pins σ Hc H s0 s Bs a C a0):Inv X pins σ H s :=
 L.inv.call' L.os L.un (L.hok.kept L.fl.1) L.bare fun b hb=>absurd hb (by simp)
theorem Look.ty {pins:List (Addr × Obj)} {σ:L2.St} {Hc H:Hp} {s0 s:Shared} {Bs:Heap} {a C:Addr} {a0:Value} {M:Model} (L:Look X ex pins σ Hc H s0 s Bs a C a0):PySem.W.Looks M s.heap (typeOf (.ref a)) (.ref C):=by
 obtain ⟨ob,h1,h2⟩:=L.fl.there
 exact h2 ▸ (PySem.W.Looks.ld h1).andThen .now
theorem Look.new {pins:List (Addr × Obj)} {σ:L2.St} {Hc H:Hp} {s0 s:Shared} {Bs:Heap} {a C:Addr} {a0:Value} (L:Look X ex pins σ Hc H s0 s Bs a C a0):s0.heap.get? a=none:=by
 cases q:s0.heap.get? a with
 | none=>rfl
 | some o =>
  exfalso
  by_cases hf:a∈frs X.stack
  ·obtain ⟨_,o2,k2,k3⟩:=L.fl.2.2.1.mem hf
   obtain ⟨oe,vs,T,oT,ts,t1,t2,t3,_⟩:=L.fl.2.2.2
   rw [t1] at k2
   cases k2
   exact k3 vs t3
  ·obtain ⟨o',e⟩:=L.cov a o q hf
   rw [L.fl.2.1] at e
   cases e
theorem Look.free {pins:List (Addr × Obj)} {σ:L2.St} {Hc H:Hp} {s0 s:Shared} {Bs:Heap} {a C:Addr} {a0:Value} (L:Look X ex pins σ Hc H s0 s Bs a C a0):H a=none:=by
 cases q:H a with
 | none=>rfl
 | some o =>
  obtain ⟨ob,e⟩:=qDa (L.hok a o q)
  rw [L.fl.2.1] at e
  cases e
noncomputable def Clz (X:Cx) (F:Nat→List D→M D) (B:Nat) (ex:Nat→Option Addr) (W:WX) (pins:List (Addr × Obj)) (σ:L2.St) (E:Ends) (hs:List ExceptHandler) (ch:CH):Prop :=
 ∀ (Hc H:Hp) (s0 s:Shared) (Bs:Heap) (a C:Addr) (a0:Value) (c:Nat),ex c=some C→Look X ex pins σ Hc H s0 s Bs a C a0 →
  (∃ ρ env h,RepS X.K ρ H env σ∧RepH X.K ρ h H∧PostS X.K W E ρ H (kQ F B ch c env h))→wpAny (model X.prog X.w) X.A (handleBy (.ref a) X.env hs) (SP X pins E) X.xe s
theorem qIQ {pins:List (Addr × Obj)} {σ:L2.St} {E:Ends} {x:Str} {np pos:Pos} {body:List Stmt} {r:List ExceptHandler} {cs:List Nat} {k:CS} {r':CH} (hh:HOf X F B ex (.ExceptHandler (some (.Name x np)) none body pos::r) (.cons cs k r')) (ih:Clz X F B ex W pins σ E r r'):Clz X F B ex W pins σ E (.ExceptHandler (some (.Name x np)) none body pos::r) (.cons cs k r'):=by
 rintro Hc H s0 s Bs a C a0 c hc L ⟨ρ,env,h,st,rh,p⟩
 obtain ⟨⟨C',g1,g2,g3,g4⟩,⟨b0,qE,hb⟩,hsu,hr⟩:=hh
 have I:=L.now
 rw [kQ] at p
 refine wpAny_handleBy_cons (codeAny_handlers_test (L2.ld_glob (X:=mark X (.ref a)) (Inv.mark I) g1 g3 ?_ g2)) (by intro q;cases q)
 refine (PySem.W.exm_one I.kIn L.ty (g4 c C hc)).here ?_
 cases q:cs.contains c with
 | false =>
  rw [q] at p
  exact ih _ _ _ _ _ _ _ _ _ hc L ⟨ρ,env,h,st,rh,p⟩
 | true =>
  rw [q] at p
  subst hb
  refine codeAny_handlers_suite (lands_againW L.fl fun h6 fl6 up6=>?_)
  have L6:=L.go fl6 up6
  have p:PostS X.K W E ρ H (SR.calm (qA F B k env h)):=p
  have p':PostS X.K WF E ρ H (qA F B k env h):=by
   cases z:qA F B k env h with
   | nx _ _=>rw [z] at p;exact p
   | rt _ _=>rw [z] at p;exact p
   | bk _ _=>rw [z] at p;exact p
   | ct _ _=>rw [z] at p;exact p
   | exc _ _ _=>rw [z] at p;exact False.elim p
   | bad=>rw [z] at p;exact p
  exact wpAny_mono (hsu (.ref a) pins _ σ H E (Inv.mark L6.now) ⟨ρ,env,h,st,rh,p'⟩) (fun f s7 q7=>SP.unmark q7 I.ok) fun _ _ z=>False.elim z
theorem qIR {pins:List (Addr × Obj)} {σ:L2.St} {E:Ends} {x n:Str} {np pos:Pos} {body:List Stmt} {r:List ExceptHandler} {cs:List Nat} {i:Nat} {k:CS} {r':CH} (hh:HOf X F B ex (.ExceptHandler (some (.Name x np)) (some n) body pos::r) (.as cs i k r')) (ih:Clz X F B ex W pins σ E r r'):Clz X F B ex W pins σ E (.ExceptHandler (some (.Name x np)) (some n) body pos::r) (.as cs i k r'):=by
 rintro Hc H s0 s Bs a C a0 c hc L ⟨ρ,env,h,st,rh,p⟩
 obtain ⟨⟨C',g1,g2,g3,g4⟩,⟨b0,qE,hb⟩,⟨n0,n1,n2,n3,n4⟩,hsu,hr⟩:=hh
 have I:=L.now
 rw [kQ] at p
 refine wpAny_handleBy_cons (codeAny_handlers_test (L2.ld_glob (X:=mark X (.ref a)) (Inv.mark I) g1 g3 ?_ g2)) (by intro q;cases q)
 refine (PySem.W.exm_one I.kIn L.ty (g4 c C hc)).here ?_
 cases q:cs.contains c with
 | false =>
  rw [q] at p
  exact ih _ _ _ _ _ _ _ _ _ hc L ⟨ρ,env,h,st,rh,p⟩
 | true =>
  rw [q] at p
  subst hb
  refine codeAny_handlers_suite_as (lands_againW L.fl fun h6 fl6 up6=>?_)
  have L6:=L.go fl6 up6
  have new:=L.new
  have hfree:=L6.free
  have hs0:X.s₀.heap.get? a=none:=by
   cases z:X.s₀.heap.get? a with
   | none=>rfl
   | some o =>
    obtain ⟨o',e⟩:=L.inv.base.there a o z (by rw [n0];exact List.not_mem_nil)
    rw [new] at e
    cases e
  obtain ⟨ob,hob,hcl⟩:=L6.fl.there
  have It:Inv X pins σ (upd H a (xcO a C)) { s with heap:=h6 }:=Inv.track L6.now hfree hs0 (fun z=>by
    obtain ⟨m,hn,_⟩:=L.inv.loc
    obtain ⟨oL,_,_,hoL,_⟩:=id hn
    rw [← z,new] at hoL
    cases hoL) (fun y c' e z=>by
    obtain ⟨w',oc,hoc,_⟩:=L.inv.cell y c' e
    rw [z,new] at hoc
    cases hoc) (fun pp hpp z=>by
    have:=(L.inv.pin pp hpp).1
    rw [z,new] at this
    cases this) ⟨⟨ob,hob,hcl⟩,⟨ob,hob⟩,fun h1 h2 ⟨o1,e1,e2⟩ k=>⟨o1,k o1 e1,e2⟩⟩
  have step:Step ρ H (ρ++[a]) (upd H a (xcO a C)):=Step.new1 hfree
  have rh':RepH X.K (ρ++[a]) (h++[.xc c]) (upd H a (xcO a C)):=rh.newO hfree ⟨C,n4 c C hc,qF⟩
  have hlen:(ρ++[a])[h.length]?=some a:=by rw [← rh.len,List.getElem?_append_right (Nat.le_refl _)];simp
  have st':RepS X.K (ρ++[a]) (upd H a (xcO a C)) (env.set i (some (.ref h.length))) (σ.set i (some (.ref a))):=(st.mono step).set i ⟨a,hlen,rfl⟩
  have p:PostS X.K W E ρ H (SR.rtO (qA F B k (env.set i (some (.ref h.length))) (h++[.xc c]))):=p
  have p':PostS X.K WF { E with nx:=fun _ _=>False,bk:=fun _ _=>False,ct:=fun _ _=>False } (ρ++[a]) (upd H a (xcO a C)) (qA F B k (env.set i (some (.ref h.length))) (h++[.xc c])):=by
   cases z:qA F B k (env.set i (some (.ref h.length))) (h++[.xc c]) with
   | rt d g=>rw [z] at p;exact fun ρ' H' v e' r' hv=>p ρ' H' v (step.trans e') r' hv
   | nx _ _=>rw [z] at p;exact False.elim p
   | bk _ _=>rw [z] at p;exact False.elim p
   | ct _ _=>rw [z] at p;exact False.elim p
   | exc _ _ _=>rw [z] at p;exact False.elim p
   | bad=>rw [z] at p;exact p
  refine L2.store_ok (X:=mark X (.ref a)) (v:=.ref a) (Inv.mark It) n1 n2 (.inl n3) rfl (fun s7 I7=>?_) (.inr n3)
  refine wpAny_mono (hsu (.ref a) pins s7 _ _ _ I7 ⟨_,_,_,st',rh',p'⟩) (fun f s8 q8=>?_) fun _ _ z=>False.elim z
  cases f with
  | next=>obtain ⟨_,_,_,z⟩:=q8;exact False.elim z
  | brk=>obtain ⟨_,_,_,z⟩:=q8;exact False.elim z
  | cont=>obtain ⟨_,_,_,z⟩:=q8;exact False.elim z
  | ret u =>
   obtain ⟨v,σ',H',I8,rv,qv⟩:=q8
   have I9:=Inv.unmark I8 I.ok
   obtain ⟨m,hn,_⟩:=I9.loc
   refine wpAny_nameGoes n3 hn (by rw [I9.ok.kind];rfl) fun h' m' hn' hs'=>?_
   exact ⟨v,_,H',Inv.blank I9 hn' hs',rv,qv⟩
theorem qIP {pins:List (Addr × Obj)} {σ:L2.St} {E:Ends}:∀ (hs:List ExceptHandler) (ch:CH),HOf X F B ex hs ch→Clz X F B ex W pins σ E hs ch:=by
 intro hs
 induction hs with
 | nil =>
  intro ch hh
  cases ch with
  | nil=>rintro Hc H s0 s Bs a C a0 c hc L ⟨ρ,env,h,st,rh,p⟩;exact False.elim p
  | _=>exact False.elim hh
 | cons hd r ih =>
  intro ch hh
  obtain ⟨ty,nm,body,pos⟩:=hd
  cases ty with
  | none=>exact False.elim hh
  | some t =>
   cases t with
   | Name x np =>
    cases nm with
    | none =>
     cases ch with
     | cons cs k r'=>exact qIQ hh (ih r' hh.2.2.2)
     | _=>exact False.elim hh
    | some n =>
     cases ch with
     | «as» cs i k r'=>exact qIR hh (ih r' hh.2.2.2.2)
     | _=>exact False.elim hh
   | _=>exact False.elim hh
theorem qCR {body:List Stmt} {h0:ExceptHandler} {hs:List ExceptHandler} {pos:Pos} {cb:CS} {ch:CH} (hstk:X.stack=X.env::X.outer∧X.env.frame=some X.env.locals) (hh:HOf X F B ex (h0::hs) ch)
  (hb:∀ (pins:List (Addr × Obj)) (W1:WX),PSs (hold X pins fun e s'=>∃ pins' σ H s0,Inv (hold X pins fun _ _=>False) pins' σ H s0∧CXD X.prog X.w ex X.stack H s0 (fun _ co H'=>∃ c,co=some c∧W1 c σ H') e s') body (tDS X.K W1 (qA F B cb))) :
  PS X (.Try body (h0::hs) [] [] pos) (tDS X.K W (qA F B (.tryx cb ch))):=by
 intro pins s σ H E I t
 obtain ⟨ρ,env,h,st,r,p⟩:=t
 rw [qA] at p
 show wpAny _ _ (do standAt pos;tryStmt false (execs body X.env) (h0::hs) (execs [] X.env) [] X.env) _ _ s
 refine wpAny_bind (wpAny_standAt (wpAny_tryStmt_except ?_))
 have p1:PostS X.K (fun c st H'=>∃ ρ env h,RepS X.K ρ H' env st∧RepH X.K ρ h H'∧PostS X.K W E ρ H' (kQ F B ch c env h)) E ρ H (qA F B cb env h):=by
  cases z:qA F B cb env h with
  | nx _ _=>rw [z] at p;exact p
  | rt _ _=>rw [z] at p;exact p
  | bk _ _=>rw [z] at p;exact p
  | ct _ _=>rw [z] at p;exact p
  | exc c e g=>rw [z] at p;exact fun ρ' H' st' e' r' s'=>⟨ρ',e,g,s',r',PostS.mono p e'⟩
  | bad=>rw [z] at p;exact p
 refine wpAny_mono (hb pins _ [] s σ H E (Inv.hold I _) ⟨ρ,env,h,st,r,p1⟩) (fun f s1 q1=>?_) fun e s1 q1=>?_
 ·have q:=SP.unhold q1
  cases f with
  | next=>exact wpAny_execs_nil q
  | brk=>exact q
  | cont=>exact q
  | ret u=>exact q
 ·obtain ⟨pins',σ',Hc,s0,I0,a,C,c,Bs,a0,H',rfl,h2,h3,h4,h5,h6,h7,h8,c',e',ρ',env',g',st',r',p'⟩:=q1
  cases e'
  have I0':Inv X pins σ' Hc s0:=Inv.unhold I0
  have L:Look X ex pins σ' Hc H' s0 s1 Bs a C a0:=⟨I0',h3,h4,h5,h6,h7,h8⟩
  have fr:=I.ok.frames
  rw [hstk.1] at fr
  have fl:=h3
  rw [hstk.1] at fl
  refine wpAny_looks_onW fr hstk.2 fl fun h4' held up4=>?_
  refine wpAny_landsW held fun h5' fl5 up5=>?_
  rw [← hstk.1] at fl5
  exact qIP (h0::hs) ch hh _ _ _ _ _ _ _ _ _ h2 (L.go fl5 (up4.trans up5)) ⟨ρ',env',g',st',r',p'⟩
end
end Fy
set_option Elab.async false
set_option linter.all false
set_option maxRecDepth 100000
set_option maxHeartbeats 4000000
namespace Fy
open PySem PySem.Spec PySem.Calls PyProof.Rows PySem.W
structure XGet (K:Frag) (C:Addr):Prop where
 ga:findIn K (.ref C) "__getattribute__"=some (some (.builtin "BaseException.__getattribute__"))
 gt:findIn K (.ref C) "__getattr__"=some none
 cl:findIn K (.ref C) "__class__"=some (some (.builtin "object.__class__"))
 ob:subIn K (.ref C) (.type "object")=some true
 be:subIn K (.ref C) (.type "BaseException")=some true
 is:isClsIn K C=true
section
variable {prog:Program} {w:World} {A:Around} {E:Value→Shared→Prop} {h:Heap} {g:Array GenState} {d:Drawn} {t:Nat} {os:OsState} {a C:Addr} {o:Obj} {K:Frag}
end
end Fy
set_option Elab.async false
set_option linter.all false
set_option maxRecDepth 100000
set_option maxHeartbeats 4000000
namespace Fy
open PySem PySem.Spec PySem.Calls PyProof.Rows
open L2 (V Hp HO VK XK TE TT TA TS TI Cx Inv RelV Vals SqL SqT Rd upd qF qD PE PT PA PS PSs EP TP SP PI PG PIE Turn qJ Ends HOk frs thn OpR CallR)
theorem nB {K:PySem.W.Frag} {t c:Value} {b:Bool} (h:PySem.W.exmOne K t c=some b) (hb:(t == c)=true→b=true):PySem.W.kitOne K t c=some b:=by
 unfold PySem.W.exmOne at h
 unfold PySem.W.kitOne
 split
 ·rename_i q;rw [hb q]
 ·split at h
  ·exact h
  ·cases h
section
variable {X:Cx} {F:Nat→List D→M D} {W:WX}
end
end Fy
set_option Elab.async false
set_option linter.all false
set_option maxRecDepth 100000
set_option maxHeartbeats 4000000
namespace Fy
open PySem PySem.Spec PySem.Calls PyProof.Rows
open L2 (V Hp HO VK XK TE TT TA TS TI Cx Inv RelV Vals SqL SqT Rd upd qF qD PE PT PA PS PSs EP TP SP PI PG PIE Turn qJ Ends HOk frs thn OpR CallR)
noncomputable def vl (l:List Nat) (a:Nat):Nat:=l.foldl (fun a d=>a*256+d) a
theorem bL:∀ (f n:Nat) (acc:List Nat),n<256 ^ f→vl (kL f n acc) 0=vl acc n
 | 0,n,acc,h=>by
  have:n=0:=by rw [Nat.pow_zero] at h;omega
  subst this
  rfl
 | f+1,n,acc,h=>by
  unfold kL
  by_cases q:n=0
  ·rw [if_pos q,q]
  ·rw [if_neg q,bL f (n / 256) (n % 256::acc) (by rw [Nat.pow_succ] at h;exact Nat.div_lt_of_lt_mul (by rw [Nat.mul_comm];exact h))]
   show vl acc (n / 256*256+n % 256)=_
   rw [Nat.div_add_mod' n 256]
theorem bK {a b:Nat} (ha:a<256 ^ 60) (hb:b<256 ^ 60) (h:qI a=qI b):a=b:=by
 unfold qI at h
 have h1:(kL 60 a []).toArray=(kL 60 b []).toArray:=congrArg Str.cps h
 have h2:kL 60 a []=kL 60 b []:=by simpa using h1
 have e1:=bL 60 a [] ha
 have e2:=bL 60 b [] hb
 rw [h2,e2] at e1
 exact e1.symm
section
variable {K:PySem.W.Frag} {ρ:List Addr} {H:Hp} {C:Addr}
theorem RepF.len:∀ {fs:List (Nat × D)} {vs:List (Str × V)},RepF K ρ H C fs vs→vs.length=fs.length
 | [],_,h=>by cases h;rfl
 | x::xs,_,⟨v,r,h1,_,_,_,h3⟩=>by subst h1;simp [RepF.len h3]
theorem RepF.get {k:Nat} {d:D}:∀ {fs:List (Nat × D)} {vs:List (Str × V)},RepF K ρ H C fs vs→qV k fs=some d→∃ v,vs.lookup (qI k)=some v∧RepV K ρ H d v∧L2.NoAttr K C (qI k)∧k<256 ^ 60
 | [],_,_,e=>by cases e
 | (g,x)::xs,_,⟨v,r,h1,hb,hn,h2,h3⟩,e=>by
  subst h1
  unfold qV at e
  by_cases q:(g == k)=true
  ·rw [if_pos q] at e
   cases e
   have:g=k:=by simpa using q
   subst this
   exact ⟨v,by simp [List.lookup],h2,hn,hb⟩
  ·rw [if_neg q] at e
   obtain ⟨w,k1,k2,k3,k4⟩:=RepF.get h3 e
   refine ⟨w,?_,k2,k3,k4⟩
   have ne:(qI k == qI g)=false:=beq_eq_false_iff_ne.mpr fun z=>q (by rw [bK k4 hb z];simp)
   show List.lookup (qI k) ((qI g,v)::r)=_
   rw [List.lookup_cons,ne]
   exact k1
theorem RepF.none {k:Nat} (hk:k<256 ^ 60):∀ {fs:List (Nat × D)} {vs:List (Str × V)},RepF K ρ H C fs vs→qV k fs=none→vs.lookup (qI k)=none
 | [],_,h,_=>by cases h;rfl
 | (g,x)::xs,_,⟨v,r,h1,hb,hn,h2,h3⟩,e=>by
  subst h1
  unfold qV at e
  by_cases q:(g == k)=true
  ·rw [if_pos q] at e;cases e
  ·rw [if_neg q] at e
   have ne:(qI k == qI g)=false:=beq_eq_false_iff_ne.mpr fun z=>q (by rw [bK hk hb z];simp)
   show List.lookup (qI k) ((qI g,v)::r)=_
   rw [List.lookup_cons,ne]
   exact RepF.none hk h3 e
theorem RepF.put {k:Nat} {d:D} {v:V} (hk:k<256 ^ 60) (hn:L2.NoAttr K C (qI k)) (hv:RepV K ρ H d v):∀ {fs:List (Nat × D)} {vs:List (Str × V)},RepF K ρ H C fs vs→RepF K ρ H C (jQ k d fs) (L2.putF (qI k) v vs)
 | [],_,h=>by cases h;exact ⟨v,[],rfl,hk,hn,hv,rfl⟩
 | (g,x)::xs,_,⟨w,r,h1,hb,hn',h2,h3⟩=>by
  subst h1
  unfold jQ
  show RepF K ρ H C _ (if qI g=qI k then (qI g,v)::r else (qI g,w)::L2.putF (qI k) v r)
  by_cases q:(g == k)=true
  ·have:g=k:=by simpa using q
   subst this
   rw [if_pos q,if_pos rfl]
   exact ⟨v,r,rfl,hk,hn,hv,h3⟩
  ·have hb':g<256 ^ 60:=hb
   rw [if_neg q,if_neg fun z=>q (by rw [bK hb' hk z];simp)]
   exact ⟨w,_,rfl,hb,hn',h2,RepF.put hk hn hv h3⟩
end
section
variable {X:Cx} {F:Nat→List D→M D} {B:Nat} {W:WX}
theorem qH6 {e:Expr} {ca:CE} {k:Nat} {f:Str} {pos:Pos} (hf:f=qI k) (he:PE X e (tD X.K W (den F ca))) (hb:attributeBase e f X.env (eval e X.env)=eval e X.env):PE X (.Attribute e f pos) (tD X.K W (den F (.un (.fld k) ca))):=by
 subst hf
 refine PE.imp (L2.pe_fld he hb) fun σ H Q t=>?_
 obtain ⟨ρ,env,h,s,r,p⟩:=one t
 refine ⟨ρ,env,h,s,r,Post.imp p fun ρ' H' d q v hv=>?_⟩
 obtain ⟨w,ρ2,h2,d2,r2,hd,p2⟩:=q v hv
 cases d2 with
 | ref i =>
  have p2:PostV X.K w Q ρ2 H' (match h2[i]? with | some (.ins _ fs)=>(match qV k fs with | some d=>.ok d h2 | none=>.bad) | _=>.bad):=p2
  split at p2
  ·rename_i c fs hi
   cases g:qV k fs with
   | none=>rw [g] at p2;exact False.elim p2
   | some d =>
    rw [g] at p2
    obtain ⟨a,ha,C,dx,vs,k1,k2,k3,k4⟩:=r2.obj i _ hi
    obtain ⟨a',ha',rfl⟩:=hd
    rw [ha] at ha'
    cases ha'
    obtain ⟨u,l1,l2,l3,_⟩:=k4.get g
    exact ⟨a,C,dx,vs,u,rfl,k3,k2,l3,l1,PostV.now p2 r2 l2⟩
  ·exact False.elim p2
 | _=>exact (show False from p2).elim
theorem qCU {o e:Expr} {ca ce:CE} {k:Nat} {cs:List Nat} {f:Str} {pos pos':Pos} (hf:f=qI k) (hk:k<256 ^ 60) (hna:∀ c C,cs.contains c=true→qZ X.K c C→L2.NoAttr X.K C (qI k))
  (ho:PE X o (tD X.K W (den F ca))) (he:PE X e (tD X.K W (den F ce))) (hs:swapsWith e (some (.Attribute o f pos')) pos.line X.env=pure false):PS X (.Assign [.Attribute o f pos'] e pos) (tDS X.K W (qA F B (.setF ca k cs ce))):=by
 subst hf
 refine PS.imp (L2.ps_fld ho he hs) fun E σ H t=>?_
 obtain ⟨ρ,env,h,s,r,p⟩:=t
 rw [qA] at p
 refine ⟨ρ,env,h,s,r,PostS.ofR s p fun ρ1 h1 d H1 e1 r1 q v hv=>⟨ρ1,env,h1,s.mono e1,r1,?_⟩⟩
 have q:PostS X.K W E ρ1 H1 (SR.ofR env ((den F ca env h1).bind fun x g=>uB k cs d x g) fun _ h2=>.nx env h2):=q
 cases z:den F ca env h1 with
 | ok x h2 =>
  rw [z] at q
  have q:PostS X.K W E ρ1 H1 (SR.ofR env (uB k cs d x h2) fun _ h2=>.nx env h2):=q
  intro ρ2 H2 e2 r2 vx hvx
  cases x with
  | ref i =>
   have q:PostS X.K W E ρ1 H1 (SR.ofR env (match h2[i]? with | some (.ins c fs)=>if cs.contains c=true∧fs.length<1000 then .ok () (h2.set i (.ins c (jQ k d fs))) else .bad | _=>.bad) fun _ h2=>.nx env h2):=q
   cases hi:h2[i]? with
   | none=>rw [hi] at q;exact False.elim q
   | some ob =>
    rw [hi] at q
    cases ob with
    | ins c fs =>
     have q:PostS X.K W E ρ1 H1 (SR.ofR env (if cs.contains c=true∧fs.length<1000 then .ok () (h2.set i (.ins c (jQ k d fs))) else .bad) fun _ h2=>.nx env h2):=q
     by_cases hc:cs.contains c=true∧fs.length<1000
     ·rw [if_pos hc] at q
      obtain ⟨a,ha,C,dx,vs,k1,k2,k3,k4⟩:=r2.obj i _ hi
      obtain ⟨a',ha',rfl⟩:=hvx
      rw [ha] at ha'
      cases ha'
      have na:=hna c C hc.1 k1
      have stp:Step ρ2 H2 ρ2 (upd H2 a (.ins C dx (L2.putF (qI k) v vs))):=Step.turn k3 rfl (List.mem_of_getElem? ha)
      refine ⟨a,C,dx,vs,rfl,k3,k2,na,by rw [k4.len];exact hc.2,?_⟩
      have rf:=k4.put hk na (hv.mono e2 _ _)
      exact q ρ2 _ σ (e2.trans stp) (r2.setO hi rfl rfl ha k3 rfl ⟨C,dx,_,k1,k2,qF,rf.mono stp _ _⟩) ((s.mono e1).mono (e2.trans stp))
     ·rw [if_neg hc] at q;exact False.elim q
    | _=>exact (show False from q).elim
  | _=>exact (show False from q).elim
 | exc c h2 =>
  rw [z] at q
  exact fun ρ' H' e' r'=>q ρ' H' σ e' r' ((s.mono e1).mono e')
 | bad=>rw [z] at q;exact q
end
end Fy
set_option Elab.async false
set_option linter.all false
set_option maxRecDepth 100000
set_option maxHeartbeats 4000000
namespace Fy
open PySem PySem.Spec PySem.Calls PyProof.Rows
open L2 (V Hp HO VK XK TE TT TA TS TI Cx Inv RelV Vals SqL SqT Rd upd qF qD PE PT PA PS PSs EP TP SP PI PG PIE Turn qJ Ends HOk frs thn OpR CallR)
section
variable {X:Cx} {F:Nat→List D→M D} {B:Nat} {W:WX} {ex:Nat→Option Addr} {k:Nat}
noncomputable def aH (X:Cx) (F:Nat→List D→M D) (k:Nat) (ex:Nat→Option Addr) (m:Str) (tb:List (Nat × Nat)):Prop :=
 ∀ cc fi C,tbN tb cc=some fi→qZ X.K cc C→L2.Cls X.K C∧∃ f fd ps,L2.Meth X.K C m f∧L2.Binds X.K fd ps []∧L2.FnOk X.prog X.w X.K X.mg X.base (CXD X.prog X.w ex) k f fd ps (spD X.K (F fi))
noncomputable def mQ (X:Cx) (F:Nat→List D→M D) (W:WX) (σ:L2.St) (env:Env) (mk:Nat) (tb:List (Nat × Nat)) (cl:CL) (Q:VK):VK:=fun x H1 =>
 ∃ ρ h d,RepS X.K ρ H1 env σ∧RepH X.K ρ h H1∧RepV X.K ρ H1 d x∧PostV X.K (W.at σ) Q ρ H1 (((bM mk d).bind fun c=>match tbN tb c with | some f=>(qN F cl env).bind fun xs=>F f (d::xs) | none=>M.bad) h)
theorem mS {mk:Nat} {tb:List (Nat × Nat)} {cl:CL} {ca:CE} {ρ:List Addr} {env:Env} {h:AH} {σ:L2.St} {H:Hp} {Q:VK} (st:RepS X.K ρ H env σ) (p:PostV X.K (W.at σ) Q ρ H (den F (.meth mk tb ca cl) env h)) :
  PostV X.K (W.at σ) (mQ X F W σ env mk tb cl Q) ρ H (den F ca env h):=by
 rw [den] at p
 exact Post.bind p fun ρ1 h1 d H1 e1 r1 q v hv=>⟨ρ1,h1,d,st.mono e1,r1,hv,q⟩
theorem mT {mk:Nat} {tb:List (Nat × Nat)} {cl:CL} {env:Env} {σ:L2.St} {H1:Hp} {Q:VK} {x:V} {m:Str} (hm:aH X F k ex m tb) (hn:m=qI mk) (hb:mk<256 ^ 60) (q:mQ X F W σ env mk tb cl Q x H1) :
  ∃ a C dx vs f fd ps ρ h d,x=.ref a∧H1 a=some (.ins C dx vs)∧vs.lookup m=none∧L2.Cls X.K C∧L2.Meth X.K C m f∧L2.Binds X.K fd ps []∧RepS X.K ρ H1 env σ∧RepH X.K ρ h H1∧RepV X.K ρ H1 d x ∧
   ∃ fi,L2.FnOk X.prog X.w X.K X.mg X.base (CXD X.prog X.w ex) k f fd ps (spD X.K (F fi))∧PostV X.K (W.at σ) Q ρ H1 ((qN F cl env).bind (fun xs=>F fi (d::xs)) h):=by
 obtain ⟨ρ,h,d,st,r,hd,p⟩:=q
 cases d with
 | ref i =>
  have p:PostV X.K (W.at σ) Q ρ H1 ((match h[i]? with | some (.ins c fs)=>if (qV mk fs).isNone then R.ok c h else .bad | _=>.bad).bind fun c g=>(match tbN tb c with | some f=>(qN F cl env).bind fun xs=>F f (.ref i::xs) | none=>M.bad) g):=p
  cases hi:h[i]? with
  | none=>rw [hi] at p;exact False.elim p
  | some ob =>
   rw [hi] at p
   cases ob with
   | ins c fs =>
    cases g:qV mk fs with
    | some _=>rw [show (match some (O.ins c fs) with | some (.ins c fs)=>if (qV mk fs).isNone then R.ok c h else .bad | _=>.bad)=(if (qV mk fs).isNone then R.ok c h else .bad) from rfl,g] at p;exact False.elim p
    | none =>
     rw [show (match some (O.ins c fs) with | some (.ins c fs)=>if (qV mk fs).isNone then R.ok c h else .bad | _=>.bad)=(if (qV mk fs).isNone then R.ok c h else .bad) from rfl,g] at p
     have p:PostV X.K (W.at σ) Q ρ H1 ((match tbN tb c with | some f=>(qN F cl env).bind fun xs=>F f (.ref i::xs) | none=>M.bad) h):=p
     obtain ⟨a,ha,C,dx,vs,k1,k2,k3,k4⟩:=r.obj i _ hi
     obtain ⟨a',ha',rfl⟩:=id hd
     rw [ha] at ha'
     cases ha'
     cases ht:tbN tb c with
     | none=>rw [ht] at p;exact False.elim p
     | some fi =>
      rw [ht] at p
      obtain ⟨_,f,fd,ps,m1,m2,m3⟩:=hm c fi C ht k1
      refine ⟨a,C,dx,vs,f,fd,ps,ρ,h,.ref i,rfl,k3,?_,k2,m1,m2,st,r,hd,fi,m3,p⟩
      rw [hn]
      exact k4.none hb g
   | _=>exact (show False from p).elim
 | _=>exact (show False from p).elim
theorem hU {fi:Nat} {d:D} {ρ1:List Addr} {h1:AH} {H1:Hp} {env:Env} {σ:L2.St} {Q:VK} {cl:CL} {x:V} (hd:RepV X.K ρ1 H1 d x) (p:PostV X.K (W.at σ) Q ρ1 H1 ((qN F cl env).bind (fun xs=>F fi (d::xs)) h1)) :
  Post X.K (W.at σ) (fun ρ' H' ds=>∀ vs,RepL X.K ρ' H' ds vs→spD X.K (F fi) (x::vs) H' Q fun _ co H'=>∃ c,co=some c∧W c σ H') ρ1 H1 (qN F cl env h1) :=
 Post.bind p fun ρ2 h2 ds H2 e2 r2 q vs hvs=>⟨ρ2,h2,d::ds,r2,⟨x,vs,rfl,hd.mono e2 _ _,hvs⟩,by
  cases z:F fi (d::ds) h2 with
  | ok a g=>rw [z] at q;exact q
  | exc c g=>rw [z] at q;exact fun ρ' H' e' r' _=>⟨c,rfl,q ρ' H' e' r'⟩
  | bad=>rw [z] at q;exact q⟩
theorem rN {o:Expr} {m:Str} {apos pos:Pos} {args:List Expr} {env:PySem.Env} (hbase:attributeBase o m env (eval o env)=eval o env) (hline:(apos.endLine == pos.line)=true)
  (hfew:methodCallForm (args.length+([]:List Keyword).length) (backTo pos (starEach args env)) (backToKw pos (keywordEach [] env))=true) :
  eval (.Call (.Attribute o m apos) args [] pos) env=(do
   let ov ← eval o env
   standAt apos.atName
   let (f,first) ← holding [ov] (getMethod ov m (do return (← importBound o env).getD true))
   callWith pos f first (backTo pos (starEach args env)) (backToKw pos (keywordEach [] env))):=by
 rw [arm_eval_Call,hbase]
 unfold methodCall
 rw [hfew]
 unfold calleeOf methodCallPos
 simp only [hline,Bool.not_true,Bool.false_or,if_true]
 rfl
theorem qHw {o e:Expr} {es:List Expr} {ca:CE} {cl:CL} {mk:Nat} {tb:List (Nat × Nat)} {m:Str} {apos pos:Pos} (hm:aH X F k ex m tb) (hn:m=qI mk) (hb:mk<256 ^ 60) (hr:L2.Room k X.A)
  (hxc:∀ pins σ H s0 e s',Inv X pins σ H s0→CXD X.prog X.w ex X.stack H s0 (fun _ co H'=>∃ c,co=some c∧W c σ H') e s'→X.xe e s')
  (ho:PE X o (tD X.K W (den F ca))) (ha:PA X (e::es) (tDL X.K W (qN F cl))) (hbase:attributeBase o m X.env (eval o X.env)=eval o X.env) (hline:(apos.endLine == pos.line)=true)
  (hfew:methodCallForm ((e::es).length+([]:List Keyword).length) (backTo pos (starEach (e::es) X.env)) (backToKw pos (keywordEach [] X.env))=true)
  (hst:starEach (e::es) X.env=(false,eval e X.env)::starEach es X.env) (hpl:(backTo pos (starEach es X.env)).any (·.1)=false) :
  PE X (.Call (.Attribute o m apos) (e::es) [] pos) (tD X.K W (den F (.meth mk tb ca cl))):=by
 intro pins s σ H Q I t
 obtain ⟨ρ,env,h,st,r,p⟩:=t
 refine PySem.W.methodCall_KW (thn (ho pins s σ H (mQ X F W σ env mk tb cl Q) I ⟨ρ,env,h,st,r,mS st p⟩) fun u s1 z=>?_) (rN hbase hline hfew)
 obtain ⟨x,H1,I1,rx,q⟩:=z
 obtain ⟨a,C,dx,vs,f,fd,ps,ρ1,h1,d,rfl,hH,hl,hc,hmt,hbi,st1,r1,hd,fi,FO,p1⟩:=mT hm hn hb q
 obtain rfl:u=Value.ref a:=rx
 refine L2.getmeth_ok I1 hH hc hmt hl ?_
 refine PySem.W.callWith_K (first:=[.ref a]) (h₀:=X.base) I.ok.mod.kin hmt.kp (thn (ha pos pins s1 σ H1 _ I1 ⟨ρ1,env,h1,st1,r1,hU hd p1⟩) fun us s2 ⟨vs2,H2,I2,r2,q2⟩=>⟨I2.kIn,?_⟩) hst hpl
 exact uF (us:=.ref a::us) (vs:=.ref a::vs2) FO hr hbi (fun e s' z=>hxc pins σ H2 s2 e s' I2 z) I2 (.cons rfl r2) q2
theorem qHv {o:Expr} {ca:CE} {mk:Nat} {tb:List (Nat × Nat)} {m:Str} {apos pos:Pos} (hm:aH X F k ex m tb) (hn:m=qI mk) (hb:mk<256 ^ 60) (hr:L2.Room k X.A)
  (hxc:∀ pins σ H s0 e s',Inv X pins σ H s0→CXD X.prog X.w ex X.stack H s0 (fun _ co H'=>∃ c,co=some c∧W c σ H') e s'→X.xe e s')
  (ho:PE X o (tD X.K W (den F ca))) (hbase:attributeBase o m X.env (eval o X.env)=eval o X.env) (hline:(apos.endLine == pos.line)=true):PE X (.Call (.Attribute o m apos) [] [] pos) (tD X.K W (den F (.meth mk tb ca .nil))):=by
 intro pins s σ H Q I t
 obtain ⟨ρ,env,h,st,r,p⟩:=t
 refine PySem.W.methodCall_KW (thn (ho pins s σ H (mQ X F W σ env mk tb .nil Q) I ⟨ρ,env,h,st,r,mS st p⟩) fun u s1 z=>?_) (rN hbase hline rfl)
 obtain ⟨x,H1,I1,rx,q⟩:=z
 obtain ⟨a,C,dx,vs,f,fd,ps,ρ1,h1,d,rfl,hH,hl,hc,hmt,hbi,st1,r1,hd,fi,FO,p1⟩:=mT hm hn hb q
 obtain rfl:u=Value.ref a:=rx
 refine L2.getmeth_ok I1 hH hc hmt hl ?_
 have q2:=Post.ret (a:=([]:List D)) (h:=h1) (hU (cl:=.nil) hd p1) r1 [] rfl
 exact PySem.W.callWith_K0 (first:=[.ref a]) I1.kIn hmt.kp (uF (us:=[.ref a]) (vs:=[.ref a]) FO hr hbi (fun e s' z=>hxc pins σ H1 s1 e s' I1 z) I1 (.cons rfl .nil) q2)
theorem iT {pins:List (Addr × Obj)} {σ:L2.St} {H:Hp} {s:Shared} {Q:VK} {us:List Value} {vs:List V} {C f:Addr} {fd:FuncData} {ps:List Str} {sp:L2.Sp} {E:XK} (M:L2.Mk X.K C f) (F:L2.FnOk X.prog X.w X.K X.mg X.base (CXD X.prog X.w ex) k f fd ps sp) (hr:L2.Room (k+1) X.A) {ds:List Value} {dvs:List V} (hb:L2.Binds X.K fd ps ds) (hd:Vals dvs ds)
  (hx:∀ pins H s e s',Inv X pins σ H s→CXD X.prog X.w ex X.stack H s E e s'→X.xe e s') (I:Inv X pins σ H s) (r:Vals vs us)
  (h:∀ x dx,H x=none→H dx=none→dx≠x→sp (.ref x::(vs++dvs)) (upd (upd H dx (.own x)) x (.ins C dx [])) (fun v H2=>v=.non∧Q (.ref x) H2) E) :
  wpAny (model X.prog X.w) X.A (call (.ref C) us) (EP X pins σ Q) X.xe s:=by
 have hq:=h (s.heap.objs.size+1) s.heap.objs.size (I.hok.fresh (Nat.le_succ _)) (I.hok.fresh (Nat.le_refl _)) (Nat.ne_of_lt (Nat.lt_succ_self _))
 have I2:=L2.Inv.made (C:=C) I
 have r2:Vals (V.ref (s.heap.objs.size+1)::(vs++dvs)) (Value.ref (s.heap.objs.size+1)::(us++ds)):=.cons rfl (r.append hd)
 have hl:(Value.ref (s.heap.objs.size+1)::us++ds).length=ps.length:=by
  have e:=r2.length
  rw [F.len _ _ _ _ hq] at e
  exact e.symm
 refine wpAny_call (L2.make_map (f:=f) I.kIn M.makes M.init (beq_iff_eq.mp M.fn) (codeAny_mono (F.run _ X.stack _ _ ⟨Value.ref (s.heap.objs.size+1)::us,[]⟩ (Value.ref (s.heap.objs.size+1)::(us++ds)) _ _ E (hr.make C us [])
  (I2.env0.make C us []) (hb _ (Value.ref (s.heap.objs.size+1)::us) I2.kIn hl) r2 hq) fun r s' hq'=>?_))
 cases r with
 | error e=>exact hx pins _ _ e s' I2 hq'
 | ok fl =>
  cases fl with
  | ret u =>
   obtain ⟨v,H',I3,rv,ev,q3⟩:=I2.after hq'
   subst ev
   exact ⟨rv,⟨V.ref (s.heap.objs.size+1),H',I3,rfl,q3⟩⟩
  | next=>exact False.elim hq'
  | brk=>exact False.elim hq'
  | cont=>exact False.elim hq'
theorem mM {c fi:Nat} {C:Addr} {ρ1:List Addr} {h1:AH} {H1:Hp} {Q:VK} {ds:List D} {vs:List V} {w:W1} (hc:qZ X.K c C) (hcl:L2.Cls X.K C) (r:RepH X.K ρ1 h1 H1) (hl:RepL X.K ρ1 H1 ds vs)
  (p:PostV X.K w Q ρ1 H1 (bP F c fi ds h1)):∀ x dx,H1 x=none→H1 dx=none→dx≠x →
  spD X.K (F fi) (.ref x::(vs++[])) (upd (upd H1 dx (.own x)) x (.ins C dx [])) (fun v H2=>v=.non∧Q (.ref x) H2) fun _ co H'=>∃ c,co=some c∧w c H':=by
 intro x dx hx hdx ne
 rw [List.append_nil]
 have hx':upd H1 dx (.own x) x=none:=by rw [qD (Ne.symm ne)];exact hx
 have s1:Step ρ1 H1 ρ1 (upd H1 dx (.own x)):=Step.fresh hdx
 have s2:Step ρ1 (upd H1 dx (.own x)) (ρ1++[x]) (upd (upd H1 dx (.own x)) x (.ins C dx [])):=Step.new1 hx'
 have r2:RepH X.K (ρ1++[x]) (h1++[.ins c []]) (upd (upd H1 dx (.own x)) x (.ins C dx [])):=(r.fresh hdx).newO hx' ⟨C,dx,[],hc,hcl,qF,rfl⟩
 have hi:(ρ1++[x])[h1.length]?=some x:=by rw [← r.len,List.getElem?_append_right (Nat.le_refl _)];simp
 refine ⟨ρ1++[x],h1++[.ins c []],.ref h1.length::ds,r2,⟨.ref x,vs,rfl,⟨x,hi,rfl⟩,hl.mono (s1.trans s2) _ _⟩,?_⟩
 have p:PostV X.K w Q ρ1 H1 ((F fi (.ref h1.length::ds) (h1++[.ins c []])).bind fun d h'=>match d with | .non=>.ok (.ref h1.length) h' | _=>.bad):=p
 cases z:F fi (.ref h1.length::ds) (h1++[.ins c []]) with
 | ok d g =>
  rw [z] at p
  cases d with
  | non =>
   intro ρ' H' e' r' v hv
   refine ⟨hv,?_⟩
   have e2:=(s1.trans s2).trans e'
   exact p ρ' H' e2 r' (.ref x) ⟨x,jY e'.pre hi,rfl⟩
  | _=>exact (show False from p).elim
 | exc cc g =>
  rw [z] at p
  exact fun ρ' H' e' r' _=>⟨cc,rfl,p ρ' H' ((s1.trans s2).trans e') r'⟩
 | bad=>rw [z] at p;exact p
theorem qHy {y:Str} {e:Expr} {es:List Expr} {cl:CL} {c fi:Nat} {C f:Addr} {fd:FuncData} {ps:List Str} {p1 pos:Pos} (hg:L2.Gl X y) (hdb:(y == ("__debug__":Str))=false) (hmg:X.mg y=some (.ref C)) (hc:qZ X.K c C) (hcl:L2.Cls X.K C) (M:L2.Mk X.K C f)
  (hb:L2.Binds X.K fd ps []) (FO:L2.FnOk X.prog X.w X.K X.mg X.base (CXD X.prog X.w ex) k f fd ps (spD X.K (F fi))) (hr:L2.Room (k+1) X.A)
  (hxc:∀ pins σ H s0 e s',Inv X pins σ H s0→CXD X.prog X.w ex X.stack H s0 (fun _ co H'=>∃ c,co=some c∧W c σ H') e s'→X.xe e s')
  (ha:PA X (e::es) (tDL X.K W (qN F cl))) (hst:starEach (e::es) X.env=(false,eval e X.env)::starEach es X.env) (hpl:(backTo pos (starEach es X.env)).any (·.1)=false) :
  PE X (.Call (.Name y p1) (e::es) [] pos) (tD X.K W (den F (.make c fi cl))):=by
 intro pins s σ H Q I t
 obtain ⟨ρ,env,h,st,r,p⟩:=t
 rw [den] at p
 refine wpAny_Call_Name_kw (L2.ld_glob I hg hmg ?_ hdb)
 refine PySem.W.callWith_K (h₀:=X.base) I.ok.mod.kin M.kp (thn (ha pos pins s σ H (fun vs H1=>∀ x dx,H1 x=none→H1 dx=none→dx≠x→spD X.K (F fi) (.ref x::(vs++[])) (upd (upd H1 dx (.own x)) x (.ins C dx [])) (fun v H2=>v=.non∧Q (.ref x) H2) fun _ co H'=>∃ c,co=some c∧W c σ H') I
  ⟨ρ,env,h,st,r,Post.bind p fun ρ1 h1 ds H1 e1 r1 q vs hvs=>mM hc hcl r1 hvs q⟩) fun us s1 ⟨vs,H1,I1,rv,q⟩=>⟨I1.kIn,?_⟩) hst hpl
 exact iT M FO hr hb .nil (fun pins H s e s' I z=>hxc pins σ H s e s' I z) I1 rv q
theorem qHx {y:Str} {c fi:Nat} {C f:Addr} {fd:FuncData} {ps:List Str} {p1 pos:Pos} (hg:L2.Gl X y) (hdb:(y == ("__debug__":Str))=false) (hmg:X.mg y=some (.ref C)) (hc:qZ X.K c C) (hcl:L2.Cls X.K C) (M:L2.Mk X.K C f)
  (hb:L2.Binds X.K fd ps []) (FO:L2.FnOk X.prog X.w X.K X.mg X.base (CXD X.prog X.w ex) k f fd ps (spD X.K (F fi))) (hr:L2.Room (k+1) X.A)
  (hxc:∀ pins σ H s0 e s',Inv X pins σ H s0→CXD X.prog X.w ex X.stack H s0 (fun _ co H'=>∃ c,co=some c∧W c σ H') e s'→X.xe e s') :
  PE X (.Call (.Name y p1) [] [] pos) (tD X.K W (den F (.make c fi .nil))):=by
 intro pins s σ H Q I t
 obtain ⟨ρ,env,h,st,r,p⟩:=t
 rw [den,qN] at p
 refine wpAny_Call_Name_kw (L2.ld_glob I hg hmg ?_ hdb)
 exact PySem.W.callWith_K0 I.kIn M.kp (iT (us:=[]) (vs:=[]) M FO hr hb .nil (fun pins H s e s' I z=>hxc pins σ H s e s' I z) I .nil (mM (ds:=[]) hc hcl r rfl p))
end
end Fy
set_option Elab.async false
set_option linter.all false
set_option maxRecDepth 100000
set_option maxHeartbeats 4000000
namespace Fy
open PySem PySem.Spec PySem.Calls PyProof.Rows
open L2 (V Hp HO VK XK TE TT TA TS TI Cx Inv RelV Vals SqL SqT Rd upd qF qD PE PT PA PS PSs EP TP SP PI PG PIE Turn qJ Ends HOk frs thn OpR CallR)
section
variable {X:Cx} {F:Nat→List D→M D} {B:Nat} {W:WX}
theorem qFf (n:Nat) (i:Int):L2.ixN n i=ixN n i:=rfl
theorem RepL.set {K:PySem.W.Frag} {ρ:List Addr} {H:Hp} {d:D} {v:V} (hv:RepV K ρ H d v):∀ {ds:List D} {vs:List V} (n:Nat),RepL K ρ H ds vs→RepL K ρ H (ds.set n d) (vs.set n v)
 | [],_,n,h=>by cases h;simp [RepL]
 | x::ds,_,0,⟨u,r,h1,h2,h3⟩=>by subst h1;exact ⟨v,r,rfl,hv,h3⟩
 | x::ds,_,n+1,⟨u,r,h1,h2,h3⟩=>by subst h1;exact ⟨u,r.set n v,rfl,h2,RepL.set hv n h3⟩
noncomputable def lC:V→V→V→Hp→(Hp→Prop)→Prop:=fun o i v H Q=>L2.rSetL o i v H Q∨∃ a vs k,o=.ref a∧i=L2.kV k∧H a=some (.dK vs)∧vs.length<sizeLine∧Q (upd H a (.dK (L2.putK vs k v)))
theorem qCG:L2.PSet X lC:=by
 intro pins s σ H o i v ov iv u Q I ro ri rv h
 rcases h with h | ⟨a,vs,k,rfl,rfl,hH,hl,q⟩
 ·exact L2.set_list pins s σ H o i v ov iv u Q I ro ri rv h
 ·cases ro
  exact qHY I hH hl ri rv fun s' I'=>⟨_,I',q⟩
theorem bG {W:WX} {E:Ends} {ρ ρ3:List Addr} {H H3:Hp} {env:Env} {h3:AH} {σ:L2.St} {k:Nat} {ky:Ky} {d:D} {v vx vy:V} (s:RepS X.K ρ H env σ) (e:Step ρ H ρ3 H3) (r3:RepH X.K ρ3 h3 H3) (hvx:RepV X.K ρ3 H3 (.ref k) vx) (hvy:RepV X.K ρ3 H3 (kyD ky) vy) (hv:RepV X.K ρ3 H3 d v)
  (q:PostS X.K W E ρ H (SR.ofR env (kI d k ky h3) fun _ h2=>.nx env h2)):lC vx vy v H3 fun H'=>E.nx σ H':=by
 have q:PostS X.K W E ρ H (SR.ofR env (match h3[k]? with | some (.dct kvs)=>(if kvs.length<16777216 then .ok () (h3.set k (.dct (zU kvs ky d))) else .bad) | _=>.bad) fun _ h2=>.nx env h2):=q
 cases hk:h3[k]? with
 | none=>rw [hk] at q;exact False.elim q
 | some ob =>
  rw [hk] at q
  cases ob with
  | dct kvs =>
   by_cases z:kvs.length<16777216
   ·have q:PostS X.K W E ρ H (SR.ofR env (if kvs.length<16777216 then .ok () (h3.set k (.dct (zU kvs ky d))) else .bad) fun _ h2=>.nx env h2):=q
    rw [if_pos z] at q
    obtain ⟨a,vs,rfl,ha,hH,hl⟩:=r3.dict hk hvx
    have hy:=uQ hvy
    subst hy
    have stp:Step ρ3 H3 ρ3 (upd H3 a (.dK (L2.putK vs (kyV ky) v))):=Step.turn hH rfl (List.mem_of_getElem? ha)
    refine .inr ⟨a,vs,kyV ky,rfl,rfl,hH,by rw [← hl.length,zJ];exact z,?_⟩
    exact q ρ3 _ σ (e.trans stp) (r3.setDict hk ha hH (hl.put ky hv)) (s.mono (e.trans stp))
   ·have q:PostS X.K W E ρ H (SR.ofR env (if kvs.length<16777216 then .ok () (h3.set k (.dct (zU kvs ky d))) else .bad) fun _ h2=>.nx env h2):=q
    rw [if_neg z] at q
    exact False.elim q
  | _=>exact (show False from q).elim
theorem qCT {o i e:Expr} {ca ci ce:CE} {pos pos':Pos} (ho:PE X o (tD X.K W (den F ca))) (hi:PE X i (tD X.K W (den F ci))) (he:PE X e (tD X.K W (den F ce))) (ha:∀ v,assign (.Subscript o i pos') X.env v=(do
      let ov ← holding [v] (eval o X.env)
      let iv ← holding [v,ov] (eval i X.env)
      standAt pos'
      holding [v,ov,iv] (setItem ov iv v)
      release [v,ov,iv] [])) (hs:swapsWithSole [.Subscript o i pos'] e pos.line X.env=pure false) (hw:swappedStores [.Subscript o i pos'] e X.env=pure none):PS X (.Assign [.Subscript o i pos'] e pos) (tDS X.K W (qA F B (.setIx ca ci ce))):=by
  refine PS.imp (L2.ps_asg he (L2.pg_sub ho hi qCG ha) hs hw) fun E σ H t=>?_
  obtain ⟨ρ,env,h,s,r,p⟩:=t
  rw [qA] at p
  refine ⟨ρ,env,h,s,r,PostS.ofR s p fun ρ1 h1 d H1 e1 r1 q v hv=>⟨ρ1,env,h1,s.mono e1,r1,?_⟩⟩
  have q:PostS X.K W E ρ1 H1 (SR.ofR env ((den F ca env h1).bind fun x g=>((den F ci env).bind fun y=>vM d x y) g) fun _ h2=>.nx env h2):=q
  cases z:den F ca env h1 with
  | ok x h2 =>
    rw [z] at q
    have q:PostS X.K W E ρ1 H1 (SR.ofR env ((den F ci env h2).bind fun y g=>vM d x y g) fun _ h2=>.nx env h2):=q
    intro ρ2 H2 e2 r2 vx hvx
    refine ⟨ρ2,env,h2,(s.mono e1).mono e2,r2,?_⟩
    cases z2:den F ci env h2 with
    | ok y h3 =>
      rw [z2] at q
      have q:PostS X.K W E ρ1 H1 (SR.ofR env (vM d x y h3) fun _ h2=>.nx env h2):=q
      intro ρ3 H3 e3 r3 vy hvy
      cases x with
      | ref k =>
        cases y with
        | int j =>
          have q:PostS X.K W E ρ1 H1 (SR.ofR env (match h3[k]? with | some (.lst xs)=>(match ixN xs.length j with | some p=>.ok () (h3.set k (.lst (xs.set p d))) | none=>.bad) | _=>kI d k (.int j) h3) fun _ h2=>.nx env h2):=q
          have e13:=e2.trans e3
          cases hk:h3[k]? with
          | none =>
            rw [hk] at q
            exact bG (ky:=.int j) (s.mono e1) e13 r3 (hvx.mono e3 _ _) hvy (hv.mono e13 _ _) q
          | some ob =>
            rw [hk] at q
            cases ob with
            | lst xs =>
              have q:PostS X.K W E ρ1 H1 (SR.ofR env (match ixN xs.length j with | some p=>.ok () (h3.set k (.lst (xs.set p d))) | none=>.bad) fun _ h2=>.nx env h2):=q
              cases hx:ixN xs.length j with
              | none=>rw [hx] at q;exact False.elim q
              | some n =>
                rw [hx] at q
                cases hvy
                obtain ⟨a,vs,rfl,ha',hH,hl⟩:=r3.own hk (hvx.mono e3 _ _)
                have stp:Step ρ3 H3 ρ3 (upd H3 a (.lst (vs.set n v))):=Step.turn hH rfl (List.mem_of_getElem? ha')
                refine .inl ⟨a,vs,j,n,rfl,rfl,hH,by rw [qFf,hl.length];exact hx,?_⟩
                exact q ρ3 _ σ (e13.trans stp) (r3.setList hk ha' hH (RepL.set ((hv.mono e13 _ _)) n hl)) ((s.mono e1).mono (e13.trans stp))
            | _=>exact bG (ky:=.int j) (s.mono e1) e13 r3 (hvx.mono e3 _ _) hvy (hv.mono e13 _ _) q
        | str j=>exact bG (ky:=.str j) (s.mono e1) (e2.trans e3) r3 (hvx.mono e3 _ _) hvy (hv.mono (e2.trans e3) _ _) q
        | _=>exact (show False from q).elim
      | _=>exact (show False from q).elim
    | exc c h3 =>
      rw [z2] at q
      exact fun ρ' H' e' r'=>q ρ' H' σ (e2.trans e') r' ((s.mono e1).mono (e2.trans e'))
    | bad=>rw [z2] at q;exact q
  | exc c h2 =>
    rw [z] at q
    exact fun ρ' H' e' r'=>q ρ' H' σ e' r' ((s.mono e1).mono e')
  | bad=>rw [z] at q;exact q
end
end Fy
set_option Elab.async false
set_option linter.all false
set_option maxRecDepth 100000
set_option maxHeartbeats 4000000
namespace Fy
open PySem PySem.Spec PyProof.Rows
open L2 (V Hp HO VK TE TT TA TS TI Cx Inv RelV Vals SqL SqT Rd upd qF qD PE PT PA PS PSs EP OpR CallR IxR MtR SlR PO TO PI PG PIE Turn qJ Ends)
inductive GK where
 | fn (i:Nat) | con (d:D) | blt | exc (c:Nat) | cls (c f:Nat)
structure Cc where
 N:List Str
 sc:Scope
 G:List (Str × GK)
 xs:List (Nat × List Nat)
 calm:Bool
 rs:Bool
 M:List (Str × Nat × List (Nat × Nat))
 A:List (Str × Nat × List Nat)
noncomputable def Cc.slot (c:Cc) (x:Str):Option Nat:=match c.sc.names.lookup x with
 | some .local=>if x == "__debug__" || x == "__classdict__" then none else c.N.idxOf? x
 | some .cell=>if x == "__debug__" || x == "__classdict__" then none else c.N.idxOf? x
 | some .free=>if x == "__debug__" || x == "__classdict__" then none else c.N.idxOf? x
 | _=>none
noncomputable def Cc.own (c:Cc) (x:Str):Option Nat:=match c.sc.names.lookup x with
 | some .local=>c.N.idxOf? x
 | some .cell=>c.N.idxOf? x
 | _=>none
noncomputable def Cc.glob (c:Cc) (x:Str):Option GK:=match c.sc.names.lookup x with
 | some .globalImplicit=>if x == "__debug__" || x == "__name__" then none else c.G.lookup x
 | _=>none
noncomputable def Cc.isB (c:Cc) (x:Str):Bool:=match c.glob x with
 | some .blt=>true
 | _=>false
noncomputable def Cc.loc (c:Cc) (x:Str):Option Nat:=match c.sc.names.lookup x with
 | some .local=>c.N.idxOf? x
 | _=>none
noncomputable def rQ:Const→Option CE
 | .none=>some (.lit .non)
 | .bool b=>some (.lit (.bl b))
 | .int i=>some (.lit (.int i))
 | .str s=>some (.lit (.str s.cps.toList))
 | _=>none
noncomputable def rX:Operator→Option Bi
 | .Add=>some .add | .Sub=>some .sub | .Mult=>some .mul | .FloorDiv=>some .fdiv | .Mod=>some .mod | .Pow=>some .pow
 | _=>none
noncomputable def gR:CmpOp→Option Bi
 | .Eq=>some .eq | .NotEq=>some .ne | .Lt=>some .lt | .LtE=>some .le | .Gt=>some .gt | .GtE=>some .ge | .In=>some .isin | .NotIn=>some .notin
 | _=>none
noncomputable def bi1 (x:Str):Option Un:=if x="len" then some .len else if x="int" then some .int else if x="tuple" then some .tuple else none
noncomputable def dG (x:Str):Option Un:=if x="sorted" then some .sorted else none
noncomputable def bi2 (x:Str):Option Bi:=if x="min" then some .min2 else if x="max" then some .max2 else none
noncomputable def tyN (x:Str):Option Ty:=if x="int" then some .int else if x="str" then some .str else if x="bool" then some .bool else if x="list" then some .list else if x="tuple" then some .tuple else none
noncomputable def me1 (x:Str):Option Bi:=if x="append" then some .append else if x="join" then some .join else if x="get" then some .get else if x="pop" then some .pop else if x="extend" then some .extend else none
noncomputable def qU:Expr→Bool
 | .Starred _ _=>false
 | _=>true
noncomputable def uK:Expr→Bool
 | .Slice _ _ _ _=>false
 | _=>true
noncomputable def kJ:Expr→Bool
 | .Call (.Name _ _) [] [] _=>false
 | _=>true
noncomputable def lF:Expr→Bool
 | .UnaryOp _ _ _=>false
 | .BoolOp _ _ _=>false
 | .IfExp _ _ _ _=>false
 | .Compare _ _ _ _=>false
 | _=>true
noncomputable def wV:Expr→Bool
 | .Set _ _ _=>false
 | _=>true
noncomputable def cB:Expr→Option Bool
 | .Constant (.bool b) _ _=>some b
 | _=>none
noncomputable def isNone:Expr→Bool
 | .Constant .none _ _=>true
 | _=>false
noncomputable def iZ (scope sc:Scope):Scope:={ scope with names:=scope.names.map fun (n,k)=>if (k == .free&&sc.kind == .function&&sc.names.lookup n == some .cell) then (n,.cell) else (n,k) }
noncomputable def Cc.inner (c:Cc) (x:Str) (scope:Scope):Cc:=⟨zV c.N x++[x],iZ scope c.sc,c.G,c.xs,c.calm,false,c.M,c.A⟩
noncomputable def Cc.compOk (c:Cc) (x:Str) (scope:Scope):Bool :=
 decide (scope.kind=.function)&&scope.names.all (fun y=>decide (y.2≠.cell))&&scope.names.all (fun y=>decide (y.2=.local→scope.names.lookup y.1=some .local))&&decide (scope.names.lookup x=some .local)
 &&scope.names.all (fun y=>decide (y.2=.free→c.sc.names.lookup y.1=some .cell∨c.sc.names.lookup y.1=some .free))&&(decide (x≠noN)&&(decide (x∉c.N) || (decide (noN∉c.N)&&decide (scope.names.lookup noN=none))))&&scope.names.all (fun y=>decide (y.1≠x→y.2=.local→y.1∉c.N))
noncomputable def qL {α:Type} (b:Bool) (x:α):Option α:=match b with
 | true=>some x
 | false=>none
theorem qM {α:Type} {b:Bool} {x r:α} (h:qL b x=some r):b=true∧x=r:=by
 cases b with
 | true=>exact ⟨rfl,Option.some.inj h⟩
 | false=>cases h
theorem qC {α β:Type} {o:Option α} {f:α→Option β} {r:β} (h:o.bind f=some r):∃ a,o=some a∧f a=some r:=by
 cases o with
 | none=>cases h
 | some a=>exact ⟨a,rfl,h⟩
structure Rc where
 e:Cc→Expr→Option CE
 cmp:Cc→Expr→CmpOp→Expr→Option CE
 b:Cc→Str→List Expr→Option CE
 l:Cc→List Expr→Option CL
 o:Cc→Option Expr→Option CP
 t:Cc→Expr→Option CT
 tb:Cc→BoolOp→List Expr→Option CT
 i:Cc→Expr→Option CI
noncomputable def bX:Expr→Option (Option Expr × Option Expr)
 | .Slice lo hi st _=>match st with
  | none=>some (lo,hi)
  | some _=>none
 | _=>none
theorem qFt {b:Expr} {q:Option Expr × Option Expr} (h:bX b=some q):∃ p,b=.Slice q.1 q.2 none p:=by
 cases b with
 | Slice l u s p =>
  cases s with
  | none=>cases h;exact ⟨p,rfl⟩
  | some _=>cases h
 | _=>cases h
noncomputable def qFx:Expr→Bool
 | .Constant (.int i) _ _=>decide (i=1)
 | _=>false
noncomputable def qFy:Expr→Bool
 | .UnaryOp .USub a _=>qFx a
 | _=>false
noncomputable def nK:Expr→Bool
 | .Slice none none (some e) _=>qFy e
 | _=>false
noncomputable def isS:Expr→Option Str
 | .Constant k _ _=>match k with
  | .str s=>some s
  | _=>none
 | _=>none
theorem qFu {b:Expr} {s:Str} (h:isS b=some s):∃ j p,b=.Constant (.str s) j p:=by
 cases b with
 | Constant k j p =>
  cases k with
  | str s=>cases h;exact ⟨j,p,rfl⟩
  | _=>cases h
 | _=>cases h
noncomputable def uS:Expr→Option Str
 | .Name x _=>some x
 | _=>none
theorem cA {b:Expr} {s:Str} (h:uS b=some s):∃ p,b=.Name s p:=by
 cases b with
 | Name x p=>cases h;exact ⟨p,rfl⟩
 | _=>cases h
structure Gn where
 x:Str
 p:Pos
 iter:Expr
 ifs:List Expr
noncomputable def vS:List Comprehension→Option Gn
 | []=>none
 | g::r=>match r with
  | []=>match g.target with
   | .Name x p=>qL (decide (g.is_async=0)) ⟨x,p,g.iter,g.ifs⟩
   | _=>none
  | _::_=>none
theorem nO {gs:List Comprehension} {q:Gn} (h:vS gs=some q):gs=[⟨.Name q.x q.p,q.iter,q.ifs,0⟩]:=by
 cases gs with
 | nil=>cases h
 | cons g r =>
  cases r with
  | cons _ _=>cases h
  | nil =>
   obtain ⟨t,it,f,a⟩:=g
   cases t with
   | Name x p =>
    obtain ⟨h1,rfl⟩:=qM h
    have h2:a=0:=of_decide_eq_true h1
    subst h2
    rfl
   | _=>cases h
noncomputable def aY (c:Cc) (x:Str):Option CE:=match c.slot x with
 | some i=>some (.var i)
 | none=>match c.glob x with
  | some (.con d)=>some (.lit d)
  | _=>none
noncomputable def sUn (r:Rc) (c:Cc) (a:Expr):UnaryOp→Option CE
 | .Not=>(r.e c a).bind fun x=>some (.not x)
 | .USub=>(r.e c a).bind fun x=>some (.un .neg x)
 | _=>none
noncomputable def iO (r:Rc) (c:Cc) (op:BoolOp) (pos:Pos):List Expr→Option CE
 | []=>none
 | a::es=>match es with
  | []=>r.e c a
  | b::es=>(r.e c a).bind fun x=>(r.e c (.BoolOp op (b::es) pos)).bind fun y=>some (match op with | .And=>.and x y | .Or=>.or x y)
noncomputable def iL (r:Rc) (c:Cc) (a:Expr) (op op':CmpOp) (b d:Expr):Option CE :=
 (gR op).bind fun o=>(gR op').bind fun p=>(r.e c a).bind fun x=>(r.e c b).bind fun y=>(r.e c d).bind fun z=>qL (!lastMarks [op,op'] [b,d]) (.chain o p x y z)
noncomputable def aZ (r:Rc) (c:Cc) (a:Expr) (ops:List CmpOp) (cs:List Expr):Option CE:=match ops with
 | []=>none
 | op::ops=>match cs with
  | []=>none
  | b::cs=>match ops with
   | []=>match cs with
    | []=>r.cmp c a op b
    | _::_=>none
   | op'::ops=>match ops with
    | _::_=>none
    | []=>match cs with
     | []=>none
     | d::cs=>match cs with
      | []=>iL r c a op op' b d
      | _::_=>none
noncomputable def aV (r:Rc) (c:Cc) (a b:Expr):Option CE:=match nK b with
 | true=>none
 | false=>match bX b with
  | some q=>(r.e c a).bind fun x=>(r.o c q.1).bind fun l=>(r.o c q.2).bind fun u=>some (.sl x l u)
  | none=>(r.e c a).bind fun x=>(r.e c b).bind fun y=>qL (uK b) (.bi .ix x y)
noncomputable def iM (r:Rc) (c:Cc) (x:Str) (es:List Expr):Option GK→Option CE
 | some (.fn i)=>match es with
  | []=>qL c.calm (.call i .nil)
  | e::es=>(r.l c (e::es)).bind fun l=>qL c.calm (.call i l)
 | some .blt=>r.b c x es
 | some (.cls k f)=>match es with
  | []=>qL c.calm (.make k f .nil)
  | e::es=>(r.l c (e::es)).bind fun l=>qL c.calm (.make k f l)
 | _=>none
noncomputable def iH (r:Rc) (c:Cc) (m:Str) (ok:Bool) (x:CE) (es:List Expr):Option (Nat × List (Nat × Nat))→Option CE
 | some q=>match es with
  | []=>qL (c.calm&&ok) (.meth q.1 q.2 x .nil)
  | e::es=>(r.l c (e::es)).bind fun l=>qL (c.calm&&ok&&decide (es.length<20)) (.meth q.1 q.2 x l)
 | none=>match es with
  | []=>none
  | b::es=>match es with
   | []=>(me1 m).bind fun o=>(r.e c b).bind fun y=>qL (ok&&qU b) (.me o x y)
   | d::es=>match es with
    | []=>match decide (m="setdefault") with
     | true=>(r.e c b).bind fun y=>(r.e c d).bind fun z=>qL (ok&&qU b&&qU d) (.setd x y z)
     | false=>match decide (m="get") with
      | true=>none
      | false=>none
    | _::_=>none
noncomputable def iN (r:Rc) (c:Cc) (f:Expr) (es:List Expr) (ks:List Keyword) (p:Pos):Option CE:=match ks with
 | _::_=>none
 | []=>match f with
  | .Name x _=>iM r c x es (c.glob x)
  | .Attribute a m ap=>(r.e c a).bind fun x=>iH r c m (kJ a&&(ap.endLine == p.line)) x es (c.M.lookup m)
  | _=>none
noncomputable def uE (r:Rc) (c:Cc) (elt:Expr) (scope:Scope) (q:Gn):Option CE:=match q.ifs with
 | []=>(r.i c q.iter).bind fun it=>(r.e (c.inner q.x scope) elt).bind fun y=>qL (c.calm&&c.compOk q.x scope) (.comp y it)
 | t::ts=>match ts with
  | []=>(r.i c q.iter).bind fun it=>(r.t (c.inner q.x scope) t).bind fun z=>(r.e (c.inner q.x scope) elt).bind fun y=>qL (c.calm&&c.compOk q.x scope) (.compIf y z it)
  | _::_=>none
noncomputable def jF:Expr→Bool
 | .Name x _=>decide (x="sides"∨x="_law_come")
 | .Attribute _ f _=>decide (f="givers"∨f="takers")
 | _=>false
noncomputable def bA (r:Rc) (c:Cc) (elt:Expr) (scope:Scope) (q:Gn):Option CE:=match q.ifs with
 | []=>none
 | t::ts=>match ts with
  | []=>(r.e c q.iter).bind fun d=>(r.t (c.inner q.x scope) t).bind fun z=>(r.e (c.inner q.x scope) elt).bind fun y=>qL (c.calm&&c.compOk q.x scope) (.compD y z d)
  | _::_=>none
noncomputable def wU (r:Rc) (c:Cc) (elt:Expr) (scope:Scope) (gens:List Comprehension):Option CE:=match vS gens with
 | some q=>match jF q.iter with
  | true=>bA r c elt scope q
  | false=>uE r c elt scope q
 | none=>none
noncomputable def lA:Option Expr→Option Ky
 | none=>none
 | some e=>match e with
  | .Constant k _ _=>match k with
   | .str s=>some (.str s.cps.toList)
   | .int i=>some (.int i)
   | _=>none
  | _=>none
noncomputable def bF:List (Option Expr)→Option (List Ky)
 | []=>some []
 | k::ks=>(lA k).bind fun x=>(bF ks).bind fun xs=>some (x::xs)
noncomputable def bE (r:Rc) (c:Cc):List Expr→Option CL
 | []=>some .nil
 | e::es=>(r.e c e).bind fun x=>(bE r c es).bind fun l=>some (.cons x l)
noncomputable def iJ (r:Rc) (c:Cc) (keys:List (Option Expr)) (values:List Expr):Option CE :=
 (bF keys).bind fun ks=>(bE r c values).bind fun l=>qL (decide (keys.length=values.length)&&decide (keys.length≤15)) (.disp ks l)
noncomputable def eS (r:Rc) (c:Cc):Expr→Option CE
 | .Constant k _ _=>rQ k
 | .Name x _=>aY c x
 | .BinOp a op b _=>(rX op).bind fun o=>(r.e c a).bind fun x=>(r.e c b).bind fun y=>some (.bi o x y)
 | .UnaryOp op a _=>sUn r c a op
 | .BoolOp op es pos=>iO r c op pos es
 | .Compare a ops cs _=>aZ r c a ops cs
 | .Tuple es _ _=>(r.l c es).bind fun l=>some (.tup l)
 | .List es _=>(r.l c es).bind fun l=>some (.lst l)
 | .Subscript a b _=>aV r c a b
 | .Dict keys values _=>iJ r c keys values
 | .Call f es ks p=>iN r c f es ks p
 | .Attribute a f _=>(c.A.lookup f).bind fun k=>(r.e c a).bind fun x=>qL (kJ a) (.un (.fld k.1) x)
 | .ListComp elt gens scope _=>wU r c elt scope gens
 | _=>none
noncomputable def sIs (u:Un) (v:Bool→Un) (x:CE) (b:Expr):Option CE:=match isNone b with
 | true=>some (.un u x)
 | false=>(cB b).bind fun k=>some (.un (v k) x)
noncomputable def iK (r:Rc) (c:Cc) (a:Expr) (op:CmpOp) (b:Expr):Option CE:=(gR op).bind fun o=>(r.e c a).bind fun x=>(r.e c b).bind fun y=>qL (!behindInMarks op b) (.bi o x y)
noncomputable def rG (r:Rc) (c:Cc) (a:Expr) (op:CmpOp) (b:Expr):Option CE:=match op with
 | .Is=>(r.e c a).bind fun x=>sIs .isN .isB x b
 | .IsNot=>(r.e c a).bind fun x=>sIs .notN .nsB x b
 | op=>iK r c a op b
noncomputable def iI (r:Rc) (c:Cc) (a:Expr) (y:Str):Option CE:=(r.e c a).bind fun z=>match tyN y with
 | some t=>qL (qU a&&c.isB y) (.un (.isi t) z)
 | none=>none
noncomputable def sB1 (c:Cc) (x:Str) (a:Expr) (y:CE):Option CE:=match bi1 x with
 | some o=>qL (qU a) (.un o y)
 | none=>(dG x).bind fun o=>qL (qU a&&c.calm) (.un o y)
noncomputable def sB2 (r:Rc) (c:Cc) (x:Str) (a b:Expr):Option CE:=(bi2 x).bind fun o=>(r.e c a).bind fun u=>(r.e c b).bind fun v=>qL (qU a&&qU b&&c.calm) (.bi o u v)
noncomputable def bZ:Expr→Option (List Expr)
 | .Call f es ks _=>match ks with
  | []=>match f with
   | .Name x _=>qL (decide (x="range")) es
   | _=>none
  | _::_=>none
 | _=>none
theorem qFw {e:Expr} {es:List Expr} (h:bZ e=some es):∃ p q,e=.Call (.Name "range" p) es [] q:=by
 cases e with
 | Call f es ks q =>
  cases ks with
  | cons _ _=>cases h
  | nil =>
   cases f with
   | Name x p =>
    obtain ⟨h1,rfl⟩:=qM h
    rw [of_decide_eq_true h1]
    exact ⟨p,q,rfl⟩
   | _=>cases h
 | _=>cases h
noncomputable def bS (r:Rc) (c:Cc) (x:Str):List Expr→Option CE
 | []=>none
 | a::es=>match es with
  | []=>(r.e c a).bind fun y=>sB1 c x a y
  | b::es=>match es with
   | []=>match decide (x="isinstance") with
    | true=>(uS b).bind fun y=>iI r c a y
    | false=>sB2 r c x a b
   | _::_=>none
noncomputable def lS (r:Rc) (c:Cc):List Expr→Option CL
 | []=>some .nil
 | e::es=>(r.e c e).bind fun x=>(r.l c es).bind fun l=>qL (qU e) (.cons x l)
noncomputable def oS (r:Rc) (c:Cc):Option Expr→Option CP
 | none=>some .no
 | some e=>(r.e c e).bind fun x=>some (.at x)
noncomputable def sT (r:Rc) (c:Cc) (e:Expr):Option CT:=(r.e c e).bind fun x=>qL (lF e) (.val x)
noncomputable def tS (r:Rc) (c:Cc) (e:Expr):Option CT:=match e with
 | .UnaryOp op a _=>match op with
  | .Not=>(r.t c a).bind fun x=>some (.not x)
  | _=>none
 | .BoolOp op es _=>r.tb c op es
 | .Compare a ops cs _=>(aZ r c a ops cs).bind fun x=>some (.val x)
 | e=>sT r c e
noncomputable def tbS (r:Rc) (c:Cc) (op:BoolOp):List Expr→Option CT
 | []=>none
 | a::es=>match es with
  | []=>r.t c a
  | b::es=>(r.t c a).bind fun x=>(r.tb c op (b::es)).bind fun y=>some (match op with | .And=>.and x y | .Or=>.or x y)
noncomputable def sRg (r:Rc) (c:Cc):List Expr→Option CI
 | []=>none
 | a::es=>match es with
  | []=>(r.e c a).bind fun y=>qL (qU a&&c.isB "range") (.rng1 y)
  | b::es=>match es with
   | []=>(r.e c a).bind fun y=>(r.e c b).bind fun z=>qL (qU a&&qU b&&c.isB "range") (.rng2 y z)
   | _::_=>none
noncomputable def iS (r:Rc) (c:Cc) (e:Expr):Option CI:=match bZ e with
 | some es=>sRg r c es
 | none=>(r.e c e).bind fun y=>qL (wV e) (.of y)
noncomputable def qEP (r:Rc):Rc:=⟨eS r,rG r,bS r,lS r,oS r,tS r,tbS r,iS r⟩
noncomputable def rcN:Nat→Rc
 | 0=>⟨fun _ _=>none,fun _ _ _ _=>none,fun _ _ _=>none,fun _ _=>none,fun _ _=>none,fun _ _=>none,fun _ _ _=>none,fun _ _=>none⟩
 | n+1=>qEP (rcN n)
noncomputable def nQ:Expr→Bool
 | .ListComp _ gs _ _=>match vS gs with
  | some q=>decide (q.ifs.length≤1)&&!jF q.iter
  | none=>false
 | _=>false
noncomputable def wW:Expr→Bool
 | .ListComp _ _ _ _=>false
 | .SetComp _ _ _ _=>false
 | .DictComp _ _ _ _ _=>false
 | _=>true
noncomputable def Cc.still (c:Cc):Cc:={ c with rs:=false }
noncomputable def Cc.dull (c:Cc):Cc:={ c with rs:=false,calm:=false }
structure Rs where
 s:Cc→Stmt→Option CS
 ss:Cc→List Stmt→Option CS
 h:Cc→List ExceptHandler→Option CH
noncomputable def iG (r:Rc) (c:Cc) (e:Expr):Expr→Option CS
 | .Name x _=>(c.own x).bind fun i=>(r.e c e).bind fun y=>qL (wW e || nQ e) (.set (.nm i) y)
 | .Attribute o f _=>(c.A.lookup f).bind fun k=>(r.e c o).bind fun x=>(r.e c e).bind fun y=>qL (wW e) (.setF x k.1 k.2 y)
 | .Subscript o i _=>(r.e c o).bind fun x=>(r.e c i).bind fun z=>(r.e c e).bind fun y=>qL (wW e&&uK i) (.setIx x z y)
 | _=>none
noncomputable def yB (c:Cc):Expr→Option TG
 | .Name x _=>(c.own x).bind fun i=>some (.nm i)
 | _=>none
noncomputable def bY:Expr→Option Str
 | .Call f es ks _=>match ks with
  | []=>match es with
   | [k]=>(isS k).bind fun _=>uS f
   | _=>none
  | _::_=>none
 | _=>none
theorem qFv {e:Expr} {x:Str} (h:bY e=some x):∃ p s j q z,e=.Call (.Name x p) [.Constant (.str s) j q] [] z:=by
 cases e with
 | Call f es ks z =>
  cases ks with
  | cons _ _=>cases h
  | nil =>
   cases es with
   | nil=>cases h
   | cons k es =>
    cases es with
    | cons _ _=>cases h
    | nil =>
     obtain ⟨s,h1,h2⟩:=qC h
     obtain ⟨j,q,rfl⟩:=qFu h1
     obtain ⟨p,rfl⟩:=cA h2
     exact ⟨p,s,j,q,z,rfl⟩
 | _=>cases h
noncomputable def aW (c:Cc) (x:Str):Option CS:=match c.glob x with
 | some (.exc i)=>qL (c.rs&&c.calm) (.raise i)
 | _=>none
noncomputable def iF (q:Rs) (c:Cc) (a:List Stmt) (hs:List ExceptHandler) (els fin:List Stmt):Option CS:=match hs with
 | []=>none
 | h::hs=>match els with
  | _::_=>none
  | []=>match fin with
   | _::_=>none
   | []=>(q.ss c.still a).bind fun x=>(q.h c (h::hs)).bind fun y=>qL c.calm (.tryx x y)
noncomputable def uD (r:Rc) (q:Rs) (c:Cc) (tg e:Expr) (a:List Stmt):Option CS:=(yB c tg).bind fun t=>match t with
 | .nm i=>(r.e c e).bind fun z=>(q.ss c.still a).bind fun y=>qL c.calm (.forD i z y)
 | _=>none
noncomputable def stS (r:Rc) (q:Rs) (c:Cc):Stmt→Option CS
 | .Assign ts e _=>match ts with
  | [t]=>iG r c e t
  | _=>none
 | .Expr e _=>(r.e c e).bind fun y=>qL (wW e) (.exp y)
 | .Return v _=>match v with
  | some e=>(r.e c e).bind fun y=>some (.ret y)
  | none=>some .retN
 | .Pass _=>some .skip
 | .Break _=>some .brk
 | .Continue _=>some .cnt
 | .If t a b _=>(r.t c t).bind fun z=>(q.ss c a).bind fun x=>(q.ss c b).bind fun y=>some (.ite z x y)
 | .While t a els _=>match els with
  | []=>(r.t c.still t).bind fun z=>(q.ss c.still a).bind fun x=>some (.whil z x)
  | _::_=>none
 | .For tg it a els _=>match els with
  | []=>match jF it with
   | true=>uD r q c tg it a
   | false=>(yB c tg).bind fun t=>(r.i c it).bind fun z=>(q.ss c.still a).bind fun y=>qL c.calm (.fori t z y)
  | _::_=>none
 | .Raise x y _=>match y with
  | some _=>none
  | none=>match x with
   | none=>none
   | some e=>(bY e).bind fun x=>aW c x
 | .Try a hs els fin _=>iF q c a hs els fin
 | _=>none
noncomputable def ssS (q:Rs) (c:Cc):List Stmt→Option CS
 | []=>some .skip
 | s::r=>match r with
  | []=>some ((q.s c s).getD .opq)
  | t::r=>(q.ss c (t::r)).bind fun y=>some (.seq ((q.s c s).getD .opq) y)
noncomputable def sH (q:Rs) (c:Cc) (i:Nat) (nm:Option Str) (b:List Stmt) (r:List ExceptHandler):Option CH:=match b with
 | []=>none
 | s::b=>(c.xs.lookup i).bind fun cs=>(q.ss c.dull (s::b)).bind fun k=>(q.h c r).bind fun z=>match nm with
  | none=>some (.cons cs k z)
  | some m=>(c.loc m).bind fun j=>some (.as cs j k z)
noncomputable def hS (q:Rs) (c:Cc):List ExceptHandler→Option CH
 | []=>some .nil
 | .ExceptHandler ty nm b _::r=>match ty with
  | none=>none
  | some t=>(uS t).bind fun x=>match c.glob x with
   | some (.exc i)=>sH q c i nm b r
   | _=>none
noncomputable def qEO (r:Rc) (q:Rs):Rs:=⟨stS r q,ssS q,hS q⟩
noncomputable def rsN:Nat→Rs
 | 0=>⟨fun _ _=>none,fun _ _=>none,fun _ _=>none⟩
 | n+1=>qEO (rcN n) (rsN n)
noncomputable def cSs (c:Cc) (n:Nat) (b:List Stmt):Option CS:=(rsN n).ss c b
end Fy
set_option Elab.async false
set_option linter.all false
set_option maxRecDepth 100000
set_option maxHeartbeats 4000000
namespace Fy
open PySem PySem.Spec PyProof.Rows
open L2 (V Hp HO VK TE TT TA TS TI Cx Inv RelV Vals SqL SqT Rd upd qF qD PE PT PA PS PSs EP OpR CallR IxR MtR SlR PO TO PI PG PIE Turn qJ Ends)
noncomputable def GOk (X:Cx) (F:Nat→List D→M D) (k:Nat) (ex:Nat→Option Addr) (x:Str):GK→Prop
 | .fn i=>∃ f fd ps,X.mg x=some (.ref f)∧PySem.W.keepIn X.K (.ref f)=true∧L2.Binds X.K fd ps []∧L2.FnOk X.prog X.w X.K X.mg X.base (CXD X.prog X.w ex) k f fd ps (spD X.K (F i))
 | .con d=>∃ v u,X.mg x=some u∧RelV v u∧∀ ρ H,RepV X.K ρ H d v
 | .blt=>X.mg x=none
 | .exc c=>∃ C,X.mg x=some (.ref C)∧ex c=some C∧vE X.K C=true
 | .cls c i=>∃ C f fd ps,X.mg x=some (.ref C)∧qZ X.K c C∧L2.Cls X.K C∧L2.Mk X.K C f∧L2.Binds X.K fd ps []∧L2.FnOk X.prog X.w X.K X.mg X.base (CXD X.prog X.w ex) k f fd ps (spD X.K (F i))
structure Body (X:Cx) (c:Cc) (F:Nat→List D→M D) (k:Nat) (ex:Nat→Option Addr) (W:WX):Prop where
 N:X.N=c.N
 nd:c.N.Nodup
 sc:X.env.scope=c.sc
 calm:c.calm=true→X.calm=true
 room:c.calm=true→L2.Room (k+1) X.A
 hu:X.A.units+64<cLine
 glob:∀ x g,c.G.lookup x=some g→GOk X F k ex x g
 xq:∀ i cs xl C j D,c.xs.lookup i=some cs→c.xs.lookup 1=some xl→ex i=some C→qZ X.K j D→xl.contains j=true→PySem.W.kitOne X.K (.ref D) (.ref C)=some (cs.contains j)
 xv:∀ cs xl j D,c.xs.lookup 0=some cs→c.xs.lookup 1=some xl→qZ X.K j D→xl.contains j=true→PySem.W.kitOne X.K (.ref D) (.type "ValueError")=some (cs.contains j)
 mt:∀ m mk tb,c.M.lookup m=some (mk,tb)→m=qI mk∧mk<256 ^ 60∧aH X F k ex m tb
 at':∀ f kk cs,c.A.lookup f=some (kk,cs)→f=qI kk∧kk<256 ^ 60∧∀ cc C,cs.contains cc=true→qZ X.K cc C→L2.NoAttr X.K C (qI kk)
 xg:∀ xl j D,c.xs.lookup 1=some xl→qZ X.K j D→xl.contains j=true→XGet X.K D
 xc:∀ pins σ H s0 e s',Inv X pins σ H s0→CXD X.prog X.w ex X.stack H s0 (fun _ co H'=>∃ c,co=some c∧W c σ H') e s'→X.xe e s'
structure BodyS (X:Cx) (c:Cc) (F:Nat→List D→M D) (k:Nat) (ex:Nat→Option Addr) (W:WX):Prop extends Body X c F k ex W where
 fn:∀ x,X.fn x=true
 stk:X.stack=X.env::X.outer∧X.env.frame=some X.env.locals
 noex:X.ex=[]
 xcl:∀ i C,ex i=some C→qZ X.K i C
 xr:c.rs=true→∀ pins σ H s a args h' i C,ex i=some C→Inv X pins σ H s→Heap.MadeExcOf s.heap h' a (.ref C) args→W i σ H→X.xe (.ref a) { s with heap:=h' }
 xm:∀ i cs C j D,c.xs.lookup i=some cs→ex i=some C→ex j=some D→PySem.W.exmOne X.K (.ref D) (.ref C)=some (cs.contains j)
theorem uW {l:List Str} {x:Str} {i:Nat} (h:l.idxOf? x=some i):l[i]?=some x:=by
 unfold List.idxOf? at h
 rw [List.findIdx?_eq_some_iff_getElem] at h
 obtain ⟨h1,h2,_⟩:=h
 rw [List.getElem?_eq_getElem h1]
 simpa using h2
theorem kG {e:Expr} {es:List Expr} {env:PySem.Env} (h:qU e=true):starEach (e::es) env=(false,eval e env)::starEach es env:=by
 cases e <;> first | rfl | cases h
theorem qBj {env:PySem.Env}:starEach [] env=[]:=rfl
theorem jC {e:Expr} {env:PySem.Env} (h:qU e=true):starEach [e] env=[(false,eval e env)]:=by rw [kG h,qBj]
theorem yU {e e':Expr} {env:PySem.Env} (h:qU e=true) (h':qU e'=true):starEach [e,e'] env=[(false,eval e env),(false,eval e' env)]:=by rw [kG h,jC h']
noncomputable def jW:List Expr→Bool
 | []=>true
 | e::es=>qU e&&jW es
theorem yT {env:PySem.Env} {pos:Pos}:∀ {es:List Expr},jW es=true→(backTo pos (starEach es env)).any (·.1)=false
 | [],_=>rfl
 | e::es,h=>by
  have h:=Bool.and_eq_true_iff.mp h
  rw [kG h.1]
  show (false || (backTo pos (starEach es env)).any (·.1))=false
  rw [yT h.2]
  rfl
theorem kE {o:Expr} {m:Str} {env:PySem.Env} {w:Sem Value} (h:kJ o=true):attributeBase o m env w=w:=by
 cases o with
 | Call f es ks pos =>
  cases f with
  | Name id p =>
   cases es with
   | nil =>
    cases ks with
    | nil=>cases h
    | cons _ _=>rfl
   | cons _ _=>rfl
  | _=>rfl
 | _=>rfl
theorem qFc {b:Expr} (h:uK b=true):L2.PlainIx b:=by
 intro o i
 cases b <;> first | rfl | cases h
section
variable {X:Cx} {c:Cc} {F:Nat→List D→M D} {k B:Nat} {ex:Nat→Option Addr} {W:WX}
theorem Body.vis (T:Body X c F k ex W) {x:Str} {i:Nat} (h:c.slot x=some i):X.N[i]?=some x∧L2.Vis X.env.scope x∧(x == ("__debug__":Str))=false∧(x == ("__classdict__":Str))=false:=by
 unfold Cc.slot at h
 rw [T.N]
 have key:∀ {kd:NameKind},c.sc.names.lookup x=some kd→(kd=.local∨kd=.cell∨kd=.free)→(if (x == ("__debug__":Str) || x == ("__classdict__":Str))=true then none else c.N.idxOf? x)=some i→c.N[i]?=some x∧L2.Vis X.env.scope x∧(x == ("__debug__":Str))=false∧(x == ("__classdict__":Str))=false:=by
  intro kd hk hd hi
  split at hi
  ·cases hi
  ·rename_i hn
   refine ⟨uW hi,?_,?_⟩
   ·unfold L2.Vis
    rw [T.sc,hk]
    rcases hd with rfl | rfl | rfl <;> simp
   ·simpa using hn
 split at h
 ·rename_i hk;exact key hk (.inl rfl) h
 ·rename_i hk;exact key hk (.inr (.inl rfl)) h
 ·rename_i hk;exact key hk (.inr (.inr rfl)) h
 ·cases h
theorem Body.loc (T:Body X c F k ex W) {x:Str} {i:Nat} (h:c.own x=some i):X.N[i]?=some x∧L2.Loc X.env.scope x:=by
 unfold Cc.own at h
 rw [T.N]
 split at h
 ·rename_i hk
  refine ⟨uW h,.inl ?_⟩
  rw [T.sc]
  exact hk
 ·rename_i hk
  refine ⟨uW h,.inr ?_⟩
  rw [T.sc]
  exact hk
 ·cases h
theorem Body.gl (T:Body X c F k ex W) {x:Str} {g:GK} (h:c.glob x=some g):L2.Gl X x∧(x == ("__debug__":Str))=false∧x≠"__name__"∧GOk X F k ex x g:=by
 unfold Cc.glob at h
 split at h
 ·rename_i hk
  split at h
  ·cases h
  ·rename_i hn
   refine ⟨?_,by revert hn;cases (x == ("__debug__":Str)) <;> simp,fun z=>hn (by simp [z]),T.glob x g h⟩
   show X.env.scope.names.lookup x=_
   rw [T.sc]
   exact hk
 ·cases h
theorem Body.nd' (T:Body X c F k ex W):X.N.Nodup:=by rw [T.N];exact T.nd
theorem qIz {op:Operator} {o:Bi} (h:rX op=some o):OpR X (binaryOp op) (rB X.K o):=by
 cases op <;> first | (cases h;first | exact qDU | exact qDH | exact qDL | exact qDS | exact qDM | exact qDI) | cases h
theorem kT (T:Body X c F k ex W) {op:CmpOp} {o:Bi} (h:gR op=some o):vT o=true∧OpR X (compareOp op) (rB X.K o):=by
 cases op <;> first
  | (cases h;exact ⟨rfl,by first | exact qDT T.hu | exact qDK T.hu | exact qDN | exact qDO | exact qDQ | exact qDR | exact qDP T.hu | exact qDJ⟩)
  | cases h
theorem qI2 (T:Body X c F k ex W) {x:Str} {o:Un} {a:Expr} {ca:CE} {p pos:Pos} (h:bi1 x=some o) (hg:c.glob x=some .blt) (ha:PE X a (tD X.K W (den F ca))) (hs:qU a=true):PE X (.Call (.Name x p) [a] [] pos) (tD X.K W (den F (.un o ca))):=by
 obtain ⟨g1,g2,g3,g4⟩:=T.gl hg
 have st:=jC (env:=X.env) hs
 have go:∀ {id:String},CallR X (.builtin id) (rC X.K o)→bootBuiltins x=some (.builtin id)→PE X (.Call (.Name x p) [a] [] pos) (tD X.K W (den F (.un o ca))):=fun hc hv =>
  cS (a:=a) (L2.pe_callB hc g1 g4 hv (L2.pa_cons ha L2.pa_nil (by rw [st];rfl)) g3 g2 (by rw [st];rfl)) fun x H Q z=>⟨x,rfl,z⟩
 have goT:∀ {id:String},CallR X (.type id) (rC X.K o)→bootBuiltins x=some (.type id)→PE X (.Call (.Name x p) [a] [] pos) (tD X.K W (den F (.un o ca))):=fun hc hv =>
  cS (a:=a) (L2.pe_callTy hc g1 g4 hv (L2.pa_cons ha L2.pa_nil (by rw [st];rfl)) g3 g2 (by rw [st];rfl)) fun x H Q z=>⟨x,rfl,z⟩
 unfold bi1 at h
 split at h
 ·rename_i e;subst e;cases h;exact go qIe (by decide +kernel)
 split at h
 ·rename_i e;subst e;cases h;exact goT qIg (by decide +kernel)
 split at h
 ·rename_i e;subst e;cases h;exact goT qIZ (by decide +kernel)
 ·cases h
theorem qI1 (T:Body X c F k ex W) (hc:c.calm=true) {x:Str} {o:Un} {a:Expr} {ca:CE} {p pos:Pos} (h:dG x=some o) (hg:c.glob x=some .blt) (ha:PE X a (tD X.K W (den F ca))) (hs:qU a=true):PE X (.Call (.Name x p) [a] [] pos) (tD X.K W (den F (.un o ca))):=by
 obtain ⟨g1,g2,g3,g4⟩:=T.gl hg
 have st:=jC (env:=X.env) hs
 have go:∀ {id:String},CallR X (.builtin id) (rC X.K o)→bootBuiltins x=some (.builtin id)→PE X (.Call (.Name x p) [a] [] pos) (tD X.K W (den F (.un o ca))):=fun hc hv =>
  cS (a:=a) (L2.pe_callB hc g1 g4 hv (L2.pa_cons ha L2.pa_nil (by rw [st];rfl)) g3 g2 (by rw [st];rfl)) fun x H Q z=>⟨x,rfl,z⟩
 unfold dG at h
 split at h
 ·rename_i e;subst e;cases h;exact go (qIa (T.calm hc)) (by decide +kernel)
 ·cases h
theorem qI0 (T:Body X c F k ex W) (hc:c.calm=true) {x:Str} {o:Bi} {a b:Expr} {ca cb:CE} {p pos:Pos} (h:bi2 x=some o) (hg:c.glob x=some .blt) (ha:PE X a (tD X.K W (den F ca))) (hb:PE X b (tD X.K W (den F cb))) (hs:qU a=true) (hs':qU b=true):PE X (.Call (.Name x p) [a,b] [] pos) (tD X.K W (den F (.bi o ca cb))):=by
 obtain ⟨g1,g2,g3,g4⟩:=T.gl hg
 have st:=yU (env:=X.env) hs hs'
 have st1:=jC (env:=X.env) hs'
 have go:∀ {id:String},CallR X (.builtin id) (rC2 X.K o)→bootBuiltins x=some (.builtin id)→PE X (.Call (.Name x p) [a,b] [] pos) (tD X.K W (den F (.bi o ca cb))):=fun hc hv =>
  qIB (L2.pe_callB hc g1 g4 hv (L2.pa_cons ha (L2.pa_cons hb L2.pa_nil (by rw [st1];rfl)) (by rw [st,st1])) g3 g2 (by rw [st,st1]) (by rw [st1];rfl)) fun x y H Q z=>⟨x,y,rfl,z⟩
 unfold bi2 at h
 split at h
 ·rename_i e;subst e;cases h;exact go (qIc (T.calm hc)) (by decide +kernel)
 split at h
 ·rename_i e;subst e;cases h;exact go (qId (T.calm hc)) (by decide +kernel)
 ·cases h
theorem qFo (T:Body X c F k ex W) {x y:Str} {t:Ty} {a:Expr} {ca:CE} {p p2 pos:Pos} (hx:x="isinstance") (ht:tyN y=some t) (hg:c.glob x=some .blt) (hy:c.isB y=true) (ha:PE X a (tD X.K W (den F ca))) (hs:qU a=true):PE X (.Call (.Name x p) [a,.Name y p2] [] pos) (tD X.K W (den F (.un (.isi t) ca))):=by
 obtain ⟨g1,g2,g3,g4⟩:=T.gl hg
 have hy':c.glob y=some .blt:=by
  unfold Cc.isB at hy
  split at hy
  ·assumption
  ·cases hy
 obtain ⟨k1,k2,k3,k4⟩:=T.gl hy'
 refine qH2 hx g1 g4 k1 k4 ?_ k3 k2 ha (yU hs rfl)
 unfold tyN at ht
 split at ht
 ·rename_i e;subst e;cases ht;decide +kernel
 split at ht
 ·rename_i e;subst e;cases ht;decide +kernel
 split at ht
 ·rename_i e;subst e;cases ht;decide +kernel
 split at ht
 ·rename_i e;subst e;cases ht;decide +kernel
 split at ht
 ·rename_i e;subst e;cases ht;decide +kernel
 ·cases ht
theorem qFg {α:Type} {p:Prop} [Decidable p] {a b r:α} (h:(if p then a else b)=r):(p∧a=r)∨(¬ p∧b=r):=by
 by_cases q:p
 ·exact .inl ⟨q,by rw [if_pos q] at h;exact h⟩
 ·exact .inr ⟨q,by rw [if_neg q] at h;exact h⟩
theorem qEh (T:Body X c F k ex W) {m:Str} {o:Bi} {a b:Expr} {ca cb:CE} {ap p:Pos} (h:me1 m=some o) (ha:PE X a (tD X.K W (den F ca))) (hb:PE X b (tD X.K W (den F cb))) (hs:qU b=true) (hsu:kJ a=true) (hl:(ap.endLine == p.line)=true):PE X (.Call (.Attribute a m ap) [b] [] p) (tD X.K W (den F (.me o ca cb))):=by
 unfold me1 at h
 rcases qFg h with ⟨e,h⟩ | ⟨_,h⟩
 ·cases h;exact qIC e ha hb (kE hsu) hl (jC hs)
 split at h
 ·rename_i e;cases h;exact qH0 e ha hb (kE hsu) hl (jC hs)
 split at h
 ·rename_i e;cases h;exact qH5 e ha hb (kE hsu) hl (jC hs)
 split at h
 ·rename_i e;cases h;exact d_pop e ha hb (kE hsu) hl (jC hs)
 split at h
 ·rename_i e;cases h;exact qH7 e ha hb (kE hsu) hl (jC hs)
 ·cases h
theorem qIH {kc:Const} {ce:CE} {j:Nat} {pos:Pos} (h:rQ kc=some ce):PE X (.Constant kc j pos) (tD X.K W (den F ce)):=by
 cases kc with
 | none=>cases h;exact yE L2.pe_non fun _ _=>rfl
 | bool b=>cases h;exact yE L2.pe_bl fun _ _=>rfl
 | int i=>cases h;exact yE L2.pe_int fun _ _=>rfl
 | str s=>cases h;exact yE L2.pe_str fun _ _=>(show V.str s=V.str ⟨s.cps.toList.toArray⟩ by simp)
 | _=>cases h
theorem qIb (T:Body X c F k ex W) (hc:c.calm=true) {x:Str} {i:Nat} {e:Expr} {es:List Expr} {cl:CL} {p pos:Pos} (h:c.glob x=some (.fn i)) (ha:PA X (e::es) (tDL X.K W (qN F cl))) (hs:jW (e::es)=true):PE X (.Call (.Name x p) (e::es) [] pos) (tD X.K W (den F (.call i cl))):=by
 obtain ⟨g1,g2,g3,f,fd,ps,hm,hk,hb,FO⟩:=T.gl h
 have hs':=Bool.and_eq_true_iff.mp hs
 intro pins s σ H Q I t
 obtain ⟨ρ,env,hh,st,r,pp⟩:=t
 rw [den] at pp
 refine wpAny_Call_Name_kw (L2.ld_glob I g1 hm ?_ g2)
 refine PySem.W.callWith_K (h₀:=X.base) I.ok.mod.kin hk (L2.thn (ha pos pins s σ H (fun vs H1=>spD X.K (F i) vs H1 Q fun _ co H'=>∃ c,co=some c∧W c σ H') I ⟨ρ,env,hh,st,r,Post.bind pp fun ρ1 h1 ds H1 e1 r1 q vs hvs=>?_⟩) fun us s1 z=>?_) (kG hs'.1) (yT hs'.2)
 ·exact ⟨ρ1,h1,ds,r1,hvs,by
   cases z:F i ds h1 with
   | ok a g=>rw [z] at q;exact q
   | exc c g=>rw [z] at q;exact fun ρ' H' e' r' _=>⟨c,rfl,q ρ' H' e' r'⟩
   | bad=>rw [z] at q;exact q⟩
 ·obtain ⟨vs,H1,I1,rv,q1⟩:=z
  exact ⟨I1.kIn,uF FO ((T.room hc).mono (Nat.le_succ _)) hb (fun e s' x=>T.xc pins σ H1 s1 e s' I1 x) I1 rv q1⟩
theorem qIj (T:Body X c F k ex W) (hc:c.calm=true) {x:Str} {i:Nat} {p pos:Pos} (h:c.glob x=some (.fn i)):PE X (.Call (.Name x p) [] [] pos) (tD X.K W (den F (.call i .nil))):=by
 obtain ⟨g1,g2,g3,f,fd,ps,hm,hk,hb,FO⟩:=T.gl h
 intro pins s σ H Q I t
 obtain ⟨ρ,env,hh,st,r,pp⟩:=t
 rw [den,qN] at pp
 refine wpAny_Call_Name_kw (L2.ld_glob I g1 hm ?_ g2)
 refine PySem.W.callWith_K0 I.kIn hk (uF (us:=[]) (vs:=[]) (E:=fun _ co H'=>∃ c,co=some c∧W c σ H') FO ((T.room hc).mono (Nat.le_succ _)) hb (fun e s' x=>T.xc pins σ H s e s' I x) I .nil ⟨ρ,hh,[],r,rfl,?_⟩)
 have q:PostV X.K (W.at σ) Q ρ H (F i [] hh):=pp
 cases z:F i [] hh with
 | ok a g=>rw [z] at q;exact q
 | exc c g=>rw [z] at q;exact fun ρ' H' e' r' _=>⟨c,rfl,q ρ' H' e' r'⟩
 | bad=>rw [z] at q;exact q
theorem qEs (T:Body X c F k ex W) (hc:c.calm=true) {x:Str} {cc i:Nat} {e:Expr} {es:List Expr} {cl:CL} {p pos:Pos} (h:c.glob x=some (.cls cc i)) (ha:PA X (e::es) (tDL X.K W (qN F cl))) (hs:jW (e::es)=true):PE X (.Call (.Name x p) (e::es) [] pos) (tD X.K W (den F (.make cc i cl))):=by
 obtain ⟨g1,g2,g3,C,f,fd,ps,hm,h1,h2,h3,h4,h5⟩:=T.gl h
 have hs':=Bool.and_eq_true_iff.mp hs
 exact qHy g1 g2 hm h1 h2 h3 h4 h5 (T.room hc) T.xc ha (kG hs'.1) (yT hs'.2)
theorem qEu (T:Body X c F k ex W) (hc:c.calm=true) {x:Str} {cc i:Nat} {p pos:Pos} (h:c.glob x=some (.cls cc i)):PE X (.Call (.Name x p) [] [] pos) (tD X.K W (den F (.make cc i .nil))):=by
 obtain ⟨g1,g2,g3,C,f,fd,ps,hm,h1,h2,h3,h4,h5⟩:=T.gl h
 exact qHx g1 g2 hm h1 h2 h3 h4 h5 (T.room hc) T.xc
theorem fO {env:PySem.Env} {pos:Pos}:∀ {es:List Expr},jW es=true→(backTo pos (starEach es env)).all (fun x=>!x.1)=true
 | [],_=>rfl
 | e::es,h=>by
  have h:=Bool.and_eq_true_iff.mp h
  rw [kG h.1]
  show (!false&&(backTo pos (starEach es env)).all (fun x=>!x.1))=true
  rw [fO h.2]
  rfl
theorem qEV (T:Body X c F k ex W) (hc:c.calm=true) {a e:Expr} {es:List Expr} {ca:CE} {cl:CL} {mk:Nat} {tb:List (Nat × Nat)} {m:Str} {ap pos:Pos} (h:c.M.lookup m=some (mk,tb)) (ho:PE X a (tD X.K W (den F ca))) (ha:PA X (e::es) (tDL X.K W (qN F cl))) (hs:jW (e::es)=true) (hsu:kJ a=true) (hl:(ap.endLine == pos.line)=true) (hn:es.length<20) :
  PE X (.Call (.Attribute a m ap) (e::es) [] pos) (tD X.K W (den F (.meth mk tb ca cl))):=by
 obtain ⟨m1,m2,m3⟩:=T.mt m mk tb h
 have hs':=Bool.and_eq_true_iff.mp hs
 refine qHw m3 m1 m2 ((T.room hc).mono (Nat.le_succ _)) T.xc ho ha (kE hsu) hl ?_ (kG hs'.1) (yT hs'.2)
 unfold methodCallForm
 rw [fO hs]
 show (true&&true&&decide ((e::es).length+0+0<30))=true
 simp only [List.length_cons,Bool.and_self,Bool.true_and,decide_eq_true_eq]
 omega
theorem qEX (T:Body X c F k ex W) (hc:c.calm=true) {a:Expr} {ca:CE} {mk:Nat} {tb:List (Nat × Nat)} {m:Str} {ap pos:Pos} (h:c.M.lookup m=some (mk,tb)) (ho:PE X a (tD X.K W (den F ca))) (hsu:kJ a=true) (hl:(ap.endLine == pos.line)=true) :
  PE X (.Call (.Attribute a m ap) [] [] pos) (tD X.K W (den F (.meth mk tb ca .nil))):=by
 obtain ⟨m1,m2,m3⟩:=T.mt m mk tb h
 exact qHv m3 m1 m2 ((T.room hc).mono (Nat.le_succ _)) T.xc ho (kE hsu) hl
theorem nL {b:Expr} (h:isNone b=true):∃ j pos,b=.Constant .none j pos:=by
 unfold isNone at h
 split at h
 ·exact ⟨_,_,rfl⟩
 ·cases h
theorem nR {b:Expr} {k:Bool} (h:cB b=some k):∃ j pos,b=.Constant (.bool k) j pos:=by
 unfold cB at h
 split at h
 ·cases h;exact ⟨_,_,rfl⟩
 ·cases h
theorem qDC {e:Expr} {env:PySem.Env} (h:lF e=true) (whole:Sem Value):isTrue e env whole=(do let v ← whole;standAt e.pos;holding [v] (truthy v)):=by
 cases e <;> first | rfl | cases h
theorem vG {e:Expr} {env:PySem.Env} (h:wV e=true) (x:Value):foldedSetIterable e env x=pure x:=by
 cases e <;> first | rfl | cases h
theorem wF (T:Body X c F k ex W) {x:Str} {scope:Scope} (h:c.compOk x scope=true):CompOk X x scope:=by
 unfold Cc.compOk at h
 simp only [Bool.and_eq_true,Bool.or_eq_true,decide_eq_true_eq,List.all_eq_true] at h
 obtain ⟨⟨⟨⟨⟨⟨h1,h2⟩,h3⟩,h4⟩,h5⟩,h6⟩,h7⟩:=h
 refine ⟨h1,h2,h3,h4,fun y hy hf=>?_,h6.1,fun z=>?_,fun y hne hy hm=>h7 _ (vC hy) hne rfl (by rw [← T.N];exact hm)⟩
 rotate_left
 ·rw [T.N] at z ⊢
  rcases h6.2 with w | w
  ·exact absurd z w
  ·exact w
 show X.env.scope.names.lookup y.1=_∨X.env.scope.names.lookup y.1=_
 rw [T.sc]
 exact h5 y hy hf
theorem kN (T:Body X c F k ex W) {x:Str} {scope:Scope} (h:c.compOk x scope=true) (cl:List (Str × Addr)) (C:Addr) (s3:Shared) (H3:Hp) (fp:List Addr) (E:Value→Shared→Prop):Body (cxC X x scope cl C s3 H3 fp E) (c.inner x scope) F k ex WF:=by
 have K:=wF T h
 refine ⟨?_,?_,?_,T.calm,T.room,T.hu,fun y g hg=>?_,T.xq,T.xv,T.mt,T.at',T.xg,fun pins σ H s0 e s' I x=>?_⟩
 ·show zV X.N x++[x]=zV c.N x++[x]
  rw [T.N]
 ·show (zV c.N x++[x]).Nodup
  exact mL T.nd K.new fun z=>by have:=(K.hole (by rw [T.N];exact z)).1;rw [T.N] at this;exact this
 ·show relabel scope X.env=iZ scope c.sc
  rw [← T.sc]
  rfl
 ·have:=T.glob y g hg
  cases g <;> exact this
 ·obtain ⟨_,_,_,_,_,_,_,_,_,_,_,_,_,_,_,_,z⟩:=x
  exact False.elim z
structure AllOk (X:Cx) (c:Cc) (F:Nat→List D→M D) (W:WX) (r:Rc):Prop where
 e:∀ e ce,r.e c e=some ce→PE X e (tD X.K W (den F ce))
 cmp:∀ a op b ce pos,r.cmp c a op b=some ce→PE X (.Compare a [op] [b] pos) (tD X.K W (den F ce))∧PT X (.Compare a [op] [b] pos) (tDT X.K W (qH F (.val ce)))
 b:∀ x es ce p pos,c.glob x=some .blt→r.b c x es=some ce→PE X (.Call (.Name x p) es [] pos) (tD X.K W (den F ce))
 l:∀ es cl,r.l c es=some cl→PA X es (tDL X.K W (qN F cl))∧jW es=true
 o:∀ o cp,r.o c o=some cp→PO X o (tDP X.K W (jM F cp))
 t:∀ e ct,r.t c e=some ct→PT X e (tDT X.K W (qH F ct))
 tb:∀ op es ct pos,r.tb c op es=some ct→L2.PW X (.BoolOp op es pos) (tDT X.K W (qH F ct))
 i:∀ tg e ci,r.i c e=some ci→PI X tg e (tDI X.K W (zE F ci))∧wV e=true
end
end Fy
set_option Elab.async false
set_option linter.all false
set_option maxRecDepth 100000
set_option maxHeartbeats 4000000
namespace Fy
open PySem PySem.Spec PyProof.Rows
open L2 (V Hp HO VK TE TT TA TS TI Cx Inv RelV Vals SqL SqT Rd upd qF qD PE PT PA PS PSs EP TP PI PG PIE Turn qJ Ends HOk frs thn)
section
variable {X:Cx} {c:Cc} {F:Nat→List D→M D} {k:Nat} {W:WX}
end
end Fy
set_option Elab.async false
set_option linter.all false
set_option maxRecDepth 100000
set_option maxHeartbeats 4000000
namespace Fy
open PySem PySem.Spec PyProof.Rows
open L2 (V Hp HO VK TE TT TA TS TI Cx Inv RelV Vals SqL SqT Rd upd qF qD PE PT PA PS PSs EP OpR CallR IxR MtR SlR PO TO PI PG PIE Turn qJ Ends)
section
variable {X:Cx} {c:Cc} {F:Nat→List D→M D} {k B:Nat} {ex:Nat→Option Addr} {W:WX}
theorem qER (T:Body X c F k ex W) {x:Str} {pos:Pos} {ce:CE} (h:aY c x=some ce):PE X (.Name x pos) (tD X.K W (den F ce)):=by
 unfold aY at h
 cases q:c.slot x with
 | some i =>
  rw [q] at h
  cases h
  obtain ⟨h1,h2,h3,h4⟩:=T.vis q
  exact qHm (L2.pe_var h1 h2 h3 h4)
 | none =>
  rw [q] at h
  cases w:c.glob x with
  | none=>rw [w] at h;cases h
  | some g =>
   rw [w] at h
   cases g with
   | con d =>
    cases h
    obtain ⟨g1,g2,g3,v,u,hm,hr,hv⟩:=T.gl w
    exact yE (L2.pe_glob g1 hm hr g2) hv
   | _=>cases h
theorem qAD {r:Rc} (A:AllOk X c F W r) {op:UnaryOp} {a:Expr} {pos:Pos} {ce:CE} (h:sUn r c a op=some ce):PE X (.UnaryOp op a pos) (tD X.K W (den F ce)):=by
 cases op with
 | Not=>obtain ⟨x,hx,h⟩:=qC h;cases h;exact qHt (A.e a x hx)
 | USub=>obtain ⟨x,hx,h⟩:=qC h;cases h;exact qHu (A.e a x hx)
 | _=>cases h
theorem qIy {r:Rc} (A:AllOk X c F W r) {op:BoolOp} {es:List Expr} {pos:Pos} {ce:CE} (h:iO r c op pos es=some ce):PE X (.BoolOp op es pos) (tD X.K W (den F ce)):=by
 cases es with
 | nil=>cases h
 | cons a es =>
  cases es with
  | nil=>exact L2.pe_one (A.e a ce h)
  | cons b es =>
   obtain ⟨x,hx,h⟩:=qC h
   obtain ⟨y,hy,h⟩:=qC h
   cases op with
   | And=>cases h;exact qID (A.e a x hx) (A.e _ y hy)
   | Or=>cases h;exact qHq (A.e a x hx) (A.e _ y hy)
theorem qIS (T:Body X c F k ex W) {r:Rc} (A:AllOk X c F W r) {a b d:Expr} {op op':CmpOp} {ce:CE} {pos:Pos} (h:iL r c a op op' b d=some ce) :
  PE X (.Compare a [op,op'] [b,d] pos) (tD X.K W (den F ce))∧PT X (.Compare a [op,op'] [b,d] pos) (tDT X.K W (qH F (.val ce))):=by
 obtain ⟨o,ho,h⟩:=qC h
 obtain ⟨p,hp,h⟩:=qC h
 obtain ⟨x,hx,h⟩:=qC h
 obtain ⟨y,hy,h⟩:=qC h
 obtain ⟨z,hz,h⟩:=qC h
 obtain ⟨hl,rfl⟩:=qM h
 have hl:lastMarks [op,op'] [b,d]=false:=by simpa using hl
 exact ⟨qIA (kT T ho).2 (kT T hp).2 (A.e a x hx) (A.e b y hy) (A.e d z hz) hl,qHP (kT T hp).1 (kT T ho).2 (kT T hp).2 (A.e _ x hx) (A.e _ y hy) (A.e _ z hz) hl⟩
theorem pW (T:Body X c F k ex W) {r:Rc} (A:AllOk X c F W r) {a:Expr} {ops:List CmpOp} {cs:List Expr} {ce:CE} {pos:Pos} (h:aZ r c a ops cs=some ce) :
  PE X (.Compare a ops cs pos) (tD X.K W (den F ce))∧PT X (.Compare a ops cs pos) (tDT X.K W (qH F (.val ce))):=by
 cases ops with
 | nil=>cases h
 | cons op ops =>
  cases cs with
  | nil=>cases h
  | cons b cs =>
   cases ops with
   | nil =>
    cases cs with
    | nil=>exact A.cmp a op b ce pos h
    | cons _ _=>cases h
   | cons op' ops =>
    cases ops with
    | cons _ _=>cases h
    | nil =>
     cases cs with
     | nil=>cases h
     | cons d cs =>
      cases cs with
      | nil=>exact qIS T A h
      | cons _ _=>cases h
theorem qBX {r:Rc} (A:AllOk X c F W r) {a b:Expr} {pos:Pos} {ce:CE} (h:aV r c a b=some ce):PE X (.Subscript a b pos) (tD X.K W (den F ce)):=by
 unfold aV at h
 cases qr:nK b with
 | true =>
  rw [qr] at h
  cases h
 | false =>
 rw [qr] at h
 cases q:bX b with
 | some w =>
  rw [q] at h
  obtain ⟨p,rfl⟩:=qFt q
  obtain ⟨x,hx,h⟩:=qC h
  obtain ⟨l,hl,h⟩:=qC h
  obtain ⟨u,hu,h⟩:=qC h
  cases h
  exact qHo (A.e a x hx) (A.o w.1 l hl) (A.o w.2 u hu)
 | none =>
  rw [q] at h
  obtain ⟨x,hx,h⟩:=qC h
  obtain ⟨y,hy,h⟩:=qC h
  obtain ⟨hs,rfl⟩:=qM h
  exact qH1 (A.e a x hx) (A.e b y hy) (qFc hs)
theorem qIi (T:Body X c F k ex W) {r:Rc} (A:AllOk X c F W r) {x:Str} {es:List Expr} {p pos:Pos} {ce:CE} (h:iM r c x es (c.glob x)=some ce):PE X (.Call (.Name x p) es [] pos) (tD X.K W (den F ce)):=by
 cases w:c.glob x with
 | none=>rw [w] at h;cases h
 | some g =>
  rw [w] at h
  cases g with
  | fn i =>
   cases es with
   | nil=>obtain ⟨hs,rfl⟩:=qM h;exact qIj T hs w
   | cons e es =>
    obtain ⟨l,hl,h⟩:=qC h
    obtain ⟨hs,rfl⟩:=qM h
    exact qIb T hs w (A.l _ l hl).1 (A.l _ l hl).2
  | blt=>exact A.b x es ce p pos w h
  | cls kc fi =>
   cases es with
   | nil=>obtain ⟨hs,rfl⟩:=qM h;exact qEu T hs w
   | cons e es =>
    obtain ⟨l,hl,h⟩:=qC h
    obtain ⟨hs,rfl⟩:=qM h
    exact qEs T hs w (A.l _ l hl).1 (A.l _ l hl).2
  | _=>cases h
theorem qEW (T:Body X c F k ex W) {r:Rc} (A:AllOk X c F W r) {a:Expr} {m:Str} {ap p:Pos} {es:List Expr} {x ce:CE} (hx:r.e c a=some x) (h:iH r c m (kJ a&&(ap.endLine == p.line)) x es (c.M.lookup m)=some ce):PE X (.Call (.Attribute a m ap) es [] p) (tD X.K W (den F ce)):=by
 cases w:c.M.lookup m with
 | some q =>
  rw [w] at h
  obtain ⟨mk,tb⟩:=q
  cases es with
  | nil =>
   obtain ⟨hs,rfl⟩:=qM h
   obtain ⟨h1,h2⟩:=Bool.and_eq_true_iff.mp hs
   obtain ⟨h2,h3⟩:=Bool.and_eq_true_iff.mp h2
   exact qEX T h1 w (A.e a x hx) h2 h3
  | cons e es =>
   obtain ⟨l,hl,h⟩:=qC h
   obtain ⟨hs,rfl⟩:=qM h
   obtain ⟨hs,h4⟩:=Bool.and_eq_true_iff.mp hs
   obtain ⟨h1,h2⟩:=Bool.and_eq_true_iff.mp hs
   obtain ⟨h2,h3⟩:=Bool.and_eq_true_iff.mp h2
   exact qEV T h1 w (A.e a x hx) (A.l _ l hl).1 (A.l _ l hl).2 h2 h3 (of_decide_eq_true h4)
 | none =>
  rw [w] at h
  cases es with
  | nil =>
   cases h
  | cons b es =>
   cases es with
   | cons d es =>
    cases es with
    | cons _ _=>cases h
    | nil =>
     have h:(match decide (m="setdefault") with | true=>(r.e c b).bind fun y=>(r.e c d).bind fun z=>qL (kJ a&&(ap.endLine == p.line)&&qU b&&qU d) (.setd x y z) | false=>match decide (m="get") with | true=>none | false=>none)=some ce:=h
     split at h
     ·rename_i e
      obtain ⟨y,hy,h⟩:=qC h
      obtain ⟨z,hz,h⟩:=qC h
      obtain ⟨hs,rfl⟩:=qM h
      obtain ⟨hs,h5⟩:=Bool.and_eq_true_iff.mp hs
      obtain ⟨hs,h4⟩:=Bool.and_eq_true_iff.mp hs
      obtain ⟨h2,h3⟩:=Bool.and_eq_true_iff.mp hs
      exact qHp (of_decide_eq_true e) (A.e a x hx) (A.e b y hy) (A.e d z hz) (kE h2) h3 (yU h4 h5) (jC h5)
     ·split at h
      ·cases h
      ·cases h
   | nil =>
    obtain ⟨o,ho,h⟩:=qC h
    obtain ⟨y,hy,h⟩:=qC h
    obtain ⟨hs,rfl⟩:=qM h
    obtain ⟨hs,h4⟩:=Bool.and_eq_true_iff.mp hs
    obtain ⟨h2,h3⟩:=Bool.and_eq_true_iff.mp hs
    exact qEh T ho (A.e a x hx) (A.e b y hy) h4 h2 h3
theorem qIh (T:Body X c F k ex W) {r:Rc} (A:AllOk X c F W r) {f:Expr} {es:List Expr} {ks:List Keyword} {p:Pos} {ce:CE} (h:iN r c f es ks p=some ce):PE X (.Call f es ks p) (tD X.K W (den F ce)):=by
 cases ks with
 | cons _ _=>cases h
 | nil =>
  cases f with
  | Name x q=>exact qIi T A h
  | Attribute a m ap=>obtain ⟨x,hx,h⟩:=qC h;exact qEW T A hx h
  | _=>cases h
theorem qFU {k:Option Expr} {y:Ky} (h:lA k=some y):∃ e,k=some e∧PE X e (L2.tC (L2.kV (kyV y))):=by
 cases k with
 | none=>cases h
 | some e =>
  cases e with
  | Constant kc j pos =>
   cases kc with
   | str s =>
    cases h
    refine ⟨_,rfl,?_⟩
    have e1:(⟨s.cps.toList.toArray⟩:Str)=s:=by simp
    show PE X _ (L2.tC (.str ⟨s.cps.toList.toArray⟩))
    rw [e1]
    exact L2.pe_str
   | int i=>cases h;exact ⟨_,rfl,L2.pe_int⟩
   | _=>cases h
  | _=>cases h
theorem pQ {r:Rc} (A:AllOk X c F W r) {pos:Pos}:∀ {keys:List (Option Expr)} {values:List Expr} {ks:List Ky} {l:CL},bF keys=some ks→bE r c values=some l→keys.length=values.length →
  L2.PPs X pos keys values (trs X F W ks l)∧keys.all (·.isSome)=true∧gW l=ks.length
 | [],[],_,_,h1,h2,_=>by cases h1;cases h2;exact ⟨L2.pps_nil,rfl,rfl⟩
 | [],_::_,_,_,_,_,h=>by cases h
 | _::_,[],_,_,_,_,h=>by cases h
 | k::keys,e::values,ks,l,h1,h2,h3=>by
  obtain ⟨y,hy,h1⟩:=qC h1
  obtain ⟨ys,hys,h1⟩:=qC h1
  cases h1
  obtain ⟨x,hx,h2⟩:=qC h2
  obtain ⟨l',hl,h2⟩:=qC h2
  cases h2
  obtain ⟨ek,rfl,pk⟩:=qFU (X:=X) hy
  obtain ⟨g1,g2,g3⟩:=pQ A (pos:=pos) hys hl (Nat.succ.inj h3)
  exact ⟨L2.pps_cons pk (A.e e x hx) g1,by rw [List.all_cons,g2];rfl,congrArg Nat.succ g3⟩
theorem qHf {r:Rc} (A:AllOk X c F W r) {keys:List (Option Expr)} {values:List Expr} {pos:Pos} {ce:CE} (h:iJ r c keys values=some ce):PE X (.Dict keys values pos) (tD X.K W (den F ce)):=by
 obtain ⟨ks,hk,h⟩:=qC h
 obtain ⟨l,hl,h⟩:=qC h
 obtain ⟨hs,rfl⟩:=qM h
 obtain ⟨h1,h2⟩:=Bool.and_eq_true_iff.mp hs
 have h1:=of_decide_eq_true h1
 obtain ⟨g1,g2,g3⟩:=pQ A (pos:=pos) hk hl h1
 refine qH8 g1 g2 h1 (of_decide_eq_true h2) g3 fun z=>?_
 subst z
 cases hk
 cases values with
 | nil=>cases hl;exact ⟨rfl,rfl,rfl⟩
 | cons _ _=>cases h1
theorem qII (T:Body X c F k ex W) {r:Rc} (AA:∀ (X:Cx) (c:Cc) (W:WX),Body X c F k ex W→AllOk X c F W r) {elt:Expr} {q:Gn} {scope:Scope} {pos:Pos} {ce:CE} (h:uE r c elt scope q=some ce):PE X (.ListComp elt [⟨.Name q.x q.p,q.iter,q.ifs,0⟩] scope pos) (tD X.K W (den F ce)):=by
 have A:=AA X c W T
 obtain ⟨x,px,iter,ifs⟩:=q
 cases ifs with
 | nil =>
  obtain ⟨it,hi,h⟩:=qC h
  obtain ⟨y,hy,h⟩:=qC h
  obtain ⟨hk',rfl⟩:=qM h
  obtain ⟨hcm,hk⟩:=Bool.and_eq_true_iff.mp hk'
  have K:=wF T hk
  exact PE.imp (bI K (by rw [T.N];exact T.nd) (T.calm hcm) (A.i _ iter it hi).1 (vG (A.i (.Name x px) iter it hi).2) (tt:=none) fun cl C s3 H3 fp E=>⟨(AA _ _ _ (kN T hk cl C s3 H3 fp E)).e elt y hy,rfl⟩) fun σ H Q t=>gO (f:=fun env x=>jT (den F y) env x) (mi:=zE F it) (fA _) (by
   obtain ⟨ρ,env,h,s,r,p⟩:=t
   rw [den] at p
   exact ⟨ρ,env,h,s,r,p⟩)
 | cons tst ts =>
  cases ts with
  | cons _ _=>cases h
  | nil =>
   obtain ⟨it,hi,h⟩:=qC h
   obtain ⟨z,hz,h⟩:=qC h
   obtain ⟨y,hy,h⟩:=qC h
   obtain ⟨hk',rfl⟩:=qM h
   obtain ⟨hcm,hk⟩:=Bool.and_eq_true_iff.mp hk'
   have K:=wF T hk
   exact PE.imp (bI K (by rw [T.N];exact T.nd) (T.calm hcm) (A.i _ iter it hi).1 (vG (A.i (.Name x px) iter it hi).2) (tt:=some (tDT X.K WF (qH F z))) fun cl C s3 H3 fp E=>⟨(AA _ _ _ (kN T hk cl C s3 H3 fp E)).e elt y hy,tst,rfl,(AA _ _ _ (kN T hk cl C s3 H3 fp E)).t tst z hz⟩) fun σ H Q t=>gO (f:=fun env x=>vH (den F y) (qH F z) env x) (mi:=zE F it) (aK _ _) (by
    obtain ⟨ρ,env,h,s,r,p⟩:=t
    rw [den] at p
    exact ⟨ρ,env,h,s,r,p⟩)
theorem nU {x:Str} (h:c.isB x=true):c.glob x=some .blt:=by
 unfold Cc.isB at h
 split at h
 ·assumption
 ·cases h
theorem lZ {e:Expr} (h:jF e=true):wV e=true:=by
 cases e with
 | Set _ _=>cases h
 | _=>rfl
theorem qIL (T:Body X c F k ex W) {r:Rc} (AA:∀ (X:Cx) (c:Cc) (W:WX),Body X c F k ex W→AllOk X c F W r) {elt:Expr} {q:Gn} {scope:Scope} {pos:Pos} {ce:CE} (hd:jF q.iter=true) (h:bA r c elt scope q=some ce):PE X (.ListComp elt [⟨.Name q.x q.p,q.iter,q.ifs,0⟩] scope pos) (tD X.K W (den F ce)):=by
 have A:=AA X c W T
 obtain ⟨x,px,iter,ifs⟩:=q
 cases ifs with
 | nil=>cases h
 | cons tst ts =>
  cases ts with
  | cons _ _=>cases h
  | nil =>
   obtain ⟨d,hi,h⟩:=qC h
   obtain ⟨z,hz,h⟩:=qC h
   obtain ⟨y,hy,h⟩:=qC h
   obtain ⟨hk',rfl⟩:=qM h
   obtain ⟨hcm,hk⟩:=Bool.and_eq_true_iff.mp hk'
   have K:=wF T hk
   exact PE.imp (L2.pe_thaw (bI K (by rw [T.N];exact T.nd) (T.calm hcm) (L2.pi_dict (A.e iter d hi)) (vG (lZ hd)) (tt:=some (tDT X.K WF (qH F z))) fun cl C s3 H3 fp E=>⟨(AA _ _ _ (kN T hk cl C s3 H3 fp E)).e elt y hy,tst,rfl,(AA _ _ _ (kN T hk cl C s3 H3 fp E)).t tst z hz⟩)) fun σ H Q t=>compD (aK _ _) t
theorem qIK (T:Body X c F k ex W) {r:Rc} (AA:∀ (X:Cx) (c:Cc) (W:WX),Body X c F k ex W→AllOk X c F W r) {elt:Expr} {gs:List Comprehension} {scope:Scope} {pos:Pos} {ce:CE} (h:wU r c elt scope gs=some ce):PE X (.ListComp elt gs scope pos) (tD X.K W (den F ce)):=by
 unfold wU at h
 split at h
 ·rename_i q hq
  obtain rfl:=nO hq
  cases hd:jF q.iter with
  | true=>rw [hd] at h;exact qIL T AA hd h
  | false=>rw [hd] at h;exact qII T AA h
 ·cases h
theorem fN (T:Body X c F k ex W) {r:Rc} (AA:∀ (X:Cx) (c:Cc) (W:WX),Body X c F k ex W→AllOk X c F W r) (e:Expr) (ce:CE) (h:eS r c e=some ce):PE X e (tD X.K W (den F ce)):=by
 have A:=AA X c W T
 cases e with
 | Constant kc j pos=>exact qIH h
 | Name x pos=>exact qER T h
 | BinOp a op b pos =>
  obtain ⟨o,ho,h⟩:=qC h
  obtain ⟨x,hx,h⟩:=qC h
  obtain ⟨y,hy,h⟩:=qC h
  cases h
  exact PE.imp (L2.pe_op (qIz ho) (A.e a x hx) (A.e b y hy)) fun _ _ _ t=>two t
 | UnaryOp op a pos=>exact qAD A h
 | BoolOp op es pos=>exact qIy A h
 | Compare a ops cs pos=>exact (pW T A h).1
 | Tuple es j pos=>obtain ⟨l,hl,h⟩:=qC h;cases h;exact qHn (A.l es l hl).1
 | List es pos=>obtain ⟨l,hl,h⟩:=qC h;cases h;exact qHz (A.l es l hl).1
 | Subscript a b pos=>exact qBX A h
 | Call f es ks p=>exact qIh T A h
 | Attribute a f pos =>
  obtain ⟨kk,hk,h⟩:=qC h
  obtain ⟨x,hx,h⟩:=qC h
  obtain ⟨hs,rfl⟩:=qM h
  exact qH6 (T.at' f kk.1 kk.2 hk).1 (A.e a x hx) (kE hs)
 | Dict keys values pos=>exact qHf A h
 | ListComp elt gs scope pos=>exact qIK T AA h
 | _=>cases h
theorem qIN (T:Body X c F k ex W) {r:Rc} (A:AllOk X c F W r) {a:Expr} {op:CmpOp} {b:Expr} {ce:CE} {pos:Pos} (h:iK r c a op b=some ce) :
  PE X (.Compare a [op] [b] pos) (tD X.K W (den F ce))∧PT X (.Compare a [op] [b] pos) (tDT X.K W (qH F (.val ce))):=by
 obtain ⟨o,ho,h⟩:=qC h
 obtain ⟨x,hx,h⟩:=qC h
 obtain ⟨y,hy,h⟩:=qC h
 obtain ⟨hb,rfl⟩:=qM h
 have hb:behindInMarks op b=false:=by simpa using hb
 exact ⟨qH9 (kT T ho).2 (A.e _ x hx) (A.e _ y hy) hb,qHO (kT T ho).1 (kT T ho).2 (A.e _ x hx) (A.e _ y hy) hb⟩
theorem qBh (T:Body X c F k ex W) {r:Rc} (A:AllOk X c F W r) (a:Expr) (op:CmpOp) (b:Expr) (ce:CE) (pos:Pos) (h:rG r c a op b=some ce) :
  PE X (.Compare a [op] [b] pos) (tD X.K W (den F ce))∧PT X (.Compare a [op] [b] pos) (tDT X.K W (qH F (.val ce))):=by
 cases op with
 | Is =>
  obtain ⟨x,hx,h⟩:=qC h
  unfold sIs at h
  cases q:isNone b with
  | true =>
   rw [q] at h
   cases h
   obtain ⟨j,p',rfl⟩:=nL q
   exact ⟨qH3 (A.e _ x hx),qHM (A.e _ x hx)⟩
  | false =>
   rw [q] at h
   obtain ⟨kb,hb,h⟩:=qC h
   cases h
   obtain ⟨j,p',rfl⟩:=nR hb
   exact ⟨qH4 (A.e _ x hx),qHN (A.e _ x hx)⟩
 | IsNot =>
  obtain ⟨x,hx,h⟩:=qC h
  unfold sIs at h
  cases q:isNone b with
  | true =>
   rw [q] at h
   cases h
   obtain ⟨j,p',rfl⟩:=nL q
   exact ⟨qHs (A.e _ x hx),qHK (A.e _ x hx)⟩
  | false =>
   rw [q] at h
   obtain ⟨kb,hb,h⟩:=qC h
   cases h
   obtain ⟨j,p',rfl⟩:=nR hb
   exact ⟨qHr (A.e _ x hx),qHJ (A.e _ x hx)⟩
 | _=>exact qIN T A h
theorem qJN (T:Body X c F k ex W) {x:Str} {a:Expr} {y ce:CE} {p pos:Pos} (hg:c.glob x=some .blt) (ha:PE X a (tD X.K W (den F y))) (h:sB1 c x a y=some ce):PE X (.Call (.Name x p) [a] [] pos) (tD X.K W (den F ce)):=by
 unfold sB1 at h
 cases q:bi1 x with
 | some o =>
  rw [q] at h
  obtain ⟨hs,rfl⟩:=qM h
  exact qI2 T q hg ha hs
 | none =>
  rw [q] at h
  obtain ⟨o,ho,h⟩:=qC h
  obtain ⟨hs,rfl⟩:=qM h
  obtain ⟨h1,h2⟩:=Bool.and_eq_true_iff.mp hs
  exact qI1 T h2 ho hg ha h1
theorem qFs (T:Body X c F k ex W) {r:Rc} (A:AllOk X c F W r) {x y:Str} {a:Expr} {ce:CE} {p p2 pos:Pos} (hx:x="isinstance") (hg:c.glob x=some .blt) (h:iI r c a y=some ce):PE X (.Call (.Name x p) [a,.Name y p2] [] pos) (tD X.K W (den F ce)):=by
 obtain ⟨z,hz,h⟩:=qC h
 cases q:tyN y with
 | some t =>
  rw [q] at h
  obtain ⟨hs,rfl⟩:=qM h
  obtain ⟨h1,h2⟩:=Bool.and_eq_true_iff.mp hs
  exact qFo T hx q hg h2 (A.e _ z hz) h1
 | none =>
  rw [q] at h
  cases h
theorem qBi (T:Body X c F k ex W) {r:Rc} (A:AllOk X c F W r) (x:Str) (es:List Expr) (ce:CE) (p pos:Pos) (hg:c.glob x=some .blt) (h:bS r c x es=some ce):PE X (.Call (.Name x p) es [] pos) (tD X.K W (den F ce)):=by
 rcases es with _ | ⟨a,_ | ⟨b,_ | ⟨d,_ | ⟨_,_⟩⟩⟩⟩
 ·cases h
 ·obtain ⟨y,hy,h⟩:=qC h
  exact qJN T hg (A.e _ y hy) h
 ·unfold bS at h
  cases q:decide (x="isinstance") with
  | true =>
   simp only [q] at h
   obtain ⟨y,hy,h⟩:=qC h
   obtain ⟨p2,rfl⟩:=cA hy
   exact qFs T A (of_decide_eq_true q) hg h
  | false =>
   simp only [q] at h
   obtain ⟨o,ho,h⟩:=qC h
   obtain ⟨u,hu,h⟩:=qC h
   obtain ⟨v,hv,h⟩:=qC h
   obtain ⟨hs,rfl⟩:=qM h
   obtain ⟨hs,h3⟩:=Bool.and_eq_true_iff.mp hs
   obtain ⟨h1,h2⟩:=Bool.and_eq_true_iff.mp hs
   exact qI0 T h3 ho hg (A.e _ u hu) (A.e _ v hv) h1 h2
 ·cases h
 ·cases h
theorem qBe {r:Rc} (A:AllOk X c F W r) (es:List Expr) (cl:CL) (h:lS r c es=some cl):PA X es (tDL X.K W (qN F cl))∧jW es=true:=by
 cases es with
 | nil=>cases h;exact ⟨qHk (es:=[]),rfl⟩
 | cons e es =>
  obtain ⟨x,hx,h⟩:=qC h
  obtain ⟨l,hl,h⟩:=qC h
  obtain ⟨hs,rfl⟩:=qM h
  exact ⟨qHl (A.e _ x hx) (A.l _ l hl).1 (kG hs),by unfold jW;rw [hs,(A.l _ l hl).2];rfl⟩
theorem qBd {r:Rc} (A:AllOk X c F W r) (o:Option Expr) (cp:CP) (h:oS r c o=some cp):PO X o (tDP X.K W (jM F cp)):=by
 cases o with
 | none=>cases h;exact qHS
 | some e=>obtain ⟨x,hx,h⟩:=qC h;cases h;exact qHT (A.e _ x hx)
theorem qCl {r:Rc} (A:AllOk X c F W r) {e:Expr} {ct:CT} (h:sT r c e=some ct):PT X e (tDT X.K W (qH F ct)):=by
 obtain ⟨x,hx,h⟩:=qC h
 obtain ⟨hs,rfl⟩:=qM h
 exact qHI (A.e _ x hx) (qDC hs)
theorem qBa (T:Body X c F k ex W) {r:Rc} (A:AllOk X c F W r) (e:Expr) (ct:CT) (h:tS r c e=some ct):PT X e (tDT X.K W (qH F ct)):=by
 cases e with
 | UnaryOp op a pos =>
  cases op with
  | Not=>obtain ⟨x,hx,h⟩:=qC h;cases h;exact qHL (A.t _ x hx)
  | _=>cases h
 | BoolOp op es pos=>exact (A.tb _ _ ct pos h).pt
 | Compare a ops cs pos=>obtain ⟨x,hx,h⟩:=qC h;cases h;exact (pW T A hx).2
 | _=>exact qCl A h
theorem qBZ {r:Rc} (A:AllOk X c F W r) (op:BoolOp) (es:List Expr) (ct:CT) (pos:Pos) (h:tbS r c op es=some ct):L2.PW X (.BoolOp op es pos) (tDT X.K W (qH F ct)):=by
 cases es with
 | nil=>cases h
 | cons a es =>
  cases es with
  | nil =>
   cases op with
   | And=>exact L2.pw_and1 (A.t _ ct h)
   | Or=>exact L2.pw_or1 (A.t _ ct h)
  | cons b es =>
   obtain ⟨x,hx,h⟩:=qC h
   obtain ⟨y,hy,h⟩:=qC h
   cases op with
   | And=>cases h;exact qHH (A.t _ x hx) (A.tb _ _ y pos hy)
   | Or=>cases h;exact qHG (A.t _ x hx) (A.tb _ _ y pos hy)
theorem qBf (T:Body X c F k ex W) {r:Rc} (A:AllOk X c F W r) (tg e:Expr) (ci:CI) (h:iS r c e=some ci):PI X tg e (tDI X.K W (zE F ci))∧wV e=true:=by
 unfold iS at h
 cases q:bZ e with
 | none =>
  rw [q] at h
  obtain ⟨z,hz,h⟩:=qC h
  obtain ⟨hs,rfl⟩:=qM h
  exact ⟨qHi (A.e _ z hz),hs⟩
 | some es =>
  rw [q] at h
  obtain ⟨p,p2,rfl⟩:=qFw q
  rcases es with _ | ⟨a,_ | ⟨b,_ | ⟨_,_⟩⟩⟩
  ·cases h
  ·obtain ⟨z,hz,h⟩:=qC h
   obtain ⟨hs,rfl⟩:=qM h
   obtain ⟨h1,h2⟩:=Bool.and_eq_true_iff.mp hs
   obtain ⟨g1,g2,g3,g4⟩:=T.gl (nU h2)
   exact ⟨qHh g1 g4 (A.e _ z hz) (jC h1),rfl⟩
  ·obtain ⟨z,hz,h⟩:=qC h
   obtain ⟨z',hz',h⟩:=qC h
   obtain ⟨hs,rfl⟩:=qM h
   obtain ⟨hs,h2⟩:=Bool.and_eq_true_iff.mp hs
   obtain ⟨h1,h3⟩:=Bool.and_eq_true_iff.mp hs
   obtain ⟨g1,g2,g3,g4⟩:=T.gl (nU h2)
   exact ⟨qHg g1 g4 (A.e _ z hz) (A.e _ z' hz') (yU h1 h3) (jC h3),rfl⟩
  ·cases h
theorem kF:∀ (n:Nat) (X:Cx) (c:Cc) (W:WX),Body X c F k ex W→AllOk X c F W (rcN n)
 | 0,_,_,_,_=>{
   e:=fun _ _ h=>nomatch h
   cmp:=fun _ _ _ _ _ h=>nomatch h
   b:=fun _ _ _ _ _ _ h=>nomatch h
   l:=fun _ _ h=>nomatch h
   o:=fun _ _ h=>nomatch h
   t:=fun _ _ h=>nomatch h
   tb:=fun _ _ _ _ h=>nomatch h
   i:=fun _ _ _ h=>nomatch h }
 | n+1,X,c,W,T =>
  have A:=kF n X c W T
  ⟨fN T (kF n),qBh T A,qBi T A,qBe A,qBd A,qBa T A,qBZ A,qBf T A⟩
theorem yS {e:Expr} {t:Option Expr} {n:Nat} {env:PySem.Env} (h:wW e=true):swapsWith e t n env=pure false:=by
 cases e <;> first | rfl | cases h
theorem qJP {o i:Expr} {pos:Pos} {env:PySem.Env} (h:uK i=true) (v:Value):assign (.Subscript o i pos) env v=(do
      let ov ← holding [v] (eval o env)
      let iv ← holding [v,ov] (eval i env)
      standAt pos
      holding [v,ov,iv] (setItem ov iv v)
      release [v,ov,iv] []):=by
  cases i <;> first | rfl | cases h
theorem qCg {t:TG} {g:L2.TG} {tg iter:Expr} {ci:CI} {body:List Stmt} {cb:CS} {pos:Pos} (ht:kY X.K t g) (hc:X.calm=true) (hi:PI X.nox tg iter (tDI X.K WF (zE F ci))) (hg:PG X.nox tg g) (hb:PSs X.nox body (tDS X.K WF (qA F B cb)))
  (hs:∀ x,foldedSetIterable iter X.env x=pure x):PS X (.For tg iter body [] pos) (tDS X.K W (qA F B (.fori t ci cb))):=PS.imp (PS.nox (L2.ps_for PassesOwn.never hc hi hg hb hs)) fun E σ H q=>by
 obtain ⟨ρ,env,h,s,r,p⟩:=q
 rw [qA] at p
 refine ⟨ρ,env,h,s,r,rM (PostS.ofR s p fun ρ1 h1 it H1 e1 r1 q J hJ=>?_) _⟩
 cases it with
 | row xs =>
  obtain ⟨go,yl,sp⟩:=hJ
  exact mU ht (s.mono e1) r1 go yl sp q
 | pairs xs=>exact (show False from q).elim
 | live k =>
  obtain ⟨a,ha,rfl⟩:=hJ
  exact qE8 ht (s.mono e1) r1 ha q
theorem qCV {i:Nat} {y:Str} {py spos:Pos} {e:Expr} {ce:CE} (T:BodyS X c F k ex W) (hi:c.own y=some i) (hc:nQ e=true) {n:Nat} (he:eS (rcN n) c e=some ce):PS X (.Assign [.Name y py] e spos) (tDS X.K W (qA F B (.set (.nm i) ce))):=by
 have AA:=kF (F:=F) (k:=k) (ex:=ex) n
 have A:=AA X c W T.toBody
 obtain ⟨h1,h2⟩:=T.loc hi
 have pe:=fN T.toBody (kF n) e ce he
 have key:∀ {σ:L2.St} {H:Hp} {E:Ends},tDS X.K W (qA F B (.set (.nm i) ce)) E σ H→tD X.K W (den F ce) σ H fun v H'=>E.nx (σ.set i (some v)) H':=fun {σ H E} t=>by
  obtain ⟨ρ,env,h,s,r,p⟩:=t
  rw [qA] at p
  exact ⟨ρ,env,h,s,r,PostS.ofR s p fun ρ' h' d H' e' r' q v hv=>q ρ' H' _ (Step.refl _ _) r' ((s.mono e').set i hv)⟩
 cases e with
 | ListComp elt gs scope pos =>
  have he:wU (rcN n) c elt scope gs=some ce:=he
  have hc':(match vS gs with | some q=>decide (q.ifs.length≤1)&&!jF q.iter | none=>false)=true:=hc
  obtain ⟨g,hg⟩:∃ g,vS gs=some g:=by
   cases z:vS gs with
   | none=>rw [z] at hc';cases hc'
   | some g=>exact ⟨g,rfl⟩
  rw [hg] at hc'
  have hdn:jF g.iter=false:=by simpa using (Bool.and_eq_true_iff.mp hc').2
  have hsc:uE (rcN n) c elt scope g=some ce:=by
   unfold wU at he
   rw [hg] at he
   have he:(match jF g.iter with | true=>bA (rcN n) c elt scope g | false=>uE (rcN n) c elt scope g)=some ce:=he
   rw [hdn] at he
   exact he
  clear hc'
  obtain rfl:=nO hg
  obtain ⟨x,px,iter,ifs⟩:=g
  have hsw:swapsWith (.ListComp elt [⟨.Name x px,iter,ifs,0⟩] scope pos) (some (.Name y py)) spos.line X.env=pure (X.env.blockKind == .function&&X.env.kindOf y == some .local&&py.line == (Expr.ListComp elt [⟨.Name x px,iter,ifs,0⟩] scope pos).pos.line&&!(scope.names.any fun (n,k)=>n == y&&(k == .local || k == .cell))):=rfl
  cases q:(X.env.blockKind == .function&&X.env.kindOf y == some .local&&py.line == (Expr.ListComp elt [⟨.Name x px,iter,ifs,0⟩] scope pos).pos.line&&!(scope.names.any fun (n,k)=>n == y&&(k == .local || k == .cell))) with
  | false =>
   rw [q] at hsw
   exact iD T.nd' h1 h2 pe hsw (.inl (T.fn _))
  | true =>
   rw [q] at hsw
   simp only [Bool.and_eq_true] at q
   have hk:X.env.scope.names.lookup y=some .local:=(show X.env.kindOf y=some .local by simpa using q.1.1.2)
   cases ifs with
   | nil =>
    obtain ⟨it,hit,he⟩:=qC hsc
    obtain ⟨z,hz,he⟩:=qC he
    obtain ⟨hko',rfl⟩:=qM he
    obtain ⟨hcm,hko⟩:=Bool.and_eq_true_iff.mp hko'
    have K:=wF T.toBody hko
    refine PS.imp (lD K T.nd' (T.calm hcm) (A.i _ iter it hit).1 (vG (A.i (.Name x px) iter it hit).2) (tt:=none) (fun cl C s3 H3 fp E=>⟨(AA _ _ _ (kN T.toBody hko cl C s3 H3 fp E)).e elt z hz,rfl⟩) h1 hk hsw) fun E σ H t=>gO (f:=fun env x=>jT (den F z) env x) (mi:=zE F it) (fA _) ?_
    obtain ⟨ρ,env,h,s,r,p⟩:=key t
    rw [den] at p
    exact ⟨ρ,env,h,s,r,p⟩
   | cons tst ts =>
    cases ts with
    | cons _ _=>cases hsc
    | nil =>
     obtain ⟨it,hit,he⟩:=qC hsc
     obtain ⟨zt,hzt,he⟩:=qC he
     obtain ⟨z,hz,he⟩:=qC he
     obtain ⟨hko',rfl⟩:=qM he
     obtain ⟨hcm,hko⟩:=Bool.and_eq_true_iff.mp hko'
     have K:=wF T.toBody hko
     refine PS.imp (lD K T.nd' (T.calm hcm) (A.i _ iter it hit).1 (vG (A.i (.Name x px) iter it hit).2) (tt:=some (tDT X.K WF (qH F zt))) (fun cl C s3 H3 fp E=>⟨(AA _ _ _ (kN T.toBody hko cl C s3 H3 fp E)).e elt z hz,tst,rfl,(AA _ _ _ (kN T.toBody hko cl C s3 H3 fp E)).t tst zt hzt⟩) h1 hk hsw) fun E σ H t=>gO (f:=fun env x=>vH (den F z) (qH F zt) env x) (mi:=zE F it) (aK _ _) ?_
     obtain ⟨ρ,env,h,s,r,p⟩:=key t
     rw [den] at p
     exact ⟨ρ,env,h,s,r,p⟩
 | _=>cases hc
theorem aO (T:BodyS X c F k ex W):BodyS X.nox c.still F k ex WF where
 N:=T.N
 nd:=T.nd
 sc:=T.sc
 calm:=T.calm
 room:=T.room
 hu:=T.hu
 glob:=fun x g h=>by
  have:=T.glob x g h
  cases g <;> exact this
 xc:=fun pins σ H s0 e s' I x=>by
  obtain ⟨_,_,_,_,_,_,_,_,_,_,_,_,_,_,_,_,z⟩:=x
  exact False.elim z
 fn:=T.fn
 stk:=T.stk
 xr:=fun z=>by cases z
 xm:=T.xm
 xq:=T.xq
 xv:=T.xv
 xg:=T.xg
 mt:=T.mt
 at':=T.at'
 noex:=T.noex
 xcl:=T.xcl
theorem pN (T:BodyS X c F k ex W) (e:Value):BodyS (mark X e) c.dull F k ex WF where
 N:=T.N
 nd:=T.nd
 sc:=T.sc
 calm:=fun z=>by cases z
 room:=fun z=>by cases z
 hu:=T.hu
 glob:=fun x g h=>by
  have:=T.glob x g h
  cases g <;> exact this
 xc:=fun pins σ H s0 e s' I x=>by
  obtain ⟨_,_,_,_,_,_,_,_,_,_,_,_,_,_,_,_,z⟩:=x
  exact False.elim z
 fn:=T.fn
 stk:=T.stk
 xr:=fun z=>by cases z
 xm:=T.xm
 xq:=T.xq
 xv:=T.xv
 xg:=T.xg
 mt:=T.mt
 at':=T.at'
 noex:=T.noex
 xcl:=T.xcl
theorem qGR (T:BodyS X c F k ex W) (pins:List (Addr × Obj)) (W1:WX):BodyS (hold X pins fun e s'=>∃ pins' σ H s0,Inv (hold X pins fun _ _=>False) pins' σ H s0∧CXD X.prog X.w ex X.stack H s0 (fun _ co H'=>∃ c,co=some c∧W1 c σ H') e s') c.still F k ex W1 where
 N:=T.N
 nd:=T.nd
 sc:=T.sc
 calm:=T.calm
 room:=T.room
 hu:=T.hu
 glob:=fun x g h=>by
  have:=T.glob x g h
  cases g <;> exact this
 xc:=fun pins' σ H s0 e s' I x=>⟨pins',σ,H,s0,⟨lT (lR I.ok),I.os,I.bare,I.base,I.loc,I.cell,I.free,I.freeC,I.pin,I.hok,I.len⟩,x⟩
 fn:=T.fn
 stk:=T.stk
 xr:=fun z=>by cases z
 xm:=T.xm
 xq:=T.xq
 xv:=T.xv
 xg:=T.xg
 mt:=T.mt
 at':=T.at'
 noex:=T.noex
 xcl:=T.xcl
structure AllS (F:Nat→List D→M D) (k B:Nat) (ex:Nat→Option Addr) (r:Rs):Prop where
 s:∀ (X:Cx) (c:Cc) (W:WX),BodyS X c F k ex W→∀ st cs,r.s c st=some cs→PS X st (tDS X.K W (qA F B cs))
 ss:∀ (X:Cx) (c:Cc) (W:WX),BodyS X c F k ex W→∀ st cs,r.ss c st=some cs→PSs X st (tDS X.K W (qA F B cs))
 h:∀ (X:Cx) (c:Cc) (W:WX),BodyS X c F k ex W→∀ hs ch,r.h c hs=some ch→HOf X F B ex hs ch
theorem qCE (T:BodyS X c F k ex W) {n:Nat} {t e:Expr} {spos:Pos} {cs:CS} (h:iG (rcN n) c e t=some cs):PS X (.Assign [t] e spos) (tDS X.K W (qA F B cs)):=by
 have A:=kF (F:=F) (k:=k) (ex:=ex) n X c W T.toBody
 cases t with
 | Name x py =>
  obtain ⟨i,hi,h⟩:=qC h
  obtain ⟨y,hy,h⟩:=qC h
  obtain ⟨hn,rfl⟩:=qM h
  obtain ⟨h1,h2⟩:=T.loc hi
  rcases Bool.or_eq_true_iff.mp hn with hn | hn
  ·exact iD T.nd' h1 h2 (A.e _ y hy) (yS hn) (.inl (T.fn _))
  ·cases n with
   | zero=>cases hy
   | succ n=>exact qCV T hi hn hy
 | Attribute o f p =>
  obtain ⟨kk,hk,h⟩:=qC h
  obtain ⟨x,hx,h⟩:=qC h
  obtain ⟨y,hy,h⟩:=qC h
  obtain ⟨hn,rfl⟩:=qM h
  obtain ⟨k1,k2,k3⟩:=T.at' _ kk.1 kk.2 hk
  exact qCU k1 k2 (fun c C h1 h2=>k3 c C h1 h2) (A.e _ x hx) (A.e _ y hy) (yS hn)
 | Subscript o i p =>
  obtain ⟨x,hx,h⟩:=qC h
  obtain ⟨z,hz,h⟩:=qC h
  obtain ⟨y,hy,h⟩:=qC h
  obtain ⟨hn,rfl⟩:=qM h
  obtain ⟨h1,h2⟩:=Bool.and_eq_true_iff.mp hn
  exact qCT (A.e _ x hx) (A.e _ z hz) (A.e _ y hy) (qJP h2) (by unfold swapsWithSole;exact yS h1) rfl
 | _=>cases h
theorem fB (T:BodyS X c F k ex W) (hc:X.calm=true) {tg:Expr} {t:TG} (h:yB c tg=some t):∃ g,kY X.K t g∧PG X.nox tg g:=by
 cases tg with
 | Name x p =>
  obtain ⟨i,hi,h⟩:=qC h
  cases h
  obtain ⟨h1,h2⟩:=T.loc hi
  exact ⟨_,qA0 i,L2.pg_name (X:=X.nox) T.nd' h1 h2 (.inl (T.fn _))⟩
 | _=>cases h
theorem qGh {n:Nat} (S:AllS F k B ex (rsN n)) (X:Cx) (c:Cc) (W:WX) (T:BodyS X c F k ex W) {tg it:Expr} {a:List Stmt} {pos:Pos} {t:TG} {z:CI} {y:CS} (ht:yB c tg=some t) (hz:(rcN n).i c it=some z) (hy:(rsN n).ss c.still a=some y) (hcm:c.calm=true):PS X (.For tg it a [] pos) (tDS X.K W (qA F B (.fori t z y))):=by
 have T':=aO T
 have A':=kF (k:=k) (ex:=ex) n X.nox c WF { T'.toBody with }
 obtain ⟨g,g1,g2⟩:=fB T (T.calm hcm) ht
 exact qCg g1 (T.calm hcm) (A'.i _ _ z hz).1 g2 (S.ss _ _ _ T' _ y hy) (vG (A'.i (.Name "" ⟨0,0,0,0⟩) _ z hz).2)
theorem qGi {n:Nat} (S:AllS F k B ex (rsN n)) (X:Cx) (c:Cc) (W:WX) (T:BodyS X c F k ex W) {tg l:Expr} {a:List Stmt} {pos:Pos} {cs:CS} (hd:jF l=true) (h:uD (rcN n) (rsN n) c tg l a=some cs):PS X (.For tg l a [] pos) (tDS X.K W (qA F B cs)):=by
 unfold uD at h
 obtain ⟨t,ht,h⟩:=qC h
 cases t with
 | two i j=>cases h
 | nm i =>
  obtain ⟨z,hz,h⟩:=qC h
  obtain ⟨y,hy,h⟩:=qC h
  obtain ⟨hcm,rfl⟩:=qM h
  have T':=aO T
  have A':=kF (k:=k) (ex:=ex) n X.nox c WF { T'.toBody with }
  obtain ⟨g,g1,g2⟩:=fB T (T.calm hcm) ht
  exact qCf g1 (T.calm hcm) (A'.e _ z hz) g2 (S.ss _ _ _ T' _ y hy) (vG (lZ hd))
theorem qCw (T:BodyS X c F k ex W) {e:Expr} {x:Str} {cs:CS} {pos:Pos} (he:bY e=some x) (h:aW c x=some cs):PS X (.Raise (some e) none pos) (tDS X.K W (qA F B cs)):=by
 obtain ⟨_,_,_,_,_,rfl⟩:=qFv he
 unfold aW at h
 cases w:c.glob x with
 | none=>rw [w] at h;cases h
 | some g =>
  rw [w] at h
  cases g with
  | exc i =>
   obtain ⟨hr,rfl⟩:=qM h
   obtain ⟨hr1,hr2⟩:=Bool.and_eq_true_iff.mp hr
   obtain ⟨g1,g2,g3,C,g4,g5,g6⟩:=T.gl w
   exact qCZ (T.calm hr2) g1 g2 g4 g6 fun pins σ H s a args h' I m hw=>T.xr hr1 pins σ H s a args h' i C g5 I m hw
  | _=>cases h
theorem qAt {n:Nat} (S:AllS F k B ex (rsN n)) (X:Cx) (c:Cc) (W:WX) (T:BodyS X c F k ex W) {a els fin:List Stmt} {hs:List ExceptHandler} {pos:Pos} {cs:CS} (h:iF (rsN n) c a hs els fin=some cs):PS X (.Try a hs els fin pos) (tDS X.K W (qA F B cs)):=by
 cases hs with
 | nil=>cases h
 | cons hd hs =>
  cases els with
  | cons _ _=>cases h
  | nil =>
   cases fin with
   | cons _ _=>cases h
   | nil =>
    obtain ⟨x,hx,h⟩:=qC h
    obtain ⟨y,hy,h⟩:=qC h
    obtain ⟨_,rfl⟩:=qM h
    exact qCR T.stk (S.h X c W T _ y hy) fun pins W1=>S.ss _ _ _ (qGR T pins W1) _ x hx
theorem qBc {n:Nat} (S:AllS F k B ex (rsN n)) (X:Cx) (c:Cc) (W:WX) (T:BodyS X c F k ex W) (st:Stmt) (cs:CS) (h:stS (rcN n) (rsN n) c st=some cs):PS X st (tDS X.K W (qA F B cs)):=by
 have A:=kF (k:=k) (ex:=ex) n X c W T.toBody
 cases st with
 | Assign ts e spos =>
  rcases ts with _ | ⟨t,_ | ⟨_,_⟩⟩
  ·cases h
  ·exact qCE T h
  ·cases h
 | Expr e pos =>
  obtain ⟨y,hy,h⟩:=qC h
  obtain ⟨hn,rfl⟩:=qM h
  exact qCh (A.e _ y hy) (yS hn)
 | Return v pos =>
  cases v with
  | none=>cases h;exact qCW
  | some e=>obtain ⟨y,hy,h⟩:=qC h;cases h;exact qCX (A.e _ y hy)
 | Pass pos=>cases h;exact qCa
 | Break pos=>cases h;exact qCk
 | Continue pos=>cases h;exact qCj
 | If t a b pos =>
  obtain ⟨z,hz,h⟩:=qC h
  obtain ⟨x,hx,h⟩:=qC h
  obtain ⟨y,hy,h⟩:=qC h
  cases h
  exact qCe (A.t _ z hz) (S.ss X c W T _ x hx) (S.ss X c W T _ y hy)
 | While t a els pos =>
  cases els with
  | cons _ _=>cases h
  | nil =>
   obtain ⟨z,hz,h⟩:=qC h
   obtain ⟨x,hx,h⟩:=qC h
   cases h
   have T':=aO T
   exact qCP ((kF (k:=k) (ex:=ex) n _ _ _ T'.toBody).t _ z hz) (S.ss _ _ _ T' _ x hx)
 | For tg it a els pos =>
  cases els with
  | cons _ _=>cases h
  | nil =>
   have h:(match jF it with | true=>uD (rcN n) (rsN n) c tg it a | false=>(yB c tg).bind fun t=>((rcN n).i c it).bind fun z=>((rsN n).ss c.still a).bind fun y=>qL c.calm (.fori t z y))=some cs:=h
   cases hd:jF it with
   | true=>rw [hd] at h;exact qGi S X c W T hd h
   | false =>
   rw [hd] at h
   obtain ⟨t,ht,h⟩:=qC h
   obtain ⟨z,hz,h⟩:=qC h
   obtain ⟨y,hy,h⟩:=qC h
   obtain ⟨hcm,rfl⟩:=qM h
   exact qGh S X c W T ht hz hy hcm
 | Raise x y pos =>
  cases y with
  | some _=>cases h
  | none =>
   cases x with
   | none=>cases h
   | some e=>obtain ⟨x,hx,h⟩:=qC h;exact qCw T hx h
 | Try a hs els fin pos=>exact qAt S X c W T h
 | _=>cases h
theorem qCb {st:Stmt}:PS X st (tDS X.K W (qA F B .opq)):=fun pins s σ H D I t=>by
 obtain ⟨ρ,env,h,st,r,p⟩:=t
 rw [qA] at p
 exact False.elim p
theorem iE {n:Nat} (S:AllS F k B ex (rsN n)) {X:Cx} {c:Cc} {W:WX} (T:BodyS X c F k ex W) (st:Stmt):PS X st (tDS X.K W (qA F B (((rsN n).s c st).getD .opq))):=by
 cases q:(rsN n).s c st with
 | none=>exact qCb
 | some x=>exact S.s X c W T st x q
theorem qCc {st:Stmt} {a:CS} (h1:PS X st (tDS X.K W (qA F B a))):PSs X [st] (tDS X.K W (qA F B a)):=L2.pss_one h1
theorem qBb {n:Nat} (S:AllS F k B ex (rsN n)) (X:Cx) (c:Cc) (W:WX) (T:BodyS X c F k ex W) (st:List Stmt) (cs:CS) (h:ssS (rsN n) c st=some cs):PSs X st (tDS X.K W (qA F B cs)):=by
 cases st with
 | nil=>cases h;exact qCd
 | cons s r =>
  cases r with
  | nil=>cases h;exact qCc (iE S T _)
  | cons t r=>obtain ⟨y,hy,h⟩:=qC h;cases h;exact qCi (iE S T _) (S.ss X c W T _ y hy)
theorem qGc {n:Nat} (S:AllS F k B ex (rsN n)) (X:Cx) (c:Cc) (W:WX) (T:BodyS X c F k ex W) {x:Str} {p pos:Pos} {i:Nat} {nm:Option Str} {b:List Stmt} {r:List ExceptHandler} {ch:CH} (hi:c.glob x=some (.exc i)) (h:sH (rsN n) c i nm b r=some ch):HOf X F B ex (.ExceptHandler (some (.Name x p)) nm b pos::r) ch:=by
 obtain ⟨g1,g2,g3,C,g4,g5,g6⟩:=T.gl hi
 cases b with
 | nil=>cases h
 | cons s b =>
  obtain ⟨cs,hcs,h⟩:=qC h
  obtain ⟨kk,hk,h⟩:=qC h
  obtain ⟨q,hq,h⟩:=qC h
  cases nm with
  | none =>
   cases h
   exact ⟨⟨C,g1,g2,g4,fun j D hj=>T.xm i cs C j D hcs g5 hj⟩,⟨_,_,rfl⟩,fun e=>S.ss _ _ _ (pN T e) _ kk hk,S.h X c W T _ q hq⟩
  | some m =>
   obtain ⟨j,hj,h⟩:=qC h
   cases h
   unfold Cc.loc at hj
   split at hj
   ·rename_i hl
    exact ⟨⟨C,g1,g2,g4,fun j D hj=>T.xm i cs C j D hcs g5 hj⟩,⟨_,_,rfl⟩,⟨T.noex,T.nd',by rw [T.N];exact uW hj,by rw [T.sc];exact hl,T.xcl⟩,fun e=>S.ss _ _ _ (pN T e) _ kk hk,S.h X c W T _ q hq⟩
   ·cases hj
theorem qBg {n:Nat} (S:AllS F k B ex (rsN n)) (X:Cx) (c:Cc) (W:WX) (T:BodyS X c F k ex W) (hs:List ExceptHandler) (ch:CH) (h:hS (rsN n) c hs=some ch):HOf X F B ex hs ch:=by
 cases hs with
 | nil=>cases h;trivial
 | cons hd r =>
  obtain ⟨ty,nm,b,pos⟩:=hd
  cases ty with
  | none=>cases h
  | some t =>
   obtain ⟨x,hx,h2⟩:=qC h
   obtain ⟨p,rfl⟩:=cA hx
   clear h
   cases w:c.glob x with
   | none=>rw [w] at h2;cases h2
   | some g =>
    rw [w] at h2
    cases g with
    | exc i=>exact qGc S X c W T w h2
    | _=>cases h2
theorem tJ:∀ n,AllS F k B ex (rsN n)
 | 0=>{ s:=fun _ _ _ _ _ _ h=>(nomatch h),ss:=fun _ _ _ _ _ _ h=>(nomatch h),h:=fun _ _ _ _ _ _ h=>(nomatch h) }
 | n+1 =>
  have S:=tJ n
  ⟨qBc S,qBb S,qBg S⟩
end
end Fy
set_option Elab.async false
set_option linter.all false
set_option maxRecDepth 100000
set_option maxHeartbeats 4000000
namespace Fy
open PySem PySem.Spec PyProof.Rows
open L2 (XK frs V Hp HO VK TE TT TA TS TI Cx Inv RelV Vals SqL SqT Rd upd qF qD PE PT PA PS PSs EP OpR CallR IxR MtR SlR PO TO PI PG PIE Turn qJ Ends)
structure Df where
 name:Str
 qual:Str
 st:Stmt
 N:List Str
 ps:List Str
structure DfOk (G:List (Str × GK)) (xs:List (Nat × List Nat)) (Mt:List (Str × Nat × List (Nat × Nat))) (At:List (Str × Nat × List Nat)) (d:Df) (f:Fn):Prop where
 sc:L2.FnScope d.N d.ps (L2.defScope d.st)
 cp:cSs ⟨d.N,L2.defScope d.st,G,xs,true,true,Mt,At⟩ 100 (L2.defBody d.st)=some f.body
 ar:f.ar=d.ps.length
 sl:f.sl=d.N.length
noncomputable def kU (K:PySem.W.Frag) (d:Df) (f:Addr) (fd:FuncData):Prop:=L2.Fun K d.name d.qual d.st f fd∧L2.Binds K fd d.ps []
noncomputable def qJb (mg:Str→Option Value) (x:Str) (d:D):Prop:=∃ v u,mg x=some u∧RelV v u∧∀ K ρ H,RepV K ρ H d v
noncomputable def zD (K:PySem.W.Frag) (xl:List Nat) (c:Nat):Option Addr:=if xl.contains c then (match PySem.W.nsIn K mainGlobals (qI c) with | some (some (.ref C))=>some C | _=>none) else none
theorem wB {K:PySem.W.Frag} {xl:List Nat} {c:Nat} {C:Addr} (h:zD K xl c=some C):c∈xl∧qZ K c C:=by
 unfold zD at h
 split at h
 ·rename_i q
  refine ⟨by simpa using q,?_⟩
  split at h
  ·rename_i C' z
   cases h
   exact z
  ·cases h
 ·cases h
theorem gJ {K:PySem.W.Frag} {xl:List Nat} {c:Nat} {C:Addr} {x:Str} (hc:xl.contains c=true) (hx:qI c=x) (h:PySem.W.nsIn K mainGlobals x=some (some (.ref C))):zD K xl c=some C:=by
 unfold zD
 rw [if_pos hc,hx,h]
theorem yG {K:PySem.W.Frag} {c:Nat} {C D:Addr} {x:Str} (h:qZ K c D) (hx:qI c=x) (ha:PySem.W.nsIn K mainGlobals x=some (some (.ref C))):D=C:=by
 unfold qZ at h
 rw [hx,ha] at h
 cases h
 rfl
theorem qGq {K:PySem.W.Frag} {C D:Addr} {b:Bool} (hc:PySem.W.isClsIn K C=true) (ht:PySem.W.typeIn K (.ref C)=some (.type "type")) (hb:PySem.W.subIn K (.ref C) (.type "BaseException")=some true) (hs:PySem.W.subIn K (.ref D) (.ref C)=some b) :
  PySem.W.exmOne K (.ref D) (.ref C)=some b:=by
 unfold PySem.W.exmOne
 rw [hb,if_pos (show (some true == some true)=true from rfl)]
 unfold PySem.W.kitCls
 have hc':(PySem.W.clsIn K C).isSome=true:=hc
 simp only
 rw [hc',ht,if_pos (show (true&&some (Value.type "type") == some (Value.type "type"))=true by decide),hs]
noncomputable def GlP (K:PySem.W.Frag) (mg:Str→Option Value) (xl:List Nat) (ds:List Df) (x:Str) (g:GK):Prop:=match g with
 | .fn i=>∃ d f fd,ds[i]?=some d∧mg x=some (.ref f)∧kU K d f fd
 | .con d=>qJb mg x d
 | .blt=>mg x=none
 | .exc c=>∃ C,mg x=some (.ref C)∧zD K xl c=some C∧vE K C=true
 | .cls c i=>∃ C d f fd,mg x=some (.ref C)∧qZ K c C∧L2.Cls K C∧L2.Mk K C f∧ds[i]?=some d∧kU K d f fd
noncomputable def MtP (K:PySem.W.Frag) (ds:List Df) (m:Str) (mk:Nat) (tb:List (Nat × Nat)):Prop:=m=qI mk∧mk<256 ^ 60∧∀ cc fi C,tbN tb cc=some fi→qZ K cc C→L2.Cls K C∧∃ d f fd,L2.Meth K C m f∧ds[fi]?=some d∧kU K d f fd
noncomputable def AtP (K:PySem.W.Frag) (f:Str) (kk:Nat) (cs:List Nat):Prop:=f=qI kk∧kk<256 ^ 60∧∀ cc C,cs.contains cc=true→qZ K cc C→L2.NoAttr K C (qI kk)
noncomputable def AllP {α:Type} (P:α→Prop):List α→Prop
 | []=>True
 | a::r=>P a∧AllP P r
theorem AllP.of {α:Type} {P:α→Prop} {l:List α} (h:AllP P l) {a:α} (ha:a∈l):P a:=by
 induction l with
 | nil=>cases ha
 | cons b r ih =>
  rcases List.mem_cons.mp ha with e | e
  ·rw [e];exact h.1
  ·exact ih h.2 e
noncomputable def AllZ {α β:Type} (P:α→β→Prop):List α→List β→Prop
 | a::r,b::q=>P a b∧AllZ P r q
 | _,_=>True
theorem AllZ.of {α β:Type} {P:α→β→Prop} {l:List α} {m:List β} (h:AllZ P l m) {i:Nat} {a:α} {b:β} (ha:l[i]?=some a) (hb:m[i]?=some b):P a b:=by
 induction l generalizing m i with
 | nil=>cases ha
 | cons x r ih =>
  cases m with
  | nil=>cases hb
  | cons y q =>
   cases i with
   | zero=>cases ha;cases hb;exact h.1
   | succ i=>exact ih h.2 (by simpa using ha) (by simpa using hb)
noncomputable def zH (d:Df):Prop:=∀ (kV doc pm:Value) (an:Option Addr) (cdv ct:Value) (us:List Value),us.length=d.ps.length→bindArgs (PySem.W.fnOf d.name d.qual (L2.defArgs d.st) (L2.defBody d.st) (L2.defScope d.st) .none kV doc pm an cdv ct) ⟨us,[]⟩=pure (d.ps.zip us)
section
variable {P:List Value→Prop}
theorem ar1 (h:∀ a,P [a]):∀ us:List Value,us.length=1→P us
 | [a],_=>h a
theorem ar2 (h:∀ a b,P [a,b]):∀ us:List Value,us.length=2→P us
 | [a,b],_=>h a b
theorem ar3 (h:∀ a b c,P [a,b,c]):∀ us:List Value,us.length=3→P us
 | [a,b,c],_=>h a b c
end
theorem qHj {K:PySem.W.Frag} {d:Df} {f:Addr} {oc:Value} {od an:Option Addr} {osl:Array (Option Value)} {kV doc pm cdv ct:Value} (p:zH d)
  (l:K.lookup f=some ⟨oc,od,.func (PySem.W.fnOf d.name d.qual (L2.defArgs d.st) (L2.defBody d.st) (L2.defScope d.st) .none kV doc pm an cdv ct),osl⟩) (c:PySem.W.codeIn K cdv d.qual=true) (k:PySem.W.keepIn K (.ref f)=true) :
  ∃ fd,kU K d f fd:=⟨_,L2.fun_mk l c k,(L2.fun_mk l c k).binds p⟩
section
variable {K:PySem.W.Frag} {mg:Str→Option Value} {xl:List Nat} {ds:List Df} {h:Heap} {x:Str}
theorem gl_fn {i:Nat} {d:Df} {f:Addr} (X:K.In h) (Gm:h.Ns mainGlobals mg) (hd:ds[i]?=some d) (a:PySem.W.nsIn K mainGlobals x=some (some (.ref f))) (D:∃ fd,kU K d f fd):GlP K mg xl ds x (.fn i):=by
 obtain ⟨fd,D⟩:=D
 exact ⟨d,f,fd,hd,PySem.W.mg_of X Gm a,D⟩
theorem gl_cls {i c:Nat} {C f:Addr} {d:Df} (X:K.In h) (Gm:h.Ns mainGlobals mg) (hd:ds[i]?=some d) (hx:qI c=x) (a:PySem.W.nsIn K mainGlobals x=some (some (.ref C))) (q:L2.Cls K C) (m:L2.Mk K C f) (D:∃ fd,kU K d f fd):GlP K mg xl ds x (.cls c i):=by
 obtain ⟨fd,D⟩:=D
 exact ⟨C,d,f,fd,PySem.W.mg_of X Gm a,(by unfold qZ;rw [hx];exact a),q,m,hd,D⟩
theorem gl_exc {c:Nat} {C:Addr} (X:K.In h) (Gm:h.Ns mainGlobals mg) (hc:xl.contains c=true) (hx:qI c=x) (a:PySem.W.nsIn K mainGlobals x=some (some (.ref C))) (e:vE K C=true):GlP K mg xl ds x (.exc c) :=
 ⟨C,PySem.W.mg_of X Gm a,gJ hc hx a,e⟩
theorem gl_int {n:Int} {t:Tok} (X:K.In h) (Gm:h.Ns mainGlobals mg) (a:PySem.W.nsIn K mainGlobals x=some (some (.int n t))):GlP K mg xl ds x (.con (.int n)):=⟨.int _,_,PySem.W.mg_of X Gm a,⟨_,rfl⟩,fun _ _ _=>rfl⟩
theorem gl_blt (X:K.In h) (Gm:h.Ns mainGlobals mg) (a:PySem.W.nsIn K mainGlobals x=some none):GlP K mg xl ds x .blt:=PySem.W.mg_none_of X Gm a
end
structure Top (K:PySem.W.Frag) (mg:Str→Option Value) (G:List (Str × GK)) (xs:List (Nat × List Nat)) (xl:List Nat) (Mt:List (Str × Nat × List (Nat × Nat))) (At:List (Str × Nat × List Nat)) (ds:List Df) (fns:List Fn):Prop where
 ok:∀ (i:Nat) (d:Df) (f:Fn),ds[i]?=some d→fns[i]?=some f→DfOk G xs Mt At d f
 len:ds.length=fns.length
 gl:∀ x g,(x,g)∈G→GlP K mg xl ds x g
 mt:∀ m mk tb,(m,mk,tb)∈Mt→MtP K ds m mk tb
 at':∀ f kk cs,(f,kk,cs)∈At→AtP K f kk cs
 xm:∀ (i:Nat) (cs:List Nat) (C:Addr) (j:Nat) (D:Addr),(i,cs)∈xs→zD K xl i=some C→zD K xl j=some D→PySem.W.exmOne K (.ref D) (.ref C)=some (cs.contains j)
 xk:∀ (i:Nat) (cs:List Nat),(i,cs)∈xs→xl.contains i=true→cs.contains i=true
 xl1:∀ (cs:List Nat),(1,cs)∈xs→cs=xl
 xv:∀ (cs:List Nat) (j:Nat) (D:Addr),(0,cs)∈xs→zD K xl j=some D→PySem.W.exmOne K (.ref D) (.type "ValueError")=some (cs.contains j)
 xg:∀ (j:Nat) (D:Addr),zD K xl j=some D→XGet K D
section
variable {K:PySem.W.Frag} {mg:Str→Option Value} {xl:List Nat} {ds:List Df} {h:Heap} {x:Str}
theorem df_mk' {d:Df} {f:Addr} {oc:Value} {od an:Option Addr} {osl:Array (Option Value)} {kV doc pm cdv ct:Value} {nm ql:Str} (p:zH d) (hn:d.name=nm) (hq:d.qual=ql)
  (l:K.lookup f=some ⟨oc,od,.func (PySem.W.fnOf nm ql (L2.defArgs d.st) (L2.defBody d.st) (L2.defScope d.st) .none kV doc pm an cdv ct),osl⟩) (c:PySem.W.codeIn K cdv ql=true) (k:PySem.W.keepIn K (.ref f)=true):∃ fd,kU K d f fd:=by
 subst hn hq
 exact qHj p l c k
theorem with_cls {C:Addr} {P:Prop} (X:K.In h) (a:PySem.W.nsIn K mainGlobals x=some (some (.ref C))) (b:PySem.W.plainGet K C Str.empty=true) (c:PySem.W.hasDictIn K C=true) (d:PySem.W.plainOver K C=true) (e:PySem.W.findIn K (.ref C) "__setattr__"=some (some (.builtin "object.__setattr__"))) (k:PySem.W.nsIn K mainGlobals x=some (some (.ref C))→L2.Cls K C→P):P:=k a ⟨b,c,d,e⟩
theorem with_exc {C:Addr} {P:Prop} (X:K.In h) (a:PySem.W.nsIn K mainGlobals x=some (some (.ref C))) (b:PySem.W.excIn K C [.type "ValueError",.type "Exception",.type "BaseException",.type "object"] "ValueError.__new__"=true) (k:PySem.W.nsIn K mainGlobals x=some (some (.ref C))→vE K C=true→P):P:=k a b
theorem mt_nil {m:Str} {mk:Nat} (h1:qI mk=m) (h2:mk<256 ^ 60):MtP K ds m mk []:=⟨h1.symm,h2,fun _ _ _ z=>by cases z⟩
theorem mt_cons {m:Str} {mk c i:Nat} {C f:Addr} {d:Df} {tb:List (Nat × Nat)} (hx:qI c=x) (hn:PySem.W.nsIn K mainGlobals x=some (some (.ref C))) (h3:L2.Cls K C) (hm:L2.Meth K C m f) (hd:ds[i]?=some d) (D:∃ fd,kU K d f fd) (r:MtP K ds m mk tb):MtP K ds m mk ((c,i)::tb) :=
 ⟨r.1,r.2.1,fun cc fi E ht hE=>by
  unfold tbN at ht
  split at ht
  ·rename_i q
   have q:c=cc:=by simpa using q
   subst q
   cases ht
   cases yG hE hx hn
   obtain ⟨fd,D⟩:=D
   exact ⟨h3,d,f,fd,hm,hd,D⟩
  ·exact r.2.2 cc fi E ht hE⟩
theorem at_nil {f:Str} {kk:Nat} (h1:qI kk=f) (h2:kk<256 ^ 60):AtP K f kk []:=⟨h1.symm,h2,fun _ _ z=>by cases z⟩
theorem at_cons {f:Str} {kk c:Nat} {C:Addr} {cs:List Nat} (hx:qI c=x) (hn:PySem.W.nsIn K mainGlobals x=some (some (.ref C))) (h3:PySem.W.findIn K (.ref C) f=some none) (r:AtP K f kk cs):AtP K f kk (c::cs) :=
 ⟨r.1,r.2.1,fun cc D hc hD=>by
  rw [List.contains_cons,Bool.or_eq_true] at hc
  rcases hc with e | e
  ·have e:cc=c:=by simpa using e
   subst e
   cases yG hD hx hn
   unfold L2.NoAttr
   rw [← r.1]
   exact h3
  ·exact r.2.2 cc D e hD⟩
noncomputable def XsP (K:PySem.W.Frag) (C:Addr) (cs:List Nat) (j:Nat):Prop:=∀ D,qZ K j D→PySem.W.subIn K (.ref D) (.ref C)=some (cs.contains j)
theorem xs_mk {C D:Addr} {cs:List Nat} {j:Nat} {b:Bool} (hx:qI j=x) (a:PySem.W.nsIn K mainGlobals x=some (some (.ref D))) (hb:cs.contains j=b) (hs:PySem.W.subIn K (.ref D) (.ref C)=some b):XsP K C cs j:=fun E hE=>by
 cases yG hE hx a
 rw [hb]
 exact hs
noncomputable def XmP (K:PySem.W.Frag) (xl:List Nat) (i:Nat) (cs:List Nat):Prop:=∀ C,zD K xl i=some C→∀ j D,zD K xl j=some D→PySem.W.exmOne K (.ref D) (.ref C)=some (cs.contains j)
theorem xm_mk {i:Nat} {cs:List Nat} {C:Addr} (hx:qI i=x) (a:PySem.W.nsIn K mainGlobals x=some (some (.ref C))) (hc:PySem.W.isClsIn K C=true) (ht:PySem.W.typeIn K (.ref C)=some (.type "type")) (hb:PySem.W.subIn K (.ref C) (.type "BaseException")=some true) (r:AllP (XsP K C cs) xl):XmP K xl i cs:=fun E hE j D hD=>by
 cases yG (wB hE).2 hx a
 obtain ⟨hj,hD⟩:=wB hD
 exact qGq hc ht hb (r.of hj D hD)
noncomputable def XgP (K:PySem.W.Frag) (j:Nat):Prop:=∀ D,qZ K j D→XGet K D
theorem xg_mk {j:Nat} {C:Addr} (hx:qI j=x) (a:PySem.W.nsIn K mainGlobals x=some (some (.ref C))) (g:XGet K C):XgP K j:=fun D hD=>by
 cases yG hD hx a
 exact g
theorem top_of {G:List (Str × GK)} {xs:List (Nat × List Nat)} {Mt:List (Str × Nat × List (Nat × Nat))} {At:List (Str × Nat × List Nat)} {fns:List Fn} (ok:AllZ (fun d f=>DfOk G xs Mt At d f) ds fns) (len:ds.length=fns.length) (gl:AllP (fun p:Str × GK=>GlP K mg xl ds p.1 p.2) G)
  (mt:AllP (fun p:Str × Nat × List (Nat × Nat)=>MtP K ds p.1 p.2.1 p.2.2) Mt) (at':AllP (fun p:Str × Nat × List Nat=>AtP K p.1 p.2.1 p.2.2) At) (xm:AllP (fun p:Nat × List Nat=>XmP K xl p.1 p.2) xs) (xk:xs.all (fun p=>!xl.contains p.1 || p.2.contains p.1)=true) (xl1:xs.all (fun p=>decide (p.1≠1) || decide (p.2=xl))=true)
  (xv:xs.all (fun p=>decide (p.1≠0))=true) (xg:AllP (XgP K) xl):Top K mg G xs xl Mt At ds fns where
 ok:=fun _ _ _ hd hf=>ok.of hd hf
 len:=len
 gl:=fun _ _ hg=>gl.of hg
 mt:=fun _ _ _ hm=>mt.of hm
 at':=fun _ _ _ hf=>at'.of hf
 xm:=fun _ _ C j D hi hC hD=>xm.of hi C hC j D hD
 xk:=fun i cs hi hx=>by
  have:=List.all_eq_true.mp xk _ hi
  rw [show xl.contains (i,cs).1=true from hx] at this
  exact this
 xl1:=fun cs hi=>by
  have:=List.all_eq_true.mp xl1 _ hi
  simpa using this
 xv:=fun cs j D hi _=>by
  have:=List.all_eq_true.mp xv _ hi
  simp at this
 xg:=fun j D hD=>xg.of (wB hD).1 D (wB hD).2
end
theorem lookup_mem' {α β:Type} [BEq α] [LawfulBEq α] {l:List (α × β)} {x:α} {g:β} (h:l.lookup x=some g):(x,g)∈l:=by
 induction l with
 | nil=>cases h
 | cons p l ih =>
  obtain ⟨a,b⟩:=p
  rw [List.lookup_cons] at h
  cases q:(x == a) with
  | true =>
   rw [q] at h
   cases h
   have:x=a:=by simpa using q
   subst this
   exact List.mem_cons_self ..
  | false =>
   rw [q] at h
   exact List.mem_cons_of_mem _ (ih h)
theorem PostS.fin {K:PySem.W.Frag} {Q:VK} {w:W1} {ρ:List Addr} {H:Hp} {r:SR} (p:PostV K w Q ρ H (fin r)):PostS K (fun c _ H'=>w c H') { nx:=fun _ H'=>Q .non H',rt:=Q } ρ H r:=by
 cases r with
 | nx e h=>exact fun ρ' H' st e' r' s'=>p ρ' H' e' r' .non rfl
 | rt d h=>exact fun ρ' H' v e' r' hv=>p ρ' H' e' r' v hv
 | bk e h=>exact False.elim p
 | ct e h=>exact False.elim p
 | exc c e h=>exact fun ρ' H' st e' r' s'=>p ρ' H' e' r'
 | bad=>exact False.elim p
theorem PSs.wish {X:Cx} {E:Value→Shared→Prop} {st:List Stmt} {t:TS} (h:PSs (X.wish E) st t) (hE:∀ e s,E e s→X.xe e s):PSs X st t:=fun pins s σ H D I hw =>
 wpAny_mono (h pins s σ H D (I.wish _) hw) (fun _ _ q=>q.unwish) hE
theorem RepS.start {K:PySem.W.Frag} {ρ:List Addr} {H:Hp} {N:List Str} {ds:List D} {vs:List V} {n:Nat} (l:RepL K ρ H ds vs) (hn:n=N.length-vs.length):RepS K ρ H (ds.map some++List.replicate n none) (L2.start N vs):=by
 subst hn
 unfold L2.start
 refine ⟨by simp [l.length],fun i d hi=>?_⟩
 by_cases hlt:i<ds.length
 ·rw [List.getElem?_append_left (by simpa using hlt),List.getElem?_map] at hi
  cases q:ds[i]? with
  | none=>rw [q] at hi;cases hi
  | some d' =>
   rw [q] at hi
   cases hi
   obtain ⟨v,h1,h2⟩:=l.get q
   refine ⟨v,?_,h2⟩
   rw [List.getElem?_append_left (by simpa [l.length] using hlt),List.getElem?_map,h1]
   rfl
 ·rw [List.getElem?_append_right (by simpa using hlt),List.getElem?_replicate] at hi
  split at hi <;> cases hi
noncomputable def rR (X0:Cx) (ex:Nat→Option Addr) (E:XK):Value→Shared→Prop:=fun e s' =>
 (∃ pins σ H1 s1,Inv X0 pins σ H1 s1∧CXD X0.prog X0.w ex X0.stack H1 s1 (fun _ co H'=>∃ c,co=some c∧∀ e,E e (some c) H') e s') ∨
 (∃ pins σ H1 s1 a args h' c C,ex c=some C∧Inv X0 pins σ H1 s1∧Heap.MadeExcOf s1.heap h' a (.ref C) args∧(∀ e,E e (some c) H1)∧e=.ref a∧s'={ s1 with heap:=h' })
theorem gC {P:Program} {w:World} {K:PySem.W.Frag} {mg:Str→Option Value} {base:Heap} {G:List (Str × GK)} {xs:List (Nat × List Nat)} {xl:List Nat} {Mt:List (Str × Nat × List (Nat × Nat))} {At:List (Str × Nat × List Nat)} {ds:List Df} {fns:List Fn} {B:Nat} (T:Top K mg G xs xl Mt At ds fns) :
  ∀ (n i:Nat) (d:Df) (f:Addr) (fd:FuncData),ds[i]?=some d→L2.Fun K d.name d.qual d.st f fd→L2.FnOk P w K mg base (CXD P w (zD K xl)) (2*n) f fd d.ps (spD K (qB fns B n i))
 | 0,i,d,f,fd,hi,hf=>by
  refine ⟨fun vs H Q E h=>?_,fun A outer s H args us vs Q E hr he hb hv h=>?_⟩
  ·obtain ⟨ρ,h0,ds,_,_,p⟩:=h
   exact False.elim p
  ·obtain ⟨ρ,h0,ds,_,_,p⟩:=h
   exact False.elim p
 | n+1,i,d,f,fd,hi,hf=>by
  have hil:=(List.getElem?_eq_some_iff.mp hi).1
  have hfi:fns[i]?=some (fns[i]'(by rw [← T.len];exact hil)):=List.getElem?_eq_getElem _
  generalize fns[i]'(by rw [← T.len];exact hil)=fn at hfi
  have O:=T.ok i d fn hi hfi
  have key:∀ {ds:List D} {h:AH},qB fns B (n+1) i ds h=bC (qB fns B n) B fn ds h:=by
   intro ds h
   rw [qB,hfi]
  have arity:∀ {w:W1} {Q:VK} {ρ:List Addr} {H:Hp} {ds:List D} {h:AH},PostV K w Q ρ H (qB fns B (n+1) i ds h)→ds.length=fn.ar∧PostV K w Q ρ H (fin (qA (qB fns B n) B fn.body (ds.map some++List.replicate (fn.sl-fn.ar) none) h)):=by
   intro w Q ρ H ds h p
   rw [key,bC] at p
   exact PostV.ite p
  obtain ⟨oc,od,kV,doc,pm,an,cdv,ct,osl,rfl,lk,hcd⟩:=hf.ex
  refine L2.fn_of lk hcd O.sc (fun vs H Q E h=>?_) fun A outer s H vs Q E hr h=>?_
  ·obtain ⟨ρ,h0,ds,_,l,p⟩:=h
   rw [l.length,(arity p).1,O.ar]
  ·obtain ⟨ρ,h0,ds',r,l,p⟩:=h
   obtain ⟨ha,p⟩:=arity p
   refine ⟨tDS K (fun c _ H'=>∀ e,E e (some c) H') (qA (qB fns B n) B fn.body),?_,ρ,ds'.map some++List.replicate (fn.sl-fn.ar) none,h0,RepS.start l (by rw [O.sl,l.length,ha]),r,PostS.fin p⟩
   refine PSs.wish (E:=rR (cxX (zD K xl) P w K mg base d.N d.qual (L2.defScope d.st) f cdv A outer s H E) (zD K xl) E) ?_ fun e s' z=>?_
   ·have T':BodyS ((cxX (zD K xl) P w K mg base d.N d.qual (L2.defScope d.st) f cdv A outer s H E).wish (rR (cxX (zD K xl) P w K mg base d.N d.qual (L2.defScope d.st) f cdv A outer s H E) (zD K xl) E)) ⟨d.N,L2.defScope d.st,G,xs,true,true,Mt,At⟩ (qB fns B n) (2*n) (zD K xl) (fun c _ H'=>∀ e,E e (some c) H'):=by
     refine ⟨⟨rfl,O.sc.nd,rfl,fun _=>rfl,fun _=>hr,hr.units,fun x g hg=>?_,fun i cs xl' C j D h h1 hC hD hj=>?_,fun cs xl' j D h h1 hD hj=>?_,fun m mk tb hm=>?_,fun f kk cs hf=>T.at' f kk cs (lookup_mem' hf),fun xl' j D h1 hD hj=>?_,fun pins σ H1 s1 e s' I x=>.inl ⟨pins,σ,H1,s1,I.unwish,x⟩⟩,fun _=>rfl,⟨rfl,rfl⟩,rfl,fun i C h=>(wB h).2,fun _ pins σ H1 s1 a args h' c C hc I m hw=>.inr ⟨pins,σ,H1,s1,a,args,h',c,C,hc,I.unwish,m,hw,rfl,rfl⟩,fun i cs C j D h=>T.xm i cs C j D (lookup_mem' h)⟩
     ·have gm:=T.gl x g (lookup_mem' hg)
      cases g with
      | fn j =>
       obtain ⟨d',f',fd',hd',hm,hF,hB⟩:=gm
       exact ⟨f',fd',d'.ps,hm,hF.kp,hB,gC T n j d' f' fd' hd' hF⟩
      | con e =>
       obtain ⟨v,u,h1,h2,h3⟩:=gm
       exact ⟨v,u,h1,h2,fun ρ H=>h3 _ ρ H⟩
      | blt=>exact gm
      | exc c=>exact gm
      | cls c j =>
       obtain ⟨C,d',f',fd',hm,h1,h2,h3,hd',hF,hB⟩:=gm
       exact ⟨C,f',fd',d'.ps,hm,h1,h2,h3,hB,gC T n j d' f' fd' hd' hF⟩
     ·have e:=T.xl1 _ (lookup_mem' h1)
      subst e
      have hD':=gJ hj rfl hD
      have q1:=T.xm i cs C j D (lookup_mem' h) hC hD'
      refine nB q1 fun z=>?_
      have e:D=C:=Value.ref.inj (beq_iff_eq.mp z)
      subst e
      have q2:=T.xm i cs D i D (lookup_mem' h) hC hC
      rw [T.xk i cs (lookup_mem' h) (by simpa using (wB hC).1)] at q2
      exact Option.some.inj (q1.symm.trans q2)
     ·have e:=T.xl1 _ (lookup_mem' h1)
      subst e
      exact nB (T.xv cs j D (lookup_mem' h) (gJ hj rfl hD)) fun z=>by cases beq_iff_eq.mp z
     ·obtain ⟨m1,m2,m3⟩:=T.mt m mk tb (lookup_mem' hm)
      refine ⟨m1,m2,fun cc fi C ht hC=>?_⟩
      obtain ⟨k1,d',f',fd',k2,k3,k4,k5⟩:=m3 cc fi C ht hC
      exact ⟨k1,f',fd',d'.ps,k2,k5,gC T n fi d' f' fd' k3 k4⟩
     ·have e:=T.xl1 _ (lookup_mem' h1)
      subst e
      exact T.xg j D (gJ hj rfl hD)
    exact (tJ 100).ss _ _ _ T' _ _ O.cp
   ·rcases z with ⟨pins,σ,H1,s1,I,x⟩ | ⟨pins,σ,H1,s1,a,args,h',c,C,hc,I,m,hw,rfl,rfl⟩
    ·exact qFG (W:=fun c _ H'=>∀ e,E e (some c) H') (fun _ _ _ z=>z) I x
    ·exact qFF (W:=fun c _ H'=>∀ e,E e (some c) H') (fun _ _ _ z=>z) I hc m hw
theorem qFI {K:PySem.W.Frag} {m:List D→M D} (hm:∀ ns:List Int,ns.length≤63→∃ h',m [.ref 0] [.rol (ns.map .int)]=.ok (.bl true) h') (H:Hp) (a:Addr) (ns:List Int) (hl:ns.length≤63) (hO:L2.Only H) (hS:SqL K H a (ns.map V.int)) {E:L2.XK} :
  spD K m [.ref a] H (fun v _=>v=.bl true) E:=by
 have hr:∀ ns:List Int,RepL K [a] H (ns.map .int) (ns.map V.int):=fun ns=>by
  induction ns with
  | nil=>rfl
  | cons x ns ih=>exact ⟨_,_,rfl,rfl,ih⟩
 refine ⟨[a],[.rol (ns.map .int)],[.ref 0],⟨rfl,fun i o hi=>?_,fun i j b o1 o2 hi hj m1 m2 _ _=>?_⟩,⟨.ref a,[],rfl,⟨a,rfl,rfl⟩,rfl⟩,?_⟩
 ·cases i with
  | succ i=>simp at hi
  | zero =>
   cases hi
   refine ⟨a,rfl,ns.map V.int,?_,hr ns⟩
   rcases hS with (h | ⟨o,h⟩) | h
   ·rcases hO a with z | ⟨o,xs,z⟩
    ·rw [h] at z;cases z
    ·rw [h] at z;cases z
   ·exact .inl ⟨o,h⟩
   ·exact .inr h
 ·cases i with
  | succ i=>simp at hi
  | zero=>cases hi;cases m1
 ·obtain ⟨h',e⟩:=hm ns hl
  rw [e]
  exact fun ρ' H' _ _ v hv=>hv
theorem walk {l:PySem.W.OpenLaw} {q:Program} {loose:List Str} {XP:(Str→Option Value)→Heap→Prop} {YP:World→Heap→Prop} {dr:DefRec} {K:Params→PySem.W.Frag} {G:List (Str × GK)} {xs:List (Nat × List Nat)} {xl:List Nat} {Mt:List (Str × Nat × List (Nat × Nat))} {At:List (Str × Nat × List Nat)} {ds:List Df} {fns:List Fn} {B i:Nat} {d:Df} {x:Str}
  (hn:l.most=some 63) (hdf:dr.params.defaults=[]) (hi:ds[i]?=some d) (hG:(dr.name,GK.fn i)∈G) (hq:d.qual=d.name) (hps:d.ps=[x])
  (hY:∀ (w:World) (h:Heap),YP w h→(K w.params).In h)
  (T:∀ (w:World) (mg:Str→Option Value) (h:Heap),(K w.params).In h→h.Ns mainGlobals mg→Top (K w.params) mg G xs xl Mt At ds fns)
  (hm:∀ ns:List Int,ns.length≤63→∃ h',qB fns B 40 i [.ref 0] [.rol (ns.map .int)]=.ok (.bl true) h')
  (hbnd:∀ (fd:FuncData) (f:Addr) (K:PySem.W.Frag),L2.Fun K d.name d.name d.st f fd→∀ (s:Shared) (u:Value),BindsTo s fd ⟨[u],[]⟩ [(x,u)]) :
  PySem.W.WalkO q loose XP YP l.row.toRowW dr [] (fun f vs=>PySem.call f vs):=by
 refine L2.walk_of (n:=63) (k:=80) (x:=x) (K:=K) (CX:=fun w=>CXD l.prog w (zD (K w.params) xl)) (sp:=fun w=>spD (K w.params) (qB fns B 40 i)) hn (by decide) hdf ⟨rfl,by decide,by decide⟩ hY (fun w mg fa h KX Gm hmg=>?_) (fun w H a ns hl hO hS=>qFI hm H a ns hl hO hS) fun w H s e s' z=>?_
 ·have T':=T w mg h KX Gm
  obtain ⟨d',f,fd,h0,h1,h2,h3⟩:=T'.gl _ _ hG
  rw [hi] at h0
  cases h0
  rw [h1] at hmg
  cases hmg
  refine ⟨fd,hbnd fd _ _ (hq ▸ h2),fun base kb nb=>?_⟩
  have:=gC (P:=l.prog) (w:=w) (base:=base) (B:=B) T' 40 i d _ fd hi h2
  rw [hps] at this
  exact this
 ·obtain ⟨_,_,_,_,_,_,_,_,_,_,_,_,_,_,q⟩:=z
  exact q
end Fy
set_option Elab.async false
set_option linter.all false
set_option maxRecDepth 100000
namespace Lk14
open Fy PySem
noncomputable abbrev wH:Nat:=86240048210286
noncomputable abbrev jH:Nat:=358300611685
noncomputable abbrev bT:Nat:=1952807028
noncomputable abbrev bU:Nat:=495806672499
noncomputable abbrev nC:Nat:=108187682958948
noncomputable def sU:CS:=(.set (.nm 3) (.bi .add (.var 5) (.lit (.int 1))))
noncomputable def sS:CS:=(.set (.nm 4) (.var 5))
noncomputable def dZ:CS:=(.seq (.set (.nm 5) (.bi .fdiv (.bi .add (.var 3) (.var 4)) (.lit (.int 2)))) (.ite (.val (.bi .lt (.bi .ix (.bi .ix (.var 0) (.var 5)) (.var 1)) (.var 2))) sU sS))
noncomputable def dY:CT:=(.val (.bi .lt (.var 3) (.var 4)))
noncomputable def sR:CS:=(.ret (.var 3))
noncomputable def eA:CS:=(.seq (.set (.nm 3) (.lit (.int 0))) (.seq (.set (.nm 4) (.un .len (.var 0))) (.seq (.whil dY dZ) sR)))
noncomputable def eB:CS:=(.ite (.val (.bi .lt (.var 0) (.lit (.int 0)))) (.raise 86240048210286) .skip)
noncomputable def yJ:CS:=(.seq (.exp (.call 1 (.cons (.var 0) .nil))) (.ite (.val (.bi .gt (.var 0) (.var 1))) (.raise 86240048210286) .skip))
noncomputable def sW:CS:=(.seq (.set (.nm 1) (.bi .min2 (.var 1) (.bi .ix (.bi .ix (.var 0) (.var 3)) (.lit (.int 0))))) (.set (.nm 2) (.bi .max2 (.var 2) (.bi .ix (.bi .ix (.var 0) (.bi .sub (.var 4) (.lit (.int 1)))) (.lit (.int 1))))))
noncomputable def eC:CS:=(.ret (.bi .add (.bi .add (.sl (.var 0) .no (.at (.var 3))) (.tup (.cons (.tup (.cons (.var 1) (.cons (.var 2) .nil))) .nil))) (.sl (.var 0) (.at (.var 4)) .no)))
noncomputable def sV:CS:=(.seq (.set (.nm 3) (.call 0 (.cons (.var 0) (.cons (.lit (.int 1)) (.cons (.var 1) .nil))))) (.seq (.set (.nm 4) (.call 0 (.cons (.var 0) (.cons (.lit (.int 0)) (.cons (.bi .add (.var 2) (.lit (.int 1))) .nil))))) (.seq (.ite (.val (.bi .lt (.var 3) (.var 4))) sW .skip) eC)))
noncomputable def aD:CS:=(.seq (.exp (.call 2 (.cons (.var 1) (.cons (.var 2) .nil)))) (.seq (.ite (.val (.bi .eq (.var 1) (.var 2))) (.ret (.var 0)) .skip) sV))
noncomputable def eF:CS:=(.seq (.setF (.var 0) 1952807028 [358300611685] (.lit (.str []))) (.seq (.setF (.var 0) 495806672499 [358300611685] (.tup .nil)) (.setF (.var 0) 108187682958948 [358300611685] (.disp [] .nil))))
noncomputable def aE:CS:=(.exp (.setd (.un (.fld 108187682958948) (.var 0)) (.var 5) (.bi .ix (.var 2) (.bi .sub (.var 5) (.var 1)))))
noncomputable def sZ:CS:=(.seq (.setF (.var 0) 495806672499 [358300611685] (.call 3 (.cons (.un (.fld 495806672499) (.var 0)) (.cons (.var 3) (.cons (.var 4) .nil))))) (.exp (.meth 28273260611201390 [(358300611685,6)] (.var 0) .nil)))
noncomputable def sY:CS:=(.seq (.fori (.nm 5) (.rng2 (.var 3) (.var 4)) aE) sZ)
noncomputable def eE:CS:=(.seq (.set (.nm 3) (.bi .max2 (.var 1) (.un .len (.un (.fld 1952807028) (.var 0))))) (.seq (.set (.nm 4) (.bi .add (.var 1) (.un .len (.var 2)))) (.seq (.ite (.val (.bi .ge (.var 3) (.var 4))) .retN .skip) sY)))
noncomputable def yL:CS:=(.seq (.ite (.val (.bi .lt (.var 1) (.lit (.int 0)))) (.raise 86240048210286) .skip) eE)
noncomputable def aF:CS:=(.exp (.me .append (.var 2) (.me .pop (.un (.fld 108187682958948) (.var 0)) (.var 3))))
noncomputable def tF:CS:=(.seq (.setF (.var 0) 1952807028 [358300611685] (.me .join (.lit (.str [])) (.var 2))) (.setF (.var 0) 495806672499 [358300611685] (.sl (.un (.fld 495806672499) (.var 0)) (.at (.lit (.int 1))) .no)))
noncomputable def tE:CS:=(.seq (.set (.nm 2) (.lst (.cons (.un (.fld 1952807028) (.var 0)) .nil))) (.seq (.fori (.nm 3) (.rng2 (.bi .ix (.var 1) (.lit (.int 0))) (.bi .ix (.var 1) (.lit (.int 1)))) aF) tF))
noncomputable def aG:CS:=(.seq (.set (.nm 1) (.bi .ix (.un (.fld 495806672499) (.var 0)) (.lit (.int 0)))) (.seq (.ite (.val (.bi .ne (.bi .ix (.var 1) (.lit (.int 0))) (.un .len (.un (.fld 1952807028) (.var 0))))) .retN .skip) tE))
noncomputable def eD:CS:=(.ret (.me .get (.un (.fld 108187682958948) (.var 0)) (.var 1)))
noncomputable def yK:CS:=(.seq (.ite (.val (.chain .le .lt (.lit (.int 0)) (.var 1) (.un .len (.un (.fld 1952807028) (.var 0))))) (.ret (.bi .ix (.un (.fld 1952807028) (.var 0)) (.var 1))) .skip) eD)
noncomputable def dH:CS:=(.seq (.set (.nm 3) (.bi .mod (.bi .add (.bi .add (.bi .mul (.var 3) (.var 3)) (.bi .mul (.lit (.int 48271)) (.var 3))) (.var 4)) (.lit (.int 2147483647)))) (.exp (.me .append (.var 2) (.var 3))))
noncomputable def rZ:CS:=(.ret (.sl (.var 2) (.at (.lit (.int 1))) .no))
noncomputable def dI:CS:=(.seq (.set (.nm 2) (.lst .nil)) (.seq (.set (.nm 3) (.bi .add (.bi .mod (.var 0) (.lit (.int 2147483647))) (.lit (.int 48271)))) (.seq (.fori (.nm 4) (.rng1 (.bi .add (.var 1) (.lit (.int 1)))) dH) rZ)))
noncomputable def qJJ:CS:=(.ret (.and (.un (.isi .int) (.var 0)) (.not (.un (.isi .bool) (.var 0)))))
noncomputable def sN:CS:=(.ite (.and (.val (.bi .gt (.var 1) (.lit (.int 0)))) (.val (.bi .le (.bi .ix (.bi .ix (.var 0) (.var 1)) (.lit (.int 0))) (.bi .ix (.bi .ix (.var 0) (.bi .sub (.var 1) (.lit (.int 1)))) (.lit (.int 1)))))) (.ret (.lit (.bl false))) .skip)
noncomputable def sM:CS:=(.seq (.ite (.or (.not (.val (.call 9 (.cons (.bi .ix (.bi .ix (.var 0) (.var 1)) (.lit (.int 0))) .nil)))) (.or (.not (.val (.call 9 (.cons (.bi .ix (.bi .ix (.var 0) (.var 1)) (.lit (.int 1))) .nil)))) (.or (.val (.bi .ge (.bi .ix (.bi .ix (.var 0) (.var 1)) (.lit (.int 0))) (.bi .ix (.bi .ix (.var 0) (.var 1)) (.lit (.int 1))))) (.val (.bi .lt (.bi .ix (.bi .ix (.var 0) (.var 1)) (.lit (.int 0))) (.lit (.int 0))))))) (.ret (.lit (.bl false))) .skip) sN)
noncomputable def dQ:CS:=(.seq (.ite (.or (.not (.val (.un (.isi .tuple) (.bi .ix (.var 0) (.var 1))))) (.val (.bi .ne (.un .len (.bi .ix (.var 0) (.var 1))) (.lit (.int 2))))) (.ret (.lit (.bl false))) .skip) sM)
noncomputable def sL:CS:=(.ret (.lit (.bl true)))
noncomputable def sK:CS:=(.seq (.fori (.nm 1) (.rng1 (.un .len (.var 0))) dQ) sL)
noncomputable def dR:CS:=(.seq (.ite (.not (.val (.un (.isi .tuple) (.var 0)))) (.ret (.lit (.bl false))) .skip) sK)
noncomputable def dL:CE:=(.bi .ix (.var 2) (.bi .mod (.bi .fdiv (.var 0) (.lit (.int 3))) (.lit (.int 94))))
noncomputable def dJ:CE:=(.bi .ix (.var 2) (.bi .mod (.bi .add (.bi .fdiv (.var 0) (.lit (.int 3))) (.bi .mul (.var 3) (.bi .add (.lit (.int 1)) (.bi .mod (.bi .fdiv (.var 0) (.lit (.int 282))) (.lit (.int 93)))))) (.lit (.int 94))))
noncomputable def sC:CS:=(.ret (.me .join (.lit (.str [])) (.comp dJ (.rng1 (.var 1)))))
noncomputable def gX:CS:=(.seq (.set (.nm 2) (.lit (.str [32,33,34,35,36,38,39,40,41,42,43,44,45,46,47,48,49,50,51,52,53,54,55,56,57,58,59,60,61,62,63,64,65,66,67,68,69,70,71,72,73,74,75,76,77,78,79,80,81,82,83,84,85,86,87,88,89,90,91,92,93,94,95,96,97,98,99,100,101,102,103,104,105,106,107,108,109,110,111,112,113,114,115,116,117,118,119,120,121,122,123,124,125,126]))) (.seq (.ite (.val (.bi .eq (.bi .mod (.var 0) (.lit (.int 3))) (.lit (.int 0)))) (.ret (.me .join (.lit (.str [])) (.comp dL (.rng1 (.var 1))))) .skip) sC))
noncomputable def aA:CS:=(.exp (.me .append (.var 1) (.bi .ix (.var 0) (.un .len (.var 1)))))
noncomputable def yI:CT:=(.val (.bi .isin (.un .len (.var 1)) (.var 0)))
noncomputable def sO:CS:=(.ret (.me .join (.lit (.str [])) (.var 1)))
noncomputable def dS:CS:=(.seq (.set (.nm 1) (.lst .nil)) (.seq (.whil yI aA) sO))
noncomputable def sI:CS:=(.setIx (.var 2) (.un .neg (.lit (.int 1))) (.tup (.cons (.bi .ix (.bi .ix (.var 2) (.un .neg (.lit (.int 1)))) (.lit (.int 0))) (.cons (.bi .add (.var 3) (.lit (.int 1))) .nil))))
noncomputable def dN:CS:=(.exp (.me .append (.var 2) (.tup (.cons (.var 3) (.cons (.bi .add (.var 3) (.lit (.int 1))) .nil)))))
noncomputable def gY:CS:=(.ite (.val (.bi .gt (.var 3) (.var 1))) dN .skip)
noncomputable def vI:CS:=(.ite (.and (.val (.bi .gt (.var 3) (.var 1))) (.and (.val (.bi .gt (.un .len (.var 2)) (.lit (.int 0)))) (.val (.bi .eq (.bi .ix (.bi .ix (.var 2) (.un .neg (.lit (.int 1)))) (.lit (.int 1))) (.var 3))))) sI gY)
noncomputable def sG:CS:=(.ret (.un .tuple (.var 2)))
noncomputable def dO:CS:=(.seq (.set (.nm 2) (.lst .nil)) (.seq (.fori (.nm 3) (.of (.un .sorted (.var 0))) vI) sG))
noncomputable def yH:CS:=(.seq (.set (.nm 5) (.meth 1936287598 [(358300611685,7)] (.var 0) (.cons (.var 4) .nil))) (.seq (.set (.nm 6) (.me .get (.var 1) (.var 4))) (.ite (.or (.val (.bi .ne (.var 5) (.var 6))) (.and (.val (.un .notN (.var 6))) (.not (.val (.un (.isi .str) (.var 5)))))) (.ret (.lit (.bl false))) .skip)))
noncomputable def sF:CS:=(.ret (.lit (.bl true)))
noncomputable def sE:CS:=(.seq (.fori (.nm 4) (.of (.var 2)) yH) sF)
noncomputable def sD:CS:=(.seq (.ite (.val (.bi .ne (.un (.fld 495806672499) (.var 0)) (.call 13 (.cons (.var 1) (.cons (.un .len (.var 3)) .nil))))) (.ret (.lit (.bl false))) .skip) sE)
noncomputable def dM:CS:=(.seq (.set (.nm 3) (.call 12 (.cons (.var 1) .nil))) (.seq (.ite (.or (.not (.val (.un (.isi .str) (.un (.fld 1952807028) (.var 0))))) (.or (.val (.bi .ne (.un (.fld 1952807028) (.var 0)) (.var 3))) (.not (.val (.call 10 (.cons (.un (.fld 495806672499) (.var 0)) .nil)))))) (.ret (.lit (.bl false))) .skip) sD))
noncomputable def dP:CS:=(.ret (.and (.un .isN (.meth 7370100 [(358300611685,5)] (.var 0) (.cons (.var 1) (.cons (.var 2) .nil)))) (.bi .ge (.var 1) (.lit (.int 0)))))
noncomputable def sJ:CS:=(.ret (.bi .lt (.var 1) (.lit (.int 0))))
noncomputable def gZ:CS:=(.tryx dP (.cons [86240048210286] sJ .nil))
noncomputable def dX:CS:=(.set (.nm 9) (.bi .sub (.un .neg (.lit (.int 1))) (.bi .mod (.bi .ix (.var 5) (.lit (.int 3))) (.lit (.int 40)))))
noncomputable def sP:CS:=(.setIx (.bi .ix (.var 2) (.var 6)) (.bi .add (.var 9) (.var 11)) (.bi .ix (.var 10) (.var 11)))
noncomputable def jN:CS:=(.ite (.and (.val (.bi .ge (.var 9) (.lit (.int 0)))) (.val (.bi .notin (.bi .add (.var 9) (.var 11)) (.bi .ix (.var 2) (.var 6))))) sP .skip)
noncomputable def dW:CS:=(.seq (.set (.nm 12) (.bi .add (.lst (.cons (.un .neg (.lit (.int 1))) (.cons (.lit (.int 0)) (.cons (.bi .sub (.var 9) (.lit (.int 1))) (.cons (.var 9) (.cons (.bi .add (.var 9) (.bi .fdiv (.var 7) (.lit (.int 2)))) (.cons (.bi .add (.var 9) (.var 7)) (.cons (.bi .mod (.bi .ix (.var 5) (.lit (.int 6))) (.lit (.int 300))) .nil)))))))) (.bi .ix (.var 3) (.var 6)))) (.seq (.setIx (.var 3) (.var 6) (.bi .add (.sl (.bi .ix (.var 3) (.var 6)) (.at (.un .neg (.lit (.int 12)))) .no) (.lst (.cons (.bi .max2 (.lit (.int 0)) (.var 9)) (.cons (.bi .max2 (.lit (.int 0)) (.bi .sub (.bi .add (.var 9) (.var 7)) (.lit (.int 1)))) (.cons (.bi .max2 (.lit (.int 0)) (.bi .add (.var 9) (.var 7))) .nil)))))) (.ite (.not (.val (.call 14 (.cons (.bi .ix (.var 1) (.var 6)) (.cons (.bi .ix (.var 2) (.var 6)) (.cons (.var 12) .nil)))))) (.ret (.lit (.bl false))) .skip)))
noncomputable def dU:CS:=(.seq (.fori (.nm 11) (.rng1 (.var 7)) jN) dW)
noncomputable def aC:CS:=(.seq (.set (.nm 10) (.call 11 (.cons (.bi .ix (.var 5) (.lit (.int 5))) (.cons (.var 7) .nil)))) (.seq (.ite (.not (.val (.call 15 (.cons (.bi .ix (.var 1) (.var 6)) (.cons (.var 9) (.cons (.var 10) .nil)))))) (.ret (.lit (.bl false))) .skip) dU))
noncomputable def vJ:CS:=(.seq (.set (.nm 5) (.call 8 (.cons (.bi .add (.bi .ix (.var 0) (.var 4)) (.bi .mul (.lit (.int 17)) (.var 4))) (.cons (.lit (.int 7)) .nil)))) (.seq (.set (.nm 6) (.bi .mod (.bi .ix (.var 5) (.lit (.int 0))) (.lit (.int 2)))) (.seq (.set (.nm 7) (.bi .ix (.lst (.cons (.bi .mod (.bi .ix (.var 5) (.lit (.int 1))) (.lit (.int 9))) (.cons (.lit (.int 40)) (.cons (.lit (.int 200)) .nil)))) (.bi .add (.un .int (.bi .eq (.bi .mod (.bi .ix (.var 5) (.lit (.int 2))) (.lit (.int 8))) (.lit (.int 0)))) (.un .int (.bi .eq (.bi .mod (.bi .ix (.var 5) (.lit (.int 2))) (.lit (.int 64))) (.lit (.int 0))))))) (.seq (.set (.nm 8) (.bi .sub (.bi .add (.un .len (.call 12 (.cons (.bi .ix (.var 2) (.var 6)) .nil))) (.bi .mod (.bi .ix (.var 5) (.lit (.int 3))) (.lit (.int 9)))) (.lit (.int 3)))) (.seq (.set (.nm 9) (.bi .ix (.lst (.cons (.var 8) (.cons (.bi .mod (.bi .ix (.var 5) (.lit (.int 3))) (.lit (.int 300))) (.cons (.bi .add (.var 8) (.bi .mod (.bi .ix (.var 5) (.lit (.int 3))) (.lit (.int 3000)))) (.cons (.bi .mod (.bi .ix (.var 5) (.lit (.int 3))) (.bi .pow (.lit (.int 10)) (.lit (.int 9)))) .nil))))) (.bi .ix (.lst (.cons (.lit (.int 0)) (.cons (.lit (.int 0)) (.cons (.lit (.int 1)) (.cons (.lit (.int 1)) (.cons (.lit (.int 2)) (.cons (.lit (.int 3)) .nil))))))) (.bi .mod (.bi .ix (.var 5) (.lit (.int 4))) (.lit (.int 6)))))) (.seq (.ite (.val (.bi .eq (.bi .mod (.bi .ix (.var 5) (.lit (.int 4))) (.lit (.int 16))) (.lit (.int 1)))) dX .skip) aC))))))
noncomputable def aB:CS:=(.ret (.and (.call 14 (.cons (.bi .ix (.var 1) (.lit (.int 0))) (.cons (.bi .ix (.var 2) (.lit (.int 0))) (.cons (.lst (.cons (.lit (.int 0)) .nil)) .nil)))) (.call 14 (.cons (.bi .ix (.var 1) (.lit (.int 1))) (.cons (.bi .ix (.var 2) (.lit (.int 1))) (.cons (.lst (.cons (.lit (.int 0)) .nil)) .nil))))))
noncomputable def sQ:CS:=(.seq (.set (.nm 1) (.lst (.cons (.make 358300611685 4 .nil) (.cons (.make 358300611685 4 .nil) .nil)))) (.seq (.set (.nm 2) (.lst (.cons (.disp [] .nil) (.cons (.disp [] .nil) .nil)))) (.seq (.set (.nm 3) (.lst (.cons (.lst .nil) (.cons (.lst .nil) .nil)))) (.seq (.fori (.nm 4) (.rng1 (.bi .min2 (.lit (.int 30)) (.un .len (.var 0)))) vJ) aB))))
noncomputable def fns:List Fn:=[⟨3,6,eA⟩,
 ⟨1,1,eB⟩,
 ⟨2,2,yJ⟩,
 ⟨3,5,aD⟩,
 ⟨1,1,eF⟩,
 ⟨3,6,yL⟩,
 ⟨1,4,aG⟩,
 ⟨2,2,yK⟩,
 ⟨2,5,dI⟩,
 ⟨1,1,qJJ⟩,
 ⟨1,2,dR⟩,
 ⟨2,3,gX⟩,
 ⟨1,2,dS⟩,
 ⟨2,4,dO⟩,
 ⟨3,7,dM⟩,
 ⟨3,3,gZ⟩,
 ⟨1,13,sQ⟩]
section
variable (B n:Nat) (a0 a1 a2:D) (h:AH)
noncomputable abbrev qGH:Nat:=0
theorem qIr:qB fns B (n+1) 0 [a0,a1,a2] h=fin (qA (qB fns B n) B eA [some a0,some a1,some a2,none,none,none] h):=rfl
noncomputable abbrev qGJ:Nat:=1
theorem qIt:qB fns B (n+1) 1 [a0] h=fin (qA (qB fns B n) B eB [some a0] h):=rfl
noncomputable abbrev qGI:Nat:=2
theorem qIs:qB fns B (n+1) 2 [a0,a1] h=fin (qA (qB fns B n) B yJ [some a0,some a1] h):=rfl
noncomputable abbrev qGK:Nat:=3
theorem qIu:qB fns B (n+1) 3 [a0,a1,a2] h=fin (qA (qB fns B n) B aD [some a0,some a1,some a2,none,none] h):=rfl
theorem qIw:qB fns B (n+1) 4 [a0] h=fin (qA (qB fns B n) B eF [some a0] h):=rfl
noncomputable abbrev qGM:Nat:=5
theorem rP:qB fns B (n+1) 5 [a0,a1,a2] h=fin (qA (qB fns B n) B yL [some a0,some a1,some a2,none,none,none] h):=rfl
noncomputable abbrev qGN:Nat:=6
theorem qIx:qB fns B (n+1) 6 [a0] h=fin (qA (qB fns B n) B aG [some a0,none,none,none] h):=rfl
noncomputable abbrev qGL:Nat:=7
theorem qIv:qB fns B (n+1) 7 [a0,a1] h=fin (qA (qB fns B n) B yK [some a0,some a1] h):=rfl
noncomputable abbrev qGA:Nat:=8
theorem qIk:qB fns B (n+1) 8 [a0,a1] h=fin (qA (qB fns B n) B dI [some a0,some a1,none,none,none] h):=rfl
noncomputable abbrev qF9:Nat:=9
noncomputable abbrev qGE:Nat:=10
theorem qIo:qB fns B (n+1) 10 [a0] h=fin (qA (qB fns B n) B dR [some a0,none] h):=rfl
noncomputable abbrev qGB:Nat:=11
theorem qIl:qB fns B (n+1) 11 [a0,a1] h=fin (qA (qB fns B n) B gX [some a0,some a1,none] h):=rfl
noncomputable abbrev qGF:Nat:=12
theorem qIp:qB fns B (n+1) 12 [a0] h=fin (qA (qB fns B n) B dS [some a0,none] h):=rfl
noncomputable abbrev qGD:Nat:=13
theorem qIn:qB fns B (n+1) 13 [a0,a1] h=fin (qA (qB fns B n) B dO [some a0,some a1,none,none] h):=rfl
noncomputable abbrev qGC:Nat:=14
theorem qIm:qB fns B (n+1) 14 [a0,a1,a2] h=fin (qA (qB fns B n) B dM [some a0,some a1,some a2,none,none,none,none] h):=rfl
noncomputable abbrev oM:Nat:=15
theorem rO:qB fns B (n+1) 15 [a0,a1,a2] h=fin (qA (qB fns B n) B gZ [some a0,some a1,some a2] h):=rfl
noncomputable abbrev qGG:Nat:=16
theorem qIq:qB fns B (n+1) 16 [a0] h=fin (qA (qB fns B n) B sQ [some a0,none,none,none,none,none,none,none,none,none,none,none,none] h):=rfl
end
local macro_rules | `(tactic| simp! only [$ts,*] $[$l]?) => `(tactic| simp only [Int.reduceLT, Int.reduceLE, Int.reduceNeg, Int.reduceAdd, Int.reduceSub, Int.reduceEq, Int.reduceBEq, Nat.reduceLeDiff, Nat.reduceLT, Nat.reduceBEq, and_self, and_true, true_and, qGo, qGm, qGl, qGn, qA, den, qH, qN, zE, jM, qF5, qJU, yN, qJQ, qJT, qJS, qJR, bJ, qDY, qDZ, qAk, qAn, qAo, qAi, qAl, qCM, qCL, qIV, qIU, qIW, qCp, kQ, qIX, qIY, M.ret_eq, M.bind_eq, M.bad_eq, R.bind_ok, R.bind_exc, R.bind_bad, tU, newL, eH, bP, qEi, qCJ, qCI, qCH, qV, jQ, tbN, Option.isNone_none, Option.isNone_some, qEm, qEn, qEo, qEq, qEp, kW, oY, jV, qAp, b2i, List.getElem?_cons_zero, List.getElem?_cons_succ, List.length_cons, List.length_nil, List.map_cons, List.map_nil, List.cons_append, List.nil_append, List.set_cons_zero, List.set_cons_succ, if_true, reduceIte, Nat.zero_add, Nat.reduceAdd, Bool.false_eq_true, if_false, Bool.not_true, Bool.not_false, Bool.or_true, Bool.or_false, Bool.true_or, Bool.false_or, decide_true, decide_false, reduceCtorEq, beq_self_eq_true, qAP, qAU, qAT, qAS, qAH, qAd, qAc, qAb, qAJ, qAG, qAF, qAR, qAQ, qAg, qAf, qAI, qAe, qAW, qAO, qAa, qAZ, qAY, qAX, qAN, qAM, qAL, qAK, qAV, qEC, qEB, qEA, qD9, qDc, qDn, qDm, qDl, qDk, qDd, qDe, qD3, qDg, qD6, qD5, qDo, qDf, qD7, qDj, qDr, qDs, qD2, qD4, qD1, qD0, qDz, qDy, qDi, qDh, qDx, qDw, qDv, qDu, qDp, qDq, qDb, qDt, qD8, qA7, qA9, qA8, qA4, qA3, qA5, qFi, qFh, qFj, qCS, qCQ, qCY, qEg, qEZ, qEd, qEe, qEc, qEf, tV, qAz, qGj, qAy, qEa, qEb, qCC, qFp, qFr, qFq, qFl, qFk, qFm, qG3, qG5, qG4, qG2, qG1, qHD, qHF, qHE, qHC, qHB, qG8, qHA, qG9, qG7, qG6, qGy, qG0, qGz, qGx, qGw, qGt, qGv, qGu, qGs, pM, $ts,*] $[$l]?)
theorem uZ (h l:AH) (k:Nat):getL (h++l) (h.length+k)=getL l k:=by
 unfold getL
 rw [List.getElem?_append_right (by omega),Nat.add_sub_cancel_left]
theorem jG (h l:AH):getL (h++l) h.length=getL l 0:=uZ h l 0
theorem vY (h l:AH) (k:Nat):(h++l)[h.length+k]?=l[k]?:=by
 rw [List.getElem?_append_right (by omega),Nat.add_sub_cancel_left]
theorem vX (h l:AH):(h++l)[h.length]?=l[0]?:=vY h l 0
theorem iC (h l:AH) (k:Nat) (o:O):(h++l).set (h.length+k) o=h++l.set k o:=by
 rw [List.set_append_right _ _ (by omega),Nat.add_sub_cancel_left]
theorem wR (h l:AH) (o:O):(h++l).set h.length o=h++l.set 0 o:=iC h l 0 o
theorem uX (xs:List D) (l:AH):getL (.lst xs::l) 0=some xs:=rfl
theorem qFd {xs:List Int} {k:Nat} {c:Int} (h:xs[k]?=some c):((ixN (xs.map D.int).length (k:Int)).bind fun j=>(xs.map D.int)[j]?)=some (.int c):=by
 have hk:=(List.getElem?_eq_some_iff.mp h).1
 rw [List.length_map,vR hk,Option.bind_some,List.getElem?_map,h]
 rfl
theorem pV {α:Type} (x:List α) (k:Nat):qS x none (some (k:Int))=x.take k:=by
 unfold qS qO
 simp only [if_neg (show ¬ (k:Int)<0 by omega),Int.toNat_natCast,List.drop_zero,Nat.sub_zero]
 rw [Nat.min_comm,← List.take_take]
 exact List.take_of_length_le (by rw [List.length_take];omega)
theorem gN {α:Type} (x:List α) (k:Nat):qS x (some (k:Int)) none=x.drop k:=by
 unfold qS qO
 simp only [if_neg (show ¬ (k:Int)<0 by omega),Int.toNat_natCast]
 by_cases hk:k≤x.length
 ·rw [Nat.min_eq_left hk]
  exact List.take_of_length_le (by simp)
 ·rw [Nat.min_eq_right (by omega),List.drop_length,List.drop_eq_nil_of_le (by omega),List.take_nil]
noncomputable abbrev SP:=List (Int × Int)
noncomputable def spD (p:Int × Int):D:=.tup [.int p.1,.int p.2]
noncomputable def spL (l:SP):List D:=l.map spD
theorem zT (l:SP):(spL l).length=l.length:=by unfold spL;simp
theorem qB0 {l:SP} {k:Nat} {p:Int × Int} (h:l[k]?=some p):(spL l)[k]?=some (spD p):=by unfold spL;rw [List.getElem?_map,h];rfl
noncomputable def GoodR:Int→SP→Prop
 | _,[]=>True
 | lo,p::r=>lo<p.1∧p.1<p.2∧GoodR p.2 r
theorem GoodR.weak {lo lo':Int} (hl:lo'≤lo):∀ {l:SP},GoodR lo l→GoodR lo' l
 | [],_=>trivial
 | p::r,⟨h1,h2,h3⟩=>⟨by omega,h2,h3⟩
noncomputable def mZ (lo:Int):SP→Int
 | []=>lo
 | p::r=>mZ p.2 r
theorem GoodR.snoc {lo:Int} {p:Int × Int}:∀ {l:SP},GoodR lo l→mZ lo l<p.1→p.1<p.2→GoodR lo (l++[p])
 | [],_,h1,h2=>⟨h1,h2,trivial⟩
 | q::r,⟨g1,g2,g3⟩,h1,h2=>⟨g1,g2,GoodR.snoc g3 h1 h2⟩
noncomputable def inB (x:Int) (p:Int × Int):Bool:=decide (p.1≤x)&&decide (x<p.2)
noncomputable def inS (l:SP) (x:Int):Bool:=l.any (inB x)
theorem cE {x:Int}:∀ {lo:Int} {l:SP},GoodR lo l→x≤lo→inS l x=false
 | _,[],_,_=>rfl
 | lo,p::r,⟨h1,h2,h3⟩,hx=>by
  show (inB x p || inS r x)=false
  rw [cE h3 (by omega),show inB x p=false by unfold inB;rw [decide_eq_false (show ¬ p.1≤x by omega)];rfl]
  rfl
theorem qEv (B n:Nat) (i:Int) (h:AH):qB fns B (n+1) qF9 [.int i] h=.ok (.bl true) h:=rfl
theorem GoodR.at {lo:Int}:∀ {l:SP} {k:Nat} {p:Int × Int},GoodR lo l→l[k]?=some p→lo<p.1∧p.1<p.2
 | [],_,_,_,e=>by simp at e
 | q::r,0,p,⟨h1,h2,_⟩,e=>by simp at e;subst e;exact ⟨h1,h2⟩
 | q::r,k+1,p,⟨h1,h2,h3⟩,e=>by
  have:=GoodR.at h3 (by simpa using e:r[k]?=some p)
  exact ⟨by omega,this.2⟩
theorem GoodR.next {lo:Int}:∀ {l:SP} {k:Nat} {p q:Int × Int},GoodR lo l→l[k]?=some p→l[k+1]?=some q→p.2<q.1
 | [],_,_,_,_,e,_=>by simp at e
 | a::r,0,p,q,⟨h1,h2,h3⟩,e,e'=>by
  simp at e
  subst e
  exact (h3.at (by simpa using e':r[0]?=some q)).1
 | a::r,k+1,p,q,⟨h1,h2,h3⟩,e,e'=>GoodR.next h3 (by simpa using e) (by simpa using e')
theorem vQ {l:SP} {k:Nat} {p:Int × Int} (h:l[k]?=some p):((ixN l.length (k:Int)).bind fun j=>(spL l)[j]?)=some (spD p):=by
 rw [vR (List.getElem?_eq_some_iff.mp h).1,Option.bind_some,qB0 h]
noncomputable def side (s:Nat) (p:Int × Int):Int:=if s=0 then p.1 else p.2
theorem qFb (s:Nat) (hs:s=0∨s=1) (p:Int × Int):((ixN 2 (s:Int)).bind fun j=>[D.int p.1,D.int p.2][j]?)=some (.int (side s p)):=by
 rcases hs with rfl | rfl <;> rfl
noncomputable def cnt (s:Nat) (x:Int) (l:SP):Nat:=(l.takeWhile fun p=>decide (side s p<x)).length
theorem iB {lo:Int} {s:Nat}:∀ {l:SP} {j k:Nat} {p q:Int × Int},GoodR lo l→l[j]?=some p→l[k]?=some q→j≤k→side s p≤side s q:=by
 intro l
 induction l generalizing lo with
 | nil=>intro j k p q _ e;simp at e
 | cons a r ih =>
  intro j k p q ⟨h1,h2,h3⟩ e e' hjk
  cases k with
  | zero =>
   have:j=0:=by omega
   subst this
   rw [e] at e'
   cases e'
   exact Int.le_refl _
  | succ k =>
   have g:=h3.at (by simpa using e':r[k]?=some q)
   cases j with
   | zero =>
    simp at e
    subst e
    unfold side
    split <;> omega
   | succ j=>exact ih h3 (by simpa using e) (by simpa using e') (by omega)
theorem rE (s:Nat) (x:Int) (l:SP):cnt s x l≤l.length:=by
 unfold cnt
 exact (List.takeWhile_sublist _).length_le
theorem rD {s:Nat} {x:Int}:∀ {l:SP} {k:Nat},k≤l.length→(∀ j p,j<k→l[j]?=some p→side s p<x)→(∀ p,l[k]?=some p→x≤side s p)→cnt s x l=k
 | [],k,h,_,_=>by simp at h;subst h;rfl
 | a::r,0,_,_,h2=>by
  have:=h2 a rfl
  unfold cnt
  rw [List.takeWhile_cons,if_neg (by simp;omega)]
  rfl
 | a::r,k+1,h,h1,h2=>by
  have:=h1 0 a (by omega) rfl
  have ih:=rD (s:=s) (x:=x) (l:=r) (k:=k) (by simpa using h) (fun j p hj e=>h1 (j+1) p (by omega) (by simpa using e)) (fun p e=>h2 p (by simpa using e))
  unfold cnt at ih ⊢
  rw [List.takeWhile_cons,if_pos (by simpa using this),List.length_cons,ih]
theorem dA (F:Nat→List D→M D) (s:Nat) (hs:s=0∨s=1) (x lo:Int) (l:SP) (hg:GoodR lo l) (h:AH) (B:Nat):∀ (m low high:Nat) (s5:Option D),high-low<m→low≤high→high≤l.length→(∀ j p,j<low→l[j]?=some p→side s p<x)→(∀ j p,high≤j→l[j]?=some p→x≤side s p) →
  ∃ s5',jP (qH F dY) (qA F B dZ) m [some (.tup (spL l)),some (.int s),some (.int x),some (.int low),some (.int high),s5] h=.nx [some (.tup (spL l)),some (.int s),some (.int x),some (.int (cnt s x l)),some (.int (cnt s x l)),s5'] h
 | 0,low,high,s5,hm,_,_,_,_=>by omega
 | m+1,low,high,s5,hm,hle,hh,h1,h2=>by
  unfold jP
  have e0:decide ((low:Int)<(high:Int))=decide (low<high):=oE _ _
  simp! only [dY,e0]
  by_cases q:low<high
  ·obtain ⟨mid,hmid,hm1,hm2⟩:∃ mid:Nat,((low:Int)+(high:Int)) / 2=(mid:Int)∧low≤mid∧mid<high:=⟨(low+high) / 2,by omega,by omega,by omega⟩
   have em:l[mid]?=some l[mid]:=by simp [show mid<l.length by omega]
   have ix:=vQ em
   unfold spD at ix
   have isd:=qFb s hs l[mid]
   simp! only [q,dZ,hmid,zT,ix,isd,show (0:Int)<2 by omega,show (2:Int)<1073741824 by omega]
   by_cases c:side s l[mid]<x
   ·simp! only [c,sU]
    have e1:D.int ((mid:Int)+1)=.int ((mid+1:Nat):Int):=rfl
    rw [e1]
    refine dA F s hs x lo l hg h B m (mid+1) high _ (by omega) (by omega) hh (fun j p hj e=>?_) h2
    exact Int.lt_of_le_of_lt (iB hg e em (by omega)) c
   ·simp! only [c,sS]
    refine dA F s hs x lo l hg h B m low mid _ (by omega) (by omega) (by omega) h1 (fun j p hj e=>?_)
    have:=iB (s:=s) hg em e hj
    omega
  ·have e:low=high:=by omega
   subst e
   have:cnt s x l=low:=rD hh h1 (fun p e=>h2 low p (Nat.le_refl _) e)
   simp! only [q,this]
   exact ⟨s5,rfl⟩
theorem mP (B n:Nat) (s:Nat) (hs:s=0∨s=1) (x lo:Int) (l:SP) (hg:GoodR lo l) (h:AH) (hB:l.length<B):qB fns B (n+1) qGH [.tup (spL l),.int s,.int x] h=.ok (.int (cnt s x l)) h:=by
 rw [qIr]
 simp! only [eA,zT]
 obtain ⟨s5',e⟩:=dA (qB fns B n) s hs x lo l hg h B B 0 l.length none (by omega) (by omega) (Nat.le_refl _) (fun j p hj _=>by omega) (fun j p hj e=>by
  have:=(List.getElem?_eq_some_iff.mp e).1
  omega)
 have e0:D.int ((0:Nat):Int)=D.int 0:=rfl
 rw [e0] at e
 simp! only [e,sR]
theorem qE6 (B n:Nat) (b:Int) (h:AH):qB fns B (n+1) qGJ [.int b] h=if b<0 then .exc wH h else .ok .non h:=by
 rw [qIt]
 simp! only [eB]
 by_cases q:b<0
 ·simp! only [q]
 ·simp! only [q]
theorem jL (p:Int × Int) (r:SP) (x:Int):inS (p::r) x=(inB x p || inS r x):=rfl
theorem aR (k:Nat) (l:SP):(spL l).drop k=spL (l.drop k):=by unfold spL;rw [List.map_drop]
theorem fZ (k:Nat) (l:SP):(spL l).take k=spL (l.take k):=by unfold spL;rw [List.map_take]
theorem qE5 (B n:Nat) (b e:Int) (h:AH):qB fns B (n+2) qGI [.int b,.int e] h=if b<0∨e<b then .exc wH h else .ok .non h:=by
 rw [qIs]
 have c1:=qE6 B n b h
 by_cases q:b<0
 ·rw [if_pos q] at c1
  rw [if_pos (.inl q)]
  simp! only [yJ,c1]
 ·rw [if_neg q] at c1
  by_cases c:e<b
  ·rw [if_pos (.inr c)]
   simp! only [yJ,c1,c]
  ·rw [if_neg (by rintro (z | z);exact q z;exact c z)]
   simp! only [yJ,c1,c]
theorem oK (a b x:Int):inS [(a,b)] x=(decide (a≤x)&&decide (x<b)):=by
 rw [jL];unfold inB;exact Bool.or_false _
noncomputable def mx (e x:Int):Int:=if x > e then x else e
noncomputable def mn (b x:Int):Int:=if x<b then x else b
noncomputable def mrg (e b:Int):Int × Int→SP→SP
 | p,[]=>[(b,mx e p.2)]
 | p,q::r=>if q.1≤e then mrg e b q r else (b,mx e p.2)::q::r
noncomputable def zG (b e:Int):SP→SP
 | []=>[(b,e)]
 | p::r=>if p.2<b then p::zG b e r else if e<p.1 then (b,e)::p::r else mrg e (mn b p.1) p r
theorem mH (e b lo:Int) (hb:b<e) (hlo:lo<b):∀ (r:SP) (p:Int × Int),GoodR p.2 r→GoodR lo (mrg e b p r)
 | [],p,_=>⟨hlo,by show b<mx e p.2;unfold mx;split <;> omega,trivial⟩
 | q::r,p,⟨h1,h2,h3⟩=>by
  unfold mrg
  by_cases c:q.1≤e
  ·rw [if_pos c];exact mH e b lo hb hlo r q h3
  ·rw [if_neg c]
   exact ⟨hlo,by show b<mx e p.2;unfold mx;split <;> omega,by show mx e p.2<q.1;unfold mx;split <;> omega,h2,h3⟩
theorem mG (e b x:Int):∀ (r:SP) (p:Int × Int),p.1≤e→b≤p.1→p.1<p.2→GoodR p.2 r→(inS (mrg e b p r) x=true↔(b≤x∧x<mx e p.2)∨inS r x=true)
 | [],p,h0,hb,hp,_=>by
  show inS [(b,mx e p.2)] x=true↔_
  rw [oK]
  simp [inS]
 | q::r,p,h0,hb,hp,⟨h1,h2,h3⟩=>by
  unfold mrg
  by_cases c:q.1≤e
  ·rw [if_pos c,mG e b x r q c (by omega) h2 h3,jL]
   unfold inB
   simp only [Bool.or_eq_true,Bool.and_eq_true,decide_eq_true_eq]
   have:mx e p.2=e:=by unfold mx;rw [if_neg (by omega)]
   rw [this]
   unfold mx
   constructor
   ·rintro (⟨z1,z2⟩ | z)
    ·by_cases y:x<e
     ·exact .inl ⟨z1,y⟩
     ·split at z2
      ·exact .inr (.inl ⟨by omega,z2⟩)
      ·omega
    ·exact .inr (.inr z)
   ·rintro (⟨z1,z2⟩ | ⟨z1,z2⟩ | z)
    ·left;split <;> omega
    ·left;split <;> omega
    ·exact .inr z
  ·rw [if_neg c,jL]
   unfold inB
   simp only [Bool.or_eq_true,Bool.and_eq_true,decide_eq_true_eq]
theorem tM (b e:Int) (hb:b<e):∀ {lo:Int} {l:SP},lo<b→GoodR lo l→GoodR lo (zG b e l)
 | lo,[],hlo,_=>⟨hlo,hb,trivial⟩
 | lo,p::r,hlo,⟨h1,h2,h3⟩=>by
  unfold zG
  by_cases c:p.2<b
  ·rw [if_pos c];exact ⟨h1,h2,tM b e hb c h3⟩
  ·rw [if_neg c]
   by_cases q:e<p.1
   ·rw [if_pos q];exact ⟨hlo,hb,q,h2,h3⟩
   ·rw [if_neg q]
    exact mH e _ lo (by unfold mn;split <;> omega) (by unfold mn;split <;> omega) r p h3
theorem eJ (b e x:Int) (hb:b<e):∀ {lo:Int} {l:SP},GoodR lo l→(inS (zG b e l) x=true↔inS l x=true∨(b≤x∧x<e))
 | lo,[],_=>by
  show inS [(b,e)] x=true↔_
  rw [oK]
  simp [inS]
 | lo,p::r,⟨h1,h2,h3⟩=>by
  unfold zG
  by_cases c:p.2<b
  ·rw [if_pos c,jL,jL,Bool.or_eq_true,Bool.or_eq_true,eJ b e x hb h3,or_assoc]
  ·rw [if_neg c]
   by_cases q:e<p.1
   ·rw [if_pos q,jL,Bool.or_eq_true]
    unfold inB
    simp only [Bool.and_eq_true,decide_eq_true_eq]
    exact or_comm
   ·rw [if_neg q,mG e _ x r p (by omega) (by unfold mn;split <;> omega) h2 h3,jL,Bool.or_eq_true]
    unfold inB
    simp only [Bool.and_eq_true,decide_eq_true_eq]
    unfold mn mx
    constructor
    ·rintro (⟨z1,z2⟩ | z)
     ·by_cases y:b≤x∧x<e
      ·exact .inr y
      ·left;left;split at z1 <;> split at z2 <;> omega
     ·exact .inl (.inr z)
    ·rintro ((⟨z1,z2⟩ | z) | ⟨z1,z2⟩)
     ·left;split <;> split <;> omega
     ·exact .inr z
     ·left;split <;> split <;> omega
theorem gQ {s:Nat} {x:Int} {p:Int × Int} {r:SP} (h:side s p<x):cnt s x (p::r)=cnt s x r+1:=by
 unfold cnt
 rw [List.takeWhile_cons,if_pos (by simpa using h),List.length_cons]
theorem dB {s:Nat} {x:Int} {p:Int × Int} {r:SP} (h:¬ side s p<x):cnt s x (p::r)=0:=by
 unfold cnt
 rw [List.takeWhile_cons,if_neg (by simpa using h)]
 rfl
theorem mI (e b:Int):∀ (r:SP) (p:Int × Int),∃ q,(p::r)[cnt 0 (e+1) r]?=some q∧mrg e b p r=(b,mx e q.2)::r.drop (cnt 0 (e+1) r)
 | [],p=>⟨p,rfl,rfl⟩
 | q::r,p=>by
  unfold mrg
  by_cases c:q.1≤e
  ·obtain ⟨z,h1,h2⟩:=mI e b r q
   rw [if_pos c,gQ (show side 0 q<e+1 by show q.1<e+1;omega)]
   exact ⟨z,by simpa using h1,by rw [h2,List.drop_succ_cons]⟩
  ·rw [if_neg c,dB (show ¬ side 0 q<e+1 by show ¬ q.1<e+1;omega)]
   exact ⟨p,rfl,rfl⟩
theorem tN (b e:Int) (hb:b≤e):∀ {lo:Int} {l:SP},GoodR lo l →
  (cnt 1 b l<cnt 0 (e+1) l→∃ p q,l[cnt 1 b l]?=some p∧l[cnt 0 (e+1) l-1]?=some q∧zG b e l=l.take (cnt 1 b l)++(mn b p.1,mx e q.2)::l.drop (cnt 0 (e+1) l)) ∧
  (¬ cnt 1 b l<cnt 0 (e+1) l→zG b e l=l.take (cnt 1 b l)++(b,e)::l.drop (cnt 0 (e+1) l))
 | lo,[],_=>⟨fun h=>absurd h (Nat.lt_irrefl 0),fun _=>rfl⟩
 | lo,p::r,⟨h1,h2,h3⟩=>by
  by_cases c:p.2<b
  ·have hc:side 1 p<b:=c
   have hc2:side 0 p<e+1:=by show p.1<e+1;omega
   obtain ⟨i1,i2⟩:=tN b e hb h3
   unfold zG
   rw [if_pos c,gQ hc,gQ hc2]
   refine ⟨fun h=>?_,fun h=>?_⟩
   ·obtain ⟨x,y,e1,e2,e3⟩:=i1 (by omega)
    refine ⟨x,y,by simpa using e1,?_,by rw [e3];simp⟩
    have:cnt 0 (e+1) r=(cnt 0 (e+1) r-1)+1:=by omega
    rw [Nat.add_sub_cancel,this,List.getElem?_cons_succ]
    exact e2
   ·rw [i2 (by omega)];simp
  ·have hc:¬ side 1 p<b:=c
   rw [dB hc]
   unfold zG
   rw [if_neg c]
   by_cases q:e<p.1
   ·have hq:¬ side 0 p<e+1:=by show ¬ p.1<e+1;omega
    rw [dB hq,if_pos q]
    exact ⟨fun h=>absurd h (by omega),fun _=>rfl⟩
   ·have hq:side 0 p<e+1:=by show p.1<e+1;omega
    rw [gQ hq,if_neg q]
    obtain ⟨z,e1,e2⟩:=mI e (mn b p.1) r p
    refine ⟨fun _=>⟨p,z,rfl,by rw [Nat.add_sub_cancel];exact e1,by rw [e2];simp⟩,fun h=>absurd (by omega) h⟩
noncomputable def eI (b e:Int) (l:SP):SP:=if b=e then l else zG b e l
theorem tL (b e:Int):∀ l:SP,(zG b e l).length≤l.length+1
 | []=>by simp [zG]
 | p::r=>by
  have:=tL b e r
  have hm:∀ (r:SP) (p:Int × Int) (b:Int),(mrg e b p r).length≤r.length+1:=by
   intro r
   induction r with
   | nil=>intro p b;simp [mrg]
   | cons q r ih =>
    intro p b
    unfold mrg
    split
    ·have:=ih q b;simp only [List.length_cons];omega
    ·simp
  unfold zG
  split
  ·simp only [List.length_cons];omega
  ·split
   ·simp
   ·have:=hm r p (mn b p.1);simp only [List.length_cons];omega
theorem qE7 (B n:Nat) (b e lo:Int) (l:SP) (hg:GoodR lo l) (h:AH) (hB:l.length<B) (hl:l.length≤1000) :
  qB fns B (n+3) qGK [.tup (spL l),.int b,.int e] h=if b<0∨e<b then .exc wH h else .ok (.tup (spL (eI b e l))) h:=by
 rw [qIu]
 have c1:=qE5 B n b e h
 by_cases q:b<0∨e<b
 ·rw [if_pos q] at c1 ⊢
  simp! only [aD,c1]
 ·rw [if_neg q] at c1 ⊢
  unfold eI
  have d:(b == e)=decide (b=e):=by rw [Bool.eq_iff_iff];simp
  simp! only [aD,c1,d]
  by_cases c:b=e
  ·rw [if_pos c]
   simp! only [c]
  ·rw [if_neg c]
   have c2:=mP B (n+1) 1 (.inr rfl) b lo l hg h hB
   have c3:=mP B (n+1) 0 (.inl rfl) (e+1) lo l hg h hB
   have e1:D.int ((1:Nat):Int)=D.int 1:=rfl
   have e0:D.int ((0:Nat):Int)=D.int 0:=rfl
   rw [e1] at c2
   rw [e0] at c3
   obtain ⟨k1,k2⟩:=tN b e (by omega) hg
   have l1:=rE 1 b l
   have l2:=rE 0 (e+1) l
   have dl:decide (((cnt 1 b l:Nat):Int)<((cnt 0 (e+1) l:Nat):Int))=decide (cnt 1 b l<cnt 0 (e+1) l):=oE _ _
   generalize cnt 1 b l=f at *
   generalize cnt 0 (e+1) l=k at *
   have tl:(l.take f).length=f:=by rw [List.length_take];omega
   have dr:(l.drop k).length=l.length-k:=by rw [List.length_drop]
   simp! only [c,sV,c2,c3,dl]
   by_cases z:f<k
   ·obtain ⟨p,r,w1,w2,w3⟩:=k1 z
    have ixp:=vQ w1
    have ixr:=vQ w2
    have ix0:((ixN 2 0).bind fun j=>[D.int p.1,D.int p.2][j]?)=some (.int p.1):=rfl
    have ix1:((ixN 2 1).bind fun j=>[D.int r.1,D.int r.2][j]?)=some (.int r.2):=rfl
    have hk1:((k:Int)-1)=((k-1:Nat):Int):=by omega
    unfold spD at ixp ixr
    have hmn:(if p.1<b then p.1 else b)=mn b p.1:=rfl
    have hmx:(if r.2 > e then r.2 else e)=mx e r.2:=rfl
    simp! only [z,sW,hmn,hmx,zT,ixp,ix0,hk1,ixr,ix1,eC,pV,gN,fZ,aR,if_pos (show 2≤16777216 by omega),if_pos (show 1≤16777216 by omega),tl,dr,List.length_append,show f≤16777215 by omega]
    rw [if_pos (by omega),w3]
    simp! only [and_self]
    unfold spL
    rw [List.map_append,List.append_assoc]
    rfl
   ·have w3:=k2 z
    simp! only [z,eC,zT,pV,gN,fZ,aR,if_pos (show 2≤16777216 by omega),if_pos (show 1≤16777216 by omega),tl,dr,List.length_append,show f≤16777215 by omega]
    rw [if_pos (by omega),w3]
    simp! only [and_self]
    unfold spL
    rw [List.map_append,List.append_assoc]
    rfl
theorem jB {x:Ky × D} {r:List (Ky × D)} {k:Ky} (e:x.1=k):qG (x::r) k=some x.2:=by
 unfold qG
 rw [List.find?_cons_of_pos (by simpa using e)]
 rfl
theorem zS {x:Ky × D} {r:List (Ky × D)} {k:Ky} (e:¬ x.1=k):qG (x::r) k=qG r k:=by
 unfold qG
 rw [List.find?_cons_of_neg (by simpa using e)]
theorem yP (k:Ky):∀ kvs:List (Ky × D),(kvs.any fun kv=>decide (kv.1=k))=(qG kvs k).isSome
 | []=>rfl
 | x::r=>by
  rw [List.any_cons]
  by_cases e:x.1=k
  ·rw [jB e,decide_eq_true e];rfl
  ·rw [zS e,decide_eq_false e,Bool.false_or];exact yP k r
theorem eP (k j:Ky) (y:D):∀ kvs:List (Ky × D),qG (kvs.map fun kv=>if kv.1=k then (kv.1,y) else kv) j=(qG kvs j).map fun x=>if j=k then y else x
 | []=>rfl
 | p::r=>by
  have ih:=eP k j y r
  rw [List.map_cons]
  by_cases h:p.1=k
  ·rw [if_pos h]
   by_cases e:p.1=j
   ·rw [jB (x:=(p.1,y)) e,jB e,Option.map_some,if_pos (e.symm.trans h)]
   ·rw [zS (x:=(p.1,y)) e,zS e,ih]
  ·rw [if_neg h]
   by_cases e:p.1=j
   ·rw [jB (x:=p) e,jB e,Option.map_some,if_neg (fun z=>h (e.trans z))]
   ·rw [zS (x:=p) e,zS e,ih]
theorem eO (k j:Ky) (y:D):∀ kvs:List (Ky × D),qG kvs k=none→qG (kvs++[(k,y)]) j=if j=k then some y else qG kvs j
 | [],_=>by
  by_cases e:k=j
  ·rw [if_pos e.symm];exact jB (x:=(k,y)) e
  ·rw [if_neg (fun z=>e z.symm)];exact zS (x:=(k,y)) e
 | p::r,hn=>by
  have hk:¬ p.1=k:=fun z=>by rw [jB z] at hn;cases hn
  rw [zS hk] at hn
  have ih:=eO k j y r hn
  rw [List.cons_append]
  by_cases e:p.1=j
  ·rw [jB e,jB e,if_neg (fun z=>hk (e.trans z))]
  ·rw [zS e,zS e,ih]
theorem qAA (kvs:List (Ky × D)) (k j:Ky) (y:D):qG (zU kvs k y) j=if j=k then some y else qG kvs j:=by
 unfold zU
 cases a:(kvs.any fun kv=>decide (kv.1=k)) with
 | true =>
  rw [if_pos rfl,eP]
  rw [yP] at a
  by_cases e:j=k
  ·subst e
   obtain ⟨x,hx⟩:=Option.isSome_iff_exists.mp a
   rw [hx,if_pos rfl,Option.map_some,if_pos rfl]
  ·rw [if_neg e]
   cases qG kvs j with
   | none=>rfl
   | some x=>rw [Option.map_some,if_neg e]
 | false =>
  rw [if_neg (by decide)]
  refine eO k j y kvs ?_
  rw [yP] at a
  cases q:qG kvs k with
  | none=>rfl
  | some x=>rw [q] at a;cases a
theorem qFB (kvs:List (Ky × D)) (k:Ky) (y:D):(zU kvs k y).length≤kvs.length+1:=by
 unfold zU
 split
 ·rw [List.length_map];omega
 ·simp
noncomputable def fl (t:Tx) (sp:List D) (d:Nat):List (Nat × D):=[(bT,.str t),(bU,.tup sp),(nC,.ref d)]
section
variable (t:Tx) (sp:List D) (d:Nat)
theorem kP:qV bT (fl t sp d)=some (.str t):=rfl
theorem gD:qV bU (fl t sp d)=some (.tup sp):=rfl
theorem gF:qV nC (fl t sp d)=some (.ref d):=rfl
theorem qDG (v:Tx):jQ bT (.str v) (fl t sp d)=fl v sp d:=rfl
theorem lL (v:List D):jQ bU (.tup v) (fl t sp d)=fl t v d:=rfl
theorem qES:qV 28273260611201390 (fl t sp d)=none:=rfl
theorem mD:qV 7370100 (fl t sp d)=none:=rfl
theorem mC:qV 1936287598 (fl t sp d)=none:=rfl
theorem pE:(fl t sp d).length=3:=rfl
end
noncomputable def Fr (p d:Nat) (h h':AH):Prop:=∀ (i:Nat) (o:O),i≠p→i≠d→h[i]?=some o→h'[i]?=some o
theorem jA {h:AH} {i:Nat} {o:O} (g:AH) (e:h[i]?=some o):(h++g)[i]?=some o:=by
 rw [List.getElem?_append_left (List.getElem?_eq_some_iff.mp e).1,e]
section
variable {p d:Nat}
theorem Fr.refl (h:AH):Fr p d h h:=fun _ _ _ _ e=>e
theorem Fr.trans {a b c:AH} (x:Fr p d a b) (y:Fr p d b c):Fr p d a c:=fun i o n1 n2 e=>y i o n1 n2 (x i o n1 n2 e)
theorem Fr.app (h g:AH):Fr p d h (h++g):=fun _ _ _ _ e=>jA g e
theorem Fr.setp (h:AH) (o:O):Fr p d h (h.set p o):=fun i o' n1 _ e=>by rw [List.getElem?_set_ne n1.symm,e]
theorem Fr.setd (h:AH) (o:O):Fr p d h (h.set d o):=fun i o' _ n2 e=>by rw [List.getElem?_set_ne n2.symm,e]
end
structure Sl (h:AH) (p d:Nat) (t:Tx) (sp:SP) (kvs:List (Ky × D)):Prop where
 ap:h[p]?=some (.ins jH (fl t (spL sp) d))
 ad:h[d]?=some (.dct kvs)
section
variable {h:AH} {p d:Nat} {t:Tx} {sp:SP} {kvs:List (Ky × D)}
theorem Sl.ne (s:Sl h p d t sp kvs):p≠d:=fun e=>by
 have:=s.ap
 rw [e,s.ad] at this
 cases this
theorem Sl.app (s:Sl h p d t sp kvs) (g:AH):Sl (h++g) p d t sp kvs:=⟨jA g s.ap,jA g s.ad⟩
theorem Sl.lp (s:Sl h p d t sp kvs):p<h.length:=(List.getElem?_eq_some_iff.mp s.ap).1
theorem Sl.ld (s:Sl h p d t sp kvs):d<h.length:=(List.getElem?_eq_some_iff.mp s.ad).1
theorem Sl.setD (s:Sl h p d t sp kvs) (kvs':List (Ky × D)):Sl (h.set d (.dct kvs')) p d t sp kvs'∧Fr p d h (h.set d (.dct kvs')) :=
 ⟨⟨by rw [List.getElem?_set_ne s.ne.symm];exact s.ap,List.getElem?_set_self s.ld⟩,Fr.setd _ _⟩
theorem Sl.setP (s:Sl h p d t sp kvs) (t':Tx) (sp':SP):Sl (h.set p (.ins jH (fl t' (spL sp') d))) p d t' sp' kvs∧Fr p d h (h.set p (.ins jH (fl t' (spL sp') d))) :=
 ⟨⟨List.getElem?_set_self s.lp,by rw [List.getElem?_set_ne s.ne];exact s.ad⟩,Fr.setp _ _⟩
end
theorem eQ (k j:Ky):∀ kvs:List (Ky × D),qG (zI kvs k) j=if j=k then none else qG kvs j
 | []=>by show none=_;split <;> rfl
 | x::r=>by
  have ih:=eQ k j r
  unfold zI at ih ⊢
  by_cases e:x.1=k
  ·rw [List.filter_cons_of_neg (by simpa using e),ih]
   by_cases c:j=k
   ·rw [if_pos c,if_pos c]
   ·rw [if_neg c,if_neg c,zS (fun z=>c (z.symm.trans e))]
  ·rw [List.filter_cons_of_pos (by simpa using e)]
   by_cases c:x.1=j
   ·rw [jB c,jB c,if_neg (fun z=>e (c.trans z))]
   ·rw [zS c,zS c,ih]
theorem qFC (k:Ky) (kvs:List (Ky × D)):(zI kvs k).length≤kvs.length:=List.length_filter_le _ _
theorem uA {h:AH} {i:Nat} {o:O} (e:h[i]?=some o):h.set i o=h:=by
 apply List.ext_getElem?
 intro j
 by_cases c:i=j
 ·subst c;rw [List.getElem?_set_self (List.getElem?_eq_some_iff.mp e).1,e]
 ·rw [List.getElem?_set_ne c]
theorem qCB {g:AH} {d:Nat} {kvs:List (Ky × D)} {x:Int} {v:D} (hd:g[d]?=some (.dct kvs)) (hl:kvs.length<16777216) :
  ∃ kvs' r,yZ d (.int x) v g=.ok r (g.set d (.dct kvs'))∧kvs'.length≤kvs.length+1∧∀ y,qG kvs' y=if y=.int x∧qG kvs (.int x)=none then some v else qG kvs y:=by
 unfold yZ
 rw [hd]
 simp only
 cases hc:qG kvs (.int x) with
 | none =>
  simp only
  rw [if_pos hl]
  exact ⟨_,_,rfl,qFB _ _ _,fun y=>by rw [qAA];simp only [and_true]⟩
 | some r =>
  exact ⟨kvs,r,by rw [uA hd],by omega,fun y=>by rw [if_neg (fun z=>by cases z.2)]⟩
theorem qDB {g:AH} {d:Nat} {kvs:List (Ky × D)} {x:Int} {v:D} (hd:g[d]?=some (.dct kvs)) (hv:qG kvs (.int x)=some v):uH d (.int x) g=.ok v (g.set d (.dct (zI kvs (.int x)))):=by
 unfold uH
 rw [hd]
 simp only
 rw [hv]
structure Iv (f:Nat→Nat) (a:Nat) (lo:Int) (sp:SP) (kvs:List (Ky × D)) (c:Nat):Prop where
 gd:GoodR lo sp
 up:∀ x:Int,inS sp x=true→x<1100000000
 dc:∀ x:Int,qG kvs (.int x)=if inS sp x=true then some (.str [f x.toNat]) else none
 ls:sp.length≤c
 lk:a+kvs.length≤201*c
noncomputable def pr (a:Nat) (sp:SP) (x:Nat):Bool:=decide (x<a) || inS sp (x:Int)
noncomputable def tk (f:Nat→Nat) (a:Nat):Tx:=(List.range a).map f
theorem wK (f:Nat→Nat) (a:Nat):(tk f a).length=a:=by unfold tk;simp
theorem qAv (f:Nat→Nat) {a k:Nat} (h:k<a):(tk f a)[k]?=some (f k):=by unfold tk;simp [h]
theorem mY {k:Ky} {v:D}:∀ {kvs:List (Ky × D)},qG kvs k=some v→(zI kvs k).length+1≤kvs.length
 | [],e=>by cases e
 | x::r,e=>by
  by_cases q:x.1=k
  ·have:=qFC k r
   unfold zI at this ⊢
   rw [List.filter_cons_of_neg (by simpa using q),List.length_cons];omega
  ·rw [zS q] at e
   have:=mY e
   unfold zI at this ⊢
   rw [List.filter_cons_of_pos (by simpa using q),List.length_cons,List.length_cons];omega
theorem cn:([358300611685]:List Nat).contains jH=true:=by decide
theorem eY {y:Tx} {k:Nat} {c:Nat} (e:y[k]?=some c):((ixN y.length (k:Int)).bind fun j=>y[j]?)=some c:=by
 rw [vR (List.getElem?_eq_some_iff.mp e).1,Option.bind_some,e]
theorem oQ {w:Tx} {k:Nat} (hk:k<w.length):w[k]?=some (w.getD k 0):=by
 rw [List.getD_eq_getElem?_getD,List.getElem?_eq_getElem hk,Option.getD_some]
section
variable {F:Nat→List D→M D} {B:Nat} {h:AH} {p d:Nat} {t:Tx} {f:Nat→Nat} {sp:SP} {kvs:List (Ky × D)}
theorem qC8 (s:Sl h p d t sp kvs) (hz:kvs.length≤1000000) (hd:∀ x:Int,qG kvs (.int x)=if inS sp x=true then some (.str [f x.toNat]) else none) (at' b n:Nat) (y:Tx) (hb:at'≤b) (he:b+n=at'+y.length) (hyl:y.length≤200) (hy:∀ x:Nat,b≤x→x<b+n→inS sp (x:Int)=false→f x=y.getD (x-at') 0) (x4 x5:Option D) :
  ∃ kvs' x5',zO (qP (TG.nm 5) (qA F B aE)) (qR b n) [some (.ref p),some (.int at'),some (.str y),some (.int b),x4,x5] h=.nx [some (.ref p),some (.int at'),some (.str y),some (.int b),x4,x5'] (h.set d (.dct kvs')) ∧
   kvs'.length≤kvs.length+n∧∀ x:Int,qG kvs' (.int x)=if inS sp x=true∨((b:Int)≤x∧x<b+n) then some (.str [f x.toNat]) else none:=by
 obtain ⟨σ',h',e,kvs',l,e1,e2,e3,e4⟩:=kO (fun k σ g=>∃ (kvs':List (Ky × D)) (l:Option D),σ=[some (.ref p),some (.int at'),some (.str y),some (.int b),x4,l]∧g=h.set d (.dct kvs')∧kvs'.length≤kvs.length+k∧∀ x:Int,qG kvs' (.int x)=if inS sp x=true∨((b:Int)≤x∧x<b+k) then some (.str [f x.toNat]) else none)
  (qP (TG.nm 5) (qA F B aE)) (qR b n) 0 [some (.ref p),some (.int at'),some (.str y),some (.int b),x4,x5] h
  ⟨kvs,x5,rfl,(uA s.ad).symm,by omega,fun x=>by
   rw [hd x]
   have:(inS sp x=true∨((b:Int)≤x∧x<b+(0:Nat)))↔inS sp x=true:=⟨fun z=>z.elim id (fun z=>by omega),.inl⟩
   simp only [this]⟩
  (fun k x σ g hk ⟨kvs',l,e1,e2,e3,e4⟩=>by
   obtain ⟨hkn,rfl⟩:=vB hk
   subst e1
   subst e2
   rw [Nat.zero_add] at e3 e4 ⊢
   obtain ⟨s1,_⟩:=s.setD kvs'
   obtain ⟨kvs2,r,q1,q2,q3⟩:=qCB (x:=(b:Int)+k) (v:=.str [y.getD (b+k-at') 0]) s1.ad (by omega)
   rw [List.set_set] at q1
   have ix:((ixN y.length ((b:Int)+k-at')).bind fun j=>y[j]?)=some (y.getD (b+k-at') 0):=by
    rw [show ((b:Int)+k-at')=((b+k-at':Nat):Int) by omega]
    exact eY (oQ (by omega))
   refine ⟨_,_,?_,kvs2,some (.int ((b:Int)+k)),rfl,rfl,by omega,fun x=>?_⟩
   ·rw [jV]
    simp! only [aE,s1.ap,gF,s1.ad,if_pos (show y.length≤16777216 by omega),ix,q1]
   ·rw [q3]
    by_cases c:x=(b:Int)+k
    ·subst c
     cases hi:inS sp ((b:Int)+k) with
     | false =>
      have:=hy (b+k) (by omega) (by omega) (by rw [show ((b+k:Nat):Int)=(b:Int)+k by omega];exact hi)
      have hv:qG kvs' (.int ((b:Int)+k))=none:=by
       rw [e4,if_neg]
       rintro (z | z)
       ·rw [hi] at z;cases z
       ·omega
      rw [if_pos ⟨rfl,hv⟩,if_pos (.inr (by omega)),show ((b:Int)+k).toNat=b+k by omega,this]
     | true =>
      have hv:qG kvs' (.int ((b:Int)+k))=some (.str [f (b+k)]):=by
       rw [e4,if_pos (.inl hi),show ((b:Int)+k).toNat=b+k by omega]
      rw [hv,if_neg (fun z=>by cases z.2),if_pos (.inl rfl),show ((b:Int)+k).toNat=b+k by omega]
    ·rw [if_neg (fun z=>c (by cases z.1;rfl)),e4]
     have:(inS sp x=true∨((b:Int)≤x∧x<b+k))↔(inS sp x=true∨((b:Int)≤x∧x<b+(k+1:Nat))):=by
      constructor
      ·rintro (z | z)
       ·exact .inl z
       ·exact .inr (by omega)
      ·rintro (z | z)
       ·exact .inl z
       ·exact .inr (by omega)
     simp only [this])
 rw [kH,Nat.zero_add] at e3 e4
 subst e1
 subst e2
 exact ⟨kvs',l,e,e3,e4⟩
end
theorem fL (t:Tx) (f:Nat→Nat) (n:Nat):qQ (.str t::(List.range n).map fun j=>.str [f j])=some (t::(List.range n).map fun j=>[f j]):=by
 show (qQ ((List.range n).map fun j=>.str [f j])).map (t::·)=_
 have:∀ l:List Nat,qQ (l.map fun j=>.str [f j])=some (l.map fun j=>[f j]):=fun l=>by
  induction l with
  | nil=>rfl
  | cons x l ih =>
   show (qQ (l.map fun j=>.str [f j])).map ([f x]::·)=_
   rw [ih]
   rfl
 rw [this]
 rfl
theorem nF (x:Tx):∀ r:List Tx,zR [] (x::r)=x++zR [] r
 | []=>by show x=x++[];rw [List.append_nil]
 | y::r=>by show x++[]++zR [] (y::r)=_;rw [List.append_nil]
theorem bW (f:Nat→Nat):∀ l:List Nat,zR [] (l.map fun j=>[f j])=l.map f
 | []=>rfl
 | x::l=>by rw [List.map_cons,nF,bW f l];rfl
theorem qFa (t:Tx) (f:Nat→Nat) (n:Nat):zY [] (t::(List.range n).map fun j=>[f j])=t.length+n:=by
 unfold zY
 rw [List.map_cons,List.map_map,show (List.length ∘ fun (j:Nat)=>[f j])=fun _=>1 from rfl,List.map_const',List.sum_cons,List.sum_replicate_nat,List.length_range,List.length_nil,Nat.mul_zero,Nat.mul_one,Nat.add_zero]
theorem qA2 (f:Nat→Nat) (a n:Nat):tk f a++(List.range n).map (fun j=>f (a+j))=tk f (a+n):=by
 unfold tk
 rw [List.range_add,List.map_append,List.map_map]
 rfl
section
variable {F:Nat→List D→M D} {B:Nat} {h:AH} {p d:Nat} {t:Tx} {f:Nat→Nat} {sp:SP} {kvs:List (Ky × D)}
theorem qHR (s:Sl h p d t sp kvs) (hk0:kvs.length≤1000000) (a n:Nat) (r:SP) (hr:∀ x:Int,inS r x=true→(a+n:Int)≤x) (hd:∀ x:Int,qG kvs (.int x)=if ((a:Int)≤x∧x<a+n)∨inS r x=true then some (.str [f x.toNat]) else none) (x1 x3:Option D) :
  ∃ h1 kvs' x3',zO (qP (TG.nm 3) (qA F B aF)) (qR a n) [some (.ref p),x1,some (.ref h.length),x3] (h++[.lst [.str t]])=.nx [some (.ref p),x1,some (.ref h.length),x3'] (h1++[.lst (.str t::(List.range n).map fun j=>.str [f (a+j)])]) ∧
   h1.length=h.length∧Fr p d h h1∧Sl h1 p d t sp kvs'∧kvs'.length+n≤kvs.length∧∀ x:Int,qG kvs' (.int x)=if inS r x=true then some (.str [f x.toNat]) else none:=by
 obtain ⟨σ',h',e,h1,kvs',l,e1,e2,e3,e4,e5,e6,e7⟩:=kO (fun k σ g=>∃ (h1:AH) (kvs':List (Ky × D)) (l:Option D),σ=[some (.ref p),x1,some (.ref h.length),l]∧g=h1++[.lst (.str t::(List.range k).map fun j=>.str [f (a+j)])]∧h1.length=h.length∧Fr p d h h1∧Sl h1 p d t sp kvs'∧kvs'.length+k≤kvs.length∧∀ x:Int,qG kvs' (.int x)=if ((a+k:Int)≤x∧x<a+n)∨inS r x=true then some (.str [f x.toNat]) else none)
  (qP (TG.nm 3) (qA F B aF)) (qR a n) 0 [some (.ref p),x1,some (.ref h.length),x3] (h++[.lst [.str t]])
  ⟨h,kvs,x3,rfl,rfl,rfl,Fr.refl h,s,Nat.le_refl _,fun x=>by
   rw [hd x]
   simp⟩
  (fun k x σ g hk ⟨h1,kvs',l,e1,e2,e3,e4,e5,e6,e7⟩=>by
   obtain ⟨hkn,rfl⟩:=vB hk
   subst e1
   subst e2
   rw [Nat.zero_add] at e6 e7 ⊢
   have hv:qG kvs' (.int ((a:Int)+k))=some (.str [f (a+k)]):=by
    rw [e7,if_pos (.inl (by omega)),show ((a:Int)+k).toNat=a+k by omega]
   have s2:=e5.app [.lst (.str t::(List.range k).map fun j=>.str [f (a+j)])]
   have q1:=qDB s2.ad hv
   rw [List.set_append_left _ _ e5.ld] at q1
   obtain ⟨s3,k3⟩:=e5.setD (zI kvs' (.int ((a:Int)+k)))
   have hl3:(h1.set d (.dct (zI kvs' (.int ((a:Int)+k))))).length=h.length:=by rw [List.length_set,e3]
   have gl:getL (h1++[O.lst (D.str t::(List.range k).map fun j=>D.str [f (a+j)])]) h.length=some (D.str t::(List.range k).map fun j=>D.str [f (a+j)]):=by rw [← e3,jG];rfl
   have gl3:(h1.set d (.dct (zI kvs' (.int ((a:Int)+k))))++[O.lst (D.str t::(List.range k).map fun j=>D.str [f (a+j)])])[h.length]?=some (O.lst (D.str t::(List.range k).map fun j=>D.str [f (a+j)])):=by rw [← hl3,vX];rfl
   have st3:∀ o:O,(h1.set d (.dct (zI kvs' (.int ((a:Int)+k))))++[O.lst (D.str t::(List.range k).map fun j=>D.str [f (a+j)])]).set h.length o=h1.set d (.dct (zI kvs' (.int ((a:Int)+k))))++[o]:=fun o=>by rw [← hl3,wR];rfl
   have hlen:(D.str t::(List.range k).map fun j=>D.str [f (a+j)]).length<16777216:=by
    rw [List.length_cons,List.length_map,List.length_range];omega
   have fin:D.str t::((List.range k).map fun j=>D.str [f (a+j)])++[.str [f (a+k)]]=D.str t::(List.range (k+1)).map fun j=>D.str [f (a+j)]:=by
    rw [List.range_succ,List.map_append];rfl
   refine ⟨_,_,?_,h1.set d (.dct (zI kvs' (.int ((a:Int)+k)))),zI kvs' (.int ((a:Int)+k)),some (.int ((a:Int)+k)),rfl,rfl,hl3,e4.trans k3,s3,by have:=mY hv;omega,fun x=>?_⟩
   ·rw [jV,← fin]
    generalize (D.str t::(List.range k).map fun j=>D.str [f (a+j)])=G at *
    simp! only [aF,gl,s2.ap,gF,s2.ad,q1,gl3,if_pos hlen,st3]
   ·rw [eQ]
    by_cases c:x=(a:Int)+k
    ·rw [if_pos (by rw [c]),if_neg]
     rintro (z | z)
     ·omega
     ·have:=hr x z;omega
    ·rw [if_neg (fun z=>c (by cases z;rfl)),e7]
     have:(((a+k:Int)≤x∧x<a+n)∨inS r x=true)↔(((a+(k+1:Nat):Int)≤x∧x<a+n)∨inS r x=true):=by
      constructor
      ·rintro (z | z)
       ·exact .inl (by omega)
       ·exact .inr z
      ·rintro (z | z)
       ·exact .inl (by omega)
       ·exact .inr z
     simp only [this])
 rw [kH,Nat.zero_add] at e2 e6 e7
 subst e1
 subst e2
 refine ⟨h1,kvs',l,e,e3,e4,e5,e6,fun x=>?_⟩
 rw [e7]
 have:(((a+n:Int)≤x∧x<a+n)∨inS r x=true)↔inS r x=true:=⟨fun z=>z.elim (fun z=>by omega) id,.inr⟩
 simp only [this]
end
theorem vV {x:Int}:∀ {lo:Int} {l:SP},GoodR lo l→inS l x=true→lo<x
 | _,[],_,e=>by cases e
 | lo,q::r,⟨h1,h2,h3⟩,e=>by
  rw [jL,Bool.or_eq_true] at e
  rcases e with e | e
  ·unfold inB at e
   rw [Bool.and_eq_true,decide_eq_true_eq,decide_eq_true_eq] at e
   omega
  ·have:=vV h3 e
   omega
section
variable {B n:Nat} {h:AH} {p d:Nat} {f:Nat→Nat} {sp:SP} {kvs:List (Ky × D)} {a c:Nat}
theorem qE4 (s:Sl h p d (tk f a) sp kvs) (iv:Iv f a ((a:Int)-1) sp kvs c) (hc0:c≤1000) (hs:sp≠[]) :
  ∃ h' a' sp' kvs',qB fns B (n+1) qGN [.ref p] h=.ok .non h'∧Sl h' p d (tk f a') sp' kvs'∧Iv f a' a' sp' kvs' c∧Fr p d h h'∧∀ x,pr a' sp' x=pr a sp x:=by
 rw [qIx]
 cases sp with
 | nil=>exact absurd rfl hs
 | cons q r =>
  obtain ⟨g1,g2,g3⟩:=iv.gd
  have tl:(tk f a).length=a:=wK f a
  have tl2:a≤16777216:=by have:=iv.lk;omega
  have ix:((ixN (spL (q::r)).length 0).bind fun j=>(spL (q::r))[j]?)=some (.tup [.int q.1,.int q.2]):=by rw [zT];exact vQ (l:=q::r) (k:=0) (p:=q) rfl
  have ix0:((ixN 2 0).bind fun j=>[D.int q.1,.int q.2][j]?)=some (.int q.1):=rfl
  have ix1:((ixN 2 1).bind fun j=>[D.int q.1,.int q.2][j]?)=some (.int q.2):=rfl
  by_cases e:q.1=a
  ·have q2:q.2≤1100000000:=by
    have:=iv.up (q.2-1) (by rw [jL,Bool.or_eq_true];left;unfold inB;rw [Bool.and_eq_true,decide_eq_true_eq,decide_eq_true_eq];omega)
    omega
   obtain ⟨n',hn⟩:∃ n':Nat,q.2=(a:Int)+n':=⟨(q.2-a).toNat,by omega⟩
   have hin:∀ x:Int,inS (q::r) x=true↔((a:Int)≤x∧x<a+n')∨inS r x=true:=fun x=>by
    rw [jL,Bool.or_eq_true]
    unfold inB
    rw [Bool.and_eq_true,decide_eq_true_eq,decide_eq_true_eq,e,hn]
   obtain ⟨h1,kvs',x3',L,hl,kk,s1,lk,dc⟩:=qHR (F:=qB fns B n) (B:=B) (f:=f) s (by have:=iv.lk;omega) a n' r (fun x hx=>by have:=vV g3 hx;omega) (fun x=>by rw [iv.dc x];simp only [hin]) (some (.tup [.int q.1,.int q.2])) none
   have rg:(q.2-q.1).toNat=n':=by omega
   have sm:qX q.1∧qX q.2:=by unfold qX;omega
   have jn:zY [] (tk f a::(List.range n').map fun j=>[f (a+j)])≤16777216:=by rw [qFa,tl];have:=iv.lk;omega
   have jt:zR [] (tk f a::(List.range n').map fun j=>[f (a+j)])=tk f (a+n'):=by rw [nF,bW,qA2]
   have gl:getL (h1++[O.lst (D.str (tk f a)::(List.range n').map fun j=>D.str [f (a+j)])]) h.length=some (D.str (tk f a)::(List.range n').map fun j=>D.str [f (a+j)]):=by rw [← hl,jG];rfl
   have s2:=s1.app [O.lst (D.str (tk f a)::(List.range n').map fun j=>D.str [f (a+j)])]
   obtain ⟨s3,k3⟩:=s2.setP (tk f (a+n')) (q::r)
   obtain ⟨s4,k4⟩:=s3.setP (tk f (a+n')) r
   have cx:qS (spL (q::r)) (some 1) none=spL r:=by
    rw [show (1:Int)=((1:Nat):Int) from rfl,gN,aR];rfl
   have ne:(q.1 == (a:Int))=true:=by rw [e];simp
   rw [← e] at L
   refine ⟨_,a+n',r,kvs',?_,s4,⟨by rw [hn] at g3;exact_mod_cast g3,fun x hx=>iv.up x (by rw [hin];exact .inr hx),dc,by have:=iv.ls;rw [List.length_cons] at this;omega,by have:=iv.lk;omega⟩,(((kk.trans (Fr.app _ _)).trans k3).trans k4),fun x=>?_⟩
   ·simp! only [aG,s.ap,gD,kP,ix,ix0,if_pos tl2,tl,ne,tE,if_pos (show 1≤16777216 by omega),ix1,if_pos sm,rg,L,tF,gl,Option.bind_some,fL,if_pos jn,jt,s2.ap,qDG,pE,cn,s3.ap,cx,lL]
   ·unfold pr
    rw [Bool.eq_iff_iff]
    have:=hin x
    simp only [Bool.or_eq_true,decide_eq_true_eq,this]
    constructor
    ·rintro (z | z)
     ·by_cases y:x<a
      ·exact .inl y
      ·exact .inr (.inl (by omega))
     ·exact .inr (.inr z)
    ·rintro (z | z | z)
     ·exact .inl (by omega)
     ·exact .inl (by omega)
     ·exact .inr z
  ·have ne:(q.1 == (a:Int))=false:=by simpa using e
   refine ⟨h,a,q::r,kvs,?_,s,⟨⟨by omega,g2,g3⟩,iv.up,iv.dc,iv.ls,iv.lk⟩,Fr.refl h,fun x=>rfl⟩
   simp! only [aG,s.ap,gD,kP,ix,ix0,if_pos tl2,tl,ne]
end
theorem qJX {b e:Int} (hb:b<e) {lo:Int} {l:SP} (g:GoodR lo l):zG b e l≠[]:=fun z=>by
 have:=(eJ b e b hb g).mpr (.inr ⟨Int.le_refl _,hb⟩)
 rw [z] at this
 cases this
section
variable {B n:Nat} {h:AH} {p d:Nat} {f:Nat→Nat} {sp:SP} {kvs:List (Ky × D)} {a c:Nat}
theorem qE1 (s:Sl h p d (tk f a) sp kvs) (iv:Iv f a a sp kvs c) (hc:c≤990) (hB:1000≤B) (at' m:Nat) (y:Tx) (yl:y.length=m) (hyl:m≤200) (hm:at'+m≤1100000000) (hy:∀ x:Nat,at'≤x→x<at'+m→pr a sp x=false→f x=y.getD (x-at') 0) :
  ∃ h' a' sp' kvs',qB fns B (n+4) qGM [.ref p,.int at',.str (y)] h=.ok .non h'∧Sl h' p d (tk f a') sp' kvs'∧Iv f a' a' sp' kvs' (c+1)∧Fr p d h h'∧∀ x,pr a' sp' x=(pr a sp x || decide (at'≤x∧x<at'+m)):=by
 rw [rP]
 have tl:(tk f a).length=a:=wK f a
 have tl2:a≤16777216:=by have:=iv.lk;omega
 have n0:decide ((at':Int)<0)=false:=by simp
 obtain ⟨b,hb,hb1,hb2,hb3⟩:∃ b:Nat,(if (a:Int) > at' then (a:Int) else at')=(b:Int)∧a≤b∧at'≤b∧(b=a∨b=at'):=by
  by_cases q:(a:Int) > at'
  ·rw [if_pos q];exact ⟨a,rfl,by omega,by omega,.inl rfl⟩
  ·rw [if_neg q];exact ⟨at',rfl,by omega,by omega,.inr rfl⟩
 have he:((at':Int)+m)=((at'+m:Nat):Int):=by omega
 by_cases q:at'+m≤b
 ·have qd:decide (((at':Int)+m)≤b)=true:=by rw [he,oF];exact decide_eq_true q
  refine ⟨h,a,sp,kvs,?_,s,⟨iv.gd,iv.up,iv.dc,by have:=iv.ls;omega,by have:=iv.lk;omega⟩,Fr.refl h,fun x=>?_⟩
  ·simp! only [yL,n0,eE,s.ap,kP,tl,if_pos tl2,hb,yl,if_pos (show m≤16777216 by omega),qd]
  ·unfold pr
   rw [Bool.eq_iff_iff]
   simp only [Bool.or_eq_true,decide_eq_true_eq]
   constructor
   ·exact .inl
   ·rintro (z | z)
    ·exact z
    ·exact .inl (by omega)
 ·have qd:decide (((at':Int)+m)≤b)=false:=by rw [he,oF];exact decide_eq_false q
  obtain ⟨n',hn⟩:∃ n':Nat,b+n'=at'+m:=⟨at'+m-b,by omega⟩
  have lk:=iv.lk
  have ls:=iv.ls
  obtain ⟨kvs1,x5,L,l1,d1⟩:=qC8 (F:=qB fns B (n+3)) (B:=B) (f:=f) s (by omega) iv.dc at' b n' y hb2 (by omega) (by omega) (fun x h1 h2 h3=>hy x (by omega) (by omega) (by unfold pr;rw [h3,decide_eq_false (by omega)];rfl)) (some (.int ((at':Int)+m))) none
  obtain ⟨s1,k1⟩:=s.setD kvs1
  have ad:=qE7 B n b ((at':Int)+m) a sp iv.gd (h.set d (.dct kvs1)) (by omega) (by omega)
  rw [if_neg (by omega)] at ad
  have hlt:(b:Int)<(at':Int)+m:=by omega
  have aS:eI b ((at':Int)+m) sp=zG b ((at':Int)+m) sp:=if_neg (by omega)
  rw [aS] at ad
  have gw:GoodR ((a:Int)-1) sp:=iv.gd.weak (by omega)
  have hin:∀ x:Int,inS (zG b ((at':Int)+m) sp) x=true↔inS sp x=true∨((b:Int)≤x∧x<at'+m):=fun x=>eJ b _ x hlt gw
  obtain ⟨s2,k2⟩:=s1.setP (tk f a) (zG b ((at':Int)+m) sp)
  have iv2:Iv f a ((a:Int)-1) (zG b ((at':Int)+m) sp) kvs1 (c+1):=by
   refine ⟨tM _ _ hlt (by omega) gw,fun x hx=>?_,fun x=>?_,?_,by omega⟩
   ·rcases (hin x).mp hx with z | z
    ·exact iv.up x z
    ·omega
   ·rw [d1 x]
    have:(inS sp x=true∨((b:Int)≤x∧x<b+n'))↔inS (zG b ((at':Int)+m) sp) x=true:=by
     rw [hin x,show (b:Int)+n'=at'+m by omega]
    simp only [this]
   ·have:=tL b ((at':Int)+m) sp;omega
  obtain ⟨h',a',sp',kvs',e1,s3,iv3,k3,pr3⟩:=qE4 (B:=B) (n:=n+2) s2 iv2 (by omega) (qJX hlt gw)
  refine ⟨h',a',sp',kvs',?_,s3,iv3,(k1.trans k2).trans k3,fun x=>?_⟩
  ·have sm:qX (b:Int)∧qX ((at':Int)+m):=by unfold qX;omega
   have rg:((at':Int)+m-b).toNat=n':=by omega
   simp! only [yL,n0,eE,s.ap,kP,tl,if_pos tl2,hb,yl,if_pos (show m≤16777216 by omega),qd,sY,if_pos sm,rg,L,sZ,s1.ap,gD,ad,lL,pE,cn,s2.ap,qES,e1]
  ·rw [pr3 x]
   unfold pr
   rw [Bool.eq_iff_iff]
   have:=hin x
   simp only [Bool.or_eq_true,decide_eq_true_eq,this]
   constructor
   ·rintro (z | z | z)
    ·exact .inl (.inl z)
    ·exact .inl (.inr z)
    ·exact .inr (by omega)
   ·rintro ((z | z) | z)
    ·exact .inl z
    ·exact .inr (.inl z)
    ·by_cases y:x<a
     ·exact .inl y
     ·exact .inr (.inr (by omega))
end
theorem qEw (B n:Nat) (h:AH) (c:Int) (m:Nat) (hm:m≤100):∃ (g:AH) (xs:List Int),qB fns B (n+1) qGA [.int c,.int m] h=.ok (.ref (h.length+1)) (h++g)∧getL (h++g) (h.length+1)=some (xs.map .int)∧xs.length=m∧∀ x∈xs,0≤x∧x<2147483647:=by
 rw [qIk]
 simp! only [dI,if_pos (show 0≤16777216 by omega),show (0:Int)<2147483647 by omega]
 have hs:qX ((m:Int)+1):=by unfold qX;omega
 have ht:((m:Int)+1).toNat=m+1:=by omega
 simp! only [if_pos hs,ht]
 obtain ⟨σ',h',e,xs,v,l,hl,hx,hv,e1,e2⟩:=kO (fun k σ g=>∃ (xs:List Int) (v:Int) (l:Option D),xs.length=k∧(∀ x∈xs,0≤x∧x<2147483647)∧(0≤v∧v<4294967296)∧σ=[some (.int c),some (.int m),some (.ref h.length),some (.int v),l]∧g=h++[.lst (xs.map .int)])
  (qP (TG.nm 4) (qA (qB fns B n) B dH)) (qR 0 (m+1)) 0 [some (.int c),some (.int m),some (.ref h.length),some (.int (c % 2147483647+48271)),none] (h++[.lst []])
  ⟨[],c % 2147483647+48271,none,rfl,(fun x hx=>by cases hx),⟨by omega,by omega⟩,rfl,rfl⟩
  (fun j x σ g hj ⟨xs,v,l,hl,hx,hv,e1,e2⟩=>by
   obtain ⟨hjl,rfl⟩:=vB hj
   subst e1
   subst e2
   have hb:=Int.emod_lt_of_pos (v*v+48271*v+(0+(j:Int))) (show (0:Int)<2147483647 by omega)
   have hb':=Int.emod_nonneg (v*v+48271*v+(0+(j:Int))) (show (2147483647:Int)≠0 by omega)
   refine ⟨_,_,?_,xs++[(v*v+48271*v+(0+(j:Int))) % 2147483647],(v*v+48271*v+(0+(j:Int))) % 2147483647,some (.int (0+j)),by rw [List.length_append,hl];rfl,?_,?_,rfl,rfl⟩
   ·simp! only [dH,if_pos (mE (i:=v) (j:=v) (by omega)),if_pos (mE (i:=48271) (j:=v) (by omega)),jG,uX,vX,wR,List.length_map,hl,if_pos (show 0+j<16777216 by omega),List.map_append,show j<16777216 by omega]
   ·intro x hm'
    rcases List.mem_append.mp hm' with h1 | h1
    ·exact hx x h1
    ·rw [List.mem_singleton.mp h1];exact ⟨hb',hb⟩
   ·omega)
 rw [e]
 subst e1
 subst e2
 rw [kH,Nat.zero_add] at hl
 have hc:qS (xs.map D.int) (some 1) none=(xs.drop 1).map .int:=by
  rw [show (1:Int)=((1:Nat):Int) from rfl,gN,List.map_drop]
 simp! only [rZ,jG,uX,hc,List.length_map,List.length_drop,hl,if_pos (show m+1-1≤16777216 by omega),List.length_append]
 refine ⟨[.lst (xs.map .int),.lst ((xs.drop 1).map .int)],xs.drop 1,?_,?_,by rw [List.length_drop,hl];rfl,fun x hm'=>hx x (List.mem_of_mem_drop hm')⟩
 ·rw [List.append_assoc];rfl
 ·rw [uZ];rfl
noncomputable def SGN:Tx:=[32,33,34,35,36,38,39,40,41,42,43,44,45,46,47,48,49,50,51,52,53,54,55,56,57,58,59,60,61,62,63,64,65,66,67,68,69,70,71,72,73,74,75,76,77,78,79,80,81,82,83,84,85,86,87,88,89,90,91,92,93,94,95,96,97,98,99,100,101,102,103,104,105,106,107,108,109,110,111,112,113,114,115,116,117,118,119,120,121,122,123,124,125,126]
theorem tP:SGN.length=94:=rfl
theorem tQ (i:Int):∃ c,((ixN 94 (i % 94)).bind fun j=>SGN[j]?)=some c:=by
 have h1:=Int.emod_nonneg i (show (94:Int)≠0 by omega)
 have h2:=Int.emod_lt_of_pos i (show (0:Int)<94 by omega)
 obtain ⟨k,hk,hk2⟩:∃ k:Nat,i % 94=(k:Int)∧k<94:=⟨(i % 94).toNat,by omega,by omega⟩
 have hk3:k<SGN.length:=hk2
 refine ⟨SGN[k],?_⟩
 rw [hk,vR hk2,Option.bind_some,List.getElem?_eq_getElem hk3]
theorem bN (f:D→M (Option D)) (h:AH):∀ xs:List D,(∀ x∈xs,∃ c,f x h=.ok (some (.str [c])) h)→∃ y:Tx,zB f xs h=.ok (y.map fun c=>.str [c]) h∧y.length=xs.length
 | [],_=>⟨[],rfl,rfl⟩
 | x::xs,H=>by
  obtain ⟨c,h2⟩:=H x (List.mem_cons_self ..)
  obtain ⟨y,e1,e2⟩:=bN f h xs fun z hz=>H z (List.mem_cons_of_mem _ hz)
  refine ⟨c::y,?_,by simp [e2]⟩
  show ((f x).bind fun y=>(zB f xs).bind fun ys=>M.ret (match y with | some y=>y::ys | none=>ys)) h=_
  simp only [M.bind_eq,h2,R.bind_ok,e1,M.ret_eq]
  rfl
theorem aM:∀ y:Tx,qQ (y.map fun c=>.str [c])=some (y.map fun c=>[c])
 | []=>rfl
 | c::y=>by
  show (qQ (y.map fun c=>.str [c])).map ([c]::·)=_
  rw [aM y]
  rfl
theorem bV:∀ y:Tx,zR [] (y.map fun c=>[c])=y
 | []=>rfl
 | [c]=>rfl
 | c::d::y=>by
  have:=bV (d::y)
  show [c]++[]++zR [] ((d::y).map fun c=>[c])=_
  rw [this]
  rfl
theorem nG (y:Tx) (hy:y.length≤1000):zY [] (y.map fun c=>[c])≤16777216:=by
 unfold zY
 rw [List.map_map,List.length_map,show (List.length ∘ fun (c:Nat)=>[c])=fun _=>1 from rfl,List.map_const',List.sum_replicate_nat]
 simp only [List.length_nil,Nat.mul_zero]
 omega
theorem qE2 (B n:Nat) (h:AH) (x:Int) (k:Nat) (hk:k≤200):∃ y g,qB fns B (n+1) qGB [.int x,.int k] h=.ok (.str y) (h++g)∧y.length=k:=by
 rw [qIl]
 have hs:qX (k:Int):=by unfold qX;omega
 have f3:(0:Int)<3∧(3:Int)<1073741824:=⟨by omega,by omega⟩
 have f282:(0:Int)<282∧(282:Int)<1073741824:=⟨by omega,by omega⟩
 have hSG:D.str [32,33,34,35,36,38,39,40,41,42,43,44,45,46,47,48,49,50,51,52,53,54,55,56,57,58,59,60,61,62,63,64,65,66,67,68,69,70,71,72,73,74,75,76,77,78,79,80,81,82,83,84,85,86,87,88,89,90,91,92,93,94,95,96,97,98,99,100,101,102,103,104,105,106,107,108,109,110,111,112,113,114,115,116,117,118,119,120,121,122,123,124,125,126]=D.str SGN:=rfl
 obtain ⟨y1,e1,e2⟩:=bN (jT (den (qB fns B n) dL) [some (.int x),some (.int k),some (.str SGN)]) h (qR 0 k) (fun z hz=>by
  unfold qR at hz
  obtain ⟨j,_,rfl⟩:=List.mem_map.mp hz
  obtain ⟨c,hc2⟩:=tQ (x / 3)
  refine ⟨c,?_⟩
  unfold jT
  simp! only [List.cons_append,List.nil_append,dL,if_pos f3,tP,if_pos (show 94≤16777216 by omega),hc2])
 obtain ⟨y2,u1,u2⟩:=bN (jT (den (qB fns B n) dJ) [some (.int x),some (.int k),some (.str SGN)]) h (qR 0 k) (fun z hz=>by
  unfold qR at hz
  obtain ⟨j,hj,rfl⟩:=List.mem_map.mp hz
  have hj:=List.mem_range.mp hj
  obtain ⟨c,hc2⟩:=tQ (x / 3+(0+(j:Int))*(1+x / 282 % 93))
  refine ⟨c,?_⟩
  unfold jT
  simp! only [List.cons_append,List.nil_append,dJ,if_pos f3,if_pos f282,if_pos (mF (i:=0+(j:Int)) (j:=1+x / 282 % 93) (by omega)),tP,if_pos (show 94≤16777216 by omega),hc2])
 rw [kH] at e2 u2
 cases q:(x % 3 == 0) with
 | true =>
  refine ⟨y1,[.lst (y1.map fun c=>.str [c])],?_,e2⟩
  simp only [gX,qA,den,qH,zE,qN,M.bind_eq,M.ret_eq,R.bind_ok,bJ,kW,yN,List.getElem?_cons_zero,List.getElem?_cons_succ,List.set_cons_zero,List.set_cons_succ,hSG]
  simp! only [q,if_pos hs,Int.toNat_natCast,kH,if_pos (show k<16777216 by omega),e1,List.length_map,e2,if_pos (show k≤16777216 by omega),jG,uX,Option.bind_some,aM,if_pos (nG y1 (by omega)),bV]
 | false =>
  refine ⟨y2,[.lst (y2.map fun c=>.str [c])],?_,u2⟩
  simp only [gX,qA,den,qH,zE,qN,M.bind_eq,M.ret_eq,R.bind_ok,bJ,kW,yN,List.getElem?_cons_zero,List.getElem?_cons_succ,List.set_cons_zero,List.set_cons_succ,hSG]
  simp! only [q,sC,if_pos hs,Int.toNat_natCast,kH,if_pos (show k<16777216 by omega),u1,List.length_map,u2,if_pos (show k≤16777216 by omega),jG,uX,Option.bind_some,aM,if_pos (nG y2 (by omega)),bV]
theorem qE3 (B n:Nat) (h:AH) (l:SP) (hg:GoodR (-1) l) (hl:l.length≤1000):qB fns B (n+2) qGE [.tup (spL l)] h=.ok (.bl true) h:=by
 rw [qIo]
 have hs:qX (l.length:Int):=by unfold qX;omega
 have hty:(Ty.tuple == Ty.tuple)=true:=rfl
 simp! only [dR,hty,sK,zT,if_pos hs,Int.toNat_natCast]
 obtain ⟨σ',h',e,e1,s1,e2⟩:=kO (fun k σ G=>G=h∧∃ s1,σ=[some (.tup (spL l)),s1]) (qP (TG.nm 1) (qA (qB fns B (n+1)) B dQ)) (qR 0 l.length) 0 [some (.tup (spL l)),none] h ⟨rfl,none,rfl⟩
  (fun j x σ G hj ⟨e1,s1,e2⟩=>by
   obtain ⟨hjl,rfl⟩:=vB hj
   subst e1
   subst e2
   have ej:l[j]?=some l[j]:=by simp [hjl]
   obtain ⟨g1,g2⟩:=hg.at ej
   have i0:D.int (0+(j:Int))=.int (j:Int):=by rw [Int.zero_add]
   have ix:=vQ ej
   have ix0:∀ p:Int × Int,((ixN 2 0).bind fun j=>[D.int p.1,D.int p.2][j]?)=some (.int p.1):=fun _=>rfl
   have ix1:∀ p:Int × Int,((ixN 2 1).bind fun j=>[D.int p.1,D.int p.2][j]?)=some (.int p.2):=fun _=>rfl
   have d1:decide ((l[j]).2≤(l[j]).1)=false:=decide_eq_false (by omega)
   have d2:decide ((l[j]).1<0)=false:=decide_eq_false (by omega)
   refine ⟨_,_,?_,rfl,some (.int j),rfl⟩
   unfold spD at ix
   have h22:((2:Int) == 2)=true:=rfl
   have hn2:(((2:Nat):Int) == 2)=true:=rfl
   simp! only [i0,dQ,zT,ix,hty,sM,ix0,ix1,qEv,d1,d2,hn2,sN]
   cases j with
   | zero=>rfl
   | succ j' =>
    have hj':j'<l.length:=by omega
    have ej':l[j']?=some l[j']:=by simp [hj']
    have g3:=hg.next ej' ej
    have ix':=vQ ej'
    unfold spD at ix'
    have d3:decide ((0:Int)<((j'+1:Nat):Int))=true:=decide_eq_true (by omega)
    have d4:decide ((l[j'+1]).1≤(l[j']).2)=false:=decide_eq_false (by omega)
    have i1:((j'+1:Nat):Int)-1=(j':Int):=by omega
    simp! only [d3,zT,ix,ix0,i1,ix',ix1,d4])
 rw [e]
 subst e1
 subst e2
 simp! only [sL]
noncomputable def rg (q:Int × Int):List Int:=(List.range (q.2-q.1).toNat).map fun k:Nat=>q.1+(k:Int)
noncomputable def pl:SP→List Int
 | []=>[]
 | q::r=>rg q++pl r
noncomputable def qT (a:Nat) (sp:SP):List Int:=(List.range a).map (fun k:Nat=>(k:Int))++pl sp
theorem mem_rg {q:Int × Int} {x:Int}:x∈rg q↔q.1≤x∧x<q.2:=by
 unfold rg
 rw [List.mem_map]
 constructor
 ·rintro ⟨k,hk,rfl⟩
  have:=List.mem_range.mp hk
  omega
 ·rintro ⟨h1,h2⟩
  exact ⟨(x-q.1).toNat,List.mem_range.mpr (by omega),by omega⟩
theorem mem_pl {x:Int}:∀ {sp:SP},x∈pl sp↔inS sp x=true
 | []=>by constructor <;> intro h <;> cases h
 | q::r=>by
  show x∈rg q++pl r↔_
  rw [List.mem_append,mem_rg,mem_pl,jL,Bool.or_eq_true]
  unfold inB
  rw [Bool.and_eq_true,decide_eq_true_eq,decide_eq_true_eq]
theorem qAB (b:Int) (n:Nat):((List.range n).map fun k:Nat=>b+(k:Int)).Pairwise (·<·):=by
 rw [List.pairwise_map]
 exact List.pairwise_lt_range.imp fun h=>by omega
theorem eU:∀ {lo:Int} {sp:SP},GoodR lo sp→(pl sp).Pairwise (·<·)
 | _,[],_=>.nil
 | lo,q::r,⟨h1,h2,h3⟩=>by
  refine List.pairwise_append.mpr ⟨qAB _ _,eU h3,fun x hx y hy=>?_⟩
  have:=mem_rg.mp hx
  have:=vV h3 (mem_pl.mp hy)
  omega
theorem eV {a:Nat} {sp:SP} (g:GoodR a sp):(qT a sp).Pairwise (·<·):=by
 refine List.pairwise_append.mpr ⟨?_,eU g,fun x hx y hy=>?_⟩
 ·rw [List.pairwise_map]
  exact List.pairwise_lt_range.imp fun h=>by omega
 ·obtain ⟨k,hk,rfl⟩:=List.mem_map.mp hx
  have:=List.mem_range.mp hk
  have:=vV g (mem_pl.mp hy)
  omega
theorem qEY {a:Nat} {sp:SP} (g:GoodR a sp) {x:Int}:x∈qT a sp↔∃ n:Nat,x=n∧pr a sp n=true:=by
 unfold qT pr
 rw [List.mem_append,List.mem_map,mem_pl]
 constructor
 ·rintro (⟨k,hk,rfl⟩ | h)
  ·exact ⟨k,rfl,by rw [decide_eq_true (List.mem_range.mp hk)];rfl⟩
  ·have:=vV g h
   refine ⟨x.toNat,by omega,?_⟩
   rw [show ((x.toNat:Nat):Int)=x by omega,h,Bool.or_true]
 ·rintro ⟨n,rfl,h⟩
  rw [Bool.or_eq_true,decide_eq_true_eq] at h
  rcases h with h | h
  ·exact .inl ⟨n,List.mem_range.mpr h,rfl⟩
  ·exact .inr h
noncomputable def hk (f:Nat→Nat) (L:List Nat):List (Ky × D):=L.map fun x:Nat=>(Ky.int (x:Int),D.str [f x])
structure Hd (a:Nat) (sp:SP) (L:List Nat) (c:Nat):Prop where
 nd:L.Nodup
 me:∀ x,x∈L↔pr a sp x=true
 ln:L.length≤201*c
theorem qGS (f:Nat→Nat) (L:List Nat):(hk f L).length=L.length:=by unfold hk;simp
theorem vW (f:Nat→Nat) (x:Nat):∀ L:List Nat,qG (hk f L) (.int x)=if x∈L then some (.str [f x]) else none
 | []=>rfl
 | y::L=>by
  show qG ((Ky.int (y:Int),D.str [f y])::hk f L) (.int x)=_
  by_cases e:y=x
  ·subst e
   rw [jB (x:=(Ky.int (y:Int),D.str [f y])) rfl,if_pos (List.mem_cons_self ..)]
  ·rw [zS (x:=(Ky.int (y:Int),D.str [f y])) (fun z=>e (by cases z;rfl)),vW f x L]
   simp only [List.mem_cons,show ¬ x=y from fun z=>e z.symm,false_or]
theorem oO (f:Nat→Nat) {x:Int} (hx:x<0):∀ L:List Nat,qG (hk f L) (.int x)=none
 | []=>rfl
 | y::L=>by
  show qG ((Ky.int (y:Int),D.str [f y])::hk f L) (.int x)=_
  rw [zS (x:=(Ky.int (y:Int),D.str [f y])) (fun z=>by injection z with z;omega)]
  exact oO f hx L
theorem oP (f:Nat→Nat):∀ L:List Nat,vF (hk f L)=some (L.map fun x:Nat=>(x:Int))
 | []=>rfl
 | y::L=>by
  show (vF (hk f L)).map _=_
  rw [oP f L]
  rfl
theorem oN {f:Nat→Nat} {a:Nat} {sp:SP} {L:List Nat} {c:Nat} (H:Hd a sp L c) (g:GoodR a sp):zX (L.map fun x:Nat=>(x:Int))=qT a sp:=by
 refine yQ ((wQ _).trans ?_) (yY _) ((eV g).imp fun h=>Int.le_of_lt h)
 refine (List.perm_ext_iff_of_nodup ?_ ((eV g).imp fun h=>Int.ne_of_lt h)).mpr fun x=>?_
 ·exact List.pairwise_map.mpr (H.nd.imp fun h z=>h (by omega))
 ·rw [qEY g,List.mem_map]
  constructor
  ·rintro ⟨n,hn,rfl⟩;exact ⟨n,rfl,(H.me n).mp hn⟩
  ·rintro ⟨n,rfl,hn⟩;exact ⟨n,(H.me n).mpr hn,rfl⟩
theorem qFD {f:Nat→Nat} {a:Nat} {sp:SP} {L:List Nat} {c:Nat} (H:Hd a sp L c) (g:GoodR a sp):(qT a sp).length≤201*c:=by
 have:=(wQ (L.map fun x:Nat=>(x:Int))).length_eq
 rw [oN (f:=f) H g,List.length_map] at this
 have:=H.ln
 omega
noncomputable def qY (b:Int) (row:SP) (x:Int):SP:=if b<x then (match row.getLast? with
 | some q=>if q.2=x then row.dropLast++[(q.1,x+1)] else row++[(x,x+1)]
 | none=>row++[(x,x+1)]) else row
theorem bB {b x:Int} {row:SP} (hx:b<x) (hl:∀ q,row.getLast?=some q→¬ q.2=x):qY b row x=row++[(x,x+1)]:=by
 unfold qY
 rw [if_pos hx]
 cases e:row.getLast? with
 | none=>rfl
 | some q=>exact if_neg (hl q e)
theorem iR {b x c:Int} {row:SP} (hx:b<x):qY b (row++[(c,x)]) x=row++[(c,x+1)]:=by
 unfold qY
 rw [if_pos hx,List.getLast?_concat,List.dropLast_concat]
 exact if_pos rfl
theorem iP {b lo:Int} {row:SP} (hb:b<lo) (hl:∀ q,row.getLast?=some q→¬ q.2=lo):∀ n:Nat,((List.range (n+1)).map fun k:Nat=>lo+(k:Int)).foldl (qY b) row=row++[(lo,lo+(n+1:Nat))]
 | 0=>by
  show qY b row (lo+(0:Nat))=_
  rw [show lo+((0:Nat):Int)=lo by omega,bB hb hl]
  rfl
 | n+1=>by
  rw [List.range_succ,List.map_append,List.foldl_append,iP hb hl n]
  show qY b (row++[(lo,lo+(n+1:Nat))]) (lo+(n+1:Nat))=_
  rw [iR (by omega),Int.add_assoc]
  rfl
theorem iQ {b:Int}:∀ {sp:SP} {lo:Int} {row:SP},GoodR lo sp→b≤lo→(∀ q,row.getLast?=some q→q.2≤lo)→(pl sp).foldl (qY b) row=row++sp
 | [],_,row,_,_,_=>(List.append_nil row).symm
 | q::r,lo,row,⟨h1,h2,h3⟩,hb,hl=>by
  show (rg q++pl r).foldl (qY b) row=_
  obtain ⟨n,hn⟩:∃ n:Nat,(q.2-q.1).toNat=n+1:=⟨(q.2-q.1).toNat-1,by omega⟩
  have e:q.1+((n+1:Nat):Int)=q.2:=by omega
  rw [List.foldl_append]
  unfold rg
  rw [hn,iP (by omega) (fun z hz=>by have:=hl z hz;omega),e,iQ h3 (by omega) (fun z hz=>by rw [List.getLast?_concat] at hz;cases hz;exact Int.le_refl _)]
  simp
theorem qCo {a:Nat} {sp:SP} (g:GoodR a sp):(qT a sp).foldl (qY a) []=sp:=by
 unfold qT
 rw [List.foldl_append]
 have:∀ n:Nat,n≤a→((List.range n).map (fun k:Nat=>(k:Int))).foldl (qY a) []=[]:=by
  intro n
  induction n with
  | zero=>intro _;rfl
  | succ n ih =>
   intro hn
   rw [List.range_succ,List.map_append,List.foldl_append,ih (by omega)]
   exact if_neg (show ¬ (a:Int)<(n:Int) by omega)
 rw [this a (Nat.le_refl _),iQ g (Int.le_refl _) (fun q hq=>by cases hq)]
 rfl
section
variable {F:Nat→List D→M D} {B:Nat} {h:AH} {f:Nat→Nat} {a:Nat} {sp:SP} {L:List Nat} {c hd:Nat}
theorem rA (hh:h[hd]?=some (.dct (hk f L))) (H:Hd a sp L c) (g:GoodR a sp) (ha:a≤100000):∀ (m k:Nat),a<k+m→k≤a →
  jP (qH F yI) (qA F B aA) m [some (.ref hd),some (.ref h.length)] (h++[.lst ((List.range k).map fun j=>.str [f j])])=.nx [some (.ref hd),some (.ref h.length)] (h++[.lst ((List.range a).map fun j=>.str [f j])])
 | 0,k,h1,h2=>by omega
 | m+1,k,h1,h2=>by
  unfold jP
  have e1:getL (h++[O.lst ((List.range k).map fun j=>D.str [f j])]) h.length=some ((List.range k).map fun j=>D.str [f j]):=by rw [jG];rfl
  have e2:(h++[O.lst ((List.range k).map fun j=>D.str [f j])])[hd]?=some (.dct (hk f L)):=jA _ hh
  have e3:getL (h++[O.lst ((List.range k).map fun j=>D.str [f j])]) hd=none:=by unfold getL;rw [e2]
  have e4:∀ G:AH,G[hd]?=some (.dct (hk f L))→kB hd (.int (k:Int)) G=.ok (.bl (decide (k∈L))) G:=fun G hG=>by
   unfold kB
   rw [hG]
   simp only [vW]
   by_cases q:k∈L
   ·rw [if_pos q,decide_eq_true q];rfl
   ·rw [if_neg q,decide_eq_false q];rfl
  have ln:((List.range k).map fun j=>D.str [f j]).length=k:=by simp
  have m1:=H.me k
  unfold pr at m1
  by_cases q:k<a
  ·have q1:k∈L:=m1.mpr (by rw [decide_eq_true q];rfl)
   have e5:ixK hd (.int (k:Int)) (h++[O.lst ((List.range k).map fun j=>D.str [f j])])=.ok (.str [f k]) (h++[O.lst ((List.range k).map fun j=>D.str [f j])]):=by
    unfold ixK
    rw [e2]
    simp only [vW,if_pos q1]
   have e6:(h++[O.lst ((List.range k).map fun j=>D.str [f j])])[h.length]?=some (.lst ((List.range k).map fun j=>D.str [f j])):=by rw [vX];rfl
   have e7:∀ o:O,(h++[O.lst ((List.range k).map fun j=>D.str [f j])]).set h.length o=h++[o]:=fun o=>by rw [wR];rfl
   have ih:=rA hh H g ha m (k+1) (by omega) (by omega)
   have fin:((List.range k).map fun j=>D.str [f j])++[.str [f k]]=(List.range (k+1)).map fun j=>D.str [f j]:=by rw [List.range_succ,List.map_append];rfl
   rw [← fin] at ih
   generalize ((List.range k).map fun j=>D.str [f j])=T at *
   simp! only [yI,e1,ln,e3,Option.bind_none,e4 _ e2,decide_eq_true q1,aA,e5,e6,if_pos (show k<16777216 by omega),e7]
   exact ih
  ·obtain rfl:k=a:=by omega
   have q1:¬ k∈L:=fun z=>by
    have:=m1.mp z
    rw [decide_eq_false q,Bool.false_or,cE g (Int.le_refl _)] at this
    cases this
   generalize ((List.range k).map fun j=>D.str [f j])=T at *
   simp! only [yI,e1,ln,e3,Option.bind_none,e4 _ e2,decide_eq_false q1]
theorem mR {n:Nat} (hh:h[hd]?=some (.dct (hk f L))) (H:Hd a sp L c) (g:GoodR a sp) (ha:a≤100000) (hB:a<B):qB fns B (n+1) qGF [.ref hd] h=.ok (.str (tk f a)) (h++[.lst ((List.range a).map fun j=>.str [f j])]):=by
 rw [qIp]
 have L:=rA (F:=qB fns B n) (B:=B) hh H g ha B 0 (by omega) (Nat.zero_le _)
 have e1:getL (h++[O.lst ((List.range a).map fun j=>D.str [f j])]) h.length=some ((List.range a).map fun j=>D.str [f j]):=by rw [jG];rfl
 have st:qQ ((List.range a).map fun j=>D.str [f j])=some ((List.range a).map fun j=>[f j]):=by
  have:=fL [] f a
  unfold qQ at this
  cases q:qQ ((List.range a).map fun j=>D.str [f j]) with
  | none=>rw [q] at this;cases this
  | some r=>rw [q] at this;exact congrArg some (by simpa using this)
 have jn:zY [] ((List.range a).map fun j=>[f j])≤16777216:=by
  unfold zY
  rw [List.map_map,show (List.length ∘ fun (j:Nat)=>[f j])=fun _=>1 from rfl,List.map_const',List.sum_replicate_nat,List.length_map,List.length_range,List.length_nil]
  omega
 have L:jP (qH (qB fns B n) yI) (qA (qB fns B n) B aA) B [some (.ref hd),some (.ref h.length)] (h++[.lst []])=_:=L
 simp! only [dS,if_pos (show 0≤16777216 by omega),L,sO,e1,Option.bind_some,st,if_pos jn,bW] <;> rfl
theorem yX (r:SP) (q:Int × Int):spL (r++[q])=spL r++[.tup [.int q.1,.int q.2]]:=by unfold spL;rw [List.map_append];rfl
theorem qCn {G:AH} {R:Nat} {row:SP} (hR:G[R]?=some (.lst (spL row))) (hl:row.length≤100000) (b x:Int) (x0:Option D) :
  qA F B vI [x0,some (.int b),some (.ref R),some (.int x)] G=.nx [x0,some (.int b),some (.ref R),some (.int x)] (G.set R (.lst (spL (qY b row x)))):=by
 have gl:getL G R=some (spL row):=by unfold getL;rw [hR]
 have ln:=zT row
 by_cases q:b<x
 ·rcases List.eq_nil_or_concat row with rfl | ⟨r,z,rfl⟩
  ·have e:spL (qY b [] x)=[]++[.tup [.int x,.int (x+1)]]:=by rw [bB q (fun z hz=>by cases hz)];rfl
   have d0:decide ((0:Int)<((0:Nat):Int))=false:=rfl
   rw [e]
   have gl:getL G R=some []:=gl
   have hR:G[R]?=some (.lst []):=hR
   simp! only [vI,decide_eq_true q,gl,hR,List.length_nil,d0,gY,dN,if_pos (show 0<16777216 by omega)]
  ·rw [List.concat_eq_append] at *
   rw [zT,List.length_append] at ln
   rw [yX] at gl hR
   have l1:(spL r++[D.tup [.int z.1,.int z.2]]).length=r.length+1:=by rw [List.length_append,zT];rfl
   have ixn:ixN (r.length+1) (-1)=some r.length:=by
    unfold ixN
    rw [if_neg (by omega),if_pos (by omega)]
    congr 1;omega
   have ix:(spL r++[D.tup [.int z.1,.int z.2]])[r.length]?=some (.tup [.int z.1,.int z.2]):=by
    rw [List.getElem?_append_right (by rw [zT];exact Nat.le_refl _),zT,Nat.sub_self];rfl
   have ix0:((ixN 2 0).bind fun j=>[D.int z.1,.int z.2][j]?)=some (.int z.1):=rfl
   have ix1:((ixN 2 1).bind fun j=>[D.int z.1,.int z.2][j]?)=some (.int z.2):=rfl
   have d0:decide ((0:Int)<((r.length+1:Nat):Int))=true:=decide_eq_true (by omega)
   have hrl:r.length+1≤100000:=by rw [List.length_append] at hl;exact hl
   by_cases e:z.2=x
   ·have eb:(z.2 == x)=true:=by simpa using e
    have er:qY b (r++[z]) x=r++[(z.1,x+1)]:=by
     have:=iR (c:=z.1) (row:=r) q
     rw [← e] at this ⊢
     exact this
    have st:(spL r++[D.tup [.int z.1,.int z.2]]).set r.length (.tup [.int z.1,.int (x+1)])=spL r++[.tup [.int z.1,.int (x+1)]]:=by
     rw [List.set_append_right _ _ (by rw [zT];exact Nat.le_refl _),zT,Nat.sub_self];rfl
    rw [er,yX]
    simp! only [vI,decide_eq_true q,gl,hR,l1,d0,ixn,Option.bind_some,ix,ix1,ix0,eb,sI,if_pos (show 2≤16777216 by omega),st]
   ·have eb:(z.2 == x)=false:=by simpa using e
    have er:qY b (r++[z]) x=r++[z]++[(x,x+1)]:=bB q (fun y hy=>by rw [List.getLast?_concat] at hy;cases hy;exact e)
    rw [er,yX,yX]
    simp! only [vI,decide_eq_true q,gl,hR,l1,d0,ixn,Option.bind_some,ix,ix1,eb,gY,dN,if_pos (show 2≤16777216 by omega),if_pos (show r.length+1<16777216 by omega)]
 ·have e:qY b row x=row:=if_neg q
  rw [e,uA hR]
  simp! only [vI,decide_eq_false q,gY]
theorem iU (b:Int):∀ (l:List Int) (row:SP),(l.foldl (qY b) row).length≤row.length+l.length
 | [],row=>Nat.le_refl _
 | x::l,row=>by
  have:=iU b l (qY b row x)
  have h2:(qY b row x).length≤row.length+1:=by
   unfold qY
   split
   ·split
    ·split
     ·rw [List.length_append,List.length_dropLast];show _+1≤_;omega
     ·rw [List.length_append];exact Nat.le_refl _
    ·rw [List.length_append];exact Nat.le_refl _
   ·omega
  rw [List.foldl_cons,List.length_cons]
  omega
theorem qEy {n:Nat} (hh:h[hd]?=some (.dct (hk f L))) (H:Hd a sp L c) (g:GoodR a sp) (hc:c≤100):∃ e,qB fns B (n+1) qGD [.ref hd,.int a] h=.ok (.tup (spL sp)) (h++e):=by
 rw [qIn]
 have la:=qFD (f:=f) H g
 have e1:(h++[O.lst []])[hd]?=some (.dct (hk f L)):=jA _ hh
 have e2:getL (h++[O.lst []]) hd=none:=by unfold getL;rw [e1]
 have so:kZ hd (h++[O.lst []])=.ok (.ref (h.length+1)) (h++[.lst []]++[.lst ((qT a sp).map .int)]):=by
  unfold kZ
  rw [e1]
  simp only [oP,oN (f:=f) H g]
  unfold newL M.when
  rw [if_pos (by rw [List.length_map];omega)]
  unfold eH
  rw [List.length_append]
  rfl
 have ap:∀ o:O,h++[o]++[O.lst ((qT a sp).map .int)]=h++[o,.lst ((qT a sp).map .int)]:=fun o=>by simp
 rw [ap] at so
 have gs:∀ o:O,getL (h++[o,O.lst ((qT a sp).map .int)]) (h.length+1)=some ((qT a sp).map .int):=fun o=>by rw [uZ];rfl
 obtain ⟨σ',h',Lp,x3,s1,s2⟩:=oW (fun k σ G=>∃ x3,σ=[some (.ref hd),some (.int a),some (.ref h.length),x3]∧G=h++[.lst (spL (((qT a sp).take k).foldl (qY a) [])),.lst ((qT a sp).map .int)])
  (qP (TG.nm 3) (qA (qB fns B n) B vI)) (h.length+1) ((qT a sp).map .int) [some (.ref hd),some (.int a),some (.ref h.length),none] (h++[.lst [],.lst ((qT a sp).map .int)])
  ⟨none,rfl,rfl⟩ (fun k σ G ⟨x3,_,e⟩=>by rw [e];exact gs _)
  (fun j x σ G hj ⟨x3,e1,e2⟩=>by
   rw [List.getElem?_map] at hj
   cases q:(qT a sp)[j]? with
   | none=>rw [q] at hj;cases hj
   | some y =>
    rw [q] at hj
    cases hj
    subst e1
    subst e2
    have tk1:(qT a sp).take (j+1)=(qT a sp).take j++[y]:=by rw [List.take_succ,q];rfl
    refine ⟨_,_,?_,some (.int y),rfl,rfl⟩
    rw [jV]
    have rl:=iU a ((qT a sp).take j) []
    rw [List.length_nil,List.length_take] at rl
    have:=qCn (F:=qB fns B n) (B:=B) (G:=h++[.lst (spL (((qT a sp).take j).foldl (qY a) [])),.lst ((qT a sp).map .int)]) (R:=h.length) (row:=((qT a sp).take j).foldl (qY a) []) (by rw [vX];rfl) (by omega) a y (some (.ref hd))
    rw [wR] at this
    rw [tk1,List.foldl_append]
    exact this)
 rw [List.length_map,List.take_length,qCo g] at s2
 subst s1
 subst s2
 have li:zC (h++[.lst [],.lst ((qT a sp).map .int)]) (h.length+1)<16777216:=by unfold zC;rw [gs,Option.getD_some,List.length_map];omega
 have g0:getL (h++[O.lst (spL sp),.lst ((qT a sp).map .int)]) h.length=some (spL sp):=by rw [jG];rfl
 refine ⟨[.lst (spL sp),.lst ((qT a sp).map .int)],?_⟩
 simp! only [dO,if_pos (show 0≤16777216 by omega),e2,so,gs,if_pos li,Lp,sG,g0]
end
theorem pI (h:AH):∀ l:SP,eqW (eqD h 39) (spL l) (spL l)=some true
 | []=>rfl
 | p::r=>by
  show (match eqD h 39 (spD p) (spD p),eqW (eqD h 39) (spL r) (spL r) with | some a,some b=>some (a&&b) | _,_=>none)=some true
  have e:eqD h 39 (spD p) (spD p)=some ((p.1 == p.1)&&((p.2 == p.2)&&true)):=rfl
  rw [pI h r,e]
  simp
noncomputable def sg (f:Nat→Nat) (a:Nat) (sp:SP) (x:Int):D:=if 0≤x∧pr a sp x.toNat=true then .str [f x.toNat] else .non
section
variable {B n:Nat} {h:AH} {p d:Nat} {f:Nat→Nat} {a c:Nat} {sp:SP} {kvs:List (Ky × D)} {L:List Nat} {hd:Nat}
theorem qEx (s:Sl h p d (tk f a) sp kvs) (iv:Iv f a a sp kvs c) (hc:c≤1000) (x:Int):qB fns B (n+1) qGL [.ref p,.int x] h=.ok (sg f a sp x) h:=by
 rw [qIv]
 have tl:=wK f a
 have tl2:a≤16777216:=by have:=iv.lk;omega
 have gk:vZ d (.int x) h=.ok (if inS sp x=true then .str [f x.toNat] else .non) h:=by
  unfold vZ
  rw [s.ad]
  simp only [iv.dc x]
  split <;> rfl
 by_cases q:0≤x
 ·by_cases q2:x<a
  ·obtain ⟨k,rfl⟩:∃ k:Nat,x=k:=⟨x.toNat,by omega⟩
   have ix:((ixN a (k:Int)).bind fun j=>(tk f a)[j]?)=some (f k):=by rw [vR (by omega),Option.bind_some,qAv f (by omega)]
   have e:sg f a sp k=.str [f k]:=by
    unfold sg pr
    rw [Int.toNat_natCast,decide_eq_true (show k<a by omega)]
    exact if_pos ⟨q,rfl⟩
   rw [e]
   simp! only [yK,s.ap,kP,tl,if_pos tl2,decide_eq_true q,decide_eq_true q2,ix]
  ·have e:sg f a sp x=if inS sp x=true then .str [f x.toNat] else .non:=by
    unfold sg pr
    rw [decide_eq_false (show ¬ x.toNat<a by omega),Bool.false_or,show ((x.toNat:Nat):Int)=x by omega]
    simp only [q,true_and]
   rw [e]
   simp! only [yK,s.ap,kP,tl,if_pos tl2,decide_eq_true q,decide_eq_false q2,eD,gF,s.ad,gk]
 ·have e:sg f a sp x=if inS sp x=true then .str [f x.toNat] else .non:=by
   rw [cE iv.gd (by omega)]
   unfold sg
   rw [if_neg (fun z=>q z.1)]
   rfl
  rw [e]
  simp! only [yK,s.ap,kP,tl,if_pos tl2,decide_eq_false q,eD,gF,s.ad,gk]
theorem qGY (hh:h[hd]?=some (.dct (hk f L))) (H:Hd a sp L c) (x:Int):vZ hd (.int x) h=.ok (sg f a sp x) h:=by
 unfold vZ
 rw [hh]
 simp only
 unfold sg
 by_cases q:0≤x
 ·obtain ⟨k,rfl⟩:∃ k:Nat,x=k:=⟨x.toNat,by omega⟩
  rw [vW,Int.toNat_natCast]
  by_cases e:k∈L
  ·rw [if_pos e,if_pos ⟨q,(H.me k).mp e⟩];rfl
  ·rw [if_neg e,if_neg (fun z=>e ((H.me k).mpr z.2))];rfl
 ·rw [oO f (by omega),if_neg (fun z=>q z.1)];rfl
theorem qCN (s:Sl h p d (tk f a) sp kvs) (iv:Iv f a a sp kvs c) (hc:c≤1000) (hh:h[hd]?=some (.dct (hk f L))) (H:Hd a sp L c) (x:Int) (x2 x3 x5 x6:Option D) :
  qA (qB fns B (n+1)) B yH [some (.ref p),some (.ref hd),x2,x3,some (.int x),x5,x6] h=.nx [some (.ref p),some (.ref hd),x2,x3,some (.int x),some (sg f a sp x),some (sg f a sp x)] h:=by
 have e1:qB fns B (n+1) 7 [.ref p,.int x] h=.ok (sg f a sp x) h:=qEx s iv hc x
 have e2:=qGY hh H x
 have ht:(Ty.str == Ty.str)=true:=rfl
 unfold sg at e1 e2 ⊢
 by_cases q:0≤x∧pr a sp x.toNat=true
 ·rw [if_pos q] at e1 e2 ⊢
  have eb:(([f x.toNat]:Tx) == [f x.toNat])=true:=beq_self_eq_true _
  simp! only [yH,s.ap,mC,e1,hh,e2,eb,ht]
 ·rw [if_neg q] at e1 e2 ⊢
  simp! only [yH,s.ap,mC,e1,hh,e2]
theorem bQ (s:Sl h p d (tk f a) sp kvs) (iv:Iv f a a sp kvs c) (hc:c≤100) (hB:100000≤B) (hh:h[hd]?=some (.dct (hk f L))) (H:Hd a sp L c) {P:Nat} {ps:List Int} (hP:getL h P=some (ps.map .int)) (hl:ps.length≤1000) :
  ∃ g,qB fns B (n+3) qGC [.ref p,.ref hd,.ref P] h=.ok (.bl true) (h++g):=by
 rw [qIm]
 have hlk:=iv.lk
 have hls:=iv.ls
 obtain ⟨g1,c1⟩:∃ g1,qB fns B (n+2) 12 [.ref hd] h=.ok (.str (tk f a)) (h++g1):=⟨_,mR (n:=n+1) hh H iv.gd (by omega) (by omega)⟩
 have s1:=s.app g1
 have c2:qB fns B (n+2) 10 [.tup (spL sp)] (h++g1)=.ok (.bl true) (h++g1):=qE3 B n (h++g1) sp (iv.gd.weak (by omega)) (by omega)
 obtain ⟨g2,c3⟩:=qEy (n:=n+1) (B:=B) (jA g1 hh) H iv.gd hc
 have c3:qB fns B (n+2) 13 [.ref hd,.int a] (h++g1)=.ok (.tup (spL sp)) (h++g1++g2):=c3
 have s2:=s1.app g2
 have hP2:=zW g2 (zW g1 hP)
 have hh2:=jA g2 (jA g1 hh)
 generalize hG:h++g1++g2=G at *
 have tl:=wK f a
 have tl2:a≤16777216:=by omega
 have eb:(tk f a == tk f a)=true:=beq_self_eq_true _
 have er:qK G (.tup (spL sp)) (.tup (spL sp))=some true:=by rw [pM];exact pI _ _
 have ht:(Ty.str == Ty.str)=true:=rfl
 obtain ⟨σ',h',Lp,x4,x5,x6,q1,q2⟩:=oW (fun _ σ g=>∃ x4 x5 x6,σ=[some (.ref p),some (.ref hd),some (.ref P),some (.str (tk f a)),x4,x5,x6]∧g=G)
  (qP (TG.nm 4) (qA (qB fns B (n+2)) B yH)) P (ps.map .int) [some (.ref p),some (.ref hd),some (.ref P),some (.str (tk f a)),none,none,none] G
  ⟨none,none,none,rfl,rfl⟩ (fun k σ g ⟨_,_,_,_,e⟩=>by rw [e];exact hP2)
  (fun j x σ g hj ⟨x4,x5,x6,e1,e2⟩=>by
   rw [List.getElem?_map] at hj
   cases q:ps[j]? with
   | none=>rw [q] at hj;cases hj
   | some y =>
    rw [q] at hj
    cases hj
    subst e1
    subst e2
    exact ⟨_,_,by rw [jV];exact qCN (n:=n+1) s2 iv (by omega) hh2 H y (some (.ref P)) (some (.str (tk f a))) x5 x6,_,_,_,rfl,rfl⟩)
 subst q1
 subst q2
 have li:zC h' P<16777216:=by unfold zC;rw [hP2,Option.getD_some,List.length_map];omega
 refine ⟨g1++g2,?_⟩
 rw [← List.append_assoc,hG]
 simp! only [dM,c1,s1.ap,kP,ht,eb,gD,c2,sD,tl,if_pos tl2,c3,er,sE,hP2,if_pos li,Lp,sF]
end
structure Ob where
 (p d hd:Nat) (f:Nat→Nat) (a:Nat) (sp:SP) (kvs:List (Ky × D)) (L:List Nat) (c e:Nat) (es:List Int)
structure Ok (G:AH) (o:Ob):Prop where
 sl:Sl G o.p o.d (tk o.f o.a) o.sp o.kvs
 iv:Iv o.f o.a o.a o.sp o.kvs o.c
 hh:G[o.hd]?=some (.dct (hk o.f o.L))
 H:Hd o.a o.sp o.L o.c
 ne:o.d≠o.hd
 ge:G[o.e]?=some (.lst (o.es.map .int))
 le:o.es.length≤15
noncomputable def Fq (M:List Nat) (G G':AH):Prop:=∀ (i:Nat) (x:O),i∉M→G[i]?=some x→G'[i]?=some x
theorem Fq.trans {M:List Nat} {a b c:AH} (x:Fq M a b) (y:Fq M b c):Fq M a c:=fun i o n e=>y i o n (x i o n e)
theorem Fq.app (M:List Nat) (h g:AH):Fq M h (h++g):=fun _ _ _ e=>jA g e
theorem Fq.set {M:List Nat} {i:Nat} (hi:i∈M) (h:AH) (o:O):Fq M h (h.set i o):=fun j x n e=>by
 rw [List.getElem?_set_ne (fun z=>n (by rw [← z];exact hi)),e]
theorem Fr.fq {p d x:Nat} {h h':AH} (k:Fr p d h h'):Fq [p,d,x] h h':=fun i o n e=>k i o (fun z=>n (by simp [z])) (fun z=>n (by simp [z])) e
noncomputable def uO:O→Bool
 | .lst _=>true
 | .rol _=>true
 | _=>false
theorem uY {h:AH} {i:Nat} {xs:List D} (e:getL h i=some xs):∃ o,h[i]?=some o∧uO o=true:=by
 unfold getL at e
 cases q:h[i]? with
 | none=>rw [q] at e;cases e
 | some o =>
  rw [q] at e
  cases o with
  | lst _=>exact ⟨_,rfl,rfl⟩
  | rol _=>exact ⟨_,rfl,rfl⟩
  | _=>cases e
section
variable {G G':AH} {o:Ob}
theorem Ok.no (k:Ok G o) {i:Nat} {x:O} (e:G[i]?=some x) (hx:uO x=true):i∉[o.p,o.d,o.hd]:=fun m=>by
 simp only [List.mem_cons,List.not_mem_nil,or_false] at m
 rcases m with rfl | rfl | rfl
 ·rw [k.sl.ap] at e;cases e;cases hx
 ·rw [k.sl.ad] at e;cases e;cases hx
 ·rw [k.hh] at e;cases e;cases hx
theorem Fq.getL {M:List Nat} (k:Fq M G G') {i:Nat} {xs:List D} (n:i∉M) (e:getL G i=some xs):getL G' i=some xs:=by
 obtain ⟨o,h1,_⟩:=uY e
 unfold Fy.getL at e ⊢
 rw [h1] at e
 rw [k i o n h1]
 exact e
theorem Ok.keep {M:List Nat} (k:Ok G o) (q:Fq M G G') (n1:o.p∉M) (n2:o.d∉M) (n3:o.hd∉M) (n4:o.e∉M):Ok G' o :=
 ⟨⟨q _ _ n1 k.sl.ap,q _ _ n2 k.sl.ad⟩,k.iv,q _ _ n3 k.hh,k.H,k.ne,q _ _ n4 k.ge,k.le⟩
theorem Ok.app (k:Ok G o) (g:AH):Ok (G++g) o:=k.keep (Fq.app [] G g) (by simp) (by simp) (by simp) (by simp)
end
theorem qAu {f f':Nat→Nat} {a:Nat} (e:∀ x,x<a→f' x=f x):tk f' a=tk f a:=by
 unfold tk
 exact List.map_congr_left fun x hx=>e x (List.mem_range.mp hx)
theorem qGT {f f':Nat→Nat} {L:List Nat} (e:∀ x∈L,f' x=f x):hk f' L=hk f L:=by
 unfold hk
 exact List.map_congr_left fun x hx=>by rw [e x hx]
theorem Iv.congr {f f':Nat→Nat} {a:Nat} {sp:SP} {kvs:List (Ky × D)} {c:Nat} (iv:Iv f a a sp kvs c) (e:∀ x,pr a sp x=true→f' x=f x):Iv f' a a sp kvs c:=by
 refine ⟨iv.gd,iv.up,fun x=>?_,iv.ls,iv.lk⟩
 rw [iv.dc x]
 by_cases q:inS sp x=true
 ·have:=vV iv.gd q
  rw [if_pos q,if_pos q,e x.toNat (by unfold pr;rw [show ((x.toNat:Nat):Int)=x by omega,q,Bool.or_true])]
 ·rw [if_neg q,if_neg q]
section
variable {B n:Nat} {G:AH} {o:Ob}
theorem qE0 (s:Sl G o.p o.d (tk o.f o.a) o.sp o.kvs) (at':Int) (y:Tx) (hn:at'<0):qB fns B (n+2) oM [.ref o.p,.int at',.str y] G=.ok (.bl true) G:=by
 rw [rO]
 have e:qB fns B (n+1) 5 [.ref o.p,.int at',.str y] G=.exc wH G:=by
  have:=rP B n (.ref o.p) (.int at') (.str y) G
  rw [show qB fns B (n+1) 5 [.ref o.p,.int at',.str y] G=_ from this]
  simp! only [yL,decide_eq_true hn]
 have cx:([86240048210286]:List Nat).contains wH=true:=by decide
 simp! only [gZ,dP,s.ap,mD,e,cx,sJ,decide_eq_true hn]
theorem qEz (k:Ok G o) (hc:o.c≤100) (hB:100000≤B) (at' m:Nat) (y:Tx) (yl:y.length=m) (hm:m≤200) (ha:at'≤1050000000):∃ G' f' a' sp' kvs',qB fns B (n+5) oM [.ref o.p,.int at',.str y] G=.ok (.bl true) G' ∧
  Sl G' o.p o.d (tk f' a') sp' kvs'∧Iv f' a' a' sp' kvs' (o.c+1)∧G'[o.hd]?=some (.dct (hk f' o.L))∧(∀ x,pr a' sp' x=(pr o.a o.sp x || decide (at'≤x∧x<at'+m)))∧(∀ x,at'≤x→x<at'+m→x∉o.L→f' x=y.getD (x-at') 0)∧Fq [o.p,o.d,o.hd] G G':=by
 let f':Nat→Nat:=fun x=>if pr o.a o.sp x=true then o.f x else y.getD (x-at') 0
 have ef:∀ x,pr o.a o.sp x=true→f' x=o.f x:=fun x hx=>if_pos hx
 have e1:tk f' o.a=tk o.f o.a:=qAu fun x hx=>ef x (by unfold pr;rw [decide_eq_true hx];rfl)
 have e2:hk f' o.L=hk o.f o.L:=qGT fun x hx=>ef x ((k.H.me x).mp hx)
 have s:=k.sl
 rw [← e1] at s
 have lt:=k.iv.lk
 obtain ⟨G',a',sp',kvs',c1,s1,iv1,k1,p1⟩:=qE1 (B:=B) (n:=n) s (k.iv.congr ef) (by omega) (by omega) at' m y yl hm (by omega) fun x h1 h2 h3=>by
  show (if _ then _ else _)=_
  rw [if_neg (by rw [h3];decide)]
 have c1:qB fns B (n+4) 5 [.ref o.p,.int at',.str y] G=.ok .non G':=c1
 refine ⟨G',f',a',sp',kvs',?_,s1,iv1,?_,p1,fun x h1 h2 h3=>?_,k1.fq⟩
 ·rw [rO]
  have d0:decide ((0:Int)≤(at':Int))=true:=decide_eq_true (by omega)
  simp! only [gZ,dP,s.ap,mD,c1,d0]
 ·rw [e2]
  have np:o.hd≠o.p:=fun z=>by have:=k.hh;rw [z,k.sl.ap] at this;cases this
  exact k1 _ _ np k.ne.symm k.hh
 ·show (if _ then _ else _)=_
  rw [if_neg (fun z=>h3 ((k.H.me x).mpr z))]
end
section
variable {F:Nat→List D→M D} {B:Nat} {G:AH} {f:Nat→Nat} {L:List Nat} {hd T:Nat}
theorem qC9 {f:Nat→Nat} {L:List Nat} {x:Nat} (h:x∉L):zU (hk f L) (.int (x:Int)) (.str [f x])=hk f (L++[x]):=by
 unfold zU
 rw [yP,vW,if_neg h]
 unfold hk
 rw [List.map_append]
 rfl
theorem qGX (hh:G[hd]?=some (.dct (hk f L))) (w:Nat) (r0 r1:Nat) (hT:getL G T=some [.ref r0,.ref r1]) (hw:((ixN 2 (w:Int)).bind fun j=>[D.ref r0,.ref r1][j]?)=some (.ref hd)) (at' m:Nat) (y:Tx) (yl:y.length=m) (hm:m≤200) (hl:L.length≤100000) (nd:L.Nodup)
  (hf:∀ x,at'≤x→x<at'+m→x∉L→f x=y.getD (x-at') 0) (x0 x1 x3 x4 x5 x7 x8 x11 x12:Option D):∃ L' x11',zO (qP (TG.nm 11) (qA F B jN)) (qR 0 m) [x0,x1,some (.ref T),x3,x4,x5,some (.int w),x7,x8,some (.int at'),some (.str y),x11,x12] G =
   .nx [x0,x1,some (.ref T),x3,x4,x5,some (.int w),x7,x8,some (.int at'),some (.str y),x11',x12] (G.set hd (.dct (hk f L')))∧L'.Nodup∧(∀ x,x∈L'↔x∈L∨(at'≤x∧x<at'+m))∧L'.length≤L.length+m:=by
 have nT:T≠hd:=fun z=>by
  unfold getL at hT
  rw [z,hh] at hT
  cases hT
 have hl1:hd<G.length:=(List.getElem?_eq_some_iff.mp hh).1
 obtain ⟨σ',h',e,L',l,e1,e2,e3,e4,e5⟩:=kO (fun k σ g=>∃ (L':List Nat) (l:Option D),σ=[x0,x1,some (.ref T),x3,x4,x5,some (.int w),x7,x8,some (.int at'),some (.str y),l,x12]∧g=G.set hd (.dct (hk f L'))∧L'.Nodup∧(∀ x,x∈L'↔x∈L∨(at'≤x∧x<at'+k))∧L'.length≤L.length+k)
  (qP (TG.nm 11) (qA F B jN)) (qR 0 m) 0 [x0,x1,some (.ref T),x3,x4,x5,some (.int w),x7,x8,some (.int at'),some (.str y),x11,x12] G
  ⟨L,x11,rfl,(uA hh).symm,nd,fun x=>⟨.inl,fun z=>z.elim id (fun z=>by omega)⟩,Nat.le_refl _⟩
  (fun k x σ g hk' ⟨L',l,e1,e2,e3,e4,e5⟩=>by
   obtain ⟨hkn,rfl⟩:=vB hk'
   subst e1
   subst e2
   rw [Nat.zero_add] at e4 e5 ⊢
   have g1:(G.set hd (.dct (hk f L')))[hd]?=some (.dct (hk f L')):=List.getElem?_set_self hl1
   have g2:getL (G.set hd (.dct (hk f L'))) T=some [.ref r0,.ref r1]:=by
    unfold getL at hT ⊢
    rw [List.getElem?_set_ne nT.symm]
    exact hT
   have g3:getL (G.set hd (.dct (hk f L'))) hd=none:=by unfold getL;rw [g1]
   have i0:(at':Int)+(0+(k:Int))=((at'+k:Nat):Int):=by omega
   have d0:decide ((0:Int)≤(at':Int))=true:=decide_eq_true (by omega)
   have hn:kA hd (.int ((at'+k:Nat):Int)) (G.set hd (.dct (hk f L')))=.ok (.bl (decide (at'+k∉L'))) (G.set hd (.dct (hk f L'))):=by
    unfold kA
    rw [g1]
    simp only [vW]
    by_cases q:at'+k∈L'
    ·rw [if_pos q,decide_eq_false (not_not_intro q)];rfl
    ·rw [if_neg q,decide_eq_true q];rfl
   by_cases q:at'+k∈L'
   ·refine ⟨_,_,?_,L',some (.int (0+(k:Int))),rfl,rfl,e3,fun x=>?_,by omega⟩
    ·rw [jV]
     simp! only [jN,d0,i0,g2,Option.bind_some,hw,g3,Option.bind_none,hn,decide_eq_false (not_not_intro q)]
    ·rw [e4]
     constructor
     ·rintro (z | z)
      ·exact .inl z
      ·exact .inr (by omega)
     ·rintro (z | z)
      ·exact .inl z
      ·by_cases c:x=at'+k
       ·rw [c];exact (e4 _).mp q
       ·exact .inr (by omega)
   ·have q2:at'+k∉L:=fun z=>q ((e4 _).mpr (.inl z))
    have fx:=hf (at'+k) (by omega) (by omega) q2
    rw [Nat.add_sub_cancel_left] at fx
    have ix:((ixN m (0+(k:Int))).bind fun j=>y[j]?)=some (f (at'+k)):=by
     rw [Int.zero_add,← yl,fx]
     exact eY (oQ (by omega))
    have pk:kI (.str [f (at'+k)]) hd (.int ((at'+k:Nat):Int)) (G.set hd (.dct (hk f L')))=.ok () (G.set hd (.dct (hk f (L'++[at'+k])))):=by
     unfold kI
     rw [g1]
     simp only [qGS,if_pos (show L'.length<16777216 by omega),qC9 q,List.set_set]
    refine ⟨_,_,?_,L'++[at'+k],some (.int (0+(k:Int))),rfl,rfl,?_,fun x=>?_,by rw [List.length_append];show L'.length+1≤_;omega⟩
    ·rw [jV]
     simp! only [jN,d0,i0,g2,Option.bind_some,hw,g3,Option.bind_none,hn,decide_eq_true q,sP,yl,if_pos (show m≤16777216 by omega),ix,g1,pk]
    ·exact List.nodup_append.mpr ⟨e3,List.pairwise_singleton _ _,fun u hu v hv z=>by rw [List.mem_singleton] at hv;exact q (by rw [← hv,← z];exact hu)⟩
    ·rw [List.mem_append,List.mem_singleton,e4]
     constructor
     ·rintro ((z | z) | z)
      ·exact .inl z
      ·exact .inr (by omega)
      ·exact .inr (by omega)
     ·rintro (z | z)
      ·exact .inl (.inl z)
      ·by_cases c:x=at'+k
       ·exact .inr c
       ·exact .inl (.inr (by omega)))
 rw [kH,Nat.zero_add] at e4 e5
 subst e1
 subst e2
 exact ⟨L',l,e,e3,e4,e5⟩
theorem qGW (at':Int) (hn:at'<0) (m:Nat) (x0 x1 x2 x3 x4 x5 x6 x7 x8 x10 x11 x12:Option D):∃ x11',zO (qP (TG.nm 11) (qA F B jN)) (qR 0 m) [x0,x1,x2,x3,x4,x5,x6,x7,x8,some (.int at'),x10,x11,x12] G =
      .nx [x0,x1,x2,x3,x4,x5,x6,x7,x8,some (.int at'),x10,x11',x12] G:=by
  obtain ⟨σ',h',e,l,e1,e2⟩:=kO (fun k σ g=>∃ (l:Option D),σ=[x0,x1,x2,x3,x4,x5,x6,x7,x8,some (.int at'),x10,l,x12]∧g=G)
    (qP (TG.nm 11) (qA F B jN)) (qR 0 m) 0 [x0,x1,x2,x3,x4,x5,x6,x7,x8,some (.int at'),x10,x11,x12] G ⟨x11,rfl,rfl⟩
    (fun k x σ g hk' ⟨l,e1,e2⟩=>by
      obtain ⟨hkn,rfl⟩:=vB hk'
      subst e1
      subst e2
      refine ⟨_,_,?_,some (.int (0+(k:Int))),rfl,rfl⟩
      rw [jV]
      simp! only [jN,decide_eq_false (show ¬ (0:Int)≤at' by omega)])
  subst e1
  subst e2
  exact ⟨l,e⟩
end
theorem qB8 {xs:List Int} (h:xs.length=7):∃ a b c d e f g,xs=[a,b,c,d,e,f,g]:=by
 match xs,h with
 | [a,b,c,d,e,f,g],_=>exact ⟨a,b,c,d,e,f,g,rfl⟩
theorem md (x:Int) (k:Nat) (hk:0<k):∃ A:Nat,x % (k:Int)=(A:Int)∧A<k:=by
 have h1:=Int.emod_nonneg x (show (k:Int)≠0 by omega)
 have h2:=Int.emod_lt_of_pos x (show (0:Int)<(k:Int) by omega)
 exact ⟨(x % (k:Int)).toNat,by omega,by omega⟩
noncomputable def q5:CS:=(.set (.nm 5) (.call 8 (.cons (.bi .add (.bi .ix (.var 0) (.var 4)) (.bi .mul (.lit (.int 17)) (.var 4))) (.cons (.lit (.int 7)) .nil))))
noncomputable def q6:CS:=(.set (.nm 6) (.bi .mod (.bi .ix (.var 5) (.lit (.int 0))) (.lit (.int 2))))
noncomputable def q7:CS:=(.set (.nm 7) (.bi .ix (.lst (.cons (.bi .mod (.bi .ix (.var 5) (.lit (.int 1))) (.lit (.int 9))) (.cons (.lit (.int 40)) (.cons (.lit (.int 200)) .nil)))) (.bi .add (.un .int (.bi .eq (.bi .mod (.bi .ix (.var 5) (.lit (.int 2))) (.lit (.int 8))) (.lit (.int 0)))) (.un .int (.bi .eq (.bi .mod (.bi .ix (.var 5) (.lit (.int 2))) (.lit (.int 64))) (.lit (.int 0)))))))
noncomputable def q8:CS:=(.set (.nm 8) (.bi .sub (.bi .add (.un .len (.call 12 (.cons (.bi .ix (.var 2) (.var 6)) .nil))) (.bi .mod (.bi .ix (.var 5) (.lit (.int 3))) (.lit (.int 9)))) (.lit (.int 3))))
noncomputable def q9:CS:=(.set (.nm 9) (.bi .ix (.lst (.cons (.var 8) (.cons (.bi .mod (.bi .ix (.var 5) (.lit (.int 3))) (.lit (.int 300))) (.cons (.bi .add (.var 8) (.bi .mod (.bi .ix (.var 5) (.lit (.int 3))) (.lit (.int 3000)))) (.cons (.bi .mod (.bi .ix (.var 5) (.lit (.int 3))) (.bi .pow (.lit (.int 10)) (.lit (.int 9)))) .nil))))) (.bi .ix (.lst (.cons (.lit (.int 0)) (.cons (.lit (.int 0)) (.cons (.lit (.int 1)) (.cons (.lit (.int 1)) (.cons (.lit (.int 2)) (.cons (.lit (.int 3)) .nil))))))) (.bi .mod (.bi .ix (.var 5) (.lit (.int 4))) (.lit (.int 6))))))
noncomputable def q10:CS:=(.ite (.val (.bi .eq (.bi .mod (.bi .ix (.var 5) (.lit (.int 4))) (.lit (.int 16))) (.lit (.int 1)))) dX .skip)
theorem qJK:vJ=.seq q5 (.seq q6 (.seq q7 (.seq q8 (.seq q9 (.seq q10 aC))))):=rfl
section
variable {B n:Nat} {G:AH}
theorem qBV {ns:List Int} (gs:getL G 0=some (ns.map .int)) (k:Nat) (hk:k<ns.length) (hk2:k≤100) (x1 x2 x3 x5 x6 x7 x8 x9 x10 x11 x12:Option D):∃ g X v0 v1 v2 v3 v4 v5 v6 w m,w<2∧m≤200∧getL (G++g) X=some [.int v0,.int v1,.int v2,.int v3,.int v4,.int v5,.int v6] ∧
  (∀ r:CS,qA (qB fns B (n+1)) B (.seq q5 (.seq q6 (.seq q7 r))) [some (.ref 0),x1,x2,x3,some (.int (k:Nat)),x5,x6,x7,x8,x9,x10,x11,x12] G=qA (qB fns B (n+1)) B r [some (.ref 0),x1,x2,x3,some (.int (k:Nat)),some (.ref X),some (.int (w:Nat)),some (.int (m:Nat)),x8,x9,x10,x11,x12] (G++g)):=by
 have ge:ns[k]?=some ns[k]:=List.getElem?_eq_getElem hk
 have ix:=qFd ge
 rw [List.length_map] at ix
 have hmul:kM 17 (k:Int):=mF (by omega)
 obtain ⟨g,xs,e1,e2,e3,e4⟩:=qEw B n G (ns[k]+17*(k:Int)) 7 (by omega)
 have e1:qB fns B (n+1) 8 [.int (ns[k]+17*(k:Int)),.int 7] G=.ok (.ref (G.length+1)) (G++g):=e1
 obtain ⟨v0,v1,v2,v3,v4,v5,v6,rfl⟩:=qB8 e3
 have gx:getL (G++g) (G.length+1)=some [.int v0,.int v1,.int v2,.int v3,.int v4,.int v5,.int v6]:=e2
 have y0:((ixN 7 0).bind fun j=>[D.int v0,.int v1,.int v2,.int v3,.int v4,.int v5,.int v6][j]?)=some (.int v0):=rfl
 have y1:((ixN 7 1).bind fun j=>[D.int v0,.int v1,.int v2,.int v3,.int v4,.int v5,.int v6][j]?)=some (.int v1):=rfl
 have y2:((ixN 7 2).bind fun j=>[D.int v0,.int v1,.int v2,.int v3,.int v4,.int v5,.int v6][j]?)=some (.int v2):=rfl
 obtain ⟨w,hw,hw2⟩:=md v0 2 (by omega)
 have hw:v0 % 2=(w:Int):=hw
 obtain ⟨m,hm,hm2⟩:∃ m:Nat,((ixN 3 ((if (v2 % 8 == 0)=true then 1 else 0)+(if (v2 % 64 == 0)=true then 1 else 0))).bind fun j=>[D.int (v1 % 9),.int 40,.int 200][j]?)=some (.int (m:Int))∧m≤200:=by
  obtain ⟨z,hz,hz2⟩:=md v1 9 (by omega)
  have hz:v1 % 9=(z:Int):=hz
  rw [hz]
  cases v2 % 8 == 0 <;> cases v2 % 64 == 0
  ·exact ⟨z,rfl,by omega⟩
  ·exact ⟨40,rfl,by omega⟩
  ·exact ⟨40,rfl,by omega⟩
  ·exact ⟨200,rfl,by omega⟩
 have e5:getL (G++g++[O.lst [D.int (v1 % 9),.int 40,.int 200]]) (G.length+1)=some [.int v0,.int v1,.int v2,.int v3,.int v4,.int v5,.int v6]:=zW _ gx
 refine ⟨g++[O.lst [D.int (v1 % 9),.int 40,.int 200]],G.length+1,v0,v1,v2,v3,v4,v5,v6,w,m,hw2,hm2,by rw [← List.append_assoc];exact e5,fun r=>?_⟩
 rw [← List.append_assoc]
 generalize hG:G++g=G1 at *
 have gy:getL (G1++[O.lst [D.int (v1 % 9),.int 40,.int 200]]) G1.length=some [D.int (v1 % 9),.int 40,.int 200]:=by rw [jG];rfl
 simp! only [q5,q6,q7,gs,Option.bind_some,List.length_map,ix,if_pos hmul,e1,gx,y0,y1,y2,hw,show (0:Int)<2 by omega,show (0:Int)<9 by omega,show (0:Int)<8 by omega,show (0:Int)<64 by omega,if_pos (show 3≤16777216 by omega),gy,e5,hm]
theorem t89 {X T hd r0 r1 w:Nat} {v0 v1 v2 v3 v4 v5 v6:Int} (gx:getL G X=some [.int v0,.int v1,.int v2,.int v3,.int v4,.int v5,.int v6]) (hT:getL G T=some [.ref r0,.ref r1]) (hw:((ixN 2 (w:Int)).bind fun j=>[D.ref r0,.ref r1][j]?)=some (.ref hd))
  {f:Nat→Nat} {a:Nat} {sp:SP} {L:List Nat} {c:Nat} (hh:G[hd]?=some (.dct (hk f L))) (H:Hd a sp L c) (g:GoodR a sp) (ha:a≤100000) (hB:a<B) (x0 x1 x3 x4 x7 x8 x9 x10 x11 x12:Option D):∃ g x8' at',at'≤1050000000 ∧
  (∀ r:CS,qA (qB fns B (n+1)) B (.seq q8 (.seq q9 (.seq q10 r))) [x0,x1,some (.ref T),x3,x4,some (.ref X),some (.int (w:Nat)),x7,x8,x9,x10,x11,x12] G=qA (qB fns B (n+1)) B r [x0,x1,some (.ref T),x3,x4,some (.ref X),some (.int (w:Nat)),x7,x8',some (.int at'),x10,x11,x12] (G++g)):=by
 have c1:qB fns B (n+1) 12 [.ref hd] G=.ok (.str (tk f a)) (G++[.lst ((List.range a).map fun j=>.str [f j])]):=mR hh H g ha hB
 generalize [O.lst ((List.range a).map fun j=>D.str [f j])]=g1 at c1
 have y3:((ixN 7 3).bind fun j=>[D.int v0,.int v1,.int v2,.int v3,.int v4,.int v5,.int v6][j]?)=some (.int v3):=rfl
 have y4:((ixN 7 4).bind fun j=>[D.int v0,.int v1,.int v2,.int v3,.int v4,.int v5,.int v6][j]?)=some (.int v4):=rfl
 have gx1:=zW g1 gx
 have tl:=wK f a
 have tl2:a≤16777216:=by omega
 obtain ⟨u,hu,hu2⟩:=md v3 9 (by omega)
 have hu:v3 % 9=(u:Int):=hu
 obtain ⟨u3,hu3,hu32⟩:=md v3 300 (by omega)
 have hu3:v3 % 300=(u3:Int):=hu3
 obtain ⟨u4,hu4,hu42⟩:=md v3 3000 (by omega)
 have hu4:v3 % 3000=(u4:Int):=hu4
 obtain ⟨u5,hu5,hu52⟩:=md v3 1000000000 (by omega)
 have hu5:v3 % 1000000000=(u5:Int):=hu5
 have pw:∀ h:AH,biD .pow (.int 10) (.int 9) h=.ok (.int 1000000000) h:=fun h=>rfl
 obtain ⟨i,hi,hi2⟩:∃ i:Nat,((ixN 6 (v4 % 6)).bind fun j=>[D.int 0,.int 0,.int 1,.int 1,.int 2,.int 3][j]?)=some (.int (i:Int))∧i<4:=by
  obtain ⟨z,hz,hz2⟩:=md v4 6 (by omega)
  have hz:v4 % 6=(z:Int):=hz
  rw [hz]
  have:z=0∨z=1∨z=2∨z=3∨z=4∨z=5:=by omega
  rcases this with rfl | rfl | rfl | rfl | rfl | rfl
  ·exact ⟨0,rfl,by omega⟩
  ·exact ⟨0,rfl,by omega⟩
  ·exact ⟨1,rfl,by omega⟩
  ·exact ⟨1,rfl,by omega⟩
  ·exact ⟨2,rfl,by omega⟩
  ·exact ⟨3,rfl,by omega⟩
 obtain ⟨v,hv,hv2⟩:∃ v:Int,((ixN 4 (i:Int)).bind fun j=>[D.int ((a:Int)+u-3),.int u3,.int ((a:Int)+u-3+u4),.int u5][j]?)=some (.int v)∧v≤1050000000:=by
  have:i=0∨i=1∨i=2∨i=3:=by omega
  rcases this with rfl | rfl | rfl | rfl
  ·exact ⟨_,rfl,by omega⟩
  ·exact ⟨_,rfl,by omega⟩
  ·exact ⟨_,rfl,by omega⟩
  ·exact ⟨_,rfl,by omega⟩
 have gx2:∀ o:O,getL (G++g1++[o]) X=some [.int v0,.int v1,.int v2,.int v3,.int v4,.int v5,.int v6]:=fun o=>zW _ gx1
 have gx3:∀ o o':O,getL (G++g1++[o,o']) X=some [.int v0,.int v1,.int v2,.int v3,.int v4,.int v5,.int v6]:=fun o o'=>zW _ gx1
 refine ⟨g1++[.lst [D.int ((a:Int)+u-3),.int u3,.int ((a:Int)+u-3+u4),.int u5],.lst [.int 0,.int 0,.int 1,.int 1,.int 2,.int 3]],some (.int ((a:Int)+u-3)),if v4 % 16 == 1 then -1-v3 % 40 else v,?_,fun r=>?_⟩
 ·obtain ⟨z,hz,hz2⟩:=md v3 40 (by omega)
  have hz:v3 % 40=(z:Int):=hz
  split <;> omega
 rw [← List.append_assoc]
 generalize hG:G++g1=G1 at *
 have ap:∀ o o':O,G1++[o]++[o']=G1++[o,o']:=fun o o'=>by simp
 have l1:∀ o:O,(G1++[o]).length=G1.length+1:=fun o=>by simp
 have gA:∀ (xs:List D) (o:O),getL (G1++[.lst xs,o]) G1.length=some xs:=fun xs o=>by rw [jG];rfl
 have gB:∀ (xs:List D) (o:O),getL (G1++[o,.lst xs]) (G1.length+1)=some xs:=fun xs o=>by rw [uZ];rfl
 rcases Bool.eq_false_or_eq_true (v4 % 16 == 1) with q | q
 ·simp! only [q8,q9,q10,hT,Option.bind_some,hw,c1,tl,if_pos tl2,gx1,y3,hu,show (0:Int)<9 by omega,hu3,show (0:Int)<300 by omega,hu4,show (0:Int)<3000 by omega,pw,hu5,show (0:Int)<1000000000 by omega,if_pos (show 4≤16777216 by omega),if_pos (show 6≤16777216 by omega),ap,l1,gx3,y4,show (0:Int)<6 by omega,gB,hi,gA,hv,show (0:Int)<16 by omega,q,dX,show (0:Int)<40 by omega]
 ·simp! only [q8,q9,q10,hT,Option.bind_some,hw,c1,tl,if_pos tl2,gx1,y3,hu,show (0:Int)<9 by omega,hu3,show (0:Int)<300 by omega,hu4,show (0:Int)<3000 by omega,pw,hu5,show (0:Int)<1000000000 by omega,if_pos (show 4≤16777216 by omega),if_pos (show 6≤16777216 by omega),ap,l1,gx3,y4,show (0:Int)<6 by omega,gB,hi,gA,hv,show (0:Int)<16 by omega,q]
end
theorem Iv.up1 {f:Nat→Nat} {a:Nat} {lo:Int} {sp:SP} {kvs:List (Ky × D)} {c:Nat} (iv:Iv f a lo sp kvs c):Iv f a lo sp kvs (c+1):=⟨iv.gd,iv.up,iv.dc,by have:=iv.ls;omega,by have:=iv.lk;omega⟩
theorem Hd.up1 {a:Nat} {sp:SP} {L:List Nat} {c:Nat} (h:Hd a sp L c):Hd a sp L (c+1):=⟨h.nd,h.me,by have:=h.ln;omega⟩
section
variable {B n:Nat} {G:AH} {o:Ob}
theorem qA6 (k:Ok G o) (hc:o.c≤90) (hB:100000≤B) {T r0 r1 w:Nat} (hT:getL G T=some [.ref r0,.ref r1]) (hw:((ixN 2 (w:Int)).bind fun j=>[D.ref r0,.ref r1][j]?)=some (.ref o.hd)) (at':Int) (ha:at'≤1050000000) (m:Nat) (y:Tx) (yl:y.length=m) (hm:m≤200) (x0 x1 x3 x4 x5 x7 x8 x11 x12:Option D) :
  ∃ G1 G' o' x11',qB fns B (n+5) 15 [.ref o.p,.int at',.str y] G=.ok (.bl true) G1 ∧
   zO (qP (TG.nm 11) (qA (qB fns B (n+5)) B jN)) (qR 0 m) [x0,x1,some (.ref T),x3,x4,x5,some (.int w),x7,x8,some (.int at'),some (.str y),x11,x12] G1 =
    .nx [x0,x1,some (.ref T),x3,x4,x5,some (.int w),x7,x8,some (.int at'),some (.str y),x11',x12] G' ∧
   o'.p=o.p∧o'.d=o.d∧o'.hd=o.hd∧o'.e=o.e∧o'.es=o.es∧o'.c=o.c+1∧Ok G' o'∧Fq [o.p,o.d,o.hd] G G':=by
 by_cases q:at'<0
 ·obtain ⟨x11',L⟩:=qGW (F:=qB fns B (n+5)) (B:=B) (G:=G) at' q m x0 x1 (some (.ref T)) x3 x4 x5 (some (.int w)) x7 x8 (some (.str y)) x11 x12
  exact ⟨G,G,{ o with c:=o.c+1 },x11',qE0 (n:=n+3) k.sl at' y q,L,rfl,rfl,rfl,rfl,rfl,rfl,⟨k.sl,k.iv.up1,k.hh,k.H.up1,k.ne,k.ge,k.le⟩,fun _ _ _ e=>e⟩
 ·obtain ⟨A,rfl⟩:∃ A:Nat,at'=A:=⟨at'.toNat,by omega⟩
  obtain ⟨G1,f',a',sp',kvs',c1,s1,iv1,h1,p1,fx,q1⟩:=qEz (n:=n) k (by omega) hB A m y yl hm (by omega)
  obtain ⟨ob,hob,lob⟩:=uY hT
  have hT1:=q1.getL (k.no hob lob) hT
  have ln:=k.H.ln
  obtain ⟨L',x11',L,nd,me,ll⟩:=qGX (F:=qB fns B (n+5)) (B:=B) h1 w r0 r1 hT1 hw A m y yl hm (by omega) k.H.nd fx x0 x1 x3 x4 x5 x7 x8 x11 x12
  have lt:o.hd<G1.length:=(List.getElem?_eq_some_iff.mp h1).1
  have np:o.hd≠o.p:=fun z=>by rw [z,s1.ap] at h1;cases h1
  have ge:G1[o.e]?=some (.lst (o.es.map .int)):=q1 _ _ (k.no k.ge rfl) k.ge
  refine ⟨G1,_,⟨o.p,o.d,o.hd,f',a',sp',kvs',L',o.c+1,o.e,o.es⟩,x11',c1,L,rfl,rfl,rfl,rfl,rfl,rfl,⟨⟨?_,?_⟩,iv1,?_,⟨nd,fun x=>?_,?_⟩,k.ne,?_,k.le⟩,q1.trans (Fq.set (by simp) _ _)⟩
  ·show (G1.set o.hd _)[o.p]?=_
   rw [List.getElem?_set_ne np];exact s1.ap
  ·show (G1.set o.hd _)[o.d]?=_
   rw [List.getElem?_set_ne k.ne.symm];exact s1.ad
  ·exact List.getElem?_set_self lt
  ·show x∈L'↔pr a' sp' x=true
   rw [me,p1,Bool.or_eq_true,decide_eq_true_eq,k.H.me]
  ·show L'.length≤201*(o.c+1)
   omega
  ·show (G1.set o.hd _)[o.e]?=_
   rw [List.getElem?_set_ne (fun z=>by rw [z,ge] at h1;cases h1)];exact ge
end
noncomputable def q12:CS:=(.set (.nm 12) (.bi .add (.lst (.cons (.un .neg (.lit (.int 1))) (.cons (.lit (.int 0)) (.cons (.bi .sub (.var 9) (.lit (.int 1))) (.cons (.var 9) (.cons (.bi .add (.var 9) (.bi .fdiv (.var 7) (.lit (.int 2)))) (.cons (.bi .add (.var 9) (.var 7)) (.cons (.bi .mod (.bi .ix (.var 5) (.lit (.int 6))) (.lit (.int 300))) .nil)))))))) (.bi .ix (.var 3) (.var 6))))
noncomputable def q13:CS:=(.setIx (.var 3) (.var 6) (.bi .add (.sl (.bi .ix (.var 3) (.var 6)) (.at (.un .neg (.lit (.int 12)))) .no) (.lst (.cons (.bi .max2 (.lit (.int 0)) (.var 9)) (.cons (.bi .max2 (.lit (.int 0)) (.bi .sub (.bi .add (.var 9) (.var 7)) (.lit (.int 1)))) (.cons (.bi .max2 (.lit (.int 0)) (.bi .add (.var 9) (.var 7))) .nil))))))
noncomputable def q14:CS:=(.ite (.not (.val (.call 14 (.cons (.bi .ix (.var 1) (.var 6)) (.cons (.bi .ix (.var 2) (.var 6)) (.cons (.var 12) .nil)))))) (.ret (.lit (.bl false))) .skip)
theorem qJM:dW=.seq q12 (.seq q13 q14):=rfl
theorem qIG (es:List Int):qS (es.map D.int) (some (-12)) none=(es.drop (es.length-12)).map .int:=by
 unfold qS qO
 simp only [List.length_map,if_pos (show (-12:Int)<0 by omega)]
 rw [show ((-12:Int)+(es.length:Int)).toNat=es.length-12 by omega,List.take_of_length_le (by rw [List.length_drop,List.length_map];exact Nat.le_refl _),List.map_drop]
section
variable {B n:Nat} {G:AH} {F:Nat→List D→M D}
theorem qBW {X E e z0 z1 w:Nat} {es:List Int} {v0 v1 v2 v3 v4 v5 v6:Int} (gx:getL G X=some [.int v0,.int v1,.int v2,.int v3,.int v4,.int v5,.int v6]) (gE:G[E]?=some (.lst [.ref z0,.ref z1])) (hw2:w<2) (hw:((ixN 2 (w:Int)).bind fun j=>[D.ref z0,.ref z1][j]?)=some (.ref e)) (ge:G[e]?=some (.lst (es.map .int))) (le:es.length≤15)
  (at':Int) (m:Nat) (x0 x1 x2 x4 x8 x10 x11 x12:Option D):∃ (G':AH) (ps es':List Int) (e':Nat),ps.length≤100∧es'.length≤15∧G.length≤e'∧getL G' (G.length+1)=some (ps.map .int)∧G'[E]?=some (.lst ([D.ref z0,.ref z1].set w (.ref e')))∧G'[e']?=some (.lst (es'.map .int))∧Fq [E] G G' ∧
   (∀ r:CS,qA F B (.seq q12 (.seq q13 r)) [x0,x1,x2,some (.ref E),x4,some (.ref X),some (.int (w:Nat)),some (.int (m:Nat)),x8,some (.int at'),x10,x11,x12] G=qA F B r [x0,x1,x2,some (.ref E),x4,some (.ref X),some (.int (w:Nat)),some (.int (m:Nat)),x8,some (.int at'),x10,x11,some (.ref (G.length+1))] G'):=by
 have y6:((ixN 7 6).bind fun j=>[D.int v0,.int v1,.int v2,.int v3,.int v4,.int v5,.int v6][j]?)=some (.int v6):=rfl
 have gE':getL G E=some [.ref z0,.ref z1]:=by unfold getL;rw [gE]
 have iw:ixN 2 (w:Int)=some w:=vR (by omega)
 rw [iw,Option.bind_some] at hw
 have lE:E<G.length:=(List.getElem?_eq_some_iff.mp gE).1
 have le':e<G.length:=(List.getElem?_eq_some_iff.mp ge).1
 let sv:List Int:=[-1,0,at'-1,at',at'+(m:Int) / 2,at'+m,v6 % 300]
 let s3:List Int:=[if at' > 0 then at' else 0,if at'+m-1 > 0 then at'+m-1 else 0,if at'+m > 0 then at'+m else 0]
 let es':List Int:=es.drop (es.length-12)++s3
 have hes:es'.length≤15:=by
  show (es.drop (es.length-12)++s3).length≤15
  rw [List.length_append,List.length_drop]
  show _+3≤15
  omega
 let g:AH:=[.lst (sv.map .int),.lst ((sv++es).map .int),.lst ((es.drop (es.length-12)).map .int),.lst (s3.map .int),.lst (es'.map .int)]
 have gEa:∀ g:AH,(G++g)[E]?=some (.lst [.ref z0,.ref z1]):=fun g=>jA g gE
 have gEl:∀ g:AH,getL (G++g) E=some [.ref z0,.ref z1]:=fun g=>zW g gE'
 have gea:∀ g:AH,(G++g)[e]?=some (.lst (es.map .int)):=fun g=>jA g ge
 have gel:∀ g:AH,getL (G++g) e=some (es.map .int):=fun g=>by unfold getL;rw [gea]
 have gxa:∀ g:AH,getL (G++g) X=_:=fun g=>zW g gx
 refine ⟨(G++g).set E (.lst ([D.ref z0,.ref z1].set w (.ref (G.length+4)))),sv++es,es',G.length+4,?_,hes,by omega,?_,?_,?_,?_,fun r=>?_⟩
 ·rw [List.length_append];show 7+_≤100;omega
 ·unfold getL
  rw [List.getElem?_set_ne (by omega),vY];rfl
 ·exact List.getElem?_set_self (by rw [List.length_append];omega)
 ·rw [List.getElem?_set_ne (by omega),vY];rfl
 ·exact (Fq.app _ _ _).trans (Fq.set (by simp) _ _)
 ·have l2:(sv.map D.int++es.map D.int).length≤16777216:=by rw [List.length_append,List.length_map,List.length_map];show 7+_≤_;omega
  have l3:((es.drop (es.length-12)).map D.int).length≤16777216:=by rw [List.length_map,List.length_drop];omega
  have l4:((es.drop (es.length-12)).map D.int++s3.map D.int).length≤16777216:=by rw [List.length_append,List.length_map,List.length_map,List.length_drop];show _+3≤_;omega
  have g0:∀ o:O,(G++[o])[G.length]?=some o:=fun o=>by rw [vX];rfl
  have g2:∀ a b c d:O,(G++[a,b,c,d])[G.length+2]?=some c:=fun a b c d=>by rw [vY];rfl
  have g3:∀ a b c d:O,(G++[a,b,c,d])[G.length+3]?=some d:=fun a b c d=>by rw [vY];rfl
  have ap1:∀ a b:O,G++[a]++[b]=G++[a,b]:=fun a b=>by simp
  have ap2:∀ a b c:O,G++[a,b]++[c]=G++[a,b,c]:=fun a b c=>by simp
  have ap3:∀ a b c d:O,G++[a,b,c]++[d]=G++[a,b,c,d]:=fun a b c d=>by simp
  have ap4:∀ a b c d f:O,G++[a,b,c,d]++[f]=G++[a,b,c,d,f]:=fun a b c d f=>by simp
  have n1:∀ a:O,(G++[a]).length=G.length+1:=fun a=>by simp
  have n2:∀ a b:O,(G++[a,b]).length=G.length+2:=fun a b=>by simp
  have n3:∀ a b c:O,(G++[a,b,c]).length=G.length+3:=fun a b c=>by simp
  have n4:∀ a b c d:O,(G++[a,b,c,d]).length=G.length+4:=fun a b c d=>by simp
  have l5:(es.map D.int).length≤16777209:=by rw [List.length_map];omega
  have l6:((es.drop (es.length-12)).map D.int).length≤16777213:=by rw [List.length_map,List.length_drop];omega
  have c12:=qIG es
  show _=qA F B r _ ((G++g).set E _)
  have hg:g=[.lst [D.int (-1),.int 0,.int (at'-1),.int at',.int (at'+(m:Int) / 2),.int (at'+m),.int (v6 % 300)],.lst ([D.int (-1),.int 0,.int (at'-1),.int at',.int (at'+(m:Int) / 2),.int (at'+m),.int (v6 % 300)]++es.map .int),.lst ((es.drop (es.length-12)).map .int),.lst [D.int (if at' > 0 then at' else 0),.int (if at'+m-1 > 0 then at'+m-1 else 0),.int (if at'+m > 0 then at'+m else 0)],.lst ((es.drop (es.length-12)).map .int++[D.int (if at' > 0 then at' else 0),.int (if at'+m-1 > 0 then at'+m-1 else 0),.int (if at'+m > 0 then at'+m else 0)])]:=by
   show [O.lst _,O.lst ((sv++es).map D.int),O.lst _,O.lst _,O.lst ((es.drop (es.length-12)++s3).map D.int)]=_
   rw [List.map_append,List.map_append]
   rfl
  have l2:([D.int (-1),.int 0,.int (at'-1),.int at',.int (at'+(m:Int) / 2),.int (at'+m),.int (v6 % 300)]++es.map D.int).length≤16777216:=l2
  have l4:((es.drop (es.length-12)).map D.int++[D.int (if at' > 0 then at' else 0),.int (if at'+m-1 > 0 then at'+m-1 else 0),.int (if at'+m > 0 then at'+m else 0)]).length≤16777216:=l4
  rw [hg]
  simp! only [q12,q13,gx,gxa,y6,show (0:Int)<2 by omega,show (2:Int)<1073741824 by omega,show (0:Int)<300 by omega,if_pos (show 7≤16777216 by omega),gE',gEl,Option.bind_some,hw,g0,gea,gel,if_pos l2,ap1,n1,ap2,n2,ap3,n3,ap4,n4,c12,if_pos l3,if_pos (show 3≤16777216 by omega),g2,g3,if_pos l4,gEa,iw,if_pos l5,if_pos l6]
end
noncomputable def q16:CS:=(.set (.nm 10) (.call 11 (.cons (.bi .ix (.var 5) (.lit (.int 5))) (.cons (.var 7) .nil))))
noncomputable def q17:CS:=(.ite (.not (.val (.call 15 (.cons (.bi .ix (.var 1) (.var 6)) (.cons (.var 9) (.cons (.var 10) .nil)))))) (.ret (.lit (.bl false))) .skip)
theorem qJL:aC=.seq q16 (.seq q17 dU):=rfl
section
variable {B n:Nat} {G:AH} {o:Ob}
theorem Fq.mono {M N:List Nat} {a b:AH} (x:Fq M a b) (h:∀ i∈M,i∈N):Fq N a b:=fun i o n e=>x i o (fun z=>n (h i z)) e
theorem fE (k:Ok G o) (hc:o.c≤90) (hB:100000≤B) {X S T E p0 p1 r0 r1 z0 z1 w:Nat} {v0 v1 v2 v3 v4 v5 v6:Int} (gx:getL G X=some [.int v0,.int v1,.int v2,.int v3,.int v4,.int v5,.int v6]) (hw2:w<2)
  (hS:getL G S=some [.ref p0,.ref p1]) (wS:((ixN 2 (w:Int)).bind fun j=>[D.ref p0,.ref p1][j]?)=some (.ref o.p))
  (hT:getL G T=some [.ref r0,.ref r1]) (wT:((ixN 2 (w:Int)).bind fun j=>[D.ref r0,.ref r1][j]?)=some (.ref o.hd))
  (hE:G[E]?=some (.lst [.ref z0,.ref z1])) (wE:((ixN 2 (w:Int)).bind fun j=>[D.ref z0,.ref z1][j]?)=some (.ref o.e)) (nE:E≠o.e) (nS:E≠S) (nT:E≠T)
  (at':Int) (ha:at'≤1050000000) (m:Nat) (hm:m≤200) (x0 x4 x8 x10 x11 x12:Option D) :
  ∃ G' o' x10' x11' x12',qA (qB fns B (n+5)) B aC [x0,some (.ref S),some (.ref T),some (.ref E),x4,some (.ref X),some (.int (w:Nat)),some (.int (m:Nat)),x8,some (.int at'),x10,x11,x12] G =
    .nx [x0,some (.ref S),some (.ref T),some (.ref E),x4,some (.ref X),some (.int (w:Nat)),some (.int (m:Nat)),x8,some (.int at'),x10',x11',x12'] G' ∧
   o'.p=o.p∧o'.d=o.d∧o'.hd=o.hd∧o'.c=o.c+1∧Ok G' o'∧Fq [o.p,o.d,o.hd,E] G G'∧G'[E]?=some (.lst ([D.ref z0,.ref z1].set w (.ref o'.e)))∧E≠o'.e:=by
 have y5:((ixN 7 5).bind fun j=>[D.int v0,.int v1,.int v2,.int v3,.int v4,.int v5,.int v6][j]?)=some (.int v5):=rfl
 obtain ⟨y,g1,c1,yl⟩:=qE2 B (n+4) G v5 m hm
 have c1:qB fns B (n+5) 11 [.int v5,.int (m:Nat)] G=.ok (.str y) (G++g1):=c1
 obtain ⟨G2,G3,o3,x11',c2,c3,e1,e2,e3,e4,e5,e6,k3,f3⟩:=qA6 (n:=n) (k.app g1) hc hB (zW g1 hT) wT at' ha m y yl hm x0 (some (.ref S)) (some (.ref E)) x4 (some (.ref X)) (some (.int (m:Nat))) x8 x11 x12
 have f3':Fq [o.p,o.d,o.hd] G G3:=(Fq.app _ _ _).trans f3
 have no:∀ {i:Nat} {xs:List D},getL G i=some xs→i∉[o.p,o.d,o.hd]:=fun e=>by
  obtain ⟨ob,h1,h2⟩:=uY e
  exact k.no h1 h2
 have hE3:G3[E]?=some (.lst [.ref z0,.ref z1]):=f3' _ _ (k.no hE rfl) hE
 obtain ⟨G4,ps,es',e',l1,l2,l3,gP,gE4,ge4,f4,c4⟩:=qBW (B:=B) (F:=qB fns B (n+5)) (f3'.getL (no gx) gx) hE3 hw2 (show ((ixN 2 (w:Int)).bind fun j=>[D.ref z0,.ref z1][j]?)=some (D.ref o3.e) by rw [e4];exact wE) k3.ge k3.le at' m x0 (some (.ref S)) (some (.ref T)) x4 x8 (some (.str y)) x11' x12
 have hS4:getL G4 S=some [.ref p0,.ref p1]:=f4.getL (by simpa using nS.symm) (f3'.getL (no hS) hS)
 have hT4:getL G4 T=some [.ref r0,.ref r1]:=f4.getL (by simpa using nT.symm) (f3'.getL (no hT) hT)
 have nM:∀ {i:Nat} {x:O},G3[i]?=some x→uO x=false→i∉[E]:=fun e hx z=>by
  rw [List.mem_singleton] at z
  rw [z,hE3] at e
  cases e
  cases hx
 have ne4:E≠e':=fun z=>by
  have:=(List.getElem?_eq_some_iff.mp hE3).1
  omega
 have k4:Ok G4 { o3 with e:=e',es:=es' }:=⟨⟨f4 _ _ (nM k3.sl.ap rfl) k3.sl.ap,f4 _ _ (nM k3.sl.ad rfl) k3.sl.ad⟩,k3.iv,f4 _ _ (nM k3.hh rfl) k3.hh,k3.H,k3.ne,ge4,l2⟩
 obtain ⟨g5,c5⟩:=bQ (n:=n+2) k4.sl k4.iv (by show o3.c≤100;omega) hB k4.hh k4.H gP (by omega)
 have c5:qB fns B (n+5) 14 [.ref o.p,.ref o.hd,.ref (G3.length+1)] G4=.ok (.bl true) (G4++g5):=by
  have c5:qB fns B (n+5) 14 [.ref o3.p,.ref o3.hd,.ref (G3.length+1)] G4=.ok (.bl true) (G4++g5):=c5
  rw [e1,e3] at c5
  exact c5
 have ok5:=k4.app g5
 refine ⟨G4++g5,{ o3 with e:=e',es:=es' },some (.str y),x11',some (.ref (G3.length+1)),?_,e1,e2,e3,e6,ok5,?_,jA g5 gE4,ne4⟩
 ·rw [qJL]
  have hS1:=zW g1 hS
  have sm:qX (m:Int):=by unfold qX;omega
  have h6:∀ r:CS,qA (qB fns B (n+5)) B (.seq q16 (.seq q17 r)) [x0,some (.ref S),some (.ref T),some (.ref E),x4,some (.ref X),some (.int (w:Nat)),some (.int (m:Nat)),x8,some (.int at'),x10,x11,x12] G =
    qA (qB fns B (n+5)) B r [x0,some (.ref S),some (.ref T),some (.ref E),x4,some (.ref X),some (.int (w:Nat)),some (.int (m:Nat)),x8,some (.int at'),some (.str y),x11,x12] G2:=fun r=>by
   simp! only [q16,q17,gx,Option.bind_some,y5,c1,hS1,wS,c2]
  have h5:qA (qB fns B (n+5)) B (.fori (.nm 11) (.rng1 (.var 7)) jN) [x0,some (.ref S),some (.ref T),some (.ref E),x4,some (.ref X),some (.int (w:Nat)),some (.int (m:Nat)),x8,some (.int at'),some (.str y),x11,x12] G2 =
    .nx [x0,some (.ref S),some (.ref T),some (.ref E),x4,some (.ref X),some (.int (w:Nat)),some (.int (m:Nat)),x8,some (.int at'),some (.str y),x11',x12] G3:=by
   simp! only [if_pos sm,Int.toNat_natCast,c3]
  have h4:qA (qB fns B (n+5)) B q14 [x0,some (.ref S),some (.ref T),some (.ref E),x4,some (.ref X),some (.int (w:Nat)),some (.int (m:Nat)),x8,some (.int at'),some (.str y),x11',some (.ref (G3.length+1))] G4 =
    .nx [x0,some (.ref S),some (.ref T),some (.ref E),x4,some (.ref X),some (.int (w:Nat)),some (.int (m:Nat)),x8,some (.int at'),some (.str y),x11',some (.ref (G3.length+1))] (G4++g5):=by
   simp! only [q14,hS4,hT4,Option.bind_some,wS,wT,c5]
  rw [h6,show dU=.seq (.fori (.nm 11) (.rng1 (.var 7)) jN) dW from rfl,qA,h5,yN,qJM,c4,h4]
 ·refine Fq.trans (b:=G4) (Fq.trans (b:=G3) (f3'.mono ?_) (f4.mono ?_)) (Fq.app _ _ _)
  ·intro i hi;simp only [List.mem_cons,List.not_mem_nil,or_false] at hi ⊢;rcases hi with h | h | h <;> simp [h]
  ·intro i hi;simp only [List.mem_cons,List.not_mem_nil,or_false] at hi ⊢;simp [hi]
end
structure W2 (G:AH) (S T E:Nat) (a b:Ob) (ns:List Int) (k:Nat):Prop where
 gs:getL G 0=some (ns.map .int)
 gS:getL G S=some [.ref a.p,.ref b.p]
 gT:getL G T=some [.ref a.hd,.ref b.hd]
 gE:G[E]?=some (.lst [.ref a.e,.ref b.e])
 ka:Ok G a
 kb:Ok G b
 n1:a.p≠b.p
 n2:a.d≠b.d
 n3:a.d≠b.hd
 n4:a.hd≠b.d
 n5:a.hd≠b.hd
 ea:E≠a.e
 eb:E≠b.e
 eS:E≠S
 eT:E≠T
 e0:E≠0
 ca:a.c≤k
 cb:b.c≤k
section
variable {B n:Nat} {G:AH} {S T E:Nat} {a b:Ob} {ns:List Int} {k:Nat}
theorem W2.app (I:W2 G S T E a b ns k) (g:AH):W2 (G++g) S T E a b ns k:=⟨zW g I.gs,zW g I.gS,zW g I.gT,jA g I.gE,I.ka.app g,I.kb.app g,I.n1,I.n2,I.n3,I.n4,I.n5,I.ea,I.eb,I.eS,I.eT,I.e0,I.ca,I.cb⟩
theorem lO {M:List Nat} {o x:Ob} {G':AH} (ko:Ok G o) (kx:Ok G x) (f:Fq [o.p,o.d,o.hd,E] G G') (hE:∃ xs,G[E]?=some (.lst xs)) (n1:o.p≠x.p) (n2:o.d≠x.d) (n3:o.d≠x.hd) (n4:o.hd≠x.d) (n5:o.hd≠x.hd) (eb:E≠x.e):Ok G' x:=by
 obtain ⟨xs,hE⟩:=hE
 have nE:∀ {i:Nat} {y:O},G[i]?=some y→uO y=false→i≠E:=fun e hy z=>by
  rw [z,hE] at e;cases e;cases hy
 have np:∀ {i:Nat} {y:O},G[i]?=some y→(∀ c fs,y≠.ins c fs)→i≠o.p:=fun e hy z=>by
  rw [z,ko.sl.ap] at e;cases e;exact hy _ _ rfl
 have nd:∀ {i:Nat} {y:O},G[i]?=some y→(∀ kvs,y≠.dct kvs)→i≠o.d∧i≠o.hd:=fun e hy=>⟨fun z=>by
  rw [z,ko.sl.ad] at e;cases e;exact hy _ rfl,fun z=>by
  rw [z,ko.hh] at e;cases e;exact hy _ rfl⟩
 have h1:=nd kx.sl.ap (fun _=>by intro z;cases z)
 have h4:=nd kx.ge (fun _=>by intro z;cases z)
 refine kx.keep f ?_ ?_ ?_ ?_ <;> simp only [List.mem_cons,List.not_mem_nil,or_false,not_or]
 ·exact ⟨n1.symm,h1.1,h1.2,nE kx.sl.ap rfl⟩
 ·exact ⟨np kx.sl.ad (fun _ _=>by intro z;cases z),n2.symm,n4.symm,nE kx.sl.ad rfl⟩
 ·exact ⟨np kx.hh (fun _ _=>by intro z;cases z),n3.symm,n5.symm,nE kx.hh rfl⟩
 ·exact ⟨np kx.ge (fun _ _=>by intro z;cases z),h4.1,h4.2,eb.symm⟩
theorem vP {o:Ob} {G':AH} (ko:Ok G o) (f:Fq [o.p,o.d,o.hd,E] G G') {i:Nat} {xs:List D} (e:getL G i=some xs) (ne:E≠i):getL G' i=some xs:=by
 obtain ⟨ob,h1,h2⟩:=uY e
 have:=ko.no h1 h2
 refine f.getL ?_ e
 simp only [List.mem_cons,List.not_mem_nil,or_false,not_or] at this ⊢
 exact ⟨this.1,this.2.1,this.2.2,ne.symm⟩
theorem step (I:W2 G S T E a b ns k) (hk:k<ns.length) (hk2:k<30) (hB:100000≤B) (x5 x6 x7 x8 x9 x10 x11 x12:Option D):∃ G' a' b' x5' x6' x7' x8' x9' x10' x11' x12',
  qA (qB fns B (n+5)) B vJ [some (.ref 0),some (.ref S),some (.ref T),some (.ref E),some (.int (k:Nat)),x5,x6,x7,x8,x9,x10,x11,x12] G=.nx [some (.ref 0),some (.ref S),some (.ref T),some (.ref E),some (.int (k:Nat)),x5',x6',x7',x8',x9',x10',x11',x12'] G'∧W2 G' S T E a' b' ns (k+1):=by
 obtain ⟨g,X,v0,v1,v2,v3,v4,v5,v6,w,m,hw,hm,gx,q1⟩:=qBV (B:=B) (n:=n+4) I.gs k hk (by omega) (some (.ref S)) (some (.ref T)) (some (.ref E)) x5 x6 x7 x8 x9 x10 x11 x12
 have I1:=I.app g
 have ca:=I.ca
 have cb:=I.cb
 have la:=I.ka.iv.lk
 have lb:=I.kb.iv.lk
 rw [qJK,q1]
 have:w=0∨w=1:=by omega
 rcases this with rfl | rfl
 ·obtain ⟨g2,x8',at',ha,q2⟩:=t89 (B:=B) (n:=n+4) gx I1.gT (w:=0) (hd:=a.hd) rfl I1.ka.hh I1.ka.H I1.ka.iv.gd (by omega) (by omega) (some (.ref 0)) (some (.ref S)) (some (.ref E)) (some (.int (k:Nat))) (some (.int (m:Nat))) x8 x9 x10 x11 x12
  rw [q2]
  have I2:=I1.app g2
  obtain ⟨G',o',x10',x11',x12',c1,e1,e2,e3,e6,k',f,gE,ne⟩:=fE (n:=n) (w:=0) I2.ka (by omega) hB (zW g2 gx) hw I2.gS rfl I2.gT rfl I2.gE rfl I2.ea I2.eS I2.eT at' ha m hm (some (.ref 0)) (some (.int (k:Nat))) x8' x10 x11 x12
  refine ⟨G',o',b,_,_,_,_,_,_,_,_,c1,⟨vP I2.ka f I2.gs I2.e0,?_,?_,gE,k',lO (M:=[]) I2.ka I2.kb f ⟨_,I2.gE⟩ I.n1 I.n2 I.n3 I.n4 I.n5 I.eb,?_,?_,?_,?_,?_,ne,I.eb,I.eS,I.eT,I.e0,by omega,by omega⟩⟩
  ·rw [e1];exact vP I2.ka f I2.gS I2.eS
  ·rw [e3];exact vP I2.ka f I2.gT I2.eT
  ·rw [e1];exact I.n1
  ·rw [e2];exact I.n2
  ·rw [e2];exact I.n3
  ·rw [e3];exact I.n4
  ·rw [e3];exact I.n5
 ·obtain ⟨g2,x8',at',ha,q2⟩:=t89 (B:=B) (n:=n+4) gx I1.gT (w:=1) (hd:=b.hd) rfl I1.kb.hh I1.kb.H I1.kb.iv.gd (by omega) (by omega) (some (.ref 0)) (some (.ref S)) (some (.ref E)) (some (.int (k:Nat))) (some (.int (m:Nat))) x8 x9 x10 x11 x12
  rw [q2]
  have I2:=I1.app g2
  obtain ⟨G',o',x10',x11',x12',c1,e1,e2,e3,e6,k',f,gE,ne⟩:=fE (n:=n) (w:=1) I2.kb (by omega) hB (zW g2 gx) hw I2.gS rfl I2.gT rfl I2.gE rfl I2.eb I2.eS I2.eT at' ha m hm (some (.ref 0)) (some (.int (k:Nat))) x8' x10 x11 x12
  refine ⟨G',a,o',_,_,_,_,_,_,_,_,c1,⟨vP I2.kb f I2.gs I2.e0,?_,?_,gE,lO (M:=[]) I2.kb I2.ka f ⟨_,I2.gE⟩ I.n1.symm I.n2.symm I.n4.symm I.n3.symm I.n5.symm I.ea,k',?_,?_,?_,?_,?_,I.ea,ne,I.eS,I.eT,I.e0,by omega,by omega⟩⟩
  ·rw [e1];exact vP I2.kb f I2.gS I2.eS
  ·rw [e3];exact vP I2.kb f I2.gT I2.eT
  ·rw [e1];exact I.n1
  ·rw [e2];exact I.n2
  ·rw [e3];exact I.n3
  ·rw [e2];exact I.n4
  ·rw [e3];exact I.n5
end
theorem mO (B n:Nat) (G:AH):qB fns B (n+1) 4 [.ref G.length] (G++[O.ins jH []])=.ok .non (G++[O.ins jH (fl [] [] (G.length+1)),.dct []]):=by
 have:=qIw B n (.ref G.length) (G++[O.ins jH []])
 rw [this]
 have mg:uM [] (([]:List Ky).zip ([]:List D))=[]:=rfl
 simp! only [eF,vX,wR,cn,gL,if_pos (show 0≤16777216 by omega),List.length_append,List.append_assoc,vY,iC,mg] <;> rfl
theorem ok0 {G:AH} {p d hd e:Nat} (h1:G[p]?=some (.ins jH (fl [] [] d))) (h2:G[d]?=some (.dct [])) (h3:G[hd]?=some (.dct [])) (h4:G[e]?=some (.lst [])) (ne:d≠hd):Ok G ⟨p,d,hd,fun _=>0,0,[],[],[],0,e,[]⟩ :=
 ⟨⟨h1,h2⟩,⟨trivial,(fun x hx=>by cases hx),(fun x=>rfl),Nat.zero_le _,Nat.zero_le _⟩,h3,⟨.nil,(fun x=>by unfold pr;simp [inS]),Nat.zero_le _⟩,ne,h4,Nat.zero_le _⟩
theorem qFH (_B n:Nat) (ns:List Int) (hz:ns.length≤63):∃ h',qB fns 100000 (n+6) qGG [.ref 0] [.rol (ns.map .int)]=.ok (.bl true) h':=by
 rw [qIq]
 have gs:getL [.rol (ns.map .int)] 0=some (ns.map .int):=rfl
 have i1:=mO 100000 (n+4) [.rol (ns.map .int)]
 have i2:=mO 100000 (n+4) [.rol (ns.map .int),.ins jH (fl [] [] 2),.dct []]
 simp only [List.length_cons,List.length_nil,List.cons_append,List.nil_append,Nat.reduceAdd,Nat.zero_add] at i1 i2
 obtain ⟨m,hm,hm2,hm3⟩:∃ m:Nat,(if (ns.length:Int)<30 then (ns.length:Int) else 30)=(m:Int)∧m≤30∧m≤ns.length:=by
  by_cases q:(ns.length:Int)<30
  ·rw [if_pos q];exact ⟨ns.length,rfl,by omega,Nat.le_refl _⟩
  ·rw [if_neg q];exact ⟨30,rfl,Nat.le_refl _,by omega⟩
 have sm:qX (m:Int):=by unfold qX;omega
 obtain ⟨G0,hG0⟩:∃ G0:AH,G0=[.rol (ns.map .int),.ins jH (fl [] [] 2),.dct [],.ins jH (fl [] [] 4),.dct [],.lst [.ref 1,.ref 3],.dct [],.dct [],.lst [.ref 6,.ref 7],.lst [],.lst [],.lst [.ref 9,.ref 10]]:=⟨_,rfl⟩
 have start:W2 G0 5 8 11 ⟨1,2,6,fun _=>0,0,[],[],[],0,9,[]⟩ ⟨3,4,7,fun _=>0,0,[],[],[],0,10,[]⟩ ns 0:=by
  subst hG0
  exact ⟨rfl,rfl,rfl,rfl,ok0 rfl rfl rfl rfl (by decide),ok0 rfl rfl rfl rfl (by decide),by decide,by decide,by decide,by decide,by decide,by decide,by decide,by decide,by decide,by decide,Nat.le_refl _,Nat.le_refl _⟩
 obtain ⟨σ',g',L,a,b,x4,x5,x6,x7,x8,x9,x10,x11,x12,e1,I⟩:=kO (fun k σ g=>∃ a b x4 x5 x6 x7 x8 x9 x10 x11 x12,σ=[some (.ref 0),some (.ref 5),some (.ref 8),some (.ref 11),x4,x5,x6,x7,x8,x9,x10,x11,x12]∧W2 g 5 8 11 a b ns k)
  (qP (TG.nm 4) (qA (qB fns 100000 (n+5)) 100000 vJ)) (qR 0 m) 0 [some (.ref 0),some (.ref 5),some (.ref 8),some (.ref 11),none,none,none,none,none,none,none,none,none] G0
  ⟨_,_,none,none,none,none,none,none,none,none,none,rfl,start⟩
  (fun j x σ g hj ⟨a,b,x4,x5,x6,x7,x8,x9,x10,x11,x12,e1,I⟩=>by
   obtain ⟨hjm,rfl⟩:=vB hj
   subst e1
   rw [Nat.zero_add] at I ⊢
   obtain ⟨G',a',b',y5,y6,y7,y8,y9,y10,y11,y12,c,I'⟩:=step (B:=100000) (n:=n) I (by omega) (by omega) (Nat.le_refl _) x5 x6 x7 x8 x9 x10 x11 x12
   refine ⟨_,G',?_,a',b',some (.int (j:Nat)),y5,y6,y7,y8,y9,y10,y11,y12,rfl,I'⟩
   rw [jV,Int.zero_add]
   exact c)
 rw [kH,Nat.zero_add] at I
 subst e1
 have ca:=I.ca
 have cb:=I.cb
 have zz:∀ g:AH,getL (g++[O.lst [D.int 0]]) g.length=some (([0]:List Int).map .int):=fun g=>by rw [jG];rfl
 have I1:=I.app [O.lst [D.int 0]]
 obtain ⟨g2,c1⟩:=bQ (B:=100000) (n:=n+2) I1.ka.sl I1.ka.iv (by omega) (Nat.le_refl _) I1.ka.hh I1.ka.H (zz g') (by decide)
 have I2:=(I1.app g2).app [O.lst [D.int 0]]
 obtain ⟨g3,c2⟩:=bQ (B:=100000) (n:=n+2) I2.kb.sl I2.kb.iv (by omega) (Nat.le_refl _) I2.kb.hh I2.kb.H (zz (g'++[O.lst [D.int 0]]++g2)) (by decide)
 have c1:qB fns 100000 (n+5) 14 [.ref a.p,.ref a.hd,.ref g'.length] (g'++[O.lst [D.int 0]])=.ok (.bl true) (g'++[O.lst [D.int 0]]++g2):=c1
 have gS:=I.gS
 have gT:=I.gT
 have gS2:=(I1.app g2).gS
 have gT2:=(I1.app g2).gT
 have w0:∀ x y:D,((ixN 2 0).bind fun j=>[x,y][j]?)=some x:=fun _ _=>rfl
 have w1:∀ x y:D,((ixN 2 1).bind fun j=>[x,y][j]?)=some y:=fun _ _=>rfl
 generalize hG2:g'++[O.lst [D.int 0]]++g2=G2 at *
 have c2:qB fns 100000 (n+5) 14 [.ref b.p,.ref b.hd,.ref G2.length] (G2++[O.lst [D.int 0]])=.ok (.bl true) (G2++[O.lst [D.int 0]]++g3):=c2
 refine ⟨G2++[O.lst [D.int 0]]++g3,?_⟩
 have L:zO (qP (TG.nm 4) (qA (qB fns 100000 (n+5)) 100000 vJ)) (qR 0 m) [some (.ref 0),some (.ref 5),some (.ref 8),some (.ref 11),none,none,none,none,none,none,none,none,none] G0=.nx [some (.ref 0),some (.ref 5),some (.ref 8),some (.ref 11),x4,x5,x6,x7,x8,x9,x10,x11,x12] g':=L
 have b8:qA (qB fns 100000 (n+5)) 100000 aB [some (.ref 0),some (.ref 5),some (.ref 8),some (.ref 11),x4,x5,x6,x7,x8,x9,x10,x11,x12] g'=.rt (.bl true) (G2++[O.lst [D.int 0]]++g3):=by
  simp! only [aB,gS,gT,Option.bind_some,w0,w1,if_pos (show 1≤16777216 by omega),c1,gS2,gT2,c2]
 have pre:∀ r:CS,qA (qB fns 100000 (n+5)) 100000 (.seq (.set (.nm 1) (.lst (.cons (.make 358300611685 4 .nil) (.cons (.make 358300611685 4 .nil) .nil)))) (.seq (.set (.nm 2) (.lst (.cons (.disp [] .nil) (.cons (.disp [] .nil) .nil)))) (.seq (.set (.nm 3) (.lst (.cons (.lst .nil) (.cons (.lst .nil) .nil)))) r))) [some (.ref 0),none,none,none,none,none,none,none,none,none,none,none,none] [.rol (ns.map .int)] =
   qA (qB fns 100000 (n+5)) 100000 r [some (.ref 0),some (.ref 5),some (.ref 8),some (.ref 11),none,none,none,none,none,none,none,none,none] G0:=fun r=>by
  subst hG0
  simp! only [i1,i2,if_pos (show 2≤16777216 by omega),if_pos (show 0≤16777216 by omega),gL] <;> rfl
 have lp:qA (qB fns 100000 (n+5)) 100000 (.fori (.nm 4) (.rng1 (.bi .min2 (.lit (.int 30)) (.un .len (.var 0)))) vJ) [some (.ref 0),some (.ref 5),some (.ref 8),some (.ref 11),none,none,none,none,none,none,none,none,none] G0=.nx [some (.ref 0),some (.ref 5),some (.ref 8),some (.ref 11),x4,x5,x6,x7,x8,x9,x10,x11,x12] g':=by
  simp! only [start.gs,List.length_map,hm,if_pos sm,Int.toNat_natCast,L]
 show fin (qA _ _ (.seq _ (.seq _ (.seq _ (.seq (.fori (.nm 4) (.rng1 (.bi .min2 (.lit (.int 30)) (.un .len (.var 0)))) vJ) aB)))) _ _)=_
 rw [pre,qA,lp,yN,b8]
 rfl
noncomputable def top (i:Nat):Stmt:=PySem.Challenge.pw_ferry_k14_signs_put.main.body.getD i (.Pass ⟨0,0,0,0⟩)
noncomputable def gU (i j:Nat):Stmt:=match top i with
 | .ClassDef _ _ _ b _ _ _ _ _ _ _=>b.getD j (.Pass ⟨0,0,0,0⟩)
 | s=>s
noncomputable def G:List (Str × GK):=[(("law":Str),GK.fn 16),(("BEGIN":Str),GK.con (.int 0)),(("END":Str),GK.con (.int 1)),(("NoSpan":Str),GK.exc 86240048210286),(("Slate":Str),GK.cls 358300611685 4),(("_law_come":Str),GK.fn 12),(("_law_good":Str),GK.fn 10),(("_law_put":Str),GK.fn 15),(("_law_runs":Str),GK.fn 13),(("_law_same":Str),GK.fn 14),(("_law_signs":Str),GK.fn 11),(("_law_stream":Str),GK.fn 8),(("_law_whole":Str),GK.fn 9),(("added":Str),GK.fn 3),(("bool":Str),GK.blt),(("check_begin":Str),GK.fn 1),(("check_stretch":Str),GK.fn 2),(("count_below":Str),GK.fn 0),(("int":Str),GK.blt),(("isinstance":Str),GK.blt),(("len":Str),GK.blt),(("max":Str),GK.blt),(("min":Str),GK.blt),(("range":Str),GK.blt),(("sorted":Str),GK.blt),(("str":Str),GK.blt),(("tuple":Str),GK.blt)]
noncomputable def xs:List (Nat × List Nat):=[(86240048210286,[86240048210286])]
noncomputable def xl:List Nat:=[332437021739526678278002,86240048210286]
theorem mB:qI 332437021739526678278002=("FerryError":Str):=by kernel_rfl
theorem uL:qI 86240048210286=("NoSpan":Str):=by kernel_rfl
noncomputable def Mt:List (Str × Nat × List (Nat × Nat)):=[(("__init__":Str),6872327479327219551,[(358300611685,4)]),(("put":Str),7370100,[(358300611685,5)]),(("draw_in":Str),28273260611201390,[(358300611685,6)]),(("sign":Str),1936287598,[(358300611685,7)])]
noncomputable def At:List (Str × Nat × List Nat):=[(("text":Str),1952807028,[358300611685]),(("spans":Str),495806672499,[358300611685]),(("behind":Str),108187682958948,[358300611685])]
theorem kK:qI 358300611685=("Slate":Str):=by kernel_rfl
theorem qEH:qI 1952807028=("text":Str):=by kernel_rfl
theorem qEI:qI 495806672499=("spans":Str):=by kernel_rfl
theorem qEM:qI 108187682958948=("behind":Str):=by kernel_rfl
theorem qEN:qI 6872327479327219551=("__init__":Str):=by kernel_rfl
theorem qEK:qI 7370100=("put":Str):=by kernel_rfl
theorem qEL:qI 28273260611201390=("draw_in":Str):=by kernel_rfl
theorem qEJ:qI 1936287598=("sign":Str):=by kernel_rfl
noncomputable def cP:Df:=⟨"count_below","count_below",top 6,["spans","side","place","low","high","middle"],["spans","side","place"]⟩
noncomputable def cR:Df:=⟨"check_begin","check_begin",top 7,["begin"],["begin"]⟩
noncomputable def cQ:Df:=⟨"check_stretch","check_stretch",top 8,["begin","end"],["begin","end"]⟩
noncomputable def cT:Df:=⟨"added","added",top 9,["spans","begin","end","first","behind"],["spans","begin","end"]⟩
noncomputable def gM:Df:=⟨"__init__","Slate.__init__",gU 11 0,["self"],["self"]⟩
noncomputable def cV:Df:=⟨"put","Slate.put",gU 11 1,["self","at","signs","begin","end","place"],["self","at","signs"]⟩
noncomputable def cW:Df:=⟨"draw_in","Slate.draw_in",gU 11 2,["self","first","grown","place"],["self"]⟩
noncomputable def cU:Df:=⟨"sign","Slate.sign",gU 11 3,["self","place"],["self","place"]⟩
noncomputable def cI:Df:=⟨"_law_stream","_law_stream",top 14,["_law_cell","_law_many","_law_found","_law_number","_law_k"],["_law_cell","_law_many"]⟩
noncomputable def cH:Df:=⟨"_law_whole","_law_whole",top 15,["_law_found"],["_law_found"]⟩
noncomputable def cN:Df:=⟨"_law_good","_law_good",top 16,["_law_row","_law_k"],["_law_row"]⟩
noncomputable def cJ:Df:=⟨"_law_signs","_law_signs",top 17,["_law_x","_law_many","_law_some"],["_law_x","_law_many"]⟩
noncomputable def cO:Df:=⟨"_law_come","_law_come",top 18,["_law_held","_law_text"],["_law_held"]⟩
noncomputable def cL:Df:=⟨"_law_runs","_law_runs",top 19,["_law_held","_law_begin","_law_row","_law_place"],["_law_held","_law_begin"]⟩
noncomputable def cK:Df:=⟨"_law_same","_law_same",top 20,["_law_slate","_law_held","_law_places","_law_text","_law_place","_law_found","_law_due"],["_law_slate","_law_held","_law_places"]⟩
noncomputable def cM:Df:=⟨"_law_put","_law_put",top 21,["_law_slate","_law_at","_law_signs_here"],["_law_slate","_law_at","_law_signs_here"]⟩
noncomputable def kS:Df:=⟨"law","law",top 22,["_law_script","_law_slates","_law_helds","_law_ends","_law_k","_law_xs","_law_which","_law_size","_law_near","_law_at","_law_signs_here","_law_j","_law_places"],["_law_script"]⟩
noncomputable def ds:List Df:=[cP,cR,cQ,cT,gM,cV,cW,cU,cI,cH,cN,cJ,cO,cL,cK,cM,kS]
theorem qJC:zH cP:=fun _ _ _ _ _ _=>ar3 fun _ _ _=>rfl
theorem qJE:zH cR:=fun _ _ _ _ _ _=>ar1 fun _=>rfl
theorem qJD:zH cQ:=fun _ _ _ _ _ _=>ar2 fun _ _=>rfl
theorem qJF:zH cT:=fun _ _ _ _ _ _=>ar3 fun _ _ _=>rfl
theorem rY:zH gM:=fun _ _ _ _ _ _=>ar1 fun _=>rfl
theorem qJH:zH cV:=fun _ _ _ _ _ _=>ar3 fun _ _ _=>rfl
theorem qJI:zH cW:=fun _ _ _ _ _ _=>ar1 fun _=>rfl
theorem qJG:zH cU:=fun _ _ _ _ _ _=>ar2 fun _ _=>rfl
theorem qI4:zH cI:=fun _ _ _ _ _ _=>ar2 fun _ _=>rfl
theorem qI3:zH cH:=fun _ _ _ _ _ _=>ar1 fun _=>rfl
theorem qI9:zH cN:=fun _ _ _ _ _ _=>ar1 fun _=>rfl
theorem qI5:zH cJ:=fun _ _ _ _ _ _=>ar2 fun _ _=>rfl
theorem qJA:zH cO:=fun _ _ _ _ _ _=>ar1 fun _=>rfl
theorem qI7:zH cL:=fun _ _ _ _ _ _=>ar2 fun _ _=>rfl
theorem qI6:zH cK:=fun _ _ _ _ _ _=>ar3 fun _ _ _=>rfl
theorem qI8:zH cM:=fun _ _ _ _ _ _=>ar3 fun _ _ _=>rfl
theorem qJB:zH kS:=fun _ _ _ _ _ _=>ar1 fun _=>rfl
theorem oks:AllZ (fun d f=>DfOk G xs Mt At d f) ds fns:=by
 refine ⟨?_,?_,?_,?_,?_,?_,?_,?_,?_,?_,?_,?_,?_,?_,?_,?_,?_,trivial⟩ <;> exact ⟨⟨rfl,rfl,rfl,by decide +kernel,rfl,by decide +kernel,by decide +kernel⟩,by kernel_rfl,rfl,rfl⟩
theorem tY:ds[16]?=some kS:=by kernel_rfl
theorem tW:kS.qual=kS.name:=by kernel_rfl
theorem tX:kS.ps=(["_law_script"]:List Str):=by kernel_rfl
theorem tZ:(("law":Str),GK.fn 16)∈G:=List.mem_cons_self ..
end Lk14
namespace PySem.W.Fast
noncomputable def tw17720180361977148829:=0
noncomputable def tw14303988887248100192:=0
noncomputable def tw10970782847100812216:=0
noncomputable def tw737234699092675034:=0
noncomputable def tw11307370658717968349:=0
noncomputable def tw13243630221391114814:=0
noncomputable def tw11523996627855775950:=0
noncomputable def tw18176818730706372776:=0
noncomputable def tw875849512003521016:=0
noncomputable def tw148464521462498714:=0
noncomputable def tw7676626428726723407:=0
noncomputable def tw15346829678677517197:=0
noncomputable def tw7424874446251353947:=0
noncomputable def tw8754332395490596215:=0
noncomputable def tw16497193820139912115:=0
noncomputable def tw11810759350527086348:=0
noncomputable def tw11387488506941381258:=0
noncomputable def tw8068585814848364832:=0
noncomputable def tw8846994706343699309:=0
noncomputable def tw15358864112950702376:=0
noncomputable def tw4760691038459585913:=0
noncomputable def tw7640424030641441743:=0
noncomputable def tw14068059857528054188:=0
noncomputable def tw9376639176693657568:=0
noncomputable def tw16463202956925373198:=0
end PySem.W.Fast
open PySem PySem.W PyProof.Rows
set_option maxRecDepth 100000 in
set_option maxHeartbeats 0 in
theorem PySem.Challenge.cw_ferry_k14_signs_put_holds : PySem.Challenge.rw_ferry_k14_signs_put.Holds := by
 w_on;o_law;k_head;(case hw=>w_witness2)
 k_fill
 refine Fy.walk (l:=PySem.Challenge.rw_ferry_k14_signs_put) (G:=Lk14.G) (xs:=Lk14.xs) (xl:=Lk14.xl) (Mt:=Lk14.Mt) (At:=Lk14.At) (ds:=Lk14.ds) (fns:=Lk14.fns) (B:=100000) (i:=16) (d:=Lk14.kS) (x:="_law_script") rfl rfl Lk14.tY Lk14.tZ Lk14.tW Lk14.tX (fun w h Y=>PySem.W.kIn_of Y) ?T (fun ns hl=>Lk14.qFH 100000 34 ns hl) ?B
 case B =>
  intro fd f K F s u
  obtain ⟨oc,od,kV,doc,pm,an,cdv,ct,osl,rfl,lk,hcd⟩:=F.ex
  exact .of_eq rfl
 case T =>
  intro w mg h KX G
  refine' Fy.with_cls (x:="Slate") KX ?a ?b ?c ?d ?e fun qa0 qc0=>?_;(case a=>k_is);(case b=>k_is);(case c=>k_is);(case d=>k_is);(case e=>k_is)
  refine' Fy.with_exc (x:="FerryError") KX ?a ?b fun xa0 xi0=>?_;(case a=>k_is);(case b=>k_exc)
  refine' Fy.with_exc (x:="NoSpan") KX ?a ?b fun xa1 xi1=>?_;(case a=>k_is);(case b=>k_exc)
  refine' Fy.top_of Lk14.oks rfl
   ⟨Fy.gl_fn KX G (d:=Lk14.kS) rfl ?_ (Fy.df_mk' Lk14.qJB (nm:="law") (ql:="law") rfl rfl ?_ ?_ ?_),
   Fy.gl_int KX G ?_,
   Fy.gl_int KX G ?_,
   Fy.gl_exc KX G rfl Lk14.uL xa1 xi1,
   Fy.gl_cls KX G (d:=Lk14.gM) rfl Lk14.kK qa0 qc0 ⟨?_,?_,?_,?_⟩ (Fy.df_mk' Lk14.rY (nm:="__init__") (ql:="Slate.__init__") rfl rfl ?_ ?_ ?_),
   Fy.gl_fn KX G (d:=Lk14.cO) rfl ?_ (Fy.df_mk' Lk14.qJA (nm:="_law_come") (ql:="_law_come") rfl rfl ?_ ?_ ?_),
   Fy.gl_fn KX G (d:=Lk14.cN) rfl ?_ (Fy.df_mk' Lk14.qI9 (nm:="_law_good") (ql:="_law_good") rfl rfl ?_ ?_ ?_),
   Fy.gl_fn KX G (d:=Lk14.cM) rfl ?_ (Fy.df_mk' Lk14.qI8 (nm:="_law_put") (ql:="_law_put") rfl rfl ?_ ?_ ?_),
   Fy.gl_fn KX G (d:=Lk14.cL) rfl ?_ (Fy.df_mk' Lk14.qI7 (nm:="_law_runs") (ql:="_law_runs") rfl rfl ?_ ?_ ?_),
   Fy.gl_fn KX G (d:=Lk14.cK) rfl ?_ (Fy.df_mk' Lk14.qI6 (nm:="_law_same") (ql:="_law_same") rfl rfl ?_ ?_ ?_),
   Fy.gl_fn KX G (d:=Lk14.cJ) rfl ?_ (Fy.df_mk' Lk14.qI5 (nm:="_law_signs") (ql:="_law_signs") rfl rfl ?_ ?_ ?_),
   Fy.gl_fn KX G (d:=Lk14.cI) rfl ?_ (Fy.df_mk' Lk14.qI4 (nm:="_law_stream") (ql:="_law_stream") rfl rfl ?_ ?_ ?_),
   Fy.gl_fn KX G (d:=Lk14.cH) rfl ?_ (Fy.df_mk' Lk14.qI3 (nm:="_law_whole") (ql:="_law_whole") rfl rfl ?_ ?_ ?_),
   Fy.gl_fn KX G (d:=Lk14.cT) rfl ?_ (Fy.df_mk' Lk14.qJF (nm:="added") (ql:="added") rfl rfl ?_ ?_ ?_),
   Fy.gl_blt KX G ?_,
   Fy.gl_fn KX G (d:=Lk14.cR) rfl ?_ (Fy.df_mk' Lk14.qJE (nm:="check_begin") (ql:="check_begin") rfl rfl ?_ ?_ ?_),
   Fy.gl_fn KX G (d:=Lk14.cQ) rfl ?_ (Fy.df_mk' Lk14.qJD (nm:="check_stretch") (ql:="check_stretch") rfl rfl ?_ ?_ ?_),
   Fy.gl_fn KX G (d:=Lk14.cP) rfl ?_ (Fy.df_mk' Lk14.qJC (nm:="count_below") (ql:="count_below") rfl rfl ?_ ?_ ?_),
   Fy.gl_blt KX G ?_,
   Fy.gl_blt KX G ?_,
   Fy.gl_blt KX G ?_,
   Fy.gl_blt KX G ?_,
   Fy.gl_blt KX G ?_,
   Fy.gl_blt KX G ?_,
   Fy.gl_blt KX G ?_,
   Fy.gl_blt KX G ?_,
   Fy.gl_blt KX G ?_,
   trivial⟩
   ⟨(Fy.mt_cons Lk14.kK qa0 qc0 (d:=Lk14.gM) ⟨?_,?_,?_⟩ rfl (Fy.df_mk' Lk14.rY (nm:="__init__") (ql:="Slate.__init__") rfl rfl ?_ ?_ ?_) (Fy.mt_nil Lk14.qEN (by decide))),
   (Fy.mt_cons Lk14.kK qa0 qc0 (d:=Lk14.cV) ⟨?_,?_,?_⟩ rfl (Fy.df_mk' Lk14.qJH (nm:="put") (ql:="Slate.put") rfl rfl ?_ ?_ ?_) (Fy.mt_nil Lk14.qEK (by decide))),
   (Fy.mt_cons Lk14.kK qa0 qc0 (d:=Lk14.cW) ⟨?_,?_,?_⟩ rfl (Fy.df_mk' Lk14.qJI (nm:="draw_in") (ql:="Slate.draw_in") rfl rfl ?_ ?_ ?_) (Fy.mt_nil Lk14.qEL (by decide))),
   (Fy.mt_cons Lk14.kK qa0 qc0 (d:=Lk14.cU) ⟨?_,?_,?_⟩ rfl (Fy.df_mk' Lk14.qJG (nm:="sign") (ql:="Slate.sign") rfl rfl ?_ ?_ ?_) (Fy.mt_nil Lk14.qEJ (by decide))),
   trivial⟩
   ⟨(Fy.at_cons Lk14.kK qa0 ?_ (Fy.at_nil Lk14.qEH (by decide))),
   (Fy.at_cons Lk14.kK qa0 ?_ (Fy.at_nil Lk14.qEI (by decide))),
   (Fy.at_cons Lk14.kK qa0 ?_ (Fy.at_nil Lk14.qEM (by decide))),
   trivial⟩
   ⟨Fy.xm_mk Lk14.uL xa1 ?_ ?_ ?_ ⟨Fy.xs_mk Lk14.mB xa0 (b:=false) rfl ?_,Fy.xs_mk Lk14.uL xa1 (b:=true) rfl ?_,trivial⟩,
   trivial⟩ (by decide) (by decide) (by decide)
   ⟨Fy.xg_mk Lk14.mB xa0 ⟨?_,?_,?_,?_,?_,?_⟩,
   Fy.xg_mk Lk14.uL xa1 ⟨?_,?_,?_,?_,?_,?_⟩,
   trivial⟩
  all_goals try k_is
