import PyProof.Rows.All
import Wide.All
import OpenK.AllK
import Wide.FinOn
import Lean
import PyProof.EqAt
import PyProof.EqKinds
import PyProof.TupleCall
import PySem.Challenge.RW_ferry_k27_whole_all_comes
set_option Elab.async false
set_option linter.all false
set_option maxRecDepth 100000
namespace L2
open PySem PySem.Spec PyProof.Rows
noncomputable abbrev Key:=Sum Int Str
noncomputable def keyIs:Key→Value→Bool
 | .inl k,v=>Value.isInt k v
 | .inr x,v=>Value.isStrOf x v
noncomputable def keyH (w:World):Key→Int
 | .inl k=>hashInt k
 | .inr x=>hashStr w x
theorem qAa:∀ {k:Key} {v:Value},keyIs k v=true→(∃ i t,k=Sum.inl i∧v=Value.int i t)∨(∃ x t,k=Sum.inr x∧v=Value.str x t)
 | .inl i,v,h=>by
  obtain ⟨t,e⟩:=Value.isInt_shape (k:=i) (v:=v) h
  exact .inl ⟨i,t,rfl,e⟩
 | .inr x,v,h=>by
  obtain ⟨t,e⟩:=Value.isStrOf_shape (x:=x) (v:=v) h
  exact .inr ⟨x,t,rfl,e⟩
theorem qIr (i:Int) (t:Tok):keyIs (.inl i) (.int i t)=true:=by simp [keyIs,Value.isInt]
theorem qIq (x:Str) (t:Tok):keyIs (.inr x) (.str x t)=true:=by simp [keyIs,Value.isStrOf]
theorem qPA (a b:Int):decide ((Sum.inl a:Key)=Sum.inl b)=(a == b):=by
 by_cases e:a=b
 ·subst e;simp
 ·have h:¬ (Sum.inl a:Key)=Sum.inl b:=fun q=>e (Sum.inl.inj q)
  rw [decide_eq_false h]
  exact (beq_eq_false_iff_ne.mpr e).symm
theorem qO6 (a b:Str):decide ((Sum.inr a:Key)=Sum.inr b)=decide (a=b):=by
 by_cases e:a=b
 ·subst e;simp
 ·have h:¬ (Sum.inr a:Key)=Sum.inr b:=fun q=>e (Sum.inr.inj q)
  rw [decide_eq_false h,decide_eq_false e]
theorem qO9 (a:Int) (b:Str):decide ((Sum.inl a:Key)=Sum.inr b)=false:=decide_eq_false (fun q=>nomatch q)
theorem qO7 (a:Str) (b:Int):decide ((Sum.inr a:Key)=Sum.inl b)=false:=decide_eq_false (fun q=>nomatch q)
noncomputable def mixKind (prog:Program) (w:World):PySem.KeyKind prog w Key where
 is:=keyIs
 hash:=keyH w
 inj:=fun v a b ha hb=>by
  rcases qAa ha with ⟨i,t,rfl,rfl⟩ | ⟨x,t,rfl,rfl⟩
  ·rcases qAa hb with ⟨j,u,rfl,e⟩ | ⟨y,u,rfl,e⟩
   ·injection e with e1 _;rw [e1]
   ·exact nomatch e
  ·rcases qAa hb with ⟨j,u,rfl,e⟩ | ⟨y,u,rfl,e⟩
   ·exact nomatch e
   ·injection e with e1 _;rw [e1]
 byValue:=fun k v h=>by
  rcases qAa h with ⟨i,t,rfl,rfl⟩ | ⟨x,t,rfl,rfl⟩ <;> rfl
 pyHash:=fun hv h=>by
  rcases qAa hv with ⟨i,t,rfl,rfl⟩ | ⟨x,t,rfl,rfl⟩
  ·exact wpAny_pyHash_int h
  ·exact wpAny_pyHash_str h
 eqBool:=fun hu hv h=>by
  rcases qAa hu with ⟨i,t,rfl,rfl⟩ | ⟨x,t,rfl,rfl⟩
  ·rcases qAa hv with ⟨j,u,rfl,rfl⟩ | ⟨y,u,rfl,rfl⟩
   ·rw [qPA] at h;exact wpAny_eqBool_int h
   ·rw [qO9] at h;exact SeqAt.EqAt.int_str i t y u _ _ _ _ h
  ·rcases qAa hv with ⟨j,u,rfl,rfl⟩ | ⟨y,u,rfl,rfl⟩
   ·rw [qO7] at h;exact SeqAt.EqAt.str_int x t j u _ _ _ _ h
   ·rw [qO6] at h;exact wpAny_eqBool_str h
 «strs»:=fun k x t v h=>by
  rcases qAa h with ⟨i,u,rfl,e⟩ | ⟨y,u,rfl,e⟩
  ·exact nomatch e
  ·injection e with e1 _
   subst e1
   cases v <;> rfl
theorem qGT (prog:Program) (w:World) (i:Int) (t:Tok):(mixKind prog w).is (.inl i) (.int i t)=true:=qIr i t
theorem qGS (prog:Program) (w:World) (x:Str) (t:Tok):(mixKind prog w).is (.inr x) (.str x t)=true:=qIq x t
end L2
namespace L2
open PySem PySem.Spec PyProof.Rows
inductive V where
 | non | bl (b:Bool) | int (i:Int) | str (x:Str) | byt (b:Array UInt8) | flt (b:UInt64) | ref (a:Addr) | ty (n:String)
 deriving DecidableEq
noncomputable def RelV:V→Value→Prop
 | .non,u=>u=Value.none
 | .bl b,u=>u=Value.bool b
 | .int i,u=>∃ t,u=Value.int i t
 | .str x,u=>∃ t,u=Value.str x t
 | .byt b,u=>∃ t,u=Value.bytes b t
 | .flt b,u=>∃ t,u=Value.float b t
 | .ref a,u=>u=Value.ref a
 | .ty n,u=>u=Value.type n
noncomputable abbrev Vals:List V→List Value→Prop:=Paired RelV
theorem Vals.length {xs:List V} {us:List Value} (r:Vals xs us):xs.length=us.length:=Paired.length r
theorem Vals.get:∀ {xs:List V} {us:List Value} {i:Nat} {x:V},Vals xs us→xs[i]?=some x→∃ u,us[i]?=some u∧RelV x u
 | _,_,_,_,.nil,e=>by simp at e
 | _,_,0,_,.cons r _,e=>by simp at e;subst e;exact ⟨_,rfl,r⟩
 | _,_,i+1,x,.cons _ t,e=>by
  obtain ⟨u,h1,h2⟩:=Vals.get (i:=i) (x:=x) t (by simpa using e)
  exact ⟨u,by simpa using h1,h2⟩
theorem Vals.set {x:V} {u:Value} (r:RelV x u):∀ {xs:List V} {us:List Value} (i:Nat),Vals xs us→Vals (xs.set i x) (us.set i u)
 | _,_,_,.nil=>.nil
 | _,_,0,.cons _ t=>.cons r t
 | _,_,i+1,.cons q t=>.cons q (Vals.set r i t)
theorem Vals.append:∀ {xs ys:List V} {us ws:List Value},Vals xs us→Vals ys ws→Vals (xs++ys) (us++ws)
 | _,_,_,_,.nil,s=>s
 | _,_,_,_,.cons r t,s=>.cons r (Vals.append t s)
theorem Vals.take:∀ {xs:List V} {us:List Value} (n:Nat),Vals xs us→Vals (xs.take n) (us.take n)
 | _,_,0,_=>.nil
 | _,_,_+1,.nil=>.nil
 | _,_,n+1,.cons r t=>.cons r (Vals.take n t)
theorem Vals.drop:∀ {xs:List V} {us:List Value} (n:Nat),Vals xs us→Vals (xs.drop n) (us.drop n)
 | _,_,0,r=>r
 | _,_,_+1,.nil=>.nil
 | _,_,n+1,.cons _ t=>Vals.drop n t
theorem Vals.none_of:∀ {xs:List V} {us:List Value} {i:Nat},Vals xs us→xs[i]?=none→us[i]?=none:=fun {xs us i} r e=>by
 have h1:=r.length
 have h2:xs.length≤i:=List.getElem?_eq_none_iff.mp e
 exact List.getElem?_eq_none_iff.mpr (by omega)
noncomputable def RelO:Option V→Option Value→Prop
 | some v,some u=>RelV v u
 | none,none=>True
 | _,_=>False
noncomputable def KV {κ:Type}:List (κ × V)→List (κ × Value)→Prop:=Paired fun (p:κ × V) (q:κ × Value)=>p.1=q.1∧RelV p.2 q.2
noncomputable def kV:Key→V
 | .inl i=>.int i
 | .inr x=>.str x
inductive HO where
 | lst (xs:List V)
 | tup (xs:List V)
 | dK (kvs:List (Key × V)) | dT (kvs:List (List Key × V))
 | set (S:Int→Bool) (n:Nat)
 | ins (C dx:Addr) (fs:List (Str × V))
 | own (x:Addr)
 | xd (fs:List (Str × V))
 | met (f x:Addr)
 | rng (lo hi:Int)
 | frz (o:Obj) (u:HO)
 | tbl (ps:Array Value)
 | ext (φ:Heap→Prop)
noncomputable abbrev Hp:=Addr→Option HO
noncomputable def upd (H:Hp) (a:Addr) (o:HO):Hp:=fun b=>if b=a then some o else H b
theorem qAA {H:Hp} {a:Addr} {o:HO}:upd H a o a=some o:=by unfold upd;rw [if_pos rfl]
theorem qAB {H:Hp} {a b:Addr} {o:HO} (h:b≠a):upd H a o b=H b:=by unfold upd;rw [if_neg h]
theorem upd_upd {H:Hp} {a:Addr} {o u:HO}:upd (upd H a o) a u=upd H a u:=by
 funext b;unfold upd;split <;> rfl
theorem ne_of_none {H:Hp} {a b:Addr} {o:HO} (h:H a=some o) (h':H b=none):a≠b:=by
 intro e;subst e;rw [h] at h';cases h'
section
variable (P:Program) (w:World)
noncomputable def ObjOk (H:Hp) (h:Heap) (a:Addr):HO→Prop
  | .lst xs=>xs.length≤sizeLine∧∃ (its:List Value) (n:Nat),Vals xs its∧h.get? a=some { cls:=.type "list",data:=.seq its.toArray n }
  | .tup xs=>xs.length≤sizeLine∧∃ its:List Value,Vals xs its∧IsTup h a its.toArray
  | .dK kvs=>kvs.length≤sizeLine∧(a == sysModules)=false∧∃ vs,KV kvs vs∧h.DictOf (mixKind P w) a vs
  | .dT kvs=>kvs.length≤sizeLine∧(a == sysModules)=false∧∃ xs:List (List Key × Addr × Value),
      Paired (fun (p:List Key × V) (q:List Key × Addr × Value)=>p.1=q.1∧H q.2.1=some (.tup (p.1.map kV))∧RelV p.2 q.2.2) kvs xs ∧
      ∃ o es ep,h.get? a=some o∧o.ExactDict∧o.data=.dict es ep∧es.toList=xs.map (entryOfKey (tupleKind (mixKind P w)))∧(xs.map (·.1)).Nodup
  | .set S n=>h.SetOf (intKind P w) a S n
  | .ins C dx fs=>H dx=some (.own a)∧fs.length≤1000∧dx≠a∧h.get? a=some (PySem.W.instObj C dx) ∧
      ∃ mA,h.Ns1 dx mA∧(∀ f,RelO (fs.lookup f) (mA f))∧PySem.Within mA (fs.map (·.1))
  | .own _=>∃ o,h.get? a=some o
  | .xd fs=>∃ mA,h.Ns1 a mA∧∀ f,RelO (fs.lookup f) (mA f)
  | .rng lo hi=>∃ t u v,h.get? a=some { cls:=.type "range",data:=.fields #[.int lo t,.int hi u,.int 1 v] }
  | .frz o u=>h.get? a=some o∧ObjOk H h a u
  | .tbl ps=>h.get? a=some { cls:=.none,data:=.fields ps }
  | .met f x=>h.get? a=some (PySem.W.methodObj (.ref f) (.ref x))
  | .ext φ=>φ h∧(∃ o,h.get? a=some o)∧∀ h1 h2:Heap,φ h1→(∀ o,h1.get? a=some o→h2.get? a=some o)→φ h2
noncomputable def HOk (H:Hp) (h:Heap):Prop:=∀ a o,H a=some o→ObjOk P w H h a o
end
section
variable {P:Program} {w:World} {H H':Hp} {h h':Heap} {a:Addr} {o:HO}
theorem ObjOk.lt (x:ObjOk P w H h a o):a<h.objs.size:=by
 cases o with
 | lst xs=>obtain ⟨_,_,_,_,e⟩:=x;exact Heap.lt_size e
 | tup xs=>obtain ⟨_,_,_,p⟩:=x;exact p.lt
 | dK kvs=>obtain ⟨_,_,_,_,o,_,_,e,_⟩:=x;exact Heap.lt_size e
 | dT kvs=>obtain ⟨_,_,_,_,o,_,_,e,_⟩:=x;exact Heap.lt_size e
 | set S n=>obtain ⟨o,_,_,_,e,_⟩:=x;exact Heap.lt_size e
 | ins C dx fs=>obtain ⟨_,_,_,e,_⟩:=x;exact Heap.lt_size e
 | own y=>obtain ⟨_,e⟩:=x;exact Heap.lt_size e
 | xd fs=>obtain ⟨_,⟨_,_,_,e,_⟩,_⟩:=x;exact Heap.lt_size e
 | rng lo hi=>obtain ⟨_,_,_,e⟩:=x;exact Heap.lt_size e
 | frz ob u=>obtain ⟨e,_⟩:=x;exact Heap.lt_size e
 | tbl ps=>exact Heap.lt_size (show h.get? a=some _ from x)
 | met f y=>exact Heap.lt_size (show h.get? a=some _ from x)
 | ext φ=>obtain ⟨_,⟨_,e⟩,_⟩:=x;exact Heap.lt_size e
theorem Paired.mapP {α β:Type} {F G:α→β→Prop}:∀ {l₁:List α} {l₂:List β},Paired F l₁ l₂→(∀ a b,F a b→G a b)→Paired G l₁ l₂
 | _,_,.nil,_=>.nil
 | _,_,.cons r t,f=>.cons (f _ _ r) (Paired.mapP t f)
theorem ObjOk.stay (x:ObjOk P w H h a o) (k:∀ b u,(b=a∨H b=some (.own a))→h.get? b=some u→h'.get? b=some u)
    (ho:∀ b,H b=some (.own a)→H' b=some (.own a)) (ht:∀ b xs,H b=some (.tup xs)→H' b=some (.tup xs)):ObjOk P w H' h' a o:=by
  induction o with
  | lst xs=>obtain ⟨z,its,n,r,e⟩:=x;exact ⟨z,its,n,r,k _ _ (.inl rfl) e⟩
  | tup xs=>obtain ⟨z,its,r,ob,e,c⟩:=x;exact ⟨z,its,r,ob,k _ _ (.inl rfl) e,c⟩
  | dK kvs=>obtain ⟨z,y,vs,r,ob,es,ep,e,c⟩:=x;exact ⟨z,y,vs,r,ob,es,ep,k _ _ (.inl rfl) e,c⟩
  | dT kvs =>
    obtain ⟨z,y,xs,r,ob,es,ep,e,c⟩:=x
    exact ⟨z,y,xs,Paired.mapP r fun p q z=>⟨z.1,ht _ _ z.2.1,z.2.2⟩,ob,es,ep,k _ _ (.inl rfl) e,c⟩
  | set S n=>obtain ⟨ob,es,ep,t,e,c⟩:=x;exact ⟨ob,es,ep,t,k _ _ (.inl rfl) e,c⟩
  | ins C dx fs =>
    obtain ⟨d,z,ne,e,mA,⟨od,es,ep,e2,c⟩,r⟩:=x
    exact ⟨ho _ d,z,ne,k _ _ (.inl rfl) e,mA,⟨od,es,ep,k _ _ (.inr d) e2,c⟩,r⟩
  | own y=>obtain ⟨ob,e⟩:=x;exact ⟨ob,k _ _ (.inl rfl) e⟩
  | xd fs=>obtain ⟨mA,⟨od,es,ep,e,c⟩,r⟩:=x;exact ⟨mA,⟨od,es,ep,k _ _ (.inl rfl) e,c⟩,r⟩
  | rng lo hi=>obtain ⟨t,u,v,e⟩:=x;exact ⟨t,u,v,k _ _ (.inl rfl) e⟩
  | frz ob u ih=>obtain ⟨e,q⟩:=x;exact ⟨k _ _ (.inl rfl) e,ih q⟩
  | tbl ps =>
    have e:h.get? a=some { cls:=.none,data:=.fields ps }:=x
    show h'.get? a=some { cls:=.none,data:=.fields ps }
    exact k a _ (.inl rfl) e
  | met f y =>
    have e:h.get? a=some (PySem.W.methodObj (.ref f) (.ref y)):=x
    show h'.get? a=some (PySem.W.methodObj (.ref f) (.ref y))
    exact k a _ (.inl rfl) e
  | ext φ=>obtain ⟨p,⟨o,e⟩,st⟩:=x;exact ⟨st _ _ p fun o q=>k _ _ (.inl rfl) q,⟨o,k _ _ (.inl rfl) e⟩,st⟩
theorem HOk.lt (x:HOk P w H h) (e:H a=some o):a<h.objs.size:=(x a o e).lt
theorem HOk.fresh (x:HOk P w H h) (e:h.objs.size≤a):H a=none:=by
 cases q:H a with
 | none=>rfl
 | some u=>exact absurd (Nat.lt_of_lt_of_le (x.lt q) e) (Nat.lt_irrefl _)
theorem HOk.kept (x:HOk P w H h) (k:∀ b u,h.get? b=some u→h'.get? b=some u):HOk P w H h':=fun a o e =>
 (x a o e).stay (fun b u _ q=>k b u q) (fun _ q=>q) fun _ _ q=>q
theorem HOk.laid (x:HOk P w H h) (k:∀ b u,h.get? b=some u→h'.get? b=some u) (hp:h.objs.size≤a) (new:ObjOk P w (upd H a o) h' a o):HOk P w (upd H a o) h':=fun b u e=>by
 have hn:=x.fresh hp
 by_cases hb:b=a
 ·subst hb;rw [qAA] at e;cases e;exact new
 ·rw [qAB hb] at e
  exact (x b u e).stay (fun c v _ q=>k c v q) (fun c q=>by rw [qAB (ne_of_none q hn)];exact q) fun c xs q=>by rw [qAB (ne_of_none q hn)];exact q
end
noncomputable def Rd (H:Hp) (a:Addr) (u:HO):Prop:=H a=some u∨∃ o,H a=some (.frz o u)
theorem Rd.of {H:Hp} {a:Addr} {u:HO} (h:H a=some u):Rd H a u:=.inl h
theorem Rd.ok {P:Program} {w:World} {H:Hp} {h:Heap} {a:Addr} {u:HO} (r:Rd H a u) (x:HOk P w H h):ObjOk P w H h a u:=by
 rcases r with r | ⟨o,r⟩
 ·exact x a u r
 ·obtain ⟨_,q⟩:=x a _ r
  exact q
noncomputable def Mut:Option HO→Prop
 | some (.lst _)=>True
 | some (.dK _)=>True
 | some (.dT _)=>True
 | some (.set _ _)=>True
 | some (.ins _ _ _)=>True
 | some (.ext _)=>True
 | _=>False
section
variable {P:Program} {w:World} {H:Hp} {h h':Heap} {x e:Addr} {o':HO}
theorem HOk.write (ok:HOk P w H h) (mu:Mut (H x)) (he:e=x∨H e=some (.own x)) (k:∀ b u,b≠e→h.get? b=some u→h'.get? b=some u) (heo:∃ u,h'.get? e=some u)
    (new:ObjOk P w (upd H x o') h' x o'):HOk P w (upd H x o') h':=fun b u q=>by
  have nown:∀ c y,H c=some (.own y)→c≠x:=fun c y r z=>by subst z;rw [r] at mu;exact mu
  have ntup:∀ c xs,H c=some (.tup xs)→c≠x:=fun c xs r z=>by subst z;rw [r] at mu;exact mu
  by_cases hb:b=x
  · subst hb;rw [qAA] at q;cases q;exact new
  · rw [qAB hb] at q
    by_cases hbe:b=e
    · have q':H b=some (.own x):=by
        rcases he with z | z
        · exact absurd (hbe.trans z) hb
        · rw [hbe];exact z
      rw [q] at q';cases q'
      obtain ⟨v,hv⟩:=heo
      exact ⟨v,by rw [hbe];exact hv⟩
    · refine (ok b u q).stay (fun c v hc r=>k c v ?_ r) (fun c r=>by rw [qAB (nown c b r)];exact r) fun c xs r=>by rw [qAB (ntup c xs r)];exact r
      rcases hc with rfl | hc
      · exact hbe
      · rintro rfl
        rcases he with z | z
        · exact nown c b hc z
        · rw [hc] at z;cases z;exact hb rfl
end
structure Un (fs ex:List Addr) (H H':Hp) (h h':Heap):Prop where
 keep:∀ b o,h.get? b=some o→H b=none→b∉fs→b∉ex→h'.get? b=some o
 slot:∀ b o,h.get? b=some o→H b=none→b∈fs→b∉ex→∃ sl,h'.get? b=some { o with slots:=sl }
 free:∀ b o,h.get? b=some o→H b=none→b∉ex→H' b=none
 there:∀ b o,h.get? b=some o→b∉ex→∃ o',h'.get? b=some o'
 tups:∀ b xs,H b=some (.tup xs)→H' b=some (.tup xs)
 frzs:∀ b o u,H b=some (.frz o u)→H' b=some (.frz o u)
 tbls:∀ b ps,H b=some (.tbl ps)→∃ more,H' b=some (.tbl (ps++more))
section
variable {fs fs' ex ex':List Addr} {H H1 H2:Hp} {h h1 h2 h':Heap} {a x e:Addr} {o:HO}
theorem Un.any (u:Un fs ex H H1 h h1) {b:Addr} {ob:Obj} (q:h.get? b=some ob) (n:H b=none) (hx:b∉ex):∃ sl,h1.get? b=some { ob with slots:=sl }:=by
 by_cases hb:b∈fs
 ·exact u.slot b ob q n hb hx
 ·exact ⟨ob.slots,u.keep b ob q n hb hx⟩
theorem Un.trans (a:Un fs ex H H1 h h1) (b:Un fs ex H1 H2 h1 h2):Un fs ex H H2 h h2 where
 keep:=fun c ob q n hc hx=>b.keep c ob (a.keep c ob q n hc hx) (a.free c ob q n hx) hc hx
 slot:=fun c ob q n hc hx=>by
  obtain ⟨sl,e1⟩:=a.slot c ob q n hc hx
  obtain ⟨sl',e2⟩:=b.slot c _ e1 (a.free c ob q n hx) hc hx
  exact ⟨sl',e2⟩
 free:=fun c ob q n hx=>by
  obtain ⟨o',e1⟩:=a.there c ob q hx
  exact b.free c o' e1 (a.free c ob q n hx) hx
 there:=fun c ob q hx=>by
  obtain ⟨o',e1⟩:=a.there c ob q hx
  exact b.there c o' e1 hx
 tups:=fun c xs q=>b.tups c xs (a.tups c xs q)
 frzs:=fun c ob xs q=>b.frzs c ob xs (a.frzs c ob xs q)
 tbls:=fun c ps q=>by
  obtain ⟨m1,e1⟩:=a.tbls c ps q
  obtain ⟨m2,e2⟩:=b.tbls c _ e1
  exact ⟨m1++m2,by rw [e2,Array.append_assoc]⟩
theorem Un.kept (k:∀ b u,h.get? b=some u→h'.get? b=some u):Un fs ex H H h h' :=
 ⟨fun b ob q _ _ _=>k b ob q,fun b ob q _ _ _=>⟨ob.slots,k b ob q⟩,fun _ _ _ n _=>n,fun b ob q _=>⟨ob,k b ob q⟩,fun _ _ q=>q,fun _ _ _ q=>q,fun _ ps q=>⟨#[],by rw [q];simp⟩⟩
theorem Un.refl:Un fs ex H H h h:=Un.kept fun _ _ q=>q
theorem Un.laid (k:∀ b u,h.get? b=some u→h'.get? b=some u) (hp:h.objs.size≤a) (hn:H a=none):Un fs ex H (upd H a o) h h' where
 keep:=fun b u q _ _ _=>k b u q
 slot:=fun b u q _ _ _=>⟨u.slots,k b u q⟩
 free:=fun b u q n _=>by rw [qAB (Nat.ne_of_lt (Nat.lt_of_lt_of_le (Heap.lt_size q) hp))];exact n
 there:=fun b u q _=>⟨u,k b u q⟩
 tups:=fun b xs q=>by rw [qAB (ne_of_none q hn)];exact q
 frzs:=fun b u xs q=>by rw [qAB (ne_of_none q hn)];exact q
 tbls:=fun b ps q=>⟨#[],by rw [qAB (ne_of_none q hn),q];simp⟩
theorem Un.write (mu:Mut (H x)) (he:e=x∨H e=some (.own x)) (k:∀ b u,b≠e→h.get? b=some u→h'.get? b=some u) (heo:∃ u,h'.get? e=some u):Un fs ex H (upd H x o) h h':=by
 have hx:∀ b,H b=none→b≠x:=fun b n z=>by subst z;rw [n] at mu;exact mu
 have hb:∀ b,H b=none→b≠e:=fun b n z=>by
  subst z
  rcases he with r | r
  ·exact hx b n r
  ·rw [n] at r;cases r
 have hm:∀ b u,H b=some u→¬ Mut (some u)→b≠x:=fun b u q nm z=>by subst z;rw [q] at mu;exact nm mu
 refine ⟨fun b u q n _ _=>k b u (hb b n) q,fun b u q n _ _=>⟨u.slots,k b u (hb b n) q⟩,fun b u q n _=>by rw [qAB (hx b n)];exact n,fun b u q _=>?_,
  fun b xs q=>by rw [qAB (hm b _ q fun z=>z)];exact q,fun b u xs q=>by rw [qAB (hm b _ q fun z=>z)];exact q,fun b ps q=>⟨#[],by rw [qAB (hm b _ q fun z=>z),q];simp⟩⟩
 by_cases hbe:b=e
 ·subst hbe;exact heo
 ·exact ⟨u,k b u hbe q⟩
theorem Un.mono (u:Un fs ex H H1 h h1) (hs:∀ b∈fs,b∈fs') (hx:∀ b∈ex,b∈ex'):Un fs' ex' H H1 h h1 :=
 ⟨fun b ob q n hb he=>u.keep b ob q n (fun z=>hb (hs b z)) fun z=>he (hx b z),fun _ _ q n _ he=>u.any q n fun z=>he (hx _ z),fun b ob q n he=>u.free b ob q n fun z=>he (hx b z),fun b ob q he=>u.there b ob q fun z=>he (hx b z),u.tups,u.frzs,u.tbls⟩
end
noncomputable def trk (h:Heap) (H:Hp):List Addr:=(List.range h.objs.size).filter fun a=>(H a).isSome
noncomputable def hidT (h:Heap) (H:Hp):Heap:=PySem.W.hideAll h (trk h H)
theorem qI4 (h:Heap) (H:Hp):(hidT h H).objs.size=h.objs.size:=PySem.W.hideAll_size _ _
theorem qKf {h:Heap} {H:Hp} {b:Addr} {o:Obj} (e:h.get? b=some o) (n:H b=none):(hidT h H).get? b=some o :=
 PySem.W.hideAll_get _ e fun hm=>by
  have q:(H b).isSome=true:=(List.mem_filter.mp hm).2
  rw [n] at q;simp at q
theorem qMI {h:Heap} {H:Hp} {b:Addr} {o:Obj} (e:(hidT h H).get? b=some o):h.get? b=some o∧H b=none:=by
 have e':h.get? b=some o:=PySem.W.of_hideAll (trk h H) e
 refine ⟨e',?_⟩
 cases q:H b with
 | none=>rfl
 | some x =>
  have hm:b∈trk h H:=List.mem_filter.mpr ⟨List.mem_range.mpr (Heap.lt_size e'),by simp [q]⟩
  have z:(hidT h H).get? b=none:=PySem.W.hideAll_none (trk h H) hm
  rw [z] at e;cases e
noncomputable def qNX (g h:Heap) (L:Addr):List (Addr × Obj):=(List.range h.objs.size).filterMap fun a=>if a=L∨(g.get? a).isSome=true then none else (h.get? a).map fun o=>(a,o)
noncomputable def rest (g h:Heap) (L d:Addr):List (Addr × Obj):=(qNX g h L).filter fun p=>decide (p.1≠d)
end L2
namespace L2
open PySem PySem.Spec PyProof.Rows
structure Mod (K:PySem.W.Frag) (mg:Str→Option Value) (base:Heap):Prop where
 kin:K.In base
 glob:base.Ns mainGlobals mg
 blt:∃ mb,base.Ns builtinsNs mb∧∀ x:Str,x≠"__name__"→mb x=bootBuiltins x
 nolimit:base.NoLimit
structure Cx where
 prog:Program
 w:World
 K:PySem.W.Frag
 mg:Str→Option Value
 base:Heap
 A:Around
 N:List Str
 s₀:Shared
 H₀:Hp
 env:Env
 outer:List Env
 stack:List Env
 ex:List Addr
 fn:Str→Bool
 calm:Bool
 pn:List (Addr × Obj)
 xe:Value→Shared→Prop
noncomputable def frs (l:List Env):List Addr:=l.filterMap (·.frame)
noncomputable abbrev Cx.fs (X:Cx):List Addr:=frs X.outer
noncomputable def Vis (sc:Scope) (x:Str):Prop:=sc.names.lookup x=some .local∨sc.names.lookup x=some .cell∨sc.names.lookup x=some .free
noncomputable def Loc (sc:Scope) (x:Str):Prop:=sc.names.lookup x=some .local∨sc.names.lookup x=some .cell
noncomputable def Look (env:Env) (h:Heap) (m:Str→Option Value) (x:Str) (u:Value):Prop :=
 (env.kindOf x=some .local∧m x=some u)∨((env.kindOf x=some .cell∨env.kindOf x=some .free)∧∃ c,env.cells.lookup x=some c∧h.IsCell c (some u))
structure Cx.Ok (X:Cx):Prop where
 mod:Mod X.K X.mg X.base
 kind:X.env.scope.kind=.function
 glob:X.env.globals=mainGlobals
 blt:X.env.builtins=builtinsNs
 above:X.s₀.heap.objs.size≤X.env.locals
 inj:∀ x y c,X.env.cells.lookup x=some c→X.env.cells.lookup y=some c→x=y
 has:∀ x,(X.env.kindOf x=some .cell∨X.env.kindOf x=some .free)→∃ c,X.env.cells.lookup x=some c
 cab:∀ x c,X.fn x=true→X.env.cells.lookup x=some c→X.s₀.heap.objs.size≤c
 hd:X.calm=true→X.A.handled=none
 frames:X.A.frames=some X.stack
 stk:X.stack=X.outer∨(X.stack=X.env::X.outer∧X.env.frame=some X.env.locals)
 exf:∀ b∈X.ex,b≠X.env.locals∧∀ x c,X.env.cells.lookup x=some c→c≠b
 bs:∀ b o,X.base.get? b=some o→X.s₀.heap.get? b=some o∧X.H₀ b=none
 bsz:X.base.objs.size≤X.s₀.heap.objs.size
 noex:∀ b o,X.base.get? b=some o→b∉X.ex
 exfs:∀ b∈X.ex,b∉X.fs
 funs:X.s₀.heap.FunFrames X.base X.outer
 frf:∀ b∈X.fs,X.H₀ b=none
structure Inv (X:Cx) (pins:List (Addr × Obj)) (σ:List (Option V)) (H:Hp) (s:Shared):Prop where
 ok:X.Ok
 os:s.os=X.s₀.os
 bare:AllBare s.gens
 base:Un X.fs X.ex X.H₀ H X.s₀.heap s.heap
 loc:∃ m,s.heap.Ns X.env.locals m∧∀ (i:Nat) (x:Str) (v:V),X.N[i]?=some x→σ[i]?=some (some v)→Vis X.env.scope x→∃ u,RelV v u∧Look X.env s.heap m x u
 cell:∀ x c,X.env.cells.lookup x=some c→∃ v,s.heap.IsCell c v
 free:H X.env.locals=none
 freeC:∀ x c,X.env.cells.lookup x=some c→H c=none
 pin:∀ p∈X.pn++pins,s.heap.get? p.1=some p.2∧H p.1=none∧p.1≠X.env.locals∧p.1∉X.fs∧∀ v,p.2.data≠.cell v
 hok:HOk X.prog X.w H s.heap
 len:σ.length=X.N.length
section
variable {X:Cx} {pins:List (Addr × Obj)} {σ:List (Option V)} {H H':Hp} {s:Shared} {h':Heap}
theorem Cx.Ok.nofr (ok:X.Ok) {b:Addr} {o:Obj} (e:X.base.get? b=some o):b∉X.fs:=fun hb=>by
 have:=(ok.funs.mem hb).1
 rw [e] at this;cases this
theorem Inv.bs (I:Inv X pins σ H s):∀ b o,X.base.get? b=some o→s.heap.get? b=some o∧H b=none:=fun b o e =>
 ⟨I.base.keep b o (I.ok.bs b o e).1 (I.ok.bs b o e).2 (I.ok.nofr e) (I.ok.noex b o e),I.base.free b o (I.ok.bs b o e).1 (I.ok.bs b o e).2 (I.ok.noex b o e)⟩
theorem Inv.bk (I:Inv X pins σ H s):∀ b o,X.base.get? b=some o→s.heap.get? b=some o:=fun b o e=>(I.bs b o e).1
theorem Inv.mod (I:Inv X pins σ H s):Mod X.K X.mg X.base:=I.ok.mod
theorem Inv.kIn (I:Inv X pins σ H s):X.K.In s.heap:=I.ok.mod.kin.keeps I.bk
theorem Inv.nolimit (I:Inv X pins σ H s):s.heap.NoLimit:=I.ok.mod.nolimit.keeps I.bk
theorem Inv.fr (I:Inv X pins σ H s):∃ m,Fr X.base X.env.locals s.heap m :=
 let ⟨m,hn,_⟩:=I.loc
 ⟨m,hn,I.bk,Nat.le_trans I.ok.bsz I.ok.above⟩
theorem Inv.lt (I:Inv X pins σ H s):X.env.locals<s.heap.objs.size:=let ⟨_,hn,_⟩:=I.loc;hn.lt
theorem Inv.sz (I:Inv X pins σ H s):X.s₀.heap.objs.size≤s.heap.objs.size:=Nat.le_trans I.ok.above (Nat.le_of_lt I.lt)
theorem Inv.nofs (I:Inv X pins σ H s) {a:Addr} (h:s.heap.objs.size≤a):a∉X.fs:=fun hb=>by
 obtain ⟨_,o,ho,_⟩:=I.ok.funs.mem hb
 exact absurd (Nat.lt_of_lt_of_le (Heap.lt_size ho) (Nat.le_trans I.sz h)) (Nat.lt_irrefl _)
theorem Inv.cne (I:Inv X pins σ H s):∀ x c,X.env.cells.lookup x=some c→c≠X.env.locals:=fun x c e z=>by
 obtain ⟨v,o,ho,hd⟩:=I.cell x c e
 obtain ⟨m,⟨o',es,ep,ho',hd',_⟩,_⟩:=I.loc
 rw [z,ho'] at ho;cases ho;rw [hd'] at hd;cases hd
theorem Inv.funs (I:Inv X pins σ H s):s.heap.FunFrames X.base X.outer:=by
 have all:∀ (l:List Env),(∀ b∈frs l,b∈X.fs)→X.s₀.heap.FunFrames X.base l→s.heap.FunFrames X.base l:=by
  intro l
  induction l with
  | nil=>intro _ _;trivial
  | cons env r ih =>
   intro hs hl
   obtain ⟨hk,⟨L,o,hf,hn,ho,hd⟩,hr⟩:=hl
   have hL:L∈X.fs:=hs L (by unfold frs;rw [List.filterMap_cons,hf];exact List.mem_cons_self)
   obtain ⟨sl,e⟩:=I.base.slot L o ho (I.ok.frf L hL) hL fun z=>I.ok.exfs L z hL
   exact ⟨hk,⟨L,_,hf,hn,e,hd⟩,ih (fun b hb=>hs b (by unfold frs;rw [List.filterMap_cons,hf];exact List.mem_cons_of_mem _ hb)) hr⟩
 exact all X.outer (fun _ hb=>hb) I.ok.funs
theorem Inv.stack (I:Inv X pins σ H s):s.heap.FunFrames X.base X.stack:=by
 rcases I.ok.stk with e | ⟨e,hf⟩
 ·rw [e];exact I.funs
 ·rw [e]
  obtain ⟨m,hn,_⟩:=I.loc
  refine .cons (by rw [I.ok.kind];decide) hf hn ?_ I.funs
  exact Heap.get?_none_of_le (Nat.le_trans I.ok.bsz I.ok.above)
theorem Inv.stkSub (I:Inv X pins σ H s):∀ b∈frs X.stack,b∈X.env.locals::X.fs:=fun b hb=>by
 rcases I.ok.stk with e | ⟨e,hf⟩
 ·rw [e] at hb;exact List.mem_cons_of_mem _ hb
 ·rw [e] at hb
  unfold frs at hb
  rw [List.filterMap_cons,hf] at hb
  exact hb
theorem Inv.stkFree (I:Inv X pins σ H s):∀ b∈frs X.stack,H b=none:=fun b hb=>by
 rcases List.mem_cons.mp (I.stkSub b hb) with e | hb
 ·rw [e];exact I.free
 ·obtain ⟨_,o,ho,_⟩:=I.ok.funs.mem hb
  exact I.base.free b o ho (I.ok.frf b hb) fun z=>I.ok.exfs b z hb
theorem Inv.step {g':Array GenState} {t':Nat} {d':Drawn} {ch:List Addr} (I:Inv X pins σ H s)
    (hch:∀ b∈ch,(b∈X.ex∨X.s₀.heap.objs.size≤b)∧b≠X.env.locals∧(∀ x c,X.env.cells.lookup x=some c→c≠b)∧∀ p∈X.pn++pins,p.1≠b)
    (keep:∀ b o,b≠X.env.locals→b∉X.fs→b∉ch→s.heap.get? b=some o→H b=none→h'.get? b=some o)
    (slot:∀ b o,b≠X.env.locals→b∈X.fs→b∉ch→s.heap.get? b=some o→H b=none→∃ sl,h'.get? b=some { o with slots:=sl }) (free:∀ b o,b∉ch→s.heap.get? b=some o→H b=none→H' b=none)
    (there:∀ b o,b∉ch→s.heap.get? b=some o→∃ o',h'.get? b=some o')
    (tups:∀ b xs,H b=some (.tup xs)→H' b=some (.tup xs)) (frzs:∀ b o u,H b=some (.frz o u)→H' b=some (.frz o u)) (tbls:∀ b ps,H b=some (.tbl ps)→∃ more,H' b=some (.tbl (ps++more)))
    (ns:∀ m,s.heap.Ns X.env.locals m→h'.Ns X.env.locals m) (hok:HOk X.prog X.w H' h') (hg:AllBare g') :
    Inv X pins σ H' { s with heap:=h',gens:=g',drawn:=d',toks:=t' }:=by
  have neL:∀ b o,X.s₀.heap.get? b=some o→b≠X.env.locals:=fun b o e=>Nat.ne_of_lt (Nat.lt_of_lt_of_le (Heap.lt_size e) I.ok.above)
  have neC:∀ b o,X.s₀.heap.get? b=some o→b∉X.ex→b∉ch:=fun b o e hx hb=>by
    rcases (hch b hb).1 with z | z
    · exact hx z
    · exact absurd (Nat.lt_of_lt_of_le (Heap.lt_size e) z) (Nat.lt_irrefl _)
  have cellK:∀ x c,X.env.cells.lookup x=some c→∀ v,s.heap.IsCell c v→h'.IsCell c v:=fun x c e v ⟨o,ho,hd⟩=>by
    have nch:c∉ch:=fun z=>(hch c z).2.2.1 x c e rfl
    by_cases hc:c∈X.fs
    · obtain ⟨sl,q⟩:=slot c o (I.cne x c e) hc nch ho (I.freeC x c e)
      exact ⟨_,q,hd⟩
    · exact ⟨o,keep c o (I.cne x c e) hc nch ho (I.freeC x c e),hd⟩
  refine ⟨I.ok,I.os,hg,⟨fun b o e n hb hx=>?_,fun b o e n hb hx=>?_,fun b o e n hx=>?_,fun b o e hx=>?_,fun b xs e=>tups b xs (I.base.tups b xs e),fun b o xs e=>frzs b o xs (I.base.frzs b o xs e),fun b ps e=>?_⟩,?_,fun x c e=>?_,?_,fun x c e=>?_,fun p hp=>?_,hok,I.len⟩
  · exact keep b o (neL b o e) hb (neC b o e hx) (I.base.keep b o e n hb hx) (I.base.free b o e n hx)
  · obtain ⟨sl,e1⟩:=I.base.slot b o e n hb hx
    obtain ⟨sl',e2⟩:=slot b _ (neL b o e) hb (neC b o e hx) e1 (I.base.free b o e n hx)
    exact ⟨sl',e2⟩
  · obtain ⟨o',e1⟩:=I.base.there b o e hx
    exact free b o' (neC b o e hx) e1 (I.base.free b o e n hx)
  · obtain ⟨o',e1⟩:=I.base.there b o e hx
    exact there b o' (neC b o e hx) e1
  · obtain ⟨m1,e1⟩:=I.base.tbls b ps e
    obtain ⟨m2,e2⟩:=tbls b _ e1
    exact ⟨m1++m2,by rw [e2,Array.append_assoc]⟩
  · obtain ⟨m,hn,hl⟩:=I.loc
    refine ⟨m,ns m hn,fun i x v e1 e2 e3=>?_⟩
    obtain ⟨u,r,l⟩:=hl i x v e1 e2 e3
    refine ⟨u,r,?_⟩
    rcases l with l | ⟨k,c,e,z⟩
    · exact .inl l
    · exact .inr ⟨k,c,e,cellK x c e _ z⟩
  · obtain ⟨v,z⟩:=I.cell x c e
    exact ⟨v,cellK x c e v z⟩
  · obtain ⟨m,⟨o,_,_,ho,_⟩,_⟩:=I.loc
    exact free _ o (fun z=>(hch _ z).2.1 rfl) ho I.free
  · obtain ⟨v,o,ho,hd⟩:=I.cell x c e
    exact free c o (fun z=>(hch c z).2.2.1 x c e rfl) ho (I.freeC x c e)
  · obtain ⟨e,n,ne,nf,d⟩:=I.pin p hp
    have nch:p.1∉ch:=fun z=>(hch p.1 z).2.2.2 p hp rfl
    exact ⟨keep p.1 p.2 ne nf nch e n,free p.1 p.2 nch e n,ne,nf,d⟩
theorem Inv.un {t':Nat} (I:Inv X pins σ H s) (u:Un X.fs [] H H' s.heap h') (hok:HOk X.prog X.w H' h'):Inv X pins σ H' { s with heap:=h',toks:=t' }:=by
 obtain ⟨m,⟨o,es,ep,ho,r⟩,_⟩:=id I.loc
 obtain ⟨sl,hL⟩:=u.any ho I.free (by simp)
 exact I.step (g':=s.gens) (d':=s.drawn) (ch:=[]) (fun _ z=>nomatch z) (fun b o _ hb _ e n=>u.keep b o e n hb (by simp)) (fun b o _ hb _ e n=>u.slot b o e n hb (by simp)) (fun b o _ e n=>u.free b o e n (by simp)) (fun b o _ e=>u.there b o e (by simp)) u.tups u.frzs u.tbls (fun m' hm=>by
  obtain ⟨o',es',ep',ho',r'⟩:=hm
  rw [ho] at ho';cases ho'
  exact ⟨_,es',ep',hL,r'⟩) hok I.bare
theorem Inv.call {g':Array GenState} {t':Nat} {d':Drawn} {ch:List Addr} (I:Inv X pins σ H s) (u:Un (frs X.stack) ch H H' s.heap h') (hok:HOk X.prog X.w H' h') (hg:AllBare g')
    (hch:∀ b∈ch,(b∈X.ex∨X.s₀.heap.objs.size≤b)∧b≠X.env.locals∧(∀ x c,X.env.cells.lookup x=some c→c≠b)∧∀ p∈X.pn++pins,p.1≠b) :
    Inv X pins σ H' { s with heap:=h',gens:=g',drawn:=d',toks:=t' }:=by
  obtain ⟨m,⟨o,es,ep,ho,r⟩,_⟩:=id I.loc
  obtain ⟨sl,hL⟩:=u.any ho I.free fun z=>(hch _ z).2.1 rfl
  exact I.step (ch:=ch) hch (fun b o hL hb hc e n=>u.keep b o e n (fun z=>(List.mem_cons.mp (I.stkSub b z)).elim hL hb) hc) (fun b o _ _ hc e n=>u.any e n hc) (fun b o hc e n=>u.free b o e n hc) (fun b o hc e=>u.there b o e hc) u.tups u.frzs u.tbls (fun m' hm=>by
    obtain ⟨o',es',ep',ho',r'⟩:=hm
    rw [ho] at ho';cases ho'
    exact ⟨_,es',ep',hL,r'⟩) hok hg
theorem Inv.turned {t':Nat} {it:Addr} (I:Inv X pins σ H s) (k:∀ b o,b≠it→s.heap.get? b=some o→h'.get? b=some o) (hn:H it=none) (hL:it≠X.env.locals)
    (h1:it∈X.ex∨X.s₀.heap.objs.size≤it) (h2:∀ x c,X.env.cells.lookup x=some c→c≠it) (h3:∀ p∈X.pn++pins,p.1≠it):Inv X pins σ H { s with heap:=h',toks:=t' }:=by
  have nit:∀ b u,H b=some u→b≠it:=fun b u e z=>by rw [z,hn] at e;cases e
  refine I.step (g':=s.gens) (d':=s.drawn) (ch:=[it]) (fun b hb=>?_) (fun b o _ _ hc e _=>k b o (fun z=>hc (by simp [z])) e) (fun b o _ _ hc e _=>⟨o.slots,k b o (fun z=>hc (by simp [z])) e⟩) (fun _ _ _ _ n=>n)
    (fun b o hc e=>⟨o,k b o (fun z=>hc (by simp [z])) e⟩) (fun _ _ e=>e) (fun _ _ _ e=>e) (fun b ps e=>⟨#[],by rw [e];simp⟩) (fun m hm=>?_) (fun b u e=>?_) I.bare
  · have e:b=it:=by simpa using hb
    subst e
    exact ⟨h1,hL,h2,h3⟩
  · obtain ⟨o,es,ep,ho,r⟩:=hm
    exact ⟨o,es,ep,k _ o (Ne.symm hL) ho,r⟩
  · refine (I.hok b u e).stay (fun c v hc q=>k c v ?_ q) (fun _ q=>q) fun _ _ q=>q
    rcases hc with z | z
    · rw [z];exact nit b u e
    · exact nit c _ z
theorem Inv.tok (I:Inv X pins σ H s) (t:Nat):Inv X pins σ H { s with toks:=t }:=I.un (h':=s.heap) (t':=t) Un.refl I.hok
theorem Inv.kept {t':Nat} (I:Inv X pins σ H s) (k:∀ b u,s.heap.get? b=some u→h'.get? b=some u):Inv X pins σ H { s with heap:=h',toks:=t' }:=I.un (Un.kept k) (I.hok.kept k)
theorem Inv.laid {a:Addr} {o:HO} {t':Nat} (I:Inv X pins σ H s) (k:∀ b u,s.heap.get? b=some u→h'.get? b=some u) (hp:s.heap.objs.size≤a) (new:ObjOk X.prog X.w (upd H a o) h' a o) :
    Inv X pins σ (upd H a o) { s with heap:=h',toks:=t' }:=I.un (Un.laid k hp (I.hok.fresh hp)) (I.hok.laid k hp new)
theorem Inv.write {x e:Addr} {o:HO} {t':Nat} (I:Inv X pins σ H s) (mu:Mut (H x)) (he:e=x∨H e=some (.own x)) (k:∀ b u,b≠e→s.heap.get? b=some u→h'.get? b=some u) (heo:∃ u,h'.get? e=some u)
    (new:ObjOk X.prog X.w (upd H x o) h' x o):Inv X pins σ (upd H x o) { s with heap:=h',toks:=t' }:=I.un (Un.write mu he k heo) (I.hok.write mu he k heo new)
theorem Inv.weak {σ':List (Option V)} (I:Inv X pins σ H s) (hl:σ'.length=σ.length) (w:∀ (i:Nat) v,σ'[i]?=some (some v)→σ[i]?=some (some v)):Inv X pins σ' H s :=
 ⟨I.ok,I.os,I.bare,I.base,let ⟨m,hn,hl'⟩:=I.loc;⟨m,hn,fun i x v e1 e2 e3=>hl' i x v e1 (w i v e2) e3⟩,I.cell,I.free,I.freeC,I.pin,I.hok,hl.trans I.len⟩
theorem Inv.pins_of {pins':List (Addr × Obj)} (I:Inv X pins σ H s) (h:∀ p∈pins',s.heap.get? p.1=some p.2∧H p.1=none∧p.1≠X.env.locals∧p.1∉X.fs∧∀ v,p.2.data≠.cell v):Inv X pins' σ H s :=
 ⟨I.ok,I.os,I.bare,I.base,I.loc,I.cell,I.free,I.freeC,fun p hp=>(List.mem_append.mp hp).elim (fun z=>I.pin p (List.mem_append_left _ z)) (h p),I.hok,I.len⟩
theorem qG7 {N:List Str} (hN:N.Nodup) {i j:Nat} {x:Str} (a:N[i]?=some x) (b:N[j]?=some x):i=j:=by
 obtain ⟨h1,e1⟩:=List.getElem?_eq_some_iff.mp a
 obtain ⟨h2,e2⟩:=List.getElem?_eq_some_iff.mp b
 exact (List.getElem_inj hN).mp (e1.trans e2.symm)
theorem qIB {M:Model} {A:Around} {E:Value→Shared→Prop} {i:Nat} {x:Str} {v:V} {u:Value} {Q:Unit→Shared→Prop} (I:Inv X pins σ H s) (hN:X.N.Nodup) (hi:X.N[i]?=some x) (hx:Loc X.env.scope x) (r:RelV v u)
    (h:∀ s',Inv X pins (σ.set i (some v)) H s'→(∃ a,Heap.SameBut a s.heap s'.heap∧(a=X.env.locals∨X.env.cells.lookup x=some a))→Q () s') (hf:X.fn x=true∨X.env.scope.names.lookup x=some .local:=by first | exact .inl rfl | exact .inr rfl | assumption):wpAny M A (storeName X.env x u) Q E s:=by
  obtain ⟨m,hn,hl⟩:=id I.loc
  have hcls:(X.env.scope.kind == .class || (X.env.scope.kind == .module&&X.env.locals != X.env.globals))=false:=by rw [I.ok.kind];rfl
  have hiσ:i<σ.length:=by rw [I.len];exact (List.getElem?_eq_some_iff.mp hi).1
  have cne:=I.cne
  have tracked:∀ {a:Addr} {h':Heap},(∃ o,s.heap.get? a=some o∧H a=none)→Heap.SameBut a s.heap h'→HOk X.prog X.w H h':=fun {a h'} ha hs b ob e=>by
    obtain ⟨_,_,hfree⟩:=ha
    refine (I.hok b ob e).stay (fun c w' hc q=>(hs.2 c ?_).trans q) (fun _ q=>q) fun _ _ q=>q
    rintro rfl
    rcases hc with rfl | hc
    · rw [hfree] at e;cases e
    · rw [hfree] at hc;cases hc
  rcases hx with hk | hk
  · refine wpAny_storeName_local hk hn (fun h' hn' hs=>?_) hcls
    obtain ⟨oL,_,_,hoL,_⟩:=id hn
    refine h _ ⟨I.ok,I.os,I.bare,⟨fun b o e n hb hx=>?_,fun b o e n hb hx=>?_,I.base.free,fun b o e hx=>?_,I.base.tups,I.base.frzs,I.base.tbls⟩,⟨_,hn',fun j y v' e1 e2 e3=>?_⟩,fun y c e=>?_,I.free,I.freeC,fun p hp=>?_,tracked ⟨oL,hoL,I.free⟩ hs,by simpa using I.len⟩ ⟨_,hs,.inl rfl⟩
    · exact (hs.2 b (Nat.ne_of_lt (Nat.lt_of_lt_of_le (Heap.lt_size e) I.ok.above))).trans (I.base.keep b o e n hb hx)
    · obtain ⟨sl,e1⟩:=I.base.slot b o e n hb hx
      exact ⟨sl,(hs.2 b (Nat.ne_of_lt (Nat.lt_of_lt_of_le (Heap.lt_size e) I.ok.above))).trans e1⟩
    · obtain ⟨o',e1⟩:=I.base.there b o e hx
      exact ⟨o',(hs.2 b (Nat.ne_of_lt (Nat.lt_of_lt_of_le (Heap.lt_size e) I.ok.above))).trans e1⟩
    · by_cases hj:j=i
      · subst hj
        rw [hi] at e1;cases e1
        rw [List.getElem?_set_self hiσ] at e2
        cases e2
        exact ⟨u,r,.inl ⟨hk,by simp⟩⟩
      · rw [List.getElem?_set_ne (Ne.symm hj)] at e2
        obtain ⟨u',r',q⟩:=hl j y v' e1 e2 e3
        refine ⟨u',r',?_⟩
        rcases q with ⟨k,e⟩ | ⟨k,c,e,z⟩
        · refine .inl ⟨k,?_⟩
          have:y≠x:=fun e=>hj (qG7 hN e1 (e ▸ hi))
          simp [this,e]
        · exact .inr ⟨k,c,e,z.sameBut hs (cne y c e)⟩
    · obtain ⟨w',z⟩:=I.cell y c e
      exact ⟨w',z.sameBut hs (cne y c e)⟩
    · obtain ⟨e,n,ne,nf,d⟩:=I.pin p hp
      exact ⟨(hs.2 p.1 ne).trans e,n,ne,nf,d⟩
  · have hfn:X.fn x=true:=by
      rcases hf with z | z
      · exact z
      · rw [z] at hk;cases hk
    obtain ⟨c,hc⟩:=I.ok.has x (.inl hk)
    obtain ⟨w',z⟩:=I.cell x c hc
    refine wpAny_storeName_cell I.ok.kind hk hc z (fun h' hc' hs=>?_)
    obtain ⟨oc,hoc,hocd⟩:=id z
    refine h { s with heap:=h' } ⟨I.ok,I.os,I.bare,⟨fun b o e n hb hx=>?_,fun b o e n hb hx=>?_,I.base.free,fun b o e hx=>?_,I.base.tups,I.base.frzs,I.base.tbls⟩,⟨m,hn.sameBut hs (Ne.symm (cne x c hc)),fun j y v' e1 e2 e3=>?_⟩,fun y c' e=>?_,I.free,I.freeC,fun p hp=>?_,tracked ⟨oc,hoc,I.freeC x c hc⟩ hs,by simpa using I.len⟩ ⟨c,hs,.inr hc⟩
    · exact (hs.2 b (Nat.ne_of_lt (Nat.lt_of_lt_of_le (Heap.lt_size e) (I.ok.cab x c hfn hc)))).trans (I.base.keep b o e n hb hx)
    · obtain ⟨sl,e1⟩:=I.base.slot b o e n hb hx
      exact ⟨sl,(hs.2 b (Nat.ne_of_lt (Nat.lt_of_lt_of_le (Heap.lt_size e) (I.ok.cab x c hfn hc)))).trans e1⟩
    · obtain ⟨o',e1⟩:=I.base.there b o e hx
      exact ⟨o',(hs.2 b (Nat.ne_of_lt (Nat.lt_of_lt_of_le (Heap.lt_size e) (I.ok.cab x c hfn hc)))).trans e1⟩
    · by_cases hj:j=i
      · subst hj
        rw [hi] at e1;cases e1
        rw [List.getElem?_set_self hiσ] at e2
        cases e2
        exact ⟨u,r,.inr ⟨.inl hk,c,hc,hc'⟩⟩
      · rw [List.getElem?_set_ne (Ne.symm hj)] at e2
        obtain ⟨u',r',q⟩:=hl j y v' e1 e2 e3
        refine ⟨u',r',?_⟩
        rcases q with q | ⟨k,c',e,z'⟩
        · exact .inl q
        · refine .inr ⟨k,c',e,z'.sameBut hs ?_⟩
          rintro rfl
          exact hj (qG7 hN e1 (I.ok.inj _ _ _ e hc ▸ hi))
    · by_cases hcc:c'=c
      · subst hcc;exact ⟨_,hc'⟩
      · obtain ⟨w2,z2⟩:=I.cell y c' e
        exact ⟨w2,z2.sameBut hs hcc⟩
    · obtain ⟨e,n,ne,nf,d⟩:=I.pin p hp
      refine ⟨(hs.2 p.1 ?_).trans e,n,ne,nf,d⟩
      intro q
      rw [q,hoc] at e
      have q':oc=p.2:=Option.some.inj e
      exact d w' (by rw [← q'];exact hocd)
theorem store_ok {M:Model} {A:Around} {E:Value→Shared→Prop} {i:Nat} {x:Str} {v:V} {u:Value} {Q:Unit→Shared→Prop} (I:Inv X pins σ H s) (hN:X.N.Nodup) (hi:X.N[i]?=some x) (hx:Loc X.env.scope x) (r:RelV v u)
    (h:∀ s',Inv X pins (σ.set i (some v)) H s'→Q () s') (hf:X.fn x=true∨X.env.scope.names.lookup x=some .local:=by first | exact .inl rfl | exact .inr rfl | assumption):wpAny M A (storeName X.env x u) Q E s :=
  qIB I hN hi hx r (fun s' I' _=>h s' I') hf
theorem Inv.call' {s':Shared} {ch:List Addr} (I:Inv X pins σ H s) (ho:s'.os=s.os) (u:Un (frs X.stack) ch H H' s.heap s'.heap) (hok:HOk X.prog X.w H' s'.heap) (hg:AllBare s'.gens)
    (hch:∀ b∈ch,(b∈X.ex∨X.s₀.heap.objs.size≤b)∧b≠X.env.locals∧(∀ x c,X.env.cells.lookup x=some c→c≠b)∧∀ p∈X.pn++pins,p.1≠b):Inv X pins σ H' s':=by
  obtain ⟨h',g',d',t',o'⟩:=s'
  have e:o'=s.os:=ho
  subst e
  exact I.call (g':=g') (t':=t') (d':=d') u hok hg hch
end
noncomputable abbrev XK:=Value→Option Addr→Hp→Prop
noncomputable abbrev St:=List (Option V)
noncomputable abbrev VK:=V→Hp→Prop
noncomputable abbrev TE:=St→Hp→VK→Prop
noncomputable abbrev TT:=St→Hp→(Bool→Hp→Prop)→Prop
noncomputable abbrev TA:=St→Hp→(List V→Hp→Prop)→Prop
structure Ends where
 nx:St→Hp→Prop
 rt:VK
 bk:St→Hp→Prop:=fun _ _=>False
 ct:St→Hp→Prop:=fun _ _=>False
noncomputable abbrev TS:=Ends→St→Hp→Prop
noncomputable def EP (X:Cx) (pins:List (Addr × Obj)) (σ:St) (Q:VK) (u:Value) (s':Shared):Prop:=∃ v H',Inv X pins σ H' s'∧RelV v u∧Q v H'
noncomputable def TP (X:Cx) (pins:List (Addr × Obj)) (σ:St) (Q:Bool→Hp→Prop) (b:Bool) (s':Shared):Prop:=∃ H',Inv X pins σ H' s'∧Q b H'
noncomputable def AP (X:Cx) (pins:List (Addr × Obj)) (σ:St) (Q:List V→Hp→Prop) (us:List Value) (s':Shared):Prop:=∃ vs H',Inv X pins σ H' s'∧Vals vs us∧Q vs H'
noncomputable def SP (X:Cx) (pins:List (Addr × Obj)) (D:Ends) (f:Flow) (s':Shared):Prop :=
 match f with
 | .next=>∃ σ' H',Inv X pins σ' H' s'∧D.nx σ' H'
 | .brk=>∃ σ' H',Inv X pins σ' H' s'∧D.bk σ' H'
 | .cont=>∃ σ' H',Inv X pins σ' H' s'∧D.ct σ' H'
 | .ret u=>∃ v σ' H',Inv X pins σ' H' s'∧RelV v u∧D.rt v H'
noncomputable def PE (X:Cx) (e:Expr) (t:TE):Prop :=
 ∀ (pins:List (Addr × Obj)) (s:Shared) (σ:St) (H:Hp) (Q:VK),Inv X pins σ H s→t σ H Q→wpAny (model X.prog X.w) X.A (eval e X.env) (EP X pins σ Q) X.xe s
noncomputable def PT (X:Cx) (e:Expr) (t:TT):Prop :=
 ∀ (pins:List (Addr × Obj)) (s:Shared) (σ:St) (H:Hp) (Q:Bool→Hp→Prop),Inv X pins σ H s→t σ H Q→wpAny (model X.prog X.w) X.A (isTrue e X.env (eval e X.env)) (TP X pins σ Q) X.xe s
noncomputable def PW (X:Cx) (e:Expr) (t:TT):Prop :=
 ∀ (whole:Sem Value) (pins:List (Addr × Obj)) (s:Shared) (σ:St) (H:Hp) (Q:Bool→Hp→Prop),Inv X pins σ H s→t σ H Q→wpAny (model X.prog X.w) X.A (isTrue e X.env whole) (TP X pins σ Q) X.xe s
theorem PW.pt {X:Cx} {e:Expr} {t:TT} (h:PW X e t):PT X e t:=h _
noncomputable def PA (X:Cx) (es:List Expr) (t:TA):Prop :=
 ∀ (pos:Pos) (pins:List (Addr × Obj)) (s:Shared) (σ:St) (H:Hp) (Q:List V→Hp→Prop),Inv X pins σ H s→t σ H Q→wpAny (model X.prog X.w) X.A (spliced (backTo pos (starEach es X.env))) (AP X pins σ Q) X.xe s
noncomputable def PS (X:Cx) (st:Stmt) (t:TS):Prop :=
 ∀ (pins:List (Addr × Obj)) (s:Shared) (σ:St) (H:Hp) (D:Ends),Inv X pins σ H s→t D σ H→wpAny (model X.prog X.w) X.A (exec st X.env) (SP X pins D) X.xe s
noncomputable def PSs (X:Cx) (st:List Stmt) (t:TS):Prop :=
 ∀ (pins:List (Addr × Obj)) (s:Shared) (σ:St) (H:Hp) (D:Ends),Inv X pins σ H s→t D σ H→wpAny (model X.prog X.w) X.A (execs st X.env) (SP X pins D) X.xe s
theorem thn {α:Type} {t:Sem α} {Q Q':α→Shared→Prop} {M:Model} {A:Around} {E:Value→Shared→Prop} {s:Shared} (h:wpAny M A t Q E s) (hQ:∀ a s,Q a s→Q' a s):wpAny M A t Q' E s:=wpAny_mono h hQ fun _ _ x=>x
end L2
namespace L2
open PySem PySem.Spec PyProof.Rows
section
variable {X:Cx}
noncomputable def tVar (i:Nat):TE:=fun σ H Q=>∃ v,σ[i]?=some (some v)∧Q v H
noncomputable def tC (v:V):TE:=fun _ H Q=>Q v H
theorem pe_var {i:Nat} {x:Str} {pos:Pos} (hN:X.N[i]?=some x) (hv:Vis X.env.scope x) (hd:(x == ("__debug__":Str))=false:=by decide) (hcd:(x == ("__classdict__":Str))=false:=by decide):PE X (.Name x pos) (tVar i):=by
 intro pins s σ H Q I h
 obtain ⟨v,e,h⟩:=h
 obtain ⟨m,hn,hl⟩:=I.loc
 obtain ⟨u,r,l⟩:=hl i x v hN e hv
 have fin:EP X pins σ Q u s:=⟨v,H,I,r,h⟩
 rcases l with ⟨hk,hm⟩ | ⟨hk,c,hc,hcell⟩
 ·exact wpAny_Name (wpAny_loadName_local I.ok.kind hk hn hm fin) hd
 ·rcases hk with hk | hk
  ·exact wpAny_Name (wpAny_loadName_cell I.ok.kind hk hc hcell fin) hd
  ·exact wpAny_Name (wpAny_loadName_free I.ok.kind hk hc hcell fin hcd) hd
theorem pe_int {i j pos}:PE X (.Constant (.int i) j pos) (tC (.int i)):=fun _ _ _ H _ I h=>wpAny_Constant_int ⟨.int i,H,I.tok _,⟨_,rfl⟩,h⟩
theorem pe_bl {b j pos}:PE X (.Constant (.bool b) j pos) (tC (.bl b)):=fun _ _ _ H _ I h=>Constant_bool ⟨.bl b,H,I,rfl,h⟩
theorem pe_non {j pos}:PE X (.Constant .none j pos) (tC .non):=fun _ _ _ H _ I h=>Constant_none ⟨.non,H,I,rfl,h⟩
theorem pe_str {x j pos}:PE X (.Constant (.str x) j pos) (tC (.str x)):=fun _ _ _ H _ I h=>Calls.Constant_str ⟨.str x,H,I.tok _,⟨_,rfl⟩,h⟩
noncomputable def Gl (X:Cx) (x:Str):Prop:=X.env.kindOf x=some .globalImplicit
theorem ld_glob {E:Value→Shared→Prop} {pins:List (Addr × Obj)} {s:Shared} {σ:St} {H:Hp} {x:Str} {u:Value} {pos:Pos} {Q:Value→Shared→Prop} (I:Inv X pins σ H s) (hg:Gl X x) (hm:X.mg x=some u) (h:Q u s)
    (hd:(x == ("__debug__":Str))=false:=by decide):wpAny (model X.prog X.w) X.A (eval (.Name x pos) X.env) Q E s :=
  Calls.Name_function_global I.ok.kind hg (Calls.loadGlobal_global (by rw [I.ok.glob];exact I.mod.glob.keeps I.bk) hm h) hd
theorem ld_blt {E:Value→Shared→Prop} {pins:List (Addr × Obj)} {s:Shared} {σ:St} {H:Hp} {x:Str} {u:Value} {pos:Pos} {Q:Value→Shared→Prop} (I:Inv X pins σ H s) (hg:Gl X x) (hm:X.mg x=none) (hv:bootBuiltins x=some u) (h:Q u s)
    (hn:x≠"__name__":=by decide) (hd:(x == ("__debug__":Str))=false:=by decide):wpAny (model X.prog X.w) X.A (eval (.Name x pos) X.env) Q E s:=by
  obtain ⟨mb,h1,h2⟩:=I.mod.blt
  exact Calls.Name_function_global I.ok.kind hg (Calls.loadGlobal_builtin (by rw [I.ok.glob];exact I.mod.glob.keeps I.bk) hm (by rw [I.ok.blt];exact h1.keeps I.bk) ((h2 x hn).trans hv) h) hd
theorem pe_glob {x:Str} {v:V} {u:Value} {pos:Pos} (hg:Gl X x) (hm:X.mg x=some u) (r:RelV v u) (hd:(x == ("__debug__":Str))=false:=by decide):PE X (.Name x pos) (tC v) :=
 fun _ _ _ H _ I h=>ld_glob I hg hm ⟨v,H,I,r,h⟩ hd
theorem pe_bltn {x:Str} {v:V} {u:Value} {pos:Pos} (hg:Gl X x) (hm:X.mg x=none) (hv:bootBuiltins x=some u) (r:RelV v u) (hn:x≠"__name__":=by decide) (hd:(x == ("__debug__":Str))=false:=by decide):PE X (.Name x pos) (tC v) :=
 fun _ _ _ H _ I h=>ld_blt I hg hm hv ⟨v,H,I,r,h⟩ hn hd
variable {a b:Expr} {ta tb:TE} {pos:Pos}
noncomputable def PC (X:Cx) (op:CmpOp) (a b:Expr) (t:TE):Prop :=
 ∀ (pins:List (Addr × Obj)) (s:Shared) (σ:St) (H:Hp) (Q:VK),Inv X pins σ H s→t σ H Q →
  wpAny (model X.prog X.w) X.A (eval a X.env) (fun v s₁=>wpAny (model X.prog X.w) X.A (eval b X.env) (fun u s₂=>wpAny (model X.prog X.w) X.A (compareOp op v u) (EP X pins σ Q) X.xe s₂) X.xe s₁) X.xe s
theorem qG8 (b:Expr) {op:CmpOp} (h:op≠.In) (h2:op≠.NotIn):behindInMarks op b=false:=by
 have e1:(op == CmpOp.In)=false:=by cases op <;> first | rfl | exact absurd rfl h
 have e2:(op == CmpOp.NotIn)=false:=by cases op <;> first | rfl | exact absurd rfl h2
 cases b <;> simp [behindInMarks,e1,e2]
noncomputable def tIsN (ta:TE):TE:=fun σ H Q=>ta σ H fun x H1=>Q (.bl (decide (x=.non))) H1
noncomputable def tNotN (ta:TE):TE:=fun σ H Q=>ta σ H fun x H1=>Q (.bl (!decide (x=.non))) H1
theorem RelV.none_iff {x:V} {v:Value} (r:RelV x v):(v == Value.none)=decide (x=.non):=by
 cases x with
 | non=>cases r;rfl
 | bl _=>cases r;rfl
 | int _=>obtain ⟨t,rfl⟩:=r;rfl
 | str _=>obtain ⟨t,rfl⟩:=r;rfl
 | byt _=>obtain ⟨t,rfl⟩:=r;rfl
 | flt _=>obtain ⟨t,rfl⟩:=r;rfl
 | ref _=>cases r;rfl
 | ty _=>cases r;rfl
theorem pc_isN {j pos'} (ha:PE X a ta):PC X .Is a (.Constant .none j pos') (tIsN ta):=by
 intro pins s σ H Q I h
 refine thn (ha pins s σ H _ I h) fun v s1 ⟨x,H1,I1,r1,q1⟩=>?_
 exact Constant_none (is_none_gen ⟨.bl _,H1,I1,by rw [r1.none_iff];rfl,q1⟩)
theorem pc_notN {j pos'} (ha:PE X a ta):PC X .IsNot a (.Constant .none j pos') (tNotN ta):=by
 intro pins s σ H Q I h
 refine thn (ha pins s σ H _ I h) fun v s1 ⟨x,H1,I1,r1,q1⟩=>?_
 exact Constant_none (isnot_none_gen ⟨.bl _,H1,I1,by rw [r1.none_iff];rfl,q1⟩)
noncomputable def tB (t:TE):TT:=fun σ H Q=>t σ H fun x H1=>∃ c,x=.bl c∧Q c H1
theorem pe_cmp {op:CmpOp} {t:TE} (h:PC X op a b t) (h1:behindInMarks op b=false:=by first | exact qG8 _ (by decide) (by decide) | rfl):PE X (.Compare a [op] [b] pos) t:=fun pins s σ H Q I hw=>wpAny_Compare1 (h pins s σ H Q I hw) h1
theorem pt_cmp {op:CmpOp} {t:TE} (h:PC X op a b t) (h1:behindInMarks op b=false:=by first | exact qG8 _ (by decide) (by decide) | rfl):PT X (.Compare a [op] [b] pos) (tB t):=by
 intro pins s σ H Q I hw
 refine wpAny_isTrue_Compare1 (thn (h pins s σ H _ I hw) fun v s1 h1=>thn h1 fun u s2 h2=>thn h2 fun c s3 ⟨x,H1,I1,r1,q1⟩=>?_) h1
 obtain ⟨d,rfl,q⟩:=q1
 cases r1
 exact wpAny_truthy_bool ⟨H1,I1,q⟩
variable {tA tB':TT} {rest:List Expr}
noncomputable def tAnd (t u:TT):TT:=fun σ H Q=>t σ H fun c H1=>if c=true then u σ H1 Q else Q false H1
noncomputable def tOr (t u:TT):TT:=fun σ H Q=>t σ H fun c H1=>if c=true then Q true H1 else u σ H1 Q
noncomputable def tNot (t:TT):TT:=fun σ H Q=>t σ H fun c H1=>Q (!c) H1
theorem pw_and1 (ha:PT X a tA):PW X (.BoolOp .And [a] pos) tA:=by
 intro wh pins s σ H Q I h
 refine isTrue_and (thn (ha pins s σ H Q I h) fun c s1 e=>?_)
 cases c with
 | true=>exact isTrue_and_nil e
 | false=>exact e
theorem pw_or1 (ha:PT X a tA):PW X (.BoolOp .Or [a] pos) tA:=by
 intro wh pins s σ H Q I h
 refine isTrue_or (thn (ha pins s σ H Q I h) fun c s1 e=>?_)
 cases c with
 | false=>exact isTrue_or_nil e
 | true=>exact e
theorem pw_and (ha:PT X a tA) (hb:PW X (.BoolOp .And (b::rest) pos) tB'):PW X (.BoolOp .And (a::b::rest) pos) (tAnd tA tB'):=by
 intro wh pins s σ H Q I h
 refine isTrue_and (thn (ha pins s σ H _ I h) fun c s1 ⟨H1,I1,q1⟩=>?_)
 cases c with
 | true=>exact hb wh pins s1 σ H1 Q I1 q1
 | false=>exact ⟨H1,I1,q1⟩
theorem pw_or (ha:PT X a tA) (hb:PW X (.BoolOp .Or (b::rest) pos) tB'):PW X (.BoolOp .Or (a::b::rest) pos) (tOr tA tB'):=by
 intro wh pins s σ H Q I h
 refine isTrue_or (thn (ha pins s σ H _ I h) fun c s1 ⟨H1,I1,q1⟩=>?_)
 cases c with
 | true=>exact ⟨H1,I1,q1⟩
 | false=>exact hb wh pins s1 σ H1 Q I1 q1
theorem pt_not (ha:PT X a tA):PT X (.UnaryOp .Not a pos) (tNot tA):=by
 intro pins s σ H Q I h
 exact isTrue_not (ha pins s σ H (fun c H1=>Q (!c) H1) I h)
noncomputable def tAndV (ta tb:TE):TE:=fun σ H Q=>ta σ H fun x H1=>∃ c,x=.bl c∧if c=true then tb σ H1 Q else Q (.bl false) H1
noncomputable def tOrV (ta tb:TE):TE:=fun σ H Q=>ta σ H fun x H1=>∃ c,x=.bl c∧if c=true then Q (.bl true) H1 else tb σ H1 Q
theorem pe_one {op} {t:TE} (h:PE X a t):PE X (.BoolOp op [a] pos) t:=fun pins s σ H Q I hw=>BoolOp_one (h pins s σ H Q I hw)
theorem pe_and (ha:PE X a ta) (hb:PE X (.BoolOp .And (b::rest) pos) tb):PE X (.BoolOp .And (a::b::rest) pos) (tAndV ta tb):=by
 intro pins s σ H Q I h
 refine BoolOp_and (thn (ha pins s σ H _ I h) fun v s1 ⟨x,H1,I1,r1,q1⟩=>?_)
 obtain ⟨c,rfl,q1⟩:=q1
 cases r1
 refine wpAny_truthy_bool ?_
 cases c with
 | true=>exact hb pins s1 σ H1 Q I1 q1
 | false=>exact ⟨.bl false,H1,I1,rfl,q1⟩
theorem pe_or (ha:PE X a ta) (hb:PE X (.BoolOp .Or (b::rest) pos) tb):PE X (.BoolOp .Or (a::b::rest) pos) (tOrV ta tb):=by
 intro pins s σ H Q I h
 refine BoolOp_or (thn (ha pins s σ H _ I h) fun v s1 ⟨x,H1,I1,r1,q1⟩=>?_)
 obtain ⟨c,rfl,q1⟩:=q1
 cases r1
 refine wpAny_truthy_bool ?_
 cases c with
 | false=>exact hb pins s1 σ H1 Q I1 q1
 | true=>exact ⟨.bl true,H1,I1,rfl,q1⟩
noncomputable def tIf (t:TT) (ta tb:TE):TE:=fun σ H Q=>t σ H fun c H1=>if c=true then ta σ H1 Q else tb σ H1 Q
theorem pe_ifExp {c:Expr} (hc:PT X c tA) (ha:PE X a ta) (hb:PE X b tb):PE X (.IfExp c a b pos) (tIf tA ta tb):=by
 intro pins s σ H Q I h
 refine wpAny_IfExp (thn (hc pins s σ H _ I h) fun d s1 ⟨H1,I1,q1⟩=>?_)
 cases d with
 | true=>exact ha pins s1 σ H1 Q I1 q1
 | false=>exact hb pins s1 σ H1 Q I1 q1
end
end L2
namespace L2
open PySem PySem.Spec PyProof.Rows
noncomputable def SqL (K:PySem.W.Frag) (H:Hp) (a:Addr) (xs:List V):Prop :=
 Rd H a (.lst xs) ∨
  ∃ (o:Obj) (its:Array Value) (n:Nat),K.lookup a=some o∧o.cls=.type "list"∧o.dict=none∧o.data=.seq its n∧its.size≤sizeLine∧Vals xs its.toList
noncomputable def SqT (K:PySem.W.Frag) (H:Hp) (a:Addr) (xs:List V):Prop :=
 Rd H a (.tup xs) ∨
  ∃ (o:Obj) (its:Array Value) (n:Nat),K.lookup a=some o∧o.cls=.type "tuple"∧o.data=.seq its n∧its.size≤sizeLine∧Vals xs its.toList
noncomputable def absV:Value→Option V
 | .none=>some .non
 | .bool b=>some (.bl b)
 | .int i _=>some (.int i)
 | .str x _=>some (.str x)
 | .bytes b _=>some (.byt b)
 | .float b _=>some (.flt b)
 | .ref a=>some (.ref a)
 | .type n=>some (.ty n)
 | _=>none
theorem RelV.abs {x:V} {u:Value} (r:RelV x u):absV u=some x:=by
 cases x with
 | non=>cases r;rfl
 | bl _=>cases r;rfl
 | int _=>obtain ⟨t,rfl⟩:=r;rfl
 | str _=>obtain ⟨t,rfl⟩:=r;rfl
 | byt _=>obtain ⟨t,rfl⟩:=r;rfl
 | flt _=>obtain ⟨t,rfl⟩:=r;rfl
 | ref _=>cases r;rfl
 | ty _=>cases r;rfl
theorem RelV.inj {x y:V} {u:Value} (r:RelV x u) (q:RelV y u):x=y:=Option.some.inj (r.abs.symm.trans q.abs)
theorem Vals.inj:∀ {xs ys:List V} {us:List Value},Vals xs us→Vals ys us→xs=ys
 | _,_,_,.nil,.nil=>rfl
 | _,_,_,.cons r t,.cons r' t'=>by rw [r.inj r',Vals.inj t t']
section
variable {X:Cx} {pins:List (Addr × Obj)} {σ:St} {H:Hp} {s:Shared} {a:Addr} {xs ys:List V}
theorem SqL.of {K:PySem.W.Frag} (h:H a=some (.lst xs)):SqL K H a xs:=.inl (.inl h)
theorem SqT.of {K:PySem.W.Frag} (h:H a=some (.tup xs)):SqT K H a xs:=.inl (.inl h)
theorem Inv.list (I:Inv X pins σ H s) (h:SqL X.K H a xs):∃ its:List Value,Vals xs its∧PlainL s.heap a its.toArray∧xs.length≤sizeLine:=by
 rcases h with h | ⟨o,its,n,hk,hc,hd,hs,hz,r⟩
 ·obtain ⟨z,its,n,r,e⟩:=h.ok I.hok
  exact ⟨its,r,⟨_,n,e,rfl,rfl,rfl⟩,z⟩
 ·refine ⟨its.toList,r,⟨o,n,I.kIn a o hk,hc,hd,by simpa using hs⟩,?_⟩
  have e:=r.length
  simp only [Array.length_toList] at e
  omega
theorem Inv.tuple (I:Inv X pins σ H s) (h:SqT X.K H a xs):∃ its:List Value,Vals xs its∧IsTup s.heap a its.toArray∧xs.length≤sizeLine:=by
 rcases h with h | ⟨o,its,n,hk,hc,hs,hz,r⟩
 ·obtain ⟨z,its,r,p⟩:=h.ok I.hok
  exact ⟨its,r,p,z⟩
 ·refine ⟨its.toList,r,⟨o,I.kIn a o hk,hc,n,by simpa using hs⟩,?_⟩
  have e:=r.length
  simp only [Array.length_toList] at e
  omega
theorem Inv.list_inj (I:Inv X pins σ H s) (h:SqL X.K H a xs) (h':SqL X.K H a ys):xs=ys:=by
 obtain ⟨its,r,⟨o,n,e,_,_,d⟩,_⟩:=I.list h
 obtain ⟨its',r',⟨o',n',e',_,_,d'⟩,_⟩:=I.list h'
 rw [e] at e';cases e'
 rw [d] at d'
 injection d' with d1 _
 have:its=its':=by simpa using congrArg Array.toList d1
 subst this
 exact r.inj r'
theorem Inv.tuple_inj (I:Inv X pins σ H s) (h:SqT X.K H a xs) (h':SqT X.K H a ys):xs=ys:=by
 obtain ⟨its,r,⟨o,e,_,n,d⟩,_⟩:=I.tuple h
 obtain ⟨its',r',⟨o',e',_,n',d'⟩,_⟩:=I.tuple h'
 rw [e] at e';cases e'
 rw [d] at d'
 injection d' with d1 _
 have:its=its':=by simpa using congrArg Array.toList d1
 subst this
 exact r.inj r'
end
noncomputable abbrev Cx.wish (X:Cx) (E:Value→Shared→Prop):Cx:={ X with xe:=E }
noncomputable abbrev Cx.nox (X:Cx):Cx:=X.wish fun _ _=>False
theorem Cx.Ok.wish {X:Cx} (ok:X.Ok) (E:Value→Shared→Prop):(X.wish E).Ok :=
 ⟨ok.mod,ok.kind,ok.glob,ok.blt,ok.above,ok.inj,ok.has,ok.cab,ok.hd,ok.frames,ok.stk,ok.exf,ok.bs,ok.bsz,ok.noex,ok.exfs,ok.funs,ok.frf⟩
theorem Cx.Ok.unwish {X:Cx} {E:Value→Shared→Prop} (ok:(X.wish E).Ok):X.Ok :=
 ⟨ok.mod,ok.kind,ok.glob,ok.blt,ok.above,ok.inj,ok.has,ok.cab,ok.hd,ok.frames,ok.stk,ok.exf,ok.bs,ok.bsz,ok.noex,ok.exfs,ok.funs,ok.frf⟩
section
variable {X:Cx} {pins:List (Addr × Obj)} {σ:St} {H:Hp} {s:Shared} {E:Value→Shared→Prop}
theorem Inv.wish (I:Inv X pins σ H s) (E:Value→Shared→Prop):Inv (X.wish E) pins σ H s:=⟨I.ok.wish E,I.os,I.bare,I.base,I.loc,I.cell,I.free,I.freeC,I.pin,I.hok,I.len⟩
theorem Inv.unwish (I:Inv (X.wish E) pins σ H s):Inv X pins σ H s:=⟨I.ok.unwish,I.os,I.bare,I.base,I.loc,I.cell,I.free,I.freeC,I.pin,I.hok,I.len⟩
theorem SP.unwish {D:Ends} {f:Flow} {s':Shared} (h:SP (X.wish E) pins D f s'):SP X pins D f s':=by
 cases f with
 | next=>obtain ⟨σ',H',I,q⟩:=h;exact ⟨σ',H',I.unwish,q⟩
 | brk=>obtain ⟨σ',H',I,q⟩:=h;exact ⟨σ',H',I.unwish,q⟩
 | cont=>obtain ⟨σ',H',I,q⟩:=h;exact ⟨σ',H',I.unwish,q⟩
 | ret u=>obtain ⟨v,σ',H',I,r,q⟩:=h;exact ⟨v,σ',H',I.unwish,r,q⟩
theorem PE.nox {e:Expr} {t:TE} (h:PE X.nox e t):PE X e t:=fun pins s σ H Q I hw =>
 wpAny_mono (h pins s σ H Q (I.wish _) hw) (fun _ _ ⟨v,H',I',r,q⟩=>⟨v,H',I'.unwish,r,q⟩) fun _ _ z=>False.elim z
theorem PT.nox {e:Expr} {t:TT} (h:PT X.nox e t):PT X e t:=fun pins s σ H Q I hw =>
 wpAny_mono (h pins s σ H Q (I.wish _) hw) (fun _ _ ⟨H',I',q⟩=>⟨H',I'.unwish,q⟩) fun _ _ z=>False.elim z
theorem PSs.nox {st:List Stmt} {t:TS} (h:PSs X.nox st t):PSs X st t:=fun pins s σ H D I hw =>
 wpAny_mono (h pins s σ H D (I.wish _) hw) (fun _ _ q=>q.unwish) fun _ _ z=>False.elim z
end
section
variable {X:Cx} {st:Stmt} {rest:List Stmt} {t u:TS} {e:Expr} {te:TE} {pos:Pos}
noncomputable def tNext:TS:=fun D σ H=>D.nx σ H
noncomputable def tSeq (t u:TS):TS:=fun D σ H=>t { D with nx:=u D } σ H
theorem pss_nil:PSs X [] tNext:=fun _ _ σ H _ I h=>wpAny_execs_nil ⟨σ,H,I,h⟩
theorem pss_cons (h1:PS X st t) (h2:PSs X rest u):PSs X (st::rest) (tSeq t u):=by
 intro pins s σ H D I h
 refine wpAny_execs_cons (thn (h1 pins s σ H { D with nx:=u D } I h) fun f s1 q=>?_)
 cases f with
 | next =>
  obtain ⟨σ',H',I',q⟩:=q
  exact h2 pins s1 σ' H' D I' q
 | ret v=>exact q
 | brk=>exact q
 | cont=>exact q
theorem pss_one (h1:PS X st t):PSs X [st] t:=by
 intro pins s σ H D I h
 refine wpAny_execs_cons (thn (h1 pins s σ H D I h) fun f s1 q=>?_)
 cases f with
 | next=>exact wpAny_execs_nil q
 | ret v=>exact q
 | brk=>exact q
 | cont=>exact q
noncomputable def qN8:TS:=fun D σ H=>D.bk σ H
noncomputable def tCont:TS:=fun D σ H=>D.ct σ H
theorem ps_pass:PS X (.Pass pos) tNext:=fun _ _ σ H _ I h=>wpAny_Pass ⟨σ,H,I,h⟩
theorem ps_break:PS X (.Break pos) qN8:=fun _ _ σ H _ I h=>wpAny_Break ⟨σ,H,I,h⟩
theorem ps_continue:PS X (.Continue pos) tCont:=fun _ _ σ H _ I h=>wpAny_Continue ⟨σ,H,I,h⟩
theorem Inv.quiet {pins:List (Addr × Obj)} {σ:St} {H:Hp} {s:Shared} (I:Inv X pins σ H s):interactive X.env=false:=by simp [interactive,I.ok.kind]
noncomputable def tDrop (te:TE):TS:=fun D σ H=>te σ H fun _ H1=>D.nx σ H1
theorem ps_expr (he:PE X e te) (hs:swapsWith e none pos.line X.env=pure false:=by rfl):PS X (.Expr e pos) (tDrop te):=by
 intro pins s σ H D I h
 exact wpAny_Expr_any (thn (he pins s σ H _ I h) fun v s1 ⟨x,H1,I1,r1,q1⟩=>⟨σ,H1,I1,q1⟩) I.quiet hs
noncomputable def tRet (te:TE):TS:=fun D σ H=>te σ H D.rt
theorem ps_ret (he:PE X e te):PS X (.Return (some e) pos) (tRet te):=by
 intro pins s σ H D I h
 exact wpAny_Return_some (thn (he pins s σ H _ I h) fun v s1 ⟨x,H1,I1,r1,q1⟩=>⟨x,σ,H1,I1,r1,q1⟩)
noncomputable def tRetN:TS:=fun D _ H=>D.rt .non H
theorem ps_retN:PS X (.Return none pos) tRetN:=fun _ _ σ H _ I h=>wpAny_Return_none ⟨.non,σ,H,I,rfl,h⟩
noncomputable def tIfS (c:TT) (t u:TS):TS:=fun D σ H=>c σ H fun b H1=>if b=true then t D σ H1 else u D σ H1
theorem ps_if {c:Expr} {a b:List Stmt} {tc:TT} (hc:PT X c tc) (ha:PSs X a t) (hb:PSs X b u):PS X (.If c a b pos) (tIfS tc t u):=by
 intro pins s σ H D I h
 refine wpAny_If (thn (hc pins s σ H _ I h) fun d s1 ⟨H1,I1,q1⟩=>?_)
 cases d with
 | true=>exact ha pins s1 σ H1 D I1 q1
 | false=>exact hb pins s1 σ H1 D I1 q1
end
noncomputable abbrev TG:=V→St→Hp→(St→Hp→Prop)→Prop
noncomputable abbrev TGs:=List V→St→Hp→(St→Hp→Prop)→Prop
noncomputable def PG (X:Cx) (target:Expr) (t:TG):Prop :=
 ∀ (pins:List (Addr × Obj)) (s:Shared) (σ:St) (H:Hp) (v:V) (u:Value) (Q:St→Hp→Prop),Inv X pins σ H s→RelV v u→t v σ H Q →
  wpAny (model X.prog X.w) X.A (assign target X.env u) (fun _ s'=>∃ σ' H',Inv X pins σ' H' s'∧Q σ' H') X.xe s
noncomputable def PGs (X:Cx) (ts:List Expr) (t:TGs):Prop :=
 ∀ (pins:List (Addr × Obj)) (s:Shared) (σ:St) (H:Hp) (vs:List V) (us:List Value) (Q:St→Hp→Prop),Inv X pins σ H s→Vals vs us→t vs σ H Q →
  wpAny (model X.prog X.w) X.A (assignInOrder ((assignEach ts X.env).map (·.2)) us) (fun _ s'=>∃ σ' H',Inv X pins σ' H' s'∧Q σ' H') X.xe s
section
variable {X:Cx} {pos:Pos}
noncomputable def gName (i:Nat):TG:=fun v σ H Q=>Q (σ.set i (some v)) H
theorem pg_name {i:Nat} {x:Str} (hN:X.N.Nodup) (hi:X.N[i]?=some x) (hx:Loc X.env.scope x) (hf:X.fn x=true∨X.env.scope.names.lookup x=some .local:=by first | exact .inl rfl | exact .inr rfl | assumption):PG X (.Name x pos) (gName i):=by
 intro pins s σ H v u Q I r h
 exact wpAny_assign_Name (store_ok I hN hi hx r (fun s' I'=>⟨_,H,I',h⟩) hf)
noncomputable def gNil:TGs:=fun vs σ H Q=>vs=[]∧Q σ H
noncomputable def gCons (t:TG) (u:TGs):TGs:=fun vs σ H Q=>∃ v r,vs=v::r∧t v σ H fun σ' H'=>u r σ' H' Q
theorem pgs_nil:PGs X [] gNil:=by
 intro pins s σ H vs us Q I r h
 obtain ⟨e,h⟩:=h
 subst e
 cases r
 exact assignInOrder_nil ⟨σ,H,I,h⟩
theorem pgs_cons {e:Expr} {es:List Expr} {t:TG} {u:TGs} (h1:PG X e t) (h2:PGs X es u)
    (hs:(assignEach (e::es) X.env).map (·.2)=assign e X.env::(assignEach es X.env).map (·.2):=by rfl):PGs X (e::es) (gCons t u):=by
  intro pins s σ H vs us Q I r h
  obtain ⟨v,vr,e1,h⟩:=h
  subst e1
  cases r with
  | cons r rr =>
    rw [hs]
    refine assignInOrder_cons (thn (h1 pins s σ H _ _ _ I r h) fun _ s1 ⟨σ1,H1,I1,q1⟩=>?_)
    exact h2 pins s1 σ1 H1 _ _ Q I1 rr q1
noncomputable def gTup (K:PySem.W.Frag) (n:Nat) (t:TGs):TG:=fun v σ H Q=>∃ a xs,v=.ref a∧SqT K H a xs∧xs.length=n∧t xs σ H Q
theorem pg_tup {es:List Expr} {k:Nat} {t:TGs} {n:Nat} (hc:X.calm=true) (h:PGs X es t)
    (hn:(assignEach es X.env).length=n:=by rfl) (hst:(assignEach es X.env).findIdx? (·.1)=none:=by rfl):PG X (.Tuple es k pos) (gTup X.K n t):=by
  intro pins s σ H v u Q I r hw
  obtain ⟨a,xs,e1,hq,hl,hw⟩:=hw
  subst e1
  cases r
  obtain ⟨its,rv,ht,hz⟩:=I.tuple hq
  refine assign_Tuple_tuple (I.ok.hd hc) ht (by simp [hn,← hl,rv.length]) hst fun h' hx=>?_
  have I1:Inv X pins σ H { s with heap:=h' }:=I.kept (t':=s.toks) fun b o e=>hx b o (Nat.ne_of_lt (Heap.lt_size e)) e
  exact h pins _ σ H xs _ Q I1 (by simpa using rv) hw
noncomputable def tAsg (te:TE) (g:TG):TS:=fun D σ H=>te σ H fun x H1=>g x σ H1 D.nx
theorem ps_set {i:Nat} {x:Str} {e:Expr} {te:TE} {pos':Pos} (hN:X.N.Nodup) (hi:X.N[i]?=some x) (hx:Loc X.env.scope x) (he:PE X e te) (hs:swapsWith e (some (.Name x pos')) pos.line X.env=pure false:=by rfl) (hf:X.fn x=true∨X.env.scope.names.lookup x=some .local:=by first | exact .inl rfl | exact .inr rfl | assumption) :
    PS X (.Assign [.Name x pos'] e pos) (tAsg te (gName i)):=by
  intro pins s σ H D I h
  refine wpAny_Assign_Name (thn (he pins s σ H _ I h) fun v s1 ⟨y,H1,I1,r1,q1⟩=>?_) hs
  exact store_ok I1 hN hi hx r1 (fun s2 I2=>⟨_,H1,I2,q1⟩) hf
end
section
variable {X:Cx} {pos:Pos}
noncomputable def qN6 (c:TT) (tb:TS):TS:=fun D σ H=>∃ W:Nat→St→Hp→Prop,(∃ m,W m σ H)∧∀ m σ H,W m σ H →
 c σ H fun b H1=>if b=true then ∃ N:St→Hp→Prop,(∀ σ' H',N σ' H'→∃ m',m'<m∧W m' σ' H')∧tb { D with nx:=N,ct:=N,bk:=D.nx } σ H1 else D.nx σ H1
theorem ps_while {c:Expr} {body:List Stmt} {tc:TT} {tb:TS} (hp:PassesOwn (model X.prog X.w) X.A X.env X.xe) (hc:PT X c tc) (hb:PSs X body tb):PS X (.While c body [] pos) (qN6 tc tb):=by
 intro pins s σ H D I h
 obtain ⟨W,⟨m0,w0⟩,turn⟩:=h
 refine wpAny_While (codeAny_whileLoop (fun n s'=>∃ σ' H',Inv X pins σ' H' s'∧W n σ' H') ?_ m0 ⟨σ,H,I,w0⟩)
 rintro n s1 ⟨σ1,H1,I1,w1⟩
 refine wpAny_passesOwn hp (thn (hc pins s1 σ1 H1 _ I1 (turn n σ1 H1 w1)) fun b s2 ⟨H2,I2,q2⟩=>?_)
 cases b with
 | true =>
  obtain ⟨N,hN,q2⟩:=q2
  rw [if_pos rfl]
  refine wpAny_passesOwn hp (thn (hb pins s2 σ1 H2 _ I2 q2) fun f s3 q3=>?_)
  cases f with
  | next =>
   obtain ⟨σ3,H3,I3,n3⟩:=q3
   obtain ⟨m',hm,w3⟩:=hN σ3 H3 n3
   exact ⟨m',hm,σ3,H3,I3,w3⟩
  | cont =>
   obtain ⟨σ3,H3,I3,n3⟩:=q3
   obtain ⟨m',hm,w3⟩:=hN σ3 H3 n3
   exact ⟨m',hm,σ3,H3,I3,w3⟩
  | brk=>exact q3
  | ret v=>exact q3
 | false =>
  rw [if_neg Bool.false_ne_true]
  exact wpAny_execs_nil ⟨σ1,H2,I2,q2⟩
end
structure It where
 go:Nat→Hp→Prop
 yld:Nat→Hp→V→Hp→Prop
 stop:Nat→Hp→Prop
noncomputable def FpOk (X:Cx) (pins:List (Addr × Obj)) (H:Hp) (b:Addr):Prop :=
 H b=none∧b≠X.env.locals∧b∉X.fs∧(b∈X.ex∨X.s₀.heap.objs.size≤b)∧(∀ x c,X.env.cells.lookup x=some c→c≠b)∧∀ p∈X.pn++pins,p.1≠b
theorem Inv.fpOk {X:Cx} {pins:List (Addr × Obj)} {σ:St} {H H':Hp} {s:Shared} {b:Addr} (I:Inv X pins σ H s) (hb:s.heap.objs.size≤b) (hn:H' b=none):FpOk X pins H' b:=by
 refine ⟨hn,Nat.ne_of_gt (Nat.lt_of_lt_of_le I.lt hb),I.nofs hb,.inr (Nat.le_trans I.sz hb),fun x c e z=>?_,fun p hp z=>?_⟩
 ·obtain ⟨v,q⟩:=I.cell x c e
  exact absurd (Nat.lt_of_lt_of_le q.lt (by rw [z];exact hb)) (Nat.lt_irrefl _)
 ·exact absurd (Nat.lt_of_lt_of_le (Heap.lt_size (I.pin p hp).1) (by rw [z];exact hb)) (Nat.lt_irrefl _)
structure Turn (P:Program) (w:World) (K:PySem.W.Frag) (tg:Expr) (J:It) (fp:List Addr) (it:Addr) (tn:Nat→Heap→Prop):Prop where
 mem:it∈fp
 obj:∀ i h,tn i h→∀ b∈fp,∃ o,h.get? b=some o∧∀ v,o.data≠.cell v
 keep:∀ i h h',tn i h→(∀ b∈fp,∀ o,h.get? b=some o→h'.get? b=some o)→tn i h'
 item:∀ (X:Cx),X.prog=P→X.w=w→X.K=K→X.calm=true→∀ (i:Nat) (pins:List (Addr × Obj)) (s:Shared) (σ:St) (H:Hp) (E:Value→Shared→Prop),Inv X pins σ H s→(∀ b∈fp,FpOk X pins H b)→tn i s.heap→J.go i H →
  wpAny (model P w) X.A (pyNext (.ref it)) (fun r s1=>∃ u,r=some u ∧
   wpAny (model P w) X.A (letOwnedTupleGo tg (.ref it) u) (fun _ s2=>∃ x H',Inv X pins σ H' s2∧RelV x u∧J.yld i H x H'∧tn (i+1) s2.heap∧∀ b∈fp,H' b=none) E s1) E s
 done:∀ (X:Cx),X.prog=P→X.w=w→X.K=K→X.calm=true→∀ (i:Nat) (pins:List (Addr × Obj)) (s:Shared) (σ:St) (H:Hp) (E:Value→Shared→Prop),Inv X pins σ H s→(∀ b∈fp,FpOk X pins H b)→tn i s.heap→J.stop i H →
  wpAny (model P w) X.A (pyNext (.ref it)) (fun r s1=>r=none∧Inv X pins σ H s1) E s
 self:∀ (A:Around) (i:Nat) (s:Shared) (Q:Value→Shared→Prop) (E:Value→Shared→Prop),tn i s.heap→Q (.ref it) s→wpAny (model P w) A (pyIter (.ref it)) Q E s
noncomputable abbrev TI:=St→Hp→(It→Hp→Prop)→Prop
noncomputable def PIE (X:Cx) (pins:List (Addr × Obj)) (σ:St) (tg:Expr) (R:It→Hp→Prop) (itv:Value) (s2:Shared):Prop :=
 ∃ (it:Addr) (fp:List Addr) (tn:Nat→Heap→Prop) (J:It) (H':Hp),itv=.ref it∧Inv X pins σ H' s2∧Turn X.prog X.w X.K tg J fp it tn∧tn 0 s2.heap∧(∀ b∈fp,FpOk X pins H' b)∧R J H'
noncomputable def PI (X:Cx) (tg iter:Expr) (wi:TI):Prop :=
 ∀ (pins:List (Addr × Obj)) (s:Shared) (σ:St) (H:Hp) (R:It→Hp→Prop),Inv X pins σ H s→wi σ H R →
  wpAny (model X.prog X.w) X.A (eval iter X.env) (fun v s1=>wpAny (model X.prog X.w) X.A (pyIter v) (PIE X pins σ tg R) X.xe s1) X.xe s
theorem go_of {M:Model} {A:Around} {E:Value→Shared→Prop} {s:Shared} {tg:Expr} {it:Addr} {u:Value} {o:Obj} {n:String} {vs:Array Value} {Q:Unit→Shared→Prop} (ho:s.heap.get? it=some o) (hc:o.cls=.type n) (hd:o.data=.fields vs)
    (hn:["enumerate","zip","dict_itemiterator","dict_reverseitemiterator","odict_iterator","itertools.zip_longest","itertools.pairwise"].contains n=false) (hQ:Q () s):wpAny M A (letOwnedTupleGo tg (.ref it) u) Q E s:=by
  unfold letOwnedTupleGo
  cases tg <;> first
    | exact wpAny_pure hQ
    | (cases u <;> first
        | exact wpAny_pure hQ
        | (refine wpAny_bind (wpAny_load ho ?_)
           rw [hc,hd]
           show wpAny M A (if (["enumerate","zip","dict_itemiterator","dict_reverseitemiterator","odict_iterator","itertools.zip_longest","itertools.pairwise"].contains n&&vs[0]? == some (rawInt _))=true then _ else _) Q E s
           rw [if_neg (by intro h;rw [hn,Bool.false_and] at h;cases h)]
           exact wpAny_pure hQ))
noncomputable def Itl (K:PySem.W.Frag) (a:Addr):It :=
 ⟨fun i H=>∃ xs x,SqL K H a xs∧xs[i]?=some x,fun i H x H'=>H'=H∧∀ xs,SqL K H a xs→xs[i]?=some x,fun i H=>∃ xs,SqL K H a xs∧xs.length≤i⟩
noncomputable def Itt (K:PySem.W.Frag) (a:Addr):It :=
 ⟨fun i H=>∃ xs x,SqT K H a xs∧xs[i]?=some x,fun i H x H'=>H'=H∧∀ xs,SqT K H a xs→xs[i]?=some x,fun i H=>∃ xs,SqT K H a xs∧xs.length≤i⟩
noncomputable def Itr (lo:Int) (n:Nat):It:=⟨fun i _=>i<n,fun i H x H'=>H'=H∧x=.int (lo+i),fun i _=>n≤i⟩
theorem turn_list {P:Program} {w:World} {K:PySem.W.Frag} {tg:Expr} (a it:Addr):Turn P w K tg (Itl K a) [it] it (fun i h=>h.IsListIter it a i) where
 mem:=by simp
 obj:=fun i h st b hb=>by
  have e:b=it:=by simpa using hb
  subst e
  obtain ⟨o,e,c,d⟩:=st
  exact ⟨o,e,fun v z=>by rw [d] at z;cases z⟩
 keep:=fun i h h' st k=>st.at fun o e=>k it (by simp) o e
 item:=by
  intro X hP hw hK hc i pins s σ H E I hf st hg
  subst hP hw hK
  obtain ⟨xs,x,hq,hx⟩:=hg
  obtain ⟨its,rv,p,hz⟩:=I.list hq
  obtain ⟨u,hu,ru⟩:=rv.get hx
  obtain ⟨f0,f1,f2,f3,f4,f5⟩:=hf it (by simp)
  refine wpAny_pyNext_list_item st p.isList (x:=u) (by simpa using hu) fun h' st' sb=>?_
  have I1:Inv X pins σ H { s with heap:=h' }:=I.turned (t':=s.toks) (fun b o hb e=>(sb.2 b hb).trans e) f0 f1 f3 f4 f5
  obtain ⟨o,e,c,d⟩:=id st'
  exact ⟨u,rfl,go_of (s:={ s with heap:=h' }) e c d (by decide) ⟨x,H,I1,ru,⟨rfl,fun ys hy=>by rw [I.list_inj hy hq];exact hx⟩,st',fun b hb=>(hf b hb).1⟩⟩
 done:=by
  intro X hP hw hK hc i pins s σ H E I hf st hg
  subst hP hw hK
  obtain ⟨xs,hq,hx⟩:=hg
  obtain ⟨its,rv,p,hz⟩:=I.list hq
  obtain ⟨f0,f1,f2,f3,f4,f5⟩:=hf it (by simp)
  have hl:=rv.length
  exact wpAny_pyNext_list_end (I.ok.hd hc) st p.isList (by simp;omega) fun h' eb=>⟨rfl,I.turned (t':=s.toks) (fun b o hb e=>eb b o hb e) f0 f1 f3 f4 f5⟩
 self:=fun _ _ _ _ _ st h=>wpAny_pyIter_listiter st h
theorem turn_tuple {P:Program} {w:World} {K:PySem.W.Frag} {tg:Expr} (a it:Addr):Turn P w K tg (Itt K a) [it] it (fun i h=>h.IsTupleIter it a i) where
 mem:=by simp
 obj:=fun i h st b hb=>by
  have e:b=it:=by simpa using hb
  subst e
  obtain ⟨o,e,c,d⟩:=st
  exact ⟨o,e,fun v z=>by rw [d] at z;cases z⟩
 keep:=fun i h h' st k=>st.at fun o e=>k it (by simp) o e
 item:=by
  intro X hP hw hK hc i pins s σ H E I hf st hg
  subst hP hw hK
  obtain ⟨xs,x,hq,hx⟩:=hg
  obtain ⟨its,rv,p,hz⟩:=I.tuple hq
  obtain ⟨u,hu,ru⟩:=rv.get hx
  obtain ⟨f0,f1,f2,f3,f4,f5⟩:=hf it (by simp)
  refine wpAny_pyNext_tuple_item st (show s.heap.IsTuple a its.toArray from p) (x:=u) (by simpa using hu) fun h' st' sb=>?_
  have I1:Inv X pins σ H { s with heap:=h' }:=I.turned (t':=s.toks) (fun b o hb e=>(sb.2 b hb).trans e) f0 f1 f3 f4 f5
  obtain ⟨o,e,c,d⟩:=id st'
  exact ⟨u,rfl,go_of (s:={ s with heap:=h' }) e c d (by decide) ⟨x,H,I1,ru,⟨rfl,fun ys hy=>by rw [I.tuple_inj hy hq];exact hx⟩,st',fun b hb=>(hf b hb).1⟩⟩
 done:=by
  intro X hP hw hK hc i pins s σ H E I hf st hg
  subst hP hw hK
  obtain ⟨xs,hq,hx⟩:=hg
  obtain ⟨its,rv,p,hz⟩:=I.tuple hq
  obtain ⟨f0,f1,f2,f3,f4,f5⟩:=hf it (by simp)
  have hl:=rv.length
  exact wpAny_pyNext_tuple_end (I.ok.hd hc) st (show s.heap.IsTuple a its.toArray from p) (by simp;omega) fun h' eb=>⟨rfl,I.turned (t':=s.toks) (fun b o hb e=>eb b o hb e) f0 f1 f3 f4 f5⟩
 self:=fun _ _ _ _ _ st h=>wpAny_pyIter_tupleiter st h
theorem qHZ {P:Program} {w:World} {K:PySem.W.Frag} {tg:Expr} (it:Addr) (lo:Int) (n:Nat):Turn P w K tg (Itr lo n) [it] it (fun i h=>IsRangeIter h it (lo+(i:Nat)*1) ((n:Int)-(i:Nat)) 1) where
 mem:=by simp
 obj:=fun i h st b hb=>by
  have e:b=it:=by simpa using hb
  subst e
  exact ⟨_,st,fun v z=>by
   have z':Data.fields _=Data.cell v:=z
   cases z'⟩
 keep:=fun i h h' st k=>k it (by simp) _ st
 item:=by
  intro X hP hw hK hc i pins s σ H E I hf st hg
  subst hP hw hK
  obtain ⟨f0,f1,f2,f3,f4,f5⟩:=hf it (by simp)
  have W:=Walks.range (prog:=X.prog) (w:=X.w) (I.ok.hd hc) it lo 1 n
  refine W.item i s _ _ hg st fun v h' tk hv st' kk=>?_
  obtain ⟨t,rfl⟩:=hv
  have I1:Inv X pins σ H { s with heap:=h',toks:=tk }:=I.turned (fun b o hb e=>kk b o (by simpa using hb) e) f0 f1 f3 f4 f5
  refine ⟨_,rfl,go_of (s:={ s with heap:=h',toks:=tk }) (n:="range_iterator") st' rfl rfl (by decide) ⟨.int (lo+i),H,I1,⟨t,?_⟩,⟨rfl,rfl⟩,st',fun b hb=>(hf b hb).1⟩⟩
  rw [Int.mul_one]
 done:=by
  intro X hP hw hK hc i pins s σ H E I hf st hg
  subst hP hw hK
  obtain ⟨f0,f1,f2,f3,f4,f5⟩:=hf it (by simp)
  exact wpAny_pyNext_range_end (I.ok.hd hc) st (by have:n≤i:=hg;omega) fun h' eb=>⟨rfl,I.turned (t':=s.toks) (fun b o hb e=>eb b o hb e) f0 f1 f3 f4 f5⟩
 self:=fun _ _ _ _ _ st h=>wpAny_pyIter_rangeiter st h
end L2
namespace L2
open PySem PySem.Spec PyProof.Rows
section
variable {X:Cx} {tg:Expr}
theorem qG4 {pins:List (Addr × Obj)} {σ:St} {H:Hp} {s:Shared} {R:It→Hp→Prop} {E:Value→Shared→Prop} {lo hi:Int} {t u v:Tok} {tk:Nat} (I:Inv X pins σ H s) (h1:-(2 ^ 62)≤lo) (h2:lo<2 ^ 62) (h3:-(2 ^ 62)≤hi) (h4:hi<2 ^ 62)
    (q:R (Itr lo (hi-lo).toNat) H):wpAny (model X.prog X.w) X.A (pyIter (.ref s.heap.objs.size)) (PIE X pins σ tg R) E { s with heap:=s.heap.push { cls:=.type "range",data:=.fields #[.int lo t,.int hi u,.int 1 v] },toks:=tk }:=by
  refine wpAny_pyIter_range (IsRange.new ..) (small_one h1 h2 h3 h4) ?_
  have I1:Inv X pins σ H { s with heap:=s.heap.push { cls:=.type "range",data:=.fields #[.int lo t,.int hi u,.int 1 v] },toks:=tk }:=I.kept fun b o e=>Heap.get?_push_of_some _ e
  refine ⟨(s.heap.push { cls:=.type "range",data:=.fields #[.int lo t,.int hi u,.int 1 v] }).objs.size,[(s.heap.push { cls:=.type "range",data:=.fields #[.int lo t,.int hi u,.int 1 v] }).objs.size],_,_,H,rfl,
    I1.kept (t':=tk) fun b o e=>Heap.get?_push_of_some _ e,qHZ _ lo (hi-lo).toNat,?_,fun b hb=>?_,q⟩
  · have e1:lo+((0:Nat):Int)*1=lo:=by simp
    have e2:(((hi-lo).toNat:Nat):Int)-((0:Nat):Int)=Builtin.Range.rangeSize lo hi 1:=by rw [rangeSize_one];split <;> omega
    show IsRangeIter _ _ (lo+((0:Nat):Int)*1) ((((hi-lo).toNat:Nat):Int)-((0:Nat):Int)) 1
    rw [e1,e2]
    exact Heap.get?_push_size _ rfl
  · have e:b=(s.heap.push { cls:=.type "range",data:=.fields #[.int lo t,.int hi u,.int 1 v] }).objs.size:=by simpa using hb
    subst e
    exact I1.fpOk (Nat.le_refl _) (I1.hok.fresh (Nat.le_refl _))
noncomputable def iRng1 (ta:TA):TI:=fun σ H R=>ta σ H fun vs H1=>∃ j:Int,vs=[.int j]∧-(2 ^ 62)≤j∧j<2 ^ 62∧R (Itr 0 j.toNat) H1
noncomputable def iRng2 (ta:TA):TI:=fun σ H R=>ta σ H fun vs H1=>∃ i j:Int,vs=[.int i,.int j]∧(-(2 ^ 62)≤i∧i<2 ^ 62∧-(2 ^ 62)≤j∧j<2 ^ 62)∧R (Itr i (j-i).toNat) H1
theorem pi_range1 {a:Expr} {ta:TA} {p pos:Pos} (hg:Gl X "range") (hm:X.mg "range"=none) (ha:PA X [a] ta) (hs:starEach [a] X.env=[(false,eval a X.env)]:=by rfl):PI X tg (.Call (.Name "range" p) [a] [] pos) (iRng1 ta):=by
 intro pins s σ H R I h
 refine Call_ (ld_blt I hg hm boot_range (PyProof.Rows.callWith_type1 (thn (ha pos pins s σ H _ I h) fun us s1 ⟨vs,H1,I1,r1,q1⟩=>?_) hs rfl))
 obtain ⟨j,e,q1,q2,q⟩:=q1
 subst e
 cases r1 with
 | cons r rr =>
  cases rr
  obtain ⟨t,rfl⟩:=r
  exact call_range_1 (qG4 I1 (by omega) (by omega) q1 q2 (by simpa using q))
theorem pi_range2 {a b:Expr} {ta:TA} {p pos:Pos} (hg:Gl X "range") (hm:X.mg "range"=none) (ha:PA X [a,b] ta) (hs:starEach [a,b] X.env=[(false,eval a X.env),(false,eval b X.env)]:=by rfl) (hs2:starEach [b] X.env=[(false,eval b X.env)]:=by rfl) :
    PI X tg (.Call (.Name "range" p) [a,b] [] pos) (iRng2 ta):=by
  intro pins s σ H R I h
  refine Call_ (ld_blt I hg hm boot_range (PyProof.Rows.callWith_type1 (thn (ha pos pins s σ H _ I h) fun us s1 ⟨vs,H1,I1,r1,q1⟩=>?_) (by rw [hs,hs2]) (by rw [hs2];rfl)))
  obtain ⟨i,j,e,⟨q1,q2,q3,q4⟩,q⟩:=q1
  subst e
  cases r1 with
  | cons r rr =>
    cases rr with
    | cons r' rr =>
      cases rr
      obtain ⟨t,rfl⟩:=r
      obtain ⟨t',rfl⟩:=r'
      exact call_range_2 (qG4 I1 q1 q2 q3 q4 q)
noncomputable def tFor (wi:TI) (g:TG) (tb:TS):TS:=fun D σ H=>wi σ H fun J H1=>∃ W:Nat→Nat→St→Hp→Prop,(∃ m,W 0 m σ H1)∧∀ i m σ H,W i m σ H →
 (J.stop i H∧D.nx σ H)∨(J.go i H∧∃ N:St→Hp→Prop,(∀ σ' H',N σ' H'→∃ m',m'<m∧W (i+1) m' σ' H')∧∀ x H',J.yld i H x H'→g x σ H' fun σ2 H2=>tb { D with nx:=N,ct:=N,bk:=D.nx } σ2 H2)
noncomputable def pinsAt (fp:List Addr) (h:Heap):List (Addr × Obj):=fp.filterMap fun b=>(h.get? b).map fun o=>(b,o)
theorem mem_pinsAt {fp:List Addr} {h:Heap} {b:Addr} {o:Obj} (hb:b∈fp) (e:h.get? b=some o):(b,o)∈pinsAt fp h:=List.mem_filterMap.mpr ⟨b,hb,by rw [e];rfl⟩
theorem qIU {fp:List Addr} {h:Heap} {p:Addr × Obj} (hp:p∈pinsAt fp h):p.1∈fp∧h.get? p.1=some p.2:=by
 obtain ⟨b,hb,e⟩:=List.mem_filterMap.mp hp
 cases q:h.get? b with
 | none=>rw [q] at e;cases e
 | some o =>
  rw [q] at e
  have e':(b,o)=p:=Option.some.inj e
  subst e'
  exact ⟨hb,q⟩
theorem Inv.pinned {pins:List (Addr × Obj)} {σ:St} {H:Hp} {s:Shared} {fp:List Addr} (I:Inv X pins σ H s) (hf:∀ b∈fp,FpOk X pins H b) (ho:∀ b∈fp,∃ o,s.heap.get? b=some o∧∀ v,o.data≠.cell v):Inv X (pins++pinsAt fp s.heap) σ H s :=
 I.pins_of fun p hp=>(List.mem_append.mp hp).elim (fun z=>I.pin p (List.mem_append_right _ z)) fun z=>by
  obtain ⟨hb,e⟩:=qIU z
  obtain ⟨f0,f1,f2,_⟩:=hf p.1 hb
  obtain ⟨o,e',d⟩:=ho p.1 hb
  rw [e] at e';cases e'
  exact ⟨e,f0,f1,f2,d⟩
theorem Inv.unpinned {pins pl:List (Addr × Obj)} {σ:St} {H:Hp} {s:Shared} (I:Inv X (pins++pl) σ H s):Inv X pins σ H s:=I.pins_of fun p hp=>I.pin p (List.mem_append_right _ (List.mem_append_left _ hp))
theorem ps_for {iter:Expr} {body:List Stmt} {wi:TI} {g:TG} {tb:TS} {pos:Pos} (hp:PassesOwn (model X.prog X.w) X.A X.env X.xe) (hc:X.calm=true) (hi:PI X tg iter wi) (hg:PG X tg g) (hb:PSs X body tb)
    (hs:∀ x,foldedSetIterable iter X.env x=pure x:=by intro _;rfl):PS X (.For tg iter body [] pos) (tFor wi g tb):=by
  intro pins s σ H D I h
  refine wpAny_For (thn (hi pins s σ H _ I h) fun v s1 h1=>thn h1 fun itv s2 h2=>?_) hs
  obtain ⟨it,fp,tn,J,H2,e,I2,T,st2,f2,W,⟨m0,w0⟩,turn⟩:=h2
  subst e
  have stat:∀ {H':Hp},(∀ b∈fp,H' b=none)→∀ b∈fp,FpOk X pins H' b:=fun hn b hb=>⟨hn b hb,(f2 b hb).2⟩
  refine codeAny_forLoop_any (fun n s'=>∃ i σ' H',Inv X pins σ' H' s'∧tn i s'.heap∧(∀ b∈fp,H' b=none)∧W i n σ' H') ?_ m0 ⟨0,σ,H2,I2,st2,fun b hb=>(f2 b hb).1,w0⟩
  rintro n s3 ⟨i,σ3,H3,I3,st3,fr3,w3⟩
  rcases turn i n σ3 H3 w3 with ⟨stop,qn⟩ | ⟨go,N,hN,step⟩
  · refine wpAny_passesOwn hp (thn (T.done X rfl rfl rfl hc i pins s3 σ3 H3 X.xe I3 (stat fr3) st3 stop) fun r s4 ⟨hr,I4⟩=>?_)
    subst hr
    exact wpAny_execs_nil ⟨σ3,H3,I4,qn⟩
  · refine wpAny_passesOwn hp (thn (T.item X rfl rfl rfl hc i pins s3 σ3 H3 X.xe I3 (stat fr3) st3 go) fun r s4 ⟨u,hr,h4⟩=>?_)
    subst hr
    refine wpAny_passesOwn hp (thn h4 fun _ s5 ⟨x,H5,I5,r5,y5,st5,fr5⟩=>?_)
    have I5':=I5.pinned (stat fr5) (T.obj _ _ st5)
    refine wpAny_passesOwn hp (thn (hg _ s5 σ3 H5 x u _ I5' r5 (step x H5 y5)) fun _ s6 ⟨σ6,H6,I6,q6⟩=>?_)
    refine wpAny_passesOwn hp (thn (hb _ s6 σ6 H6 _ I6 q6) fun f s7 q7=>?_)
    have again:∀ {σ7:St} {H7:Hp},Inv X (pins++pinsAt fp s5.heap) σ7 H7 s7→N σ7 H7→∃ m,m<n∧∃ i σ' H',Inv X pins σ' H' s7∧tn i s7.heap∧(∀ b∈fp,H' b=none)∧W i m σ' H':=fun {σ7 H7} I7 n7=>by
      obtain ⟨m',hm,w7⟩:=hN σ7 H7 n7
      refine ⟨m',hm,i+1,σ7,H7,I7.unpinned,T.keep _ _ _ st5 fun b hb o e=>(I7.pin (b,o) (List.mem_append_right _ (List.mem_append_right _ (mem_pinsAt hb e)))).1,fun b hb=>?_,w7⟩
      obtain ⟨o,e,d⟩:=T.obj _ _ st5 b hb
      exact (I7.pin (b,o) (List.mem_append_right _ (List.mem_append_right _ (mem_pinsAt hb e)))).2.1
    cases f with
    | next=>obtain ⟨σ7,H7,I7,n7⟩:=q7;exact again I7 n7
    | cont=>obtain ⟨σ7,H7,I7,n7⟩:=q7;exact again I7 n7
    | brk=>obtain ⟨σ7,H7,I7,q7⟩:=q7;exact ⟨σ7,H7,I7.unpinned,q7⟩
    | ret v=>obtain ⟨x7,σ7,H7,I7,r7,q7⟩:=q7;exact ⟨x7,σ7,H7,I7.unpinned,r7,q7⟩
end
end L2
namespace L2
open PySem PySem.Spec PyProof.Rows
noncomputable abbrev R2:=V→V→Hp→VK→Prop
noncomputable def OpR (X:Cx) (f:Value→Value→Sem Value) (r:R2):Prop :=
 ∀ (pins:List (Addr × Obj)) (s:Shared) (σ:St) (H:Hp) (x y:V) (v u:Value) (Q:VK),Inv X pins σ H s→RelV x v→RelV y u→r x y H Q →
  wpAny (model X.prog X.w) X.A (f v u) (EP X pins σ Q) X.xe s
noncomputable def UnR (X:Cx) (f:Value→Sem Value) (r:V→Hp→VK→Prop):Prop :=
 ∀ (pins:List (Addr × Obj)) (s:Shared) (σ:St) (H:Hp) (x:V) (v:Value) (Q:VK),Inv X pins σ H s→RelV x v→r x H Q →
  wpAny (model X.prog X.w) X.A (f v) (EP X pins σ Q) X.xe s
noncomputable def CallR (X:Cx) (f:Value) (r:List V→Hp→VK→Prop):Prop :=
 ∀ (pins:List (Addr × Obj)) (s:Shared) (σ:St) (H:Hp) (xs:List V) (us:List Value) (Q:VK),Inv X pins σ H s→Vals xs us→r xs H Q →
  wpAny (model X.prog X.w) X.A (call f us) (EP X pins σ Q) X.xe s
noncomputable def TruR (X:Cx) (r:V→Hp→(Bool→Hp→Prop)→Prop):Prop :=
 ∀ (pins:List (Addr × Obj)) (s:Shared) (σ:St) (H:Hp) (x:V) (v:Value) (Q:Bool→Hp→Prop),Inv X pins σ H s→RelV x v→r x H Q →
  wpAny (model X.prog X.w) X.A (truthy v) (TP X pins σ Q) X.xe s
noncomputable def tOp (r:R2) (ta tb:TE):TE:=fun σ H Q=>ta σ H fun x H1=>tb σ H1 fun y H2=>r x y H2 Q
noncomputable def tUn (r:V→Hp→VK→Prop) (ta:TE):TE:=fun σ H Q=>ta σ H fun x H1=>r x H1 Q
noncomputable def rI (C:Int→Int→Prop) (g:Int→Int→V):R2:=fun x y H Q=>∃ i j,x=.int i∧y=.int j∧C i j∧Q (g i j) H
noncomputable def rI0 (g:Int→Int→V):R2:=fun x y H Q=>∃ i j,x=.int i∧y=.int j∧Q (g i j) H
noncomputable def rU (g:Int→V):V→Hp→VK→Prop:=fun x H Q=>∃ i,x=.int i∧Q (g i) H
section
variable {X:Cx} {a b c:Expr} {ta tb tc:TE} {pos:Pos}
theorem binT (ha:PE X a ta) (hb:PE X b tb) {pins:List (Addr × Obj)} {s:Shared} {σ:St} {H:Hp} {R:V→V→Hp→Prop} (I:Inv X pins σ H s)
    (h:ta σ H fun x H1=>tb σ H1 fun y H2=>R x y H2) {Q:Value→Shared→Prop} {f:Value→Value→Sem Value}
    (hf:∀ v u s2 x y H2,Inv X pins σ H2 s2→RelV x v→RelV y u→R x y H2→wpAny (model X.prog X.w) X.A (f v u) Q X.xe s2) :
    wpAny (model X.prog X.w) X.A (eval a X.env) (fun v s₁=>wpAny (model X.prog X.w) X.A (eval b X.env) (fun u s₂=>wpAny (model X.prog X.w) X.A (f v u) Q X.xe s₂) X.xe s₁) X.xe s:=by
  refine thn (ha pins s σ H _ I h) fun v s1 ⟨x,H1,I1,r1,q1⟩=>?_
  refine thn (hb pins s1 σ H1 _ I1 q1) fun u s2 ⟨y,H2,I2,r2,q2⟩=>?_
  exact hf v u s2 x y H2 I2 r1 r2 q2
theorem pe_op {op:Operator} {r:R2} (ho:OpR X (binaryOp op) r) (ha:PE X a ta) (hb:PE X b tb):PE X (.BinOp a op b pos) (tOp r ta tb):=by
 intro pins s σ H Q I h
 exact wpAny_BinOp (binT ha hb I h fun v u s2 x y H2 I2 rx ry q=>ho pins s2 σ H2 x y v u Q I2 rx ry q)
theorem pe_un {op:UnaryOp} {r:V→Hp→VK→Prop} (ho:UnR X (unaryOp op) r) (ha:PE X a ta):PE X (.UnaryOp op a pos) (tUn r ta):=by
 intro pins s σ H Q I h
 exact UnaryOp_ (thn (ha pins s σ H _ I h) fun v s1 ⟨x,H1,I1,r1,q1⟩=>ho pins s1 σ H1 x v Q I1 r1 q1)
theorem opI {f:Value→Value→Sem Value} {C:Int→Int→Prop} {g:Int→Int→Int}
    (rule:∀ (i j:Int) (t u:Tok) (s:Shared) (Q:Value→Shared→Prop) (E:Value→Shared→Prop),C i j→Q (.int (g i j) s.toks) { s with toks:=s.toks+1 }→wpAny (model X.prog X.w) X.A (f (.int i t) (.int j u)) Q E s) :
    OpR X f (rI C fun i j=>.int (g i j)):=by
  intro pins s σ H x y v u Q I rx ry h
  obtain ⟨i,j,rfl,rfl,hc,q⟩:=h
  obtain ⟨t,rfl⟩:=rx
  obtain ⟨t',rfl⟩:=ry
  exact rule i j t t' s _ _ hc ⟨.int (g i j),H,I.tok _,⟨_,rfl⟩,q⟩
theorem opI0 {f:Value→Value→Sem Value} {g:Int→Int→Int}
    (rule:∀ (i j:Int) (t u:Tok) (s:Shared) (Q:Value→Shared→Prop) (E:Value→Shared→Prop),Q (.int (g i j) s.toks) { s with toks:=s.toks+1 }→wpAny (model X.prog X.w) X.A (f (.int i t) (.int j u)) Q E s) :
    OpR X f (rI0 fun i j=>.int (g i j)):=by
  intro pins s σ H x y v u Q I rx ry h
  obtain ⟨i,j,rfl,rfl,q⟩:=h
  obtain ⟨t,rfl⟩:=rx
  obtain ⟨t',rfl⟩:=ry
  exact rule i j t t' s _ _ ⟨.int (g i j),H,I.tok _,⟨_,rfl⟩,q⟩
theorem opB0 {f:Value→Value→Sem Value} {g:Int→Int→Bool}
    (rule:∀ (i j:Int) (t u:Tok) (s:Shared) (Q:Value→Shared→Prop) (E:Value→Shared→Prop),Q (.bool (g i j)) s→wpAny (model X.prog X.w) X.A (f (.int i t) (.int j u)) Q E s) :
    OpR X f (rI0 fun i j=>.bl (g i j)):=by
  intro pins s σ H x y v u Q I rx ry h
  obtain ⟨i,j,rfl,rfl,q⟩:=h
  obtain ⟨t,rfl⟩:=rx
  obtain ⟨t',rfl⟩:=ry
  exact rule i j t t' s _ _ ⟨.bl (g i j),H,I,rfl,q⟩
noncomputable def CDiv (i j:Int):Prop:=0<j∧j<1073741824
noncomputable def CPow (i j:Int):Prop:=0≤j∧j≤1000000∧i.natAbs<2 ^ 64
noncomputable def CMul (i j:Int):Prop:=(-(2 ^ 64)<i∧i<2 ^ 64)∨(-(2 ^ 64)<j∧j<2 ^ 64)
theorem CMul.ok {i j:Int} (h:CMul i j):IntMulOk i j:=by
 rcases h with ⟨h1,h2⟩ | ⟨h1,h2⟩
 ·exact .of_left (intBits_le_64 h1 h2)
 ·exact .of_right (intBits_le_64 h1 h2)
theorem op_add:OpR X (binaryOp .Add) (rI0 fun i j=>.int (i+j)):=opI0 fun _ _ _ _ _ _ _ q=>add_int q
theorem op_sub:OpR X (binaryOp .Sub) (rI0 fun i j=>.int (i-j)):=opI0 fun _ _ _ _ _ _ _ q=>sub_int q
theorem op_mul:OpR X (binaryOp .Mult) (rI CMul fun i j=>.int (i*j)):=opI fun _ _ _ _ _ _ _ hc q=>mul_int q hc.ok
theorem op_fdiv:OpR X (binaryOp .FloorDiv) (rI CDiv fun i j=>.int (i / j)):=opI fun i j _ _ _ _ _ hc q=>by
 have h1:(0:Int)<j:=hc.1
 have h2:j<1073741824:=hc.2
 exact floordiv_int (by omega) (by rw [Int.fdiv_eq_ediv_of_nonneg i (by omega)];exact q) (.inl (PyProof.noPylong_small (by omega)))
theorem op_mod:OpR X (binaryOp .Mod) (rI (fun _ j=>0<j) fun i j=>.int (i % j)):=opI fun i j _ _ _ _ _ hc q=>by
 have h1:(0:Int)<j:=hc
 exact mod_int' (by omega) (by rw [Int.fmod_eq_emod_of_nonneg i (by omega)];exact q)
theorem op_pow:OpR X (binaryOp .Pow) (rI CPow fun i j=>.int (i ^ j.toNat)):=opI fun _ _ _ _ _ _ _ hc q=>pow_int_small hc.1 hc.2.1 hc.2.2 q
theorem unI {f:Value→Sem Value} {g:Int→Int}
    (rule:∀ (i:Int) (t:Tok) (s:Shared) (Q:Value→Shared→Prop) (E:Value→Shared→Prop),Q (.int (g i) s.toks) { s with toks:=s.toks+1 }→wpAny (model X.prog X.w) X.A (f (.int i t)) Q E s) :
    UnR X f (rU fun i=>.int (g i)):=by
  intro pins s σ H x v Q I rx h
  obtain ⟨i,rfl,q⟩:=h
  obtain ⟨t,rfl⟩:=rx
  exact rule i t s _ _ ⟨.int (g i),H,I.tok _,⟨_,rfl⟩,q⟩
theorem un_neg:UnR X (unaryOp .USub) (rU fun i=>.int (-i)):=unI fun _ _ _ _ _ q=>neg_int q
end
section
variable {X:Cx} {a b c:Expr} {ta tb tc:TE} {pos:Pos}
theorem op_lt:OpR X (compareOp .Lt) (rI0 fun i j=>.bl (decide (i<j))):=opB0 fun _ _ _ _ _ _ _ q=>lt_int q
theorem op_le:OpR X (compareOp .LtE) (rI0 fun i j=>.bl (decide (i≤j))):=opB0 fun _ _ _ _ _ _ _ q=>le_int q
theorem op_gt:OpR X (compareOp .Gt) (rI0 fun i j=>.bl (decide (j<i))):=opB0 fun _ _ _ _ _ _ _ q=>gt_int q
theorem op_ge:OpR X (compareOp .GtE) (rI0 fun i j=>.bl (decide (j≤i))):=opB0 fun _ _ _ _ _ _ _ q=>ge_int q
theorem OpR.or {f:Value→Value→Sem Value} {r r':R2} (h:OpR X f r) (h':OpR X f r'):OpR X f (fun x y H Q=>r x y H Q∨r' x y H Q):=by
 intro pins s σ H x y v u Q I rx ry q
 rcases q with q | q
 ·exact h pins s σ H x y v u Q I rx ry q
 ·exact h' pins s σ H x y v u Q I rx ry q
theorem qPq (b:Expr) {op:CmpOp} (h:op≠.In:=by decide) (h2:op≠.NotIn:=by decide):behindInMarks op b=false:=by
 have e1:(op == CmpOp.In)=false:=by cases op <;> first | rfl | exact absurd rfl h
 have e2:(op == CmpOp.NotIn)=false:=by cases op <;> first | rfl | exact absurd rfl h2
 cases b <;> simp [behindInMarks,e1,e2]
theorem pe_cmpR {op:CmpOp} {r:R2} (ho:OpR X (compareOp op) r) (ha:PE X a ta) (hb:PE X b tb) (hm:behindInMarks op b=false):PE X (.Compare a [op] [b] pos) (tOp r ta tb):=by
 intro pins s σ H Q I h
 exact wpAny_Compare1 (binT ha hb I h fun v u s2 x y H2 I2 rx ry q=>ho pins s2 σ H2 x y v u Q I2 rx ry q) hm
noncomputable def tTest (t:TE):TT:=fun σ H Q=>t σ H fun x H'=>∃ k,x=.bl k∧Q k H'
theorem pt_cmpR {op:CmpOp} {r:R2} (ho:OpR X (compareOp op) r) (ha:PE X a ta) (hb:PE X b tb) (hm:behindInMarks op b=false):PT X (.Compare a [op] [b] pos) (tTest (tOp r ta tb)):=by
 intro pins s σ H Q I h
 refine wpAny_isTrue_Compare1 (thn (ha pins s σ H _ I h) fun v s1 ⟨x,H1,I1,r1,q1⟩=>thn (hb pins s1 σ H1 _ I1 q1) fun u s2 ⟨y,H2,I2,r2,q2⟩ =>
  thn (ho pins s2 σ H2 x y v u _ I2 r1 r2 q2) fun c s3 ⟨z,H3,I3,r3,k,e,q3⟩=>?_) hm
 subst e
 cases r3
 exact wpAny_truthy_bool ⟨H3,I3,q3⟩
noncomputable def tChain (r r':R2) (ta tb tc:TE):TE:=fun σ H Q=>ta σ H fun x H1=>tb σ H1 fun y H2=>r x y H2 fun z H3=>∃ k,z=.bl k ∧
 (if k=true then tc σ H3 fun w' H4=>r' y w' H4 Q else Q (.bl false) H3)
theorem pe_chain {op op':CmpOp} {r r':R2} (ho:OpR X (compareOp op) r) (ho':OpR X (compareOp op') r') (ha:PE X a ta) (hb:PE X b tb) (hc:PE X c tc)
    (hm:lastMarks [op,op'] [b,c]=false:=by with_unfolding_all rfl):PE X (.Compare a [op,op'] [b,c] pos) (tChain r r' ta tb tc):=by
  intro pins s σ H Q I h
  refine Compare_chain (thn (ha pins s σ H _ I h) fun v s1 ⟨x,H1,I1,r1,q1⟩=>chain_link (thn (hb pins s1 σ H1 _ I1 q1) fun u s2 ⟨y,H2,I2,r2,q2⟩ =>
    thn (ho pins s2 σ H2 x y v u _ I2 r1 r2 q2) fun d s3 ⟨z,H3,I3,r3,k,e,q3⟩=>?_)) hm
  subst e
  cases r3
  refine wpAny_truthy_bool ?_
  cases k with
  | false=>exact ite_ff ⟨.bl false,H3,I3,rfl,q3⟩
  | true=>exact ite_tt (chain_last (thn (hc pins s3 σ H3 _ I3 q3) fun w' s4 ⟨z',H4,I4,r4,q4⟩=>ho' pins s4 σ H4 y z' u w' Q I4 r2 r4 q4))
theorem pt_chain {op op':CmpOp} {r r':R2} (ho:OpR X (compareOp op) r) (ho':OpR X (compareOp op') r') (ha:PE X a ta) (hb:PE X b tb) (hc:PE X c tc)
    (hm:lastMarks [op,op'] [b,c]=false:=by with_unfolding_all rfl):PT X (.Compare a [op,op'] [b,c] pos) (tTest (tChain r r' ta tb tc)):=by
  intro pins s σ H Q I h
  refine isTrue_chain (thn (ha pins s σ H _ I h) fun v s1 ⟨x,H1,I1,r1,q1⟩=>test_link (thn (hb pins s1 σ H1 _ I1 q1) fun u s2 ⟨y,H2,I2,r2,q2⟩ =>
    thn (ho pins s2 σ H2 x y v u _ I2 r1 r2 q2) fun d s3 ⟨z,H3,I3,r3,k,e,q3⟩=>?_)) hm
  subst e
  cases r3
  refine wpAny_truthy_bool ?_
  cases k with
  | false =>
    obtain ⟨k',e',q'⟩:=q3
    cases e'
    exact ite_ff ⟨H3,I3,q'⟩
  | true =>
    refine ite_tt (test_last (thn (hc pins s3 σ H3 _ I3 q3) fun w' s4 ⟨z',H4,I4,r4,q4⟩=>thn (ho' pins s4 σ H4 y z' u w' _ I4 r2 r4 q4) fun d' s5 ⟨z2,H5,I5,r5,k2,e2,q5⟩=>?_))
    subst e2
    cases r5
    exact wpAny_truthy_bool ⟨H5,I5,q5⟩
noncomputable def TruV (K:PySem.W.Frag) (x:V) (H:Hp) (k:Bool):Prop :=
 match x with
 | .non=>k=false
 | .bl b=>k=b
 | .int i=>k=(i != 0)
 | .str y=>y.length≤sizeLine∧k=((y.length:Int) != 0)
 | .byt y=>y.size≤sizeLine∧k=((y.size:Int) != 0)
 | .ref p=>(∃ xs,SqL K H p xs∧k=!xs.isEmpty)∨(∃ xs,SqT K H p xs∧k=!xs.isEmpty)∨∃ kvs,H p=some (.dK kvs)∧k=!kvs.isEmpty
 | _=>False
theorem qHo {κ:Type} {kvs:List (κ × V)} {vs:List (κ × Value)} (r:KV kvs vs):(!vs.isEmpty)=!kvs.isEmpty:=by
 cases r <;> rfl
theorem qEg {xs:List V} {its:List Value} (r:Vals xs its):(!its.toArray.isEmpty)=!xs.isEmpty:=by
 cases r <;> simp
theorem qFn:(sizeLine:Nat)<2 ^ 63:=by rw [sizeLine_eq];decide
theorem tru_ok:TruR X (fun x H Q=>∃ k,TruV X.K x H k∧Q k H):=by
 intro pins s σ H x v Q I rx h
 obtain ⟨k,e,q⟩:=h
 have hl:=qFn
 have hs:sizeLine=16777216:=sizeLine_eq
 cases x with
 | non =>
  cases rx
  have e':k=false:=e
  subst e'
  exact truthy_none ⟨H,I,q⟩
 | bl b =>
  cases rx
  have e':k=b:=e
  subst e'
  exact wpAny_truthy_bool ⟨H,I,q⟩
 | int i =>
  obtain ⟨t,rfl⟩:=rx
  have e':k=(i != 0):=e
  subst e'
  exact PySem.P.truthy_int ⟨H,I,q⟩
 | str y =>
  obtain ⟨t,rfl⟩:=rx
  obtain ⟨hy,e'⟩:y.length≤sizeLine∧k=((y.length:Int) != 0):=e
  subst e'
  exact PySem.P.truthy_str (by omega) ⟨H,I.tok _,q⟩
 | byt y =>
  obtain ⟨t,rfl⟩:=rx
  obtain ⟨hy,e'⟩:y.size≤sizeLine∧k=((y.size:Int) != 0):=e
  subst e'
  exact PySem.W.truthy_bytes (by omega) ⟨H,I.tok _,q⟩
 | ref p =>
  cases rx
  have e':(∃ xs,SqL X.K H p xs∧k=!xs.isEmpty)∨(∃ xs,SqT X.K H p xs∧k=!xs.isEmpty)∨∃ kvs,H p=some (.dK kvs)∧k=!kvs.isEmpty:=e
  rcases e' with ⟨xs,hx,e'⟩ | ⟨xs,hx,e'⟩ | ⟨kvs,hx,e'⟩
  ·subst e'
   obtain ⟨its,r,pl,hz⟩:=I.list hx
   have hlen:=r.length
   exact wpAny_truthy_list pl.isList (by simp only [List.size_toArray];omega) ⟨H,I.tok _,by rw [qEg r];exact q⟩
  ·subst e'
   obtain ⟨its,r,pl,hz⟩:=I.tuple hx
   have hlen:=r.length
   exact truthy_tuple pl (by simp only [List.size_toArray];omega) ⟨H,I.tok _,by rw [qEg r];exact q⟩
  ·subst e'
   obtain ⟨hz,hS,vs,r,m⟩:kvs.length≤sizeLine∧(p == sysModules)=false∧∃ vs,KV kvs vs∧s.heap.DictOf (mixKind X.prog X.w) p vs:=I.hok p _ hx
   have hlen:kvs.length=vs.length:=Paired.length r
   exact wpAny_truthy_dict hS m (by omega) ⟨H,I.tok _,by rw [qHo r];exact q⟩
 | _=>exact (show False from e).elim
theorem pt_truth (ha:PE X a ta) (he:∀ whole,isTrue a X.env whole=(do let v ← whole;standAt a.pos;holding [v] (truthy v))) :
    PT X a (fun σ H Q=>ta σ H fun x H'=>∃ k,TruV X.K x H' k∧Q k H'):=by
  intro pins s σ H Q I h
  exact isTrue_plain (thn (ha pins s σ H _ I h) fun v s1 ⟨x,H1,I1,r1,q1⟩=>tru_ok pins s1 σ H1 x v Q I1 r1 q1) (he _)
theorem op_add_str:OpR X (binaryOp .Add) (fun x y H Q=>∃ i j,x=.str i∧y=.str j∧i.length+j.length≤sizeLine∧Q (.str (i++j)) H):=by
 intro pins s σ H x y v u Q I rx ry h
 obtain ⟨i,j,rfl,rfl,hz,q⟩:=h
 obtain ⟨t,rfl⟩:=rx
 obtain ⟨t',rfl⟩:=ry
 exact add_str (fun t' tk=>⟨.str (i++j),H,I.tok _,⟨_,rfl⟩,q⟩) hz
theorem vals1 {x:V} {us:List Value} (r:Vals [x] us):∃ u,us=[u]∧RelV x u:=by
 cases r with
 | cons r1 r2=>cases r2;exact ⟨_,rfl,r1⟩
theorem vals2 {x y:V} {us:List Value} (r:Vals [x,y] us):∃ u w',us=[u,w']∧RelV x u∧RelV y w':=by
 cases r with
 | cons r1 r2 =>
  cases r2 with
  | cons r3 r4=>cases r4;exact ⟨_,_,rfl,r1,r3⟩
theorem call_max2 (hc:X.calm=true):CallR X (.builtin "max") (fun xs H Q=>∃ i j,xs=[.int i,.int j]∧Q (.int (if j > i then j else i)) H):=by
 intro pins s σ H xs us Q I r h
 obtain ⟨i,j,rfl,q⟩:=h
 obtain ⟨u,w',rfl,⟨t,rfl⟩,⟨t',rfl⟩⟩:=vals2 r
 refine max_two_ints (I.ok.hd hc) fun h' tk k=>⟨_,H,I.kept k,?_,q⟩
 by_cases hj:j > i
 ·rw [if_pos hj,if_pos hj];exact ⟨_,rfl⟩
 ·rw [if_neg hj,if_neg hj];exact ⟨_,rfl⟩
theorem call_min2 (hc:X.calm=true):CallR X (.builtin "min") (fun xs H Q=>∃ i j,xs=[.int i,.int j]∧Q (.int (if j<i then j else i)) H):=by
 intro pins s σ H xs us Q I r h
 obtain ⟨i,j,rfl,q⟩:=h
 obtain ⟨u,w',rfl,⟨t,rfl⟩,⟨t',rfl⟩⟩:=vals2 r
 refine min_two_ints (I.ok.hd hc) fun h' tk k=>⟨_,H,I.kept k,?_,q⟩
 by_cases hj:j<i
 ·rw [if_pos hj,if_pos hj];exact ⟨_,rfl⟩
 ·rw [if_neg hj,if_neg hj];exact ⟨_,rfl⟩
theorem call_int1:CallR X (.type "int") (fun xs H Q=>(∃ i,xs=[.int i]∧Q (.int i) H)∨∃ k,xs=[.bl k]∧Q (.int (if k then 1 else 0)) H):=by
 intro pins s σ H xs us Q I r h
 rcases h with ⟨i,rfl,q⟩ | ⟨k,rfl,q⟩
 ·obtain ⟨u,rfl,t,rfl⟩:=vals1 r
  exact call_int_int ⟨.int i,H,I,⟨_,rfl⟩,q⟩
 ·obtain ⟨u,rfl,r1⟩:=vals1 r
  cases r1
  exact call_int_bool ⟨.int (if k then 1 else 0),H,I.tok _,⟨_,rfl⟩,q⟩
noncomputable def LenV (K:PySem.W.Frag) (x:V) (H:Hp) (n:Nat):Prop :=
 match x with
 | .str y=>y.length≤sizeLine∧n=y.length
 | .byt y=>y.size≤sizeLine∧n=y.size
 | .ref p=>(∃ xs,SqL K H p xs∧n=xs.length)∨∃ xs,SqT K H p xs∧n=xs.length
 | _=>False
theorem call_len:CallR X (.builtin "len") (fun xs H Q=>∃ x n,xs=[x]∧LenV X.K x H n∧Q (.int n) H):=by
 intro pins s σ H xs us Q I r h
 obtain ⟨x,n,rfl,e,q⟩:=h
 obtain ⟨u,rfl,rx⟩:=vals1 r
 have hl:=qFn
 have hs:sizeLine=16777216:=sizeLine_eq
 cases x with
 | str y =>
  obtain ⟨t,rfl⟩:=rx
  obtain ⟨hy,e'⟩:y.length≤sizeLine∧n=y.length:=e
  subst e'
  exact len_str (by omega) ⟨.int _,H,I.tok _,⟨_,rfl⟩,q⟩
 | byt y =>
  obtain ⟨t,rfl⟩:=rx
  obtain ⟨hy,e'⟩:y.size≤sizeLine∧n=y.size:=e
  subst e'
  exact PySem.W.len_bytes (by omega) ⟨.int _,H,I.tok _,⟨_,rfl⟩,q⟩
 | ref p =>
  cases rx
  have e':(∃ xs,SqL X.K H p xs∧n=xs.length)∨∃ xs,SqT X.K H p xs∧n=xs.length:=e
  rcases e' with ⟨xs,hx,e'⟩ | ⟨xs,hx,e'⟩
  ·subst e'
   obtain ⟨its,r',pl,hz⟩:=I.list hx
   have hlen:=r'.length
   exact Calls.call_len_list pl.isList (by simp only [List.size_toArray];omega) ⟨.int xs.length,H,I.tok _,⟨_,by simp only [List.size_toArray];rw [hlen]⟩,q⟩
  ·subst e'
   obtain ⟨its,r',pl,hz⟩:=I.tuple hx
   have hlen:=r'.length
   exact len_tuple pl (by simp only [List.size_toArray];omega) ⟨.int xs.length,H,I.tok _,⟨_,by simp only [List.size_toArray];rw [hlen]⟩,q⟩
 | _=>exact (show False from e).elim
end
end L2
namespace L2
open PySem PySem.Spec PyProof.Rows
structure ObjM (h:Heap) (x dx C:Addr) (mA:Str→Option Value):Prop where
 obj:h.get? x=some (PySem.W.instObj C dx)
 ns:h.Ns1 dx mA
 ne:dx≠x
theorem qIo {h:Heap} {dx:Addr} {mA:Str→Option Value} (n:h.Ns1 dx mA):∃ od,h.get? dx=some od∧∀ name,PySem.W.lookIn name od=some (mA name):=by
 obtain ⟨o,es,ep,ho,hd,hk,_,hm⟩:=n
 refine ⟨o,ho,fun name=>?_⟩
 have e:=hm name
 unfold nsFind findBy at e
 rw [← Array.find?_toList] at e
 unfold PySem.W.lookIn
 rw [hd]
 dsimp only
 split
 ·rename_i y q
  rw [q] at e
  exact congrArg some e
 ·rename_i q
  rw [q] at e
  have a:es.toList.any (·.refKey)=false:=by
   rw [List.any_eq_false]
   intro y hy
   obtain ⟨z,t,hkey⟩:=hk y (Array.mem_toList_iff.mp hy)
   simp [DictEntry.refKey,hkey]
  have a':¬ es.toList.any (·.refKey)=true:=by rw [a];exact Bool.false_ne_true
  rw [if_neg a']
  exact congrArg some e
theorem ObjM.look {h:Heap} {x dx C:Addr} {mA:Str→Option Value} (I:ObjM h x dx C mA):∃ od,PySem.W.InstAt h x (PySem.W.instObj C dx) C (some od)∧∀ name,PySem.W.lookIn name od=some (mA name) :=
 let ⟨od,ho,hl⟩:=qIo I.ns
 ⟨od,⟨I.obj,rfl,rfl,ho⟩,hl⟩
section
variable {prog:Program} {w:World} {A:Around} {E:Value→Shared→Prop} {s:Shared} {K:PySem.W.Frag} {x dx C f:Addr} {mA:Str→Option Value} {name:Str} {v:Value}
theorem qM6 {expr:Bool} {Q:Value→Shared→Prop} (X:K.In s.heap) (I:ObjM s.heap x dx C mA) (hg:PySem.W.plainGet K C name=true) (hh:PySem.W.hasDictIn K C=true)
    (ha:PySem.W.findIn K (.ref C) name=some none) (hv:mA name=some v) (hv':PySem.W.handedIn v=true) (h:Q v { s with toks:=s.toks+1 }) :
    wpAny (model prog w) A (getAttr (.ref x) name expr) Q E s:=by
  obtain ⟨od,J,hl⟩:=I.look
  exact PySem.W.get_value X J (PySem.W.plainGet_of hg).1 (PySem.W.findObj_own hh ha rfl (by rw [hl,hv])) hv' h
theorem qKj {pl:Sem Bool} {Q:Value × List Value→Shared→Prop} (X:K.In s.heap) (I:ObjM s.heap x dx C mA) (hg:PySem.W.plainGet K C name=true)
    (hf:PySem.W.findIn K (.ref C) name=some (some (.ref f))) (ht:PySem.W.isFn K (.ref f)=true) (hv:mA name=none) (h:Q (.ref f,[.ref x]) s) :
    wpAny (model prog w) A (getMethod (.ref x) name pl) Q E s:=by
  obtain ⟨od,J,hl⟩:=I.look
  exact PySem.W.method_fn X J (PySem.W.plainGet_of hg).1 (PySem.W.plainGet_of hg).2 hf (beq_iff_eq.mp ht) (by show (PySem.W.lookIn name od).map (·.isSome)=some false;rw [hl,hv];rfl) h
theorem qL3 {ns:List Str} {Q:Unit→Shared→Prop} (X:K.In s.heap) (I:ObjM s.heap x dx C mA)
    (hs:PySem.W.findIn K (.ref C) "__setattr__"=some (some (.builtin "object.__setattr__"))) (hp:PySem.W.plainOver K C=true) (ht:PySem.W.takerIn K C name=some none) (hh:PySem.W.hasDictIn K C=true)
    (hw:PySem.Within mA ns) (hsz:ns.length≤sizeLine)
    (h:∀ h',ObjM h' x dx C (fun y=>if y=name then some v else mA y)→Heap.SameBut dx s.heap h'→Q () { s with heap:=h',toks:=s.toks+2 }) :
    wpAny (model prog w) A (setAttr (.ref x) name v) Q E s:=by
  obtain ⟨od,J,hl⟩:=I.look
  refine PySem.W.set_plain X J hs (PySem.W.osa_open (s:={ s with toks:=s.toks+1 }) (r:=none) X J hp ht fun b=>?_)
  obtain ⟨cd,hc,hd'⟩:=PySem.W.any_some hh
  have hx:s.heap.get? x=some ⟨.ref C,some dx,.plain,#[]⟩:=I.obj
  refine wpAny_bind (wpAny_pure (wpAny_bind (wpAny_bind (wpAny_loadPart hx (wpAny_bind (PySem.W.Looks.here (s:={ s with toks:=s.toks+1 }) (PySem.W.looks_clsIn X hc) ?_))))))
  rw [hd']
  refine wpAny_pure (a:=some dx) (wpAny_bind (wpAny_pure (wpAny_bind ?_)))
  refine wpAny_nsSet1 (s:={ s with toks:=s.toks+1 }) I.ns fun h' hn2 hs2=>?_
  obtain ⟨oD,esD,epD,hoD,hdD,hcD⟩:=hn2.count (PySem.Within.cons name v hw)
  refine wpAny_bind (wpAny_lookBehind hoD (by rw [hdD];exact pastItsLine_dict (Nat.le_trans hcD (by rw [List.length_cons];omega))) ?_)
  exact wpAny_pure (h _ ⟨(hs2.2 _ (Ne.symm I.ne)).trans I.obj,hn2,I.ne⟩ hs2)
theorem make_map {R:Result→Shared→Prop} {vs:List Value} {kw:List (Str × Value)} (X:K.In s.heap) (hm:PySem.W.makesIn K C=true)
    (hi:PySem.W.findIn K (.ref C) "__init__"=some (some (.ref f))) (hf:PySem.W.typeIn K (.ref f)=some (.type "function"))
    (h:codeAny (model prog w) (A.under (.builtin "type.__call__" ⟨.ref C::vs,kw⟩)) (.call (.ref f) ⟨.ref (s.heap.objs.size+1)::vs,kw⟩) (PySem.W.InitBack (s.heap.objs.size+1) R)
      { s with heap:=(s.heap.push PySem.W.emptyDict).push (PySem.W.instObj C s.heap.objs.size) }) :
    codeAny (model prog w) A (.call (.ref C) ⟨vs,kw⟩) R s:=by
  obtain ⟨hh,g,d,t,os⟩:=s
  exact PySem.W.make_core (PySem.W.makes_of X hm) (PySem.W.looks_findIn X hi) (fun self=>PySem.W.bind_fn X self hf) (.inl rfl) h
end
noncomputable def putF (f:Str) (v:V):List (Str × V)→List (Str × V)
 | []=>[(f,v)]
 | (g,x)::r=>if g=f then (g,v)::r else (g,x)::putF f v r
theorem qDr (f g:Str) (v:V):∀ fs:List (Str × V),(putF f v fs).lookup g=if g=f then some v else fs.lookup g
 | []=>by
  show List.lookup g [(f,v)]=_
  by_cases h:g=f
  ·have hb:(g == f)=true:=beq_iff_eq.mpr h
   simp only [List.lookup,hb,if_pos h]
  ·have hb:(g == f)=false:=beq_eq_false_iff_ne.mpr h
   simp only [List.lookup,hb,if_neg h]
 | (k,x)::r=>by
  have ih:=qDr f g v r
  rw [show putF f v ((k,x)::r)=(if k=f then (k,v)::r else (k,x)::putF f v r) from rfl]
  by_cases hk:k=f
  ·rw [if_pos hk]
   by_cases h:g=k
   ·have hb:(g == k)=true:=beq_iff_eq.mpr h
    simp only [List.lookup,hb,if_pos (h.trans hk)]
   ·have hb:(g == k)=false:=beq_eq_false_iff_ne.mpr h
    simp only [List.lookup,hb,if_neg (fun e:g=f=>h (e.trans hk.symm))]
  ·rw [if_neg hk]
   by_cases h:g=k
   ·have hb:(g == k)=true:=beq_iff_eq.mpr h
    simp only [List.lookup,hb,if_neg (fun e:g=f=>hk (h.symm.trans e))]
   ·have hb:(g == k)=false:=beq_eq_false_iff_ne.mpr h
    simp only [List.lookup,hb]
    exact ih
theorem qDt (f:Str) (v:V):∀ fs:List (Str × V),f∈(putF f v fs).map (·.1)∧∀ g,g∈fs.map (·.1)→g∈(putF f v fs).map (·.1)
 | []=>⟨by simp [putF],fun g h=>by simp at h⟩
 | (k,x)::r=>by
  obtain ⟨i1,i2⟩:=qDt f v r
  rw [show putF f v ((k,x)::r)=(if k=f then (k,v)::r else (k,x)::putF f v r) from rfl]
  by_cases hk:k=f
  ·rw [if_pos hk]
   subst hk
   exact ⟨by simp,fun g h=>by simpa using h⟩
  ·rw [if_neg hk]
   refine ⟨?_,fun g h=>?_⟩
   ·rw [List.map_cons]
    exact List.mem_cons_of_mem _ i1
   ·rw [List.map_cons] at h ⊢
    rcases List.mem_cons.mp h with e | e
    ·exact List.mem_cons.mpr (.inl e)
    ·exact List.mem_cons_of_mem _ (i2 g e)
theorem qDs (f:Str) (v:V):∀ fs:List (Str × V),(putF f v fs).length≤fs.length+1
 | []=>by simp [putF]
 | (k,x)::r=>by
  have ih:=qDs f v r
  rw [show putF f v ((k,x)::r)=(if k=f then (k,v)::r else (k,x)::putF f v r) from rfl]
  by_cases hk:k=f
  ·rw [if_pos hk,List.length_cons,List.length_cons];omega
  ·rw [if_neg hk,List.length_cons,List.length_cons];omega
theorem RelO.some_of {v:V} {o:Option Value} (r:RelO (some v) o):∃ u,o=some u∧RelV v u:=by
 cases o with
 | none=>exact (show False from r).elim
 | some u=>exact ⟨u,rfl,r⟩
theorem RelO.none_of {o:Option Value} (r:RelO none o):o=none:=by
 cases o with
 | none=>rfl
 | some u=>exact (show False from r).elim
theorem qI5 {v:V} {u:Value} (r:RelV v u):PySem.W.handedIn u=true:=by
 cases v with
 | non=>cases (show u=Value.none from r);rfl
 | bl b=>cases (show u=Value.bool b from r);rfl
 | int i=>obtain ⟨t,e⟩:=(show ∃ t,u=Value.int i t from r);cases e;rfl
 | str x=>obtain ⟨t,e⟩:=(show ∃ t,u=Value.str x t from r);cases e;rfl
 | byt b=>obtain ⟨t,e⟩:=(show ∃ t,u=Value.bytes b t from r);cases e;rfl
 | flt b=>obtain ⟨t,e⟩:=(show ∃ t,u=Value.float b t from r);cases e;rfl
 | ref a=>cases (show u=Value.ref a from r);rfl
 | ty n=>cases (show u=Value.type n from r);rfl
section
variable {P:Program} {w:World} {H H':Hp} {h h':Heap} {a C dx:Addr} {fs fs':List (Str × V)}
theorem qGY (hok:HOk P w H h) (e:H a=some (.ins C dx fs)):∃ mA,ObjM h a dx C mA∧(∀ f,RelO (fs.lookup f) (mA f))∧PySem.Within mA (fs.map (·.1))∧fs.length≤1000∧H dx=some (.own a):=by
 obtain ⟨d,z,ne,ob,mA,n,r,q⟩:=(show ObjOk P w H h a (.ins C dx fs) from hok a _ e)
 exact ⟨mA,⟨ob,n,ne⟩,r,q,z,d⟩
end
structure Cls (K:PySem.W.Frag) (C:Addr):Prop where
 pg:PySem.W.plainGet K C Str.empty=true
 hd:PySem.W.hasDictIn K C=true
 po:PySem.W.plainOver K C=true
 sa:PySem.W.findIn K (.ref C) "__setattr__"=some (some (.builtin "object.__setattr__"))
theorem Cls.get {K:PySem.W.Frag} {C:Addr} (c:Cls K C) (f:Str):PySem.W.plainGet K C f=true:=c.pg
noncomputable def NoAttr (K:PySem.W.Frag) (C:Addr) (f:Str):Prop:=PySem.W.findIn K (.ref C) f=some none
theorem NoAttr.taker {K:PySem.W.Frag} {C:Addr} {f:Str} (n:NoAttr K C f):PySem.W.takerIn K C f=some none:=by
 unfold PySem.W.takerIn
 rw [show PySem.W.findIn K (.ref C) f=some none from n]
 rfl
structure Meth (K:PySem.W.Frag) (C:Addr) (m:Str) (f:Addr):Prop where
 at_:PySem.W.findIn K (.ref C) m=some (some (.ref f))
 fn:PySem.W.isFn K (.ref f)=true
 kp:PySem.W.keepIn K (.ref f)=true
section
variable {X:Cx} {pins:List (Addr × Obj)} {σ:St} {H:Hp} {s:Shared} {a C dx:Addr} {fs:List (Str × V)} {f:Str} {v:V} {A:Around} {E:Value→Shared→Prop}
theorem qHs {b:Bool} {Q:Value→Shared→Prop} (I:Inv X pins σ H s) (e:H a=some (.ins C dx fs)) (c:Cls X.K C) (n:NoAttr X.K C f) (l:fs.lookup f=some v)
    (h:∀ u s',Inv X pins σ H s'→RelV v u→Q u s'):wpAny (model X.prog X.w) A (getAttr (.ref a) f b) Q E s:=by
  obtain ⟨mA,O,r,_,_,_⟩:=qGY I.hok e
  obtain ⟨u,hu,ru⟩:=RelO.some_of (v:=v) (o:=mA f) (by rw [← l];exact r f)
  exact qM6 I.kIn O (c.get f) c.hd n hu (qI5 ru) (h u _ (I.tok _) ru)
theorem getmeth_ok {m:Str} {g:Addr} {pl:Sem Bool} {Q:Value × List Value→Shared→Prop} (I:Inv X pins σ H s) (e:H a=some (.ins C dx fs)) (c:Cls X.K C) (k:Meth X.K C m g) (l:fs.lookup m=none)
    (h:Q (.ref g,[.ref a]) s):wpAny (model X.prog X.w) A (getMethod (.ref a) m pl) Q E s:=by
  obtain ⟨mA,O,r,_,_,_⟩:=qGY I.hok e
  have hn:mA m=none:=RelO.none_of (by rw [← l];exact r m)
  exact qKj I.kIn O (c.get m) k.at_ k.fn hn h
theorem qHc {y:V} {u:Value} {Q:Unit→Shared→Prop} (I:Inv X pins σ H s) (e:H a=some (.ins C dx fs)) (c:Cls X.K C) (n:NoAttr X.K C f) (hl:fs.length<1000) (ry:RelV y u)
    (h:∀ s',Inv X pins σ (upd H a (.ins C dx (putF f y fs))) s'→Q () s'):wpAny (model X.prog X.w) A (setAttr (.ref a) f u) Q E s:=by
  obtain ⟨mA,O,r,wi,_,ho⟩:=qGY I.hok e
  have hz:(fs.map (·.1)).length≤sizeLine:=by rw [List.length_map,sizeLine_eq];omega
  refine qL3 I.kIn O c.sa c.po n.taker c.hd wi hz fun h' O' sb=>h _ ?_
  have hd:∃ o,h'.get? dx=some o:=let ⟨o,_,_,e',_⟩:=O'.ns;⟨o,e'⟩
  refine I.write (x:=a) (e:=dx) (by rw [e];exact True.intro) (.inr ho) (fun b q hb z=>(sb.2 b hb).trans z) hd ?_
  refine ⟨by rw [qAB O.ne];exact ho,?_,O.ne,O'.obj,_,O'.ns,fun g=>?_,fun g hg=>?_⟩
  · have:=qDs f y fs;omega
  · show RelO ((putF f y fs).lookup g) (if g=f then some u else mA g)
    rw [qDr]
    by_cases q:g=f
    · rw [if_pos q,if_pos q];exact ry
    · rw [if_neg q,if_neg q];exact r g
  · by_cases q:g=f
    · rw [q];exact (qDt f y fs).1
    · refine (qDt f y fs).2 g (wi g fun z=>hg ?_)
      show (if g=f then some u else mA g)=none
      rw [if_neg q];exact z
theorem Inv.made (I:Inv X pins σ H s):Inv X pins σ (upd (upd H s.heap.objs.size (.own (s.heap.objs.size+1))) (s.heap.objs.size+1) (.ins C s.heap.objs.size []))
    { s with heap:=(s.heap.push PySem.W.emptyDict).push (PySem.W.instObj C s.heap.objs.size) }:=by
  have e1:(s.heap.push PySem.W.emptyDict).get? s.heap.objs.size=some PySem.W.emptyDict:=Heap.get?_push_size s.heap rfl
  have e2:((s.heap.push PySem.W.emptyDict).push (PySem.W.instObj C s.heap.objs.size)).get? (s.heap.objs.size+1)=some (PySem.W.instObj C s.heap.objs.size):=by
    have:=Heap.get?_push_size (s.heap.push PySem.W.emptyDict) (o:=PySem.W.instObj C s.heap.objs.size) rfl
    rwa [Heap.size_push] at this
  have e3:(s.heap.push PySem.W.emptyDict).Ns s.heap.objs.size (fun _=>none):=⟨PySem.W.emptyDict,#[],_,e1,rfl,(fun e he=>absurd he (by simp)),fun _=>rfl⟩
  have I1:=I.laid (a:=s.heap.objs.size) (o:=.own (s.heap.objs.size+1)) (h':=s.heap.push PySem.W.emptyDict) (t':=s.toks) (fun b u q=>Heap.get?_push_of_some _ q) (Nat.le_refl _) ⟨_,e1⟩
  refine I1.laid (a:=s.heap.objs.size+1) (o:=.ins C s.heap.objs.size []) (t':=s.toks) (fun b u q=>Heap.get?_push_of_some _ q) (Nat.le_of_eq (Heap.size_push _ _)) ?_
  have ne:s.heap.objs.size≠s.heap.objs.size+1:=Nat.ne_of_lt (Nat.lt_succ_self _)
  refine ⟨by rw [qAB ne,qAA],Nat.zero_le _,ne,e2,fun _=>none,(Heap.Ns1.of_empty e3).at fun o q=>Heap.get?_push_of_some _ q,fun _=>True.intro,fun y hy=>absurd rfl hy⟩
theorem qNW {prog:Program} {w:World} {env:Env} {e:Expr} {f:Str} {pos:Pos} {s:Shared} {Q:Value→Shared→Prop} (hb:attributeBase e f env (eval e env)=eval e env)
    (h:wpAny (model prog w) A (eval e env) (fun o s₁=>wpAny (model prog w) A (getAttr o f true) Q E s₁) E s):wpAny (model prog w) A (eval (.Attribute e f pos) env) Q E s :=
  Attribute_any_ h (by rw [arm_eval_Attribute,hb])
end
noncomputable def tFld (K:PySem.W.Frag) (ta:TE) (f:Str):TE:=fun σ H Q=>ta σ H fun x H1=>∃ a C dx fs v,x=.ref a∧H1 a=some (.ins C dx fs)∧Cls K C∧NoAttr K C f∧fs.lookup f=some v∧Q v H1
noncomputable def sFld (K:PySem.W.Frag) (ta tv:TE) (f:Str):TS:=fun D σ H=>tv σ H fun y H1=>ta σ H1 fun x H2=>∃ a C dx fs,x=.ref a∧H2 a=some (.ins C dx fs)∧Cls K C∧NoAttr K C f∧fs.length<1000 ∧
 D.nx σ (upd H2 a (.ins C dx (putF f y fs)))
section
variable {X:Cx} {o e value:Expr} {f:Str} {pos pos' tpos:Pos} {ta tv:TE}
theorem pe_fld (he:PE X e ta) (hb:attributeBase e f X.env (eval e X.env)=eval e X.env):PE X (.Attribute e f pos) (tFld X.K ta f):=by
 intro pins s σ H Q I h
 refine qNW hb (thn (he pins s σ H _ I h) fun u s1 ⟨x,H1,I1,rx,a,C,dx,fs,v,ex,ea,c,n,l,q⟩=>?_)
 subst ex
 obtain rfl:u=Value.ref a:=rx
 exact qHs I1 ea c n l fun u' s2 I2 ru=>⟨v,H1,I2,ru,q⟩
theorem ps_fld (ha:PE X o ta) (hv:PE X value tv) (hs:swapsWith value (some (.Attribute o f pos')) pos.line X.env=pure false):PS X (.Assign [.Attribute o f pos'] value pos) (sFld X.K ta tv f):=by
 intro pins s σ H D I h
 refine plainObj_wpAny_Assign_Attribute (thn (hv pins s σ H _ I h) fun u s1 ⟨y,H1,I1,ry,q⟩=>thn (ha pins s1 σ H1 _ I1 q) fun ov s2 ⟨x,H2,I2,rx,a,C,dx,fs,ex,ea,c,n,l,q2⟩=>?_) hs
 subst ex
 obtain rfl:ov=Value.ref a:=rx
 exact qHc I2 ea c n l ry fun s3 I3=>⟨σ,_,I3,q2⟩
end
section
variable {X:Cx} {pins:List (Addr × Obj)} {σ:St} {H:Hp} {s:Shared} {A:Around} {E:Value→Shared→Prop} {Q:Value→Shared→Prop} {c:Value} {b:Bool}
end
end L2
namespace L2
open PySem PySem.Spec PyProof.Rows
structure Room (k:Nat) (A:Around):Prop where
 hd:A.handled=none
 dp:A.depth+3*k+5<recursionLimit
 un:A.units+16*k+200<cLine
theorem Room.mono {j k:Nat} {A:Around} (r:Room k A) (h:j≤k):Room j A:=⟨r.hd,by have:=r.dp;omega,by have:=r.un;omega⟩
theorem Room.deeper {k:Nat} {A:Around} (r:Room (k+1) A) (env:Env):Room k (A.deeper env) :=
 ⟨r.hd,by have:=r.dp;show A.depth+1+3*k+5<_;omega,by have:=r.un;show A.units+3+16*k+200<_;omega⟩
theorem Room.in1 {k:Nat} {A:Around} (r:Room (k+1) A):Room k A.in1 :=
 ⟨r.hd,by have:=r.dp;show A.depth+3*k+5<_;omega,by have:=r.un;show A.units+1+16*k+200<_;omega⟩
theorem qHj {A:Around} {C:Addr} {us:List Value} {kw:List (Str × Value)}:(A.under (.builtin "type.__call__" ⟨.ref C::us,kw⟩)).depth=A.depth+1:=by
 first | rfl | simp [Around.under,Code.weight,Code.isCreation,Code.isGuard,Code.isCaller,Code.frames,Code.isFrame,guardIds]
theorem qHi {A:Around} {C:Addr} {us:List Value} {kw:List (Str × Value)}:(A.under (.builtin "type.__call__" ⟨.ref C::us,kw⟩)).units=A.units+1:=by
 first | rfl | simp [Around.under,Code.cUnits,Code.frames,Code.isFrame]
theorem Room.make {k:Nat} {A:Around} (r:Room (k+1) A) (C:Addr) (us:List Value) (kw:List (Str × Value)):Room k (A.under (.builtin "type.__call__" ⟨.ref C::us,kw⟩)) :=
 ⟨r.hd,by have:=r.dp;rw [qHj];omega,by have:=r.un;rw [qHi];omega⟩
theorem Room.depth {k:Nat} {A:Around} (r:Room k A):A.depth<recursionLimit:=by have:=r.dp;omega
theorem Room.units {k:Nat} {A:Around} (r:Room k A):A.units+64<cLine:=by have:=r.un;omega
noncomputable def tNil:TA:=fun _ H Q=>Q [] H
noncomputable def tCons (ta:TE) (tr:TA):TA:=fun σ H Q=>ta σ H fun x H1=>tr σ H1 fun xs H2=>Q (x::xs) H2
section
variable {X:Cx} {e:Expr} {es:List Expr} {te:TE} {t:TA} {pos:Pos}
theorem pa_nil:PA X [] tNil:=fun _ _ _ _ H Q I h=>Calls.spliced_nil ⟨[],H,I,.nil,h⟩
theorem pa_cons (ha:PE X e te) (hr:PA X es t) (hs:starEach (e::es) X.env=(false,eval e X.env)::starEach es X.env:=by rfl):PA X (e::es) (tCons te t):=by
 intro pos pins s σ H Q I h
 rw [hs]
 show wpAny _ _ (spliced ((false,eval e X.env)::backTo pos (starEach es X.env))) _ _ s
 refine Calls.spliced_cons (thn (ha pins s σ H _ I h) fun u s1 ⟨x,H1,I1,r1,q1⟩=>?_)
 exact thn (hr pos pins s1 σ H1 _ I1 q1) fun us s2 ⟨xs,H2,I2,r2,q2⟩=>⟨x::xs,H2,I2,.cons r1 r2,q2⟩
noncomputable def tTup (t:TA):TE:=fun σ H Q=>t σ H fun xs H1=>xs.length≤sizeLine∧∀ p,H1 p=none→Q (.ref p) (upd H1 p (.tup xs))
noncomputable def tLst (t:TA):TE:=fun σ H Q=>t σ H fun xs H1=>xs.length≤sizeLine∧∀ p,H1 p=none→Q (.ref p) (upd H1 p (.lst xs))
theorem pe_tup {x1} (h:PA X es t):PE X (.Tuple es x1 pos) (tTup t):=by
 intro pins s σ H Q I hq
 refine wpAny_Tuple_spliced (thn (h pos pins s σ H _ I hq) fun us s1 ⟨xs,H1,I1,r,z,q⟩=>⟨by rw [← r.length];exact z,?_⟩)
 have hf:H1 s1.heap.objs.size=none:=I1.hok.fresh (Nat.le_refl _)
 refine ⟨.ref s1.heap.objs.size,upd H1 s1.heap.objs.size (.tup xs),I1.laid (t':=s1.toks) (fun b u e=>Heap.get?_push_of_some _ e) (Nat.le_refl _) ?_,rfl,q _ hf⟩
 exact ⟨z,us,r,⟨_,Heap.get?_push_size _ rfl,rfl,_,rfl⟩⟩
theorem pe_lst (h:PA X es t):PE X (.List es pos) (tLst t):=by
 intro pins s σ H Q I hq
 refine wpAny_List_spliced (thn (h pos pins s σ H _ I hq) fun us s1 ⟨xs,H1,I1,r,z,q⟩=>⟨by rw [← r.length];exact z,?_⟩)
 have hf:H1 s1.heap.objs.size=none:=I1.hok.fresh (Nat.le_refl _)
 refine ⟨.ref s1.heap.objs.size,upd H1 s1.heap.objs.size (.lst xs),I1.laid (t':=s1.toks) (fun b u e=>Heap.get?_push_of_some _ e) (Nat.le_refl _) ?_,rfl,q _ hf⟩
 exact ⟨z,us,0,r,Heap.get?_push_size _ rfl⟩
end
noncomputable abbrev Sp:=List V→Hp→VK→XK→Prop
noncomputable abbrev CXT:=List Env→Hp→Shared→XK→Value→Shared→Prop
structure Env0 (P:Program) (w:World) (K:PySem.W.Frag) (mg:Str→Option Value) (base:Heap) (A:Around) (outer:List Env) (s:Shared) (H:Hp):Prop where
 frames:A.frames=some outer
 mod:Mod K mg base
 bs:∀ b o,base.get? b=some o→s.heap.get? b=some o∧H b=none
 bsz:base.objs.size≤s.heap.objs.size
 funs:s.heap.FunFrames base outer
 frf:∀ b∈frs outer,H b=none
 hok:HOk P w H s.heap
 bare:AllBare s.gens
noncomputable def CE (outer:List Env) (P:Program) (w:World) (H:Hp) (s:Shared) (Q:VK) (u:Value) (s':Shared):Prop :=
 ∃ v H',s'.os=s.os∧AllBare s'.gens∧Un (frs outer) [] H H' s.heap s'.heap∧HOk P w H' s'.heap∧RelV v u∧Q v H'
noncomputable def CR (CX:CXT) (outer:List Env) (P:Program) (w:World) (H:Hp) (s:Shared) (Q:VK) (E:XK) (r:Result) (s':Shared):Prop :=
 match r with
 | .ok (.ret u)=>CE outer P w H s Q u s'
 | .ok _=>False
 | .error e=>CX outer H s E e s'
structure FnOk (P:Program) (w:World) (K:PySem.W.Frag) (mg:Str→Option Value) (base:Heap) (CX:CXT) (k:Nat) (f:Addr) (fd:FuncData) (ps:List Str) (sp:Sp):Prop where
 len:∀ vs H Q E,sp vs H Q E→vs.length=ps.length
 run:∀ (A:Around) (outer:List Env) (s:Shared) (H:Hp) (args:Args) (us:List Value) (vs:List V) (Q:VK) (E:XK),Room k A→Env0 P w K mg base A outer s H→BindsTo s fd args (ps.zip us)→Vals vs us→sp vs H Q E →
  codeAny (model P w) A (.call (.ref f) args) (CR CX outer P w H s Q E) s
theorem FnOk.mono {P:Program} {w:World} {K:PySem.W.Frag} {mg:Str→Option Value} {base:Heap} {CX:CXT} {j k:Nat} {f:Addr} {fd:FuncData} {ps:List Str} {sp:Sp} (F:FnOk P w K mg base CX j f fd ps sp) (h:j≤k) :
    FnOk P w K mg base CX k f fd ps sp:=⟨F.len,fun A outer s H args us vs Q E hr=>F.run A outer s H args us vs Q E (hr.mono h)⟩
theorem FnOk.imp {P:Program} {w:World} {K:PySem.W.Frag} {mg:Str→Option Value} {base:Heap} {CX:CXT} {k:Nat} {f:Addr} {fd:FuncData} {ps:List Str} {sp sp':Sp} (F:FnOk P w K mg base CX k f fd ps sp)
    (h:∀ vs H Q E,sp' vs H Q E→sp vs H Q E):FnOk P w K mg base CX k f fd ps sp' :=
  ⟨fun vs H Q E q=>F.len vs H Q E (h _ _ _ _ q),fun A outer s H args us vs Q E hr he hb hv hs=>F.run A outer s H args us vs Q E hr he hb hv (h _ _ _ _ hs)⟩
theorem Env0.make {P:Program} {w:World} {K:PySem.W.Frag} {mg:Str→Option Value} {base:Heap} {A:Around} {outer:List Env} {s:Shared} {H:Hp} (e:Env0 P w K mg base A outer s H) (C:Addr) (us:List Value) (kw:List (Str × Value)) :
    Env0 P w K mg base (A.under (.builtin "type.__call__" ⟨.ref C::us,kw⟩)) outer s H:=⟨by first | exact e.frames | (simpa [Around.under,Code.envs,Code.isFrame,pushEnvs] using e.frames),e.mod,e.bs,e.bsz,e.funs,e.frf,e.hok,e.bare⟩
theorem Env0.in1 {P:Program} {w:World} {K:PySem.W.Frag} {mg:Str→Option Value} {base:Heap} {A:Around} {outer:List Env} {s:Shared} {H:Hp} (e:Env0 P w K mg base A outer s H) :
    Env0 P w K mg base A.in1 outer s H:=⟨e.frames,e.mod,e.bs,e.bsz,e.funs,e.frf,e.hok,e.bare⟩
section
variable {X:Cx} {pins:List (Addr × Obj)} {σ:St} {H:Hp} {s s':Shared}
theorem Inv.env0 (I:Inv X pins σ H s):Env0 X.prog X.w X.K X.mg X.base X.A X.stack s H :=
 ⟨I.ok.frames,I.ok.mod,I.bs,Nat.le_trans I.ok.bsz I.sz,I.stack,I.stkFree,I.hok,I.bare⟩
theorem Inv.after {Q:VK} {u:Value} (I:Inv X pins σ H s) (h:CE X.stack X.prog X.w H s Q u s'):EP X pins σ Q u s':=by
 obtain ⟨v,H',os,bare,un,hok,r,q⟩:=h
 obtain ⟨hh,g,d,t,os'⟩:=s'
 obtain rfl:os'=s.os:=os
 exact ⟨v,H',I.call (h':=hh) (g':=g) (d':=d) (t':=t) (ch:=[]) un hok bare (fun b z=>absurd z (by simp)),r,q⟩
end
noncomputable def Binds (K:PySem.W.Frag) (fd:FuncData) (ps:List Str) (ds:List Value):Prop :=
 ∀ (s:Shared) (us:List Value),K.In s.heap→(us++ds).length=ps.length→BindsTo s fd ⟨us,[]⟩ (ps.zip (us++ds))
theorem Binds.all {K:PySem.W.Frag} {fd:FuncData} {ps:List Str} (h:∀ us:List Value,us.length=ps.length→bindArgs fd ⟨us,[]⟩=pure (ps.zip us)):Binds K fd ps []:=fun s us _ hl=>by
 rw [List.append_nil] at hl ⊢
 exact .of_eq (h us hl)
section
variable {X:Cx} {CX:CXT} {k:Nat} {f C:Addr} {fd:FuncData} {ps:List Str} {sp:Sp} {dvs:List V} {ds:List Value} {E:XK} {x m:Str} {p pos apos:Pos} {e o:Expr} {es:List Expr} {ta:TE} {t:TA}
structure Mk (K:PySem.W.Frag) (C f:Addr):Prop where
 makes:PySem.W.makesIn K C=true
 init:PySem.W.findIn K (.ref C) "__init__"=some (some (.ref f))
 fn:PySem.W.isFn K (.ref f)=true
 kp:PySem.W.keepIn K (.ref C)=true
end
section
variable {X:Cx} {CX:CXT} {k:Nat} {f C:Addr} {fd:FuncData} {ps ks:List Str} {sp:Sp} {E:XK} {x m:Str} {p pos apos kpos:Pos} {e o:Expr} {es:List Expr} {kws:List Keyword} {te ta:TE} {t tk:TA} {nm:Option Str}
variable {g:List Value→List Value→List Value} {gV:List V→List V→List V}
end
structure FnScope (N P:List Str) (sc:Scope):Prop where
 kind:sc.kind=.function
 co:sc.isCoroutine=false
 gen:sc.isGenerator=false
 nd:N.Nodup
 pre:N.take P.length=P
 par:∀ x∈P,sc.names.lookup x=some .local∨sc.names.lookup x=some .cell
 nofree:∀ y∈sc.names,y.2≠.free
theorem qF4 {kindOf:Str→Option NameKind} {x:Str}:∀ {binds:List (Str × Value)} {m:Str→Option Value},(∀ v,(x,v)∉binds)→bindL kindOf binds m x=m x
 | [],_,_=>rfl
 | (n,v)::r,m,h=>by
  unfold bindL
  rw [qF4 fun w hw=>h w (List.mem_cons_of_mem _ hw)]
  split
  ·have:x≠n:=by rintro rfl;exact h v List.mem_cons_self
   simp [this]
  ·rfl
theorem qF6 {kindOf:Str→Option NameKind} {x:Str}:∀ {binds:List (Str × Value)} {m:Str→Option Value},(∀ v,(x,v)∉binds)→bindC kindOf binds m x=m x
 | [],_,_=>rfl
 | (n,v)::r,m,h=>by
  unfold bindC
  rw [qF6 fun w hw=>h w (List.mem_cons_of_mem _ hw)]
  split
  ·rfl
  ·have:x≠n:=by rintro rfl;exact h v List.mem_cons_self
   simp [this]
theorem qF5 {kindOf:Str→Option NameKind} {x:Str} {v:Value}:∀ {P:List Str} {vs:List Value} {i:Nat} {m:Str→Option Value},P.Nodup→P[i]?=some x→vs[i]?=some v→kindOf x=some .local →
    bindL kindOf (P.zip vs) m x=some v
  | [],_,_,_,_,h,_,_=>by simp at h
  | _::_,[],_,_,_,_,h,_=>by simp at h
  | p::P,w::vs,0,m,nd,h1,h2,hk=>by
    simp at h1 h2;subst h1;subst h2
    show bindL kindOf ((p,w)::P.zip vs) m p=_
    unfold bindL
    rw [qF4 fun v hv=>(List.nodup_cons.mp nd).1 (List.of_mem_zip hv).1,if_pos hk]
    simp
  | p::P,w::vs,i+1,m,nd,h1,h2,hk=>by
    show bindL kindOf ((p,w)::P.zip vs) m x=_
    unfold bindL
    exact qF5 (i:=i) (List.nodup_cons.mp nd).2 (by simpa using h1) (by simpa using h2) hk
theorem qF7 {kindOf:Str→Option NameKind} {x:Str} {v:Value}:∀ {P:List Str} {vs:List Value} {i:Nat} {m:Str→Option Value},P.Nodup→P[i]?=some x→vs[i]?=some v→kindOf x≠some .local →
    bindC kindOf (P.zip vs) m x=some v
  | [],_,_,_,_,h,_,_=>by simp at h
  | _::_,[],_,_,_,_,h,_=>by simp at h
  | p::P,w::vs,0,m,nd,h1,h2,hk=>by
    simp at h1 h2;subst h1;subst h2
    show bindC kindOf ((p,w)::P.zip vs) m p=_
    unfold bindC
    rw [qF6 fun v hv=>(List.nodup_cons.mp nd).1 (List.of_mem_zip hv).1,if_neg hk]
    simp
  | p::P,w::vs,i+1,m,nd,h1,h2,hk=>by
    show bindC kindOf ((p,w)::P.zip vs) m x=_
    unfold bindC
    exact qF7 (i:=i) (List.nodup_cons.mp nd).2 (by simpa using h1) (by simpa using h2) hk
noncomputable def start (N:List Str) (vs:List V):St:=vs.map some++List.replicate (N.length-vs.length) none
noncomputable def cxOf (CX:CXT) (P:Program) (w:World) (K:PySem.W.Frag) (mg:Str→Option Value) (base:Heap) (N:List Str) (qual:Str) (scope:Scope) (f:Addr) (cd:Value) (A:Around) (outer:List Env) (s:Shared) (H:Hp) (E:XK):Cx where
 prog:=P
 w:=w
 K:=K
 mg:=mg
 base:=base
 A:=A.deeper (envOfC qual scope s.heap.objs.size f cd)
 N:=N
 s₀:=s
 H₀:=H
 env:=envOfC qual scope s.heap.objs.size f cd
 outer:=outer
 stack:=envOfC qual scope s.heap.objs.size f cd::outer
 ex:=[]
 calm:=true
 fn:=fun _=>true
 pn:=[]
 xe:=fun e s'=>wpAny (model P w) (A.deeper (envOfC qual scope s.heap.objs.size f cd)) (leaving (envOfC qual scope s.heap.objs.size f cd) e) (fun _ s''=>CX outer H s E e s'') (fun e' s''=>CX outer H s E e' s'') s'
theorem qHU {sc:Scope} {n:Nat} {x:Str} (h:sc.names.lookup x=some .cell):∃ c,(cellsFrom n sc.names []).lookup x=some c:=by
 have q:=PySem.W.cellsFrom_some sc.names n [] (.inl h)
 exact Option.isSome_iff_exists.mp q
theorem qI0 {CX:CXT} {P:Program} {w:World} {K:PySem.W.Frag} {mg:Str→Option Value} {base:Heap} {N ps:List Str} {qual:Str} {scope:Scope} {f:Addr} {cd:Value} {A:Around} {outer:List Env} {s s1:Shared} {H:Hp} {E:XK} {us:List Value} {vs:List V}
    (S:FnScope N ps scope) (hd:A.handled=none) (e0:Env0 P w K mg base A outer s H) (hl:vs.length=ps.length) (r:Vals vs us)
    (x:InCallC s s.heap.objs.size (bindL (envOfC qual scope s.heap.objs.size f cd).kindOf (ps.zip us) fun _=>none) (cellsFrom (s.heap.objs.size+1) scope.names []) (bindC (envOfC qual scope s.heap.objs.size f cd).kindOf (ps.zip us) fun _=>none) s1) :
    Inv (cxOf CX P w K mg base N qual scope f cd A outer s H E) [] (start N vs) H s1:=by
  have hpl:ps.length≤N.length:=by have:=congrArg List.length S.pre;rw [List.length_take] at this;omega
  obtain ⟨h1,tk,rfl,hk⟩:=x.done
  have noA:∀ b:Addr,b∉(cxOf CX P w K mg base N qual scope f cd A outer s H E).ex:=fun b z=>absurd (show b∈([]:List Addr) from z) (by simp)
  refine ⟨⟨e0.mod,S.kind,rfl,rfl,Nat.le_refl _,fun y z c h1 h2=>?_,fun y hy=>?_,fun y c _ h=>?_,fun _=>hd,Around.frames_deeper e0.frames,.inr ⟨rfl,rfl⟩,fun b z=>absurd z (noA b),e0.bs,e0.bsz,fun b _ _=>noA b,fun b z=>absurd z (noA b),e0.funs,e0.frf⟩,
    rfl,e0.bare,Un.kept hk,⟨_,x.toInCall.ns,fun i y v h1 h2 h3=>?_⟩,fun y c h=>⟨_,x.cell y c h⟩,e0.hok.fresh (Nat.le_refl _),fun y c h=>?_,fun p hp=>absurd (show p∈([]:List (Addr × Obj)) from hp) (by simp),e0.hok.kept hk,?_⟩
  · exact name_of_addr x.apart (PySem.mem_of_lookup h1) (PySem.mem_of_lookup h2)
  · have hy:scope.names.lookup y=some .cell∨scope.names.lookup y=some .free:=hy
    rcases hy with hy | hy
    · exact qHU hy
    · exact absurd rfl (S.nofree _ (PySem.mem_of_lookup hy))
  · exact Nat.le_of_lt (x.above y c (PySem.mem_of_lookup h))
  · have hi:i<vs.length:=by
      unfold start at h2
      by_cases hi:i<vs.length
      · exact hi
      · rw [List.getElem?_append_right (by simpa using hi)] at h2
        rw [List.getElem?_replicate] at h2
        split at h2 <;> cases h2
    have ha:vs[i]?=some v:=by
      unfold start at h2
      rw [List.getElem?_append_left (by simpa using hi),List.getElem?_map] at h2
      cases e:vs[i]? with
      | none=>rw [e] at h2;cases h2
      | some a=>rw [e] at h2;cases h2;rfl
    obtain ⟨u,hu,rv⟩:=r.get ha
    have hp:ps[i]?=some y:=by
      rw [← S.pre,List.getElem?_take_of_lt (by omega)];exact h1
    have ndP:ps.Nodup:=by rw [← S.pre];exact S.nd.sublist (List.take_sublist _ _)
    refine ⟨u,rv,?_⟩
    rcases S.par y (List.mem_of_getElem? hp) with k | k
    · exact .inl ⟨k,qF5 ndP hp hu k⟩
    · obtain ⟨c,e⟩:=qHU (n:=s.heap.objs.size+1) k
      refine .inr ⟨.inl k,c,e,?_⟩
      have q:=x.cell y c e
      rw [qF7 ndP hp hu (by show scope.names.lookup y≠_;rw [k];decide)] at q
      exact q
  · exact e0.hok.fresh (Nat.le_of_lt (x.above y c (PySem.mem_of_lookup h)))
  · unfold start
    show _=N.length
    rw [List.length_append,List.length_map,List.length_replicate]
    omega
theorem fn_of {CX:CXT} {P:Program} {w:World} {K:PySem.W.Frag} {mg:Str→Option Value} {base:Heap} {k:Nat} {f:Addr} {name qual:Str} {params:Arguments} {body:List Stmt} {scope:Scope} {dV kV doc pm cdv ct oc:Value} {an od:Option Addr}
    {osl:Array (Option Value)} {N ps:List Str} {sp:Sp} (lk:K.lookup f=some ⟨oc,od,.func (PySem.W.fnOf name qual params body scope dV kV doc pm an cdv ct),osl⟩) (hcd:PySem.W.codeIn K cdv qual=true) (S:FnScope N ps scope)
    (len:∀ vs H Q E,sp vs H Q E→vs.length=ps.length)
    (hbody:∀ (A:Around) (outer:List Env) (s:Shared) (H:Hp) (vs:List V) (Q:VK) (E:XK),Room k (A.deeper (envOfC qual scope s.heap.objs.size f cdv))→sp vs H Q E →
      ∃ t,PSs (cxOf CX P w K mg base N qual scope f cdv A outer s H E) body t∧t { nx:=fun _ H'=>Q .non H',rt:=Q } (start N vs) H) :
    FnOk P w K mg base CX (k+1) f (PySem.W.fnOf name qual params body scope dV kV doc pm an cdv ct) ps sp:=by
  refine ⟨len,fun A outer s H args us vs Q E hr e0 hb r hsp=>?_⟩
  have hl:=len _ _ _ _ hsp
  have KX:K.In s.heap:=e0.mod.kin.keeps fun b o e=>(e0.bs b o e).1
  have lim:s.heap.NoLimit:=e0.mod.nolimit.keeps fun b o e=>(e0.bs b o e).1
  have hkind:∀ y∈ps.zip us,scope.names.lookup y.1=some .local∨(scope.names.lookup y.1=some .cell∧((cellsFrom (s.heap.objs.size+1) scope.names []).lookup y.1).isSome=true):=fun ⟨n,v⟩ hy=>by
    rcases S.par n (List.of_mem_zip hy).1 with q | q
    · exact .inl q
    · exact .inr ⟨q,PySem.W.cellsFrom_some _ _ _ (.inl q)⟩
  refine codeAny_call_function hr.depth (KX _ _ lk) rfl S.co S.gen rfl (PySem.W.codeRec_of KX hcd) (hb _ _ _ _ ?_)
  refine wpAny_newFunctionEnv_cells S.kind hkind fun env he s1 x=>?_
  subst he
  refine ⟨lim.keeps x.toInCall.keep,codeAny_func ?_⟩
  obtain ⟨t,ht,hq⟩:=hbody A outer s H vs Q E (hr.deeper _) hsp
  have I:Inv (cxOf CX P w K mg base N qual scope f cdv A outer s H E) [] (start N vs) H s1:=qI0 S hr.hd e0 hl r x
  refine wpAny_mono (ht [] s1 (start N vs) H _ I hq) (fun fl s' hs=>?_) fun e s' hs=>hs
  have fin:∀ {σ':St} {H':Hp} {v:V} {u:Value},Inv (cxOf CX P w K mg base N qual scope f cdv A outer s H E) [] σ' H' s'→RelV v u→Q v H'→CE outer P w H s Q u s' :=
    fun {σ' H' v u} J rv q=>⟨v,H',J.os,J.bare,J.base,J.hok,rv,q⟩
  cases fl with
  | ret u =>
    obtain ⟨v,σ',H',J,rv,q⟩:=hs
    exact fin J rv q
  | next =>
    obtain ⟨σ',H',J,q⟩:=hs
    exact fin (v:=V.non) (u:=Value.none) J rfl q
  | brk =>
    obtain ⟨_,_,_,q⟩:=hs
    exact False.elim q
  | cont =>
    obtain ⟨_,_,_,q⟩:=hs
    exact False.elim q
end L2
namespace L2
open PySem PySem.Spec PyProof.Rows
section
variable {X:Cx} {x:Str} {p pos:Pos} {e:Expr} {es:List Expr} {t:TA} {id T:String} {r:List V→Hp→VK→Prop}
noncomputable def tCB (r:List V→Hp→VK→Prop) (t:TA):TE:=fun σ H Q=>t σ H fun vs H1=>r vs H1 Q
theorem pe_callB (hc:CallR X (.builtin id) r) (hg:Gl X x) (hm:X.mg x=none) (hv:bootBuiltins x=some (.builtin id)) (ha:PA X (e::es) t) (hn:x≠"__name__":=by decide) (hdb:(x == ("__debug__":Str))=false:=by decide)
    (he:starEach (e::es) X.env=(false,eval e X.env)::starEach es X.env:=by rfl) (hpl:(backTo pos (starEach es X.env)).any (·.1)=false:=by rfl):PE X (.Call (.Name x p) (e::es) [] pos) (tCB r t):=by
  intro pins s σ H Q I h
  refine wpAny_Call_Name_kw (ld_blt I hg hm hv ?_ hn hdb)
  exact PyProof.Rows.callWith_builtin1 (thn (ha pos pins s σ H _ I h) fun us s1 ⟨vs,H1,I1,r1,q1⟩=>hc pins s1 σ H1 vs us Q I1 r1 q1) he hpl
theorem pe_callTy (hc:CallR X (.type T) r) (hg:Gl X x) (hm:X.mg x=none) (hv:bootBuiltins x=some (.type T)) (ha:PA X (e::es) t) (hn:x≠"__name__":=by decide) (hdb:(x == ("__debug__":Str))=false:=by decide)
    (he:starEach (e::es) X.env=(false,eval e X.env)::starEach es X.env:=by rfl) (hpl:(backTo pos (starEach es X.env)).any (·.1)=false:=by rfl):PE X (.Call (.Name x p) (e::es) [] pos) (tCB r t):=by
  intro pins s σ H Q I h
  refine wpAny_Call_Name_kw (ld_blt I hg hm hv ?_ hn hdb)
  exact PyProof.Rows.callWith_type1 (thn (ha pos pins s σ H _ I h) fun us s1 ⟨vs,H1,I1,r1,q1⟩=>hc pins s1 σ H1 vs us Q I1 r1 q1) he hpl
end
end L2
namespace HT
open PySem PyProof.Rows
section
open PySem.SeqAt
open PySem.AutoSeq1 (wpAny_loadPart')
open PySem.MeetsSeq PySem.MeetsSeq2 PySem.MeetsSeq3
end
section
variable {prog:Program} {w:World} {A:Around} {E:Value→Shared→Prop} {s:Shared}
theorem cat_tup {t b:Addr} {vs ws:List Value} {Q:Value→Shared→Prop} (ht:IsTup s.heap t vs.toArray) (hb:IsTup s.heap b ws.toArray) (hv:vs≠[])
    (h1:ws=[]→Q (.ref t) s) (h2:ws≠[]→Q (.ref s.heap.objs.size) { s with heap:=s.heap.push { cls:=.type "tuple",data:=.seq (vs++ws).toArray } })
    (hsz:vs.length+ws.length≤sizeLine):wpAny (model prog w) A (binaryOp .Add (.ref t) (.ref b)) Q E s:=by
  obtain ⟨⟨cls,dd,data,sl⟩,ho,hc,n,hd⟩:=id ht
  obtain ⟨⟨cls2,dd2,data2,sl2⟩,ho2,hc2,n2,hd2⟩:=id hb
  simp only at hc hd hc2 hd2
  subst hc hd hc2 hd2
  have e:vs.toArray++ws.toArray=(vs++ws).toArray:=by simp
  by_cases hw:ws=[]
  · exact concat_meets ⟨_,ho,rfl⟩ ⟨_,ho2,rfl⟩ noFill_tuple_add seq_tuple_add PySem.F.slot_tuple_add PySem.F.entry_tuple_add (PySem.F.args_tuple_add_2 _ _)
      (tuple_addW1 t b vs.toArray ws.toArray n n2 dd dd2 sl sl2 (by simpa using hv) (by simp [hw])) ⟨ho,ho2,h1 hw⟩
  · refine concat_meets ⟨_,ho,rfl⟩ ⟨_,ho2,rfl⟩ noFill_tuple_add seq_tuple_add PySem.F.slot_tuple_add PySem.F.entry_tuple_add (PySem.F.args_tuple_add_2 _ _)
      (tuple_addW2 t b vs.toArray ws.toArray n n2 dd dd2 sl sl2 (by simpa using hv) (by simpa using hw) (by rw [List.size_toArray,List.size_toArray];exact hsz)) ⟨ho,ho2,?_⟩
    rw [e]
    exact h2 hw
noncomputable def sIx (n d:Nat):Option Int→Nat
 | none=>d
 | some v=>if v<0 then (v+(n:Int)).toNat else min v.toNat n
theorem sIx_le (n d:Nat) (hd:d≤n) (o:Option Int):sIx n d o≤n:=by
 cases o with
 | none=>exact hd
 | some v =>
  show (if v<0 then (v+(n:Int)).toNat else min v.toNat n)≤n
  by_cases hv:v<0
  ·rw [if_pos hv];omega
  ·rw [if_neg hv];exact Nat.min_le_right _ _
theorem qJf (v:Int) (n d:Nat):(if v<0 then max (v+(n:Int)) 0 else min v (n:Int))=((sIx n d (some v):Nat):Int):=by
 show (if v<0 then max (v+(n:Int)) 0 else min v (n:Int))=(((if v<0 then (v+(n:Int)).toNat else min v.toNat n):Nat):Int)
 by_cases hv:v<0
 ·simp only [if_pos hv];omega
 ·simp only [if_neg hv];omega
theorem qH2 (lo hi:Option Int) (n:Nat):Builtin.Slice.sliceAdjust lo hi 1 (n:Int)=(((sIx n 0 lo:Nat):Int),((sIx n n hi:Nat):Int)):=by
 have h1:¬ ((1:Int)<0):=by omega
 unfold Builtin.Slice.sliceAdjust
 simp only [h1,if_false]
 refine Prod.ext ?_ ?_
 ·cases lo with
  | none=>rfl
  | some v=>exact qJf v n 0
 ·cases hi with
  | none=>rfl
  | some v=>exact qJf v n n
theorem qHg (i j:Nat):Builtin.Slice.slicePlaces (i:Int) (j:Int) 1=j-i:=by
 unfold Builtin.Slice.slicePlaces
 have h1:(1:Int) > 0:=by omega
 simp only [h1,if_true,Int.ediv_one]
 split <;> omega
theorem qEb {v:Value} {o:Option Int} {Q:Option Int→Shared→Prop} (p:IsPart v o) (h:Q o s):wpAny (model prog w) A (Builtin.Slice.slicePartIndex v) Q E s:=by
 cases p with
 | none=>exact slicePart_none h
 | int i t=>exact slicePart_int h
theorem qBy {sl:Addr} {vl vu:Value} {lo hi:Option Int} {n:Nat} {Q:Int × Int × Nat→Shared→Prop} (hs:s.heap.IsSliceOf sl vl vu .none) (pl:IsPart vl lo) (pu:IsPart vu hi)
    (h:Q (((sIx n 0 lo:Nat):Int),1,sIx n n hi-sIx n 0 lo) s):wpAny (model prog w) A (Builtin.Slice.sliceApplied (.ref sl) (pure (n:Int))) Q E s:=by
  obtain ⟨os,hos,hcs,hds⟩:=id hs
  unfold Builtin.Slice.sliceApplied Builtin.Slice.sliceFields
  refine wpAny_bind (wpAny_bind (wpAny_field hos hds (x:=vl) rfl (wpAny_bind (wpAny_field hos hds (x:=vu) rfl (wpAny_bind (wpAny_field hos hds (x:=.none) rfl (wpAny_pure ?_)))))))
  refine wpAny_bind (slicePart_none ?_)
  show wpAny _ _ (if ((1:Int) == 0)=true then _ else _) _ _ s
  rw [if_neg (by decide)]
  refine wpAny_bind (qEb pl (wpAny_bind (qEb pu (wpAny_bind (wpAny_pure ?_)))))
  show wpAny _ _ (match Builtin.Slice.sliceAdjust lo hi 1 (n:Int) with | (lo,hi)=>pure (lo,(1:Int),Builtin.Slice.slicePlaces lo hi 1)) _ _ s
  rw [qH2 lo hi n]
  show wpAny _ _ (pure (((sIx n 0 lo:Nat):Int),(1:Int),Builtin.Slice.slicePlaces ((sIx n 0 lo:Nat):Int) ((sIx n n hi:Nat):Int) 1)) _ _ s
  rw [qHg]
  exact wpAny_pure h
theorem qJ8 (xs:Array Value) (i k:Nat):((List.range k).filterMap fun (m:Nat)=>xs[((i:Int)+(m:Int)*1).toNat]?).toArray=((xs.toList.drop i).take k).toArray:=by
 have e:(fun (m:Nat)=>xs[((i:Int)+(m:Int)*1).toNat]?)=fun m=>xs[i+m]?:=by
  funext m
  have:((i:Int)+(m:Int)*1).toNat=i+m:=by omega
  rw [this]
 rw [e]
 have:=pick_run xs i k
 rw [List.filterMap_map] at this
 have e2:((fun x=>xs[x]?) ∘ fun x=>i+x)=fun m=>xs[i+m]?:=rfl
 rw [e2] at this
 rw [this]
theorem getItem_tuple_cut {t sl:Addr} {items:Array Value} {vl vu:Value} {lo hi:Option Int} {Q:Value→Shared→Prop} (ht:IsTup s.heap t items) (hs:s.heap.IsSliceOf sl vl vu .none) (pl:IsPart vl lo) (pu:IsPart vu hi)
    (hw:¬ (sIx items.size 0 lo=0∧sIx items.size items.size hi=items.size))
    (h:Q (.ref s.heap.objs.size) { s with heap:=s.heap.push { cls:=.type "tuple",data:=.seq ((items.toList.drop (sIx items.size 0 lo)).take (sIx items.size items.size hi-sIx items.size 0 lo)).toArray } })
    (hsz:items.size≤sizeLine):wpAny (model prog w) A (getItem (.ref t) (.ref sl)) Q E s:=by
  have htake:sizeOk (.seq ((items.toList.drop (sIx items.size 0 lo)).take (sIx items.size items.size hi-sIx items.size 0 lo)).toArray):=by
    show ((items.toList.drop (sIx items.size 0 lo)).take (sIx items.size items.size hi-sIx items.size 0 lo)).toArray.size≤sizeLine
    rw [List.size_toArray,List.length_take,List.length_drop,Array.length_toList]
    omega
  have hj:sIx items.size items.size hi≤items.size:=sIx_le _ _ (Nat.le_refl _) hi
  obtain ⟨os,hos,hcs,hds⟩:=id hs
  have hTs:s.TypeIs (.ref sl) "slice":=⟨os,hos,hcs⟩
  unfold getItem
  try with_reducible refine wpAny_holding ?_
  first | refine wpAny_bind (wpAny_pure ?_) | skip
  refine wpAny_bind (wpAny_sequenceKey ht.typeIs (by decide) ?_)
  refine wpAny_bind (wpAny_callSpecial?_slot (name:=Str.ofString "__getitem__") ht.typeIs PyProof.Rows.slot_tuple_getitem
    (wpAny_call_entry PyProof.Rows.slot_tuple_getitem ht.typeIs entry_tuple_getitem ?_ (args_tuple_getitem _ _)))
  show wpAny _ _ (Builtin.Tuple.tupleItemsOf (.ref t) >>= _) _ _ s
  refine wpAny_bind (tupleItemsOf_ ht ?_)
  refine wpAny_bind (wpAny_typeOf hTs ?_)
  rw [if_pos (by decide)]
  refine wpAny_bind (qBy hs pl pu ?_)
  have hno:¬ ((((sIx items.size 0 lo:Nat):Int) == 0&&(1:Int) == 1&&(sIx items.size items.size hi-sIx items.size 0 lo) == items.size)=true):=by
    intro q
    rw [Bool.and_eq_true,Bool.and_eq_true] at q
    have q1:((sIx items.size 0 lo:Nat):Int)=0:=eq_of_beq q.1.1
    have q2:sIx items.size items.size hi-sIx items.size 0 lo=items.size:=eq_of_beq q.2
    exact hw ⟨by omega,by omega⟩
  show wpAny _ _ (if (((sIx items.size 0 lo:Nat):Int) == 0&&(1:Int) == 1&&(sIx items.size items.size hi-sIx items.size 0 lo) == items.size)=true then _ else _) _ _ s
  rw [if_neg hno,qJ8]
  first
    | exact wpAny_bind (m:=Builtin.Tuple.tupleExact _) (wpAny_newObj_type (wpAny_pure ⟨_,rfl,wpAny_pure h⟩) htake)
    | exact wpAny_bind (m:=Builtin.Tuple.tupleExact _) (wpAny_newObj_type (wpAny_bind (wpAny_pure (wpAny_pure ⟨_,rfl,wpAny_pure h⟩))) htake)
    | exact wpAny_bind (wpAny_bind (m:=Builtin.Tuple.tupleExact _) (wpAny_newObj_type (wpAny_pure (wpAny_pure ⟨_,rfl,wpAny_pure h⟩)) htake))
    | exact wpAny_bind (wpAny_bind (m:=Builtin.Tuple.tupleExact _) (wpAny_newObj_type (wpAny_pure ⟨_,rfl,wpAny_pure h⟩) htake))
end
end HT
namespace L2
open PySem PySem.Spec PyProof.Rows
noncomputable abbrev TO:=St→Hp→(Option Int→Hp→Prop)→Prop
noncomputable def PO (X:Cx) (e:Option Expr) (t:TO):Prop :=
 ∀ (pins:List (Addr × Obj)) (s:Shared) (σ:St) (H:Hp) (Q:Option Int→Hp→Prop),Inv X pins σ H s→t σ H Q →
  wpAny (model X.prog X.w) X.A (evalPart e X.env) (fun u s'=>∃ o H',Inv X pins σ H' s'∧IsPart u o∧Q o H') X.xe s
noncomputable def qLy:TO:=fun _ H Q=>Q none H
noncomputable def tPart (t:TE):TO:=fun σ H Q=>t σ H fun x H1=>∃ i,x=.int i∧Q (some i) H1
section
variable {X:Cx} {e:Expr} {te:TE} {lo hi:Option Expr} {tl th:TO} {pos p2:Pos}
theorem po_none:PO X none qLy:=by
 intro pins s σ H Q I h
 rw [evalPart_none]
 exact wpAny_pure ⟨none,H,I,.none,h⟩
theorem po_some (h:PE X e te):PO X (some e) (tPart te):=by
 intro pins s σ H Q I hw
 rw [evalPart_some]
 refine thn (h pins s σ H _ I hw) fun u s1 ⟨x,H1,I1,r1,q1⟩=>?_
 obtain ⟨i,rfl,q⟩:=q1
 obtain ⟨t,rfl⟩:=r1
 exact ⟨some i,H1,I1,.int i t,q⟩
noncomputable def SlR (X:Cx) (r:V→Option Int→Option Int→Hp→VK→Prop):Prop :=
 ∀ (pins:List (Addr × Obj)) (s:Shared) (σ:St) (H:Hp) (x:V) (v vl vu:Value) (lo hi:Option Int) (sl:Addr) (Q:VK),Inv X pins σ H s→RelV x v→s.heap.IsSliceOf sl vl vu .none→IsPart vl lo→IsPart vu hi→r x lo hi H Q →
  ∃ T id,typeLookup (.type T) "__getitem__"=pure (some (.builtin id))∧s.TypeIs v T∧wpAny (model X.prog X.w) X.A (getItem v (.ref sl)) (EP X pins σ Q) X.xe s
theorem SlR.or {r r':V→Option Int→Option Int→Hp→VK→Prop} (h:SlR X r) (h':SlR X r'):SlR X (fun x lo hi H Q=>r x lo hi H Q∨r' x lo hi H Q):=by
 intro pins s σ H x v vl vu lo hi sl Q I rx hs pl pu q
 rcases q with q | q
 ·exact h pins s σ H x v vl vu lo hi sl Q I rx hs pl pu q
 ·exact h' pins s σ H x v vl vu lo hi sl Q I rx hs pl pu q
noncomputable def tSl (r:V→Option Int→Option Int→Hp→VK→Prop) (te:TE) (tl th:TO):TE:=fun σ H Q=>te σ H fun x H1=>tl σ H1 fun l H2=>th σ H2 fun u H3=>r x l u H3 Q
theorem pe_slice {r:V→Option Int→Option Int→Hp→VK→Prop} (hr:SlR X r) (he:PE X e te) (hl:PO X lo tl) (hu:PO X hi th):PE X (.Subscript e (.Slice lo hi none p2) pos) (tSl r te tl th):=by
 intro pins s σ H Q I h
 refine Subscript_ (thn (he pins s σ H _ I h) fun v s1 ⟨x,H1,I1,r1,q1⟩=>?_)
 refine wpAny_Slice (thn (hl pins s1 σ H1 _ I1 q1) fun vl s2 ⟨l,H2,I2,pl,q2⟩=>thn (hu pins s2 σ H2 _ I2 q2) fun vu s3 ⟨u,H3,I3,pu,q3⟩=>?_)
 rw [evalPart_none]
 refine wpAny_pure ?_
 have I4:Inv X pins σ H3 { s3 with heap:=s3.heap.push { cls:=.type "slice",data:=.fields #[vl,vu,.none] } }:=I3.kept (t':=s3.toks) fun b ob q=>Heap.get?_push_of_some _ q
 obtain ⟨T,id,hT,ht,hg⟩:=hr pins { s3 with heap:=s3.heap.push { cls:=.type "slice",data:=.fields #[vl,vu,.none] } } σ H3 x v vl vu l u s3.heap.objs.size Q I4 r1 (Heap.IsSliceOf.new ..) pl pu q3
 show wpAny (model X.prog X.w) X.A (subscriptTail e (.Slice lo hi none p2) v (.ref s3.heap.objs.size)) (EP X pins σ Q) X.xe { s3 with heap:=s3.heap.push { cls:=.type "slice",data:=.fields #[vl,vu,.none] } }
 exact tail_any (ops:=[.ref s3.heap.objs.size,v]) ht hT hg (by with_unfolding_all rfl)
noncomputable def cutV (xs:List V) (lo hi:Option Int):List V:=(xs.drop (HT.sIx xs.length 0 lo)).take (HT.sIx xs.length xs.length hi-HT.sIx xs.length 0 lo)
theorem qD2 (xs:List V) (lo hi:Option Int):(cutV xs lo hi).length≤xs.length:=by
 unfold cutV
 rw [List.length_take,List.length_drop]
 omega
noncomputable def rSlT (K:PySem.W.Frag):V→Option Int→Option Int→Hp→VK→Prop:=fun x lo hi H Q=>∃ a xs,x=.ref a∧SqT K H a xs ∧
 ¬ (HT.sIx xs.length 0 lo=0∧HT.sIx xs.length xs.length hi=xs.length)∧∀ p,H p=none→Q (.ref p) (upd H p (.tup (cutV xs lo hi)))
theorem sl_tup:SlR X (rSlT X.K):=by
 intro pins s σ H x v vl vu lo hi sl Q I rx hs pl pu h
 obtain ⟨a,xs,rfl,hx,hw,q⟩:=h
 cases rx
 obtain ⟨its,r,ht,hz⟩:=I.tuple hx
 have hlen:its.toArray.size=xs.length:=by rw [List.size_toArray];exact r.length.symm
 refine ⟨"tuple",_,PyProof.Rows.slot_tuple_getitem.lookup,ht.typeIs,?_⟩
 refine HT.getItem_tuple_cut ht hs pl pu (by rw [hlen];exact hw) ?_ (by rw [hlen];exact hz)
 rw [hlen]
 refine ⟨.ref s.heap.objs.size,_,I.laid (t':=s.toks) (o:=.tup (cutV xs lo hi)) (fun b ob q=>Heap.get?_push_of_some _ q) (Nat.le_refl _) ?_,rfl,q _ (I.hok.fresh (Nat.le_refl _))⟩
 exact ⟨Nat.le_trans (qD2 xs lo hi) hz,_,(r.drop (HT.sIx xs.length 0 lo)).take (HT.sIx xs.length xs.length hi-HT.sIx xs.length 0 lo),IsTup.new _ _⟩
noncomputable def rCatT (K:PySem.W.Frag):R2:=fun x y H Q=>∃ a b xs ys,x=.ref a∧y=.ref b∧SqT K H a xs∧SqT K H b ys∧xs≠[]∧xs.length+ys.length≤sizeLine ∧
 (ys=[]→Q (.ref a) H)∧(ys≠[]→∀ p,H p=none→Q (.ref p) (upd H p (.tup (xs++ys))))
theorem Vals.nil_iff {xs:List V} {us:List Value} (r:Vals xs us):us=[]↔xs=[]:=by
 cases r with
 | nil=>simp
 | cons _ _=>simp
theorem op_catT:OpR X (binaryOp .Add) (rCatT X.K):=by
 intro pins s σ H x y v u Q I rx ry h
 obtain ⟨a,b,xs,ys,rfl,rfl,ha,hb,hx,hz,q1,q2⟩:=h
 cases rx
 cases ry
 obtain ⟨its,r1,p1,_⟩:=I.tuple ha
 obtain ⟨its2,r2,p2,_⟩:=I.tuple hb
 refine HT.cat_tup p1 p2 (fun z=>hx (r1.nil_iff.mp z)) (fun z=>⟨.ref a,H,I,rfl,q1 (r2.nil_iff.mp z)⟩) (fun z=>?_) (by rw [← r1.length,← r2.length];exact hz)
 refine ⟨.ref s.heap.objs.size,_,I.laid (t':=s.toks) (o:=.tup (xs++ys)) (fun b ob q=>Heap.get?_push_of_some _ q) (Nat.le_refl _) ?_,rfl,q2 (fun w=>z (r2.nil_iff.mpr w)) _ (I.hok.fresh (Nat.le_refl _))⟩
 exact ⟨by rw [List.length_append];exact hz,_,r1.append r2,IsTup.new _ _⟩
end
end L2
namespace L2
open PySem PySem.Spec PyProof.Rows
noncomputable def ixN (n:Nat) (i:Int):Option Nat:=if 0≤i then (if i<n then some i.toNat else none) else if -(n:Int)≤i then some (i+n).toNat else none
noncomputable def atI {α:Type} (xs:List α) (i:Int):Option α:=(ixN xs.length i).bind fun j=>xs[j]?
theorem qMr {n:Nat} {i:Int} {j:Nat} (h:ixN n i=some j):seqIndex? i n=some j∧j<n∧-(n:Int)≤i∧i<n:=by
 unfold ixN at h
 by_cases h0:0≤i
 ·rw [if_pos h0] at h
  by_cases h1:i<n
  ·rw [if_pos h1] at h
   have e:i.toNat=j:=Option.some.inj h
   exact ⟨by rw [seqIndex_of h0 h1,e],by omega,by omega,h1⟩
  ·rw [if_neg h1] at h;cases h
 ·rw [if_neg h0] at h
  by_cases h1:-(n:Int)≤i
  ·rw [if_pos h1] at h
   have e:(i+n).toNat=j:=Option.some.inj h
   exact ⟨by rw [seqIndex_neg (by omega) h1,e],by omega,h1,by omega⟩
  ·rw [if_neg h1] at h;cases h
theorem qGq {α:Type} {xs:List α} {i:Int} {v:α} (h:atI xs i=some v):∃ j,seqIndex? i xs.length=some j∧xs[j]?=some v∧j<xs.length∧-(xs.length:Int)≤i∧i<xs.length:=by
 unfold atI at h
 cases e:ixN xs.length i with
 | none=>rw [e] at h;cases h
 | some j =>
  rw [e] at h
  obtain ⟨h1,h2,h3,h4⟩:=qMr e
  exact ⟨j,h1,h,h2,h3,h4⟩
noncomputable def PlainIx (b:Expr):Prop:=∀ o i,subscripted b false o i=operate [o,i] (getItem o i)
noncomputable def IxR (X:Cx) (r:R2):Prop :=
 ∀ (value slice:Expr) (pins:List (Addr × Obj)) (s:Shared) (σ:St) (H:Hp) (x y:V) (v u:Value) (Q:VK),Inv X pins σ H s→RelV x v→RelV y u→r x y H Q →
  subscripted slice false v u=operate [v,u] (getItem v u)→wpAny (model X.prog X.w) X.A (subscriptTail value slice v u) (EP X pins σ Q) X.xe s
noncomputable def MtR (X:Cx) (id:String) (r:V→List V→Hp→VK→Prop):Prop :=
 ∀ (pins:List (Addr × Obj)) (s:Shared) (σ:St) (H:Hp) (x:V) (xs:List V) (v:Value) (us:List Value) (Q:VK),Inv X pins σ H s→RelV x v→Vals xs us→r x xs H Q →
  wpAny (model X.prog X.w) X.A (call (.builtin id) (v::us)) (EP X pins σ Q) X.xe s
section
variable {X:Cx} {a b:Expr} {ta tb:TE} {pos:Pos}
theorem IxR.or {r r':R2} (h:IxR X r) (h':IxR X r'):IxR X (fun x y H Q=>r x y H Q∨r' x y H Q):=by
 intro value slice pins s σ H x y v u Q I rx ry q hs
 rcases q with q | q
 ·exact h value slice pins s σ H x y v u Q I rx ry q hs
 ·exact h' value slice pins s σ H x y v u Q I rx ry q hs
theorem MtR.or {id:String} {r r':V→List V→Hp→VK→Prop} (h:MtR X id r) (h':MtR X id r'):MtR X id (fun x xs H Q=>r x xs H Q∨r' x xs H Q):=by
 intro pins s σ H x xs v us Q I rx rs q
 rcases q with q | q
 ·exact h pins s σ H x xs v us Q I rx rs q
 ·exact h' pins s σ H x xs v us Q I rx rs q
theorem pe_ix {r:R2} (hr:IxR X r) (ha:PE X a ta) (hb:PE X b tb) (hs:PlainIx b):PE X (.Subscript a b pos) (tOp r ta tb):=by
 intro pins s σ H Q I h
 exact Subscript_ (binT ha hb I h fun v u s2 x y H2 I2 rx ry q=>hr a b pins s2 σ H2 x y v u Q I2 rx ry q (hs _ _))
noncomputable def rIxL (K:PySem.W.Frag):R2:=fun x y H Q=>∃ p xs i v,x=.ref p∧y=.int i∧SqL K H p xs∧atI xs i=some v∧Q v H
noncomputable def rIxT (K:PySem.W.Frag):R2:=fun x y H Q=>∃ p xs i v,x=.ref p∧y=.int i∧SqT K H p xs∧atI xs i=some v∧Q v H
noncomputable def rIxS:R2:=fun x y H Q=>∃ z i c,x=.str z∧y=.int i∧z.length≤sizeLine∧atI z.cps.toList i=some c∧Q (.str ⟨#[c]⟩) H
theorem ix_list:IxR X (rIxL X.K):=by
 intro value slice pins s σ H x y v u Q I rx ry h hs
 obtain ⟨p,xs,i,z,rfl,rfl,hq,he,q⟩:=h
 cases rx
 obtain ⟨t,rfl⟩:=ry
 obtain ⟨its,r,pl,hz⟩:=I.list hq
 obtain ⟨j,h1,h2,h3,h4,h5⟩:=qGq he
 obtain ⟨w,ew,rw'⟩:=r.get h2
 have hl:=r.length
 have hn:=qFn
 have fin:EP X pins σ Q w s:=⟨z,H,I,rw',q⟩
 by_cases h0:0≤i
 ·have hj:i.toNat=j:=by
   rw [seqIndex_of h0 h5] at h1
   exact Option.some.inj h1
  exact item_listR pl.isList h0 (by omega) (by rw [hj];simpa using ew) fin hs
 ·have hj:(i+(its.toArray.size:Int)).toNat=j:=by
   rw [seqIndex_neg (by omega) h4] at h1
   rw [List.size_toArray,← hl]
   exact Option.some.inj h1
  exact subscriptTail_builtinR (x:=w) pl.isList.typeIs slot_list_getitem.lookup
   (wpAny_getItem_list_neg (Q:=fun r s'=>r=w∧EP X pins σ Q r s') pl.isList (by omega) (by rw [List.size_toArray] <;> omega) (by omega) (by rw [hj];simpa using ew) ⟨rfl,fin⟩) hs
theorem ix_tup:IxR X (rIxT X.K):=by
 intro value slice pins s σ H x y v u Q I rx ry h hs
 obtain ⟨p,xs,i,z,rfl,rfl,hq,he,q⟩:=h
 cases rx
 obtain ⟨t,rfl⟩:=ry
 obtain ⟨its,r,pl,hz⟩:=I.tuple hq
 obtain ⟨j,h1,h2,h3,h4,h5⟩:=qGq he
 obtain ⟨w,ew,rw'⟩:=r.get h2
 have hl:=r.length
 have hn:=qFn
 have fin:EP X pins σ Q w s:=⟨z,H,I,rw',q⟩
 exact subscriptTail_builtinR (x:=w) pl.typeIs slot_tuple_getitem.lookup
  (getItem_tuple (j:=j) (Q:=fun r s'=>r=w∧EP X pins σ Q r s') pl (by omega) (by omega) (by rw [List.size_toArray,← hl];exact h1) (by simpa using ew) ⟨rfl,fin⟩) hs
theorem ix_str:IxR X rIxS:=by
 intro value slice pins s σ H x y v u Q I rx ry h hs
 obtain ⟨z,i,c,rfl,rfl,hz,he,q⟩:=h
 obtain ⟨t,rfl⟩:=rx
 obtain ⟨t',rfl⟩:=ry
 obtain ⟨j,h1,h2,h3,h4,h5⟩:=qGq he
 have hl:z.cps.toList.length=z.length:=by simp [Str.length]
 rw [hl] at h1 h4 h5
 have hn:=qFn
 exact tail_any (typeIs_str s z t) slot_str_getitem.lookup (getItem_str (c:=c) (by
  have e1:decide (i < -(2 ^ 63:Int))=false:=decide_eq_false (by omega)
  have e2:decide (i ≥ 2 ^ 63)=false:=decide_eq_false (by omega)
  rw [e1,e2,Bool.or_false]) (by rw [h1];simpa using h2) ⟨.str ⟨#[c]⟩,H,I.tok _,⟨_,rfl⟩,q⟩) hs
theorem Inv.lst {pins:List (Addr × Obj)} {σ:St} {H:Hp} {s:Shared} {p:Addr} {xs:List V} (I:Inv X pins σ H s) (h:H p=some (.lst xs)) :
    ∃ (its:List Value) (n:Nat),Vals xs its∧s.heap.get? p=some { cls:=.type "list",data:=.seq its.toArray n }∧xs.length≤sizeLine:=by
  obtain ⟨z,its,n,r,e⟩:=I.hok p _ h
  exact ⟨its,n,r,e,z⟩
theorem qFb (lo hi:Option Int) (n:Nat):(sliceBounds lo hi none n).1=((HT.sIx n 0 lo:Nat):Int)∧(sliceBounds lo hi none n).2.1=((HT.sIx n n hi:Nat):Int)∧(sliceBounds lo hi none n).2.2=1:=by
 refine ⟨?_,?_,rfl⟩
 ·cases lo with
  | none=>simp [sliceBounds,HT.sIx]
  | some i =>
   simp only [sliceBounds,HT.sIx,Option.getD_none,show (1:Int) > 0 by decide,if_true]
   by_cases h:i<0
   ·simp only [h,if_true] <;> omega
   ·simp only [h,if_false] <;> omega
 ·cases hi with
  | none=>simp [sliceBounds,HT.sIx]
  | some i =>
   simp only [sliceBounds,HT.sIx,Option.getD_none,show (1:Int) > 0 by decide,if_true]
   by_cases h:i<0
   ·simp only [h,if_true] <;> omega
   ·simp only [h,if_false] <;> omega
theorem qEs (its:List Value) (lo hi:Option Int):slicePick its.toArray lo hi none=((its.drop (HT.sIx its.length 0 lo)).take (HT.sIx its.length its.length hi-HT.sIx its.length 0 lo)).toArray:=by
 obtain ⟨h1,h2,h3⟩:=qFb lo hi its.toArray.size
 unfold slicePick
 rw [h1,h2,h3]
 simp only [sliceRange_one,pick_run,List.size_toArray] <;> rfl
noncomputable def rSlL (K:PySem.W.Frag):V→Option Int→Option Int→Hp→VK→Prop:=fun x lo hi H Q=>∃ a xs,x=.ref a∧SqL K H a xs∧∀ p,H p=none→Q (.ref p) (upd H p (.lst (cutV xs lo hi)))
theorem sl_list:SlR X (rSlL X.K):=by
 intro pins s σ H x v vl vu lo hi sl Q I rx hs pl pu h
 obtain ⟨a,xs,rfl,hx,q⟩:=h
 cases rx
 obtain ⟨its,r,ht,hz⟩:=I.list hx
 have hlen:=r.length
 refine ⟨"list",_,slot_list_getitem.lookup,ht.isList.typeIs,?_⟩
 refine wpAny_getItem_list_slice ht.isList hs pl pu .none (by simp) ?_ (by rw [List.size_toArray] <;> omega)
 rw [qEs,← hlen]
 refine ⟨.ref s.heap.objs.size,_,I.laid (t':=s.toks) (o:=.lst (cutV xs lo hi)) (fun b ob q=>Heap.get?_push_of_some _ q) (Nat.le_refl _) ?_,rfl,q _ (I.hok.fresh (Nat.le_refl _))⟩
 exact ⟨Nat.le_trans (qD2 xs lo hi) hz,_,0,(r.drop (HT.sIx xs.length 0 lo)).take (HT.sIx xs.length xs.length hi-HT.sIx xs.length 0 lo),Heap.get?_push_size _ rfl⟩
theorem CallR.or {f:Value} {r r':List V→Hp→VK→Prop} (h:CallR X f r) (h':CallR X f r'):CallR X f (fun xs H Q=>r xs H Q∨r' xs H Q):=by
 intro pins s σ H xs us Q I rs q
 rcases q with q | q
 ·exact h pins s σ H xs us Q I rs q
 ·exact h' pins s σ H xs us Q I rs q
theorem call_tuple_of:CallR X (.type "tuple") (fun xs H Q=>∃ p ys,xs=[.ref p]∧((SqL X.K H p ys∧∀ l,H l=none→Q (.ref l) (upd H l (.tup ys)))∨(SqT X.K H p ys∧Q (.ref p) H))):=by
 intro pins s σ H xs us Q I r h
 obtain ⟨p,ys,rfl,h⟩:=h
 obtain ⟨u,rfl,rx⟩:=vals1 r
 cases rx
 rcases h with ⟨hq,q⟩ | ⟨hq,q⟩
 ·obtain ⟨its,r',pl,hz⟩:=I.list hq
  have hlen:=r'.length
  refine call_tuple_list pl.isList (fun h' kp=>?_) (by simp only [List.size_toArray] <;> omega)
  have I1:Inv X pins σ H { s with heap:=h' }:=I.kept (t':=s.toks) kp
  have I2:Inv X pins σ (upd H h'.objs.size (.tup ys)) { s with heap:=h'.push { cls:=.type "tuple",data:=.seq its.toArray } } :=
   I1.laid (t':=s.toks) (fun b o e=>Heap.get?_push_of_some _ e) (Nat.le_refl _) (show ObjOk X.prog X.w _ _ _ (.tup ys) from ⟨hz,its,r',IsTup.new _ _⟩)
  exact ⟨.ref h'.objs.size,_,I2,rfl,q _ (I1.hok.fresh (Nat.le_refl _))⟩
 ·obtain ⟨its,r',pl,hz⟩:=I.tuple hq
  exact call_tuple_same pl ⟨.ref p,H,I,rfl,q⟩
noncomputable def tyV (K:PySem.W.Frag) (T:String) (x:V) (H:Hp):Prop:=match x with
  | .str _=>T="str"
  | .int _=>T="int"
  | .ref p=>(T="list"∧∃ xs,SqL K H p xs)∨(T="tuple"∧∃ o,K.lookup p=some o∧o.cls=.type "tuple"∧o.dict=none) ∨
      (T="dict"∧((∃ kvs,H p=some (.dK kvs))∨∃ kvs,H p=some (.dT kvs)))∨(T="set"∧∃ S n,H p=some (.set S n))
  | _=>False
theorem qN2 {pins:List (Addr × Obj)} {σ:St} {H:Hp} {s:Shared} {T:String} {x:V} {v:Value} (I:Inv X pins σ H s) (r:RelV x v) (ty:tyV X.K T x H) :
    s.TypeIs v T∧∀ a,v=.ref a→∃ ob,s.heap.get? a=some ob∧ob.dict=none:=by
  cases x with
  | str z =>
    obtain ⟨t,rfl⟩:=r
    cases (show T="str" from ty)
    exact ⟨typeIs_str s z t,fun _ e=>nomatch e⟩
  | int i =>
    obtain ⟨t,rfl⟩:=r
    cases (show T="int" from ty)
    exact ⟨typeIs_int s i t,fun _ e=>nomatch e⟩
  | ref p =>
    cases r
    rcases ty with ⟨rfl,xs,hq⟩ | ⟨rfl,o,hk,hc,hd⟩ | ⟨rfl,hk⟩ | ⟨rfl,S,n,hk⟩
    · obtain ⟨its,_,pl,_⟩:=I.list hq
      refine ⟨pl.isList.typeIs,fun a e=>?_⟩
      cases e
      obtain ⟨o,n,e,c,hd,_⟩:=pl
      exact ⟨o,e,hd⟩
    · refine ⟨⟨o,I.kIn p o hk,hc⟩,fun a e=>?_⟩
      cases e
      exact ⟨o,I.kIn _ o hk,hd⟩
    · have z:∃ o,s.heap.get? p=some o∧o.ExactDict:=by
        rcases hk with ⟨kvs,hk⟩ | ⟨kvs,hk⟩
        · obtain ⟨_,_,_,_,o,_,_,e,ex,_⟩:=I.hok p _ hk
          exact ⟨o,e,ex⟩
        · obtain ⟨_,_,_,_,o,_,_,e,ex,_⟩:=I.hok p _ hk
          exact ⟨o,e,ex⟩
      obtain ⟨o,e,ex⟩:=z
      refine ⟨⟨o,e,ex.1⟩,fun a e2=>?_⟩
      cases e2
      exact ⟨o,e,ex.2.1⟩
    · obtain ⟨o,_,_,_,e,ex,_⟩:=I.hok p _ hk
      refine ⟨⟨o,e,ex.1⟩,fun a e2=>?_⟩
      cases e2
      exact ⟨o,e,ex.2.1⟩
  | _=>exact False.elim ty
noncomputable def tBM (K:PySem.W.Frag) (T:String) (r:V→List V→Hp→VK→Prop) (to:TE) (t:TA):TE:=fun σ H Q=>to σ H fun x H1=>tyV K T x H1∧t σ H1 fun xs H2=>r x xs H2 Q
variable {o e:Expr} {es:List Expr} {to:TE} {t:TA} {name:Str} {apos cpos:Pos} {T id:String} {r:V→List V→Hp→VK→Prop}
theorem pe_bm (pa:PlainAttrs T) (slot:Slot T name id) (hty:typeOf (.builtin id)=pure (.type "method_descriptor")) (hm:MtR X id r) (ho:PE X o to) (ha:PA X (e::es) t)
    (hbase:attributeBase o name X.env (eval o X.env)=eval o X.env:=by rfl)
    (hfew:((backTo cpos (starEach (e::es) X.env)).all (fun x=>!x.1)&&(backToKw cpos (keywordEach [] X.env)).all (fun x=>x.1.isSome)
     &&decide ((e::es).length+([]:List Keyword).length+(if ([]:List Keyword).isEmpty then 0 else 1)<30))=true:=by rfl)
    (hline:(apos.endLine == cpos.line)=true:=by rfl) (hs:starEach (e::es) X.env=(false,eval e X.env)::starEach es X.env:=by rfl) (hplain:(backTo cpos (starEach es X.env)).any (·.1)=false:=by rfl) :
    PE X (.Call (.Attribute o name apos) (e::es) [] cpos) (tBM X.K T r to t):=by
  intro pins s σ H Q I h
  refine wpAny_Call_method_late hbase hfew hline rfl (thn (ho pins s σ H _ I h) fun v s1 ⟨x,H1,I1,r1,ty,q1⟩=>?_)
  obtain ⟨h1,h2⟩:=qN2 I1 r1 ty
  refine ⟨T,id,pa,slot,hty,h1,h2,?_⟩
  have hA:=ha cpos pins s1 σ H1 _ I1 q1
  rw [hs] at hA ⊢
  refine Calls.callWith_builtin (by show (false || (backTo cpos (starEach es X.env)).any (·.1))=false;rw [hplain] <;> rfl) (Calls.evalArgs_plain ?_)
  exact thn hA fun us s2 ⟨vs,H2,I2,r2,q2⟩=>hm pins s2 σ H2 x vs v us Q I2 r1 r2 q2
end
end L2
namespace L2
open PySem PySem.Spec PyProof.Rows
noncomputable def MtM (X:Cx) (id:String) (r:V→List V→Hp→VK→Prop):Prop :=
 ∀ (pins:List (Addr × Obj)) (s:Shared) (σ:St) (H:Hp) (x:V) (xs:List V) (v:Value) (us:List Value) (Q:VK),Inv X pins σ H s→RelV x v→Vals xs us→r x xs H Q →
  wpAny (model X.prog X.w) X.A (call (.builtin id) (v::us)) (EP X pins σ Q) X.xe s
theorem Vals.one:∀ {x:V} {us:List Value},Vals [x] us→∃ u,us=[u]∧RelV x u
 | _,_,.cons r .nil=>⟨_,rfl,r⟩
theorem Vals.two:∀ {x y:V} {us:List Value},Vals [x,y] us→∃ u v,us=[u,v]∧RelV x u∧RelV y v
 | _,_,_,.cons r (.cons q .nil)=>⟨_,_,rfl,r,q⟩
theorem Vals.eraseIdx:∀ {xs:List V} {us:List Value} (i:Nat),Vals xs us→Vals (xs.eraseIdx i) (us.eraseIdx i)
 | _,_,_,.nil=>.nil
 | _,_,0,.cons _ t=>t
 | _,_,i+1,.cons r t=>.cons r (Vals.eraseIdx i t)
theorem Vals.reverse {xs:List V} {us:List Value} (h:Vals xs us):Vals xs.reverse us.reverse:=by
 induction h with
 | nil=>exact .nil
 | cons r t ih=>rw [List.reverse_cons,List.reverse_cons];exact Vals.append ih (.cons r .nil)
section
variable {X:Cx} {pins:List (Addr × Obj)} {σ:St} {H:Hp} {s:Shared} {l b:Addr} {xs ys zs:List V}
theorem Inv.lset {its its':List Value} {n:Nat} {f:Array Value→Array Value} {t':Nat} (I:Inv X pins σ H s) (hH:H l=some (.lst xs))
    (e:s.heap.get? l=some { cls:=.type "list",data:=.seq its.toArray n }) (hf:f its.toArray=its'.toArray) (hv:Vals ys its') (hz:ys.length≤sizeLine) :
    Inv X pins σ (upd H l (.lst ys)) { s with heap:=s.heap.update l (Obj.mapSeq f),toks:=t' }:=by
  have q:=PySem.IsL.update e f
  rw [hf] at q
  refine I.write (x:=l) (e:=l) (by rw [hH];exact trivial) (.inl rfl) (fun b' u hb hu=>(Heap.get?_update_other s.heap (Obj.mapSeq f) (Ne.symm hb)).trans hu) ⟨_,q⟩ ?_
  exact ⟨hz,its',_,hv,q⟩
theorem Inv.lnew {its:List Value} {t':Nat} (I:Inv X pins σ H s) (hv:Vals ys its) (hz:ys.length≤sizeLine) :
    Inv X pins σ (upd H s.heap.objs.size (.lst ys)) { s with heap:=s.heap.push { cls:=.type "list",data:=.seq its.toArray },toks:=t' } :=
  I.laid (fun _ _ q=>Heap.get?_push_of_some _ q) (Nat.le_refl _) ⟨hz,its,0,hv,Heap.get?_push_size _ rfl⟩
theorem Inv.fresh (I:Inv X pins σ H s):H s.heap.objs.size=none:=I.hok.fresh (Nat.le_refl _)
theorem Inv.lstM (I:Inv X pins σ H s) (hH:H l=some (.lst xs)):xs.length≤sizeLine∧∃ (its:List Value) (n:Nat),Vals xs its∧xs.length=its.length∧s.heap.get? l=some { cls:=.type "list",data:=.seq its.toArray n }:=by
 obtain ⟨z,its,n,r,e⟩:=I.hok l _ hH
 exact ⟨z,its,n,r,r.length,e⟩
end
section
variable {X:Cx}
noncomputable def qMB:V→List V→Hp→VK→Prop:=fun x vs H Q=>∃ l xs y,x=.ref l∧vs=[y]∧H l=some (.lst xs)∧xs.length<sizeLine∧Q .non (upd H l (.lst (xs++[y])))
theorem mt_append:MtM X "list.append" qMB:=by
 intro pins s σ H x vs v us Q I rx rv h
 obtain ⟨l,xs,y,rfl,rfl,hH,hz,q⟩:=h
 cases rx
 obtain ⟨u,rfl,ru⟩:=rv.one
 obtain ⟨z,its,n,r,hl,e⟩:=I.lstM hH
 refine call_meets F.slot_list_append ⟨_,e,rfl⟩ F.entry_list_append (F.args_list_append_2 _ _) (PySem.list_append l its.toArray n u (by rw [List.size_toArray];omega)) ⟨e,?_⟩
 refine ⟨.non,_,I.lset (its':=its++[u]) hH e (by simp) (r.append (.cons ru .nil)) ?_,rfl,q⟩
 rw [List.length_append,List.length_singleton]
 omega
noncomputable def rCat:R2:=fun x y H Q=>∃ l b xs zs,x=.ref l∧y=.ref b∧H l=some (.lst xs)∧H b=some (.lst zs)∧xs.length+zs.length≤sizeLine∧∀ p,H p=none→Q (.ref p) (upd H p (.lst (xs++zs)))
theorem op_cat:OpR X (binaryOp .Add) rCat:=by
 intro pins s σ H x y v u Q I rx ry h
 obtain ⟨l,b,xs,zs,rfl,rfl,hH,hB,hz,q⟩:=h
 cases rx
 cases ry
 obtain ⟨z,its,n,r,hl,e⟩:=I.lstM hH
 obtain ⟨z2,its2,n2,r2,hl2,e2⟩:=I.lstM hB
 refine PySem.P.add_list e e2 ?_ (by rw [List.size_toArray,List.size_toArray];omega)
 have ea:its.toArray++its2.toArray=(its++its2).toArray:=by simp
 rw [ea]
 exact ⟨.ref _,_,I.lnew (t':=s.toks) (r.append r2) (by rw [List.length_append];omega),rfl,q _ I.fresh⟩
end
section
variable {prog:Program} {w:World} {A:Around} {E:Value→Shared→Prop} {s:Shared}
end
section
variable {X:Cx}
end
end L2
namespace Att
open PySem PySem.W PySem.Calls PyProof.Rows
theorem qDv {P:Params} {h:Heap}:∀ (ns:List Int) (vs:List Value),WellAll P h vs (ns.map WData.int)→IntsAre vs ns:=by
 intro ns
 induction ns with
 | nil =>
  intro vs w
  rw [List.map_nil] at w
  cases w
  exact .nil
 | cons n ns ih =>
  intro vs w
  rw [List.map_cons] at w
  cases w with
  | cons a b =>
   cases a
   exact .cons _ _ (ih _ b)
theorem qII {l:OpenLaw} {n:Nat} (hn:l.most=some n) {P:Params} {h:Heap} {args:List WData} {vals:List Value}
    (hpre:l.row.toRowW.claim.pre args=true) (hwl:WellAll P h vals args) :
    ∃ a vs ns,vals=[Value.ref a]∧args=[WData.list (ns.map WData.int)]∧h.get? a=some { cls:=.type "list",data:=.seq vs.toArray }∧IntsAre vs ns∧ns.length≤n:=by
  have hsh:WShape.hasAll [] args [.list .int]=true:=(pre_splitW hpre).1
  have hc:l.pre.holds [] { args:=args }=true:=(pre_splitW hpre).2
  obtain ⟨d,r,rfl,h1,h2⟩:=hasAllW_cons hsh
  obtain rfl:=hasAllW_nil h2
  obtain ⟨xs,rfl,h3⟩:=hasW_list h1
  obtain ⟨ns,rfl⟩:=items_int h3
  have hlen:ns.length≤n:=by
    unfold OpenLaw.pre at hc
    have h4:(WTm.not (.lt (.lit (.int (n:Int))) (.len (.arg 0)))).holds [] { args:=[.list (ns.map .int)] }=true:=by
      have h4:=(holds_andW hc).1
      rw [hn] at h4
      exact h4
    have h5:=condW_of h4 (w_not (w_lt w_lit (w_len_list (w_arg rfl))))
    rw [List.length_map] at h5
    refine Nat.le_of_not_lt fun q=>?_
    have q':(n:Int)<((ns.length:Nat):Int):=by omega
    first
      | (rw [decide_eq_true q'] at h5;exact absurd h5 (by decide))
      | (simp at h5;omega)
  cases hwl with
  | cons w1 w2 =>
    cases w2
    cases w1 with
    | list ho hall=>exact ⟨_,_,ns,rfl,rfl,ho,qDv ns _ hall,hlen⟩
theorem qIN (l:OpenLaw) (args:List WData):l.row.toRowW.claim.post args (.bool true) args=true :=
 postW_of (r:=l.row.toRowW) (X:=(true == true))
  (show WShape.has [] (.bool true) .bool=true by first | rfl | decide | simp [WShape.has,WShape.arms,WShape.armsAll])
  (show (WTm.eq .res (.lit (.bool true))).value [] { args:=args,res:=some (.bool true),after:=args }=some (.bool (true == true)) from w_eq_bool (w_res rfl) w_lit) rfl
theorem attach_call {l:OpenLaw} {n:Nat} {q:Program} {loose:List Str} {XP:(Str→Option Value)→Heap→Prop} {YP:World→Heap→Prop} {d:DefRec}
    (hn:l.most=some n) (hdf:d.params.defaults=[])
    (call:∀ (w:World) (s₀ s₁:Shared) (mg mb:Str→Option Value) (fa:Addr) (o:Obj) (pm cd doc:Value) (a:Addr) (vs:List Value) (ns:List Int),
      Ground q loose [] XP w s₀ mg mb s₁.heap→YP w s₁.heap →
      s₁.heap.get? fa=some o→o.data=.func (docDef d.name d.params d.body d.scope pm cd doc)→s₁.heap.CodeRec cd d.name→mg d.name=some (.ref fa) →
      s₁.heap.get? a=some { cls:=.type "list",data:=.seq vs.toArray }→IntsAre vs ns→ns.length≤n→s₁.gens=#[] →
      codeAny (model l.prog w) callerA (.call (.ref fa) ⟨[.ref a],[]⟩) (fun r s'=>r=.ok (.ret (.bool true))∧OldK s₁.heap s'.heap∧s'.os=s₁.os∧AllBare s'.gens) s₁) :
    WalkO q loose XP YP l.row.toRowW d [] (fun f vs=>PySem.call f vs):=by
  intro w s₀ s₁ mg mb G Y fa o pm cd doc dV kV ho hd hcd hD hmg hg args vals as hpre hlay hrd hwl hlo
  obtain rfl:dV=.none:=Dflts.none hD hdf
  obtain rfl:kV=.none:=Dflts.noKw hD
  obtain ⟨a,vs,ns,rfl,rfl,hobj,hints,hlen⟩:=qII hn hpre hwl
  refine enter_call (codeAny_mono (call w s₀ s₁ mg mb fa o pm cd doc a vs ns G Y ho (fd_plain hd) hcd hmg hobj hints hlen hg) fun r s' hq=>?_)
  obtain ⟨rfl,h2,h3,h4⟩:=hq
  exact ⟨.inl ⟨.bool true,.bool true,[],rfl,fun _=>rfl,.bool true,qIN l _,fun _=>⟨List.Pairwise.nil,fun _ hm=>(nomatch hm)⟩⟩,h2,h3,h4⟩
section
variable {prog:Program} {w:World} {A:Around} {E:Value→Shared→Prop} {s:Shared} {K:Frag}
noncomputable def qPt (h:Heap) (L d:Addr):List (Addr × Obj):=(List.range h.objs.size).filterMap fun a=>if a=L∨a=d then none else (h.get? a).map fun o=>(a,o)
end
end Att
namespace L2
open PySem PySem.Spec PyProof.Rows
theorem vals_ints:∀ {vs:List Value} {ns:List Int},IntsAre vs ns→Vals (ns.map V.int) vs
 | _,_,.nil=>.nil
 | _,_,.cons n t h=>.cons ⟨t,rfl⟩ (vals_ints h)
noncomputable def Only (H:Hp):Prop:=∀ b,H b=none∨∃ o xs,H b=some (.frz o (.lst xs))
theorem qKb {P:Program} {w:World} {K:PySem.W.Frag} {mg mb:Str→Option Value} {CX:CXT} {k:Nat} {fa a:Addr} {fd:FuncData} {x:Str} {sp:Sp} {s₁:Shared} {vs:List Value} {ns:List Int}
    (KX:K.In s₁.heap) (hns:s₁.heap.Ns mainGlobals mg) (hb:s₁.heap.Ns builtinsNs mb) (hbb:∀ x:Str,x≠"__name__"→mb x=bootBuiltins x) (hlim:s₁.heap.NoLimit) (hg:s₁.gens=#[])
    (ha:s₁.heap.get? a=some { cls:=.type "list",data:=.seq vs.toArray }) (hi:IntsAre vs ns) (hl:ns.length≤sizeLine) (hr:Room k callerA)
    (F:∀ base:Heap,K.In base→base.Ns mainGlobals mg→FnOk P w K mg base CX k fa fd [x] sp) (hbind:∀ (s:Shared) (u:Value),BindsTo s fd ⟨[u],[]⟩ [(x,u)])
    (hsp:∀ H:Hp,Only H→SqL K H a (ns.map V.int)→sp [.ref a] H (fun v _=>v=.bl true) fun _ _ _=>False)
    (hCX:∀ H e s',CX [] H s₁ (fun _ _ _=>False) e s'→False) :
    codeAny (model P w) callerA (.call (.ref fa) ⟨[.ref a],[]⟩) (fun r s'=>r=.ok (.ret (.bool true))∧OldK s₁.heap s'.heap∧s'.os=s₁.os∧AllBare s'.gens) s₁:=by
  have rv:=vals_ints hi
  have lenV:=hi.length
  have core:∀ H:Hp,Only H→SqL K H a (ns.map V.int)→HOk P w H s₁.heap→(∀ b,H b≠none→b=a)→(H a≠none→K.lookup a=none) →
      codeAny (model P w) callerA (.call (.ref fa) ⟨[.ref a],[]⟩) (fun r s'=>r=.ok (.ret (.bool true))∧OldK s₁.heap s'.heap∧s'.os=s₁.os∧AllBare s'.gens) s₁:=by
    intro H hO hS hok hA hK
    have base_of:∀ {b:Addr} {o:Obj},s₁.heap.get? b=some o→H b=none→(hidT s₁.heap H).get? b=some o:=fun e n=>qKf e n
    have noA:∀ {b:Addr} {o:Obj} {es:Array DictEntry} {ep:Nat},s₁.heap.get? b=some o→o.data=.dict es ep→H b=none:=fun {b o es ep} e d=>by
      cases q:H b with
      | none=>rfl
      | some u =>
        have e':b=a:=hA b (by rw [q];simp)
        subst e'
        rw [ha] at e;cases e
        have d':Data.seq vs.toArray _=Data.dict es ep:=d
        cases d'
    have nsK:∀ {b:Addr} {m:Str→Option Value},s₁.heap.Ns b m→(hidT s₁.heap H).Ns b m:=fun {b m} ⟨o,es,ep,e,d,r⟩=>⟨o,es,ep,base_of e (noA e d),d,r⟩
    have hKb:K.In (hidT s₁.heap H):=fun b o e=>base_of (KX b o e) (by
      cases q:H b with
      | none=>rfl
      | some u =>
        have e':b=a:=hA b (by rw [q];simp)
        subst e'
        rw [hK (by rw [q];simp)] at e;cases e)
    have hM:Mod K mg (hidT s₁.heap H):=⟨hKb,nsK hns,⟨mb,nsK hb,hbb⟩,let ⟨mc,h1,h2⟩:=hlim;⟨mc,nsK h1,h2⟩⟩
    have e0:Env0 P w K mg (hidT s₁.heap H) callerA [] s₁ H:=⟨rfl,hM,fun b o e=>qMI e,Nat.le_of_eq (qI4 _ _),trivial,fun b hb=>absurd (show b∈([]:List Addr) from hb) (by simp),hok,.of_eq hg⟩
    refine codeAny_mono ((F _ hKb (nsK hns)).run callerA [] s₁ H ⟨[.ref a],[]⟩ [.ref a] [.ref a] _ _ hr e0 (hbind s₁ (.ref a)) (.cons rfl .nil) (hsp H hO hS)) fun r s' h=>?_
    cases r with
    | error e=>exact (hCX H e s' h).elim
    | ok fl =>
      cases fl with
      | next=>exact False.elim h
      | brk=>exact False.elim h
      | cont=>exact False.elim h
      | ret u =>
        obtain ⟨v,H',os,bare,un,hok',r',q⟩:=h
        have q':v=.bl true:=q
        subst q'
        obtain rfl:u=Value.bool true:=r'
        refine ⟨rfl,OldK.of_keep fun b o e=>?_,os,bare⟩
        cases q:H b with
        | none=>exact un.keep b o e q (by intro z;exact absurd (show b∈([]:List Addr) from z) (by simp)) (by simp)
        | some u =>
          rcases hO b with z | ⟨ob,xs,z⟩
          · rw [q] at z;cases z
          · have z2:=un.frzs b ob _ z
            obtain ⟨e1,_⟩:=hok b _ z
            obtain ⟨e2,_⟩:=hok' b _ z2
            rw [e] at e1;cases e1
            exact e2
  cases hk:K.lookup a with
  | some o =>
    have e:=KX a o hk
    rw [ha] at e
    cases e
    refine core (fun _=>none) (fun _=>.inl rfl) (.inr ⟨_,vs.toArray,_,hk,rfl,rfl,rfl,by rw [List.size_toArray,lenV];exact hl,by simpa using rv⟩) (fun b u z=>by have z':(none:Option HO)=some u:=z;cases z') (fun b z=>absurd rfl z) fun z=>absurd rfl z
  | none =>
    refine core (fun b=>if b=a then some (.frz { cls:=.type "list",data:=.seq vs.toArray } (.lst (ns.map V.int))) else none) (fun b=>?_) (.inl (.inr ⟨{ cls:=.type "list",data:=.seq vs.toArray },if_pos rfl⟩)) (fun b u z=>?_) (fun b z=>?_) fun _=>hk
    · by_cases hb:b=a
      · exact .inr ⟨_,_,if_pos hb⟩
      · exact .inl (if_neg hb)
    · by_cases hb:b=a
      · have z':=(if_pos hb).symm.trans z
        cases z'
        subst hb
        exact ⟨ha,by rw [List.length_map];exact hl,vs,_,rv,ha⟩
      · have z':=(if_neg hb).symm.trans z
        cases z'
    · by_cases hb:b=a
      · exact hb
      · exact absurd (if_neg hb) z
end L2
namespace L2
open PySem PySem.Spec PyProof.Rows
noncomputable abbrev KOf {K:PySem.W.Frag} {h:Heap} (_:K.In h):PySem.W.Frag:=K
theorem walk_of {l:PySem.W.OpenLaw} {n k:Nat} {q:Program} {loose:List Str} {XP:(Str→Option Value)→Heap→Prop} {YP:World→Heap→Prop} {d:DefRec} {K:Params→PySem.W.Frag} {CX:World→CXT} {sp:World→Sp} {x:Str}
    (hn:l.most=some n) (hn2:n≤sizeLine) (hdf:d.params.defaults=[]) (hr:Room k callerA)
    (hY:∀ (w:World) (h:Heap),YP w h→(K w.params).In h)
    (F:∀ (w:World) (mg:Str→Option Value) (fa:Addr) (h:Heap),(K w.params).In h→h.Ns mainGlobals mg→mg d.name=some (.ref fa) →
      ∃ fd:FuncData,(∀ (s:Shared) (u:Value),BindsTo s fd ⟨[u],[]⟩ [(x,u)]) ∧
        ∀ base:Heap,(K w.params).In base→base.Ns mainGlobals mg→FnOk l.prog w (K w.params) mg base (CX w) k fa fd [x] (sp w))
    (hsp:∀ (w:World) (H:Hp) (a:Addr) (ns:List Int),ns.length≤n→Only H→SqL (K w.params) H a (ns.map V.int)→sp w [.ref a] H (fun v _=>v=.bl true) fun _ _ _=>False)
    (hCX:∀ (w:World) (H:Hp) (s:Shared) (e:Value) (s':Shared),CX w [] H s (fun _ _ _=>False) e s'→False) :
    PySem.W.WalkO q loose XP YP l.row.toRowW d [] (fun f vs=>PySem.call f vs):=by
  refine Att.attach_call hn hdf fun w s₀ s₁ mg mb fa o pm cd doc a vs ns G Y ho hd hcd hmg hobj hints hlen hg=>?_
  have KX:=hY w _ Y
  obtain ⟨fd,hb,hF⟩:=F w mg fa _ KX G.T.g hmg
  exact qKb KX G.T.g G.T.b G.T.builtins G.T.nolimit hg hobj hints (Nat.le_trans hlen hn2) hr hF hb (fun H hO hS=>hsp w H a ns hlen hO hS) fun H e s'=>hCX w H s₁ e s'
end L2
namespace L2
open PySem PySem.Spec PyProof.Rows
noncomputable def defArgs (s:Stmt):Arguments:=match s with
 | .FunctionDef _ a _ _ _ _ _ _ _ _=>a
 | _=>{ posonlyargs:=[],args:=[],vararg:=none,kwonlyargs:=[],kw_defaults:=[],kwarg:=none,defaults:=[] }
noncomputable def defBody (s:Stmt):List Stmt:=match s with
 | .FunctionDef _ _ b _ _ _ _ _ _ _=>b
 | _=>[]
noncomputable def defScope (s:Stmt):Scope:=match s with
 | .FunctionDef _ _ _ _ _ _ sc _ _ _=>sc
 | _=>{ kind:=.function,names:=[],isGenerator:=false,isCoroutine:=false }
noncomputable abbrev CX0:CXT:=fun _ _ _ _ _ _=>False
structure Fun (K:PySem.W.Frag) (x qual:Str) (st:Stmt) (f:Addr) (fd:FuncData):Prop where
 ex:∃ (oc:Value) (od:Option Addr) (kV doc pm:Value) (an:Option Addr) (cdv ct:Value) (osl:Array (Option Value)),
  fd=PySem.W.fnOf x qual (defArgs st) (defBody st) (defScope st) .none kV doc pm an cdv ct∧K.lookup f=some ⟨oc,od,.func fd,osl⟩∧PySem.W.codeIn K cdv qual=true
 kp:PySem.W.keepIn K (.ref f)=true
section
variable {P:Program} {w:World} {K:PySem.W.Frag} {mg:Str→Option Value} {base:Heap}
theorem Fun.ok {x qual:Str} {st:Stmt} {f:Addr} {fd:FuncData} {N ps:List Str} {k:Nat} {sp:Sp} (F:Fun K x qual st f fd) (S:FnScope N ps (defScope st)) (len:∀ vs H Q E,sp vs H Q E→vs.length=ps.length)
    (hbody:∀ (cdv:Value) (A:Around) (outer:List Env) (s:Shared) (H:Hp) (vs:List V) (Q:VK) (E:XK),Room k (A.deeper (envOfC qual (defScope st) s.heap.objs.size f cdv))→sp vs H Q E →
      ∃ t,PSs (cxOf CX0 P w K mg base N qual (defScope st) f cdv A outer s H E).nox (defBody st) t∧t { nx:=fun _ H'=>Q .non H',rt:=Q } (start N vs) H):FnOk P w K mg base CX0 (k+1) f fd ps sp:=by
  obtain ⟨oc,od,kV,doc,pm,an,cdv,ct,osl,rfl,lk,hcd⟩:=F.ex
  refine fn_of lk hcd S len fun A outer s H vs Q E hr hsp=>?_
  obtain ⟨t,h,q⟩:=hbody cdv A outer s H vs Q E hr hsp
  exact ⟨t,h.nox,q⟩
theorem Fun.binds {x qual:Str} {st:Stmt} {f:Addr} {fd:FuncData} {ps:List Str} (F:Fun K x qual st f fd)
    (h:∀ (kV doc pm:Value) (an:Option Addr) (cdv ct:Value) (us:List Value),us.length=ps.length→bindArgs (PySem.W.fnOf x qual (defArgs st) (defBody st) (defScope st) .none kV doc pm an cdv ct) ⟨us,[]⟩=pure (ps.zip us)):Binds K fd ps []:=by
  obtain ⟨oc,od,kV,doc,pm,an,cdv,ct,osl,rfl,lk,hcd⟩:=F.ex
  exact .all (h kV doc pm an cdv ct)
theorem fun_mk {x qual:Str} {st:Stmt} {f:Addr} {oc:Value} {od an:Option Addr} {osl:Array (Option Value)} {kV doc pm cdv ct:Value} (l:K.lookup f=some ⟨oc,od,.func (PySem.W.fnOf x qual (defArgs st) (defBody st) (defScope st) .none kV doc pm an cdv ct),osl⟩)
    (c:PySem.W.codeIn K cdv qual=true) (k:PySem.W.keepIn K (.ref f)=true):Fun K x qual st f (PySem.W.fnOf x qual (defArgs st) (defBody st) (defScope st) .none kV doc pm an cdv ct):=⟨⟨oc,od,kV,doc,pm,an,cdv,ct,osl,rfl,l,c⟩,k⟩
end
section
variable {X:Cx}
end
theorem iteF {A B:Prop} (h:B):if false=true then A else B:=by
 rw [if_neg Bool.false_ne_true]
 exact h
theorem iteT {A B:Prop} (h:A):if true=true then A else B:=by
 rw [if_pos rfl]
 exact h
noncomputable def Same (H H':Hp):Prop:=∀ b o,H b=some o→H' b=some o
theorem Same.refl (H:Hp):Same H H:=fun _ _ h=>h
theorem Same.trans {H H1 H2:Hp} (a:Same H H1) (b:Same H1 H2):Same H H2:=fun c o h=>b c o (a c o h)
theorem Same.free {H H':Hp} (e:Same H H') {l:Addr} (h:H' l=Option.none):H l=Option.none:=by
 cases q:H l with
 | none=>rfl
 | some o =>
  rw [e l o q] at h
  cases h
theorem Same.seq {K:PySem.W.Frag} {H H':Hp} {a:Addr} {xs:List V} (e:Same H H') (h:SqL K H a xs):SqL K H' a xs:=by
 rcases h with (h | ⟨o,h⟩) | h
 ·exact .inl (.inl (e _ _ h))
 ·exact .inl (.inr ⟨o,e _ _ h⟩)
 ·exact .inr h
end L2
namespace L2
open PySem PySem.Spec PyProof.Rows
section
variable {κ:Type} [DecidableEq κ]
noncomputable def valV (kvs:List (κ × V)) (k:κ):Option V:=(kvs.find? fun kv=>decide (kv.1=k)).map (·.2)
noncomputable def putK (kvs:List (κ × V)) (k:κ) (v:V):List (κ × V) :=
 if (kvs.any fun kv=>decide (kv.1=k))=true then kvs.map (fun kv=>if kv.1=k then (kv.1,v) else kv) else kvs++[(k,v)]
noncomputable def dropK (kvs:List (κ × V)) (k:κ):List (κ × V):=kvs.filter fun kv=>decide (kv.1≠k)
theorem valV_pos {p:κ × V} {r:List (κ × V)} {k:κ} (e:p.1=k):valV (p::r) k=some p.2:=by simp [valV,List.find?_cons,e]
theorem valV_neg {p:κ × V} {r:List (κ × V)} {k:κ} (e:¬ p.1=k):valV (p::r) k=valV r k:=by simp [valV,List.find?_cons,e]
theorem qGu (k:κ):∀ kvs:List (κ × V),(kvs.any fun kv=>decide (kv.1=k))=(valV kvs k).isSome
 | []=>rfl
 | p::r=>by
  rw [List.any_cons]
  by_cases e:p.1=k
  ·simp only [valV_pos e,decide_eq_true e,Bool.true_or,Option.isSome_some]
  ·rw [valV_neg e,decide_eq_false e,Bool.false_or];exact qGu k r
theorem length_putK (kvs:List (κ × V)) (k:κ) (v:V):(putK kvs k v).length≤kvs.length+1:=by
 unfold putK
 split
 ·rw [List.length_map];omega
 ·rw [List.length_append,List.length_cons,List.length_nil];omega
theorem RelO.isSome_eq {o:Option V} {u:Option Value} (r:RelO o u):o.isSome=u.isSome:=by
 cases o with
 | none=>cases u with
  | none=>rfl
  | some _=>exact (show False from r).elim
 | some _=>cases u with
  | none=>exact (show False from r).elim
  | some _=>rfl
theorem RelO.getD {o:Option V} {u:Option Value} {d:V} {d':Value} (r:RelO o u) (rd:RelV d d'):RelV (o.getD d) (u.getD d'):=by
 cases o with
 | none=>cases u with
  | none=>exact rd
  | some _=>exact (show False from r).elim
 | some _=>cases u with
  | none=>exact (show False from r).elim
  | some _=>exact r
theorem KV.val {kvs:List (κ × V)} {vs:List (κ × Value)} (r:KV kvs vs) (k:κ):RelO (valV kvs k) (valueAt vs k):=by
 unfold KV at r
 induction r with
 | nil=>exact True.intro
 | @cons p q ps qs h t ih =>
  obtain ⟨h1,h2⟩:=h
  by_cases e:p.1=k
  ·have e':q.1=k:=h1.symm.trans e
   have b:valueAt (q::qs) k=some q.2:=by simp [valueAt,List.find?_cons,e']
   rw [valV_pos e,b];exact h2
  ·have e':¬ q.1=k:=fun z=>e (h1.trans z)
   have b:valueAt (q::qs) k=valueAt qs k:=by simp [valueAt,List.find?_cons,e']
   rw [valV_neg e,b];exact ih
theorem KV.any {kvs:List (κ × V)} {vs:List (κ × Value)} (r:KV kvs vs) (k:κ):(kvs.any fun kv=>decide (kv.1=k))=vs.any fun kv=>decide (kv.1=k):=by
 unfold KV at r
 induction r with
 | nil=>rfl
 | cons h t ih=>rw [List.any_cons,List.any_cons,ih,h.1]
theorem KV.repl {kvs:List (κ × V)} {vs:List (κ × Value)} (r:KV kvs vs) (k:κ) {y:V} {u:Value} (ry:RelV y u) :
    KV (kvs.map fun kv=>if kv.1=k then (kv.1,y) else kv) (vs.map fun kv=>if kv.1=k then (kv.1,u) else kv):=by
  unfold KV at r ⊢
  induction r with
  | nil=>exact .nil
  | @cons p q ps qs h t ih =>
    rw [List.map_cons,List.map_cons]
    refine .cons ?_ ih
    obtain ⟨h1,h2⟩:=h
    by_cases e:p.1=k
    · rw [if_pos e,if_pos (h1.symm.trans e)];exact ⟨h1,ry⟩
    · rw [if_neg e,if_neg (fun z=>e (h1.trans z))];exact ⟨h1,h2⟩
theorem KV.put {kvs:List (κ × V)} {vs:List (κ × Value)} (r:KV kvs vs) (k:κ) {y:V} {u:Value} (ry:RelV y u):KV (putK kvs k y) (stored vs k u):=by
 unfold putK stored
 rw [r.any k]
 by_cases e:(vs.any fun kv=>decide (kv.1=k))=true
 ·rw [if_pos e,if_pos e];exact r.repl k ry
 ·rw [if_neg e,if_neg e];exact Paired.snoc r ⟨rfl,ry⟩
theorem KV.drop {kvs:List (κ × V)} {vs:List (κ × Value)} (r:KV kvs vs) (k:κ):KV (dropK kvs k) (without vs k):=by
 unfold KV at r ⊢
 unfold dropK without
 induction r with
 | nil=>exact .nil
 | @cons p q ps qs h t ih =>
  obtain ⟨h1,h2⟩:=h
  rw [List.filter_cons,List.filter_cons]
  by_cases e:p.1=k
  ·have a:¬ decide (p.1≠k)=true:=by simp [e]
   have b:¬ decide (q.1≠k)=true:=by simp [h1.symm.trans e]
   rw [if_neg a,if_neg b];exact ih
  ·have e':¬ q.1=k:=fun z=>e (h1.trans z)
   have a:decide (p.1≠k)=true:=by simp [e]
   have b:decide (q.1≠k)=true:=by simp [e']
   rw [if_pos a,if_pos b];exact .cons ⟨h1,h2⟩ ih
theorem KV.length {kvs:List (κ × V)} {vs:List (κ × Value)} (r:KV kvs vs):kvs.length=vs.length:=Paired.length r
theorem qKv (kvs:List (κ × V)) (k:κ):(dropK kvs k).length≤kvs.length:=List.length_filter_le _ _
end
theorem kV_is {P:Program} {w:World} {k:Key} {u:Value} (r:RelV (kV k) u):(mixKind P w).is k u=true:=by
 cases k with
 | inl i=>obtain ⟨t,e⟩:=(show ∃ t,u=Value.int i t from r);subst e;exact qGT P w i t
 | inr x=>obtain ⟨t,e⟩:=(show ∃ t,u=Value.str x t from r);subst e;exact qGS P w x t
noncomputable abbrev KT (H:Hp):List (List Key × V)→List (List Key × Addr × Value)→Prop:=Paired fun p q=>p.1=q.1∧H q.2.1=some (.tup (p.1.map kV))∧RelV p.2 q.2.2
theorem KT.val {H:Hp} {kvs:List (List Key × V)} {xs:List (List Key × Addr × Value)} (r:KT H kvs xs) (k:List Key):RelO (valV kvs k) ((atKey xs k).map (·.2)):=by
 induction r with
 | nil=>exact True.intro
 | @cons p q ps qs h t ih =>
  obtain ⟨h1,_,h2⟩:=h
  by_cases e:p.1=k
  ·have e':q.1=k:=h1.symm.trans e
   have b:atKey (q::qs) k=some q.2:=by simp [atKey,List.find?_cons,e']
   rw [valV_pos e,b];exact h2
  ·have e':¬ q.1=k:=fun z=>e (h1.trans z)
   have b:atKey (q::qs) k=atKey qs k:=by simp [atKey,List.find?_cons,e']
   rw [valV_neg e,b];exact ih
theorem KT.repl {H:Hp} {kvs:List (List Key × V)} {xs:List (List Key × Addr × Value)} (r:KT H kvs xs) (k:List Key) {y:V} {u:Value} (ry:RelV y u) :
    KT H (kvs.map fun kv=>if kv.1=k then (kv.1,y) else kv) (xs.map (putAt k u)):=by
  induction r with
  | nil=>exact .nil
  | @cons p q ps qs h t ih =>
    rw [List.map_cons,List.map_cons]
    refine .cons ?_ ih
    obtain ⟨h1,h2,h3⟩:=h
    unfold putAt
    by_cases e:p.1=k
    · rw [if_pos e,if_pos (h1.symm.trans e)];exact ⟨h1,h2,ry⟩
    · rw [if_neg e,if_neg (fun z=>e (h1.trans z))];exact ⟨h1,h2,h3⟩
theorem KT.put {H:Hp} {kvs:List (List Key × V)} {xs:List (List Key × Addr × Value)} (r:KT H kvs xs) (k:List Key) {b:Addr} {y:V} {u:Value} (hb:H b=some (.tup (k.map kV))) (ry:RelV y u) :
    KT H (putK kvs k y) (storedH xs k b u):=by
  have e:(kvs.any fun kv=>decide (kv.1=k))=(atKey xs k).isSome:=by
    rw [qGu,(r.val k).isSome_eq,Option.isSome_map]
  unfold putK storedH
  rw [e]
  by_cases q:(atKey xs k).isSome=true
  · rw [if_pos q,if_pos q];exact r.repl k ry
  · rw [if_neg q,if_neg q];exact Paired.snoc r ⟨rfl,hb,ry⟩
theorem KT.keeps {H H':Hp} {kvs:List (List Key × V)} {xs:List (List Key × Addr × Value)} (r:KT H kvs xs) (ht:∀ b ys,H b=some (.tup ys)→H' b=some (.tup ys)):KT H' kvs xs :=
 Paired.mapP r fun _ _ z=>⟨z.1,ht _ _ z.2.1,z.2.2⟩
section
variable {P:Program} {w:World} {H:Hp} {h:Heap} {a:Addr}
theorem rd_of {u:HO} (ok:HOk P w H h) (e:Rd H a u):ObjOk P w H h a u:=e.ok ok
theorem dk_rd {kvs:List (Key × V)} (ok:HOk P w H h) (e:Rd H a (.dK kvs)):kvs.length≤sizeLine∧(a == sysModules)=false∧∃ vs,KV kvs vs∧h.DictOf (mixKind P w) a vs :=
 show ObjOk P w H h a (.dK kvs) from rd_of ok e
theorem dk_of {kvs:List (Key × V)} (ok:HOk P w H h) (e:H a=some (.dK kvs)):kvs.length≤sizeLine∧(a == sysModules)=false∧∃ vs,KV kvs vs∧h.DictOf (mixKind P w) a vs:=dk_rd ok (.inl e)
end
section
variable {X:Cx} {pins:List (Addr × Obj)} {σ:St} {H:Hp} {s:Shared} {a:Addr} {y v:V} {u r:Value} {o:Option V} {A:Around} {E:Value→Shared→Prop}
theorem Inv.big (I:Inv X pins σ H s):sysModules<s.heap.objs.size:=by
 have h:mainGlobals<s.heap.objs.size:=(I.mod.glob.keeps I.bk).lt
 exact Nat.lt_trans (by decide) h
theorem d_write {h':Heap} {t':Nat} {ob:HO} (I:Inv X pins σ H s) (mu:Mut (H a)) (hs:Heap.SameBut a s.heap h') (he:∃ q,h'.get? a=some q) (new:ObjOk X.prog X.w (upd H a ob) h' a ob) :
    Inv X pins σ (upd H a ob) { s with heap:=h',toks:=t' } :=
  I.write (x:=a) (e:=a) mu (.inl rfl) (fun b q hb z=>(hs.2 b hb).trans z) he new
theorem dk_new {P:Program} {w:World} {H':Hp} {h':Heap} {kvs:List (Key × V)} {vs:List (Key × Value)} (z:kvs.length≤sizeLine) (hd:(a == sysModules)=false) (rel:KV kvs vs) (dd:h'.DictOf (mixKind P w) a vs) :
    ObjOk P w H' h' a (.dK kvs):=⟨z,hd,vs,rel,dd⟩
end
section
variable {X:Cx} {pins:List (Addr × Obj)} {σ:St} {H:Hp} {s:Shared} {a:Addr} {kvs:List (Key × V)} {k:Key} {u:Value} {A:Around} {E:Value→Shared→Prop}
theorem d_pop {v:V} {more:List Value} {Q:Value→Shared→Prop} (I:Inv X pins σ H s) (e:H a=some (.dK kvs)) (ry:RelV (kV k) u) (l:valV kvs k=some v) (hm:more=[]∨∃ x,more=[x])
    (h:∀ w' s',Inv X pins σ (upd H a (.dK (dropK kvs k))) s'→RelV v w'→Q w' s'):wpAny (model X.prog X.w) A (call (.builtin "dict.pop") (.ref a::u::more)) Q E s:=by
  obtain ⟨z,hd,vs,rel,dd⟩:=dk_of I.hok e
  obtain ⟨w',hw,rw'⟩:=RelO.some_of (v:=v) (o:=valueAt vs k) (by rw [← l];exact rel.val k)
  have hp:(keyPart u).isSome=true:=by
    cases k with
    | inl i=>obtain ⟨t,q⟩:=(show ∃ t,u=Value.int i t from ry);subst q;rfl
    | inr x=>obtain ⟨t,q⟩:=(show ∃ t,u=Value.str x t from ry);subst q;rfl
  have ha:argsOk "dict.pop" ⟨.ref a::u::more,[]⟩:=by
    rcases hm with q | ⟨x,q⟩
    · subst q;exact PySem.F.args_dict_pop_2 _ _
    · subst q;exact PySem.F.args_dict_pop_3 _ _ _
  refine call_meetsIn PySem.F.slot_dict_pop dd.typeIs PySem.F.entry_dict_pop ha (meets_dict_pop_there (mixKind X.prog X.w) a (kV_is ry) more hm hp)
    ⟨vs,w',dd,by rw [← rel.length];exact z,hw,fun h' dd' hs=>h w' _ ?_ rw'⟩
  have he:∃ q,h'.get? a=some q:=let ⟨q,_,_,hq,_⟩:=dd';⟨q,hq⟩
  exact d_write I (by rw [e];exact True.intro) hs he (dk_new (Nat.le_trans (qKv kvs k) z) hd (rel.drop k) dd')
end
theorem qHO {P:Program} {w:World} {H:Hp} (h:Heap) (hb:sysModules<h.objs.size):ObjOk P w H (h.push { cls:=.type "dict",data:=.dict #[] }) h.objs.size (.dK []) :=
 ⟨Nat.zero_le _,beq_eq_false_iff_ne.mpr (Ne.symm (Nat.ne_of_lt hb)),[],.nil,Heap.DictOf.new h⟩
noncomputable def qN7:TE:=fun _ H Q=>∀ p,H p=none→Q (.ref p) (upd H p (.dK []))
section
variable {X:Cx} {pos:Pos}
theorem pe_dnewK:PE X (.Dict [] [] pos) qN7:=fun pins s σ H Q I h =>
 wpAny_Dict_empty ⟨.ref s.heap.objs.size,_,I.laid (a:=s.heap.objs.size) (o:=.dK []) (t':=s.toks) (fun _ _ q=>Heap.get?_push_of_some _ q) (Nat.le_refl _) (qHO s.heap I.big),rfl,h _ (I.hok.fresh (Nat.le_refl _))⟩
end
noncomputable def tPairs:List (TE × TE)→St→Hp→(List (V × V)→Hp→Prop)→Prop
 | [],_,H,Q=>Q [] H
 | (tk,tv)::r,σ,H,Q=>tk σ H fun x H1=>tv σ H1 fun y H2=>tPairs r σ H2 fun ps H3=>Q ((x,y)::ps) H3
noncomputable abbrev VV:List (V × V)→List (Value × Value)→Prop:=Paired fun p q=>RelV p.1 q.1∧RelV p.2 q.2
noncomputable def PPs (X:Cx) (pos:Pos) (keys:List (Option Expr)) (values:List Expr) (trs:List (TE × TE)):Prop :=
 ∀ (pins:List (Addr × Obj)) (s:Shared) (σ:St) (H:Hp) (Q:List (V × V)→Hp→Prop),Inv X pins σ H s→tPairs trs σ H Q →
  wpAny (model X.prog X.w) X.A (evalPairs (pairTrees keys values X.env pos)) (fun vs s'=>∃ ps H',Inv X pins σ H' s'∧VV ps vs∧Q ps H') X.xe s
theorem pps_nil {X:Cx} {pos:Pos}:PPs X pos [] [] []:=fun pins s σ H Q I h=>pairTrees_nil_walk ⟨[],H,I,.nil,h⟩
theorem pps_cons {X:Cx} {pos:Pos} {k v:Expr} {ks:List (Option Expr)} {vs:List Expr} {tk tv:TE} {trs:List (TE × TE)} (hk:PE X k tk) (hv:PE X v tv) (hr:PPs X pos ks vs trs) :
    PPs X pos (some k::ks) (v::vs) ((tk,tv)::trs):=fun pins s σ H Q I h =>
  pairTrees_cons_walk (thn (hk pins s σ H _ I h) fun u s1 ⟨x,H1,I1,rx,q1⟩=>thn (hv pins s1 σ H1 _ I1 q1) fun w2 s2 ⟨y,H2,I2,ry,q2⟩ =>
    thn (hr pins s2 σ H2 _ I2 q2) fun ws s3 ⟨ps,H3,I3,rel,q3⟩=>⟨(x,y)::ps,H3,I3,.cons ⟨rx,ry⟩ rel,q3⟩)
noncomputable def mergeK (kvs more:List (Key × V)):List (Key × V):=more.foldl (fun acc kv=>putK acc kv.1 kv.2) kvs
theorem KV.merge:∀ {more:List (Key × V)} {rs:List (Key × Value)} {kvs:List (Key × V)} {vs:List (Key × Value)},KV more rs→KV kvs vs→KV (mergeK kvs more) (merged vs rs):=by
 intro more rs kvs vs r
 unfold KV at r
 induction r generalizing kvs vs with
 | nil=>intro q;exact q
 | @cons p q ps qs h t ih =>
  intro r0
  have e:KV (putK kvs p.1 p.2) (stored vs q.1 q.2):=by
   have:=r0.put p.1 h.2
   rw [← h.1];exact this
  exact ih e
theorem qCt:∀ (more kvs:List (Key × V)),(mergeK kvs more).length≤kvs.length+more.length
 | [],kvs=>by show kvs.length≤kvs.length+0;omega
 | p::r,kvs=>by
  have h1:=qCt r (putK kvs p.1 p.2)
  have h2:=length_putK kvs p.1 p.2
  show (mergeK (putK kvs p.1 p.2) r).length≤_
  rw [List.length_cons];omega
theorem qEn {P:Program} {w:World}:∀ {kvs:List (Key × V)} {ws:List (Value × Value)},VV (kvs.map fun kv=>(kV kv.1,kv.2)) ws→∃ rs,Carries (mixKind P w) ws rs∧KV kvs rs
 | [],_,r=>by rw [List.map_nil] at r;cases r;exact ⟨[],True.intro,.nil⟩
 | p::kvs,_,r=>by
  rw [List.map_cons] at r
  cases r with
  | @cons a b as bs h t =>
   obtain ⟨rs,c,q⟩:=qEn (P:=P) (w:=w) t
   obtain ⟨b1,b2⟩:=b
   exact ⟨(p.1,b2)::rs,⟨kV_is h.1,rfl,c⟩,.cons ⟨rfl,h.2⟩ q⟩
noncomputable def tDisp (trs:List (TE × TE)):TE:=fun σ H Q=>∀ p,H p=none→tPairs trs σ (upd H p (.dK [])) fun ps H2=>H2 p=some (.dK [])∧∃ kvs:List (Key × V),ps=kvs.map (fun kv=>(kV kv.1,kv.2))∧kvs.length≤15∧Q (.ref p) (upd H2 p (.dK (mergeK [] kvs)))
theorem pe_disp {X:Cx} {pos:Pos} {keys:List (Option Expr)} {values:List Expr} {trs:List (TE × TE)} (h:PPs X pos keys values trs) (hall:keys.all (·.isSome)=true) (hl:keys.length=values.length) (h0:keys≠[])
    (h15:keys.length≤15):PE X (.Dict keys values pos) (tDisp trs):=by
  intro pins s σ H Q I q
  have hn:=I.hok.fresh (Nat.le_refl s.heap.objs.size)
  have I1:=I.laid (a:=s.heap.objs.size) (o:=.dK []) (h':=s.heap.push { cls:=.type "dict",data:=.dict #[] }) (t':=s.toks) (fun _ _ q=>Heap.get?_push_of_some _ q) (Nat.le_refl _) (qHO s.heap I.big)
  refine wpAny_Dict_walk (knd:=mixKind X.prog X.w) hall hl h0 h15 (thn (h pins _ σ _ _ I1 (q _ hn)) fun ws s2 ⟨ps,H2,I2,rel,e,kvs,ep,lk,q2⟩=>?_)
  subst ep
  obtain ⟨rs,c,rk⟩:=qEn (P:=X.prog) (w:=X.w) rel
  obtain ⟨z,hd,vs0,r0,dd⟩:=dk_of I2.hok e
  cases r0
  refine ⟨rs,c,dd,fun h' dd' hs=>⟨.ref s.heap.objs.size,_,?_,rfl,q2⟩⟩
  have hz:(mergeK [] kvs).length≤sizeLine:=by
    have h1:=qCt kvs []
    rw [List.length_nil] at h1
    rw [sizeLine_eq];omega
  have he:∃ q,h'.get? s.heap.objs.size=some q:=let ⟨q,_,_,hq,_⟩:=dd';⟨q,hq⟩
  exact d_write I2 (by rw [e];exact True.intro) hs he (dk_new hz hd (rk.merge .nil) dd')
end L2
set_option Elab.async false
set_option linter.all false
set_option genSizeOf false
set_option genSizeOfSpec false
set_option genInjectivity false
namespace Fy
open PySem
noncomputable abbrev Tx:=List Nat
inductive D where
 | non | bl (b:Bool) | int (i:Int) | str (x:Tx) | tup (xs:List D) | ref (i:Nat)
 deriving Inhabited
inductive Ky where
 | int (i:Int) | str (x:Tx)
 deriving DecidableEq
inductive O where
 | lst (xs:List D) | rol (xs:List D) | ins (c:Nat) (fs:List (Nat × D)) | dct (kvs:List (Ky × D)) | xc (c:Nat)
 deriving Inhabited
noncomputable def nmGo:Nat→Nat→List Nat→List Nat
 | 0,_,acc=>acc
 | f+1,n,acc=>if n=0 then acc else nmGo f (n / 256) (n % 256::acc)
noncomputable def nmOf (n:Nat):Str:=⟨(nmGo 60 n []).toArray⟩
noncomputable abbrev AH:=List O
noncomputable abbrev Env:=List (Option D)
inductive R (α:Type) where
 | ok (a:α) (h:AH) | exc (c:Nat) (h:AH) | bad
noncomputable abbrev M (α:Type):=AH→R α
noncomputable def R.bind {α β:Type}:R α→(α→AH→R β)→R β
 | .ok a h,f=>f a h
 | .exc c h,_=>.exc c h
 | .bad,_=>.bad
noncomputable def M.bind {α β:Type} (m:M α) (f:α→M β):M β:=fun h=>(m h).bind f
noncomputable def R.calm {α:Type}:R α→R α
 | .exc _ _=>.bad
 | r=>r
noncomputable def M.calm {α:Type} (m:M α):M α:=fun h=>(m h).calm
noncomputable def M.ret {α:Type} (a:α):M α:=fun h=>.ok a h
noncomputable def M.bad {α:Type}:M α:=fun _=>.bad
noncomputable def M.when {α:Type} (c:Prop) [Decidable c] (m:M α):M α:=fun h=>if c then m h else .bad
noncomputable def qLh (o:O):M D:=fun h=>.ok (.ref h.length) (h++[o])
noncomputable def getL (h:AH) (i:Nat):Option (List D):=match h[i]? with
 | some (.lst xs)=>some xs
 | some (.rol xs)=>some xs
 | _=>none
noncomputable def liveN (h:AH) (i:Nat):Nat:=((getL h i).getD []).length+1
noncomputable def newL (xs:List D):M D:=M.when (xs.length≤16777216) (qLh (.lst xs))
inductive Ty where
 | int | str | bool | list | tuple
 deriving DecidableEq
inductive Un where
 | neg | len | str | int | ord | tuple | list | all | any | isN | notN | isB (b:Bool) | isi (t:Ty) | fmt | upper | sum | clear | isx (cs xl:List Nat) | fld (k:Nat) | nsB (b:Bool) | rev | sorted | lrng
 deriving DecidableEq
inductive Bi where
 | add | sub | mul | fdiv | mod | pow | eq | ne | lt | le | gt | ge | isin | notin | ix | min2 | max2 | find | split | join | append | zfill | remove | get | pop | starts | index | part | rpart | lpop | lrng
 deriving DecidableEq
noncomputable def b2i (b:Bool):Int:=if b then 1 else 0
noncomputable def isiD (h:AH) (t:Ty) (d:D):Option Bool:=match d with
 | .non=>some false
 | .bl _=>some (t == .bool || t == .int)
 | .int _=>some (t == .int)
 | .str _=>some (t == .str)
 | .tup _=>some (t == .tuple)
 | .ref i=>(getL h i).map fun _=>t == .list
noncomputable def txI (i:Int):Tx:=(toString i).toList.map Char.toNat
noncomputable def truth (d:D):M Bool:=fun h=>match d with
 | .non=>.ok false h
 | .bl b=>.ok b h
 | .int i=>.ok (i != 0) h
 | .str x=>if x.length≤16777216 then .ok (!x.isEmpty) h else .bad
 | .tup xs=>.ok (!xs.isEmpty) h
 | .ref i=>match getL h i with
  | some xs=>.ok (!xs.isEmpty) h
  | none=>.bad
noncomputable def qEA:List D→Option (List Bool)
 | []=>some []
 | .bl b::r=>(qEA r).map (b::·)
 | _::_=>none
noncomputable def allB (xs:List D):Option Bool:=(qEA xs).map (·.all id)
noncomputable def anyB (xs:List D):Option Bool:=(qEA xs).map (·.any id)
noncomputable def eqW (f:D→D→Option Bool):List D→List D→Option Bool
 | [],[]=>some true
 | [],_::_=>some false
 | _::_,[]=>some false
 | x::xs,y::ys=>match f x y,eqW f xs ys with
  | some a,some b=>some (a&&b)
  | _,_=>none
noncomputable def eqD (h:AH):Nat→D→D→Option Bool
 | _,.non,.non=>some true
 | _,.bl a,.bl b=>some (a == b)
 | _,.int a,.int b=>some (a == b)
 | _,.str a,.str b=>some (a == b)
 | _,.bl a,.int b=>some (b2i a == b)
 | _,.int a,.bl b=>some (a == b2i b)
 | n+1,.tup xs,.tup ys=>eqW (eqD h n) xs ys
 | n+1,.ref i,.ref j=>match getL h i,getL h j with
  | some xs,some ys=>eqW (eqD h n) xs ys
  | _,_=>none
 | _,.non,.bl _=>some false
 | _,.non,.int _=>some false
 | _,.non,.str _=>some false
 | _,.bl _,.non=>some false
 | _,.int _,.non=>some false
 | _,.str _,.non=>some false
 | _,.int _,.str _=>some false
 | _,.str _,.int _=>some false
 | _,.bl _,.str _=>some false
 | _,.str _,.bl _=>some false
 | _,.tup _,.non=>some false
 | _,.tup _,.bl _=>some false
 | _,.tup _,.int _=>some false
 | _,.tup _,.str _=>some false
 | _,.non,.tup _=>some false
 | _,.bl _,.tup _=>some false
 | _,.int _,.tup _=>some false
 | _,.str _,.tup _=>some false
 | _,.ref i,.tup _=>(getL h i).map fun _=>false
 | _,.tup _,.ref i=>(getL h i).map fun _=>false
 | _,.ref i,.non=>(getL h i).map fun _=>false
 | _,.ref i,.bl _=>(getL h i).map fun _=>false
 | _,.ref i,.int _=>(getL h i).map fun _=>false
 | _,.ref i,.str _=>(getL h i).map fun _=>false
 | _,.non,.ref i=>(getL h i).map fun _=>false
 | _,.bl _,.ref i=>(getL h i).map fun _=>false
 | _,.int _,.ref i=>(getL h i).map fun _=>false
 | _,.str _,.ref i=>(getL h i).map fun _=>false
 | _,_,_=>none
noncomputable def ixN (n:Nat) (i:Int):Option Nat:=if 0≤i then (if i<n then some i.toNat else none) else if -(n:Int)≤i then some (i+n).toNat else none
noncomputable def cutN (n d:Nat):Option Int→Nat
 | none=>d
 | some v=>if v<0 then (v+n).toNat else min v.toNat n
noncomputable def cutX {α:Type} (xs:List α) (lo hi:Option Int):List α:=(xs.drop (cutN xs.length 0 lo)).take (cutN xs.length xs.length hi-cutN xs.length 0 lo)
noncomputable def isDig (x:Tx):Bool:=x.all fun c=>decide (48≤c∧c≤57)
noncomputable def digV (x:Tx):Nat:=x.foldl (fun acc c=>acc*10+(c-48)) 0
noncomputable def upC (c:Nat):Nat:=if 97≤c∧c≤122 then c-32 else c
noncomputable def getN (k:Nat):List (Nat × D)→Option D
 | []=>none
 | (g,x)::r=>if g == k then some x else getN k r
noncomputable def putN (k:Nat) (d:D):List (Nat × D)→List (Nat × D)
 | []=>[(k,d)]
 | (g,x)::r=>if g == k then (g,d)::r else (g,x)::putN k d r
noncomputable def tbN:List (Nat × Nat)→Nat→Option Nat
 | [],_=>none
 | (g,x)::r,k=>if g == k then some x else tbN r k
noncomputable def qCA:List D→Option (List Int)
 | []=>some []
 | .int x::r=>(qCA r).map (x::·)
 | _::_=>none
noncomputable def insZ (x:Int):List Int→List Int
 | []=>[x]
 | y::r=>if x≤y then x::y::r else y::insZ x r
noncomputable def sortZ:List Int→List Int
 | []=>[]
 | x::r=>insZ x (sortZ r)
noncomputable def qAI (i:Int):Prop:=-4611686018427387904≤i∧i<4611686018427387904
instance (i:Int):Decidable (qAI i):=by unfold qAI;exact inferInstance
noncomputable def qAi (lo:Int) (n:Nat):List D:=(List.range n).map fun (k:Nat)=>D.int (lo+k)
noncomputable def unD (o:Un) (d:D):M D:=fun h=>match o,d with
 | .neg,.int i=>.ok (.int (-i)) h
 | .len,.str x=>if x.length≤16777216 then .ok (.int x.length) h else .bad
 | .len,.tup xs=>.ok (.int xs.length) h
 | .len,.ref i=>match getL h i with
  | some xs=>.ok (.int xs.length) h
  | none=>.bad
 | .str,.int i=>if i.natAbs.log2<1920 then .ok (.str (txI i)) h else .bad
 | .int,.int i=>.ok (.int i) h
 | .int,.bl b=>.ok (.int (b2i b)) h
 | .int,.str x=>if x≠[]∧x.length≤640∧isDig x=true then .ok (.int (digV x)) h else .bad
 | .ord,.str x=>match x with
  | [c]=>.ok (.int c) h
  | _=>.bad
 | .tuple,.tup xs=>.ok (.tup xs) h
 | .tuple,.ref i=>match getL h i with
  | some xs=>.ok (.tup xs) h
  | none=>.bad
 | .list,.tup xs=>newL xs h
 | .list,.ref i=>match getL h i with
  | some xs=>newL xs h
  | none=>.bad
 | .all,.ref i=>match (getL h i).bind allB with
  | some b=>.ok (.bl b) h
  | none=>.bad
 | .any,.ref i=>match (getL h i).bind anyB with
  | some b=>.ok (.bl b) h
  | none=>.bad
 | .sum,.ref i=>match (getL h i).bind qCA with
  | some xs=>.ok (.int xs.sum) h
  | none=>.bad
 | .sorted,.ref i=>match (getL h i).bind qCA with
  | some xs=>if xs.length<64 then newL ((sortZ xs).map .int) h else .bad
  | none=>.bad
 | .lrng,.int j=>if qAI j then newL (qAi 0 j.toNat) h else .bad
 | .rev,.ref i=>match getL h i with
  | some xs=>newL xs.reverse h
  | none=>.bad
 | .clear,.ref i=>match h[i]? with
  | some (.lst _)=>.ok .non (h.set i (.lst []))
  | _=>.bad
 | .fld k,.ref i=>match h[i]? with
  | some (.ins _ fs)=>match getN k fs with
   | some d=>.ok d h
   | none=>.bad
  | _=>.bad
 | .isx cs xl,.ref i=>match h[i]? with
  | some (.xc c)=>if xl.contains c then .ok (.bl (cs.contains c)) h else .bad
  | _=>.bad
 | .upper,.str x=>if x.length≤1000000∧x.all (fun c=>decide (c<128))=true then .ok (.str (x.map upC)) h else .bad
 | .isN,d=>.ok (.bl (match d with | .non=>true | _=>false)) h
 | .notN,d=>.ok (.bl (match d with | .non=>false | _=>true)) h
 | .isB b,.bl c=>.ok (.bl (b == c)) h
 | .isB _,.non=>.ok (.bl false) h
 | .isB _,.int _=>.ok (.bl false) h
 | .isB _,.str _=>.ok (.bl false) h
 | .nsB b,.bl c=>.ok (.bl (!(b == c))) h
 | .nsB _,.non=>.ok (.bl true) h
 | .nsB _,.int _=>.ok (.bl true) h
 | .nsB _,.str _=>.ok (.bl true) h
 | .isi t,d=>match isiD h t d with
  | some b=>.ok (.bl b) h
  | none=>.bad
 | _,_=>.bad
noncomputable def mulOk (i j:Int):Prop:=(-18446744073709551616<i∧i<18446744073709551616)∨(-18446744073709551616<j∧j<18446744073709551616)
instance (i j:Int):Decidable (mulOk i j):=by unfold mulOk;exact inferInstance
noncomputable def eqTop (h:AH) (x y:D):Option Bool:=eqD h 40 x y
noncomputable def inTx (x y:Tx):Option Bool:=match x with
 | [c]=>some (y.contains c)
 | _=>none
noncomputable def findC (a:Tx) (c:Nat):Int:=match a.findIdx? (· == c) with
  | some i=>i
  | none=>-1
noncomputable def posC (c:Nat):Nat→Tx→List Nat
 | _,[]=>[]
 | k,x::r=>if x=c then k::posC c (k+1) r else posC c (k+1) r
noncomputable def lastC (c:Nat):Nat→Tx→Option Nat
 | _,[]=>none
 | k,x::r=>match lastC c (k+1) r with
  | some i=>some i
  | none=>if x=c then some k else none
noncomputable def qG5 (a:Tx) (cuts:List Nat):List Tx:=((0::cuts.map (·+1)).zip (cuts++[a.length])).map fun p=>(a.drop p.1).take (p.2-p.1)
noncomputable def partT (a:Tx) (c:Nat):List Tx:=match posC c 0 a with
 | i::_=>[a.take i,[c],a.drop (i+1)]
 | []=>[a,[],[]]
noncomputable def qLI (a:Tx) (c:Nat):List Tx:=match lastC c 0 a with
 | some i=>[a.take i,[c],a.drop (i+1)]
 | none=>[[],[],a]
noncomputable def qAw:List D→Option (List Tx)
 | []=>some []
 | .str x::r=>(qAw r).map (x::·)
 | _::_=>none
noncomputable def joinT (sep:Tx):List Tx→Tx
 | []=>[]
 | [x]=>x
 | x::y::r=>x++sep++joinT sep (y::r)
noncomputable def joinN (sep:Tx) (xs:List Tx):Nat:=(xs.map List.length).sum+xs.length*sep.length
noncomputable def remD (f:D→Option Bool):List D→Option (List D)
 | []=>none
 | x::xs=>match f x with
  | some true=>some xs
  | some false=>(remD f xs).map (x::·)
  | none=>none
noncomputable def anyD (f:D→Option Bool):List D→Option Bool
 | []=>some false
 | x::xs=>match f x,anyD f xs with
  | some a,some b=>some (a || b)
  | _,_=>none
noncomputable def valY (kvs:List (Ky × D)) (k:Ky):Option D:=(kvs.find? fun kv=>decide (kv.1=k)).map (·.2)
noncomputable def putY (kvs:List (Ky × D)) (k:Ky) (d:D):List (Ky × D):=if (kvs.any fun kv=>decide (kv.1=k))=true then kvs.map (fun kv=>if kv.1=k then (kv.1,d) else kv) else kvs++[(k,d)]
noncomputable def qHC (kvs more:List (Ky × D)):List (Ky × D):=more.foldl (fun acc kv=>putY acc kv.1 kv.2) kvs
noncomputable def ixK (k:Nat) (y:Ky):M D:=fun h=>match h[k]? with
 | some (.dct kvs)=>match valY kvs y with
  | some d=>.ok d h
  | none=>.bad
 | _=>.bad
noncomputable def hasK (k:Nat) (y:Ky):M D:=fun h=>match h[k]? with
 | some (.dct kvs)=>.ok (.bl (valY kvs y).isSome) h
 | _=>.bad
noncomputable def putKD (d:D) (k:Nat) (y:Ky):M Unit:=fun h=>match h[k]? with
 | some (.dct kvs)=>if kvs.length<16777216 then .ok () (h.set k (.dct (putY kvs y d))) else .bad
 | _=>.bad
noncomputable def getK (k:Nat) (y:Ky):M D:=fun h=>match h[k]? with
 | some (.dct kvs)=>.ok ((valY kvs y).getD .non) h
 | _=>.bad
noncomputable def dropY (kvs:List (Ky × D)) (k:Ky):List (Ky × D):=kvs.filter fun kv=>decide (kv.1≠k)
noncomputable def popK (k:Nat) (y:Ky):M D:=fun h=>match h[k]? with
 | some (.dct kvs)=>match valY kvs y with
  | some d=>.ok d (h.set k (.dct (dropY kvs y)))
  | none=>.bad
 | _=>.bad
noncomputable def lpopK (k:Nat) (i:Int):M D:=fun h=>match h[k]? with
 | some (.lst xs)=>if xs.length≤16777216 then (match ixN xs.length i with
  | some j=>(match xs[j]? with
   | some d=>.ok d (h.set k (.lst (xs.eraseIdx j)))
   | none=>.bad)
  | none=>.bad) else .bad
 | _=>.bad
noncomputable def setdK (k:Nat) (y:Ky) (d:D):M D:=fun h=>match h[k]? with
 | some (.dct kvs)=>match valY kvs y with
  | some x=>.ok x h
  | none=>if kvs.length<16777216 then .ok d (h.set k (.dct (putY kvs y d))) else .bad
 | _=>.bad
noncomputable def setdD (x y z:D):M D:=match x,y with
 | .ref k,.int i=>setdK k (.int i) z
 | _,_=>M.bad
noncomputable def splmD (x y z:D):M D:=fun h=>match x,y,z with
 | .str a,.str b,.int k=>match b with
  | [c]=>if (c<256∧a.length≤1000000)∧0≤k∧k≤1000000 then newL ((qG5 a ((posC c 0 a).take k.toNat)).map .str) h else .bad
  | _=>.bad
 | _,_,_=>.bad
noncomputable def dispD (ks:List Ky) (ds:List D) (p:Nat):M D:=fun h=>match h[p]? with
 | some (.dct [])=>if ks.length=ds.length∧ks.length≤15 then .ok (.ref p) (h.set p (.dct (qHC [] (ks.zip ds)))) else .bad
 | _=>.bad
noncomputable def biD (o:Bi) (x y:D):M D:=fun h=>match o,x,y with
  | .add,.int i,.int j=>.ok (.int (i+j)) h
  | .add,.str a,.str b=>if a.length+b.length≤16777216 then .ok (.str (a++b)) h else .bad
  | .add,.tup a,.tup b=>if a.length+b.length≤16777216 then .ok (.tup (a++b)) h else .bad
  | .add,.ref i,.ref j=>match h[i]?,h[j]? with
    | some (.lst xs),some (.lst ys)=>newL (xs++ys) h
    | _,_=>.bad
  | .sub,.int i,.int j=>.ok (.int (i-j)) h
  | .mul,.int i,.int j=>if mulOk i j then .ok (.int (i*j)) h else .bad
  | .fdiv,.int i,.int j=>if 0<j∧j<1073741824 then .ok (.int (i / j)) h else .bad
  | .mod,.int i,.int j=>if 0<j then .ok (.int (i % j)) h else .bad
  | .pow,.int i,.int j=>if 0≤j∧j≤1000000∧i.natAbs<18446744073709551616 then .ok (.int (i ^ j.toNat)) h else .bad
  | .eq,x,y=>match eqTop h x y with
    | some b=>.ok (.bl b) h
    | none=>.bad
  | .ne,x,y=>match eqTop h x y with
    | some b=>.ok (.bl (!b)) h
    | none=>.bad
  | .lt,.int i,.int j=>.ok (.bl (decide (i<j))) h
  | .le,.int i,.int j=>.ok (.bl (decide (i≤j))) h
  | .gt,.int i,.int j=>.ok (.bl (decide (j<i))) h
  | .ge,.int i,.int j=>.ok (.bl (decide (j≤i))) h
  | .isin,.str a,.str b=>match inTx a b with
    | some r=>.ok (.bl r) h
    | none=>.bad
  | .isin,.int a,.ref i=>match (getL h i).bind qCA with
    | some xs=>.ok (.bl (xs.contains a)) h
    | none=>hasK i (.int a) h
  | .isin,.str a,.tup xs=>match qAw xs with
    | some ys=>.ok (.bl (ys.contains a)) h
    | none=>.bad
  | .isin,.tup a,.ref i=>match (getL h i).bind (anyD fun x=>eqTop h x (.tup a)) with
    | some b=>.ok (.bl b) h
    | none=>.bad
  | .notin,.int a,.ref i=>match (getL h i).bind qCA with
    | some xs=>.ok (.bl (!xs.contains a)) h
    | none=>.bad
  | .notin,.str a,.str b=>match inTx a b with
    | some r=>.ok (.bl (!r)) h
    | none=>.bad
  | .ix,.tup xs,.int i=>match (ixN xs.length i).bind (xs[·]?) with
    | some d=>.ok d h
    | none=>.bad
  | .ix,.str x,.int i=>if x.length≤16777216 then match (ixN x.length i).bind (x[·]?) with
    | some c=>.ok (.str [c]) h
    | none=>.bad
    else .bad
  | .ix,.ref k,.int i=>match (getL h k).bind fun xs=>(ixN xs.length i).bind (xs[·]?) with
    | some d=>.ok d h
    | none=>ixK k (.int i) h
  | .ix,.ref k,.str x=>ixK k (.str x) h
  | .min2,.int i,.int j=>.ok (.int (if j<i then j else i)) h
  | .max2,.int i,.int j=>.ok (.int (if j > i then j else i)) h
  | .find,.str a,.str b=>match b with
    | [c]=>.ok (.int (findC a c)) h
    | _=>.bad
  | .zfill,.str x,.int n=>if 0≤n∧n≤1000∧isDig x=true∧x.length≤1000 then .ok (.str (List.replicate (n.toNat-x.length) 48++x)) h else .bad
  | .join,.str x,.ref i=>match (getL h i).bind qAw with
    | some xs=>if joinN x xs≤16777216 then .ok (.str (joinT x xs)) h else .bad
    | none=>.bad
  | .append,.ref k,d=>match h[k]? with
    | some (.lst xs)=>if xs.length<16777216 then .ok .non (h.set k (.lst (xs++[d]))) else .bad
    | _=>.bad
  | .remove,.ref k,d=>match h[k]? with
    | some (.lst xs)=>match remD (fun x=>eqTop h x d) xs with
      | some ys=>.ok .non (h.set k (.lst ys))
      | none=>.bad
    | _=>.bad
  | .split,.str a,.str b=>match b with
    | [c]=>if c<256∧a.length≤1000000 then newL ((qG5 a (posC c 0 a)).map .str) h else .bad
    | _=>.bad
  | .part,.str a,.str b=>match b with
    | [c]=>if a.length≤1000000 then .ok (.tup ((partT a c).map .str)) h else .bad
    | _=>.bad
  | .rpart,.str a,.str b=>match b with
    | [c]=>if a.length≤1000000 then .ok (.tup ((qLI a c).map .str)) h else .bad
    | _=>.bad
  | .get,.ref k,.int i=>getK k (.int i) h
  | .pop,.ref k,.int i=>popK k (.int i) h
  | .lpop,.ref k,.int i=>lpopK k i h
  | .lrng,.int i,.int j=>if qAI i∧qAI j then newL (qAi i (j-i).toNat) h else .bad
  | .starts,.str a,.str b=>.ok (.bl (b.isPrefixOf a)) h
  | .index,.ref k,.bl b=>match (getL h k).bind qEA with
    | some bs=>if bs.findIdx (· == b)<bs.length then .ok (.int (bs.findIdx (· == b))) h else .bad
    | none=>.bad
  | _,_,_=>.bad
noncomputable def slD (x:D) (l u:Option Int):M D:=fun h=>match x with
 | .str x=>if x.length≤16777216 then .ok (.str (cutX x l u)) h else .bad
 | .tup xs=>.ok (.tup (cutX xs l u)) h
 | .ref i=>match getL h i with
  | some xs=>newL (cutX xs l u) h
  | none=>.bad
 | _=>.bad
noncomputable def meOk (o:Bi) (x:D):M Unit:=fun h=>match o,x with
 | .append,.ref i=>match getL h i with
  | some _=>.ok () h
  | none=>.bad
 | .remove,.ref i=>match getL h i with
  | some _=>.ok () h
  | none=>.bad
 | .lpop,.ref i=>match getL h i with
  | some _=>.ok () h
  | none=>.bad
 | .find,.str _=>.ok () h
 | .split,.str _=>.ok () h
 | .part,.str _=>.ok () h
 | .rpart,.str _=>.ok () h
 | .join,.str _=>.ok () h
 | .zfill,.str _=>.ok () h
 | .starts,.str _=>.ok () h
 | .get,.ref i=>match h[i]? with
  | some (.dct _)=>.ok () h
  | _=>.bad
 | .pop,.ref i=>match h[i]? with
  | some (.dct _)=>.ok () h
  | _=>.bad
 | .index,.ref i=>match getL h i with
  | some _=>.ok () h
  | none=>.bad
 | _,_=>.bad
noncomputable def mclsD (m:Nat) (x:D):M Nat:=fun h=>match x with
 | .ref i=>match h[i]? with
  | some (.ins c fs)=>if (getN m fs).isNone then .ok c h else .bad
  | _=>.bad
 | _=>.bad
noncomputable def setFD (k:Nat) (cs:List Nat) (d x:D):M Unit:=fun h=>match x with
 | .ref i=>match h[i]? with
  | some (.ins c fs)=>if cs.contains c=true∧fs.length<1000 then .ok () (h.set i (.ins c (putN k d fs))) else .bad
  | _=>.bad
 | _=>.bad
noncomputable def qIG (d x y:D):M Unit:=fun h=>match x,y with
 | .ref k,.int j=>match h[k]? with
  | some (.lst xs)=>match ixN xs.length j with
   | some p=>.ok () (h.set k (.lst (xs.set p d)))
   | none=>.bad
  | _=>putKD d k (.int j) h
 | .ref k,.str x=>putKD d k (.str x) h
 | _,_=>.bad
noncomputable def makeD (F:Nat→List D→M D) (c f:Nat) (xs:List D):M D:=fun h=>(F f (.ref h.length::xs) (h++[.ins c []])).bind fun d h'=>match d with
 | .non=>.ok (.ref h.length) h'
 | _=>.bad
noncomputable def intD (d:D):M (Option Int):=fun h=>match d with
 | .int i=>.ok (some i) h
 | _=>.bad
mutual
inductive CE where
 | lit (d:D) | var (i:Nat) | un (o:Un) (a:CE) | bi (o:Bi) (a b:CE) | sl (a:CE) (lo hi:CP)
 | and (a b:CE) | or (a b:CE) | not (a:CE) | ite (c:CT) (a b:CE) | chain (o p:Bi) (a b c:CE) | me (o:Bi) (a b:CE) | setd (a b c:CE) | splm (a b c:CE)
 | tup (es:CL) | lst (es:CL) | disp (ks:List Ky) (es:CL) | call (f:Nat) (es:CL) | meth (m:Nat) (tb:List (Nat × Nat)) (a:CE) (es:CL) | make (c f:Nat) (es:CL) | comp (elt:CE) (it:CI) | compIf (elt:CE) (c:CT) (it:CI) | comp2 (elt:CE) (it:CI) | compIf2 (elt:CE) (c:CT) (it:CI)
inductive CT where
 | val (e:CE) | and (a b:CT) | or (a b:CT) | not (a:CT)
inductive CL where
 | nil | cons (e:CE) (r:CL)
inductive CI where
 | of (e:CE) | rng1 (e:CE) | rng2 (a b:CE) | rng3 (a b c:CE)
inductive CP where
 | no | at (e:CE)
end
inductive TG where
 | nm (i:Nat) | two (i j:Nat)
mutual
inductive CS where
 | skip | opq | seq (a b:CS) | set (t:TG) (e:CE) | exp (e:CE) | ret (e:CE) | retN | ite (c:CT) (a b:CS)
 | fori (t:TG) (it:CI) (b:CS) | forE (i j:Nat) (e:CE) (b:CS) | whil (c:CT) (b:CS) | brk | cnt | raise (c:Nat) | setF (a:CE) (k:Nat) (cs:List Nat) (e:CE) | setIx (a i e:CE) | tryx (b:CS) (hs:CH)
inductive CH where
 | nil | cons (cs:List Nat) (k:CS) (r:CH) | as (cs:List Nat) (i:Nat) (k:CS) (r:CH)
end
inductive It where
 | row (xs:List D) | live (i:Nat)
noncomputable def nS (i j k:Int):Nat:=if i<j then ((j-i-1) / k+1).toNat else 0
noncomputable def qCq (lo st:Int) (n:Nat):List D:=(List.range n).map fun (k:Nat)=>D.int (lo+k*st)
noncomputable def itOf (d:D):M It:=fun h=>match d with
 | .str x=>.ok (.row (x.map fun c=>.str [c])) h
 | .tup xs=>.ok (.row xs) h
 | .ref i=>match getL h i with
  | some _=>.ok (.live i) h
  | none=>.bad
 | _=>.bad
noncomputable def compF (m:Env→M D) (σ:Env) (x:D):M (Option D):=(m (σ++[some x])).calm.bind fun y=>M.ret (some y)
noncomputable def qD6 (m:Env→M D) (c:Env→M Bool) (σ:Env) (x:D):M (Option D):=(c (σ++[some x])).calm.bind fun k=>if k then (m (σ++[some x])).calm.bind fun y=>M.ret (some y) else M.ret none
noncomputable def twoF (f:Env→D→M (Option D)) (env:Env) (x:D):M (Option D):=match x with
 | .tup [a,b]=>f (env++[some a]) b
 | _=>fun _=>.bad
noncomputable def qBX (f:D→M (Option D)):List D→M (List D)
 | []=>M.ret []
 | x::xs=>(f x).bind fun y=>(qBX f xs).bind fun ys=>M.ret (match y with | some y=>y::ys | none=>ys)
noncomputable def qAm (f:D→M (Option D)) (i:Nat):Nat→Nat→M (List D)
 | 0,_=>M.bad
 | n+1,k=>fun h=>match getL h i with
  | none=>.bad
  | some xs=>match xs[k]? with
   | none=>.ok [] h
   | some x=>((f x).bind fun y=>(qAm f i n (k+1)).bind fun ys=>M.ret (match y with | some y=>y::ys | none=>ys)) h
noncomputable def mapIt (f:D→M (Option D)):It→M (List D)
 | .row xs=>M.when (xs.length<16777216) (qBX f xs)
 | .live i=>fun h=>M.when (liveN h i<16777216) (qAm f i (liveN h i) 0) h
section
variable (F:Nat→List D→M D)
mutual
noncomputable def den:CE→Env→M D
 | .lit d,_=>M.ret d
 | .var i,σ=>fun h=>match σ[i]? with
  | some (some d)=>.ok d h
  | _=>.bad
 | .un o a,σ=>(den a σ).bind (unD o)
 | .bi o a b,σ=>(den a σ).bind fun x=>(den b σ).bind fun y=>biD o x y
 | .sl a lo hi,σ=>(den a σ).bind fun x=>(denP lo σ).bind fun l=>(denP hi σ).bind fun u=>slD x l u
 | .and a b,σ=>(den a σ).bind fun x=>match x with
  | .bl true=>den b σ
  | .bl false=>M.ret (.bl false)
  | _=>M.bad
 | .or a b,σ=>(den a σ).bind fun x=>match x with
  | .bl true=>M.ret (.bl true)
  | .bl false=>den b σ
  | _=>M.bad
 | .not a,σ=>((den a σ).bind truth).bind fun b=>M.ret (.bl (!b))
 | .ite c a b,σ=>(denT c σ).bind fun k=>if k then den a σ else den b σ
 | .chain o p a b c,σ=>(den a σ).bind fun x=>(den b σ).bind fun y=>(biD o x y).bind fun z=>match z with
  | .bl true=>(den c σ).bind fun w=>biD p y w
  | .bl false=>M.ret (.bl false)
  | _=>M.bad
 | .me o a b,σ=>(den a σ).bind fun x=>(meOk o x).bind fun _=>(den b σ).bind fun y=>biD o x y
 | .setd a b c,σ=>(den a σ).bind fun x=>(meOk .get x).bind fun _=>(den b σ).bind fun y=>(den c σ).bind fun z=>setdD x y z
 | .splm a b c,σ=>(den a σ).bind fun x=>(meOk .split x).bind fun _=>(den b σ).bind fun y=>(den c σ).bind fun z=>splmD x y z
 | .tup es,σ=>(denL es σ).bind fun xs=>M.when (xs.length≤16777216) (M.ret (.tup xs))
 | .lst es,σ=>(denL es σ).bind newL
 | .disp ks es,σ=>fun h=>(denL es σ (h++[.dct []])).bind fun ds=>dispD ks ds h.length
 | .call f es,σ=>(denL es σ).bind (F f)
 | .meth m tb a es,σ=>(den a σ).bind fun x=>(mclsD m x).bind fun c=>match tbN tb c with
  | some f=>(denL es σ).bind fun xs=>F f (x::xs)
  | none=>M.bad
 | .make c f es,σ=>(denL es σ).bind (makeD F c f)
 | .comp e it,σ=>(denI it σ).bind fun r=>(mapIt (compF (den e) σ) r).bind newL
 | .compIf e c it,σ=>(denI it σ).bind fun r=>(mapIt (qD6 (den e) (denT c) σ) r).bind newL
 | .comp2 e it,σ=>(denI it σ).bind fun r=>(mapIt (twoF (compF (den e)) σ) r).bind newL
 | .compIf2 e c it,σ=>(denI it σ).bind fun r=>(mapIt (twoF (qD6 (den e) (denT c)) σ) r).bind newL
noncomputable def denL:CL→Env→M (List D)
 | .nil,_=>M.ret []
 | .cons e r,σ=>(den e σ).bind fun x=>(denL r σ).bind fun xs=>M.ret (x::xs)
noncomputable def denI:CI→Env→M It
 | .of e,σ=>(den e σ).bind itOf
 | .rng1 e,σ=>(den e σ).bind fun x=>match x with
  | .int j=>M.when (qAI j) (M.ret (.row (qAi 0 j.toNat)))
  | _=>M.bad
 | .rng2 a b,σ=>(den a σ).bind fun x=>(den b σ).bind fun y=>match x,y with
  | .int i,.int j=>M.when (qAI i∧qAI j) (M.ret (.row (qAi i (j-i).toNat)))
  | _,_=>M.bad
 | .rng3 a b c,σ=>(den a σ).bind fun x=>(den b σ).bind fun y=>(den c σ).bind fun z=>match x,y,z with
  | .int i,.int j,.int k=>M.when ((qAI i∧qAI j)∧0<k∧k<1073741824) (M.ret (.row (qCq i k (nS i j k))))
  | _,_,_=>M.bad
noncomputable def denP:CP→Env→M (Option Int)
 | .no,_=>M.ret none
 | .at e,σ=>(den e σ).bind intD
noncomputable def denT:CT→Env→M Bool
 | .val e,σ=>(den e σ).bind truth
 | .and a b,σ=>(denT a σ).bind fun x=>if x then denT b σ else M.ret false
 | .or a b,σ=>(denT a σ).bind fun x=>if x then M.ret true else denT b σ
 | .not a,σ=>(denT a σ).bind fun b=>M.ret (!b)
end
end
inductive SR where
 | nx (σ:Env) (h:AH) | rt (d:D) (h:AH) | bk (σ:Env) (h:AH) | ct (σ:Env) (h:AH) | exc (c:Nat) (σ:Env) (h:AH) | bad
noncomputable def SR.ofR {α:Type} (σ:Env):R α→(α→AH→SR)→SR
 | .ok a h,f=>f a h
 | .exc c h,_=>.exc c σ h
 | .bad,_=>.bad
noncomputable def SR.andThen:SR→(Env→AH→SR)→SR
 | .nx σ h,f=>f σ h
 | r,_=>r
noncomputable def tgSet (t:TG) (d:D) (σ:Env):Option Env:=match t with
 | .nm i=>some (σ.set i (some d))
 | .two i j=>match d with
  | .tup [a,b]=>some ((σ.set i (some a)).set j (some b))
  | _=>none
noncomputable def SR.calm:SR→SR
 | .exc _ _ _=>.bad
 | r=>r
noncomputable def SR.rtO:SR→SR
 | .rt d h=>.rt d h
 | _=>.bad
noncomputable def SR.catch:SR→(Nat→Env→AH→SR)→SR
 | .exc c σ h,f=>f c σ h
 | r,_=>r
noncomputable def SR.turn:SR→(Env→AH→SR)→SR
 | .nx σ h,f=>f σ h
 | .ct σ h,f=>f σ h
 | .bk σ h,_=>.nx σ h
 | .exc _ _ _,_=>.bad
 | r,_=>r
noncomputable def qAR (t:TG) (b:Env→AH→SR) (x:D) (σ:Env) (h:AH):SR:=match tgSet t x σ with
 | some σ'=>b σ' h
 | none=>.bad
noncomputable def qBB (step:D→Env→AH→SR):List D→Env→AH→SR
 | [],σ,h=>.nx σ h
 | x::xs,σ,h=>(step x σ h).turn (qBB step xs)
noncomputable def qBh (step:D→Env→AH→SR) (i:Nat):Nat→Nat→Env→AH→SR
 | 0,_,_,_=>.bad
 | n+1,k,σ,h=>match getL h i with
  | none=>.bad
  | some xs=>match xs[k]? with
   | none=>.nx σ h
   | some x=>(step x σ h).turn (qBh step i n (k+1))
noncomputable def forIt (step:D→Env→AH→SR):It→Env→AH→SR
 | .row xs,σ,h=>qBB step xs σ h
 | .live i,σ,h=>qBh step i (liveN h i) 0 σ h
noncomputable def forEn (step:D→Env→AH→SR) (i:Nat):Nat→Nat→Env→AH→SR
 | 0,_,_,_=>.bad
 | n+1,k,σ,h=>match getL h i with
  | none=>.bad
  | some xs=>match xs[k]? with
   | none=>.nx σ h
   | some x=>(step (.tup [.int k,x]) σ h).turn (forEn step i n (k+1))
noncomputable def qBV (c:Env→M Bool) (step:Env→AH→SR):Nat→Env→AH→SR
 | 0,_,_=>.bad
 | n+1,σ,h=>match c σ h with
  | .ok b h1=>if b then (step σ h1).turn (qBV c step n) else .nx σ h1
  | _=>.bad
section
variable (F:Nat→List D→M D) (B:Nat)
mutual
noncomputable def denS:CS→Env→AH→SR
 | .skip,σ,h=>.nx σ h
 | .opq,_,_=>.bad
 | .seq a b,σ,h=>(denS a σ h).andThen (denS b)
 | .set t e,σ,h=>SR.ofR σ (den F e σ h) fun d h1=>match tgSet t d σ with
  | some σ'=>.nx σ' h1
  | none=>.bad
 | .exp e,σ,h=>SR.ofR σ (den F e σ h) fun _ h1=>.nx σ h1
 | .ret e,σ,h=>SR.ofR σ (den F e σ h) fun d h1=>.rt d h1
 | .retN,_,h=>.rt .non h
 | .ite c a b,σ,h=>SR.ofR σ (denT F c σ h) fun k h1=>if k then denS a σ h1 else denS b σ h1
 | .fori t it b,σ,h=>SR.ofR σ (denI F it σ h).calm fun r h1=>forIt (qAR t (denS b)) r σ h1
 | .forE i j e b,σ,h=>SR.ofR σ (den F e σ h).calm fun d h1=>match d with
  | .ref k=>forEn (qAR (.two i j) (denS b)) k (liveN h1 k) 0 σ h1
  | _=>.bad
 | .whil c b,σ,h=>qBV (denT F c) (denS b) B σ h
 | .brk,σ,h=>.bk σ h
 | .cnt,σ,h=>.ct σ h
 | .raise c,σ,h=>.exc c σ h
 | .setF a k cs e,σ,h=>SR.ofR σ (den F e σ h) fun d h1=>SR.ofR σ ((den F a σ).bind (setFD k cs d) h1) fun _ h2=>.nx σ h2
 | .setIx a i e,σ,h=>SR.ofR σ (den F e σ h) fun d h1=>SR.ofR σ ((den F a σ).bind (fun x=>(den F i σ).bind fun y=>qIG d x y) h1) fun _ h2=>.nx σ h2
 | .tryx b hs,σ,h=>(denS b σ h).catch fun c σ' h'=>denH hs c σ' h'
noncomputable def denH:CH→Nat→Env→AH→SR
 | .nil,_,_,_=>.bad
 | .cons cs k r,c,σ,h=>if cs.contains c then (denS k σ h).calm else denH r c σ h
 | .as cs i k r,c,σ,h=>if cs.contains c then (denS k (σ.set i (some (.ref h.length))) (h++[.xc c])).rtO else denH r c σ h
end
end
structure Fn where
 ar:Nat
 sl:Nat
 body:CS
noncomputable def fin:SR→R D
 | .nx _ h'=>.ok .non h'
 | .rt d h'=>.ok d h'
 | .exc c _ h'=>.exc c h'
 | _=>.bad
noncomputable def runFn (F:Nat→List D→M D) (B:Nat) (f:Fn) (as:List D):M D:=fun h =>
 if as.length=f.ar then fin (denS F B f.body (as.map some++List.replicate (f.sl-f.ar) none) h) else .bad
noncomputable def callN (fs:List Fn) (B:Nat):Nat→Nat→List D→M D
 | 0,_,_=>M.bad
 | n+1,f,as=>match fs[f]? with
  | some fn=>runFn (callN fs B n) B fn as
  | none=>M.bad
end Fy
set_option Elab.async false
set_option linter.all false
namespace Fy
theorem M.bind_eq {α β:Type} (m:M α) (f:α→M β) (h:AH):M.bind m f h=(m h).bind f:=(rfl)
theorem R.bind_ok {α β:Type} (a:α) (h:AH) (f:α→AH→R β):R.bind (.ok a h) f=f a h:=(rfl)
theorem R.bind_exc {α β:Type} (c:Nat) (h:AH) (f:α→AH→R β):R.bind (.exc c h) f=.exc c h:=(rfl)
theorem R.bind_bad {α β:Type} (f:α→AH→R β):R.bind .bad f=.bad:=(rfl)
theorem M.ret_eq {α:Type} (a:α) (h:AH):M.ret a h=.ok a h:=(rfl)
theorem M.bad_eq {α:Type} (h:AH):(M.bad:M α) h=.bad:=(rfl)
theorem qLO {α:Type} (σ:Env) (a:α) (h:AH) (f:α→AH→SR):SR.ofR σ (.ok a h) f=f a h:=(rfl)
theorem qMJ {α:Type} (σ:Env) (c:Nat) (h:AH) (f:α→AH→SR):SR.ofR σ (.exc c h) f=.exc c σ h:=(rfl)
theorem qMK {α:Type} (σ:Env) (f:α→AH→SR):SR.ofR σ .bad f=.bad:=(rfl)
theorem qLj {α:Type} (c:Prop) [Decidable c] (m:M α) (h:AH):M.when c m h=if c then m h else .bad:=(rfl)
end Fy
namespace Fy
end Fy
namespace Fy
theorem qGs (f:Env→AH→SR):SR.andThen .bad f=.bad:=(rfl)
theorem qEo (σ:Env) (h:AH) (f:Env→AH→SR):SR.andThen (.nx σ h) f=f σ h:=(rfl)
theorem qHz (d:D) (h:AH) (f:Env→AH→SR):SR.andThen (.rt d h) f=.rt d h:=(rfl)
theorem qH1 (σ:Env) (h:AH) (f:Env→AH→SR):SR.andThen (.bk σ h) f=.bk σ h:=(rfl)
theorem qH0 (σ:Env) (h:AH) (f:Env→AH→SR):SR.andThen (.ct σ h) f=.ct σ h:=(rfl)
theorem qGr (c:Nat) (σ:Env) (h:AH) (f:Env→AH→SR):SR.andThen (.exc c σ h) f=.exc c σ h:=(rfl)
theorem qLq (σ:Env) (h:AH) (f:Env→AH→SR):SR.turn (.nx σ h) f=f σ h:=(rfl)
theorem qLr (σ:Env) (h:AH) (f:Env→AH→SR):SR.turn (.ct σ h) f=f σ h:=(rfl)
theorem qLs (σ:Env) (h:AH) (f:Env→AH→SR):SR.turn (.bk σ h) f=.nx σ h:=(rfl)
theorem qLp (d:D) (h:AH) (f:Env→AH→SR):SR.turn (.rt d h) f=.rt d h:=(rfl)
theorem qJw (c:Nat) (σ:Env) (h:AH) (f:Env→AH→SR):SR.turn (.exc c σ h) f=.bad:=(rfl)
theorem qAv (i:Nat) (b:Env→AH→SR) (x:D) (σ:Env) (h:AH):qAR (.nm i) b x σ h=b (σ.set i (some x)) h:=(rfl)
theorem qDC (i j:Nat) (b:Env→AH→SR) (x y:D) (σ:Env) (h:AH):qAR (.two i j) b (.tup [x,y]) σ h=b ((σ.set i (some x)).set j (some y)) h:=(rfl)
theorem qGR {i j:Int} (h:-18446744073709551616<i∧i<18446744073709551616):mulOk i j:=.inl h
end Fy
namespace Fy
theorem qJ5 (σ:Env) (h:AH):SR.calm (.nx σ h)=.nx σ h:=(rfl)
theorem qJ4 (d:D) (h:AH):SR.calm (.rt d h)=.rt d h:=(rfl)
theorem qIh (m i:Nat) (h:AH):mclsD m (.ref i) h=(match h[i]? with | some (.ins c fs)=>if (getN m fs).isNone then .ok c h else .bad | _=>.bad):=(rfl)
theorem qIH (k:Nat) (cs:List Nat) (d:D) (i:Nat) (h:AH):setFD k cs d (.ref i) h=(match h[i]? with | some (.ins c fs)=>if cs.contains c=true∧fs.length<1000 then .ok () (h.set i (.ins c (putN k d fs))) else .bad | _=>.bad):=(rfl)
theorem qHe (d:D) (k:Nat) (j:Int) (h:AH):qIG d (.ref k) (.int j) h=(match h[k]? with | some (.lst xs)=>(match ixN xs.length j with | some p=>.ok () (h.set k (.lst (xs.set p d))) | none=>.bad) | _=>putKD d k (.int j) h):=(rfl)
theorem qHd (d:D) (k:Nat) (x:Tx) (h:AH):qIG d (.ref k) (.str x) h=putKD d k (.str x) h:=(rfl)
theorem qOQ (d:D) (h:AH):SR.rtO (.rt d h)=.rt d h:=(rfl)
theorem qK4 (σ:Env) (h:AH) (f:Nat→Env→AH→SR):SR.catch (.nx σ h) f=.nx σ h:=(rfl)
theorem qK3 (d:D) (h:AH) (f:Nat→Env→AH→SR):SR.catch (.rt d h) f=.rt d h:=(rfl)
theorem qJg (c:Nat) (σ:Env) (h:AH) (f:Nat→Env→AH→SR):SR.catch (.exc c σ h) f=f c σ h:=(rfl)
theorem qM8:fin .bad=.bad:=(rfl)
theorem qPM (σ:Env) (h:AH):fin (.nx σ h)=.ok .non h:=(rfl)
theorem qPL (d:D) (h:AH):fin (.rt d h)=.ok d h:=(rfl)
theorem qM7 (c:Nat) (σ:Env) (h:AH):fin (.exc c σ h)=.exc c h:=(rfl)
end Fy
namespace Fy
theorem qCz (I:Nat→Env→AH→Prop) (step:D→Env→AH→SR):∀ (xs:List D) (k:Nat) (σ:Env) (h:AH),I k σ h →
    (∀ j x σ h,xs[j]?=some x→I (k+j) σ h→∃ σ' h',step x σ h=.nx σ' h'∧I (k+j+1) σ' h')→∃ σ' h',qBB step xs σ h=.nx σ' h'∧I (k+xs.length) σ' h'
  | [],k,σ,h,i0,_=>⟨σ,h,rfl,i0⟩
  | x::xs,k,σ,h,i0,H=>by
    obtain ⟨σ1,h1,e1,i1⟩:=H 0 x σ h rfl i0
    obtain ⟨σ2,h2,e2,i2⟩:=qCz I step xs (k+1) σ1 h1 i1 fun j y σ h hy i=>by
      have:=H (j+1) y σ h (by simpa using hy) (by rw [show k+(j+1)=k+1+j by omega];exact i)
      rwa [show k+(j+1)=k+1+j by omega] at this
    refine ⟨σ2,h2,?_,by rw [List.length_cons,show k+(xs.length+1)=k+1+xs.length by omega];exact i2⟩
    rw [qBB,e1]
    exact e2
theorem qEj (I:Nat→Env→AH→Prop) (step:D→Env→AH→SR) (i:Nat) (xs:List D) (hg:∀ k σ h,I k σ h→getL h i=some xs)
    (H:∀ j x σ h,xs[j]?=some x→I j σ h→∃ σ' h',step x σ h=.nx σ' h'∧I (j+1) σ' h') :
    ∀ (n k:Nat) (σ:Env) (h:AH),n+k=xs.length+1→k≤xs.length→I k σ h→∃ σ' h',qBh step i n k σ h=.nx σ' h'∧I xs.length σ' h'
  | 0,k,σ,h,hn,hk,i0=>by omega
  | n+1,k,σ,h,hn,hk,i0=>by
    unfold qBh
    rw [hg k σ h i0]
    simp only
    by_cases hlt:k<xs.length
    · have e:xs[k]?=some xs[k]:=by simp [hlt]
      rw [e]
      simp only
      obtain ⟨σ1,h1,e1,i1⟩:=H k _ σ h e i0
      rw [e1]
      exact qEj I step i xs hg H n (k+1) σ1 h1 (by omega) hlt i1
    · have e:k=xs.length:=by omega
      subst e
      have e2:xs[xs.length]?=none:=by simp
      rw [e2]
      exact ⟨σ,h,rfl,i0⟩
theorem qHL (I:Nat→Env→AH→Prop) (step:D→Env→AH→SR) (i:Nat) (xs:List D) (hg:∀ k σ h,I k σ h→getL h i=some xs)
    (H:∀ j x σ h,xs[j]?=some x→I j σ h→∃ σ' h',step (.tup [.int j,x]) σ h=.nx σ' h'∧I (j+1) σ' h') :
    ∀ (n k:Nat) (σ:Env) (h:AH),n+k=xs.length+1→k≤xs.length→I k σ h→∃ σ' h',forEn step i n k σ h=.nx σ' h'∧I xs.length σ' h'
  | 0,k,σ,h,hn,hk,i0=>by omega
  | n+1,k,σ,h,hn,hk,i0=>by
    unfold forEn
    rw [hg k σ h i0]
    simp only
    by_cases hlt:k<xs.length
    · have e:xs[k]?=some xs[k]:=by simp [hlt]
      rw [e]
      simp only
      obtain ⟨σ1,h1,e1,i1⟩:=H k _ σ h e i0
      rw [e1]
      exact qHL I step i xs hg H n (k+1) σ1 h1 (by omega) hlt i1
    · have e:k=xs.length:=by omega
      subst e
      have e2:xs[xs.length]?=none:=by simp
      rw [e2]
      exact ⟨σ,h,rfl,i0⟩
theorem qJF (I:Nat→Env→AH→Prop) (step:D→Env→AH→SR) (i:Nat) (xs:List D) (σ:Env) (h:AH) (i0:I 0 σ h) (hg:∀ k σ h,I k σ h→getL h i=some xs)
    (H:∀ j x σ h,xs[j]?=some x→I j σ h→∃ σ' h',step (.tup [.int j,x]) σ h=.nx σ' h'∧I (j+1) σ' h'):∃ σ' h',forEn step i (liveN h i) 0 σ h=.nx σ' h'∧I xs.length σ' h':=by
  unfold liveN
  rw [hg 0 σ h i0]
  exact qHL I step i xs hg H _ 0 σ h rfl (Nat.zero_le _) i0
theorem qHt (I:Nat→Env→AH→Prop) (step:D→Env→AH→SR) (i:Nat) (xs:List D) (σ:Env) (h:AH) (i0:I 0 σ h) (hg:∀ k σ h,I k σ h→getL h i=some xs)
    (H:∀ j x σ h,xs[j]?=some x→I j σ h→∃ σ' h',step x σ h=.nx σ' h'∧I (j+1) σ' h'):∃ σ' h',qBh step i (liveN h i) 0 σ h=.nx σ' h'∧I xs.length σ' h':=by
  unfold liveN
  rw [hg 0 σ h i0]
  exact qEj I step i xs hg H _ 0 σ h rfl (Nat.zero_le _) i0
theorem qDk {lo:Int} {n j:Nat} {x:D} (h:(qAi lo n)[j]?=some x):j<n∧x=.int (lo+j):=by
 unfold qAi at h
 rw [List.getElem?_map] at h
 by_cases hj:j<n
 ·rw [List.getElem?_range hj] at h
  exact ⟨hj,(Option.some.inj h).symm⟩
 ·rw [List.getElem?_eq_none (by simp;omega)] at h
  cases h
theorem qCp (lo:Int) (n:Nat):(qAi lo n).length=n:=by
 unfold qAi
 simp
end Fy
namespace Fy
theorem qDp (f:D→M (Option D)) (g:D→D) (h:AH):∀ xs:List D,(∀ x∈xs,f x h=.ok (some (g x)) h)→qBX f xs h=.ok (xs.map g) h
 | [],_=>rfl
 | x::xs,H=>by
  have h1:=H x (List.mem_cons_self ..)
  have h2:=qDp f g h xs fun y hy=>H y (List.mem_cons_of_mem _ hy)
  unfold qBX
  simp only [M.bind_eq,h1,R.bind_ok,h2,M.ret_eq,List.map_cons]
end Fy
namespace Fy
theorem qIj (f:D→M (Option D)) (xs:List D) (h:AH):mapIt f (.row xs) h=if xs.length<16777216 then qBX f xs h else .bad:=(rfl)
theorem qHh (f:D→M (Option D)) (i:Nat) (h:AH):mapIt f (.live i) h=if liveN h i<16777216 then qAm f i (liveN h i) 0 h else .bad:=(rfl)
theorem qNO {α:Type} (a:α) (h:AH):(R.ok a h).calm=.ok a h:=(rfl)
theorem qNP {α:Type} (m:M α) (h:AH):M.calm m h=(m h).calm:=(rfl)
theorem qCT (a c:Nat):decide ((a:Int)≤(c:Int))=decide (a≤c):=by
 rw [Bool.eq_iff_iff]
 simp
theorem qBP (a c:Nat):decide ((a:Int)<(c:Int))=decide (a<c):=by
 rw [Bool.eq_iff_iff]
 simp
theorem qDL (a c:Nat):((a:Int) == (c:Int))=decide (a=c):=by
 rw [Bool.eq_iff_iff]
 simp
 omega
end Fy
namespace Fy
theorem qDu {n k:Nat} (h:k<n):ixN n (k:Int)=some k:=by
 unfold ixN
 rw [if_pos (by omega),if_pos (by omega),Int.toNat_natCast]
end Fy
set_option Elab.async false
set_option linter.all false
namespace Fy
theorem qNl (i:Int) (h:AH):unD .neg (.int i) h=(.ok (.int (-i)) h):=(rfl)
theorem qNo (x:Tx) (h:AH):unD .len (.str x) h=(if x.length≤16777216 then .ok (.int x.length) h else .bad):=(rfl)
theorem qNn (xs:List D) (h:AH):unD .len (.tup xs) h=(.ok (.int xs.length) h):=(rfl)
theorem qNm (i:Nat) (h:AH):unD .len (.ref i) h=(match getL h i with | some xs=>.ok (.int xs.length) h | none=>.bad):=(rfl)
theorem qNe (i:Int) (h:AH):unD .str (.int i) h=(if i.natAbs.log2<1920 then .ok (.str (txI i)) h else .bad):=(rfl)
theorem qNy (i:Int) (h:AH):unD .int (.int i) h=(.ok (.int i) h):=(rfl)
theorem qNx (b:Bool) (h:AH):unD .int (.bl b) h=(.ok (.int (b2i b)) h):=(rfl)
theorem qNw (x:Tx) (h:AH):unD .int (.str x) h=(if x≠[]∧x.length≤640∧isDig x=true then .ok (.int (digV x)) h else .bad):=(rfl)
theorem qNg (c:Nat) (h:AH):unD .ord (.str [c]) h=(.ok (.int c) h):=(rfl)
theorem qJu (xs:List D) (h:AH):unD .tuple (.tup xs) h=(.ok (.tup xs) h):=(rfl)
theorem qJt (i:Nat) (h:AH):unD .tuple (.ref i) h=(match getL h i with | some xs=>.ok (.tup xs) h | none=>.bad):=(rfl)
theorem qLo (xs:List D) (h:AH):unD .list (.tup xs) h=(newL xs h):=(rfl)
theorem qLn (i:Nat) (h:AH):unD .list (.ref i) h=(match getL h i with | some xs=>newL xs h | none=>.bad):=(rfl)
theorem qN1 (i:Nat) (h:AH):unD .all (.ref i) h=(match (getL h i).bind allB with | some b=>.ok (.bl b) h | none=>.bad):=(rfl)
theorem qN0 (i:Nat) (h:AH):unD .any (.ref i) h=(match (getL h i).bind anyB with | some b=>.ok (.bl b) h | none=>.bad):=(rfl)
theorem qJs (x:Tx) (h:AH):unD .upper (.str x) h=(if x.length≤1000000∧x.all (fun c=>decide (c<128))=true then .ok (.str (x.map upC)) h else .bad):=(rfl)
theorem qNd (i:Nat) (h:AH):unD .sum (.ref i) h=(match (getL h i).bind qCA with | some xs=>.ok (.int xs.sum) h | none=>.bad):=(rfl)
theorem qH5 (i:Nat) (h:AH):unD .sorted (.ref i) h=(match (getL h i).bind qCA with | some xs=>if xs.length<64 then newL ((sortZ xs).map .int) h else .bad | none=>.bad):=(rfl)
theorem qLm (j:Int) (h:AH):unD .lrng (.int j) h=(if qAI j then newL (qAi 0 j.toNat) h else .bad):=(rfl)
theorem qNf (i:Nat) (h:AH):unD .rev (.ref i) h=(match getL h i with | some xs=>newL xs.reverse h | none=>.bad):=(rfl)
theorem qJv (i:Nat) (h:AH):unD .clear (.ref i) h=(match h[i]? with | some (.lst _)=>.ok .non (h.set i (.lst [])) | _=>.bad):=(rfl)
theorem qNp (cs xl:List Nat) (i:Nat) (h:AH):unD (.isx cs xl) (.ref i) h=(match h[i]? with | some (.xc c)=>if xl.contains c then .ok (.bl (cs.contains c)) h else .bad | _=>.bad):=(rfl)
theorem qNz (k i:Nat) (h:AH):unD (.fld k) (.ref i) h=(match h[i]? with | some (.ins _ fs)=>(match getN k fs with | some d=>.ok d h | none=>.bad) | _=>.bad):=(rfl)
theorem qNr (d:D) (h:AH):unD .isN d h=(.ok (.bl (match d with | .non=>true | _=>false)) h):=(rfl)
theorem qLl (d:D) (h:AH):unD .notN d h=(.ok (.bl (match d with | .non=>false | _=>true)) h):=(rfl)
theorem qNv (b c:Bool) (h:AH):unD (.isB b) (.bl c) h=(.ok (.bl (b == c)) h):=(rfl)
theorem qNu (b:Bool) (h:AH):unD (.isB b) (.non) h=(.ok (.bl false) h):=(rfl)
theorem qNt (b:Bool) (i:Int) (h:AH):unD (.isB b) (.int i) h=(.ok (.bl false) h):=(rfl)
theorem qNs (b:Bool) (x:Tx) (h:AH):unD (.isB b) (.str x) h=(.ok (.bl false) h):=(rfl)
theorem qNk (b c:Bool) (h:AH):unD (.nsB b) (.bl c) h=(.ok (.bl (!(b == c))) h):=(rfl)
theorem qNj (b:Bool) (h:AH):unD (.nsB b) (.non) h=(.ok (.bl true) h):=(rfl)
theorem qNi (b:Bool) (i:Int) (h:AH):unD (.nsB b) (.int i) h=(.ok (.bl true) h):=(rfl)
theorem qNh (b:Bool) (x:Tx) (h:AH):unD (.nsB b) (.str x) h=(.ok (.bl true) h):=(rfl)
theorem qNq (t:Ty) (d:D) (h:AH):unD (.isi t) d h=(match isiD h t d with | some b=>.ok (.bl b) h | none=>.bad):=(rfl)
theorem qOm (i j:Int) (h:AH):biD .add (.int i) (.int j) h=(.ok (.int (i+j)) h):=(rfl)
theorem qOl (a b:Tx) (h:AH):biD .add (.str a) (.str b) h=(if a.length+b.length≤16777216 then .ok (.str (a++b)) h else .bad):=(rfl)
theorem qOk (a b:List D) (h:AH):biD .add (.tup a) (.tup b) h=(if a.length+b.length≤16777216 then .ok (.tup (a++b)) h else .bad):=(rfl)
theorem qOj (i j:Nat) (h:AH):biD .add (.ref i) (.ref j) h=(match h[i]?,h[j]? with | some (.lst xs),some (.lst ys)=>newL (xs++ys) h | _,_=>.bad):=(rfl)
theorem qOd (i j:Int) (h:AH):biD .sub (.int i) (.int j) h=(.ok (.int (i-j)) h):=(rfl)
theorem qOg (i j:Int) (h:AH):biD .mul (.int i) (.int j) h=(if mulOk i j then .ok (.int (i*j)) h else .bad):=(rfl)
theorem qKD (a:Tx) (c:Nat) (h:AH):biD .split (.str a) (.str [c]) h=(if c<256∧a.length≤1000000 then newL ((qG5 a (posC c 0 a)).map .str) h else .bad):=(rfl)
theorem qML (a:Tx) (c:Nat) (h:AH):biD .part (.str a) (.str [c]) h=(if a.length≤1000000 then .ok (.tup ((partT a c).map .str)) h else .bad):=(rfl)
theorem qKE (a:Tx) (c:Nat) (h:AH):biD .rpart (.str a) (.str [c]) h=(if a.length≤1000000 then .ok (.tup ((qLI a c).map .str)) h else .bad):=(rfl)
theorem qOi (k:Nat) (i:Int) (h:AH):biD .get (.ref k) (.int i) h=(getK k (.int i) h):=(rfl)
theorem qOf (k:Nat) (i:Int) (h:AH):biD .pop (.ref k) (.int i) h=(popK k (.int i) h):=(rfl)
theorem qMO (i j:Int) (h:AH):biD .lrng (.int i) (.int j) h=(if qAI i∧qAI j then newL (qAi i (j-i).toNat) h else .bad):=(rfl)
theorem qMP (k:Nat) (i:Int) (h:AH):biD .lpop (.ref k) (.int i) h=(lpopK k i h):=(rfl)
theorem qIV (a b:Tx) (h:AH):biD .starts (.str a) (.str b) h=(.ok (.bl (b.isPrefixOf a)) h):=(rfl)
theorem qKH (k:Nat) (b:Bool) (h:AH):biD .index (.ref k) (.bl b) h=(match (getL h k).bind qEA with | some bs=>if bs.findIdx (· == b)<bs.length then .ok (.int (bs.findIdx (· == b))) h else .bad | none=>.bad):=(rfl)
theorem qMW (i j:Int) (h:AH):biD .fdiv (.int i) (.int j) h=(if 0<j∧j<1073741824 then .ok (.int (i / j)) h else .bad):=(rfl)
theorem qOh (i j:Int) (h:AH):biD .mod (.int i) (.int j) h=(if 0<j then .ok (.int (i % j)) h else .bad):=(rfl)
theorem qOe (i j:Int) (h:AH):biD .pow (.int i) (.int j) h=(if 0≤j∧j≤1000000∧i.natAbs<18446744073709551616 then .ok (.int (i ^ j.toNat)) h else .bad):=(rfl)
theorem o_eq1 (x y:D) (h:AH):biD .eq x y h=(match eqTop h x y with | some b=>.ok (.bl b) h | none=>.bad):=(rfl)
theorem o_ne1 (x y:D) (h:AH):biD .ne x y h=(match eqTop h x y with | some b=>.ok (.bl (!b)) h | none=>.bad):=(rfl)
theorem o_lt1 (i j:Int) (h:AH):biD .lt (.int i) (.int j) h=(.ok (.bl (decide (i<j))) h):=(rfl)
theorem o_le1 (i j:Int) (h:AH):biD .le (.int i) (.int j) h=(.ok (.bl (decide (i≤j))) h):=(rfl)
theorem o_gt1 (i j:Int) (h:AH):biD .gt (.int i) (.int j) h=(.ok (.bl (decide (j<i))) h):=(rfl)
theorem o_ge1 (i j:Int) (h:AH):biD .ge (.int i) (.int j) h=(.ok (.bl (decide (j≤i))) h):=(rfl)
theorem qMU (c:Nat) (b:Tx) (h:AH):biD .isin (.str [c]) (.str b) h=(.ok (.bl (b.contains c)) h):=(rfl)
theorem qMT (a:Int) (i:Nat) (h:AH):biD .isin (.int a) (.ref i) h=(match (getL h i).bind qCA with | some xs=>.ok (.bl (xs.contains a)) h | none=>hasK i (.int a) h):=(rfl)
theorem qMS (a:Tx) (xs:List D) (h:AH):biD .isin (.str a) (.tup xs) h=(match qAw xs with | some ys=>.ok (.bl (ys.contains a)) h | none=>.bad):=(rfl)
theorem qMR (a:List D) (i:Nat) (h:AH):biD .isin (.tup a) (.ref i) h=(match (getL h i).bind (anyD fun x=>eqTop h x (.tup a)) with | some b=>.ok (.bl b) h | none=>.bad):=(rfl)
theorem qKG (a:Int) (i:Nat) (h:AH):biD .notin (.int a) (.ref i) h=(match (getL h i).bind qCA with | some xs=>.ok (.bl (!xs.contains a)) h | none=>.bad):=(rfl)
theorem qKF (c:Nat) (b:Tx) (h:AH):biD .notin (.str [c]) (.str b) h=(.ok (.bl (!b.contains c)) h):=(rfl)
theorem o_ix1 (xs:List D) (i:Int) (h:AH):biD .ix (.tup xs) (.int i) h=(match (ixN xs.length i).bind (xs[·]?) with | some d=>.ok d h | none=>.bad):=(rfl)
theorem o_ix2 (x:Tx) (i:Int) (h:AH):biD .ix (.str x) (.int i) h=(if x.length≤16777216 then (match (ixN x.length i).bind (x[·]?) with | some c=>.ok (.str [c]) h | none=>.bad) else .bad):=(rfl)
theorem o_ix3 (k:Nat) (i:Int) (h:AH):biD .ix (.ref k) (.int i) h=(match (getL h k).bind fun xs=>(ixN xs.length i).bind (xs[·]?) with | some d=>.ok d h | none=>ixK k (.int i) h):=(rfl)
theorem o_ix4 (k:Nat) (x:Tx) (h:AH):biD .ix (.ref k) (.str x) h=(ixK k (.str x) h):=(rfl)
theorem qMM (i j:Int) (h:AH):biD .min2 (.int i) (.int j) h=(.ok (.int (if j<i then j else i)) h):=(rfl)
theorem qMN (i j:Int) (h:AH):biD .max2 (.int i) (.int j) h=(.ok (.int (if j > i then j else i)) h):=(rfl)
theorem qMV (a:Tx) (c:Nat) (h:AH):biD .find (.str a) (.str [c]) h=(.ok (.int (findC a c)) h):=(rfl)
theorem qKC (x:Tx) (n:Int) (h:AH):biD .zfill (.str x) (.int n) h=(if 0≤n∧n≤1000∧isDig x=true∧x.length≤1000 then .ok (.str (List.replicate (n.toNat-x.length) 48++x)) h else .bad):=(rfl)
theorem qMQ (x:Tx) (i:Nat) (h:AH):biD .join (.str x) (.ref i) h=(match (getL h i).bind qAw with | some xs=>if joinN x xs≤16777216 then .ok (.str (joinT x xs)) h else .bad | none=>.bad):=(rfl)
theorem qIX (k:Nat) (d:D) (h:AH):biD .append (.ref k) d h=(match h[k]? with | some (.lst xs)=>if xs.length<16777216 then .ok .non (h.set k (.lst (xs++[d]))) else .bad | _=>.bad):=(rfl)
theorem qIW (k:Nat) (d:D) (h:AH):biD .remove (.ref k) d h=(match h[k]? with | some (.lst xs)=>(match remD (fun x=>eqTop h x d) xs with | some ys=>.ok .non (h.set k (.lst ys)) | none=>.bad) | _=>.bad):=(rfl)
theorem t_non  (h:AH):truth .non h=(.ok false h):=(rfl)
theorem t_bl (b:Bool) (h:AH):truth (.bl b) h=(.ok b h):=(rfl)
theorem t_int (i:Int) (h:AH):truth (.int i) h=(.ok (i != 0) h):=(rfl)
theorem t_str (x:Tx) (h:AH):truth (.str x) h=(if x.length≤16777216 then .ok (!x.isEmpty) h else .bad):=(rfl)
theorem t_tup (xs:List D) (h:AH):truth (.tup xs) h=(.ok (!xs.isEmpty) h):=(rfl)
theorem t_ref (i:Nat) (h:AH):truth (.ref i) h=(match getL h i with | some xs=>.ok (!xs.isEmpty) h | none=>.bad):=(rfl)
theorem qPD (x:Tx) (h:AH):itOf (.str x) h=(.ok (.row (x.map fun c=>.str [c])) h):=(rfl)
theorem qPC (xs:List D) (h:AH):itOf (.tup xs) h=(.ok (.row xs) h):=(rfl)
theorem qPE (i:Nat) (h:AH):itOf (.ref i) h=(match getL h i with | some _=>.ok (.live i) h | none=>.bad):=(rfl)
theorem qL6 (x:Tx) (l u:Option Int) (h:AH):slD (.str x) l u h=(if x.length≤16777216 then .ok (.str (cutX x l u)) h else .bad):=(rfl)
theorem qL5 (x:List D) (l u:Option Int) (h:AH):slD (.tup x) l u h=(.ok (.tup (cutX x l u)) h):=(rfl)
theorem qL7 (i:Nat) (l u:Option Int) (h:AH):slD (.ref i) l u h=(match getL h i with | some xs=>newL (cutX xs l u) h | none=>.bad):=(rfl)
theorem qIg (i:Nat) (h:AH):meOk .append (.ref i) h=(match getL h i with | some _=>.ok () h | none=>.bad):=(rfl)
theorem qIf (i:Nat) (h:AH):meOk .remove (.ref i) h=(match getL h i with | some _=>.ok () h | none=>.bad):=(rfl)
theorem qKN (x:Tx) (h:AH):meOk .zfill (.str x) h=.ok () h:=(rfl)
theorem qMf (x:Tx) (h:AH):meOk .join (.str x) h=.ok () h:=(rfl)
theorem qMg (x:Tx) (h:AH):meOk .find (.str x) h=.ok () h:=(rfl)
theorem qOr (i:Nat) (h:AH):meOk .get (.ref i) h=(match h[i]? with | some (.dct _)=>.ok () h | _=>.bad):=(rfl)
theorem qOq (i:Nat) (h:AH):meOk .pop (.ref i) h=(match h[i]? with | some (.dct _)=>.ok () h | _=>.bad):=(rfl)
theorem qMe (i:Nat) (h:AH):meOk .lpop (.ref i) h=(match getL h i with | some _=>.ok () h | none=>.bad):=(rfl)
theorem qIe (x:Tx) (h:AH):meOk .starts (.str x) h=.ok () h:=(rfl)
theorem qKQ (i:Nat) (h:AH):meOk .index (.ref i) h=(match getL h i with | some _=>.ok () h | none=>.bad):=(rfl)
theorem qKO (x:Tx) (h:AH):meOk .split (.str x) h=.ok () h:=(rfl)
theorem qMd (x:Tx) (h:AH):meOk .part (.str x) h=.ok () h:=(rfl)
theorem qKP (x:Tx) (h:AH):meOk .rpart (.str x) h=.ok () h:=(rfl)
theorem qJ3 (a:Tx) (c:Nat) (k:Int) (h:AH):splmD (.str a) (.str [c]) (.int k) h=(if (c<256∧a.length≤1000000)∧0≤k∧k≤1000000 then newL ((qG5 a ((posC c 0 a).take k.toNat)).map .str) h else .bad):=(rfl)
theorem qIE (k:Nat) (i:Int) (d:D) (h:AH):setdD (.ref k) (.int i) d h=setdK k (.int i) d h:=(rfl)
theorem qKe (i:Int) (h:AH):intD (.int i) h=.ok (some i) h:=(rfl)
theorem qMv (t:Ty)  (h:AH):isiD h t .non=(some false):=(rfl)
theorem qPH (t:Ty) (b:Bool) (h:AH):isiD h t (.bl b)=(some (t == .bool || t == .int)):=(rfl)
theorem qMw (t:Ty) (i:Int) (h:AH):isiD h t (.int i)=(some (t == .int)):=(rfl)
theorem qMt (t:Ty) (x:Tx) (h:AH):isiD h t (.str x)=(some (t == .str)):=(rfl)
theorem qMs (t:Ty) (xs:List D) (h:AH):isiD h t (.tup xs)=(some (t == .tuple)):=(rfl)
theorem qMu (t:Ty) (i:Nat) (h:AH):isiD h t (.ref i)=((getL h i).map fun _=>t == .list):=(rfl)
theorem qJQ  (h:AH):eqTop h .non .non=(some true):=(rfl)
theorem qKn (b2:Bool) (h:AH):eqTop h .non (.bl b2)=(some false):=(rfl)
theorem qJR (i2:Int) (h:AH):eqTop h .non (.int i2)=(some false):=(rfl)
theorem qJP (x2:Tx) (h:AH):eqTop h .non (.str x2)=(some false):=(rfl)
theorem qJO (t2:List D) (h:AH):eqTop h .non (.tup t2)=(some false):=(rfl)
theorem qKr (b1:Bool) (h:AH):eqTop h (.bl b1) .non=(some false):=(rfl)
theorem qM9 (b1:Bool) (b2:Bool) (h:AH):eqTop h (.bl b1) (.bl b2)=(some (b1 == b2)):=(rfl)
theorem qKs (b1:Bool) (i2:Int) (h:AH):eqTop h (.bl b1) (.int i2)=(some (b2i b1 == i2)):=(rfl)
theorem qKq (b1:Bool) (x2:Tx) (h:AH):eqTop h (.bl b1) (.str x2)=(some false):=(rfl)
theorem qKp (b1:Bool) (t2:List D) (h:AH):eqTop h (.bl b1) (.tup t2)=(some false):=(rfl)
theorem qJU (i1:Int) (h:AH):eqTop h (.int i1) .non=(some false):=(rfl)
theorem qKo (i1:Int) (b2:Bool) (h:AH):eqTop h (.int i1) (.bl b2)=(some (i1 == b2i b2)):=(rfl)
theorem qJV (i1:Int) (i2:Int) (h:AH):eqTop h (.int i1) (.int i2)=(some (i1 == i2)):=(rfl)
theorem qJT (i1:Int) (x2:Tx) (h:AH):eqTop h (.int i1) (.str x2)=(some false):=(rfl)
theorem qJS (i1:Int) (t2:List D) (h:AH):eqTop h (.int i1) (.tup t2)=(some false):=(rfl)
theorem qJM (x1:Tx) (h:AH):eqTop h (.str x1) .non=(some false):=(rfl)
theorem qKm (x1:Tx) (b2:Bool) (h:AH):eqTop h (.str x1) (.bl b2)=(some false):=(rfl)
theorem qJN (x1:Tx) (i2:Int) (h:AH):eqTop h (.str x1) (.int i2)=(some false):=(rfl)
theorem qJL (x1:Tx) (x2:Tx) (h:AH):eqTop h (.str x1) (.str x2)=(some (x1 == x2)):=(rfl)
theorem qJK (x1:Tx) (t2:List D) (h:AH):eqTop h (.str x1) (.tup t2)=(some false):=(rfl)
theorem qJI (t1:List D) (h:AH):eqTop h (.tup t1) .non=(some false):=(rfl)
theorem qKl (t1:List D) (b2:Bool) (h:AH):eqTop h (.tup t1) (.bl b2)=(some false):=(rfl)
theorem qJJ (t1:List D) (i2:Int) (h:AH):eqTop h (.tup t1) (.int i2)=(some false):=(rfl)
theorem qJH (t1:List D) (x2:Tx) (h:AH):eqTop h (.tup t1) (.str x2)=(some false):=(rfl)
theorem qJG (t1:List D) (t2:List D) (h:AH):eqTop h (.tup t1) (.tup t2)=(eqW (eqD h 39) t1 t2):=(rfl)
end Fy
set_option Elab.async false
set_option linter.all false
set_option maxRecDepth 100000
set_option maxHeartbeats 4000000
namespace Fy
open PySem PySem.Spec PyProof.Rows
open L2 (V Hp HO VK TE TT TA TS TI Cx Inv RelV Vals SqL SqT Rd upd qAA qAB PE PT PA PS PSs EP)
mutual
noncomputable def RepV (K:PySem.W.Frag) (ρ:List Addr) (H:Hp):D→V→Prop
 | .non,v=>v=.non
 | .bl b,v=>v=.bl b
 | .int i,v=>v=.int i
 | .str x,v=>v=.str ⟨x.toArray⟩
 | .tup xs,v=>∃ a vs,v=.ref a∧SqT K H a vs∧RepL K ρ H xs vs
 | .ref i,v=>∃ a,ρ[i]?=some a∧v=.ref a
noncomputable def RepL (K:PySem.W.Frag) (ρ:List Addr) (H:Hp):List D→List V→Prop
 | [],vs=>vs=[]
 | x::xs,vs=>∃ v r,vs=v::r∧RepV K ρ H x v∧RepL K ρ H xs r
end
noncomputable def KL (K:PySem.W.Frag) (a:Addr) (xs:List V):Prop :=
 ∃ (o:Obj) (its:Array Value) (n:Nat),K.lookup a=some o∧o.cls=.type "list"∧o.dict=none∧o.data=.seq its n∧its.size≤sizeLine∧Vals xs its.toList
noncomputable def ClsAt (K:PySem.W.Frag) (c:Nat) (C:Addr):Prop:=PySem.W.nsIn K mainGlobals (nmOf c)=some (some (.ref C))
noncomputable def xcO (a C:Addr):HO:=.ext fun h=>∃ o,h.get? a=some o∧o.cls=.ref C
noncomputable def RepF (K:PySem.W.Frag) (ρ:List Addr) (H:Hp) (C:Addr):List (Nat × D)→List (Str × V)→Prop
 | [],vs=>vs=[]
 | x::xs,vs=>∃ v r,vs=(nmOf x.1,v)::r∧x.1<256 ^ 60∧L2.NoAttr K C (nmOf x.1)∧RepV K ρ H x.2 v∧RepF K ρ H C xs r
noncomputable def kyV:Ky→L2.Key
 | .int i=>.inl i
 | .str x=>.inr ⟨x.toArray⟩
noncomputable def RepK (K:PySem.W.Frag) (ρ:List Addr) (H:Hp):List (Ky × D)→List (L2.Key × V)→Prop
 | [],vs=>vs=[]
 | x::xs,vs=>∃ v r,vs=(kyV x.1,v)::r∧RepV K ρ H x.2 v∧RepK K ρ H xs r
noncomputable def RepO (K:PySem.W.Frag) (ρ:List Addr) (H:Hp):O→Addr→Prop
 | .lst xs,a=>∃ vs,H a=some (.lst vs)∧RepL K ρ H xs vs
 | .rol xs,a=>∃ vs,((∃ o,H a=some (.frz o (.lst vs)))∨KL K a vs)∧RepL K ρ H xs vs
 | .ins c fs,a=>∃ C dx vs,ClsAt K c C∧L2.Cls K C∧H a=some (.ins C dx vs)∧RepF K ρ H C fs vs
 | .dct kvs,a=>∃ vs,H a=some (.dK vs)∧RepK K ρ H kvs vs
 | .xc c,a=>∃ C,ClsAt K c C∧H a=some (xcO a C)
noncomputable def mutO:O→Bool
 | .rol _=>false
 | .xc _=>false
 | _=>true
structure RepH (K:PySem.W.Frag) (ρ:List Addr) (h:AH) (H:Hp):Prop where
 len:ρ.length=h.length
 obj:∀ (i:Nat) (o:O),h[i]?=some o→∃ a,ρ[i]?=some a∧RepO K ρ H o a
 inj:∀ (i j:Nat) (a:Addr) (o o':O),h[i]?=some o→h[j]?=some o'→mutO o=true→mutO o'=true→ρ[i]?=some a→ρ[j]?=some a→i=j
noncomputable def Imm:HO→Bool
 | .tup _=>true
 | .frz _ _=>true
 | .ext _=>true
 | _=>false
structure Step (ρ:List Addr) (H:Hp) (ρ':List Addr) (H':Hp):Prop where
 pre:ρ <+: ρ'
 new:∀ a∈ρ',a∈ρ∨H a=none
 keep:∀ a o,H a=some o→(Imm o=true∨a∉ρ)→H' a=some o
theorem Step.refl (ρ:List Addr) (H:Hp):Step ρ H ρ H:=⟨List.prefix_refl _,fun _ h=>.inl h,fun _ _ h _=>h⟩
theorem Step.trans {ρ ρ1 ρ2:List Addr} {H H1 H2:Hp} (a:Step ρ H ρ1 H1) (b:Step ρ1 H1 ρ2 H2):Step ρ H ρ2 H2:=by
 refine ⟨a.pre.trans b.pre,fun x hx=>?_,fun x o h c=>b.keep x o (a.keep x o h c) (c.imp id fun n m=>?_)⟩
 ·rcases b.new x hx with h | h
  ·exact a.new x h
  ·by_cases m:x∈ρ
   ·exact .inl m
   ·cases q:H x with
    | none=>exact .inr rfl
    | some o =>
     rw [a.keep x o q (.inr m)] at h
     cases h
 ·rcases a.new x m with z | z
  ·exact n z
  ·rw [h] at z
   cases z
theorem Step.tup {ρ ρ':List Addr} {H H':Hp} (e:Step ρ H ρ' H') {a:Addr} {vs:List V} (h:Rd H a (.tup vs)):Rd H' a (.tup vs):=by
 rcases h with h | ⟨o,h⟩
 ·exact .inl (e.keep _ _ h (.inl rfl))
 ·exact .inr ⟨o,e.keep _ _ h (.inl rfl)⟩
theorem Step.sqt {K:PySem.W.Frag} {ρ ρ':List Addr} {H H':Hp} {a:Addr} {vs:List V} (e:Step ρ H ρ' H') (h:SqT K H a vs):SqT K H' a vs:=h.imp e.tup id
theorem qCe {ρ ρ':List Addr} (p:ρ <+: ρ') {i:Nat} {a:Addr} (h:ρ[i]?=some a):ρ'[i]?=some a:=by
 obtain ⟨t,rfl⟩:=p
 rw [List.getElem?_append_left (List.getElem?_eq_some_iff.mp h).1]
 exact h
section
variable {K:PySem.W.Frag} {ρ ρ':List Addr} {H H':Hp} {a:Addr}
mutual
theorem RepV.mono (e:Step ρ H ρ' H'):∀ (d:D) (v:V),RepV K ρ H d v→RepV K ρ' H' d v
 | .non,_,h=>h
 | .bl _,_,h=>h
 | .int _,_,h=>h
 | .str _,_,h=>h
 | .tup xs,v,⟨a,vs,h1,h2,h3⟩=>⟨a,vs,h1,e.sqt h2,RepL.mono e xs vs h3⟩
 | .ref _,_,⟨a,h1,h2⟩=>⟨a,qCe e.pre h1,h2⟩
theorem RepL.mono (e:Step ρ H ρ' H'):∀ (ds:List D) (vs:List V),RepL K ρ H ds vs→RepL K ρ' H' ds vs
 | [],_,h=>h
 | d::ds,_,⟨v,r,h1,h2,h3⟩=>⟨v,r,h1,RepV.mono e d v h2,RepL.mono e ds r h3⟩
end
theorem RepL.length:∀ {ds:List D} {vs:List V},RepL K ρ H ds vs→vs.length=ds.length
 | [],_,h=>by cases h;rfl
 | d::ds,_,⟨v,r,h1,_,h3⟩=>by subst h1;simp [RepL.length h3]
theorem RepL.get:∀ {ds:List D} {vs:List V} {i:Nat} {d:D},RepL K ρ H ds vs→ds[i]?=some d→∃ v,vs[i]?=some v∧RepV K ρ H d v
 | [],_,_,_,_,e=>by simp at e
 | x::ds,_,0,d,⟨v,r,h1,h2,_⟩,e=>by
  subst h1
  simp at e
  subst e
  exact ⟨v,rfl,h2⟩
 | x::ds,_,i+1,d,⟨v,r,h1,_,h3⟩,e=>by
  subst h1
  simpa using RepL.get (i:=i) h3 (by simpa using e)
theorem RepL.append:∀ {ds es:List D} {vs ws:List V},RepL K ρ H ds vs→RepL K ρ H es ws→RepL K ρ H (ds++es) (vs++ws)
 | [],_,_,_,h,k=>by cases h;exact k
 | x::ds,es,_,ws,⟨v,r,h1,h2,h3⟩,k=>by subst h1;exact ⟨v,r++ws,rfl,h2,RepL.append h3 k⟩
theorem RepL.drop:∀ {ds:List D} {vs:List V} (n:Nat),RepL K ρ H ds vs→RepL K ρ H (ds.drop n) (vs.drop n)
 | _,_,0,h=>h
 | [],_,n+1,h=>by cases h;exact rfl
 | x::ds,_,n+1,⟨v,r,h1,_,h3⟩=>by subst h1;exact RepL.drop n h3
theorem RepL.take:∀ {ds:List D} {vs:List V} (n:Nat),RepL K ρ H ds vs→RepL K ρ H (ds.take n) (vs.take n)
 | _,_,0,h=>by simp [RepL]
 | [],_,n+1,h=>by cases h;simp [RepL]
 | x::ds,_,n+1,⟨v,r,h1,h2,h3⟩=>by subst h1;exact ⟨v,r.take n,rfl,h2,RepL.take n h3⟩
theorem Step.fresh {p:Addr} {o:HO} (hp:H p=none):Step ρ H ρ (upd H p o) :=
 ⟨List.prefix_refl _,fun _ h=>.inl h,fun a ob h _=>by rw [qAB (L2.ne_of_none h hp)];exact h⟩
theorem Step.new1 {p:Addr} {o:HO} (hp:H p=none):Step ρ H (ρ++[p]) (upd H p o) :=
 ⟨List.prefix_append _ _,fun a h=>(List.mem_append.mp h).imp id fun z=>by rw [List.mem_singleton.mp z];exact hp,fun a ob h _=>by rw [qAB (L2.ne_of_none h hp)];exact h⟩
theorem Step.turn {p:Addr} {o o':HO} (hp:H p=some o) (hi:Imm o=false) (hm:p∈ρ):Step ρ H ρ (upd H p o'):=by
 refine ⟨List.prefix_refl _,fun _ h=>.inl h,fun a ob h c=>?_⟩
 rw [qAB]
 ·exact h
 ·intro z
  subst z
  rcases c with c | c
  ·rw [hp] at h
   cases h
   rw [hi] at c
   cases c
  ·exact c hm
theorem RepF.mono {C:Addr} (e:Step ρ H ρ' H'):∀ (ds:List (Nat × D)) (vs:List (Str × V)),RepF K ρ H C ds vs→RepF K ρ' H' C ds vs
 | [],_,h=>h
 | d::ds,_,⟨v,r,h1,hb,hn,h2,h3⟩=>⟨v,r,h1,hb,hn,RepV.mono e _ v h2,RepF.mono e ds r h3⟩
theorem RepK.mono (e:Step ρ H ρ' H'):∀ (ds:List (Ky × D)) (vs:List (L2.Key × V)),RepK K ρ H ds vs→RepK K ρ' H' ds vs
 | [],_,h=>h
 | d::ds,_,⟨v,r,h1,h2,h3⟩=>⟨v,r,h1,RepV.mono e _ v h2,RepK.mono e ds r h3⟩
theorem RepO.mono (e:Step ρ H ρ' H') {o:O} (l:mutO o=true→∀ u,H a=some u→H' a=some u) (h:RepO K ρ H o a):RepO K ρ' H' o a:=by
 cases o with
 | lst xs =>
  obtain ⟨vs,h1,h2⟩:=h
  exact ⟨vs,l rfl _ h1,RepL.mono e _ _ h2⟩
 | rol xs =>
  obtain ⟨vs,h1,h2⟩:=h
  refine ⟨vs,?_,RepL.mono e _ _ h2⟩
  rcases h1 with ⟨ob,h1⟩ | h1
  ·exact .inl ⟨ob,e.keep _ _ h1 (.inl rfl)⟩
  ·exact .inr h1
 | ins c fs =>
  obtain ⟨C,dx,vs,h1,hc,h2,h3⟩:=h
  exact ⟨C,dx,vs,h1,hc,l rfl _ h2,RepF.mono e _ _ h3⟩
 | dct kvs =>
  obtain ⟨vs,h1,h2⟩:=h
  exact ⟨vs,l rfl _ h1,RepK.mono e _ _ h2⟩
 | xc c =>
  obtain ⟨C,h1,h2⟩:=h
  exact ⟨C,h1,e.keep _ _ h2 (.inl rfl)⟩
theorem RepO.there {o:O} (h:RepO K ρ H o a) (m:mutO o=true):∃ u,H a=some u:=by
 cases o with
 | lst xs=>obtain ⟨vs,h1,_⟩:=h;exact ⟨_,h1⟩
 | rol xs=>cases m
 | ins c fs=>obtain ⟨C,dx,vs,_,_,h1,_⟩:=h;exact ⟨_,h1⟩
 | dct kvs=>obtain ⟨vs,h1,_⟩:=h;exact ⟨_,h1⟩
 | xc c=>cases m
theorem RepH.fresh {h:AH} {p:Addr} {o:HO} (r:RepH K ρ h H) (hp:H p=none):RepH K ρ h (upd H p o) :=
 ⟨r.len,fun i ob hi=>let ⟨a,h1,h2⟩:=r.obj i ob hi;⟨a,h1,h2.mono (Step.fresh hp) (fun _ u z=>by rw [qAB (L2.ne_of_none z hp)];exact z)⟩,r.inj⟩
theorem RepH.newO {h:AH} (r:RepH K ρ h H) {p:Addr} {o:O} {u:HO} (hp:H p=none) (ho:RepO K (ρ++[p]) (upd H p u) o p) :
    RepH K (ρ++[p]) (h++[o]) (upd H p u):=by
  have e:Step ρ H (ρ++[p]) (upd H p u):=Step.new1 hp
  refine ⟨by simp [r.len],fun i ob hi=>?_,fun i j a o1 o2 hi hj m1 m2 hai haj=>?_⟩
  · by_cases hlt:i<h.length
    · rw [List.getElem?_append_left hlt] at hi
      obtain ⟨a,h1,h2⟩:=r.obj i ob hi
      exact ⟨a,qCe e.pre h1,h2.mono e (fun _ u z=>by rw [qAB (L2.ne_of_none z hp)];exact z)⟩
    · have hi':=(List.getElem?_eq_some_iff.mp hi).1
      simp at hi'
      have e':i=h.length:=by omega
      subst e'
      rw [List.getElem?_append_right (Nat.le_refl _)] at hi
      simp at hi
      subst hi
      refine ⟨p,?_,ho⟩
      rw [← r.len,List.getElem?_append_right (Nat.le_refl _)]
      simp
  · have key:∀ (i:Nat) (z:O),mutO z=true→(h++[o])[i]?=some z→(ρ++[p])[i]?=some a→(i<h.length∧h[i]?=some z∧ρ[i]?=some a∧a≠p)∨(i=h.length∧a=p):=fun i z mz hi hai=>by
      by_cases hlt:i<h.length
      · rw [List.getElem?_append_left hlt] at hi
        rw [List.getElem?_append_left (by rw [r.len];exact hlt)] at hai
        refine .inl ⟨hlt,hi,hai,fun q=>?_⟩
        obtain ⟨b,h1,h2⟩:=r.obj i _ hi
        rw [hai] at h1
        cases h1
        obtain ⟨w,h3⟩:=h2.there mz
        rw [q,hp] at h3
        cases h3
      · have hi':=(List.getElem?_eq_some_iff.mp hi).1
        simp at hi'
        have e':i=h.length:=by omega
        subst e'
        rw [← r.len,List.getElem?_append_right (Nat.le_refl _)] at hai
        simp at hai
        exact .inr ⟨rfl,hai.symm⟩
    rcases key i _ m1 hi hai with ⟨h1,h2,h3,h4⟩ | ⟨h1,h2⟩ <;> rcases key j _ m2 hj haj with ⟨k1,k2,k3,k4⟩ | ⟨k1,k2⟩
    · exact r.inj i j a _ _ h2 k2 m1 m2 h3 k3
    · exact absurd k2 h4
    · exact absurd h2 k4
    · omega
theorem RepH.setO {h:AH} (r:RepH K ρ h H) {k:Nat} {p:Addr} {o o':O} {u u':HO} (hk:h[k]?=some o) (m:mutO o=true) (m':mutO o'=true) (hr:ρ[k]?=some p) (hp:H p=some u) (hi':Imm u=false) (hx:RepO K ρ (upd H p u') o' p) :
    RepH K ρ (h.set k o') (upd H p u'):=by
  have e:Step ρ H ρ (upd H p u'):=Step.turn hp hi' (List.mem_of_getElem? hr)
  have hkl:=(List.getElem?_eq_some_iff.mp hk).1
  refine ⟨by simp [r.len],fun i ob hi=>?_,fun i j a o1 o2 hi hj m1 m2 hai haj=>?_⟩
  · rw [List.getElem?_set] at hi
    by_cases hik:k=i
    · rw [if_pos hik,if_pos (by omega)] at hi
      cases hi
      subst hik
      exact ⟨p,hr,hx⟩
    · rw [if_neg hik] at hi
      obtain ⟨a,h1,h2⟩:=r.obj i ob hi
      refine ⟨a,h1,h2.mono e fun mo w hw=>?_⟩
      rw [qAB fun z=>hik (r.inj k i p _ _ hk hi m mo hr (by rw [← z];exact h1))]
      exact hw
  · have key:∀ (i:Nat) (z:O),mutO z=true→(h.set k o')[i]?=some z→∃ z',h[i]?=some z'∧mutO z'=true:=fun i z mz hi=>by
      rw [List.getElem?_set] at hi
      by_cases hik:k=i
      · subst hik
        exact ⟨_,hk,m⟩
      · rw [if_neg hik] at hi
        exact ⟨_,hi,mz⟩
    obtain ⟨_,hi',n1⟩:=key i _ m1 hi
    obtain ⟨_,hj',n2⟩:=key j _ m2 hj
    exact r.inj i j a _ _ hi' hj' n1 n2 hai haj
theorem RepH.newList {h:AH} (r:RepH K ρ h H) {p:Addr} {xs:List D} {vs:List V} (hp:H p=none) (hx:RepL K ρ H xs vs) :
    RepH K (ρ++[p]) (h++[.lst xs]) (upd H p (.lst vs)):=r.newO hp ⟨vs,qAA,RepL.mono (Step.new1 hp) _ _ hx⟩
theorem RepH.setList {h:AH} (r:RepH K ρ h H) {k:Nat} {p:Addr} {xs ys:List D} {us vs:List V} (hk:h[k]?=some (.lst xs)) (hr:ρ[k]?=some p) (hp:H p=some (.lst us)) (hx:RepL K ρ H ys vs) :
    RepH K ρ (h.set k (.lst ys)) (upd H p (.lst vs)):=r.setO hk rfl rfl hr hp rfl ⟨vs,qAA,RepL.mono (Step.turn hp rfl (List.mem_of_getElem? hr)) _ _ hx⟩
theorem RepH.list {h:AH} (r:RepH K ρ h H) {i:Nat} {xs:List D} (hi:getL h i=some xs):∃ a vs,ρ[i]?=some a∧SqL K H a vs∧RepL K ρ H xs vs:=by
 unfold getL at hi
 cases e:h[i]? with
 | none=>rw [e] at hi;cases hi
 | some o =>
  rw [e] at hi
  obtain ⟨a,h1,h2⟩:=r.obj i o e
  cases o with
  | lst ys =>
   cases hi
   obtain ⟨vs,h3,h4⟩:=h2
   exact ⟨a,vs,h1,L2.SqL.of h3,h4⟩
  | rol ys =>
   cases hi
   obtain ⟨vs,h3,h4⟩:=h2
   refine ⟨a,vs,h1,?_,h4⟩
   rcases h3 with ⟨ob,h3⟩ | h3
   ·exact .inl (.inr ⟨ob,h3⟩)
   ·exact .inr h3
  | _=>cases hi
end
noncomputable def RepS (K:PySem.W.Frag) (ρ:List Addr) (H:Hp) (env:Env) (σ:L2.St):Prop:=env.length=σ.length∧∀ (i:Nat) (d:D),env[i]?=some (some d)→∃ v,σ[i]?=some (some v)∧RepV K ρ H d v
theorem RepS.mono {K:PySem.W.Frag} {ρ ρ':List Addr} {H H':Hp} {env:Env} {σ:L2.St} (s:RepS K ρ H env σ) (e:Step ρ H ρ' H'):RepS K ρ' H' env σ :=
 ⟨s.1,fun i d h=>let ⟨v,h1,h2⟩:=s.2 i d h;⟨v,h1,h2.mono e _ _⟩⟩
theorem RepS.set {K:PySem.W.Frag} {ρ:List Addr} {H:Hp} {env:Env} {σ:L2.St} (s:RepS K ρ H env σ) (k:Nat) {d:D} {v:V} (r:RepV K ρ H d v):RepS K ρ H (env.set k (some d)) (σ.set k (some v)):=by
 refine ⟨by simp [s.1],fun i d' h=>?_⟩
 rw [List.getElem?_set] at h ⊢
 by_cases hk:k=i
 ·subst hk
  rw [if_pos rfl] at h ⊢
  by_cases hl:k<env.length
  ·rw [if_pos hl] at h
   cases h
   rw [if_pos (by rw [← s.1];exact hl)]
   exact ⟨v,rfl,r⟩
  ·rw [if_neg hl] at h
   cases h
 ·rw [if_neg hk] at h ⊢
  exact s.2 i d' h
noncomputable abbrev WX:=Nat→L2.St→Hp→Prop
noncomputable abbrev W1:=Nat→Hp→Prop
noncomputable abbrev WX.at (W:WX) (σ:L2.St):W1:=fun c H=>W c σ H
noncomputable def Post {α:Type} (K:PySem.W.Frag) (w:W1) (rep:List Addr→Hp→α→Prop) (ρ:List Addr) (H:Hp):R α→Prop
 | .ok a h=>∀ (ρ':List Addr) (H':Hp),Step ρ H ρ' H'→RepH K ρ' h H'→rep ρ' H' a
 | .exc c h=>∀ (ρ':List Addr) (H':Hp),Step ρ H ρ' H'→RepH K ρ' h H'→w c H'
 | .bad=>False
noncomputable abbrev PostV (K:PySem.W.Frag) (w:W1) (Q:VK) (ρ:List Addr) (H:Hp) (r:R D):Prop:=Post K w (fun ρ' H' d=>∀ v,RepV K ρ' H' d v→Q v H') ρ H r
theorem Post.mono {α:Type} {K:PySem.W.Frag} {w:W1} {rep:List Addr→Hp→α→Prop} {ρ ρ1:List Addr} {H H1:Hp} {r:R α} (p:Post K w rep ρ H r) (e:Step ρ H ρ1 H1):Post K w rep ρ1 H1 r:=by
 cases r with
 | ok a h=>exact fun ρ' H' e' rh=>p ρ' H' (e.trans e') rh
 | exc _ _=>exact fun ρ' H' e' rh=>p ρ' H' (e.trans e') rh
 | bad=>exact p
noncomputable def tD (K:PySem.W.Frag) (W:WX) (m:Env→M D):TE:=fun σ H Q=>∃ ρ env h,RepS K ρ H env σ∧RepH K ρ h H∧PostV K (W.at σ) Q ρ H (m env h)
noncomputable def tDT (K:PySem.W.Frag) (W:WX) (m:Env→M Bool):TT:=fun σ H Q=>∃ ρ env h,RepS K ρ H env σ∧RepH K ρ h H∧Post K (W.at σ) (fun _ H' b=>Q b H') ρ H (m env h)
noncomputable def tDL (K:PySem.W.Frag) (W:WX) (m:Env→M (List D)):TA:=fun σ H Q=>∃ ρ env h,RepS K ρ H env σ∧RepH K ρ h H∧Post K (W.at σ) (fun ρ' H' ds=>∀ vs,RepL K ρ' H' ds vs→Q vs H') ρ H (m env h)
theorem PE.imp {X:Cx} {e:Expr} {t t':TE} (h:PE X e t) (i:∀ σ H Q,t' σ H Q→t σ H Q):PE X e t':=fun pins s σ H Q I q=>h pins s σ H Q I (i σ H Q q)
theorem PT.imp {X:Cx} {e:Expr} {t t':TT} (h:PT X e t) (i:∀ σ H Q,t' σ H Q→t σ H Q):PT X e t':=fun pins s σ H Q I q=>h pins s σ H Q I (i σ H Q q)
theorem PA.imp {X:Cx} {e:List Expr} {t t':TA} (h:PA X e t) (i:∀ σ H Q,t' σ H Q→t σ H Q):PA X e t':=fun pos pins s σ H Q I q=>h pos pins s σ H Q I (i σ H Q q)
theorem PS.imp {X:Cx} {e:Stmt} {t t':TS} (h:PS X e t) (i:∀ D σ H,t' D σ H→t D σ H):PS X e t':=fun pins s σ H D I q=>h pins s σ H D I (i D σ H q)
theorem PSs.imp {X:Cx} {e:List Stmt} {t t':TS} (h:PSs X e t) (i:∀ D σ H,t' D σ H→t D σ H):PSs X e t':=fun pins s σ H D I q=>h pins s σ H D I (i D σ H q)
end Fy
set_option Elab.async false
set_option linter.all false
set_option maxRecDepth 100000
set_option maxHeartbeats 4000000
namespace Fy
open PySem PySem.Spec PyProof.Rows
open L2 (V Hp HO VK TE TT TA TS TI Cx Inv RelV Vals SqL SqT Rd upd qAA qAB PE PT PA PS PSs EP OpR CallR IxR MtR SlR PO TO)
theorem szEq:sizeLine=16777216:=sizeLine_eq
theorem qGL (a b:Tx):((⟨a.toArray⟩:Str)++(⟨b.toArray⟩:Str))=⟨(a++b).toArray⟩:=by
 show Str.append _ _=_
 unfold Str.append
 simp
theorem qAz (a:Tx):(⟨a.toArray⟩:Str).length=a.length:=by
 unfold Str.length
 simp
section
variable {X:Cx} {K:PySem.W.Frag} {ρ:List Addr} {H:Hp} {Q:VK} {h:AH} {w:W1}
theorem PostV.ite {c:Prop} [Decidable c] {r:R D} (p:PostV K w Q ρ H (if c then r else .bad)):c∧PostV K w Q ρ H r:=by
 by_cases hc:c
 ·rw [if_pos hc] at p
  exact ⟨hc,p⟩
 ·rw [if_neg hc] at p
  exact False.elim p
theorem PostV.now {d:D} {v:V} (p:PostV K w Q ρ H (.ok d h)) (r:RepH K ρ h H) (hv:RepV K ρ H d v):Q v H:=p ρ H (Step.refl ρ H) r v hv
theorem PostV.newL {xs:List D} {vs:List V} (p:PostV K w Q ρ H (newL xs h)) (r:RepH K ρ h H) (hv:RepL K ρ H xs vs):vs.length≤sizeLine∧∀ l,H l=none→Q (.ref l) (upd H l (.lst vs)):=by
 obtain ⟨hc,p⟩:=PostV.ite (c:=xs.length≤16777216) p
 refine ⟨by rw [hv.length,szEq];exact hc,fun l hl=>?_⟩
 refine p (ρ++[l]) _ (Step.new1 hl) (r.newList hl hv) _ ⟨l,?_,rfl⟩
 rw [← r.len,List.getElem?_append_right (Nat.le_refl _)]
 simp
theorem PostV.newT {xs:List D} {vs:List V} (p:PostV K w Q ρ H (.ok (.tup xs) h)) (r:RepH K ρ h H) (hv:RepL K ρ H xs vs):∀ l,H l=none→Q (.ref l) (upd H l (.tup vs)):=fun l hl=>by
 have e:Step ρ H ρ (upd H l (.tup vs)):=Step.fresh hl
 exact p ρ _ e (r.fresh hl) _ ⟨l,vs,rfl,L2.SqT.of qAA,hv.mono e _ _⟩
noncomputable def rB (K:PySem.W.Frag) (o:Bi):L2.R2:=fun x y H Q=>∃ (w:W1),∃ ρ h d e,RepH K ρ h H∧RepV K ρ H d x∧RepV K ρ H e y∧PostV K w Q ρ H (biD o d e h)
theorem qMC:OpR X (binaryOp .Sub) (rB X.K .sub):=by
 rintro pins s σ H x y v u Q I rx ry ⟨w,ρ,h,d,e,r,hd,he,p⟩
 cases d with
 | int i =>
  cases e with
  | int j=>cases hd;cases he;exact L2.op_sub pins s σ H _ _ v u Q I rx ry ⟨i,j,rfl,rfl,p.now r rfl⟩
  | _=>exact (show False from p).elim
 | _=>exact (show False from p).elim
theorem qME:OpR X (binaryOp .Mult) (rB X.K .mul):=by
 rintro pins s σ H x y v u Q I rx ry ⟨w,ρ,h,d,e,r,hd,he,p⟩
 cases d with
 | int i =>
  cases e with
  | int j =>
   cases hd;cases he
   obtain ⟨hc,p⟩:=PostV.ite (c:=mulOk i j) p
   exact L2.op_mul pins s σ H _ _ v u Q I rx ry ⟨i,j,rfl,rfl,hc,p.now r rfl⟩
  | _=>exact (show False from p).elim
 | _=>exact (show False from p).elim
theorem qJ9:OpR X (binaryOp .FloorDiv) (rB X.K .fdiv):=by
 rintro pins s σ H x y v u Q I rx ry ⟨w,ρ,h,d,e,r,hd,he,p⟩
 cases d with
 | int i =>
  cases e with
  | int j =>
   cases hd;cases he
   obtain ⟨hc,p⟩:=PostV.ite (c:=0<j∧j<1073741824) p
   exact L2.op_fdiv pins s σ H _ _ v u Q I rx ry ⟨i,j,rfl,rfl,hc,p.now r rfl⟩
  | _=>exact (show False from p).elim
 | _=>exact (show False from p).elim
theorem qMF:OpR X (binaryOp .Mod) (rB X.K .mod):=by
 rintro pins s σ H x y v u Q I rx ry ⟨w,ρ,h,d,e,r,hd,he,p⟩
 cases d with
 | int i =>
  cases e with
  | int j =>
   cases hd;cases he
   obtain ⟨hc,p⟩:=PostV.ite (c:=0<j) p
   exact L2.op_mod pins s σ H _ _ v u Q I rx ry ⟨i,j,rfl,rfl,hc,p.now r rfl⟩
  | _=>exact (show False from p).elim
 | _=>exact (show False from p).elim
theorem qMD:OpR X (binaryOp .Pow) (rB X.K .pow):=by
 rintro pins s σ H x y v u Q I rx ry ⟨w,ρ,h,d,e,r,hd,he,p⟩
 cases d with
 | int i =>
  cases e with
  | int j =>
   cases hd;cases he
   obtain ⟨hc,p⟩:=PostV.ite (c:=0≤j∧j≤1000000∧i.natAbs<2 ^ 64) p
   exact L2.op_pow pins s σ H _ _ v u Q I rx ry ⟨i,j,rfl,rfl,hc,p.now r rfl⟩
  | _=>exact (show False from p).elim
 | _=>exact (show False from p).elim
theorem qOW:OpR X (compareOp .Lt) (rB X.K .lt):=by
 rintro pins s σ H x y v u Q I rx ry ⟨w,ρ,h,d,e,r,hd,he,p⟩
 cases d with
 | int i =>
  cases e with
  | int j=>cases hd;cases he;exact L2.op_lt pins s σ H _ _ v u Q I rx ry ⟨i,j,rfl,rfl,p.now r rfl⟩
  | _=>exact (show False from p).elim
 | _=>exact (show False from p).elim
theorem qOX:OpR X (compareOp .LtE) (rB X.K .le):=by
 rintro pins s σ H x y v u Q I rx ry ⟨w,ρ,h,d,e,r,hd,he,p⟩
 cases d with
 | int i =>
  cases e with
  | int j=>cases hd;cases he;exact L2.op_le pins s σ H _ _ v u Q I rx ry ⟨i,j,rfl,rfl,p.now r rfl⟩
  | _=>exact (show False from p).elim
 | _=>exact (show False from p).elim
theorem qOY:OpR X (compareOp .Gt) (rB X.K .gt):=by
 rintro pins s σ H x y v u Q I rx ry ⟨w,ρ,h,d,e,r,hd,he,p⟩
 cases d with
 | int i =>
  cases e with
  | int j=>cases hd;cases he;exact L2.op_gt pins s σ H _ _ v u Q I rx ry ⟨i,j,rfl,rfl,p.now r rfl⟩
  | _=>exact (show False from p).elim
 | _=>exact (show False from p).elim
theorem qOZ:OpR X (compareOp .GtE) (rB X.K .ge):=by
 rintro pins s σ H x y v u Q I rx ry ⟨w,ρ,h,d,e,r,hd,he,p⟩
 cases d with
 | int i =>
  cases e with
  | int j=>cases hd;cases he;exact L2.op_ge pins s σ H _ _ v u Q I rx ry ⟨i,j,rfl,rfl,p.now r rfl⟩
  | _=>exact (show False from p).elim
 | _=>exact (show False from p).elim
theorem RepH.own {i:Nat} {xs:List D} (r:RepH K ρ h H) (e:h[i]?=some (.lst xs)) {v:V} (hv:RepV K ρ H (.ref i) v):∃ a vs,v=.ref a∧ρ[i]?=some a∧H a=some (.lst vs)∧RepL K ρ H xs vs:=by
 obtain ⟨a,h1,h2⟩:=hv
 obtain ⟨b,h3,vs,h4,h5⟩:=r.obj i _ e
 rw [h1] at h3
 cases h3
 exact ⟨a,vs,h2,h1,h4,h5⟩
theorem RepH.seen {i:Nat} {xs:List D} (r:RepH K ρ h H) (e:getL h i=some xs) {v:V} (hv:RepV K ρ H (.ref i) v):∃ a vs,v=.ref a∧SqL K H a vs∧RepL K ρ H xs vs:=by
 obtain ⟨a,h1,h2⟩:=hv
 obtain ⟨b,vs,h3,h4,h5⟩:=r.list e
 rw [h1] at h3
 cases h3
 exact ⟨a,vs,h2,h4,h5⟩
theorem qMG:OpR X (binaryOp .Add) (rB X.K .add):=by
 rintro pins s σ H x y v u Q I rx ry ⟨w,ρ,h,d,e,r,hd,he,p⟩
 cases d with
 | int i =>
  cases e with
  | int j=>cases hd;cases he;exact L2.op_add pins s σ H _ _ v u Q I rx ry ⟨i,j,rfl,rfl,p.now r rfl⟩
  | _=>exact (show False from p).elim
 | str a =>
  cases e with
  | str b =>
   cases hd;cases he
   obtain ⟨hc,p⟩:=PostV.ite (c:=a.length+b.length≤16777216) p
   exact L2.op_add_str pins s σ H _ _ v u Q I rx ry ⟨_,_,rfl,rfl,by rw [qAz,qAz,szEq];exact hc,by rw [qGL];exact p.now r rfl⟩
  | _=>exact (show False from p).elim
 | tup a =>
  cases e with
  | tup b =>
   obtain ⟨pa,va,rfl,ta,la⟩:=hd
   obtain ⟨pb,vb,rfl,tb,lb⟩:=he
   obtain ⟨hz,p⟩:=PostV.ite (c:=a.length+b.length≤16777216) p
   by_cases hc:a=[]
   ·subst hc
    have ev:va=[]:=List.eq_nil_of_length_eq_zero la.length
    subst ev
    cases rx
    cases ry
    obtain ⟨its,r1,p1,_⟩:=I.tuple ta
    obtain ⟨its2,r2,p2,_⟩:=I.tuple tb
    have ei:its=[]:=r1.nil_iff.mpr rfl
    subst ei
    obtain ⟨⟨cls,dd,data,sl⟩,ho,hc,n,hd⟩:=id p1
    obtain ⟨⟨cls2,dd2,data2,sl2⟩,ho2,hc2,n2,hd2⟩:=id p2
    simp only at hc hd hc2 hd2
    subst hc hd hc2 hd2
    exact concat_meets ⟨_,ho,rfl⟩ ⟨_,ho2,rfl⟩ noFill_tuple_add seq_tuple_add PySem.F.slot_tuple_add PySem.F.entry_tuple_add (PySem.F.args_tuple_add_2 _ _)
     (tuple_addW0 pa pb _ _ n n2 dd dd2 sl sl2 rfl) ⟨ho,ho2,⟨.ref pb,H,I,rfl,p.now r ⟨pb,vb,rfl,tb,lb⟩⟩⟩
   refine L2.op_catT pins s σ H _ _ v u Q I rx ry ⟨pa,pb,va,vb,rfl,rfl,ta,tb,fun z=>hc ?_,by rw [la.length,lb.length,szEq];exact hz,fun z=>?_,fun _=>p.newT r (la.append lb)⟩
   ·have:=la.length
    rw [z] at this
    exact List.eq_nil_of_length_eq_zero this.symm
   ·subst z
    have e:b=[]:=List.eq_nil_of_length_eq_zero lb.length.symm
    subst e
    rw [List.append_nil] at p
    exact p.now r ⟨pa,va,rfl,ta,la⟩
  | _=>exact (show False from p).elim
 | ref i =>
  cases e with
  | ref j =>
   have p:PostV X.K w Q ρ H (match h[i]?,h[j]? with | some (.lst xs),some (.lst ys)=>newL (xs++ys) h | _,_=>.bad):=p
   split at p
   ·rename_i xs ys e1 e2
    obtain ⟨a,va,rfl,_,ha,la⟩:=r.own e1 hd
    obtain ⟨b,vb,rfl,_,hb,lb⟩:=r.own e2 he
    obtain ⟨hz,q⟩:=p.newL r (la.append lb)
    exact L2.op_cat pins s σ H _ _ v u Q I rx ry ⟨a,b,va,vb,rfl,rfl,ha,hb,by rw [← List.length_append];exact hz,q⟩
   ·exact (show False from p).elim
  | _=>exact (show False from p).elim
 | _=>exact (show False from p).elim
end
end Fy
set_option Elab.async false
set_option linter.all false
set_option maxRecDepth 100000
set_option maxHeartbeats 4000000
namespace Fy
open PySem PySem.Spec PyProof.Rows
open L2 (V Hp HO VK TE TT TA TS TI Cx Inv RelV Vals SqL SqT Rd upd qAA qAB PE PT PA PS PSs EP OpR CallR IxR MtR SlR PO TO)
theorem Post.bind {α β:Type} {K:PySem.W.Frag} {w:W1} {rep:List Addr→Hp→β→Prop} {rep':List Addr→Hp→α→Prop} {ρ:List Addr} {H:Hp} {m:M α} {f:α→M β} {h:AH} (p:Post K w rep ρ H (M.bind m f h))
    (k:∀ ρ' h' a H',Step ρ H ρ' H'→RepH K ρ' h' H'→Post K w rep ρ' H' (f a h')→rep' ρ' H' a):Post K w rep' ρ H (m h):=by
  unfold M.bind at p
  cases e:m h with
  | ok a h1 =>
    rw [e] at p
    exact fun ρ1 H1 e1 r1=>k ρ1 h1 a H1 e1 r1 (Post.mono p e1)
  | exc c h1=>rw [e] at p;exact p
  | bad=>rw [e] at p;exact p
theorem Post.when {α:Type} {K:PySem.W.Frag} {w:W1} {rep:List Addr→Hp→α→Prop} {ρ:List Addr} {H:Hp} {c:Prop} [Decidable c] {m:M α} {h:AH} (p:Post K w rep ρ H (M.when c m h)):c∧Post K w rep ρ H (m h):=by
 unfold M.when at p
 by_cases hc:c
 ·rw [if_pos hc] at p
  exact ⟨hc,p⟩
 ·rw [if_neg hc] at p
  exact False.elim p
theorem Post.imp {α:Type} {K:PySem.W.Frag} {w:W1} {rep rep':List Addr→Hp→α→Prop} {ρ:List Addr} {H:Hp} {r:R α} (p:Post K w rep ρ H r) (k:∀ ρ' H' a,rep ρ' H' a→rep' ρ' H' a):Post K w rep' ρ H r:=by
 cases r with
 | ok a h=>exact fun ρ' H' e rh=>k ρ' H' a (p ρ' H' e rh)
 | exc _ _=>exact p
 | bad=>exact p
theorem Post.ret {α:Type} {K:PySem.W.Frag} {w:W1} {rep:List Addr→Hp→α→Prop} {ρ:List Addr} {H:Hp} {a:α} {h:AH} (p:Post K w rep ρ H (M.ret a h)) (r:RepH K ρ h H):rep ρ H a:=p ρ H (Step.refl ρ H) r
section
variable {X:Cx} {F:Nat→List D→M D} {W:WX} {w:W1}
theorem two {o:Bi} {ca cb:CE} {σ:L2.St} {H:Hp} {Q:VK} (t:tD X.K W (den F (.bi o ca cb)) σ H Q):L2.tOp (rB X.K o) (tD X.K W (den F ca)) (tD X.K W (den F cb)) σ H Q:=by
 obtain ⟨ρ,env,h,s,r,p⟩:=t
 rw [den] at p
 exact ⟨ρ,env,h,s,r,Post.bind p fun ρ1 h1 d H1 e1 r1 q v hv=>⟨ρ1,env,h1,s.mono e1,r1,Post.bind q fun ρ2 h2 d2 H2 e2 r2 q2 w hw=>⟨_,ρ2,h2,d,d2,r2,hv.mono e2 _ _,hw,q2⟩⟩⟩
noncomputable def rU (K:PySem.W.Frag) (o:Un):V→Hp→VK→Prop:=fun x H Q=>∃ (w:W1),∃ ρ h d,RepH K ρ h H∧RepV K ρ H d x∧PostV K w Q ρ H (unD o d h)
noncomputable def rC (K:PySem.W.Frag) (o:Un):List V→Hp→VK→Prop:=fun xs H Q=>∃ x,xs=[x]∧rU K o x H Q
noncomputable def rC2 (K:PySem.W.Frag) (o:Bi):List V→Hp→VK→Prop:=fun xs H Q=>∃ x y,xs=[x,y]∧rB K o x y H Q
theorem one {o:Un} {ca:CE} {σ:L2.St} {H:Hp} {Q:VK} (t:tD X.K W (den F (.un o ca)) σ H Q):tD X.K W (den F ca) σ H fun x H1=>rU X.K o x H1 Q:=by
 obtain ⟨ρ,env,h,s,r,p⟩:=t
 rw [den] at p
 exact ⟨ρ,env,h,s,r,Post.bind p fun ρ1 h1 d H1 e1 r1 q v hv=>⟨_,ρ1,h1,d,r1,hv,q⟩⟩
theorem d_lit {v:V} {e:Expr} {d:D} (he:PE X e (L2.tC v)) (hv:∀ ρ H,RepV X.K ρ H d v):PE X e (tD X.K W (den F (.lit d))):=PE.imp he fun σ H Q t=>by
 obtain ⟨ρ,env,h,s,r,p⟩:=t
 rw [den] at p
 exact Post.ret p r v (hv ρ H)
theorem d_var {i:Nat} {e:Expr} (he:PE X e (L2.tVar i)):PE X e (tD X.K W (den F (.var i))):=PE.imp he fun σ H Q t=>by
 obtain ⟨ρ,env,h,s,r,p⟩:=t
 rw [den] at p
 cases q:env[i]? with
 | none=>rw [q] at p;exact False.elim p
 | some o =>
  cases o with
  | none=>rw [q] at p;exact False.elim p
  | some d =>
   rw [q] at p
   obtain ⟨v,h1,h2⟩:=s.2 i d q
   exact ⟨v,h1,p ρ H (Step.refl ρ H) r v h2⟩
theorem qPV {es:List Expr}:PA X [] (tDL X.K W (denL F .nil)):=PA.imp L2.pa_nil fun σ H Q t=>by
 obtain ⟨ρ,env,h,s,r,p⟩:=t
 rw [denL] at p
 exact Post.ret p r [] rfl
theorem qNG {e:Expr} {es:List Expr} {c:CE} {cl:CL} (he:PE X e (tD X.K W (den F c))) (hr:PA X es (tDL X.K W (denL F cl))) (hs:starEach (e::es) X.env=(false,eval e X.env)::starEach es X.env) :
    PA X (e::es) (tDL X.K W (denL F (.cons c cl))):=PA.imp (L2.pa_cons he hr hs) fun σ H Q t=>by
  obtain ⟨ρ,env,h,s,r,p⟩:=t
  rw [denL] at p
  refine ⟨ρ,env,h,s,r,Post.bind p fun ρ1 h1 d H1 e1 r1 q v hv=>⟨ρ1,env,h1,s.mono e1,r1,Post.bind q fun ρ2 h2 ds H2 e2 r2 q2 vs hvs=>?_⟩⟩
  exact Post.ret q2 r2 (v::vs) ⟨v,vs,rfl,hv.mono e2 _ _,hvs⟩
theorem d_and {a b:Expr} {rest:List Expr} {pos:Pos} {ca cb:CE} (ha:PE X a (tD X.K W (den F ca))) (hb:PE X (.BoolOp .And (b::rest) pos) (tD X.K W (den F cb))) :
    PE X (.BoolOp .And (a::b::rest) pos) (tD X.K W (den F (.and ca cb))):=PE.imp (L2.pe_and ha hb) fun σ H Q t=>by
  obtain ⟨ρ,env,h,s,r,p⟩:=t
  rw [den] at p
  refine ⟨ρ,env,h,s,r,Post.bind p fun ρ1 h1 d H1 e1 r1 q v hv=>?_⟩
  cases d with
  | bl c =>
    cases hv
    cases c with
    | true=>exact ⟨true,rfl,⟨ρ1,env,h1,s.mono e1,r1,q⟩⟩
    | false=>exact ⟨false,rfl,Post.ret q r1 _ rfl⟩
  | _=>exact False.elim q
theorem d_or {a b:Expr} {rest:List Expr} {pos:Pos} {ca cb:CE} (ha:PE X a (tD X.K W (den F ca))) (hb:PE X (.BoolOp .Or (b::rest) pos) (tD X.K W (den F cb))) :
    PE X (.BoolOp .Or (a::b::rest) pos) (tD X.K W (den F (.or ca cb))):=PE.imp (L2.pe_or ha hb) fun σ H Q t=>by
  obtain ⟨ρ,env,h,s,r,p⟩:=t
  rw [den] at p
  refine ⟨ρ,env,h,s,r,Post.bind p fun ρ1 h1 d H1 e1 r1 q v hv=>?_⟩
  cases d with
  | bl c =>
    cases hv
    cases c with
    | true=>exact ⟨true,rfl,Post.ret q r1 _ rfl⟩
    | false=>exact ⟨false,rfl,⟨ρ1,env,h1,s.mono e1,r1,q⟩⟩
  | _=>exact False.elim q
theorem TruV.of {ρ:List Addr} {H:Hp} {h:AH} {d:D} {v:V} {rep:List Addr→Hp→Bool→Prop} (r:RepH X.K ρ h H) (hv:RepV X.K ρ H d v) (p:Post X.K w rep ρ H (truth d h)):∃ k,L2.TruV X.K v H k∧rep ρ H k:=by
 cases d with
 | non=>cases hv;exact ⟨false,rfl,Post.ret (a:=false) p r⟩
 | bl b=>cases hv;exact ⟨b,rfl,Post.ret (a:=b) p r⟩
 | int i=>cases hv;exact ⟨i != 0,rfl,Post.ret (a:=i != 0) p r⟩
 | str x =>
  cases hv
  have p:Post X.K w rep ρ H (if x.length≤16777216 then .ok (!x.isEmpty) h else .bad):=p
  by_cases hc:x.length≤16777216
  ·rw [if_pos hc] at p
   refine ⟨!x.isEmpty,⟨by rw [qAz,szEq];exact hc,?_⟩,Post.ret (a:=!x.isEmpty) p r⟩
   rw [qAz]
   cases x with
   | nil=>rfl
   | cons c x=>simp;omega
  ·rw [if_neg hc] at p
   exact False.elim p
 | tup xs =>
  obtain ⟨a,vs,rfl,h1,h2⟩:=hv
  refine ⟨!xs.isEmpty,.inr (.inl ⟨vs,h1,?_⟩),Post.ret (a:=!xs.isEmpty) p r⟩
  have:=h2.length
  cases xs <;> cases vs <;> simp_all
 | ref i =>
  have p:Post X.K w rep ρ H (match getL h i with | some xs=>.ok (!xs.isEmpty) h | none=>.bad):=p
  cases e:getL h i with
  | none=>rw [e] at p;exact False.elim p
  | some xs =>
   rw [e] at p
   obtain ⟨a,vs,rfl,h1,h2⟩:=r.seen e hv
   refine ⟨!xs.isEmpty,.inl ⟨vs,h1,?_⟩,Post.ret (a:=!xs.isEmpty) p r⟩
   have:=h2.length
   cases xs <;> cases vs <;> simp_all
theorem qKt {e:Expr} {c:CE} (he:PE X e (tD X.K W (den F c))) (hi:∀ whole,isTrue e X.env whole=(do let v ← whole;standAt e.pos;holding [v] (truthy v))) :
    PT X e (tDT X.K W (denT F (.val c))):=PT.imp (L2.pt_truth he hi) fun σ H Q t=>by
  obtain ⟨ρ,env,h,s,r,p⟩:=t
  rw [denT] at p
  exact ⟨ρ,env,h,s,r,Post.bind p fun ρ1 h1 d H1 e1 r1 q v hv=>TruV.of r1 hv q⟩
noncomputable def isCmp:Bi→Bool
 | .eq | .ne | .lt | .le | .gt | .ge | .isin | .notin=>true
 | _=>false
theorem qPJ {k:Nat} {y:Ky} {h h':AH} {r:D} (q:hasK k y h=.ok r h'):∃ b,r=.bl b:=by
 unfold hasK at q
 split at q
 ·cases q;exact ⟨_,rfl⟩
 ·cases q
theorem qLd {o:Bi} {d e r:D} {h h':AH} (hc:isCmp o=true) (q:biD o d e h=.ok r h'):∃ k,r=.bl k:=by
  cases o with
  | eq =>
    have q:(match eqTop h d e with | some b=>R.ok (D.bl b) h | none=>.bad)=.ok r h':=q
    split at q <;> cases q
    exact ⟨_,rfl⟩
  | ne =>
    have q:(match eqTop h d e with | some b=>R.ok (D.bl (!b)) h | none=>.bad)=.ok r h':=q
    split at q <;> cases q
    exact ⟨_,rfl⟩
  | lt=>cases d <;> first | cases q | (cases e <;> first | (cases q;exact ⟨_,rfl⟩) | cases q)
  | le=>cases d <;> first | cases q | (cases e <;> first | (cases q;exact ⟨_,rfl⟩) | cases q)
  | gt=>cases d <;> first | cases q | (cases e <;> first | (cases q;exact ⟨_,rfl⟩) | cases q)
  | ge=>cases d <;> first | cases q | (cases e <;> first | (cases q;exact ⟨_,rfl⟩) | cases q)
  | isin =>
    cases d <;> first | cases q | cases e <;> first
      | (rename_i x y
         have q:(match inTx x y with | some b=>R.ok (D.bl b) h | none=>.bad)=.ok r h':=q
         split at q <;> cases q
         exact ⟨_,rfl⟩)
      | (rename_i x y
         have q:(match (getL h y).bind qCA with | some xs=>R.ok (D.bl (xs.contains x)) h | none=>hasK y (.int x) h)=.ok r h':=q
         split at q
         · cases q;exact ⟨_,rfl⟩
         · exact qPJ q)
      | (rename_i x y
         have q:(match qAw y with | some ys=>R.ok (D.bl (ys.contains x)) h | none=>.bad)=.ok r h':=q
         split at q <;> cases q
         exact ⟨_,rfl⟩)
      | (rename_i x y
         have q:(match (getL h y).bind (anyD fun z=>eqTop h z (.tup x)) with | some b=>R.ok (D.bl b) h | none=>.bad)=.ok r h':=q
         split at q <;> cases q
         exact ⟨_,rfl⟩)
      | cases q
  | notin =>
    cases d <;> first | cases q | cases e <;> first
      | (rename_i x y
         have q:(match inTx x y with | some b=>R.ok (D.bl (!b)) h | none=>.bad)=.ok r h':=q
         split at q <;> cases q
         exact ⟨_,rfl⟩)
      | (rename_i x y
         have q:(match (getL h y).bind qCA with | some xs=>R.ok (D.bl (!xs.contains x)) h | none=>.bad)=.ok r h':=q
         split at q <;> cases q
         exact ⟨_,rfl⟩)
      | cases q
  | _=>cases hc
theorem Post.cmp {o:Bi} {d e:D} {K:PySem.W.Frag} {w:W1} {ρ:List Addr} {H:Hp} {h:AH} {Q:Bool→Hp→Prop} (hc:isCmp o=true) (p:Post K w (fun _ H' b=>Q b H') ρ H (M.bind (biD o d e) truth h)) :
    PostV K w (fun x H'=>∃ k,x=.bl k∧Q k H') ρ H (biD o d e h):=by
  unfold M.bind at p
  cases q:biD o d e h with
  | ok r h' =>
    rw [q] at p
    obtain ⟨k,rfl⟩:=qLd hc q
    exact fun ρ' H' e' r' v hv=>⟨k,hv,p ρ' H' e' r'⟩
  | exc c h'=>rw [q] at p;exact p
  | bad=>rw [q] at p;exact p
theorem d_cmp {a b:Expr} {op:CmpOp} {o:Bi} {ca cb:CE} {pos:Pos} (ho:OpR X (compareOp op) (rB X.K o)) (ha:PE X a (tD X.K W (den F ca))) (hb:PE X b (tD X.K W (den F cb))) (hm:behindInMarks op b=false) :
    PE X (.Compare a [op] [b] pos) (tD X.K W (den F (.bi o ca cb))):=PE.imp (L2.pe_cmpR ho ha hb hm) fun _ _ _ t=>two t
theorem qAS {α β γ:Type} (m:M α) (f:α→M β) (g:β→M γ):M.bind (M.bind m f) g=M.bind m fun x=>M.bind (f x) g:=by
 funext h
 unfold M.bind
 cases m h <;> rfl
theorem qPS {a b:Expr} {op:CmpOp} {o:Bi} {ca cb:CE} {pos:Pos} (hc:isCmp o=true) (ho:OpR X (compareOp op) (rB X.K o)) (ha:PE X a (tD X.K W (den F ca))) (hb:PE X b (tD X.K W (den F cb))) (hm:behindInMarks op b=false) :
    PT X (.Compare a [op] [b] pos) (tDT X.K W (denT F (.val (.bi o ca cb)))):=PT.imp (L2.pt_cmpR ho ha hb hm) fun σ H Q t=>by
  obtain ⟨ρ,env,h,s,r,p⟩:=t
  rw [denT,den,qAS] at p
  refine ⟨ρ,env,h,s,r,Post.bind p fun ρ1 h1 d H1 e1 r1 q v hv=>⟨ρ1,env,h1,s.mono e1,r1,?_⟩⟩
  have q:Post X.K (W.at σ) (fun _ H' b=>Q b H') ρ1 H1 (M.bind (M.bind (den F cb env) fun y=>biD o d y) truth h1):=q
  rw [qAS] at q
  exact Post.bind q fun ρ2 h2 d2 H2 e2 r2 q2 w hw=>⟨_,ρ2,h2,d,d2,r2,hv.mono e2 _ _,hw,Post.cmp hc q2⟩
theorem qLe {o o':Bi} {ca cb cc:CE} {σ:L2.St} {H:Hp} {Q:VK} (t:tD X.K W (den F (.chain o o' ca cb cc)) σ H Q):L2.tChain (rB X.K o) (rB X.K o') (tD X.K W (den F ca)) (tD X.K W (den F cb)) (tD X.K W (den F cc)) σ H Q:=by
 obtain ⟨ρ,env,h,s,r,p⟩:=t
 rw [den] at p
 refine ⟨ρ,env,h,s,r,Post.bind p fun ρ1 h1 d H1 e1 r1 q v hv=>⟨ρ1,env,h1,s.mono e1,r1,Post.bind q fun ρ2 h2 d2 H2 e2 r2 q2 w hw=>⟨_,ρ2,h2,d,d2,r2,hv.mono e2 _ _,hw,Post.bind q2 fun ρ3 h3 z H3 e3 r3 q3 zv hz=>?_⟩⟩⟩
 cases z with
 | bl k =>
  cases hz
  cases k with
  | true=>exact ⟨true,rfl,L2.iteT ⟨ρ3,env,h3,((s.mono e1).mono e2).mono e3,r3,Post.bind q3 fun ρ4 h4 d4 H4 e4 r4 q4 x hx=>⟨_,ρ4,h4,d2,d4,r4,(hw.mono e3 _ _).mono e4 _ _,hx,q4⟩⟩⟩
  | false=>exact ⟨false,rfl,L2.iteF (Post.ret q3 r3 _ rfl)⟩
 | _=>exact False.elim q3
theorem qNJ {a b c:Expr} {op op':CmpOp} {o o':Bi} {ca cb cc:CE} {pos:Pos} (ho:OpR X (compareOp op) (rB X.K o)) (ho':OpR X (compareOp op') (rB X.K o')) (ha:PE X a (tD X.K W (den F ca))) (hb:PE X b (tD X.K W (den F cb))) (hc:PE X c (tD X.K W (den F cc)))
    (hm:lastMarks [op,op'] [b,c]=false):PE X (.Compare a [op,op'] [b,c] pos) (tD X.K W (den F (.chain o o' ca cb cc))):=PE.imp (L2.pe_chain ho ho' ha hb hc hm) fun σ H Q t=>qLe t
theorem valI {ce:CE} (hb:∀ env h d h',den F ce env h=.ok d h'→∃ k,d=.bl k) {σ:L2.St} {H:Hp} {Q:Bool→Hp→Prop} (t:tDT X.K W (denT F (.val ce)) σ H Q):tD X.K W (den F ce) σ H (fun x H'=>∃ k,x=.bl k∧Q k H'):=by
 obtain ⟨ρ,env,h,s,r,p⟩:=t
 rw [denT] at p
 refine ⟨ρ,env,h,s,r,?_⟩
 unfold M.bind at p
 cases q:den F ce env h with
 | ok d h' =>
  rw [q] at p
  obtain ⟨k,rfl⟩:=hb _ _ _ _ q
  exact fun ρ' H' e' r' v hv=>⟨k,hv,p ρ' H' e' r'⟩
 | exc c h'=>rw [q] at p;exact p
 | bad=>rw [q] at p;exact p
theorem bind_ok {α β:Type} {m:M α} {f:α→M β} {h h':AH} {b:β} (e:M.bind m f h=.ok b h'):∃ a h1,m h=.ok a h1∧f a h1=.ok b h':=by
 unfold M.bind at e
 cases q:m h with
 | ok a h1=>rw [q] at e;exact ⟨a,h1,rfl,e⟩
 | exc _ _=>rw [q] at e;cases e
 | bad=>rw [q] at e;cases e
theorem qK2 {o o':Bi} {ca cb cc:CE} (h2:isCmp o'=true) (env:Env) (h:AH) (d:D) (h':AH) (e:den F (.chain o o' ca cb cc) env h=.ok d h'):∃ k,d=.bl k:=by
 rw [den] at e
 obtain ⟨x,g1,_,e⟩:=bind_ok e
 obtain ⟨y,g2,_,e⟩:=bind_ok e
 obtain ⟨z,g3,_,e⟩:=bind_ok e
 cases z with
 | bl k =>
  cases k with
  | true =>
   obtain ⟨w,g4,_,e⟩:=bind_ok e
   exact qLd h2 e
  | false=>cases e;exact ⟨_,rfl⟩
 | _=>cases e
theorem qKu {a b c:Expr} {op op':CmpOp} {o o':Bi} {ca cb cc:CE} {pos:Pos} (h2:isCmp o'=true) (ho:OpR X (compareOp op) (rB X.K o)) (ho':OpR X (compareOp op') (rB X.K o')) (ha:PE X a (tD X.K W (den F ca))) (hb:PE X b (tD X.K W (den F cb))) (hc:PE X c (tD X.K W (den F cc)))
    (hm:lastMarks [op,op'] [b,c]=false):PT X (.Compare a [op,op'] [b,c] pos) (tDT X.K W (denT F (.val (.chain o o' ca cb cc)))):=PT.imp (L2.pt_chain ho ho' ha hb hc hm) fun σ H Q t=>qLe (valI (qK2 h2) t)
theorem d_not {a:Expr} {ca:CE} {pos:Pos} (ha:PE X a (tD X.K W (den F ca))):PE X (.UnaryOp .Not a pos) (tD X.K W (den F (.not ca))):=by
 intro pins s σ H Q I t
 refine UnaryOp_ (L2.thn (ha pins s σ H (fun x H1=>∃ k,L2.TruV X.K x H1 k∧Q (.bl (!k)) H1) I ?_) fun v s1 ⟨x,H1,I1,r1,k,hk,q1⟩=>?_)
 ·obtain ⟨ρ,env,h,s',r,p⟩:=t
  rw [den] at p
  refine ⟨ρ,env,h,s',r,Post.bind (rep':=fun ρ' H' d=>∀ v,RepV X.K ρ' H' d v→∃ k,L2.TruV X.K v H' k∧Q (.bl (!k)) H') (by rw [qAS] at p;exact p) fun ρ1 h1 d H1 e1 r1 q v hv=>?_⟩
  exact TruV.of (rep:=fun ρ' H' k=>Q (.bl (!k)) H') r1 hv (Post.bind q fun ρ2 h2 k H2 e2 r2 q2=>Post.ret q2 r2 _ rfl)
 ·exact not_of (L2.thn (L2.tru_ok pins s1 σ H1 x v (fun k H'=>Q (.bl (!k)) H') I1 r1 ⟨k,hk,q1⟩) fun c s2 ⟨H2,I2,q2⟩=>⟨.bl (!c),H2,I2,rfl,q2⟩)
theorem d_ite {c a b:Expr} {cc:CT} {ca cb:CE} {pos:Pos} (hc:PT X c (tDT X.K W (denT F cc))) (ha:PE X a (tD X.K W (den F ca))) (hb:PE X b (tD X.K W (den F cb))):PE X (.IfExp c a b pos) (tD X.K W (den F (.ite cc ca cb))):=PE.imp (L2.pe_ifExp hc ha hb) fun σ H Q t=>by
 obtain ⟨ρ,env,h,s,r,p⟩:=t
 rw [den] at p
 refine ⟨ρ,env,h,s,r,Post.bind p fun ρ1 h1 k H1 e1 r1 q=>?_⟩
 cases k with
 | true=>exact L2.iteT ⟨ρ1,env,h1,s.mono e1,r1,q⟩
 | false=>exact L2.iteF ⟨ρ1,env,h1,s.mono e1,r1,q⟩
theorem d_tup {es:List Expr} {cl:CL} {k:Nat} {pos:Pos} (h:PA X es (tDL X.K W (denL F cl))):PE X (.Tuple es k pos) (tD X.K W (den F (.tup cl))):=PE.imp (L2.pe_tup h) fun σ H Q t=>by
 obtain ⟨ρ,env,h,s,r,p⟩:=t
 rw [den] at p
 refine ⟨ρ,env,h,s,r,Post.bind p fun ρ1 h1 ds H1 e1 r1 q vs hvs=>?_⟩
 obtain ⟨hc,q⟩:=Post.when q
 exact ⟨by rw [hvs.length,szEq];exact hc,PostV.newT q r1 hvs⟩
theorem d_lst {es:List Expr} {cl:CL} {pos:Pos} (h:PA X es (tDL X.K W (denL F cl))):PE X (.List es pos) (tD X.K W (den F (.lst cl))):=PE.imp (L2.pe_lst h) fun σ H Q t=>by
 obtain ⟨ρ,env,h,s,r,p⟩:=t
 rw [den] at p
 exact ⟨ρ,env,h,s,r,Post.bind p fun ρ1 h1 ds H1 e1 r1 q vs hvs=>PostV.newL q r1 hvs⟩
noncomputable def spD (K:PySem.W.Frag) (m:List D→M D):L2.Sp:=fun vs H Q E=>∃ ρ h ds,RepH K ρ h H∧RepL K ρ H ds vs∧PostV K (fun c H'=>∀ e,E e (some c) H') Q ρ H (m ds h)
theorem qGd {a:Expr} {ca:CE} {o:Un} {e:Expr} {r:List V→Hp→VK→Prop} (he:PE X e (L2.tCB r (L2.tCons (tD X.K W (den F ca)) L2.tNil))) (hr:∀ x H Q,rU X.K o x H Q→r [x] H Q):PE X e (tD X.K W (den F (.un o ca))):=PE.imp he fun σ H Q t=>by
 obtain ⟨ρ,env,h,s,r',p⟩:=one t
 exact ⟨ρ,env,h,s,r',Post.imp p fun ρ' H' d q v hv=>hr v H' Q (q v hv)⟩
theorem qNK {ca cb:CE} {o:Bi} {e:Expr} {r:List V→Hp→VK→Prop} (he:PE X e (L2.tCB r (L2.tCons (tD X.K W (den F ca)) (L2.tCons (tD X.K W (den F cb)) L2.tNil)))) (hr:∀ x y H Q,rB X.K o x y H Q→r [x,y] H Q):PE X e (tD X.K W (den F (.bi o ca cb))):=PE.imp he fun σ H Q t=>by
 obtain ⟨ρ,env,h,s,r',p⟩:=two t
 refine ⟨ρ,env,h,s,r',Post.imp p fun ρ' H' d q v hv=>?_⟩
 obtain ⟨ρ1,env1,h1,s1,r1,p1⟩:=q v hv
 exact ⟨ρ1,env1,h1,s1,r1,Post.imp p1 fun ρ2 H2 d2 q2 w hw=>hr v w H2 Q (q2 w hw)⟩
end
end Fy
set_option Elab.async false
set_option linter.all false
set_option maxRecDepth 100000
set_option maxHeartbeats 4000000
namespace Fy
open PySem PySem.Spec PyProof.Rows
open L2 (V Hp HO VK TE TT TA TS TI Cx Inv RelV Vals SqL SqT Rd upd qAA qAB PE PT PA PS PSs EP OpR CallR IxR MtR SlR PO TO)
theorem kyV_inj {a b:Ky}:kyV a=kyV b↔a=b:=by
 constructor
 ·intro h
  cases a with
  | int i=>cases b with
   | int j=>cases h;rfl
   | str y=>cases h
  | str x=>cases b with
   | int j=>cases h
   | str y =>
    have h:(Sum.inr (⟨x.toArray⟩:Str):L2.Key)=Sum.inr ⟨y.toArray⟩:=h
    have h2:=congrArg Str.cps (Sum.inr.inj h)
    have h3:x=y:=by simpa using congrArg Array.toList h2
    rw [h3]
 ·rintro rfl;rfl
section
variable {K:PySem.W.Frag} {ρ:List Addr} {H:Hp}
theorem RepK.val (k:Ky):∀ {kvs:List (Ky × D)} {vs:List (L2.Key × V)},RepK K ρ H kvs vs→(∃ d v,valY kvs k=some d∧L2.valV vs (kyV k)=some v∧RepV K ρ H d v)∨(valY kvs k=none∧L2.valV vs (kyV k)=none)
 | [],_,h=>by cases h;exact .inr ⟨rfl,rfl⟩
 | x::kvs,_,⟨v,r,rfl,h1,h2⟩=>by
  by_cases e:x.1=k
  ·refine .inl ⟨x.2,v,?_,L2.valV_pos (kyV_inj.mpr e),h1⟩
   unfold valY
   rw [List.find?_cons_of_pos (by simpa using e)]
   rfl
  ·have e2:valY (x::kvs) k=valY kvs k:=by unfold valY;rw [List.find?_cons_of_neg (by simpa using e)]
   rw [e2,L2.valV_neg (fun z=>e (kyV_inj.mp z))]
   exact RepK.val k h2
theorem RepK.any (k:Ky):∀ {kvs:List (Ky × D)} {vs:List (L2.Key × V)},RepK K ρ H kvs vs→(kvs.any fun kv=>decide (kv.1=k))=(vs.any fun kv=>decide (kv.1=kyV k))
 | [],_,h=>by cases h;rfl
 | x::kvs,_,⟨v,r,rfl,h1,h2⟩=>by
  rw [List.any_cons,List.any_cons,RepK.any k h2]
  congr 1
  exact decide_eq_decide.mpr kyV_inj.symm
theorem RepK.length:∀ {kvs:List (Ky × D)} {vs:List (L2.Key × V)},RepK K ρ H kvs vs→kvs.length=vs.length
 | [],_,h=>by cases h;rfl
 | x::kvs,_,⟨v,r,rfl,h1,h2⟩=>by rw [List.length_cons,List.length_cons,RepK.length h2]
theorem RepK.repl (k:Ky) {d:D} {v:V} (hv:RepV K ρ H d v):∀ {kvs:List (Ky × D)} {vs:List (L2.Key × V)},RepK K ρ H kvs vs→RepK K ρ H (kvs.map fun kv=>if kv.1=k then (kv.1,d) else kv) (vs.map fun kv=>if kv.1=kyV k then (kv.1,v) else kv)
 | [],_,h=>by cases h;rfl
 | x::kvs,_,⟨u,r,rfl,h1,h2⟩=>by
  rw [List.map_cons,List.map_cons]
  by_cases e:x.1=k
  ·rw [if_pos e,if_pos (kyV_inj.mpr e)]
   exact ⟨v,_,rfl,hv,RepK.repl k hv h2⟩
  ·rw [if_neg e,if_neg (fun z=>e (kyV_inj.mp z))]
   exact ⟨u,_,rfl,h1,RepK.repl k hv h2⟩
theorem RepK.snoc (k:Ky) {d:D} {v:V} (hv:RepV K ρ H d v):∀ {kvs:List (Ky × D)} {vs:List (L2.Key × V)},RepK K ρ H kvs vs→RepK K ρ H (kvs++[(k,d)]) (vs++[(kyV k,v)])
 | [],_,h=>by cases h;exact ⟨v,[],rfl,hv,rfl⟩
 | x::kvs,_,⟨u,r,rfl,h1,h2⟩=>⟨u,r++[(kyV k,v)],rfl,h1,RepK.snoc k hv h2⟩
theorem RepK.put (k:Ky) {d:D} {v:V} (hv:RepV K ρ H d v) {kvs:List (Ky × D)} {vs:List (L2.Key × V)} (h:RepK K ρ H kvs vs):RepK K ρ H (putY kvs k d) (L2.putK vs (kyV k) v):=by
 unfold putY L2.putK
 rw [h.any k]
 split
 ·exact h.repl k hv
 ·exact h.snoc k hv
theorem RepK.merge:∀ {more:List (Ky × D)} {ms:List (L2.Key × V)} {kvs:List (Ky × D)} {vs:List (L2.Key × V)},RepK K ρ H more ms→RepK K ρ H kvs vs→RepK K ρ H (qHC kvs more) (L2.mergeK vs ms)
 | [],_,_,_,h,h0=>by cases h;exact h0
 | x::more,_,kvs,vs,⟨v,r,rfl,h1,h2⟩,h0=>RepK.merge (more:=more) (ms:=r) h2 (h0.put x.1 h1)
theorem RepH.dict {h:AH} {i:Nat} {kvs:List (Ky × D)} (r:RepH K ρ h H) (e:h[i]?=some (.dct kvs)) {v:V} (hv:RepV K ρ H (.ref i) v):∃ a vs,v=.ref a∧ρ[i]?=some a∧H a=some (.dK vs)∧RepK K ρ H kvs vs:=by
 obtain ⟨a,h1,h2⟩:=hv
 obtain ⟨b,h3,vs,h4,h5⟩:=r.obj i _ e
 rw [h1] at h3
 cases h3
 exact ⟨a,vs,h2,h1,h4,h5⟩
theorem RepH.setDict {h:AH} (r:RepH K ρ h H) {k:Nat} {p:Addr} {xs ys:List (Ky × D)} {us vs:List (L2.Key × V)} (hk:h[k]?=some (.dct xs)) (hr:ρ[k]?=some p) (hp:H p=some (.dK us)) (hx:RepK K ρ H ys vs) :
    RepH K ρ (h.set k (.dct ys)) (upd H p (.dK vs)):=r.setO hk rfl rfl hr hp rfl ⟨vs,qAA,RepK.mono (Step.turn hp rfl (List.mem_of_getElem? hr)) _ _ hx⟩
end
section
variable {X:Cx} {pins:List (Addr × Obj)} {σ:L2.St} {H:Hp} {s:Shared} {a:Addr} {vs:List (L2.Key × V)} {k:L2.Key} {v:V} {u:Value} {A:Around} {E:Value→Shared→Prop}
theorem qPU {Q:Value→Shared→Prop} (I:Inv X pins σ H s) (e:H a=some (.dK vs)) (l:L2.valV vs k=some v) (ry:RelV (L2.kV k) u) (h:∀ w' s',Inv X pins σ H s'→RelV v w'→Q w' s'):wpAny (model X.prog X.w) A (getItem (.ref a) u) Q E s:=by
 obtain ⟨z,hd,ws,rel,dd⟩:=L2.dk_rd I.hok (.inl e)
 obtain ⟨w',hw,rw'⟩:=L2.RelO.some_of (v:=v) (o:=valueAt ws k) (by rw [← l];exact rel.val k)
 exact wpAny_getItem_of (L2.kV_is ry) dd.mapOf hw (h w' _ (I.tok _) rw')
theorem dk_ty (I:Inv X pins σ H s) (e:H a=some (.dK vs)):s.TypeIs (.ref a) "dict":=by
 obtain ⟨_,_,_,_,dd⟩:=L2.dk_rd I.hok (.inl e)
 exact dd.typeIs
theorem qNB {value slice:Expr} {Q:Value→Shared→Prop} (hT:s.TypeIs (.ref a) "dict") (hs:subscripted slice false (.ref a) u=operate [.ref a,u] (getItem (.ref a) u)) (h₂:wpAny (model X.prog X.w) A (getItem (.ref a) u) Q E s):wpAny (model X.prog X.w) A (subscriptTail value slice (.ref a) u) Q E s:=by
 unfold subscriptTail
 refine wpAny_bind ?_
 rw [getitemInPython_of_ne hT.not_modules]
 refine wpAny_bind (wpAny_specialOf hT PySem.F.slot_dict_getitem.lookup ?_)
 have fin:wpAny (model X.prog X.w) A (subscripted slice false (.ref a) u) (fun r s₃=>wpAny (model X.prog X.w) A (letTemporaryGo value (.ref a) r >>= fun _=>pure r) Q E s₃) E s:=by
  rw [hs]
  exact wpAny_operating (wpAny_mono h₂ (fun r s₃ h₃=>wpAny_bind (wpAny_letTemporaryGo (wpAny_pure h₃))) fun _ _ x=>x)
 first
  | exact wpAny_pure (wpAny_bind fin)
  | exact wpAny_bind (wpAny_pure (wpAny_bind fin))
  | exact wpAny_bind fin
end
section
variable {X:Cx} {F:Nat→List D→M D} {W:WX}
noncomputable def kyD:Ky→D
 | .int i=>.int i
 | .str x=>.str x
theorem ky_of {K:PySem.W.Frag} {ρ:List Addr} {H:Hp} {k:Ky} {x:V} (h:RepV K ρ H (kyD k) x):x=L2.kV (kyV k):=by
 cases k with
 | int i=>cases h;rfl
 | str y=>cases h;rfl
theorem ix_K {value slice:Expr} {pins:List (Addr × Obj)} {s:Shared} {σ:L2.St} {H:Hp} {x y:V} {v u:Value} {Q:VK} {w:W1} {ρ:List Addr} {h:AH} {k:Nat} {ky:Ky} (I:Inv X pins σ H s) (r:RepH X.K ρ h H) (hd:RepV X.K ρ H (.ref k) x) (he:RepV X.K ρ H (kyD ky) y) (rx:RelV x v) (ry:RelV y u)
    (p:PostV X.K w Q ρ H (ixK k ky h)) (hs:subscripted slice false v u=operate [v,u] (getItem v u)):wpAny (model X.prog X.w) X.A (subscriptTail value slice v u) (EP X pins σ Q) X.xe s:=by
  have p:PostV X.K w Q ρ H (match h[k]? with | some (.dct kvs)=>(match valY kvs ky with | some d=>.ok d h | none=>.bad) | _=>.bad):=p
  split at p
  · rename_i kvs q
    obtain ⟨a,vs,rfl,ha,hH,hk⟩:=r.dict q hd
    cases rx
    have hy:=ky_of he
    subst hy
    rcases hk.val ky with ⟨d,v',e1,e2,hv⟩ | ⟨e1,_⟩
    · rw [e1] at p
      exact qNB (dk_ty I hH) hs (qPU I hH e2 ry fun w' s' I' rw'=>⟨v',H,I',rw',PostV.now p r hv⟩)
    · rw [e1] at p
      exact False.elim p
  · exact False.elim p
end
end Fy
set_option Elab.async false
set_option linter.all false
set_option maxRecDepth 100000
set_option maxHeartbeats 4000000
namespace Fy
open PySem PySem.Spec PyProof.Rows
open L2 (V Hp HO VK TE TT TA TS TI Cx Inv RelV Vals SqL SqT Rd upd qAA qAB PE PT PA PS PSs EP OpR CallR IxR MtR SlR PO TO)
noncomputable def clLen:CL→Nat
 | .nil=>0
 | .cons _ l=>clLen l+1
section
variable {X:Cx} {F:Nat→List D→M D} {W:WX}
noncomputable def trs (X:Cx) (F:Nat→List D→M D) (W:WX):List Ky→CL→List (TE × TE)
 | k::ks,.cons e l=>(L2.tC (L2.kV (kyV k)),tD X.K W (den F e))::trs X F W ks l
 | _,_=>[]
theorem qG6:∀ {ks:List Ky} {es:CL} {σ:L2.St} {H:Hp} {env:Env} {ρ:List Addr} {h:AH} {Q:List (V × V)→Hp→Prop},clLen es=ks.length→RepS X.K ρ H env σ→RepH X.K ρ h H →
    Post X.K (W.at σ) (fun ρ' H' ds=>∀ vs,RepL X.K ρ' H' ds vs→Q (((ks.map kyV).zip vs).map fun kv=>(L2.kV kv.1,kv.2)) H') ρ H (denL F es env h)→L2.tPairs (trs X F W ks es) σ H Q
  | [],.nil,σ,H,env,ρ,h,Q,_,s,r,p=>by
    rw [denL] at p
    exact Post.ret p r [] rfl
  | [],.cons _ _,_,_,_,_,_,_,hl,_,_,_=>by cases hl
  | _::_,.nil,_,_,_,_,_,_,hl,_,_,_=>by cases hl
  | k::ks,.cons e l,σ,H,env,ρ,h,Q,hl,s,r,p=>by
    rw [denL] at p
    refine ⟨ρ,env,h,s,r,Post.bind p fun ρ1 h1 d H1 e1 r1 q v hv=>?_⟩
    refine qG6 (ks:=ks) (es:=l) (Nat.succ.inj hl) (s.mono e1) r1 (Post.bind q fun ρ2 h2 ds H2 e2 r2 q2=>?_)
    intro vs hvs
    exact Post.ret q2 r2 (v::vs) ⟨v,vs,rfl,hv.mono e2 _ _,hvs⟩
theorem RepK.zip {K:PySem.W.Frag} {ρ:List Addr} {H:Hp}:∀ {ks:List Ky} {ds:List D} {vs:List V},RepL K ρ H ds vs→RepK K ρ H (ks.zip ds) ((ks.map kyV).zip vs)
 | [],_,_,_=>by simp [RepK]
 | k::ks,[],_,h=>by cases h;simp [RepK]
 | k::ks,d::ds,_,⟨v,r,rfl,h1,h2⟩=>⟨v,_,rfl,h1,RepK.zip h2⟩
theorem qPc {keys:List (Option Expr)} {values:List Expr} {ks:List Ky} {es:CL} {pos:Pos} (h:L2.PPs X pos keys values (trs X F W ks es)) (hall:keys.all (·.isSome)=true) (hl:keys.length=values.length) (h15:keys.length≤15) (hk:clLen es=ks.length) (h0:keys=[]→ks=[]∧es=.nil∧values=[]) :
    PE X (.Dict keys values pos) (tD X.K W (den F (.disp ks es))):=by
  have main:∀ (σ:L2.St) (H:Hp) (Q:VK),tD X.K W (den F (.disp ks es)) σ H Q→∀ p,H p=none→L2.tPairs (trs X F W ks es) σ (upd H p (.dK [])) fun ps H2=>H2 p=some (.dK [])∧∃ kvs:List (L2.Key × V),ps=kvs.map (fun kv=>(L2.kV kv.1,kv.2))∧kvs.length≤15∧Q (.ref p) (upd H2 p (.dK (L2.mergeK [] kvs))):=by
    intro σ H Q t p hp
    obtain ⟨ρ,env,h,s,r,q⟩:=t
    rw [den] at q
    have st:Step ρ H (ρ++[p]) (upd H p (.dK [])):=Step.new1 hp
    have r1:RepH X.K (ρ++[p]) (h++[.dct []]) (upd H p (.dK [])):=r.newO hp ⟨[],qAA,rfl⟩
    have q1:PostV X.K (W.at σ) Q (ρ++[p]) (upd H p (.dK [])) (M.bind (denL F es env) (fun ds=>dispD ks ds h.length) (h++[.dct []])):=Post.mono q st
    refine qG6 hk (s.mono st) r1 (Post.bind q1 fun ρ2 h2 ds H2 e2 r2 q2=>?_)
    intro vs hvs
    have q2:PostV X.K (W.at σ) Q ρ2 H2 (match h2[h.length]? with | some (.dct [])=>(if ks.length=ds.length∧ks.length≤15 then .ok (.ref h.length) (h2.set h.length (.dct (qHC [] (ks.zip ds)))) else .bad) | _=>.bad):=q2
    have hpl:(ρ++[p])[h.length]?=some p:=by rw [← r.len,List.getElem?_append_right (Nat.le_refl _)];simp
    have hpl2:ρ2[h.length]?=some p:=qCe e2.pre hpl
    split at q2
    · rename_i z
      obtain ⟨⟨c1,c2⟩,q2⟩:=PostV.ite q2
      obtain ⟨a,us,ea,ha,hH,hu⟩:=r2.dict z (v:=.ref p) ⟨p,hpl2,rfl⟩
      cases ea
      cases hu
      refine ⟨hH,(ks.map kyV).zip vs,rfl,?_,?_⟩
      · rw [List.length_zip,List.length_map];omega
      · have stp:Step ρ2 H2 ρ2 (upd H2 p (.dK (L2.mergeK [] ((ks.map kyV).zip vs)))):=Step.turn hH rfl (List.mem_of_getElem? ha)
        exact q2 ρ2 _ stp (r2.setDict z ha hH (RepK.merge (RepK.zip hvs) rfl)) (.ref p) ⟨p,hpl2,rfl⟩
    · exact False.elim q2
  by_cases z:keys=[]
  · obtain ⟨rfl,rfl,rfl⟩:=h0 z
    subst z
    refine PE.imp L2.pe_dnewK fun σ H Q t p hp=>?_
    obtain ⟨hH,kvs,e1,_,q⟩:=main σ H Q t p hp
    cases kvs with
    | cons a b=>cases e1
    | nil =>
      have:upd (upd H p (.dK [])) p (.dK (L2.mergeK [] []))=upd H p (.dK []):=L2.upd_upd
      rw [this] at q
      exact q
  · exact PE.imp (L2.pe_disp h hall hl z h15) fun σ H Q t=>main σ H Q t
end
end Fy
set_option Elab.async false
set_option linter.all false
set_option maxRecDepth 100000
set_option maxHeartbeats 4000000
namespace Fy
open PySem PySem.Spec PyProof.Rows
open L2 (V Hp HO VK TE TT TA TS TI Cx Inv RelV Vals SqL SqT Rd upd qAA qAB PE PT PA PS PSs EP OpR CallR IxR MtR SlR PO TO PI PG PIE Turn FpOk Ends)
noncomputable def Its (z:Str):L2.It:=⟨fun i _=>i<z.cps.size,fun i H x H'=>H'=H∧∃ c,z.cps[i]?=some c∧x=.str ⟨#[c]⟩,fun i _=>i=z.cps.size⟩
theorem qGw {P:Program} {w:World} {K:PySem.W.Frag} {tg:Expr} {z:Str} {t:Tok} {ty:String} (it:Addr)
    (hty:["enumerate","zip","dict_itemiterator","dict_reverseitemiterator","odict_iterator","itertools.zip_longest","itertools.pairwise"].contains ty=false)
    (W:∀ A':Around,A'.handled=none→Walks P w A' it [it] [it] z.cps.size (SignAt z) (fun i h=>h.IsStrIter it ty z t i))
    (W':∀ (A:Around) (i:Nat) (s:Shared) (Q:Value→Shared→Prop) (E:Value→Shared→Prop),s.heap.IsStrIter it ty z t i→Q (.ref it) s→wpAny (model P w) A (pyIter (.ref it)) Q E s) :
    Turn P w K tg (Its z) [it] it (fun i h=>h.IsStrIter it ty z t i) where
  mem:=by simp
  obj:=fun i h st b hb=>by
    have e:b=it:=by simpa using hb
    subst e
    obtain ⟨o,e,c,d⟩:=st
    exact ⟨o,e,fun v z=>by rw [d] at z;cases z⟩
  keep:=fun i h h' st k=>by
    obtain ⟨o,e,c,d⟩:=st
    exact ⟨o,k it (by simp) o e,c,d⟩
  item:=by
    intro X hP hw hK hc i pins s σ H E I hf st hg
    subst hP hw hK
    obtain ⟨f0,f1,f2,f3,f4,f5⟩:=hf it (by simp)
    refine (W X.A (I.ok.hd hc)).item i s _ E hg st fun v h' tk hv st' kp=>?_
    obtain ⟨c,u,hcz,rfl⟩:=hv
    have I1:Inv X pins σ H { s with heap:=h',toks:=tk }:=I.turned (t':=tk) (fun b o hb e=>kp b o (by simpa using hb) e) f0 f1 f3 f4 f5
    obtain ⟨o,e,cc,d⟩:=id st'
    exact ⟨_,rfl,L2.go_of (s:={ s with heap:=h',toks:=tk }) e cc d hty ⟨.str ⟨#[c]⟩,H,I1,⟨u,rfl⟩,⟨rfl,c,hcz,rfl⟩,st',fun b hb=>(hf b hb).1⟩⟩
  done:=by
    intro X hP hw hK hc i pins s σ H E I hf st hg
    subst hP hw hK
    obtain ⟨f0,f1,f2,f3,f4,f5⟩:=hf it (by simp)
    have hg:i=z.cps.size:=hg
    subst hg
    exact (W X.A (I.ok.hd hc)).done s _ E st fun h' tk kp=>⟨rfl,I.turned (t':=tk) (fun b o hb e=>kp b o (by simpa using hb) e) f0 f1 f3 f4 f5⟩
  self:=fun A i s Q E st h=>W' A i s Q E st h
section
variable {X:Cx} {tg:Expr}
noncomputable def iAny (K:PySem.W.Frag) (tl:TE):TI:=fun σ H R=>tl σ H fun x H1 =>
 (∃ a,x=.ref a∧(∃ xs,SqL K H1 a xs)∧R (L2.Itl K a) H1)∨(∃ a,x=.ref a∧(∃ xs,SqT K H1 a xs)∧R (L2.Itt K a) H1)∨∃ z,x=.str z∧R (Its z) H1
theorem qOT {l:Expr} {tl:TE} (hl:PE X l tl):PI X tg l (iAny X.K tl):=by
  intro pins s σ H R I h
  refine L2.thn (hl pins s σ H _ I h) fun v s1 ⟨x,H1,I1,r1,q1⟩=>?_
  have one:∀ {h':Heap} {t':Nat} {b:Addr},b∈[s1.heap.objs.size]→FpOk X pins H1 b:=fun hb=>by
    have e:=List.mem_singleton.mp hb
    subst e
    exact I1.fpOk (Nat.le_refl _) (I1.hok.fresh (Nat.le_refl _))
  rcases q1 with ⟨a,e,⟨xs,hq⟩,q⟩ | ⟨a,e,⟨xs,hq⟩,q⟩ | ⟨z,e,q⟩
  · subst e
    cases r1
    obtain ⟨its,rv,p,hz⟩:=I1.list hq
    refine wpAny_pyIter_list p.isList ?_
    exact ⟨s1.heap.objs.size,[s1.heap.objs.size],_,_,H1,rfl,I1.kept (t':=s1.toks) fun b o e=>Heap.get?_push_of_some _ e,L2.turn_list a _,⟨_,Heap.get?_push_size _ rfl,rfl,rfl⟩,fun b hb=>one (h':=s1.heap) (t':=0) hb,q⟩
  · subst e
    cases r1
    obtain ⟨its,rv,p,hz⟩:=I1.tuple hq
    refine wpAny_pyIter_tuple (show s1.heap.IsTuple a its.toArray from p) ?_
    exact ⟨s1.heap.objs.size,[s1.heap.objs.size],_,_,H1,rfl,I1.kept (t':=s1.toks) fun b o e=>Heap.get?_push_of_some _ e,L2.turn_tuple a _,⟨_,Heap.get?_push_size _ rfl,rfl,rfl⟩,fun b hb=>one (h':=s1.heap) (t':=0) hb,q⟩
  · subst e
    obtain ⟨t,rfl⟩:=r1
    cases ha:z.cps.all (·<128)
    · refine wpAny_pyIter_wide ha ?_
      exact ⟨s1.heap.objs.size,[s1.heap.objs.size],_,_,H1,rfl,I1.kept (t':=s1.toks) fun b o e=>Heap.get?_push_of_some _ e,qGw (t:=t) _ (by decide) (fun A' hA=>Walks.strWide hA _ z t) (fun A i s Q E st h=>wpAny_pyIter_striter_wide st h),⟨_,Heap.get?_push_size _ rfl,rfl,rfl⟩,fun b hb=>one (h':=s1.heap) (t':=0) hb,q⟩
    · refine wpAny_pyIter_ascii ha ?_
      exact ⟨s1.heap.objs.size,[s1.heap.objs.size],_,_,H1,rfl,I1.kept (t':=s1.toks) fun b o e=>Heap.get?_push_of_some _ e,qGw (t:=t) _ (by decide) (fun A' hA=>Walks.strAscii hA _ z t) (fun A i s Q E st h=>wpAny_pyIter_striter_ascii st h),⟨_,Heap.get?_push_size _ rfl,rfl,rfl⟩,fun b hb=>one (h':=s1.heap) (t':=0) hb,q⟩
end
noncomputable def PostS (K:PySem.W.Frag) (W:WX) (D:Ends) (ρ:List Addr) (H:Hp):SR→Prop
 | .nx e h=>∀ ρ' H' st,Step ρ H ρ' H'→RepH K ρ' h H'→RepS K ρ' H' e st→D.nx st H'
 | .rt d h=>∀ ρ' H' v,Step ρ H ρ' H'→RepH K ρ' h H'→RepV K ρ' H' d v→D.rt v H'
 | .bk e h=>∀ ρ' H' st,Step ρ H ρ' H'→RepH K ρ' h H'→RepS K ρ' H' e st→D.bk st H'
 | .ct e h=>∀ ρ' H' st,Step ρ H ρ' H'→RepH K ρ' h H'→RepS K ρ' H' e st→D.ct st H'
 | .exc c e h=>∀ ρ' H' st,Step ρ H ρ' H'→RepH K ρ' h H'→RepS K ρ' H' e st→W c st H'
 | .bad=>False
theorem PostS.mono {K:PySem.W.Frag} {W:WX} {D:Ends} {ρ ρ1:List Addr} {H H1:Hp} {r:SR} (p:PostS K W D ρ H r) (e:Step ρ H ρ1 H1):PostS K W D ρ1 H1 r:=by
 cases r with
 | nx _ _=>exact fun ρ' H' st e'=>p ρ' H' st (e.trans e')
 | rt _ _=>exact fun ρ' H' st e'=>p ρ' H' st (e.trans e')
 | bk _ _=>exact fun ρ' H' st e'=>p ρ' H' st (e.trans e')
 | ct _ _=>exact fun ρ' H' st e'=>p ρ' H' st (e.trans e')
 | exc _ _ _=>exact fun ρ' H' st e'=>p ρ' H' st (e.trans e')
 | bad=>exact p
noncomputable abbrev WF:WX:=fun _ _ _=>False
noncomputable def tDS (K:PySem.W.Frag) (W:WX) (m:Env→AH→SR):TS:=fun D σ H=>∃ ρ env h,RepS K ρ H env σ∧RepH K ρ h H∧PostS K W D ρ H (m env h)
theorem PostS.ofR {α:Type} {K:PySem.W.Frag} {W:WX} {D:Ends} {rep:List Addr→Hp→α→Prop} {ρ:List Addr} {H:Hp} {env:Env} {σ:L2.St} {r:R α} {f:α→AH→SR} (s:RepS K ρ H env σ) (p:PostS K W D ρ H (SR.ofR env r f))
    (k:∀ ρ' h' a H',Step ρ H ρ' H'→RepH K ρ' h' H'→PostS K W D ρ' H' (f a h')→rep ρ' H' a):Post K (W.at σ) rep ρ H r:=by
  cases r with
  | ok a h=>exact fun ρ' H' e r'=>k ρ' h a H' e r' (PostS.mono p e)
  | exc c h=>exact fun ρ' H' e r'=>p ρ' H' σ e r' (s.mono e)
  | bad=>exact p
section
variable {X:Cx} {F:Nat→List D→M D} {B:Nat} {W:WX}
theorem s_nil:PSs X [] (tDS X.K W (denS F B .skip)):=PSs.imp L2.pss_nil fun D σ H t=>by
 obtain ⟨ρ,env,h,s,r,p⟩:=t
 exact p ρ H σ (Step.refl ρ H) r s
theorem qOP {st:Stmt} {rest:List Stmt} {a b:CS} (h1:PS X st (tDS X.K W (denS F B a))) (h2:PSs X rest (tDS X.K W (denS F B b))):PSs X (st::rest) (tDS X.K W (denS F B (.seq a b))):=PSs.imp (L2.pss_cons h1 h2) fun D σ H t=>by
 obtain ⟨ρ,env,h,s,r,p⟩:=t
 refine ⟨ρ,env,h,s,r,?_⟩
 rw [denS] at p
 cases e:denS F B a env h with
 | nx e1 g1 =>
  rw [e] at p
  exact fun ρ' H' st' e' r' s'=>⟨ρ',e1,g1,s',r',PostS.mono p e'⟩
 | rt _ _=>rw [e] at p;exact p
 | bk _ _=>rw [e] at p;exact p
 | ct _ _=>rw [e] at p;exact p
 | exc _ _ _=>rw [e] at p;exact p
 | bad=>rw [e] at p;exact p
theorem s_set {i:Nat} {x:Str} {e:Expr} {c:CE} {pos pos':Pos} (hN:X.N.Nodup) (hi:X.N[i]?=some x) (hx:L2.Loc X.env.scope x) (he:PE X e (tD X.K W (den F c)))
    (hs:swapsWith e (some (.Name x pos')) pos.line X.env=pure false) (hf:X.fn x=true∨X.env.scope.names.lookup x=some .local):PS X (.Assign [.Name x pos'] e pos) (tDS X.K W (denS F B (.set (.nm i) c))):=PS.imp (L2.ps_set hN hi hx he hs hf) fun D σ H t=>by
  obtain ⟨ρ,env,h,s,r,p⟩:=t
  rw [denS] at p
  exact ⟨ρ,env,h,s,r,PostS.ofR s p fun ρ' h' d H' e' r' q v hv=>q ρ' H' _ (Step.refl _ _) r' ((s.mono e').set i hv)⟩
theorem s_exp {e:Expr} {c:CE} {pos:Pos} (he:PE X e (tD X.K W (den F c))) (hs:swapsWith e none pos.line X.env=pure false):PS X (.Expr e pos) (tDS X.K W (denS F B (.exp c))):=PS.imp (L2.ps_expr he hs) fun D σ H t=>by
 obtain ⟨ρ,env,h,s,r,p⟩:=t
 rw [denS] at p
 exact ⟨ρ,env,h,s,r,PostS.ofR s p fun ρ' h' d H' e' r' q v hv=>q ρ' H' _ (Step.refl _ _) r' (s.mono e')⟩
theorem s_ret {e:Expr} {c:CE} {pos:Pos} (he:PE X e (tD X.K W (den F c))):PS X (.Return (some e) pos) (tDS X.K W (denS F B (.ret c))):=PS.imp (L2.ps_ret he) fun D σ H t=>by
 obtain ⟨ρ,env,h,s,r,p⟩:=t
 rw [denS] at p
 exact ⟨ρ,env,h,s,r,PostS.ofR s p fun ρ' h' d H' e' r' q v hv=>q ρ' H' v (Step.refl _ _) r' hv⟩
theorem qOL {pos:Pos}:PS X (.Return none pos) (tDS X.K W (denS F B .retN)):=PS.imp L2.ps_retN fun D σ H t=>by
 obtain ⟨ρ,env,h,s,r,p⟩:=t
 rw [denS] at p
 exact p ρ H .non (Step.refl _ _) r rfl
theorem qOM {pos:Pos}:PS X (.Pass pos) (tDS X.K W (denS F B .skip)):=PS.imp L2.ps_pass fun D σ H t=>by
 obtain ⟨ρ,env,h,s,r,p⟩:=t
 exact p ρ H σ (Step.refl ρ H) r s
theorem s_brk {pos:Pos}:PS X (.Break pos) (tDS X.K W (denS F B .brk)):=PS.imp L2.ps_break fun D σ H t=>by
 obtain ⟨ρ,env,h,s,r,p⟩:=t
 exact p ρ H σ (Step.refl ρ H) r s
theorem s_cnt {pos:Pos}:PS X (.Continue pos) (tDS X.K W (denS F B .cnt)):=PS.imp L2.ps_continue fun D σ H t=>by
 obtain ⟨ρ,env,h,s,r,p⟩:=t
 exact p ρ H σ (Step.refl ρ H) r s
theorem s_if {c:Expr} {a b:List Stmt} {pos:Pos} {cc:CT} {ca cb:CS} (hc:PT X c (tDT X.K W (denT F cc))) (ha:PSs X a (tDS X.K W (denS F B ca))) (hb:PSs X b (tDS X.K W (denS F B cb))) :
    PS X (.If c a b pos) (tDS X.K W (denS F B (.ite cc ca cb))):=PS.imp (L2.ps_if hc ha hb) fun D σ H t=>by
  obtain ⟨ρ,env,h,s,r,p⟩:=t
  rw [denS] at p
  refine ⟨ρ,env,h,s,r,PostS.ofR s p fun ρ' h' k H' e' r' q=>?_⟩
  cases k with
  | true=>exact L2.iteT ⟨ρ',env,h',s.mono e',r',q⟩
  | false=>exact L2.iteF ⟨ρ',env,h',s.mono e',r',q⟩
noncomputable def tgOk (K:PySem.W.Frag) (t:TG) (g:L2.TG):Prop:=∀ (ρ:List Addr) (H:Hp) (env env':Env) (σ:L2.St) (d:D) (v:V) (Q:L2.St→Hp→Prop),RepS K ρ H env σ→RepV K ρ H d v→tgSet t d env=some env'→(∀ st,RepS K ρ H env' st→Q st H)→g v σ H Q
theorem tg_nm {K:PySem.W.Frag} (i:Nat):tgOk K (.nm i) (L2.gName i):=by
 intro ρ H env env' σ d v Q s hv e q
 cases e
 exact q _ (s.set i hv)
theorem qN5 {K:PySem.W.Frag} (i j:Nat):tgOk K (.two i j) (L2.gTup K 2 (L2.gCons (L2.gName i) (L2.gCons (L2.gName j) L2.gNil))):=by
 intro ρ H env env' σ d v Q s hv e q
 cases d with
 | tup xs =>
  match xs,e,hv with
  | [a,b],e,hv =>
   cases e
   obtain ⟨ad,vs,rfl,hq,va,r,rfl,ha,vb,r2,rfl,hb,rfl⟩:=hv
   exact ⟨ad,[va,vb],rfl,hq,rfl,va,[vb],rfl,vb,[],rfl,rfl,q _ ((s.set i ha).set j hb)⟩
  | [],e,_=>cases e
  | [_],e,_=>cases e
  | _::_::_::_,e,_=>cases e
 | _=>cases e
theorem PostS.turn {K:PySem.W.Frag} {D:Ends} {ρ:List Addr} {H:Hp} {r:SR} {f:Env→AH→SR} {N:L2.St→Hp→Prop} (p:PostS K W D ρ H (r.turn f))
    (hN:∀ ρ' H' env h st,Step ρ H ρ' H'→RepH K ρ' h H'→RepS K ρ' H' env st→PostS K W D ρ' H' (f env h)→N st H'):PostS K WF { D with nx:=N,ct:=N,bk:=D.nx } ρ H r:=by
  cases r with
  | nx e g=>exact fun ρ' H' st e' r' s'=>hN ρ' H' e g st e' r' s' (PostS.mono p e')
  | ct e g=>exact fun ρ' H' st e' r' s'=>hN ρ' H' e g st e' r' s' (PostS.mono p e')
  | bk e g=>exact p
  | rt _ _=>exact p
  | exc _ _ _=>exact False.elim p
  | bad=>exact p
theorem qEw {K:PySem.W.Frag} {E:Ends} {ρ:List Addr} {H:Hp} {env:Env} {h:AH} {σ:L2.St} {t:TG} {g:L2.TG} {cb:CS} {d:D} {v:V} {f:Env→AH→SR} {N:L2.St→Hp→Prop} (ht:tgOk K t g) (s:RepS K ρ H env σ) (r:RepH K ρ h H) (hv:RepV K ρ H d v)
    (p:PostS K W E ρ H ((qAR t (denS F B cb) d env h).turn f)) (hN:∀ ρ' H' env h st,Step ρ H ρ' H'→RepH K ρ' h H'→RepS K ρ' H' env st→PostS K W E ρ' H' (f env h)→N st H') :
    g v σ H fun σ2 H2=>tDS K WF (denS F B cb) { E with nx:=N,ct:=N,bk:=E.nx } σ2 H2:=by
  unfold qAR at p
  cases e:tgSet t d env with
  | none=>rw [e] at p;exact False.elim p
  | some env' =>
    rw [e] at p
    exact ht ρ H env env' σ d v _ s hv e fun st s'=>⟨ρ,env',h,s',r,PostS.turn p hN⟩
theorem qKY {K:PySem.W.Frag} {E:Ends} {ρ:List Addr} {H:Hp} {env:Env} {h:AH} {σ:L2.St} {t:TG} {g:L2.TG} {cb:CS} {J:L2.It} {xs:List D} (ht:tgOk K t g) (s:RepS K ρ H env σ) (r:RepH K ρ h H)
    (go:∀ (i:Nat) ρ' H',Step ρ H ρ' H'→i<xs.length→J.go i H') (yl:∀ (i:Nat) ρ' H' x H'',Step ρ H ρ' H'→i<xs.length→J.yld i H' x H''→H''=H'∧∃ d,xs[i]?=some d∧RepV K ρ' H' d x) (sp:∀ (i:Nat) ρ' H',Step ρ H ρ' H'→i=xs.length→J.stop i H')
    (p:PostS K W E ρ H (qBB (qAR t (denS F B cb)) xs env h)) :
    ∃ Wi:Nat→Nat→L2.St→Hp→Prop,(∃ m,Wi 0 m σ H)∧∀ i m σ H,Wi i m σ H →
      (J.stop i H∧E.nx σ H)∨(J.go i H∧∃ N:L2.St→Hp→Prop,(∀ σ' H',N σ' H'→∃ m',m'<m∧Wi (i+1) m' σ' H')∧∀ x H',J.yld i H x H'→g x σ H' fun σ2 H2=>tDS K WF (denS F B cb) { E with nx:=N,ct:=N,bk:=E.nx } σ2 H2):=by
  refine ⟨fun i m σ' H'=>m=xs.length-i∧i≤xs.length∧∃ ρ' env' h',Step ρ H ρ' H'∧RepS K ρ' H' env' σ'∧RepH K ρ' h' H'∧PostS K W E ρ' H' (qBB (qAR t (denS F B cb)) (xs.drop i) env' h'),⟨_,rfl,Nat.zero_le _,ρ,env,h,Step.refl _ _,s,r,p⟩,?_⟩
  rintro i m σ' H' ⟨rfl,hi,ρ',env',h',e',s',r',p'⟩
  by_cases hlt:i<xs.length
  · refine .inr ⟨go i ρ' H' e' hlt,fun σ2 H2=>∃ ρ2 env2 h2,Step ρ H ρ2 H2∧RepS K ρ2 H2 env2 σ2∧RepH K ρ2 h2 H2∧PostS K W E ρ2 H2 (qBB (qAR t (denS F B cb)) (xs.drop (i+1)) env2 h2),fun σ2 H2 q=>⟨xs.length-(i+1),by omega,rfl,hlt,q⟩,fun x H'' y=>?_⟩
    obtain ⟨rfl,d,hd,hv⟩:=yl i ρ' H' x H'' e' hlt y
    rw [List.drop_eq_getElem_cons hlt] at p'
    have ed:xs[i]=d:=by
      rw [List.getElem?_eq_getElem hlt] at hd
      exact Option.some.inj hd
    rw [ed,qBB] at p'
    exact qEw ht s' r' hv p' fun ρ2 H2 env2 h2 st e2 r2 s2 p2=>⟨ρ2,env2,h2,e'.trans e2,s2,r2,p2⟩
  · have e:i=xs.length:=by omega
    subst e
    rw [List.drop_length] at p'
    exact .inl ⟨sp _ ρ' H' e' rfl,p' ρ' H' σ' (Step.refl _ _) r' s'⟩
theorem qIm {K:PySem.W.Frag} {E:Ends} {ρ:List Addr} {H:Hp} {env:Env} {h:AH} {σ:L2.St} {t:TG} {g:L2.TG} {cb:CS} {k:Nat} {a:Addr} {n:Nat} (ht:tgOk K t g) (s:RepS K ρ H env σ) (r:RepH K ρ h H) (ha:ρ[k]?=some a)
    (p:PostS K W E ρ H (qBh (qAR t (denS F B cb)) k n 0 env h)) :
    ∃ Wi:Nat→Nat→L2.St→Hp→Prop,(∃ m,Wi 0 m σ H)∧∀ i m σ H,Wi i m σ H →
      ((L2.Itl K a).stop i H∧E.nx σ H)∨((L2.Itl K a).go i H∧∃ N:L2.St→Hp→Prop,(∀ σ' H',N σ' H'→∃ m',m'<m∧Wi (i+1) m' σ' H')∧∀ x H',(L2.Itl K a).yld i H x H'→g x σ H' fun σ2 H2=>tDS K WF (denS F B cb) { E with nx:=N,ct:=N,bk:=E.nx } σ2 H2):=by
  refine ⟨fun i m σ' H'=>∃ ρ' env' h',Step ρ H ρ' H'∧RepS K ρ' H' env' σ'∧RepH K ρ' h' H'∧PostS K W E ρ' H' (qBh (qAR t (denS F B cb)) k m i env' h'),⟨n,ρ,env,h,Step.refl _ _,s,r,p⟩,?_⟩
  rintro i m σ' H' ⟨ρ',env',h',e',s',r',p'⟩
  cases m with
  | zero=>exact False.elim p'
  | succ m =>
    rw [qBh] at p'
    cases q:getL h' k with
    | none=>rw [q] at p';exact False.elim p'
    | some xs =>
      rw [q] at p'
      obtain ⟨b,vs,h1,h2,h3⟩:=r'.list q
      rw [qCe e'.pre ha] at h1
      cases h1
      cases qx:xs[i]? with
      | none =>
        simp only [qx] at p'
        refine .inl ⟨⟨vs,h2,?_⟩,p' ρ' H' σ' (Step.refl _ _) r' s'⟩
        rw [h3.length]
        exact List.getElem?_eq_none_iff.mp qx
      | some d =>
        simp only [qx] at p'
        obtain ⟨w,hw,hv⟩:=h3.get qx
        refine .inr ⟨⟨vs,w,h2,hw⟩,fun σ2 H2=>∃ ρ2 env2 h2,Step ρ H ρ2 H2∧RepS K ρ2 H2 env2 σ2∧RepH K ρ2 h2 H2∧PostS K W E ρ2 H2 (qBh (qAR t (denS F B cb)) k m (i+1) env2 h2),fun σ2 H2 z=>⟨m,by omega,z⟩,fun x H'' y=>?_⟩
        obtain ⟨rfl,y⟩:=y
        have ew:=y vs h2
        rw [hw] at ew
        cases ew
        exact qEw ht s' r' hv p' fun ρ2 H2 env2 h2 st e2 r2 s2 p2=>⟨ρ2,env2,h2,e'.trans e2,s2,r2,p2⟩
end
end Fy
set_option Elab.async false
set_option linter.all false
set_option maxRecDepth 100000
set_option maxHeartbeats 4000000
namespace Fy
open PySem PySem.Spec PyProof.Rows
open L2 (V Hp HO VK TE TT TA TS TI Cx Inv RelV Vals SqL SqT Rd upd qAA qAB PE PT PA PS PSs EP OpR CallR IxR MtR SlR PO TO)
section
variable {X:Cx} {F:Nat→List D→M D} {W:WX}
theorem at_of {K:PySem.W.Frag} {ρ:List Addr} {H:Hp} {xs:List D} {vs:List V} {i:Int} {d:D} (l:RepL K ρ H xs vs) (e:(ixN xs.length i).bind (xs[·]?)=some d):∃ w,L2.atI vs i=some w∧RepV K ρ H d w:=by
 cases q:ixN xs.length i with
 | none=>rw [q] at e;cases e
 | some j =>
  rw [q] at e
  have e:xs[j]?=some d:=e
  obtain ⟨w,h1,h2⟩:=l.get e
  refine ⟨w,?_,h2⟩
  show (L2.ixN vs.length i).bind (fun j=>vs[j]?)=some w
  rw [l.length]
  have q':L2.ixN xs.length i=some j:=q
  rw [q']
  exact h1
theorem ix_D:IxR X (rB X.K .ix):=by
 rintro value slice pins s σ H x y v u Q I rx ry ⟨w,ρ,h,d,e,r,hd,he,p⟩ hs
 cases d with
 | tup xs =>
  cases e with
  | int i =>
   cases he
   obtain ⟨a,vs,rfl,h1,h2⟩:=hd
   have p:PostV X.K w Q ρ H (match (ixN xs.length i).bind (xs[·]?) with | some d=>.ok d h | none=>.bad):=p
   cases q:(ixN xs.length i).bind (xs[·]?) with
   | none=>rw [q] at p;exact False.elim p
   | some d =>
    rw [q] at p
    obtain ⟨w,h3,h4⟩:=at_of h2 q
    exact L2.ix_tup value slice pins s σ H _ _ v u Q I rx ry ⟨a,vs,i,w,rfl,rfl,h1,h3,PostV.now p r h4⟩ hs
  | _=>exact (show False from p).elim
 | str x =>
  cases e with
  | int i =>
   cases he
   cases hd
   have p:PostV X.K w Q ρ H (if x.length≤16777216 then (match (ixN x.length i).bind (x[·]?) with | some c=>.ok (.str [c]) h | none=>.bad) else .bad):=p
   obtain ⟨hz,p⟩:=PostV.ite p
   cases q:(ixN x.length i).bind (x[·]?) with
   | none=>rw [q] at p;exact False.elim p
   | some c =>
    rw [q] at p
    exact L2.ix_str value slice pins s σ H _ _ v u Q I rx ry ⟨⟨x.toArray⟩,i,c,rfl,rfl,by rw [qAz,szEq];exact hz,q,PostV.now p r rfl⟩ hs
  | _=>exact (show False from p).elim
 | ref k =>
  cases e with
  | int i =>
   have p:PostV X.K w Q ρ H (match (getL h k).bind fun xs=>(ixN xs.length i).bind (xs[·]?) with | some d=>.ok d h | none=>ixK k (.int i) h):=p
   cases q:((getL h k).bind fun xs=>(ixN xs.length i).bind (xs[·]?)) with
   | none=>rw [q] at p;exact ix_K (ky:=.int i) I r hd he rx ry p hs
   | some d =>
    rw [q] at p
    cases he
    cases q0:getL h k with
    | none=>rw [q0] at q;cases q
    | some xs =>
     rw [q0] at q
     obtain ⟨a,vs,rfl,h1,h2⟩:=r.seen q0 hd
     obtain ⟨w,h3,h4⟩:=at_of h2 q
     exact L2.ix_list value slice pins s σ H _ _ v u Q I rx ry ⟨a,vs,i,w,rfl,rfl,h1,h3,PostV.now p r h4⟩ hs
  | str x=>exact ix_K (ky:=.str x) I r hd he rx ry p hs
  | _=>exact (show False from p).elim
 | _=>exact (show False from p).elim
theorem d_ix {a b:Expr} {ca cb:CE} {pos:Pos} (ha:PE X a (tD X.K W (den F ca))) (hb:PE X b (tD X.K W (den F cb))) (hs:L2.PlainIx b):PE X (.Subscript a b pos) (tD X.K W (den F (.bi .ix ca cb))):=PE.imp (L2.pe_ix ix_D ha hb hs) fun _ _ _ t=>two t
theorem qLk:L2.UnR X (unaryOp .USub) (rU X.K .neg):=by
 rintro pins s σ H x v Q I rx ⟨w,ρ,h,d,r,hd,p⟩
 cases d with
 | int i=>cases hd;exact L2.un_neg pins s σ H _ v Q I rx ⟨i,rfl,PostV.now p r rfl⟩
 | _=>exact (show False from p).elim
theorem d_neg {a:Expr} {ca:CE} {pos:Pos} (ha:PE X a (tD X.K W (den F ca))):PE X (.UnaryOp .USub a pos) (tD X.K W (den F (.un .neg ca))):=PE.imp (L2.pe_un qLk ha) fun _ _ _ t=>one t
theorem qJh:CallR X (.builtin "len") (rC X.K .len):=by
 rintro pins s σ H xs us Q I rv ⟨x,rfl,w,ρ,h,d,r,hd,p⟩
 cases d with
 | str x =>
  cases hd
  obtain ⟨hz,p⟩:=PostV.ite (c:=x.length≤16777216) p
  exact L2.call_len pins s σ H _ us Q I rv ⟨_,x.length,rfl,⟨by rw [qAz,szEq];exact hz,by rw [qAz]⟩,PostV.now p r rfl⟩
 | tup ys =>
  obtain ⟨a,vs,rfl,h1,h2⟩:=hd
  exact L2.call_len pins s σ H _ us Q I rv ⟨_,ys.length,rfl,.inr ⟨vs,h1,h2.length.symm⟩,PostV.now (h:=h) p r rfl⟩
 | ref i =>
  have p:PostV X.K w Q ρ H (match getL h i with | some xs=>.ok (.int xs.length) h | none=>.bad):=p
  cases q:getL h i with
  | none=>rw [q] at p;exact False.elim p
  | some ys =>
   rw [q] at p
   obtain ⟨a,vs,rfl,h1,h2⟩:=r.seen q hd
   exact L2.call_len pins s σ H _ us Q I rv ⟨_,ys.length,rfl,.inl ⟨vs,h1,h2.length.symm⟩,PostV.now p r rfl⟩
 | _=>exact (show False from p).elim
theorem qJj:CallR X (.type "int") (rC X.K .int):=by
 rintro pins s σ H xs us Q I rv ⟨x,rfl,w,ρ,h,d,r,hd,p⟩
 cases d with
 | int i=>cases hd;exact L2.call_int1 pins s σ H _ us Q I rv (.inl ⟨i,rfl,PostV.now (h:=h) p r rfl⟩)
 | bl b=>cases hd;exact L2.call_int1 pins s σ H _ us Q I rv (.inr ⟨b,rfl,PostV.now (h:=h) p r rfl⟩)
 | str x =>
  cases hd
  obtain ⟨hc,p⟩:=PostV.ite (c:=x≠[]∧x.length≤640∧isDig x=true) p
  obtain ⟨h1,h2,h3⟩:=hc
  obtain ⟨u,rfl,t,rfl⟩:=L2.vals1 rv
  have hd:PySem.NumText.AllDigits x:=fun c hc=>by
   have:=List.all_eq_true.mp h3 c hc
   exact of_decide_eq_true this
  exact PySem.W.KIN.call_text (PySem.intText_digits (x:=⟨x.toArray⟩) hd h1 (by rw [qAz];omega)) (by rw [qAz];exact h2) ⟨.int _,H,I.tok _,⟨_,rfl⟩,PostV.now p r rfl⟩
 | _=>exact (show False from p).elim
theorem qGg:CallR X (.type "tuple") (rC X.K .tuple):=by
 rintro pins s σ H xs us Q I rv ⟨x,rfl,w,ρ,h,d,r,hd,p⟩
 cases d with
 | tup ys =>
  obtain ⟨a,vs,rfl,h1,h2⟩:=hd
  exact L2.call_tuple_of pins s σ H _ us Q I rv ⟨a,vs,rfl,.inr ⟨h1,PostV.now (h:=h) p r ⟨a,vs,rfl,h1,h2⟩⟩⟩
 | ref i =>
  have p:PostV X.K w Q ρ H (match getL h i with | some xs=>.ok (.tup xs) h | none=>.bad):=p
  cases q:getL h i with
  | none=>rw [q] at p;exact False.elim p
  | some ys =>
   rw [q] at p
   obtain ⟨a,vs,rfl,h1,h2⟩:=r.seen q hd
   exact L2.call_tuple_of pins s σ H _ us Q I rv ⟨a,vs,rfl,.inl ⟨h1,PostV.newT p r h2⟩⟩
 | _=>exact (show False from p).elim
theorem qHv (hc:X.calm=true):CallR X (.builtin "min") (rC2 X.K .min2):=by
 rintro pins s σ H xs us Q I rv ⟨x,y,rfl,w,ρ,h,d,e,r,hd,he,p⟩
 cases d with
 | int i =>
  cases e with
  | int j=>cases hd;cases he;exact L2.call_min2 hc pins s σ H _ us Q I rv ⟨i,j,rfl,PostV.now (h:=h) p r rfl⟩
  | _=>exact (show False from p).elim
 | _=>exact (show False from p).elim
theorem qHw (hc:X.calm=true):CallR X (.builtin "max") (rC2 X.K .max2):=by
 rintro pins s σ H xs us Q I rv ⟨x,y,rfl,w,ρ,h,d,e,r,hd,he,p⟩
 cases d with
 | int i =>
  cases e with
  | int j=>cases hd;cases he;exact L2.call_max2 hc pins s σ H _ us Q I rv ⟨i,j,rfl,PostV.now (h:=h) p r rfl⟩
  | _=>exact (show False from p).elim
 | _=>exact (show False from p).elim
theorem isNI {ca:CE} {σ:L2.St} {H:Hp} {Q:VK} (t:tD X.K W (den F (.un .isN ca)) σ H Q):L2.tIsN (tD X.K W (den F ca)) σ H Q:=by
 obtain ⟨ρ,env,h,s,r,p⟩:=one t
 refine ⟨ρ,env,h,s,r,Post.imp p fun ρ' H' d q v hv=>?_⟩
 obtain ⟨w1,ρ1,h1,d1,r1,hd1,p1⟩:=q v hv
 have e:=PostV.now (h:=h1) p1 r1 (v:=.bl (decide (v=.non))) (by
  cases d1 <;> first
   | (cases hd1;rfl)
   | (obtain ⟨a,vs,rfl,_⟩:=hd1;rfl)
   | (obtain ⟨a,_,rfl⟩:=hd1;rfl))
 exact e
theorem notNI {ca:CE} {σ:L2.St} {H:Hp} {Q:VK} (t:tD X.K W (den F (.un .notN ca)) σ H Q):L2.tNotN (tD X.K W (den F ca)) σ H Q:=by
 obtain ⟨ρ,env,h,s,r,p⟩:=one t
 refine ⟨ρ,env,h,s,r,Post.imp p fun ρ' H' d q v hv=>?_⟩
 obtain ⟨w1,ρ1,h1,d1,r1,hd1,p1⟩:=q v hv
 have e:=PostV.now (h:=h1) p1 r1 (v:=.bl (!decide (v=.non))) (by
  cases d1 <;> first
   | (cases hd1;rfl)
   | (obtain ⟨a,vs,rfl,_⟩:=hd1;rfl)
   | (obtain ⟨a,_,rfl⟩:=hd1;rfl))
 exact e
theorem un_bl {o:Un} (ho:o=.isN∨o=.notN) {ca:CE} (env:Env) (h:AH) (d:D) (h':AH) (e:den F (.un o ca) env h=.ok d h'):∃ k,d=.bl k:=by
 rw [den] at e
 obtain ⟨x,g1,_,e⟩:=bind_ok e
 rcases ho with rfl | rfl <;> (cases e;exact ⟨_,rfl⟩)
theorem d_isN {a:Expr} {ca:CE} {j:Nat} {pos pos':Pos} (ha:PE X a (tD X.K W (den F ca))):PE X (.Compare a [.Is] [.Constant .none j pos'] pos) (tD X.K W (den F (.un .isN ca))):=PE.imp (L2.pe_cmp (L2.pc_isN ha)) fun σ H Q t=>isNI t
theorem qPX {a:Expr} {ca:CE} {j:Nat} {pos pos':Pos} (ha:PE X a (tD X.K W (den F ca))):PE X (.Compare a [.IsNot] [.Constant .none j pos'] pos) (tD X.K W (den F (.un .notN ca))):=PE.imp (L2.pe_cmp (L2.pc_notN ha)) fun σ H Q t=>notNI t
theorem qPQ {a:Expr} {ca:CE} {j:Nat} {pos pos':Pos} (ha:PE X a (tD X.K W (den F ca))):PT X (.Compare a [.Is] [.Constant .none j pos'] pos) (tDT X.K W (denT F (.val (.un .isN ca)))):=PT.imp (L2.pt_cmp (L2.pc_isN ha)) fun σ H Q t=>isNI (valI (un_bl (.inl rfl)) t)
theorem qNA {a:Expr} {ca:CE} {j:Nat} {pos pos':Pos} (ha:PE X a (tD X.K W (den F ca))):PT X (.Compare a [.IsNot] [.Constant .none j pos'] pos) (tDT X.K W (denT F (.val (.un .notN ca)))):=PT.imp (L2.pt_cmp (L2.pc_notN ha)) fun σ H Q t=>notNI (valI (un_bl (.inr rfl)) t)
end
end Fy
set_option Elab.async false
set_option linter.all false
set_option maxRecDepth 100000
set_option maxHeartbeats 4000000
namespace Fy
open PySem PySem.Spec PyProof.Rows
open L2 (V Hp HO VK TE TT TA TS TI Cx Inv RelV Vals SqL SqT Rd upd qAA qAB PE PT PA PS PSs EP OpR CallR IxR MtR SlR PO TO PI PG PIE Turn FpOk Ends)
section
variable {X:Cx} {F:Nat→List D→M D} {B:Nat} {W:WX}
theorem PS.nox {st:Stmt} {t:TS} (h:PS X.nox st t):PS X st t:=fun pins s σ H D I hw =>
 wpAny_mono (h pins s σ H D (I.wish _) hw) (fun _ _ q=>q.unwish) fun _ _ z=>False.elim z
theorem qL4 {c:Expr} {body:List Stmt} {pos:Pos} {cc:CT} {cb:CS} (hc:PT X.nox c (tDT X.K WF (denT F cc))) (hb:PSs X.nox body (tDS X.K WF (denS F B cb))) :
    PS X (.While c body [] pos) (tDS X.K W (denS F B (.whil cc cb))):=PS.imp (PS.nox (L2.ps_while PassesOwn.never hc hb)) fun E σ H q=>by
  obtain ⟨ρ,env,h,s,r,p⟩:=q
  rw [denS] at p
  refine ⟨fun m σ' H'=>∃ ρ' env' h',RepS X.K ρ' H' env' σ'∧RepH X.K ρ' h' H'∧PostS X.K W E ρ' H' (qBV (denT F cc) (denS F B cb) m env' h'),⟨B,ρ,env,h,s,r,p⟩,?_⟩
  rintro m σ' H' ⟨ρ',env',h',s',r',p'⟩
  cases m with
  | zero=>exact False.elim p'
  | succ m =>
    rw [qBV] at p'
    refine ⟨ρ',env',h',s',r',?_⟩
    cases q:denT F cc env' h' with
    | ok k g =>
      rw [q] at p'
      intro ρ1 H1 e1 r1
      have q1:=PostS.mono p' e1
      cases k with
      | true =>
        refine L2.iteT ⟨fun σ2 H2=>∃ ρ2 env2 h2,RepS X.K ρ2 H2 env2 σ2∧RepH X.K ρ2 h2 H2∧PostS X.K W E ρ2 H2 (qBV (denT F cc) (denS F B cb) m env2 h2),fun σ2 H2 z=>⟨m,Nat.lt_succ_self _,z⟩,?_⟩
        exact ⟨ρ1,env',g,s'.mono e1,r1,PostS.turn q1 fun ρ2 H2 env2 h2 st e2 r2 s2 p2=>⟨ρ2,env2,h2,s2,r2,p2⟩⟩
      | false=>exact L2.iteF (q1 ρ1 H1 σ' (Step.refl _ _) r1 (s'.mono e1))
    | exc _ _=>rw [q] at p';exact False.elim p'
    | bad=>rw [q] at p';exact False.elim p'
theorem qPP {a:Expr} {ca:CT} {pos:Pos} (ha:PT X a (tDT X.K W (denT F ca))):PT X (.UnaryOp .Not a pos) (tDT X.K W (denT F (.not ca))):=PT.imp (L2.pt_not ha) fun σ H Q t=>by
 obtain ⟨ρ,env,h,s,r,p⟩:=t
 rw [denT] at p
 exact ⟨ρ,env,h,s,r,Post.bind p fun ρ1 h1 k H1 e1 r1 q=>Post.ret q r1⟩
theorem qPN {a b:Expr} {rest:List Expr} {ca cb:CT} {pos:Pos} (ha:PT X a (tDT X.K W (denT F ca))) (hb:L2.PW X (.BoolOp .And (b::rest) pos) (tDT X.K W (denT F cb))):L2.PW X (.BoolOp .And (a::b::rest) pos) (tDT X.K W (denT F (.and ca cb))):=fun wh pins s σ H Q I t =>
 L2.pw_and ha hb wh pins s σ H Q I (by
  obtain ⟨ρ,env,h,s,r,p⟩:=t
  rw [denT] at p
  refine ⟨ρ,env,h,s,r,Post.bind p fun ρ1 h1 k H1 e1 r1 q=>?_⟩
  cases k with
  | true=>exact L2.iteT ⟨ρ1,env,h1,s.mono e1,r1,q⟩
  | false=>exact L2.iteF (Post.ret q r1))
theorem dw_or {a b:Expr} {rest:List Expr} {ca cb:CT} {pos:Pos} (ha:PT X a (tDT X.K W (denT F ca))) (hb:L2.PW X (.BoolOp .Or (b::rest) pos) (tDT X.K W (denT F cb))):L2.PW X (.BoolOp .Or (a::b::rest) pos) (tDT X.K W (denT F (.or ca cb))):=fun wh pins s σ H Q I t =>
 L2.pw_or ha hb wh pins s σ H Q I (by
  obtain ⟨ρ,env,h,s,r,p⟩:=t
  rw [denT] at p
  refine ⟨ρ,env,h,s,r,Post.bind p fun ρ1 h1 k H1 e1 r1 q=>?_⟩
  cases k with
  | true=>exact L2.iteT (Post.ret q r1)
  | false=>exact L2.iteF ⟨ρ1,env,h1,s.mono e1,r1,q⟩)
end
end Fy
set_option Elab.async false
set_option linter.all false
set_option maxRecDepth 100000
set_option maxHeartbeats 4000000
namespace Fy
open PySem PySem.Spec PyProof.Rows PySem.SeqAt
open L2 (V Hp HO VK TE TT TA TS TI Cx Inv RelV Vals SqL SqT Rd upd qAA qAB PE PT PA PS PSs EP OpR CallR IxR MtR SlR PO TO PI PG PIE Turn FpOk Ends)
noncomputable def pairB (f:D→D→Option Bool) (xs ys:List D) (j:Nat):Bool:=match xs[j]?,ys[j]? with
 | some x,some y=>(f x y).getD false
 | _,_=>false
theorem qEk {f:D→D→Option Bool}:∀ {xs ys:List D} {b:Bool},eqW f xs ys=some b →
    (∀ j x y,xs[j]?=some x→ys[j]?=some y→f x y=some (pairB f xs ys j))∧b=((List.range (min xs.length ys.length)).all (pairB f xs ys)&&(xs.length == ys.length))
  | [],[],b,e=>by
    cases e
    exact ⟨fun j x y h=>by simp at h,rfl⟩
  | [],y::ys,b,e=>by
    cases e
    exact ⟨fun j x y h=>by simp at h,by simp⟩
  | x::xs,[],b,e=>by
    cases e
    exact ⟨fun j x y _ h=>by simp at h,by simp⟩
  | x::xs,y::ys,b,e=>by
    unfold eqW at e
    cases e1:f x y with
    | none=>rw [e1] at e;cases e
    | some c =>
      cases e2:eqW f xs ys with
      | none=>rw [e1,e2] at e;cases e
      | some d =>
        rw [e1,e2] at e
        cases e
        obtain ⟨h1,h2⟩:=qEk e2
        refine ⟨fun j x' y' hx hy=>?_,?_⟩
        · cases j with
          | zero =>
            cases hx
            cases hy
            show f x y=some ((f x y).getD false)
            rw [e1]
            rfl
          | succ j=>exact h1 j x' y' (by simpa using hx) (by simpa using hy)
        · rw [h2]
          have e3:pairB f (x::xs) (y::ys) 0=c:=by
            show (f x y).getD false=c
            rw [e1]
            rfl
          have e4:∀ j,pairB f (x::xs) (y::ys) (j+1)=pairB f xs ys j:=fun j=>by
            unfold pairB
            simp
          have e5:min (x::xs).length (y::ys).length=min xs.length ys.length+1:=by simp
          rw [e5,List.range_succ_eq_map,List.all_cons,e3,List.all_map]
          have e6:(pairB f (x::xs) (y::ys) ∘ Nat.succ)=pairB f xs ys:=funext e4
          rw [e6]
          simp [Bool.and_assoc]
section
variable {X:Cx} {pins:List (Addr × Obj)} {σ:L2.St} {H:Hp} {s:Shared} {ρ:List Addr} {h:AH}
theorem qI1 {y:D} (h:RepV X.K ρ H y .non):y=.non:=by
 cases y with
 | non=>rfl
 | tup xs=>obtain ⟨_,_,z,_⟩:=h;cases z
 | ref i=>obtain ⟨_,_,z⟩:=h;cases z
 | _=>cases h
theorem qLY {y:D} {c:Bool} (h:RepV X.K ρ H y (.bl c)):y=.bl c:=by
 cases y with
 | bl d=>cases h;rfl
 | tup xs=>obtain ⟨_,_,z,_⟩:=h;cases z
 | ref i=>obtain ⟨_,_,z⟩:=h;cases z
 | _=>cases h
theorem qI2 {y:D} {c:Int} (h:RepV X.K ρ H y (.int c)):y=.int c:=by
 cases y with
 | int d=>cases h;rfl
 | tup xs=>obtain ⟨_,_,z,_⟩:=h;cases z
 | ref i=>obtain ⟨_,_,z⟩:=h;cases z
 | _=>cases h
theorem qIz {y:D} {c:Tx} (h:RepV X.K ρ H y (.str ⟨c.toArray⟩)):y=.str c:=by
 cases y with
 | str d =>
  have z:V.str ⟨c.toArray⟩=V.str ⟨d.toArray⟩:=h
  have z:c.toArray=d.toArray:=by injection z with z;injection z
  have z:c=d:=by simpa using congrArg Array.toList z
  rw [z]
 | tup xs=>obtain ⟨_,_,z,_⟩:=h;cases z
 | ref i=>obtain ⟨_,_,z⟩:=h;cases z
 | _=>cases h
theorem qE7 {y:D} {a:Addr} (h:RepV X.K ρ H y (.ref a)):(∃ ys vs,y=.tup ys∧SqT X.K H a vs∧RepL X.K ρ H ys vs)∨∃ j,y=.ref j∧ρ[j]?=some a:=by
 cases y with
 | tup xs=>obtain ⟨_,vs,z,h1,h2⟩:=h;cases z;exact .inl ⟨xs,vs,rfl,h1,h2⟩
 | ref i=>obtain ⟨_,h1,z⟩:=h;cases z;exact .inr ⟨i,rfl,h1⟩
 | _=>cases h
theorem qEv {x:D} {v:V} {vv:Value} (h:RepV X.K ρ H x v) (r:RelV v vv):vv=.none∨(∃ c,vv=.bool c)∨(∃ c t,vv=.int c t)∨(∃ c t,vv=.str c t)∨∃ c,vv=.ref c:=by
 cases x with
 | non=>cases h;exact .inl r
 | bl c=>cases h;exact .inr (.inl ⟨c,r⟩)
 | int c=>cases h;obtain ⟨t,r⟩:=r;exact .inr (.inr (.inl ⟨c,t,r⟩))
 | str c=>cases h;obtain ⟨t,r⟩:=r;exact .inr (.inr (.inr (.inl ⟨_,t,r⟩)))
 | tup xs=>obtain ⟨a,_,rfl,_⟩:=h;exact .inr (.inr (.inr (.inr ⟨a,r⟩)))
 | ref i=>obtain ⟨a,_,rfl⟩:=h;exact .inr (.inr (.inr (.inr ⟨a,r⟩)))
theorem qBW {a:Addr} {vs ws:List V} (I:Inv X pins σ H s) (ht:SqT X.K H a vs) (hl:SqL X.K H a ws):False:=by
 obtain ⟨its,_,⟨o,h1,h2,_⟩,_⟩:=I.tuple ht
 obtain ⟨its2,_,⟨o2,n,k1,k2,_⟩,_⟩:=I.list hl
 rw [h1] at k1
 cases k1
 rw [h2] at k2
 exact absurd k2 (by decide)
theorem qIJ (I:Inv X pins σ H s) (r:RepH X.K ρ h H):∀ (n:Nat) (x y:D) (b:Bool) (v:V),eqD h n x y=some b→RepV X.K ρ H x v→RepV X.K ρ H y v→b=true:=by
 intro n
 have rows:∀ m,(∀ (x y:D) (b:Bool) (v:V),eqD h m x y=some b→RepV X.K ρ H x v→RepV X.K ρ H y v→b=true)→∀ (xs ys:List D) (b:Bool) (vs:List V),eqW (eqD h m) xs ys=some b→RepL X.K ρ H xs vs→RepL X.K ρ H ys vs→b=true:=by
  intro m ih xs
  induction xs with
  | nil =>
   intro ys b vs e hx hy
   cases hx
   cases ys with
   | nil=>cases e;rfl
   | cons y ys=>obtain ⟨_,_,z,_⟩:=hy;cases z
  | cons x xs ihx =>
   intro ys b vs e hx hy
   obtain ⟨v,rest,rfl,h1,h2⟩:=hx
   cases ys with
   | nil=>cases hy
   | cons y ys =>
    obtain ⟨v',rest',z,k1,k2⟩:=hy
    cases z
    unfold eqW at e
    cases e1:eqD h m x y with
    | none=>rw [e1] at e;cases e
    | some c =>
     cases e2:eqW (eqD h m) xs ys with
     | none=>rw [e1,e2] at e;cases e
     | some d =>
      rw [e1,e2] at e
      cases e
      rw [ih x y c v e1 h1 k1,ihx ys d rest e2 h2 k2]
      rfl
 induction n with
 | zero =>
  intro x y b v e hx hy
  cases x with
  | non=>cases hx;cases qI1 hy;cases e;rfl
  | bl c=>cases hx;cases qLY hy;cases e;simp
  | int c=>cases hx;cases qI2 hy;cases e;simp
  | str c=>cases hx;cases qIz hy;cases e;simp
  | tup xs =>
   obtain ⟨a,vs,rfl,k1,k2⟩:=hx
   rcases qE7 hy with ⟨ys,ws,rfl,k3,k4⟩ | ⟨j,rfl,k3⟩
   ·cases e
   ·have e:(getL h j).map (fun _=>false)=some b:=e
    cases q:getL h j with
    | none=>rw [q] at e;cases e
    | some zs =>
     obtain ⟨a',ws,k5,k6,_⟩:=r.list q
     rw [k3] at k5
     cases k5
     exact (qBW I k1 k6).elim
  | ref i =>
   obtain ⟨a,k1,rfl⟩:=hx
   rcases qE7 hy with ⟨ys,ws,rfl,k3,k4⟩ | ⟨j,rfl,k3⟩
   ·have e:(getL h i).map (fun _=>false)=some b:=e
    cases q:getL h i with
    | none=>rw [q] at e;cases e
    | some zs =>
     obtain ⟨a',ws',k5,k6,_⟩:=r.list q
     rw [k1] at k5
     cases k5
     exact (qBW I k3 k6).elim
   ·cases e
 | succ n ih =>
  intro x y b v e hx hy
  cases x with
  | non=>cases hx;cases qI1 hy;cases e;rfl
  | bl c=>cases hx;cases qLY hy;cases e;simp
  | int c=>cases hx;cases qI2 hy;cases e;simp
  | str c=>cases hx;cases qIz hy;cases e;simp
  | tup xs =>
   obtain ⟨a,vs,rfl,k1,k2⟩:=hx
   rcases qE7 hy with ⟨ys,ws,rfl,k3,k4⟩ | ⟨j,rfl,k3⟩
   ·have:=I.tuple_inj k1 k3
    subst this
    exact rows n ih xs ys b vs e k2 k4
   ·have e:(getL h j).map (fun _=>false)=some b:=e
    cases q:getL h j with
    | none=>rw [q] at e;cases e
    | some zs =>
     obtain ⟨a',ws,k5,k6,_⟩:=r.list q
     rw [k3] at k5
     cases k5
     exact (qBW I k1 k6).elim
  | ref i =>
   obtain ⟨a,k1,rfl⟩:=hx
   rcases qE7 hy with ⟨ys,ws,rfl,k3,k4⟩ | ⟨j,rfl,k3⟩
   ·have e:(getL h i).map (fun _=>false)=some b:=e
    cases q:getL h i with
    | none=>rw [q] at e;cases e
    | some zs =>
     obtain ⟨a',ws',k5,k6,_⟩:=r.list q
     rw [k1] at k5
     cases k5
     exact (qBW I k3 k6).elim
   ·have e:(match getL h i,getL h j with | some xs,some ys=>eqW (eqD h n) xs ys | _,_=>none)=some b:=e
    cases q:getL h i with
    | none=>rw [q] at e;cases e
    | some xs =>
     cases q2:getL h j with
     | none=>rw [q,q2] at e;cases e
     | some ys =>
      rw [q,q2] at e
      obtain ⟨a1,vs,m1,m2,m3⟩:=r.list q
      obtain ⟨a2,ws,n1,n2,n3⟩:=r.list q2
      rw [k1] at m1
      rw [k3] at n1
      cases m1
      cases n1
      have:=I.list_inj m2 n2
      subst this
      exact rows n ih xs ys b vs e m3 n3
theorem eqOf (I:Inv X pins σ H s) (r:RepH X.K ρ h H):∀ (m:Nat),(∀ (x y:D) (b:Bool) (v u:V) (vv uu:Value) (A:Around),eqD h m x y=some b→RepV X.K ρ H x v→RepV X.K ρ H y u→RelV v vv→RelV u uu→A.units+m<cLine→RcAt A s vv uu b) →
    ∀ (x y:D) (b:Bool) (v u:V) (vv uu:Value) (A:Around),eqD h m x y=some b→RepV X.K ρ H x v→RepV X.K ρ H y u→RelV v vv→RelV u uu→A.units+m<cLine→EqAt A s vv uu b:=by
  intro m ih x y b v u vv uu A e hx hy rv ru hu prog w E Q hq
  unfold eqBool
  refine wpAny_holding ?_
  refine wpAny_ite_split (fun hab=>?_) (fun _=>?_)
  · have hab:=eq_of_beq hab
    subst hab
    have:=rv.inj ru
    subst this
    have:=qIJ I r m x y b v e hx hy
    subst this
    exact wpAny_bind (wpAny_rule (wpAny_pure hq))
  · have go:=ih x y b v u vv uu A e hx hy rv ru hu prog w E (fun c s'=>wpAny (model prog w) A (truthOfDropped c) Q E s') (wpAny_truthy_bool hq)
    rcases qEv hx rv with rfl | ⟨c,rfl⟩ | ⟨c,t,rfl⟩ | ⟨c,t,rfl⟩ | ⟨c,rfl⟩ <;> exact wpAny_bind go
theorem seqs (I:Inv X pins σ H s) (r:RepH X.K ρ h H):∀ (m:Nat) (A:Around),(∀ (x y:D) (b:Bool) (v u:V) (vv uu:Value) (A:Around),eqD h m x y=some b→RepV X.K ρ H x v→RepV X.K ρ H y u→RelV v vv→RelV u uu→A.units+m<cLine→RcAt A s vv uu b)→A.units+(m+1)<cLine →
    ∀ (xs ys:List D) (b:Bool) (vs us:List V) (its its2:List Value),eqW (eqD h m) xs ys=some b→RepL X.K ρ H xs vs→RepL X.K ρ H ys us→Vals vs its→Vals us its2 →
      (∀ j (h1:j<its.toArray.size) (h2:j<its2.toArray.size),EqAt A.in1 s its.toArray[j] its2.toArray[j] (pairB (eqD h m) xs ys j)):=by
  intro m A ih hu xs ys b vs us its its2 e hx hy rv ru j h1 h2
  obtain ⟨k1,_⟩:=qEk e
  have l1:=rv.length
  have l2:=ru.length
  have l3:=hx.length
  have l4:=hy.length
  rw [List.size_toArray] at h1 h2
  have q1:xs[j]?=some (xs[j]'(by omega)):=by simp
  have q2:ys[j]?=some (ys[j]'(by omega)):=by simp
  obtain ⟨w1,p1,p2⟩:=hx.get q1
  obtain ⟨w2,p3,p4⟩:=hy.get q2
  obtain ⟨u1,p5,p6⟩:=rv.get p1
  obtain ⟨u2,p7,p8⟩:=ru.get p3
  have f1:its.toArray[j]'(by simpa using h1)=u1:=by
    have:its[j]?=some (its[j]'h1):=by simp
    rw [this] at p5
    simpa using p5
  have f2:its2.toArray[j]'(by simpa using h2)=u2:=by
    have:its2[j]?=some (its2[j]'h2):=by simp
    rw [this] at p7
    simpa using p7
  rw [f1,f2]
  exact eqOf I r m ih _ _ _ w1 w2 u1 u2 A.in1 (k1 j _ _ q1 q2) p2 p4 p6 p8 (by show A.units+1+m<cLine;omega)
theorem eqAtD (I:Inv X pins σ H s) (r:RepH X.K ρ h H):∀ (n:Nat) (x y:D) (b:Bool) (v u:V) (vv uu:Value) (A:Around),eqD h n x y=some b→RepV X.K ρ H x v→RepV X.K ρ H y u→RelV v vv→RelV u uu→A.units+n<cLine→RcAt A s vv uu b:=by
 intro n
 have tups:∀ {l b:Addr} {vs us:List V},SqT X.K H l vs→SqT X.K H b us→∃ its its2:List Value,Vals vs its∧Vals us its2∧s.heap.IsTuple l its.toArray∧s.heap.IsTuple b its2.toArray:=fun h1 h2=>by
  obtain ⟨its,k1,k2,_⟩:=I.tuple h1
  obtain ⟨its2,k3,k4,_⟩:=I.tuple h2
  exact ⟨its,its2,k1,k3,k2,k4⟩
 have isT:∀ {l:Addr} {vs:List V},SqT X.K H l vs→∃ its:Array Value,s.heap.IsTuple l its:=fun h1=>by
  obtain ⟨its,k1,k2,_⟩:=I.tuple h1
  exact ⟨_,k2⟩
 have isL:∀ {i:Nat} {l:Addr},ρ[i]?=some l→∀ {b:Bool},(getL h i).map (fun _=>false)=some b→b=false∧∃ its:Array Value,s.heap.IsList l its:=fun {i l} k1 {b} e=>by
  cases q:getL h i with
  | none=>rw [q] at e;cases e
  | some zs =>
   rw [q] at e
   cases e
   obtain ⟨a',ws',k5,k6,_⟩:=r.list q
   rw [k1] at k5
   cases k5
   obtain ⟨its,_,p,_⟩:=I.list k6
   exact ⟨rfl,_,p.isList⟩
 have strEq:∀ {A:Around} (x y:Tx) (t t':Tok),RcAt A s (.str ⟨x.toArray⟩ t) (.str ⟨y.toArray⟩ t') (x == y):=fun x y t t'=>by
  have e:(x == y)=((⟨x.toArray⟩:Str) == (⟨y.toArray⟩:Str)):=by
   rw [Bool.eq_iff_iff]
   simp
  rw [e]
  exact RcAt.str_str _ _ _ _
 induction n with
 | zero =>
  intro x y b v u vv uu A e hx hy rv ru hu
  have hu0:A.units<cLine:=by omega
  cases x with
  | non =>
   cases y with
   | non=>cases hx;cases rv;cases hy;cases ru;cases e;exact RcAt.none_none
   | bl y=>cases hx;cases rv;cases hy;cases ru;cases e;exact RcAt.none_bool _
   | int y=>cases hx;cases rv;cases hy;obtain ⟨t',rfl⟩:=ru;cases e;exact RcAt.none_int _ _
   | str y=>cases hx;cases rv;cases hy;obtain ⟨t',rfl⟩:=ru;cases e;exact RcAt.none_str _ _
   | tup y=>cases hx;cases rv;obtain ⟨a2,us,rfl,m1,m2⟩:=hy;cases ru;cases e;obtain ⟨_,T⟩:=isT m1;exact RcAt.none_tuple T hu0
   | ref y=>cases hx;cases rv;obtain ⟨a2,m1,rfl⟩:=hy;cases ru;obtain ⟨rfl,_,T⟩:=isL m1 e;exact RcAt.none_list T hu0
  | bl x =>
   cases y with
   | non=>cases hx;cases rv;cases hy;cases ru;cases e;exact RcAt.bool_none _
   | bl y=>cases hx;cases rv;cases hy;cases ru;cases e;exact RcAt.bool_bool _ _
   | int y=>cases hx;cases rv;cases hy;obtain ⟨t',rfl⟩:=ru;cases e;exact RcAt.bool_int _ _ _
   | str y=>cases hx;cases rv;cases hy;obtain ⟨t',rfl⟩:=ru;cases e;exact RcAt.bool_str _ _ _
   | tup y=>cases hx;cases rv;obtain ⟨a2,us,rfl,m1,m2⟩:=hy;cases ru;cases e;obtain ⟨_,T⟩:=isT m1;exact RcAt.bool_tuple _ T hu0
   | ref y=>cases hx;cases rv;obtain ⟨a2,m1,rfl⟩:=hy;cases ru;obtain ⟨rfl,_,T⟩:=isL m1 e;exact RcAt.bool_list _ T hu0
  | int x =>
   cases y with
   | non=>cases hx;obtain ⟨t,rfl⟩:=rv;cases hy;cases ru;cases e;exact RcAt.int_none _ _
   | bl y=>cases hx;obtain ⟨t,rfl⟩:=rv;cases hy;cases ru;cases e;exact RcAt.int_bool _ _ _
   | int y=>cases hx;obtain ⟨t,rfl⟩:=rv;cases hy;obtain ⟨t',rfl⟩:=ru;cases e;exact RcAt.int_int _ _ _ _
   | str y=>cases hx;obtain ⟨t,rfl⟩:=rv;cases hy;obtain ⟨t',rfl⟩:=ru;cases e;exact RcAt.int_str _ _ _ _
   | tup y=>cases hx;obtain ⟨t,rfl⟩:=rv;obtain ⟨a2,us,rfl,m1,m2⟩:=hy;cases ru;cases e;obtain ⟨_,T⟩:=isT m1;exact RcAt.int_tuple _ _ T hu0
   | ref y=>cases hx;obtain ⟨t,rfl⟩:=rv;obtain ⟨a2,m1,rfl⟩:=hy;cases ru;obtain ⟨rfl,_,T⟩:=isL m1 e;exact RcAt.int_list _ _ T hu0
  | str x =>
   cases y with
   | non=>cases hx;obtain ⟨t,rfl⟩:=rv;cases hy;cases ru;cases e;exact RcAt.str_none _ _
   | bl y=>cases hx;obtain ⟨t,rfl⟩:=rv;cases hy;cases ru;cases e;exact RcAt.str_bool _ _ _
   | int y=>cases hx;obtain ⟨t,rfl⟩:=rv;cases hy;obtain ⟨t',rfl⟩:=ru;cases e;exact RcAt.str_int _ _ _ _
   | str y=>cases hx;obtain ⟨t,rfl⟩:=rv;cases hy;obtain ⟨t',rfl⟩:=ru;cases e;exact strEq _ _ _ _
   | tup y=>cases hx;obtain ⟨t,rfl⟩:=rv;obtain ⟨a2,us,rfl,m1,m2⟩:=hy;cases ru;cases e;obtain ⟨_,T⟩:=isT m1;exact RcAt.str_tuple _ _ T hu0
   | ref y=>cases hx;obtain ⟨t,rfl⟩:=rv;obtain ⟨a2,m1,rfl⟩:=hy;cases ru;obtain ⟨rfl,_,T⟩:=isL m1 e;exact RcAt.str_list _ _ T hu0
  | tup x =>
   cases y with
   | non=>obtain ⟨a,vs,rfl,k1,k2⟩:=hx;cases rv;cases hy;cases ru;cases e;obtain ⟨_,T⟩:=isT k1;exact RcAt.tuple_none T hu0
   | bl y=>obtain ⟨a,vs,rfl,k1,k2⟩:=hx;cases rv;cases hy;cases ru;cases e;obtain ⟨_,T⟩:=isT k1;exact RcAt.tuple_bool _ T hu0
   | int y=>obtain ⟨a,vs,rfl,k1,k2⟩:=hx;cases rv;cases hy;obtain ⟨t',rfl⟩:=ru;cases e;obtain ⟨_,T⟩:=isT k1;exact RcAt.tuple_int _ _ T hu0
   | str y=>obtain ⟨a,vs,rfl,k1,k2⟩:=hx;cases rv;cases hy;obtain ⟨t',rfl⟩:=ru;cases e;obtain ⟨_,T⟩:=isT k1;exact RcAt.tuple_str _ _ T hu0
   | tup y=>cases e
   | ref y=>obtain ⟨a,vs,rfl,k1,k2⟩:=hx;cases rv;obtain ⟨a2,m1,rfl⟩:=hy;cases ru;obtain ⟨rfl,_,T⟩:=isL m1 e;obtain ⟨_,U⟩:=isT k1;exact RcAt.tuple_list U T hu0
  | ref x =>
   cases y with
   | non=>obtain ⟨a,k1,rfl⟩:=hx;cases rv;cases hy;cases ru;obtain ⟨rfl,_,T⟩:=isL k1 e;exact RcAt.list_none T hu0
   | bl y=>obtain ⟨a,k1,rfl⟩:=hx;cases rv;cases hy;cases ru;obtain ⟨rfl,_,T⟩:=isL k1 e;exact RcAt.list_bool _ T hu0
   | int y=>obtain ⟨a,k1,rfl⟩:=hx;cases rv;cases hy;obtain ⟨t',rfl⟩:=ru;obtain ⟨rfl,_,T⟩:=isL k1 e;exact RcAt.list_int _ _ T hu0
   | str y=>obtain ⟨a,k1,rfl⟩:=hx;cases rv;cases hy;obtain ⟨t',rfl⟩:=ru;obtain ⟨rfl,_,T⟩:=isL k1 e;exact RcAt.list_str _ _ T hu0
   | tup y=>obtain ⟨a,k1,rfl⟩:=hx;cases rv;obtain ⟨a2,us,rfl,m1,m2⟩:=hy;cases ru;obtain ⟨rfl,_,T⟩:=isL k1 e;obtain ⟨_,U⟩:=isT m1;exact RcAt.list_tuple T U hu0
   | ref y=>cases e
 | succ n ih =>
  intro x y b v u vv uu A e hx hy rv ru hu
  have hu0:A.units<cLine:=by omega
  have tt:∀ {a a2:Addr} {vs us:List V} {xs ys:List D},SqT X.K H a vs→SqT X.K H a2 us→RepL X.K ρ H xs vs→RepL X.K ρ H ys us→eqW (eqD h n) xs ys=some b→RcAt A s (.ref a) (.ref a2) b:=fun k1 m1 k2 m2 e=>by
   obtain ⟨its,its2,q1,q2,q3,q4⟩:=tups k1 m1
   have:=RcAt.tuples (e:=pairB (eqD h n) _ _) q3 q4 hu0 (seqs I r n A ih (by omega) _ _ b _ _ its its2 e k2 m2 q1 q2)
   obtain ⟨_,eb⟩:=qEk e
   rw [eb]
   have l1:=q1.length
   have l2:=q2.length
   have l3:=k2.length
   have l4:=m2.length
   rw [List.size_toArray,List.size_toArray,← l1,← l2,l3,l4] at this
   exact this
  have ll:∀ {i j:Nat} {a a2:Addr},ρ[i]?=some a→ρ[j]?=some a2→(match getL h i,getL h j with | some xs,some ys=>eqW (eqD h n) xs ys | _,_=>none)=some b→RcAt A s (.ref a) (.ref a2) b:=fun {i j a a2} k1 m1 e=>by
   cases q:getL h i with
   | none=>rw [q] at e;cases e
   | some xs =>
    cases q2:getL h j with
    | none=>rw [q,q2] at e;cases e
    | some ys =>
     rw [q,q2] at e
     obtain ⟨a1,vs,p1,p2,p3⟩:=r.list q
     obtain ⟨a2',us,o1,o2,o3⟩:=r.list q2
     rw [k1] at p1
     rw [m1] at o1
     cases p1
     cases o1
     obtain ⟨its,r1,pl1,_⟩:=I.list p2
     obtain ⟨its2,r2,pl2,_⟩:=I.list o2
     have l1:=r1.length
     have l2:=r2.length
     have l3:=p3.length
     have l4:=o3.length
     obtain ⟨_,eb⟩:=qEk e
     rw [eb]
     by_cases hsz:xs.length=ys.length
     ·have:=RcAt.lists (e:=pairB (eqD h n) xs ys) pl1.isList pl2.isList (by rw [List.size_toArray,List.size_toArray];omega) hu0 (seqs I r n A ih (by omega) _ _ b _ _ its its2 e p3 o3 r1 r2)
      rw [List.size_toArray,← l1,l3] at this
      rw [← hsz,Nat.min_self,beq_self_eq_true,Bool.and_true]
      exact this
     ·have e2:(xs.length == ys.length)=false:=by simpa using hsz
      rw [e2,Bool.and_false]
      exact RcAt.lists_lengths pl1.isList pl2.isList (by rw [List.size_toArray,List.size_toArray,← l1,← l2,l3,l4];simpa using hsz) hu0
  cases x with
  | non =>
   cases y with
   | non=>cases hx;cases rv;cases hy;cases ru;cases e;exact RcAt.none_none
   | bl y=>cases hx;cases rv;cases hy;cases ru;cases e;exact RcAt.none_bool _
   | int y=>cases hx;cases rv;cases hy;obtain ⟨t',rfl⟩:=ru;cases e;exact RcAt.none_int _ _
   | str y=>cases hx;cases rv;cases hy;obtain ⟨t',rfl⟩:=ru;cases e;exact RcAt.none_str _ _
   | tup y=>cases hx;cases rv;obtain ⟨a2,us,rfl,m1,m2⟩:=hy;cases ru;cases e;obtain ⟨_,T⟩:=isT m1;exact RcAt.none_tuple T hu0
   | ref y=>cases hx;cases rv;obtain ⟨a2,m1,rfl⟩:=hy;cases ru;obtain ⟨rfl,_,T⟩:=isL m1 e;exact RcAt.none_list T hu0
  | bl x =>
   cases y with
   | non=>cases hx;cases rv;cases hy;cases ru;cases e;exact RcAt.bool_none _
   | bl y=>cases hx;cases rv;cases hy;cases ru;cases e;exact RcAt.bool_bool _ _
   | int y=>cases hx;cases rv;cases hy;obtain ⟨t',rfl⟩:=ru;cases e;exact RcAt.bool_int _ _ _
   | str y=>cases hx;cases rv;cases hy;obtain ⟨t',rfl⟩:=ru;cases e;exact RcAt.bool_str _ _ _
   | tup y=>cases hx;cases rv;obtain ⟨a2,us,rfl,m1,m2⟩:=hy;cases ru;cases e;obtain ⟨_,T⟩:=isT m1;exact RcAt.bool_tuple _ T hu0
   | ref y=>cases hx;cases rv;obtain ⟨a2,m1,rfl⟩:=hy;cases ru;obtain ⟨rfl,_,T⟩:=isL m1 e;exact RcAt.bool_list _ T hu0
  | int x =>
   cases y with
   | non=>cases hx;obtain ⟨t,rfl⟩:=rv;cases hy;cases ru;cases e;exact RcAt.int_none _ _
   | bl y=>cases hx;obtain ⟨t,rfl⟩:=rv;cases hy;cases ru;cases e;exact RcAt.int_bool _ _ _
   | int y=>cases hx;obtain ⟨t,rfl⟩:=rv;cases hy;obtain ⟨t',rfl⟩:=ru;cases e;exact RcAt.int_int _ _ _ _
   | str y=>cases hx;obtain ⟨t,rfl⟩:=rv;cases hy;obtain ⟨t',rfl⟩:=ru;cases e;exact RcAt.int_str _ _ _ _
   | tup y=>cases hx;obtain ⟨t,rfl⟩:=rv;obtain ⟨a2,us,rfl,m1,m2⟩:=hy;cases ru;cases e;obtain ⟨_,T⟩:=isT m1;exact RcAt.int_tuple _ _ T hu0
   | ref y=>cases hx;obtain ⟨t,rfl⟩:=rv;obtain ⟨a2,m1,rfl⟩:=hy;cases ru;obtain ⟨rfl,_,T⟩:=isL m1 e;exact RcAt.int_list _ _ T hu0
  | str x =>
   cases y with
   | non=>cases hx;obtain ⟨t,rfl⟩:=rv;cases hy;cases ru;cases e;exact RcAt.str_none _ _
   | bl y=>cases hx;obtain ⟨t,rfl⟩:=rv;cases hy;cases ru;cases e;exact RcAt.str_bool _ _ _
   | int y=>cases hx;obtain ⟨t,rfl⟩:=rv;cases hy;obtain ⟨t',rfl⟩:=ru;cases e;exact RcAt.str_int _ _ _ _
   | str y=>cases hx;obtain ⟨t,rfl⟩:=rv;cases hy;obtain ⟨t',rfl⟩:=ru;cases e;exact strEq _ _ _ _
   | tup y=>cases hx;obtain ⟨t,rfl⟩:=rv;obtain ⟨a2,us,rfl,m1,m2⟩:=hy;cases ru;cases e;obtain ⟨_,T⟩:=isT m1;exact RcAt.str_tuple _ _ T hu0
   | ref y=>cases hx;obtain ⟨t,rfl⟩:=rv;obtain ⟨a2,m1,rfl⟩:=hy;cases ru;obtain ⟨rfl,_,T⟩:=isL m1 e;exact RcAt.str_list _ _ T hu0
  | tup x =>
   cases y with
   | non=>obtain ⟨a,vs,rfl,k1,k2⟩:=hx;cases rv;cases hy;cases ru;cases e;obtain ⟨_,T⟩:=isT k1;exact RcAt.tuple_none T hu0
   | bl y=>obtain ⟨a,vs,rfl,k1,k2⟩:=hx;cases rv;cases hy;cases ru;cases e;obtain ⟨_,T⟩:=isT k1;exact RcAt.tuple_bool _ T hu0
   | int y=>obtain ⟨a,vs,rfl,k1,k2⟩:=hx;cases rv;cases hy;obtain ⟨t',rfl⟩:=ru;cases e;obtain ⟨_,T⟩:=isT k1;exact RcAt.tuple_int _ _ T hu0
   | str y=>obtain ⟨a,vs,rfl,k1,k2⟩:=hx;cases rv;cases hy;obtain ⟨t',rfl⟩:=ru;cases e;obtain ⟨_,T⟩:=isT k1;exact RcAt.tuple_str _ _ T hu0
   | tup y=>obtain ⟨a,vs,rfl,k1,k2⟩:=hx;cases rv;obtain ⟨a2,us,rfl,m1,m2⟩:=hy;cases ru;exact tt k1 m1 k2 m2 e
   | ref y=>obtain ⟨a,vs,rfl,k1,k2⟩:=hx;cases rv;obtain ⟨a2,m1,rfl⟩:=hy;cases ru;obtain ⟨rfl,_,T⟩:=isL m1 e;obtain ⟨_,U⟩:=isT k1;exact RcAt.tuple_list U T hu0
  | ref x =>
   cases y with
   | non=>obtain ⟨a,k1,rfl⟩:=hx;cases rv;cases hy;cases ru;obtain ⟨rfl,_,T⟩:=isL k1 e;exact RcAt.list_none T hu0
   | bl y=>obtain ⟨a,k1,rfl⟩:=hx;cases rv;cases hy;cases ru;obtain ⟨rfl,_,T⟩:=isL k1 e;exact RcAt.list_bool _ T hu0
   | int y=>obtain ⟨a,k1,rfl⟩:=hx;cases rv;cases hy;obtain ⟨t',rfl⟩:=ru;obtain ⟨rfl,_,T⟩:=isL k1 e;exact RcAt.list_int _ _ T hu0
   | str y=>obtain ⟨a,k1,rfl⟩:=hx;cases rv;cases hy;obtain ⟨t',rfl⟩:=ru;obtain ⟨rfl,_,T⟩:=isL k1 e;exact RcAt.list_str _ _ T hu0
   | tup y=>obtain ⟨a,k1,rfl⟩:=hx;cases rv;obtain ⟨a2,us,rfl,m1,m2⟩:=hy;cases ru;obtain ⟨rfl,_,T⟩:=isL k1 e;obtain ⟨_,U⟩:=isT m1;exact RcAt.list_tuple T U hu0
   | ref y=>obtain ⟨a,k1,rfl⟩:=hx;cases rv;obtain ⟨a2,m1,rfl⟩:=hy;cases ru;exact ll k1 m1 e
theorem neAtD (I:Inv X pins σ H s) (r:RepH X.K ρ h H):∀ (n:Nat) (x y:D) (b:Bool) (v u:V) (vv uu:Value) (A:Around),eqD h (n+1) x y=some b→RepV X.K ρ H x v→RepV X.K ρ H y u→RelV v vv→RelV u uu→A.units+(n+1)<cLine→RcNeAt A s vv uu (!b):=by
 intro n
 have tups:∀ {l b:Addr} {vs us:List V},SqT X.K H l vs→SqT X.K H b us→∃ its its2:List Value,Vals vs its∧Vals us its2∧s.heap.IsTuple l its.toArray∧s.heap.IsTuple b its2.toArray:=fun h1 h2=>by
  obtain ⟨its,k1,k2,_⟩:=I.tuple h1
  obtain ⟨its2,k3,k4,_⟩:=I.tuple h2
  exact ⟨its,its2,k1,k3,k2,k4⟩
 have isT:∀ {l:Addr} {vs:List V},SqT X.K H l vs→∃ its:Array Value,s.heap.IsTuple l its:=fun h1=>by
  obtain ⟨its,k1,k2,_⟩:=I.tuple h1
  exact ⟨_,k2⟩
 have isL:∀ {i:Nat} {l:Addr},ρ[i]?=some l→∀ {b:Bool},(getL h i).map (fun _=>false)=some b→b=false∧∃ its:Array Value,s.heap.IsList l its:=fun {i l} k1 {b} e=>by
  cases q:getL h i with
  | none=>rw [q] at e;cases e
  | some zs =>
   rw [q] at e
   cases e
   obtain ⟨a',ws',k5,k6,_⟩:=r.list q
   rw [k1] at k5
   cases k5
   obtain ⟨its,_,p,_⟩:=I.list k6
   exact ⟨rfl,_,p.isList⟩
 have strEq:∀ {A:Around} (x y:Tx) (t t':Tok),RcNeAt A s (.str ⟨x.toArray⟩ t) (.str ⟨y.toArray⟩ t') (!(x == y)):=fun x y t t'=>by
  have e:(x == y)=((⟨x.toArray⟩:Str) == (⟨y.toArray⟩:Str)):=by
   rw [Bool.eq_iff_iff]
   simp
  rw [e]
  exact RcNeAt.str_str _ _ _ _
 intro x y b v u vv uu A e hx hy rv ru hu
 have hu0:A.units<cLine:=by omega
 have tt:∀ {a a2:Addr} {vs us:List V} {xs ys:List D},SqT X.K H a vs→SqT X.K H a2 us→RepL X.K ρ H xs vs→RepL X.K ρ H ys us→eqW (eqD h n) xs ys=some b→RcNeAt A s (.ref a) (.ref a2) (!b):=fun k1 m1 k2 m2 e=>by
  obtain ⟨its,its2,q1,q2,q3,q4⟩:=tups k1 m1
  have:=RcNeAt.tuples (e:=pairB (eqD h n) _ _) q3 q4 hu0 (seqs I r n A (eqAtD I r n) (by omega) _ _ b _ _ its its2 e k2 m2 q1 q2)
  obtain ⟨_,eb⟩:=qEk e
  rw [eb]
  have l1:=q1.length
  have l2:=q2.length
  have l3:=k2.length
  have l4:=m2.length
  rw [List.size_toArray,List.size_toArray,← l1,← l2,l3,l4] at this
  exact this
 have ll:∀ {i j:Nat} {a a2:Addr},ρ[i]?=some a→ρ[j]?=some a2→(match getL h i,getL h j with | some xs,some ys=>eqW (eqD h n) xs ys | _,_=>none)=some b→RcNeAt A s (.ref a) (.ref a2) (!b):=fun {i j a a2} k1 m1 e=>by
  cases q:getL h i with
  | none=>rw [q] at e;cases e
  | some xs =>
   cases q2:getL h j with
   | none=>rw [q,q2] at e;cases e
   | some ys =>
    rw [q,q2] at e
    obtain ⟨a1,vs,p1,p2,p3⟩:=r.list q
    obtain ⟨a2',us,o1,o2,o3⟩:=r.list q2
    rw [k1] at p1
    rw [m1] at o1
    cases p1
    cases o1
    obtain ⟨its,r1,pl1,_⟩:=I.list p2
    obtain ⟨its2,r2,pl2,_⟩:=I.list o2
    have l1:=r1.length
    have l2:=r2.length
    have l3:=p3.length
    have l4:=o3.length
    obtain ⟨_,eb⟩:=qEk e
    rw [eb]
    by_cases hsz:xs.length=ys.length
    ·have:=RcNeAt.lists (e:=pairB (eqD h n) xs ys) pl1.isList pl2.isList (by rw [List.size_toArray,List.size_toArray];omega) hu0 (seqs I r n A (eqAtD I r n) (by omega) _ _ b _ _ its its2 e p3 o3 r1 r2)
     rw [List.size_toArray,← l1,l3] at this
     rw [← hsz,Nat.min_self,beq_self_eq_true,Bool.and_true]
     exact this
    ·have e2:(xs.length == ys.length)=false:=by simpa using hsz
     rw [e2,Bool.and_false]
     exact RcNeAt.lists_lengths pl1.isList pl2.isList (by rw [List.size_toArray,List.size_toArray,← l1,← l2,l3,l4];simpa using hsz) hu0
 cases x with
 | non =>
  cases y with
  | non=>cases hx;cases rv;cases hy;cases ru;cases e;exact RcNeAt.none_none
  | bl y=>cases hx;cases rv;cases hy;cases ru;cases e;exact RcNeAt.none_bool _
  | int y=>cases hx;cases rv;cases hy;obtain ⟨t',rfl⟩:=ru;cases e;exact RcNeAt.none_int _ _
  | str y=>cases hx;cases rv;cases hy;obtain ⟨t',rfl⟩:=ru;cases e;exact RcNeAt.none_str _ _
  | tup y=>cases hx;cases rv;obtain ⟨a2,us,rfl,m1,m2⟩:=hy;cases ru;cases e;obtain ⟨_,T⟩:=isT m1;exact RcNeAt.none_tuple T hu0
  | ref y=>cases hx;cases rv;obtain ⟨a2,m1,rfl⟩:=hy;cases ru;obtain ⟨rfl,_,T⟩:=isL m1 e;exact RcNeAt.none_list T hu0
 | bl x =>
  cases y with
  | non=>cases hx;cases rv;cases hy;cases ru;cases e;exact RcNeAt.bool_none _
  | bl y=>cases hx;cases rv;cases hy;cases ru;cases e;exact RcNeAt.bool_bool _ _
  | int y=>cases hx;cases rv;cases hy;obtain ⟨t',rfl⟩:=ru;cases e;exact RcNeAt.bool_int _ _ _
  | str y=>cases hx;cases rv;cases hy;obtain ⟨t',rfl⟩:=ru;cases e;exact RcNeAt.bool_str _ _ _
  | tup y=>cases hx;cases rv;obtain ⟨a2,us,rfl,m1,m2⟩:=hy;cases ru;cases e;obtain ⟨_,T⟩:=isT m1;exact RcNeAt.bool_tuple _ T hu0
  | ref y=>cases hx;cases rv;obtain ⟨a2,m1,rfl⟩:=hy;cases ru;obtain ⟨rfl,_,T⟩:=isL m1 e;exact RcNeAt.bool_list _ T hu0
 | int x =>
  cases y with
  | non=>cases hx;obtain ⟨t,rfl⟩:=rv;cases hy;cases ru;cases e;exact RcNeAt.int_none _ _
  | bl y=>cases hx;obtain ⟨t,rfl⟩:=rv;cases hy;cases ru;cases e;exact RcNeAt.int_bool _ _ _
  | int y=>cases hx;obtain ⟨t,rfl⟩:=rv;cases hy;obtain ⟨t',rfl⟩:=ru;cases e;exact RcNeAt.int_int _ _ _ _
  | str y=>cases hx;obtain ⟨t,rfl⟩:=rv;cases hy;obtain ⟨t',rfl⟩:=ru;cases e;exact RcNeAt.int_str _ _ _ _
  | tup y=>cases hx;obtain ⟨t,rfl⟩:=rv;obtain ⟨a2,us,rfl,m1,m2⟩:=hy;cases ru;cases e;obtain ⟨_,T⟩:=isT m1;exact RcNeAt.int_tuple _ _ T hu0
  | ref y=>cases hx;obtain ⟨t,rfl⟩:=rv;obtain ⟨a2,m1,rfl⟩:=hy;cases ru;obtain ⟨rfl,_,T⟩:=isL m1 e;exact RcNeAt.int_list _ _ T hu0
 | str x =>
  cases y with
  | non=>cases hx;obtain ⟨t,rfl⟩:=rv;cases hy;cases ru;cases e;exact RcNeAt.str_none _ _
  | bl y=>cases hx;obtain ⟨t,rfl⟩:=rv;cases hy;cases ru;cases e;exact RcNeAt.str_bool _ _ _
  | int y=>cases hx;obtain ⟨t,rfl⟩:=rv;cases hy;obtain ⟨t',rfl⟩:=ru;cases e;exact RcNeAt.str_int _ _ _ _
  | str y=>cases hx;obtain ⟨t,rfl⟩:=rv;cases hy;obtain ⟨t',rfl⟩:=ru;cases e;exact strEq _ _ _ _
  | tup y=>cases hx;obtain ⟨t,rfl⟩:=rv;obtain ⟨a2,us,rfl,m1,m2⟩:=hy;cases ru;cases e;obtain ⟨_,T⟩:=isT m1;exact RcNeAt.str_tuple _ _ T hu0
  | ref y=>cases hx;obtain ⟨t,rfl⟩:=rv;obtain ⟨a2,m1,rfl⟩:=hy;cases ru;obtain ⟨rfl,_,T⟩:=isL m1 e;exact RcNeAt.str_list _ _ T hu0
 | tup x =>
  cases y with
  | non=>obtain ⟨a,vs,rfl,k1,k2⟩:=hx;cases rv;cases hy;cases ru;cases e;obtain ⟨_,T⟩:=isT k1;exact RcNeAt.tuple_none T hu0
  | bl y=>obtain ⟨a,vs,rfl,k1,k2⟩:=hx;cases rv;cases hy;cases ru;cases e;obtain ⟨_,T⟩:=isT k1;exact RcNeAt.tuple_bool _ T hu0
  | int y=>obtain ⟨a,vs,rfl,k1,k2⟩:=hx;cases rv;cases hy;obtain ⟨t',rfl⟩:=ru;cases e;obtain ⟨_,T⟩:=isT k1;exact RcNeAt.tuple_int _ _ T hu0
  | str y=>obtain ⟨a,vs,rfl,k1,k2⟩:=hx;cases rv;cases hy;obtain ⟨t',rfl⟩:=ru;cases e;obtain ⟨_,T⟩:=isT k1;exact RcNeAt.tuple_str _ _ T hu0
  | tup y=>obtain ⟨a,vs,rfl,k1,k2⟩:=hx;cases rv;obtain ⟨a2,us,rfl,m1,m2⟩:=hy;cases ru;exact tt k1 m1 k2 m2 e
  | ref y=>obtain ⟨a,vs,rfl,k1,k2⟩:=hx;cases rv;obtain ⟨a2,m1,rfl⟩:=hy;cases ru;obtain ⟨rfl,_,T⟩:=isL m1 e;obtain ⟨_,U⟩:=isT k1;exact RcNeAt.tuple_list U T hu0
 | ref x =>
  cases y with
  | non=>obtain ⟨a,k1,rfl⟩:=hx;cases rv;cases hy;cases ru;obtain ⟨rfl,_,T⟩:=isL k1 e;exact RcNeAt.list_none T hu0
  | bl y=>obtain ⟨a,k1,rfl⟩:=hx;cases rv;cases hy;cases ru;obtain ⟨rfl,_,T⟩:=isL k1 e;exact RcNeAt.list_bool _ T hu0
  | int y=>obtain ⟨a,k1,rfl⟩:=hx;cases rv;cases hy;obtain ⟨t',rfl⟩:=ru;obtain ⟨rfl,_,T⟩:=isL k1 e;exact RcNeAt.list_int _ _ T hu0
  | str y=>obtain ⟨a,k1,rfl⟩:=hx;cases rv;cases hy;obtain ⟨t',rfl⟩:=ru;obtain ⟨rfl,_,T⟩:=isL k1 e;exact RcNeAt.list_str _ _ T hu0
  | tup y=>obtain ⟨a,k1,rfl⟩:=hx;cases rv;obtain ⟨a2,us,rfl,m1,m2⟩:=hy;cases ru;obtain ⟨rfl,_,T⟩:=isL k1 e;obtain ⟨_,U⟩:=isT m1;exact RcNeAt.list_tuple T U hu0
  | ref y=>obtain ⟨a,k1,rfl⟩:=hx;cases rv;obtain ⟨a2,m1,rfl⟩:=hy;cases ru;exact ll k1 m1 e
end
section
variable {X:Cx}
theorem qOa (hu:X.A.units+64<cLine):OpR X (compareOp .Eq) (rB X.K .eq):=by
 rintro pins s σ H x y v u Q I rx ry ⟨w,ρ,h,d,e,r,hd,he,p⟩
 have p:PostV X.K w Q ρ H (match eqD h 40 d e with | some b=>.ok (.bl b) h | none=>.bad):=p
 cases q:eqD h 40 d e with
 | none=>rw [q] at p;exact False.elim p
 | some b =>
  rw [q] at p
  exact eqAtD I r 40 d e b x y v u X.A q hd he rx ry (by omega) X.prog X.w X.xe _ ⟨.bl b,H,I,rfl,PostV.now p r rfl⟩
theorem qOV (hu:X.A.units+64<cLine):OpR X (compareOp .NotEq) (rB X.K .ne):=by
 rintro pins s σ H x y v u Q I rx ry ⟨w,ρ,h,d,e,r,hd,he,p⟩
 have p:PostV X.K w Q ρ H (match eqD h 40 d e with | some b=>.ok (.bl (!b)) h | none=>.bad):=p
 cases q:eqD h 40 d e with
 | none=>rw [q] at p;exact False.elim p
 | some b =>
  rw [q] at p
  exact neAtD I r 39 d e b x y v u X.A q hd he rx ry (by omega) X.prog X.w X.xe _ ⟨.bl (!b),H,I,rfl,PostV.now p r rfl⟩
end
end Fy
set_option Elab.async false
set_option linter.all false
set_option maxRecDepth 100000
set_option maxHeartbeats 4000000
namespace Fy
open PySem PySem.Spec PyProof.Rows PySem.StrLaws Builtin.Str
open L2 (V Hp HO VK TE TT TA TS TI Cx Inv RelV Vals SqL SqT Rd upd qAA qAB PE PT PA PS PSs EP OpR CallR IxR MtR SlR PO TO PI PG PIE Turn FpOk Ends)
theorem qD4 (n d:Nat) (o:Option Int):cutN n d o=HT.sIx n d o:=by cases o <;> rfl
theorem qJd (xs:List V) (lo hi:Option Int):L2.cutV xs lo hi=cutX xs lo hi:=by
 unfold L2.cutV cutX
 rw [qD4,qD4]
theorem qJe (n d:Nat) (hd:d≤n) (o:Option Int):cutN n d o≤n:=by rw [qD4];exact HT.sIx_le n d hd o
theorem RepL.cut {K:PySem.W.Frag} {ρ:List Addr} {H:Hp} {xs:List D} {vs:List V} (l:RepL K ρ H xs vs) (lo hi:Option Int):RepL K ρ H (cutX xs lo hi) (cutX vs lo hi):=by
 unfold cutX
 rw [l.length]
 exact (l.drop _).take _
theorem qLW (lo hi:Option Int) (n:Nat):strSliceIndices lo hi 1 n=(List.range (cutN n n hi-cutN n 0 lo)).map fun k=>cutN n 0 lo+k:=by
 have c1:(match lo with | none=>(0:Int) | some i=>max 0 (min (if i<0 then i+(n:Int) else i) (n:Int)))=(cutN n 0 lo:Int):=by
  cases lo with
  | none=>rfl
  | some v=>unfold cutN;simp only;split <;> omega
 have c2:(match hi with | none=>(n:Int) | some i=>max 0 (min (if i<0 then i+(n:Int) else i) (n:Int)))=(cutN n n hi:Int):=by
  cases hi with
  | none=>rfl
  | some v=>unfold cutN;simp only;split <;> omega
 have e:strSliceIndices lo hi 1 n=sliceRange (cutN n 0 lo:Int) (cutN n n hi:Int) 1:=by
  rw [← c1,← c2]
  unfold strSliceIndices
  cases lo <;> cases hi <;> simp
 rw [e]
 unfold sliceRange
 simp only [show (1:Int) > 0 from by decide,if_true]
 by_cases hlt:(cutN n 0 lo:Int)<(cutN n n hi:Int)
 ·rw [if_pos hlt]
  have e3:(((cutN n n hi:Int)-(cutN n 0 lo:Int)+1-1) / 1).toNat=cutN n n hi-cutN n 0 lo:=by
   rw [Int.ediv_one]
   omega
  rw [e3]
  refine List.map_congr_left fun k _=>?_
  omega
 ·rw [if_neg hlt]
  have:cutN n n hi-cutN n 0 lo=0:=by omega
  rw [this]
  rfl
theorem qID (x:Tx) (lo hi:Option Int):Txt.slice ⟨x.toArray⟩ lo hi=⟨(cutX x lo hi).toArray⟩:=by
 have hl:(⟨x.toArray⟩:Str).length=x.length:=qAz x
 have a1:=qJe x.length 0 (Nat.zero_le _) lo
 have a2:=qJe x.length x.length (Nat.le_refl _) hi
 have pk:((strSliceIndices lo hi 1 (⟨x.toArray⟩:Str).length).filterMap ((⟨x.toArray⟩:Str).cps[·]?))=cutX x lo hi:=by
  rw [hl,qLW]
  unfold cutX
  by_cases hc:cutN x.length 0 lo≤cutN x.length x.length hi
  ·have:=picks x (cutN x.length x.length hi-cutN x.length 0 lo) (cutN x.length 0 lo) (by omega)
   simpa using this
  ·have:cutN x.length x.length hi-cutN x.length 0 lo=0:=by omega
   rw [this]
   simp
 unfold Txt.slice
 split
 ·rename_i hc
  have hc':(strSliceIndices lo hi 1 (⟨x.toArray⟩:Str).length).length=x.length:=by simpa [hl] using hc
  rw [hl,qLW,List.length_map,List.length_range] at hc'
  have e:cutX x lo hi=x:=by
   unfold cutX
   have z:cutN x.length 0 lo=0:=by omega
   rw [z,List.drop_zero]
   exact List.take_of_length_le (by omega)
  rw [e]
 ·rw [pk]
section
open HT
variable {prog:Program} {w:World} {A:Around} {E:Value→Shared→Prop} {s:Shared}
theorem qGJ {t sl:Addr} {items:Array Value} {vl vu:Value} {lo hi:Option Int} {Q:Value→Shared→Prop} (ht:IsTup s.heap t items) (hs:s.heap.IsSliceOf sl vl vu .none) (pl:IsPart vl lo) (pu:IsPart vu hi)
    (hw:sIx items.size 0 lo=0∧sIx items.size items.size hi=items.size) (h:Q (.ref t) s):wpAny (model prog w) A (getItem (.ref t) (.ref sl)) Q E s:=by
  obtain ⟨os,hos,hcs,hds⟩:=id hs
  have hTs:s.TypeIs (.ref sl) "slice":=⟨os,hos,hcs⟩
  unfold getItem
  try with_reducible refine wpAny_holding ?_
  first | refine wpAny_bind (wpAny_pure ?_) | skip
  refine wpAny_bind (wpAny_sequenceKey ht.typeIs (by decide) ?_)
  refine wpAny_bind (wpAny_callSpecial?_slot (name:=Str.ofString "__getitem__") ht.typeIs PyProof.Rows.slot_tuple_getitem
    (wpAny_call_entry PyProof.Rows.slot_tuple_getitem ht.typeIs entry_tuple_getitem ?_ (args_tuple_getitem _ _)))
  show wpAny _ _ (Builtin.Tuple.tupleItemsOf (.ref t) >>= _) _ _ s
  refine wpAny_bind (tupleItemsOf_ ht ?_)
  refine wpAny_bind (wpAny_typeOf hTs ?_)
  rw [if_pos (by decide)]
  refine wpAny_bind (qBy hs pl pu ?_)
  have hno:((((sIx items.size 0 lo:Nat):Int) == 0&&(1:Int) == 1&&(sIx items.size items.size hi-sIx items.size 0 lo) == items.size)=true):=by
    rw [hw.1,hw.2]
    simp
  show wpAny _ _ (if (((sIx items.size 0 lo:Nat):Int) == 0&&(1:Int) == 1&&(sIx items.size items.size hi-sIx items.size 0 lo) == items.size)=true then _ else _) _ _ s
  rw [if_pos hno]
  refine wpAny_bind ?_
  unfold Builtin.Tuple.tupleIsExact
  refine wpAny_bind (wpAny_typeOf ht.typeIs (wpAny_pure ?_))
  rw [if_pos (by decide)]
  exact wpAny_bind (wpAny_rule (wpAny_pure ⟨_,rfl,wpAny_pure h⟩))
end
section
variable {X:Cx} {F:Nat→List D→M D} {W:WX}
theorem qIQ {v:Value} {o:Option Int} (p:IsPart v o):∃ q:Option (Int × Tok),v=partValue q∧q.map (·.1)=o:=by
 cases p with
 | none=>exact ⟨none,rfl,rfl⟩
 | int i t=>exact ⟨some (i,t),rfl,rfl⟩
noncomputable def rSl (K:PySem.W.Frag):V→Option Int→Option Int→Hp→VK→Prop:=fun x lo hi H Q=>∃ (w:W1),∃ ρ h d,RepH K ρ h H∧RepV K ρ H d x∧PostV K w Q ρ H (slD d lo hi h)
theorem sl_D:SlR X (rSl X.K):=by
 rintro pins s σ H x v vl vu lo hi sl Q I rx hs pl pu ⟨w,ρ,h,d,r,hd,p⟩
 unfold slD at p
 cases d with
 | str x =>
  cases hd
  obtain ⟨t,rfl⟩:=rx
  obtain ⟨hz,p⟩:=PostV.ite (c:=x.length≤16777216) p
  obtain ⟨ql,rfl,rfl⟩:=qIQ pl
  obtain ⟨qu,rfl,rfl⟩:=qIQ pu
  refine ⟨"str",_,F.slot_str_getitem.lookup,typeIs_str _ _ _,wpAny_getItem_str_slice (l:=ql) (u:=qu) (st:=none) hs rfl ?_⟩
  refine post_val_or_str ?_
  show (Txt.slice ⟨x.toArray⟩ (ql.map (·.1)) (qu.map (·.1))).length≤sizeLine∧∀ t' k,EP X pins σ Q (.str (Txt.slice ⟨x.toArray⟩ (ql.map (·.1)) (qu.map (·.1))) t') { s with toks:=k }
  refine ⟨Nat.le_trans (Txt.slice_le _ _ _) (by rw [qAz,szEq];exact hz),fun t' k=>?_⟩
  rw [qID]
  exact ⟨.str ⟨(cutX x (ql.map fun z:Int × Tok=>z.1) (qu.map fun z:Int × Tok=>z.1)).toArray⟩,H,I.tok k,⟨t',rfl⟩,PostV.now p r rfl⟩
 | tup xs =>
  obtain ⟨a,vs,rfl,h1,h2⟩:=hd
  by_cases hw:HT.sIx vs.length 0 lo=0∧HT.sIx vs.length vs.length hi=vs.length
  ·cases rx
   obtain ⟨its,rv,ht,hz⟩:=I.tuple h1
   refine ⟨"tuple",_,PyProof.Rows.slot_tuple_getitem.lookup,ht.typeIs,qGJ ht hs pl pu (by rw [List.size_toArray,← rv.length];exact hw) ?_⟩
   refine ⟨.ref a,H,I,rfl,PostV.now p r ⟨a,vs,rfl,h1,?_⟩⟩
   have e:cutX xs lo hi=xs:=by
    unfold cutX
    rw [qD4,qD4,← h2.length,hw.1,hw.2,List.drop_zero,Nat.sub_zero,h2.length]
    exact List.take_length
   rw [e]
   exact h2
  ·exact L2.sl_tup pins s σ H _ v vl vu lo hi sl Q I rx hs pl pu ⟨a,vs,rfl,h1,hw,by rw [qJd];exact PostV.newT p r (h2.cut lo hi)⟩
 | ref i =>
  simp only at p
  cases q:getL h i with
  | none=>rw [q] at p;exact False.elim p
  | some xs =>
   rw [q] at p
   obtain ⟨a,vs,rfl,h1,h2⟩:=r.seen q hd
   exact L2.sl_list pins s σ H _ v vl vu lo hi sl Q I rx hs pl pu ⟨a,vs,rfl,h1,by rw [qJd];exact (PostV.newL p r (h2.cut lo hi)).2⟩
 | _=>exact (show False from p).elim
noncomputable def tDP (K:PySem.W.Frag) (W:WX) (m:Env→M (Option Int)):TO:=fun σ H Q=>∃ ρ env h,RepS K ρ H env σ∧RepH K ρ h H∧Post K (W.at σ) (fun _ H' o=>Q o H') ρ H (m env h)
theorem PO.imp {o:Option Expr} {t t':TO} (h:PO X o t) (i:∀ σ H Q,t' σ H Q→t σ H Q):PO X o t':=fun pins s σ H Q I q=>h pins s σ H Q I (i σ H Q q)
theorem dp_no:PO X none (tDP X.K W (denP F .no)):=PO.imp L2.po_none fun σ H Q t=>by
 obtain ⟨ρ,env,h,s,r,p⟩:=t
 rw [denP] at p
 exact Post.ret p r
theorem dp_at {e:Expr} {c:CE} (he:PE X e (tD X.K W (den F c))):PO X (some e) (tDP X.K W (denP F (.at c))):=PO.imp (L2.po_some he) fun σ H Q t=>by
 obtain ⟨ρ,env,h,s,r,p⟩:=t
 rw [denP] at p
 refine ⟨ρ,env,h,s,r,Post.bind p fun ρ1 h1 d H1 e1 r1 q v hv=>?_⟩
 cases d with
 | int i=>cases hv;exact ⟨i,rfl,Post.ret (a:=some i) q r1⟩
 | _=>exact False.elim q
theorem d_sl {a:Expr} {lo hi:Option Expr} {ca:CE} {cl ch:CP} {p2 pos:Pos} (ha:PE X a (tD X.K W (den F ca))) (hl:PO X lo (tDP X.K W (denP F cl))) (hh:PO X hi (tDP X.K W (denP F ch))) :
    PE X (.Subscript a (.Slice lo hi none p2) pos) (tD X.K W (den F (.sl ca cl ch))):=PE.imp (L2.pe_slice sl_D ha hl hh) fun σ H Q t=>by
  obtain ⟨ρ,env,h,s,r,p⟩:=t
  rw [den] at p
  exact ⟨ρ,env,h,s,r,Post.bind p fun ρ1 h1 d H1 e1 r1 q v hv=>⟨ρ1,env,h1,s.mono e1,r1,Post.bind q fun ρ2 h2 l H2 e2 r2 q2=>⟨ρ2,env,h2,(s.mono e1).mono e2,r2,Post.bind q2 fun ρ3 h3 u H3 e3 r3 q3=>⟨_,ρ3,h3,d,r3,(hv.mono e2 _ _).mono e3 _ _,q3⟩⟩⟩⟩
end
end Fy
set_option Elab.async false
set_option linter.all false
set_option maxRecDepth 100000
set_option maxHeartbeats 4000000
namespace Fy
open PySem PySem.Spec PyProof.Rows
open L2 (V Hp HO VK TE TT TA TS TI Cx Inv RelV Vals SqL SqT Rd upd qAA qAB PE PT PA PS PSs EP OpR CallR IxR MtR SlR PO TO PI PG PIE Turn FpOk Ends)
noncomputable def tyS:Ty→String
 | .int=>"int" | .str=>"str" | .bool=>"bool" | .list=>"list" | .tuple=>"tuple"
section
variable (K:PySem.W.Frag)
theorem qO3 (t:Ty):PySem.W.kitOne K (.type "NoneType") (.type (tyS t))=some false:=by cases t <;> first | rfl | kernel_rfl
theorem kt_bl (t:Ty):PySem.W.kitOne K (.type "bool") (.type (tyS t))=some (t == .bool || t == .int):=by cases t <;> first | rfl | kernel_rfl
theorem qO5 (t:Ty):PySem.W.kitOne K (.type "int") (.type (tyS t))=some (t == .int):=by cases t <;> first | rfl | kernel_rfl
theorem qO2 (t:Ty):PySem.W.kitOne K (.type "str") (.type (tyS t))=some (t == .str):=by cases t <;> first | rfl | kernel_rfl
theorem qO1 (t:Ty):PySem.W.kitOne K (.type "tuple") (.type (tyS t))=some (t == .tuple):=by cases t <;> first | rfl | kernel_rfl
theorem qO4 (t:Ty):PySem.W.kitOne K (.type "list") (.type (tyS t))=some (t == .list):=by cases t <;> first | rfl | kernel_rfl
end
section
variable {X:Cx} {F:Nat→List D→M D} {W:WX}
theorem qPF {pins:List (Addr × Obj)} {σ:L2.St} {H:Hp} {s:Shared} {ρ:List Addr} {h:AH} {t:Ty} {d:D} {x:V} {u:Value} {b:Bool} {A:Around} {E:Value→Shared→Prop} {Q:Value→Shared→Prop}
    (I:Inv X pins σ H s) (r:RepH X.K ρ h H) (hd:RepV X.K ρ H d x) (rx:RelV x u) (e:isiD h t d=some b) (q:∀ tk,Q (.bool b) { s with toks:=tk }) :
    wpAny (model X.prog X.w) A (call (.builtin "isinstance") [u,.type (tyS t)]) Q E s:=by
  cases d with
  | non=>cases hd;cases e;cases (show u=Value.none from rx);exact PySem.W.kia_one PySem.W.kitx_none I.kIn True.intro (qO3 _ t) (fun z=>nomatch z) q
  | bl c=>cases hd;cases e;cases (show u=Value.bool c from rx);exact PySem.W.kia_one PySem.W.kitx_bool I.kIn True.intro (kt_bl _ t) (fun z=>nomatch z) q
  | int i=>cases hd;cases e;obtain ⟨tk,z⟩:=rx;cases z;exact PySem.W.kia_one PySem.W.kitx_int I.kIn True.intro (qO5 _ t) (fun z=>nomatch z) q
  | str y=>cases hd;cases e;obtain ⟨tk,z⟩:=rx;cases z;exact PySem.W.kia_one PySem.W.kitx_str I.kIn True.intro (qO2 _ t) (fun z=>nomatch z) q
  | tup ys =>
    obtain ⟨a,vs,rfl,h1,h2⟩:=hd
    cases e
    cases rx
    obtain ⟨its,_,⟨o,k1,k2,_⟩,_⟩:=I.tuple h1
    exact PySem.W.kia_one PySem.W.kitx_tuple I.kIn ⟨o,k1,k2⟩ (qO1 _ t) (fun z=>nomatch z) q
  | ref i =>
    have e:(getL h i).map (fun _=>t == .list)=some b:=e
    cases z:getL h i with
    | none=>rw [z] at e;cases e
    | some ys =>
      rw [z] at e
      cases e
      obtain ⟨a,vs,rfl,h1,h2⟩:=r.seen z hd
      cases rx
      obtain ⟨its,_,pl,_⟩:=I.list h1
      obtain ⟨o,n,k1,k2,_⟩:=pl
      exact PySem.W.kia_one PySem.W.kitx_list I.kIn ⟨o,k1,k2⟩ (qO4 _ t) (fun z=>nomatch z) q
noncomputable def rIsi (K:PySem.W.Frag) (t:Ty):List V→Hp→VK→Prop:=fun xs H Q=>∃ x,xs=[x,.ty (tyS t)]∧rU K (.isi t) x H Q
theorem qJi (t:Ty):CallR X (.builtin "isinstance") (rIsi X.K t):=by
 rintro pins s σ H xs us Q I rv ⟨x,rfl,w,ρ,h,d,r,hd,p⟩
 obtain ⟨u,w,rfl,ru,rw'⟩:=L2.Vals.two rv
 cases rw'
 have p:PostV X.K w Q ρ H (match isiD h t d with | some b=>.ok (.bl b) h | none=>.bad):=p
 cases e:isiD h t d with
 | none=>rw [e] at p;exact False.elim p
 | some b =>
  rw [e] at p
  exact qPF I r hd ru e fun tk=>⟨.bl b,H,I.tok tk,rfl,PostV.now p r rfl⟩
theorem d_isi {a:Expr} {ca:CE} {t:Ty} {x y:Str} {p1 p2 pos:Pos} (hx:x="isinstance") (hg:L2.Gl X x) (hm:X.mg x=none) (hgT:L2.Gl X y) (hmT:X.mg y=none) (hv:bootBuiltins y=some (.type (tyS t))) (hn:y≠"__name__") (hdb:(y == ("__debug__":Str))=false)
    (ha:PE X a (tD X.K W (den F ca))) (hst:starEach [a,.Name y p2] X.env=[(false,eval a X.env),(false,eval (.Name y p2) X.env)]):PE X (.Call (.Name x p1) [a,.Name y p2] [] pos) (tD X.K W (den F (.un (.isi t) ca))):=by
  subst hx
  refine PE.imp (L2.pe_callB (qJi t) hg hm boot_isinstance (L2.pa_cons ha (L2.pa_cons (L2.pe_bltn (v:=.ty (tyS t)) hgT hmT hv rfl hn hdb) L2.pa_nil (by rfl)) (by rw [hst];rfl)) (he:=by rw [hst];rfl)) fun σ H Q q=>?_
  obtain ⟨ρ,env,h,s,r',p⟩:=one q
  exact ⟨ρ,env,h,s,r',Post.imp p fun ρ' H' d q v hv=>⟨v,rfl,q v hv⟩⟩
theorem d_me {o:Bi} {ca cb:CE} {e:Expr} {T:String} {r:V→List V→Hp→VK→Prop} (he:PE X e (L2.tBM X.K T r (tD X.K W (den F ca)) (L2.tCons (tD X.K W (den F cb)) L2.tNil)))
    (hty:∀ ρ h d v H,RepH X.K ρ h H→RepV X.K ρ H d v→∀ h',meOk o d h=.ok () h'→h'=h∧L2.tyV X.K T v H) (hexc:∀ d h c h',meOk o d h≠.exc c h') (hr:∀ x y H Q,rB X.K o x y H Q→r x [y] H Q):PE X e (tD X.K W (den F (.me o ca cb))):=PE.imp he fun σ H Q t=>by
  obtain ⟨ρ,env,h,s,r',p⟩:=t
  rw [den] at p
  refine ⟨ρ,env,h,s,r',Post.bind p fun ρ1 h1 d H1 e1 r1 q v hv=>?_⟩
  unfold M.bind at q
  cases z:meOk o d h1 with
  | ok u h2 =>
    rw [z] at q
    obtain ⟨rfl,ty⟩:=hty ρ1 h1 d v H1 r1 hv _ z
    refine ⟨ty,ρ1,env,_,s.mono e1,r1,?_⟩
    exact Post.bind q fun ρ2 h2 d2 H2 e2 r2 q2 w hw=>hr v w H2 Q ⟨_,ρ2,h2,d,d2,r2,hv.mono e2 _ _,hw,q2⟩
  | exc c h2=>exact absurd z (hexc _ _ _ _)
  | bad=>rw [z] at q;exact False.elim q
theorem qDd (o:Bi) (d:D) (h:AH) (c:Nat) (h':AH):meOk o d h≠.exc c h':=by
 unfold meOk
 intro z
 split at z
 all_goals first | cases z | (split at z <;> cases z)
theorem qKw {a b:Expr} {ca cb:CE} {x:Str} {apos cpos:Pos} (hx:x="append") (ha:PE X a (tD X.K W (den F ca))) (hb:PE X b (tD X.K W (den F cb))) (hbase:attributeBase a x X.env (eval a X.env)=eval a X.env) (hline:(apos.endLine == cpos.line)=true)
    (hst:starEach [b] X.env=[(false,eval b X.env)]):PE X (.Call (.Attribute a x apos) [b] [] cpos) (tD X.K W (den F (.me .append ca cb))):=by
  subst hx
  refine d_me (L2.pe_bm PySem.F.plainAttrs_list PySem.F.slot_list_append PySem.F.type_list_append L2.mt_append ha (L2.pa_cons hb L2.pa_nil (by rw [hst];rfl)) hbase (by rw [hst];rfl) hline (by rw [hst];rfl)) (fun ρ h d v H r hv h' z=>?_) (qDd _) (fun x y H Q z=>?_)
  · cases d with
    | ref i =>
      have z:(match getL h i with | some _=>R.ok () h | none=>.bad)=.ok () h':=z
      cases e:getL h i with
      | none=>rw [e] at z;cases z
      | some xs =>
        rw [e] at z
        cases z
        obtain ⟨a,vs,rfl,h1,_⟩:=r.seen e hv
        exact ⟨rfl,.inl ⟨rfl,vs,h1⟩⟩
    | _=>cases z
  · obtain ⟨w,ρ,h,d,e,r,hd,he,p⟩:=z
    cases d with
    | ref k =>
      have p:PostV X.K w Q ρ H (match h[k]? with | some (.lst xs)=>if xs.length<16777216 then .ok .non (h.set k (.lst (xs++[e]))) else .bad | _=>.bad):=p
      split at p
      · rename_i xs q
        obtain ⟨hz,p⟩:=PostV.ite p
        obtain ⟨a,vs,rfl,ha,hH,hl⟩:=r.own q hd
        refine ⟨a,vs,y,rfl,rfl,hH,by rw [hl.length,szEq];exact hz,?_⟩
        have hl':RepL X.K ρ H (xs++[e]) (vs++[y]):=hl.append ⟨y,[],rfl,he,rfl⟩
        exact p ρ _ (Step.turn hH rfl (List.mem_of_getElem? ha)) (r.setList q ha hH hl') _ rfl
      · exact False.elim p
    | _=>exact (show False from p).elim
theorem qM1 {ρ:List Addr} {H:Hp} {h:AH} {b:Bool} {d:D} {v:V} {u:Value} {Q:VK} {w:W1} (r:RepH X.K ρ h H) (hd:RepV X.K ρ H d v) (rv:RelV v u) (p:PostV X.K w Q ρ H (unD (.isB b) d h)):∃ k,((u == Value.bool b)=k)∧Q (.bl k) H:=by
 cases d with
 | bl c =>
  cases hd
  cases rv
  refine ⟨_,rfl,PostV.now (h:=h) (d:=.bl (b == c)) p r ?_⟩
  cases b <;> cases c <;> rfl
 | non=>cases hd;cases rv;exact ⟨_,rfl,PostV.now (h:=h) (d:=.bl false) p r rfl⟩
 | int i=>cases hd;obtain ⟨t,rfl⟩:=rv;exact ⟨_,rfl,PostV.now (h:=h) (d:=.bl false) p r rfl⟩
 | str x=>cases hd;obtain ⟨t,rfl⟩:=rv;exact ⟨_,rfl,PostV.now (h:=h) (d:=.bl false) p r rfl⟩
 | tup xs=>exact (show False from p).elim
 | ref i=>exact (show False from p).elim
noncomputable def tIsB (K:PySem.W.Frag) (b:Bool) (ta:TE):TE:=fun σ H Q=>ta σ H fun x H1=>rU K (.isB b) x H1 Q
theorem qLM {a:Expr} {ta:TE} {b:Bool} {j:Nat} {pos':Pos} (ha:PE X a ta):L2.PC X .Is a (.Constant (.bool b) j pos') (tIsB X.K b ta):=by
 intro pins s σ H Q I h
 refine L2.thn (ha pins s σ H _ I h) fun v s1 ⟨x,H1,I1,r1,w,ρ,hh,d,r,hd,p⟩=>?_
 obtain ⟨k,hk,q⟩:=qM1 r hd r1 p
 refine Constant_bool ?_
 have key:∀ Qv:Value→Shared→Prop,Qv (.bool (v == .bool b)) s1→wpAny (model X.prog X.w) X.A (compareOp .Is v (.bool b)) Qv X.xe s1:=by
  intro Qv hQ
  rcases qEv hd r1 with rfl | ⟨c,rfl⟩ | ⟨c,t,rfl⟩ | ⟨c,t,rfl⟩ | ⟨c,rfl⟩ <;> exact wpAny_pure hQ
 refine key _ ⟨.bl k,H1,I1,by rw [hk];rfl,q⟩
theorem isBI {b:Bool} {ca:CE} {σ:L2.St} {H:Hp} {Q:VK} (t:tD X.K W (den F (.un (.isB b) ca)) σ H Q):tIsB X.K b (tD X.K W (den F ca)) σ H Q:=one t
theorem qPI {b:Bool} {ca:CE} (env:Env) (h:AH) (d:D) (h':AH) (e:den F (.un (.isB b) ca) env h=.ok d h'):∃ k,d=.bl k:=by
 rw [den] at e
 obtain ⟨x,g1,_,e⟩:=bind_ok e
 cases x <;> first | (cases e;exact ⟨_,rfl⟩) | cases e
theorem d_isB {a:Expr} {ca:CE} {b:Bool} {j:Nat} {pos pos':Pos} (ha:PE X a (tD X.K W (den F ca))):PE X (.Compare a [.Is] [.Constant (.bool b) j pos'] pos) (tD X.K W (den F (.un (.isB b) ca))):=PE.imp (L2.pe_cmp (qLM ha)) fun σ H Q t=>isBI t
theorem qPR {a:Expr} {ca:CE} {b:Bool} {j:Nat} {pos pos':Pos} (ha:PE X a (tD X.K W (den F ca))):PT X (.Compare a [.Is] [.Constant (.bool b) j pos'] pos) (tDT X.K W (denT F (.val (.un (.isB b) ca)))):=PT.imp (L2.pt_cmp (qLM ha)) fun σ H Q t=>isBI (valI qPI t)
theorem qMX {ρ:List Addr} {H:Hp} {h:AH} {b:Bool} {d:D} {v:V} {u:Value} {Q:VK} {w:W1} (r:RepH X.K ρ h H) (hd:RepV X.K ρ H d v) (rv:RelV v u) (p:PostV X.K w Q ρ H (unD (.nsB b) d h)):∃ k,((!(u == Value.bool b))=k)∧Q (.bl k) H:=by
 cases d with
 | bl c =>
  cases hd
  cases rv
  refine ⟨_,rfl,PostV.now (h:=h) (d:=.bl (!(b == c))) p r ?_⟩
  cases b <;> cases c <;> rfl
 | non=>cases hd;cases rv;exact ⟨_,rfl,PostV.now (h:=h) (d:=.bl true) p r rfl⟩
 | int i=>cases hd;obtain ⟨t,rfl⟩:=rv;exact ⟨_,rfl,PostV.now (h:=h) (d:=.bl true) p r rfl⟩
 | str x=>cases hd;obtain ⟨t,rfl⟩:=rv;exact ⟨_,rfl,PostV.now (h:=h) (d:=.bl true) p r rfl⟩
 | tup xs=>exact (show False from p).elim
 | ref i=>exact (show False from p).elim
noncomputable def tNsB (K:PySem.W.Frag) (b:Bool) (ta:TE):TE:=fun σ H Q=>ta σ H fun x H1=>rU K (.nsB b) x H1 Q
theorem qLL {a:Expr} {ta:TE} {b:Bool} {j:Nat} {pos':Pos} (ha:PE X a ta):L2.PC X .IsNot a (.Constant (.bool b) j pos') (tNsB X.K b ta):=by
 intro pins s σ H Q I h
 refine L2.thn (ha pins s σ H _ I h) fun v s1 ⟨x,H1,I1,r1,w,ρ,hh,d,r,hd,p⟩=>?_
 obtain ⟨k,hk,q⟩:=qMX r hd r1 p
 refine Constant_bool ?_
 have key:∀ Qv:Value→Shared→Prop,Qv (.bool (!(v == .bool b))) s1→wpAny (model X.prog X.w) X.A (compareOp .IsNot v (.bool b)) Qv X.xe s1:=by
  intro Qv hQ
  rcases qEv hd r1 with rfl | ⟨c,rfl⟩ | ⟨c,t,rfl⟩ | ⟨c,t,rfl⟩ | ⟨c,rfl⟩ <;> exact wpAny_pure hQ
 refine key _ ⟨.bl k,H1,I1,by rw [hk];rfl,q⟩
theorem qOn {b:Bool} {ca:CE} (env:Env) (h:AH) (d:D) (h':AH) (e:den F (.un (.nsB b) ca) env h=.ok d h'):∃ k,d=.bl k:=by
 rw [den] at e
 obtain ⟨x,g1,_,e⟩:=bind_ok e
 cases x <;> first | (cases e;exact ⟨_,rfl⟩) | cases e
theorem d_nsB {a:Expr} {ca:CE} {b:Bool} {j:Nat} {pos pos':Pos} (ha:PE X a (tD X.K W (den F ca))):PE X (.Compare a [.IsNot] [.Constant (.bool b) j pos'] pos) (tD X.K W (den F (.un (.nsB b) ca))):=PE.imp (L2.pe_cmp (qLL ha)) fun σ H Q t=>one t
theorem qPO {a:Expr} {ca:CE} {b:Bool} {j:Nat} {pos pos':Pos} (ha:PE X a (tD X.K W (den F ca))):PT X (.Compare a [.IsNot] [.Constant (.bool b) j pos'] pos) (tDT X.K W (denT F (.val (.un (.nsB b) ca)))):=PT.imp (L2.pt_cmp (qLL ha)) fun σ H Q t=>one (valI qOn t)
end
end Fy
set_option Elab.async false
set_option linter.all false
set_option maxRecDepth 100000
set_option maxHeartbeats 4000000
namespace Fy
open PySem PySem.Spec PyProof.Rows
open L2 (V Hp HO VK TE TT TA TS TI Cx Inv RelV Vals SqL SqT Rd upd qAA qAB PE PT PA PS PSs EP OpR CallR IxR MtR SlR PO TO)
section
variable {K:PySem.W.Frag} {ρ:List Addr} {H:Hp}
theorem RepK.drop (k:Ky):∀ {kvs:List (Ky × D)} {vs:List (L2.Key × V)},RepK K ρ H kvs vs→RepK K ρ H (dropY kvs k) (L2.dropK vs (kyV k))
 | [],_,h=>by cases h;rfl
 | x::kvs,_,⟨v,r,rfl,h1,h2⟩=>by
  unfold dropY L2.dropK
  by_cases e:x.1=k
  ·rw [List.filter_cons_of_neg (by simpa using e),List.filter_cons_of_neg (by simpa using kyV_inj.mpr e)]
   exact RepK.drop k h2
  ·rw [List.filter_cons_of_pos (by simpa using e),List.filter_cons_of_pos (by simpa using fun z=>e (kyV_inj.mp z))]
   exact ⟨v,_,rfl,h1,RepK.drop k h2⟩
end
section
variable {prog:Program} {w:World} {K:Type} [DecidableEq K] {knd:KeyKind prog w K} {A:Around} {E:Value→Shared→Prop} {s:Shared}
theorem qHa {d:Addr} {kvs:List (K × Value)} {k:K} {key dflt:Value} {Q:Value→Shared→Prop} (hkey:knd.is k key=true) (hm:s.heap.DictOf knd d kvs) (hz:kvs.length≤sizeLine)
    (hthere:∀ v,valueAt kvs k=some v→Q v { s with toks:=s.toks+1 })
    (hnew:valueAt kvs k=none→∀ h',h'.DictOf knd d (stored kvs k dflt)→Heap.SameBut d s.heap h'→Q dflt { s with heap:=h',toks:=s.toks+1 }) :
    wpAny (model prog w) A (dictSetDefault d key dflt) Q E s:=by
  have hmm:=hm.mapOf
  obtain ⟨o,es,ep,ho,hc,hd,hk,hp,hn⟩:=hm
  have hes:es.size≤sizeLine:=by
    have e1:=hp.length
    have e2:es.toList.length=es.size:=by simp
    omega
  have hidx:(es.findIdx? fun e=>knd.is k e.key)=kvs.findIdx? fun kv=>decide (kv.1=k):=by
    rw [← hp.findIdx k]
    obtain ⟨l⟩:=es
    simp
  obtain ⟨o2,es2,ep2,ho2,hc2,hd2,hk2,hf2⟩:=hmm
  rw [ho] at ho2
  cases ho2
  rw [hd] at hd2
  cases hd2
  unfold dictSetDefault
  try with_reducible refine wpAny_holding ?_
  refine wpAny_bind (knd.pyHash hkey ?_)
  refine wpAny_bind (wpAny_dictFind_of (s:={ s with toks:=s.toks+1 }) hkey ho hd hk ?_)
  cases hi:es.findIdx? fun e=>knd.is k e.key with
  | some i =>
    have hfk:valueAt kvs k=(es[i]?).map (·.val):=by rw [← hf2 k,findBy_of_findIdx?,hi]
    refine wpAny_bind (wpAny_dictEntries (s:={ s with toks:=s.toks+1 }) ho hd ?_)
    cases he:es[i]? with
    | none =>
      have hlt:i<es.size:=(Array.findIdx?_eq_some_iff_findIdx_eq.mp hi).1
      rw [Array.getElem?_eq_getElem hlt] at he
      exact nomatch he
    | some e =>
      rw [he] at hfk
      exact wpAny_bind (wpAny_rule (wpAny_pure (hthere e.val hfk)))
  | none =>
    have hfk:valueAt kvs k=none:=by rw [← hf2 k,findBy_of_findIdx?,hi]
    have hnot:k∉kvs.map (·.1):=not_mem_of_findIdx_none (hidx ▸ hi)
    have hany:¬ (kvs.any fun kv=>decide (kv.1=k))=true:=by
      rw [List.any_eq_true]
      rintro ⟨kv,hkv,he⟩
      exact hnot (List.mem_map.mpr ⟨kv,hkv,of_decide_eq_true he⟩)
    have hst:stored kvs k dflt=kvs++[(k,dflt)]:=by rw [stored,if_neg hany]
    refine wpAny_bind (wpAny_rule (wpAny_bind (wpAny_updateDictKeys (hz:=hes) (s:={ s with toks:=s.toks+1 }) ho hd (wpAny_pure (hnew hfk _ (by
      rw [hst]
      refine ⟨_,_,ep+1,Heap.get?_update_self _ ho (Obj.isFreed_of_dict (Obj.data_mapDictKeys hd _)),hc.mapDictKeys _,Obj.data_mapDictKeys hd _,hk.push hkey _,?_,?_⟩
      · have:=hp.append hkey (knd.hash k) dflt
        obtain ⟨l⟩:=es
        simpa using this
      · rw [List.map_append,List.nodup_append]
        refine ⟨hn,by simp,?_⟩
        intro a ha b hb
        have hb:b=k:=by simpa using hb
        subst hb
        exact fun e=>hnot (e ▸ ha)) (Heap.SameBut.update ..))))))
end
section
variable {prog:Program} {w:World} {K:Type} [DecidableEq K]
theorem qHb (knd:KeyKind prog w K) (d:Addr) {k:K} {key:Value} (hkey:knd.is k key=true) (hd:(d == sysModules)=false) (dflt:Value) :
    MeetsIn prog w (Builtin.«dict.setdefault» ⟨[.ref d,key,dflt],[]⟩) (fun _ R s=>∃ kvs,s.heap.DictOf knd d kvs∧kvs.length≤sizeLine ∧
      (∀ v,valueAt kvs k=some v→R (.ok (.ret v)) { s with toks:=s.toks+1 }) ∧
      (valueAt kvs k=none→∀ h',h'.DictOf knd d (stored kvs k dflt)→Heap.SameBut d s.heap h'→R (.ok (.ret dflt)) { s with heap:=h',toks:=s.toks+1 })) :=
  .of_wp fun A R s ⟨kvs,hm,hz,h1,h2⟩=>by
    unfold Builtin.«dict.setdefault»
    refine wpAny_bind ?_
    unfold Builtin.Dict.keyAndDefault
    refine wpAny_bind (wpAny_notOrdered_dict hm.typeIs ?_)
    refine wpAny_pure ?_
    show wpAny _ _ (if (d == sysModules)=true then _ else (dictSetDefault d key dflt >>= _)) _ _ s
    rw [hd]
    exact wpAny_bind (qHa hkey hm hz (fun v hv=>wpAny_pure ⟨v,rfl,h1 v hv⟩) fun hn h' hm' hs'=>wpAny_pure ⟨dflt,rfl,h2 hn h' hm' hs'⟩)
end
section
variable {X:Cx} {F:Nat→List D→M D} {W:WX}
theorem qJb {ρ:List Addr} {h h':AH} {d:D} {v:V} {H:Hp} (r:RepH X.K ρ h H) (hv:RepV X.K ρ H d v) (z:meOk .get d h=.ok () h'):h'=h∧L2.tyV X.K "dict" v H:=by
 cases d with
 | ref i =>
  have z:(match h[i]? with | some (.dct _)=>R.ok () h | _=>.bad)=.ok () h':=z
  split at z
  ·rename_i kvs q
   cases z
   obtain ⟨a,vs,rfl,_,h1,_⟩:=r.dict q hv
   exact ⟨rfl,.inr (.inr (.inl ⟨rfl,.inl ⟨vs,h1⟩⟩))⟩
  ·cases z
 | _=>cases z
theorem d_pop {a b:Expr} {ca cb:CE} {x:Str} {apos cpos:Pos} (hx:x="pop") (ha:PE X a (tD X.K W (den F ca))) (hb:PE X b (tD X.K W (den F cb))) (hbase:attributeBase a x X.env (eval a X.env)=eval a X.env) (hline:(apos.endLine == cpos.line)=true)
    (hst:starEach [b] X.env=[(false,eval b X.env)]):PE X (.Call (.Attribute a x apos) [b] [] cpos) (tD X.K W (den F (.me .pop ca cb))):=by
  subst hx
  have mt:L2.MtR X "dict.pop" fun x ys H Q=>∃ y,ys=[y]∧rB X.K .pop x y H Q:=by
    rintro pins s σ H x vs v us Q I rx rv ⟨y,rfl,w,ρ,h,d,e,r,hd,he,p⟩
    obtain ⟨u,rfl,ru⟩:=rv.one
    cases d with
    | ref k =>
      cases e with
      | int i =>
        have p:PostV X.K w Q ρ H (match h[k]? with | some (.dct kvs)=>(match valY kvs (.int i) with | some d=>.ok d (h.set k (.dct (dropY kvs (.int i)))) | none=>.bad) | _=>.bad):=p
        split at p
        · rename_i kvs q
          obtain ⟨a,ws,rfl,ha',hH,hk⟩:=r.dict q hd
          cases rx
          cases he
          have ry:RelV (L2.kV (.inl i)) u:=ru
          rcases hk.val (.int i) with ⟨d,v',e1,e2,hv⟩ | ⟨e1,e2⟩
          · rw [e1] at p
            have e2:L2.valV ws (Sum.inl i)=some v':=e2
            have stp:Step ρ H ρ (upd H a (.dK (L2.dropK ws (Sum.inl i)))):=Step.turn hH rfl (List.mem_of_getElem? ha')
            exact L2.d_pop (k:=Sum.inl i) I hH ry e2 (.inl rfl) fun w' s' I' rw'=>⟨v',_,I',rw',p ρ _ stp (r.setDict q ha' hH (hk.drop (.int i))) v' (hv.mono stp _ _)⟩
          · rw [e1] at p
            exact False.elim p
        · exact False.elim p
      | _=>exact (show False from p).elim
    | _=>exact (show False from p).elim
  exact d_me (L2.pe_bm PySem.F.plainAttrs_dict PySem.F.slot_dict_pop PySem.F.type_dict_pop mt ha (L2.pa_cons hb L2.pa_nil (by rw [hst];rfl)) hbase (by rw [hst];rfl) hline (by rw [hst];rfl)) (fun ρ h d v H r hv h' z=>by cases d <;> exact qJb r hv z) (qDd _) (fun x y H Q z=>⟨y,rfl,z⟩)
theorem qPW {a b c:Expr} {ca cb cc:CE} {x:Str} {apos cpos:Pos} (hx:x="setdefault") (ha:PE X a (tD X.K W (den F ca))) (hb:PE X b (tD X.K W (den F cb))) (hc:PE X c (tD X.K W (den F cc))) (hbase:attributeBase a x X.env (eval a X.env)=eval a X.env) (hline:(apos.endLine == cpos.line)=true)
    (hst:starEach [b,c] X.env=[(false,eval b X.env),(false,eval c X.env)]) (hst2:starEach [c] X.env=[(false,eval c X.env)]):PE X (.Call (.Attribute a x apos) [b,c] [] cpos) (tD X.K W (den F (.setd ca cb cc))):=by
  subst hx
  have mt:L2.MtR X "dict.setdefault" fun x ys H Q=>∃ (y z:V) (w:W1) (ρ:List Addr) (h:AH) (d e f:D),ys=[y,z]∧RepH X.K ρ h H∧RepV X.K ρ H d x∧RepV X.K ρ H e y∧RepV X.K ρ H f z∧PostV X.K w Q ρ H (setdD d e f h):=by
    rintro pins s σ H x vs v us Q I rx rv ⟨y,z,w,ρ,h,d,e,f,rfl,r,hd,he,hf,p⟩
    obtain ⟨u,u2,rfl,ru,ru2⟩:=L2.Vals.two rv
    cases d with
    | ref k =>
      cases e with
      | int i =>
        have p:PostV X.K w Q ρ H (match h[k]? with | some (.dct kvs)=>(match valY kvs (.int i) with | some x=>.ok x h | none=>if kvs.length<16777216 then .ok f (h.set k (.dct (putY kvs (.int i) f))) else .bad) | _=>.bad):=p
        split at p
        · rename_i kvs q
          obtain ⟨a,ws,rfl,ha',hH,hk⟩:=r.dict q hd
          cases rx
          cases he
          obtain ⟨z0,hd',os,rel,dd⟩:=L2.dk_of I.hok hH
          have ry:RelV (L2.kV (.inl i)) u:=ru
          have hz0:os.length≤sizeLine:=by rw [← rel.length];exact z0
          refine call_meetsIn PySem.F.slot_dict_setdefault dd.typeIs PySem.F.entry_dict_setdefault (PySem.F.args_dict_setdefault_3 _ _ _) (qHb (L2.mixKind X.prog X.w) a (L2.kV_is ry) hd' u2) ⟨os,dd,hz0,fun v hv=>?_,fun hn h' dd' hs=>?_⟩
          · have gv:=rel.val (.inl i)
            rw [hv] at gv
            rcases hk.val (.int i) with ⟨d,v',e1,e2,hv'⟩ | ⟨e1,e2⟩
            · rw [e1] at p
              have e2:L2.valV ws (Sum.inl i)=some v':=e2
              rw [e2] at gv
              exact ⟨v',H,I.tok _,gv,PostV.now p r hv'⟩
            · have e2:L2.valV ws (Sum.inl i)=none:=e2
              rw [e2] at gv
              exact (show False from gv).elim
          · have gv:=rel.val (.inl i)
            rw [hn] at gv
            rcases hk.val (.int i) with ⟨d,v',e1,e2,hv'⟩ | ⟨e1,e2⟩
            · have e2:L2.valV ws (Sum.inl i)=some v':=e2
              rw [e2] at gv
              exact (show False from gv).elim
            · rw [e1] at p
              obtain ⟨hlt,p⟩:=PostV.ite p
              have stp:Step ρ H ρ (upd H a (.dK (L2.putK ws (Sum.inl i) z))):=Step.turn hH rfl (List.mem_of_getElem? ha')
              have hl:(L2.putK ws (Sum.inl i) z).length≤sizeLine:=by
                have h1:=L2.length_putK ws (Sum.inl i) z
                have h2:=hk.length
                rw [szEq]
                omega
              have he:∃ q,h'.get? a=some q:=let ⟨q,_,_,hq,_⟩:=dd';⟨q,hq⟩
              exact ⟨z,_,L2.d_write I (by rw [hH];exact True.intro) hs he (L2.dk_new hl hd' (rel.put (.inl i) ru2) dd'),ru2,p ρ _ stp (r.setDict q ha' hH (hk.put (.int i) hf)) z (hf.mono stp _ _)⟩
        · exact False.elim p
      | _=>exact (show False from p).elim
    | _=>exact (show False from p).elim
  refine PE.imp (L2.pe_bm PySem.F.plainAttrs_dict PySem.F.slot_dict_setdefault PySem.F.type_dict_setdefault mt ha (L2.pa_cons hb (L2.pa_cons hc L2.pa_nil (by rw [hst2];rfl)) (by rw [hst,hst2])) hbase (by rw [hst];rfl) hline (by rw [hst,hst2]) (by rw [hst2];rfl)) fun σ H Q t=>?_
  obtain ⟨ρ,env,h,s,r',p⟩:=t
  rw [den] at p
  refine ⟨ρ,env,h,s,r',Post.bind p fun ρ1 h1 d H1 e1 r1 q v hv=>?_⟩
  unfold M.bind at q
  cases z:meOk .get d h1 with
  | ok u h2 =>
    rw [z] at q
    obtain ⟨rfl,ty⟩:=qJb r1 hv z
    refine ⟨ty,ρ1,env,_,s.mono e1,r1,?_⟩
    exact Post.bind q fun ρ2 h2 d2 H2 e2 r2 q2 w hw=>⟨ρ2,env,h2,(s.mono e1).mono e2,r2,Post.bind q2 fun ρ3 h3 d3 H3 e3 r3 q3 w3 hw3=>⟨w,w3,_,ρ3,h3,d,d2,d3,rfl,r3,(hv.mono e2 _ _).mono e3 _ _,hw.mono e3 _ _,hw3,q3⟩⟩
  | exc c h2=>exact absurd z (qDd _ _ _ _ _)
  | bad=>rw [z] at q;exact False.elim q
theorem RepL.rev {K:PySem.W.Frag} {ρ:List Addr} {H:Hp}:∀ {xs:List D} {vs:List V},RepL K ρ H xs vs→RepL K ρ H xs.reverse vs.reverse
 | [],_,h=>by cases h;rfl
 | x::xs,_,⟨v,r,rfl,h1,h2⟩=>by
  rw [List.reverse_cons,List.reverse_cons]
  exact (RepL.rev h2).append ⟨v,[],rfl,h1,rfl⟩
end
end Fy
set_option Elab.async false
set_option linter.all false
set_option maxRecDepth 100000
set_option maxHeartbeats 4000000
namespace Fy
open PySem PySem.Spec PyProof.Rows
open L2 (V Hp HO VK TE TT TA TS TI Cx Inv RelV Vals SqL SqT Rd upd qAA qAB PE PT PA PS PSs EP OpR CallR IxR MtR SlR PO TO)
section
open PySem.Builtin PySem.Builtin.Str
end
section
variable {K:PySem.W.Frag} {ρ:List Addr} {H:Hp}
end
section
variable {X:Cx} {F:Nat→List D→M D} {W:WX}
end
end Fy
set_option Elab.async false
set_option linter.all false
set_option maxRecDepth 100000
set_option maxHeartbeats 4000000
namespace Fy
open PySem PySem.Spec PyProof.Rows
open L2 (V Hp HO VK TE TT TA TS TI Cx Inv RelV Vals SqL SqT Rd upd qAA qAB PE PT PA PS PSs EP OpR CallR IxR MtR SlR PO TO)
section
variable {X:Cx} {F:Nat→List D→M D} {W:WX}
end
end Fy
set_option Elab.async false
set_option linter.all false
set_option maxRecDepth 100000
set_option maxHeartbeats 4000000
namespace Fy
open PySem PySem.Spec PyProof.Rows
open L2 (V Hp HO VK TE TT TA TS TI Cx Inv RelV Vals SqL SqT Rd upd qAA qAB PE PT PA PS PSs EP OpR CallR IxR MtR SlR PO TO PI PG PIE Turn FpOk Ends)
section
variable {X:Cx} {F:Nat→List D→M D} {W:WX}
theorem qGx {K:PySem.W.Frag} {ρ:List Addr} {H:Hp}:∀ {ds:List D} {vs:List V} {us:List Value} {xs:List Tx},qAw ds=some xs→RepL K ρ H ds vs→Vals vs us→∃ l:List (Str × Tok),us=strValues l∧l.map (·.1)=xs.map fun x=>⟨x.toArray⟩
 | [],_,_,_,e,h,r=>by
  cases e
  cases h
  cases r
  exact ⟨[],rfl,rfl⟩
 | d::ds,_,us,bs,e,⟨v,vs,hv,h1,h2⟩,r=>by
  subst hv
  cases d with
  | str b =>
   unfold qAw at e
   cases q:qAw ds with
   | none=>rw [q] at e;cases e
   | some cs =>
    rw [q] at e
    cases e
    cases h1
    cases r with
    | cons r1 r2 =>
     obtain ⟨t,rfl⟩:=r1
     obtain ⟨l,rfl,e2⟩:=qGx q h2 r2
     exact ⟨(⟨b.toArray⟩,t)::l,rfl,by rw [List.map_cons,List.map_cons,e2]⟩
  | _=>cases e
theorem qIx (z:Tx):∀ xs:List Tx,Str.join ⟨z.toArray⟩ (xs.map fun x=>⟨x.toArray⟩)=⟨(joinT z xs).toArray⟩
 | []=>rfl
 | [x]=>rfl
 | x::y::r=>by
  have ih:=qIx z (y::r)
  show (⟨x.toArray⟩:Str)++⟨z.toArray⟩++Str.join ⟨z.toArray⟩ ((y::r).map fun x=>⟨x.toArray⟩)=_
  rw [ih,qGL,qGL]
  rfl
theorem qPb {a b:Expr} {ca cb:CE} {x:Str} {apos cpos:Pos} (hx:x="join") (ha:PE X a (tD X.K W (den F ca))) (hb:PE X b (tD X.K W (den F cb))) (hbase:attributeBase a x X.env (eval a X.env)=eval a X.env) (hline:(apos.endLine == cpos.line)=true)
    (hst:starEach [b] X.env=[(false,eval b X.env)]):PE X (.Call (.Attribute a x apos) [b] [] cpos) (tD X.K W (den F (.me .join ca cb))):=by
  subst hx
  have mt:L2.MtR X "str.join" fun x ys H Q=>∃ y,ys=[y]∧rB X.K .join x y H Q:=by
    rintro pins s σ H x ys v us Q I rx rv ⟨y,rfl,w,ρ,h,d,e,r,hd,he,p⟩
    obtain ⟨u,rfl,ru⟩:=L2.Vals.one rv
    cases d with
    | str z =>
      cases e with
      | ref i =>
        cases hd
        have p:PostV X.K w Q ρ H (match (getL h i).bind qAw with | some xs=>if joinN z xs≤16777216 then .ok (.str (joinT z xs)) h else .bad | none=>.bad):=p
        cases q:getL h i with
        | none=>rw [q] at p;exact False.elim p
        | some ds =>
          rw [q] at p
          cases qs:qAw ds with
          | none =>
            have p:PostV X.K w Q ρ H (match qAw ds with | some xs=>if joinN z xs≤16777216 then .ok (.str (joinT z xs)) h else .bad | none=>.bad):=p
            rw [qs] at p;exact False.elim p
          | some xs =>
            have p:PostV X.K w Q ρ H (match qAw ds with | some xs=>if joinN z xs≤16777216 then .ok (.str (joinT z xs)) h else .bad | none=>.bad):=p
            rw [qs] at p
            obtain ⟨hz,p⟩:=PostV.ite (c:=joinN z xs≤16777216) p
            obtain ⟨a',vs,rfl,h1,h2⟩:=r.seen q he
            cases ru
            obtain ⟨t,rfl⟩:=rx
            obtain ⟨its,rv',pl,_⟩:=I.list h1
            obtain ⟨l,rfl,el⟩:=qGx qs h2 rv'
            refine PySem.SC.join (l:=l) (texts:=xs.map fun x=>⟨x.toArray⟩) pl.isList el ?_ fun t2 k=>?_
            · unfold JoinOk
              rw [PySem.StrLaws.joinTotal,Bool.not_eq_true']
              refine decide_eq_false ?_
              rw [szEq,List.map_map,List.length_map,qAz]
              unfold joinN at hz
              have:(xs.map ((fun p:Str=>p.length) ∘ fun x=>(⟨x.toArray⟩:Str)))=xs.map List.length:=List.map_congr_left fun x _=>qAz x
              rw [this]
              omega
            · have e:Txt.join ⟨z.toArray⟩ (xs.map fun x=>⟨x.toArray⟩)=⟨(joinT z xs).toArray⟩:=by
                unfold Txt.join
                rw [PySem.StrLaws.glued_eq_join,qIx]
              rw [e]
              exact ⟨.str ⟨(joinT z xs).toArray⟩,H,I.tok _,⟨_,rfl⟩,PostV.now p r rfl⟩
      | _=>exact (show False from p).elim
    | _=>exact (show False from p).elim
  refine d_me (L2.pe_bm PySem.F.plainAttrs_str PySem.F.slot_str_join PySem.F.type_str_join mt ha (L2.pa_cons hb L2.pa_nil (by rw [hst];rfl)) hbase (by rw [hst];rfl) hline (by rw [hst];rfl)) (fun ρ h d v H r hv h' z=>?_) (qDd _) (fun x y H Q z=>⟨y,rfl,z⟩)
  cases d with
  | str y=>cases z;cases hv;exact ⟨rfl,rfl⟩
  | _=>cases z
end
end Fy
set_option Elab.async false
set_option linter.all false
set_option maxRecDepth 100000
set_option maxHeartbeats 4000000
namespace Fy
open PySem PySem.Spec PyProof.Rows
open L2 (V Hp HO VK TE TT TA TS TI Cx Inv RelV Vals SqL SqT Rd upd qAA qAB PE PT PA PS PSs EP OpR CallR IxR MtR SlR PO TO PI PG PIE Turn FpOk Ends thn)
section
variable {X:Cx} {F:Nat→List D→M D} {W:WX}
end
end Fy
set_option Elab.async false
set_option linter.all false
set_option maxRecDepth 100000
set_option maxHeartbeats 4000000
namespace Fy
open PySem PySem.Spec PyProof.Rows
open L2 (V Hp HO VK TE TT TA TS TI Cx Inv RelV Vals SqL SqT Rd upd qAA qAB PE PT PA PS PSs EP OpR CallR IxR MtR SlR PO TO)
section
variable {X:Cx} {F:Nat→List D→M D} {W:WX}
end
end Fy
set_option Elab.async false
set_option linter.all false
set_option maxRecDepth 100000
set_option maxHeartbeats 4000000
namespace Fy
open PySem PySem.Spec PyProof.Rows
open L2 (V Hp HO VK TE TT TA TS TI Cx Inv RelV Vals SqL SqT Rd upd qAA qAB PE PT PA PS PSs EP OpR CallR IxR MtR SlR PO TO thn)
theorem vals_ints:∀ {us:List Value} {ns:List Int},IntsAre us ns→Vals (ns.map V.int) us
 | [],[],_=>.nil
 | u::us,n::ns,h=>by
  cases h with
  | cons _ t h2=>exact .cons ⟨_,rfl⟩ (vals_ints h2)
section
variable {X:Cx} {F:Nat→List D→M D} {W:WX}
end
end Fy
set_option Elab.async false
set_option linter.all false
set_option maxRecDepth 100000
set_option maxHeartbeats 4000000
namespace Fy
open PySem PySem.Spec PyProof.Rows
open L2 (V Hp HO VK TE TT TA TS TI Cx Inv RelV Vals SqL SqT Rd upd qAA qAB PE PT PA PS PSs EP PI PG PIE Turn FpOk Ends Un HOk frs)
section
variable {prog:Program} {w:World} {A:Around} {R:Result→Shared→Prop} {s:Shared}
theorem qGe {elt target iter:Expr} {ifs:List Expr} {scope:Scope} {pos:Pos} {it acc:Value} {env:PySem.Env} (I:Nat→Shared→Prop)
    (turn:∀ n s,I n s→wpAny (model prog w) A (pyNext it) (fun r s₁=>match r with
      | none=>R (.ok .next) s₁
      | some v=>wpAny (model prog w) A (letOwnedTupleGo target it v) (fun _ s₁'=>wpAny (model prog w) A (assign target env v) (fun _ s₂ =>
          wpAny (model prog w) A (forIn ifs true fun c r=>if r=true then do let ok ← isTrue c env (eval c env);pure (ForInStep.yield ok) else pure (ForInStep.yield r)) (fun ok s₃ =>
            if ok=true then wpAny (model prog w) A (eval elt env) (fun x s₄ =>
              wpAny (model prog w) A (call (.builtin "list.append") [acc,x]) (fun _ s₅=>∃ m,m<n∧I m s₅) (notedBy (model prog w) A env fun e s'=>R (.error e) s') s₄) (notedBy (model prog w) A env fun e s'=>R (.error e) s') s₃
            else ∃ m,m<n∧I m s₃) (notedBy (model prog w) A env fun e s'=>R (.error e) s') s₂) (notedBy (model prog w) A env fun e s'=>R (.error e) s') s₁') (notedBy (model prog w) A env fun e s'=>R (.error e) s') s₁) (notedBy (model prog w) A env fun e s'=>R (.error e) s') s)
    (n:Nat) (h:I n s):codeAny (model prog w) A (.compLoop (.ListComp elt [⟨target,iter,ifs,0⟩] scope pos) 0 it acc env) R s:=by
  refine codeAny_loop rfl I (fun n s hI=>?_) n h
  show wpAny _ A ((compTurn (.ListComp elt [⟨target,iter,ifs,0⟩] scope pos) 0 it acc env).onRaise (fun x=>do noteFrame x env;theTreesLotGoes x)) _ _ s
  refine wpAny_noted ?_
  rw [compTurn_list]
  refine wpAny_bind (wpAny_standAt (wpAny_bind (wpAny_mono (turn n s hI) (fun r s₁ h₁=>?_) fun _ _ h'=>h')))
  cases r with
  | none=>exact wpAny_pure h₁
  | some v =>
    refine wpAny_bind (wpAny_mono h₁ (fun _ s₁' h₁'=>?_) fun _ _ h'=>h')
    refine wpAny_bind (wpAny_mono h₁' (fun _ s₂ h₂=>wpAny_bind (wpAny_mono h₂ (fun ok s₃ h₃=>?_) fun _ _ h'=>h')) fun _ _ h'=>h')
    cases ok with
    | false=>exact wpAny_pure ⟨rfl,h₃⟩
    | true =>
      exact wpAny_bind (wpAny_bind (wpAny_mono h₃ (fun x s₄ h₄=>wpAny_bind (wpAny_mono h₄ (fun _ s₅ h₅=>wpAny_pure (wpAny_pure ⟨rfl,h₅⟩)) fun _ _ h'=>h')) fun _ _ h'=>h'))
end
theorem qDP {env:PySem.Env}:∀ (names:List (Str × NameKind)) (acc:List (Str × Addr)),(∀ y∈names,y.2=.free→∃ c,env.cells.lookup y.1=some c)→(∀ y c,acc.lookup y=some c→env.cells.lookup y=some c) →
    ∃ cl,(forIn names acc fun (p:Str × NameKind) (r:List (Str × Addr))=>(do if (p.2 == NameKind.free)=true then (do let a ← cellOf env p.1;pure (ForInStep.yield ((p.1,a)::r))) else pure (ForInStep.yield r):Sem (ForInStep (List (Str × Addr)))))=(pure cl:Sem (List (Str × Addr))) ∧
      (∀ y c,cl.lookup y=some c→env.cells.lookup y=some c)∧(∀ y∈names,y.2=.free→∃ c,cl.lookup y.1=some c)∧∀ y c,acc.lookup y=some c→∃ c,cl.lookup y=some c
  | [],acc,_,ha=>⟨acc,rfl,ha,fun _ h=>absurd h (by simp),fun y c h=>⟨c,h⟩⟩
  | (n,k)::r,acc,hn,ha=>by
    by_cases hk:k=.free
    · subst hk
      obtain ⟨c,hc⟩:=hn (n,.free) (List.mem_cons_self ..) rfl
      have ha':∀ y d,((n,c)::acc).lookup y=some d→env.cells.lookup y=some d:=fun y d h=>by
        rw [List.lookup_cons] at h
        cases q:(y == n) with
        | true =>
          rw [q] at h
          cases h
          have:y=n:=by simpa using q
          rw [this]
          exact hc
        | false=>rw [q] at h;exact ha y d h
      obtain ⟨cl,h1,h2,h3,h4⟩:=qDP r ((n,c)::acc) (fun y hy=>hn y (List.mem_cons_of_mem _ hy)) ha'
      have hl:((n,c)::acc).lookup n=some c:=by rw [List.lookup_cons];simp
      refine ⟨cl,?_,h2,fun y hy hf=>?_,fun y d hd=>?_⟩
      · rw [List.forIn_cons]
        have e:cellOf env n=pure c:=by unfold cellOf;rw [hc]
        simp only [beq_self_eq_true,if_true,e]
        exact h1
      · rcases List.mem_cons.mp hy with rfl | hy
        · exact h4 n c hl
        · exact h3 y hy hf
      · by_cases q:y=n
        · subst q
          exact h4 y c hl
        · refine h4 y d ?_
          rw [List.lookup_cons]
          have:(y == n)=false:=by simpa using q
          rw [this]
          exact hd
    · obtain ⟨cl,h1,h2,h3,h4⟩:=qDP r acc (fun y hy=>hn y (List.mem_cons_of_mem _ hy)) ha
      refine ⟨cl,?_,h2,fun y hy hf=>?_,h4⟩
      · rw [List.forIn_cons]
        have e:(k == NameKind.free)=false:=by simpa using hk
        simp only [e,Bool.false_eq_true,if_false]
        exact h1
      · rcases List.mem_cons.mp hy with rfl | hy
        · exact absurd hf hk
        · exact h3 y hy hf
theorem qFI {env:PySem.Env} {scope:Scope} (hn:∀ y∈scope.names,y.2=.free→∃ c,env.cells.lookup y.1=some c) :
    ∃ cl,closureFor scope env=pure cl∧(∀ y c,cl.lookup y=some c→env.cells.lookup y=some c)∧∀ y∈scope.names,y.2=.free→∃ c,cl.lookup y.1=some c:=by
  obtain ⟨cl,h1,h2,h3,_⟩:=qDP (env:=env) scope.names [] hn (fun _ _ h=>nomatch h)
  refine ⟨cl,?_,h2,h3⟩
  exact (congrArg (fun t:Sem (List (Str × Addr))=>t >>= fun z=>pure z) h1).trans rfl
end Fy
set_option Elab.async false
set_option linter.all false
set_option maxRecDepth 100000
set_option maxHeartbeats 4000000
namespace Fy
open PySem PySem.Spec PyProof.Rows
open L2 (V Hp HO VK TE TT TA TS TI Cx Inv RelV Vals SqL SqT Rd upd qAA qAB PE PT PA PS PSs EP PI PG PIE Turn FpOk Ends Un HOk frs)
noncomputable abbrev noN:Str:=""
noncomputable def maskN (N:List Str) (x:Str):List Str:=N.map fun y=>if y=x then noN else y
theorem qDe (N:List Str) (x:Str):(maskN N x).length=N.length:=by unfold maskN;simp
theorem qKR {N:List Str} {x y:Str} {i:Nat} (h:(maskN N x)[i]?=some y):(N[i]?=some y∧y≠x)∨(N[i]?=some x∧y=noN):=by
 unfold maskN at h
 rw [List.getElem?_map] at h
 cases q:N[i]? with
 | none=>rw [q] at h;cases h
 | some z =>
  rw [q] at h
  have h:(if z=x then noN else z)=y:=Option.some.inj h
  by_cases e:z=x
  ·rw [if_pos e] at h
   exact .inr ⟨by rw [e],h.symm⟩
  ·rw [if_neg e] at h
   exact .inl ⟨by rw [h],h ▸ e⟩
theorem qIi {N:List Str} {x:Str} (nd:N.Nodup) (h1:x≠noN) (h2:x∈N→noN∉N):(maskN N x++[x]).Nodup:=by
 have inj:∀ a∈N,∀ b∈N,(if a=x then noN else a)=(if b=x then noN else b)→a=b:=fun a ha b hb e=>by
  by_cases ea:a=x
  ·by_cases eb:b=x
   ·rw [ea,eb]
   ·rw [if_pos ea,if_neg eb] at e
    exact absurd (e ▸ hb) (h2 (ea ▸ ha))
  ·by_cases eb:b=x
   ·rw [if_neg ea,if_pos eb] at e
    exact absurd (e ▸ ha) (h2 (eb ▸ hb))
   ·rw [if_neg ea,if_neg eb] at e
    exact e
 rw [List.nodup_append]
 refine ⟨?_,by simp,fun a ha b hb z=>?_⟩
 ·unfold maskN
  clear h1 h2
  induction N with
  | nil=>simp
  | cons c r ih =>
   rw [List.nodup_cons] at nd
   rw [List.map_cons,List.nodup_cons]
   refine ⟨fun hm=>?_,ih nd.2 fun a ha b hb=>inj a (List.mem_cons_of_mem _ ha) b (List.mem_cons_of_mem _ hb)⟩
   obtain ⟨d,hd,e⟩:=List.mem_map.mp hm
   have:=inj d (List.mem_cons_of_mem _ hd) c (List.mem_cons_self ..) e
   exact nd.1 (this ▸ hd)
 ·rw [List.mem_singleton.mp hb] at z
  subst z
  unfold maskN at ha
  obtain ⟨d,hd,e⟩:=List.mem_map.mp ha
  have e:(if d=a then noN else d)=a:=e
  by_cases q:d=a
  ·rw [if_pos q] at e;exact h1 e.symm
  ·rw [if_neg q] at e;exact q e
noncomputable def cxC (X:Cx) (x:Str) (scope:Scope) (cl:List (Str × Addr)) (C:Addr) (s3:Shared) (H3:Hp) (fp:List Addr) (E:Value→Shared→Prop):Cx :=
 { X with N:=maskN X.N x++[x],s₀:=s3,H₀:=H3,env:=compEnvC scope cl C X.env,outer:=X.stack,ex:=fp,fn:=fun _=>false,pn:=[],xe:=E }
structure CompOk (X:Cx) (x:Str) (scope:Scope):Prop where
 kind:scope.kind=.function
 nocell:∀ y∈scope.names,y.2≠.cell
 loc:∀ y∈scope.names,y.2=.local→scope.names.lookup y.1=some .local
 own:scope.names.lookup x=some .local
 free:∀ y∈scope.names,y.2=.free→X.env.kindOf y.1=some .cell∨X.env.kindOf y.1=some .free
 new:x≠noN
 hole:x∈X.N→noN∉X.N∧scope.names.lookup noN=none
 others:∀ y,y≠x→scope.names.lookup y=some .local→y∈X.N→False
section
variable {X:Cx} {x:Str} {scope:Scope} {cl:List (Str × Addr)} {pins:List (Addr × Obj)} {σ:L2.St} {H:Hp} {s:Shared} {fp:List Addr}
theorem qAL {env:PySem.Env} {y:Str} {k:NameKind}:∀ {names:List (Str × NameKind)},(names.map fun (n,k)=>if (k == NameKind.free&&env.scope.kind == .function&&env.kindOf n == some .cell) then (n,NameKind.cell) else (n,k)).lookup y=some k →
    names.lookup y=some k∨(names.lookup y=some .free∧k=.cell)
  | [],h=>by simp at h
  | (n,k')::r,h=>by
    have ih:=@qAL env y k r
    have h:List.lookup y ((if (k' == NameKind.free&&env.scope.kind == .function&&env.kindOf n == some .cell)=true then (n,NameKind.cell) else (n,k'))::(r.map fun (n,k)=>if (k == NameKind.free&&env.scope.kind == .function&&env.kindOf n == some .cell) then (n,NameKind.cell) else (n,k)))=some k:=h
    by_cases hc:(k' == NameKind.free&&env.scope.kind == .function&&env.kindOf n == some .cell)=true
    · rw [if_pos hc,List.lookup_cons] at h
      rw [List.lookup_cons]
      cases q:(y == n) with
      | true =>
        rw [q] at h
        cases h
        have:k'=.free:=by
          simp only [Bool.and_eq_true] at hc
          simpa using hc.1.1
        subst this
        exact .inr ⟨rfl,rfl⟩
      | false=>rw [q] at h;exact ih h
    · rw [if_neg hc,List.lookup_cons] at h
      rw [List.lookup_cons]
      cases q:(y == n) with
      | true=>rw [q] at h;exact .inl h
      | false=>rw [q] at h;exact ih h
theorem qA1 {names:List (Str × NameKind)} {y:Str} {k:NameKind} (h:names.lookup y=some k):(y,k)∈names:=PySem.mem_of_lookup h
theorem CompOk.vis (C:CompOk X x scope) {y:Str} (hy:y∈X.N) (hne:y≠x) (hv:L2.Vis (relabel scope X.env) y):(scope.names.lookup y=some .free)∧((relabel scope X.env).names.lookup y=some .cell∨(relabel scope X.env).names.lookup y=some .free):=by
 rcases hv with h | h | h
 ·rcases qAL h with z | ⟨_,z⟩
  ·exact (C.others y hne z hy).elim
  ·cases z
 ·rcases qAL h with z | ⟨z,_⟩
  ·exact absurd rfl (C.nocell _ (qA1 z))
  ·exact ⟨z,.inl h⟩
 ·rcases qAL h with z | ⟨z,w⟩
  ·exact ⟨z,.inr h⟩
  ·cases w
theorem qPd {C:Addr} {E:Value→Shared→Prop} (K:CompOk X x scope) (I:Inv X pins σ H s) (hC:C=s.heap.objs.size) (hcl:∀ y c,cl.lookup y=some c→X.env.cells.lookup y=some c) (hfr:∀ y∈scope.names,y.2=.free→∃ c,cl.lookup y.1=some c)
    (hfp:∀ b∈fp,FpOk X pins H b) (hlt:∀ b∈fp,b<s.heap.objs.size):(cxC X x scope cl C s H fp E).Ok where
  mod:=I.mod
  kind:=K.kind
  glob:=I.ok.glob
  blt:=I.ok.blt
  above:=by rw [hC];exact Nat.le_refl _
  inj:=fun y z c h1 h2=>I.ok.inj y z c (hcl y c h1) (hcl z c h2)
  has:=fun y hy=>by
    have hy:(relabel scope X.env).names.lookup y=some .cell∨(relabel scope X.env).names.lookup y=some .free:=hy
    have:scope.names.lookup y=some .free:=by
      rcases hy with h | h
      · rcases qAL h with z | ⟨z,_⟩
        · exact absurd rfl (K.nocell _ (qA1 z))
        · exact z
      · rcases qAL h with z | ⟨_,w⟩
        · exact z
        · cases w
    exact hfr _ (qA1 this) rfl
  cab:=fun y c h=>by cases h
  hd:=I.ok.hd
  frames:=I.ok.frames
  stk:=.inl rfl
  exf:=fun b hb=>⟨fun z=>by have:=hlt b hb;rw [show b=C from z,hC] at this;exact absurd this (Nat.lt_irrefl _),fun y c h=>(hfp b hb).2.2.2.2.1 y c (hcl y c h)⟩
  bs:=I.bs
  bsz:=Nat.le_trans I.ok.bsz I.sz
  noex:=fun b o e hb=>by
    obtain ⟨_,_,_,f3,_⟩:=hfp b hb
    rcases f3 with z | z
    · exact I.ok.noex b o e z
    · exact absurd (Nat.lt_of_lt_of_le (Heap.lt_size e) (Nat.le_trans I.ok.bsz z)) (Nat.lt_irrefl _)
  exfs:=fun b hb z=>by
    obtain ⟨_,f1,f2,_⟩:=hfp b hb
    rcases List.mem_cons.mp (I.stkSub b z) with q | q
    · exact f1 q
    · exact f2 q
  funs:=I.stack
  frf:=I.stkFree
theorem qNL {C:Addr} {E:Value→Shared→Prop} {h1:Heap} {tk:Nat} (K:CompOk X x scope) (I:Inv X pins σ H s) (hC:C=s.heap.objs.size) (hcl:∀ y c,cl.lookup y=some c→X.env.cells.lookup y=some c) (hfr:∀ y∈scope.names,y.2=.free→∃ c,cl.lookup y.1=some c)
    (hfp:∀ b∈fp,FpOk X pins H b) (hlt:∀ b∈fp,b<s.heap.objs.size) (hns:h1.Ns C fun _=>none) (old:∀ b o,s.heap.get? b=some o→h1.get? b=some o) :
    Inv (cxC X x scope cl C s H fp E) [] (σ++[none]) H { s with heap:=h1,toks:=tk }:=by
  have ok:(cxC X x scope cl C s H fp E).Ok:=qPd K I hC hcl hfr hfp hlt
  have fC:H C=none:=I.hok.fresh (by rw [hC];exact Nat.le_refl _)
  refine ⟨ok,rfl,I.bare,Un.kept old,⟨_,hns,fun i y v e1 e2 e3=>?_⟩,fun y c h=>?_,fC,fun y c h=>I.freeC y c (hcl y c h),fun p hp=>absurd hp (by show p∉([]:List (Addr × Obj))++[];simp),I.hok.kept old,?_⟩
  · have e1:(maskN X.N x++[x])[i]?=some y:=e1
    by_cases hi:i<σ.length
    · rw [List.getElem?_append_left hi] at e2
      rw [List.getElem?_append_left (by rw [qDe,← I.len];exact hi)] at e1
      rcases qKR e1 with ⟨e1,hne⟩ | ⟨e9,rfl⟩
      rotate_left
      · exfalso
        have hz:=(K.hole (List.mem_of_getElem? e9)).2
        rcases e3 with z | z | z
        · rcases qAL z with w | ⟨w,_⟩ <;> (rw [hz] at w;cases w)
        · rcases qAL z with w | ⟨w,_⟩ <;> (rw [hz] at w;cases w)
        · rcases qAL z with w | ⟨w,_⟩ <;> (rw [hz] at w;cases w)
      obtain ⟨hf,hk⟩:=K.vis (List.mem_of_getElem? e1) hne e3
      have ho:=K.free _ (qA1 hf) rfl
      obtain ⟨m,hn,hl⟩:=I.loc
      have vo:L2.Vis X.env.scope y:=by
        rcases ho with z | z
        · exact .inr (.inl z)
        · exact .inr (.inr z)
      obtain ⟨u,r,l⟩:=hl i y v e1 e2 vo
      refine ⟨u,r,.inr ⟨hk,?_⟩⟩
      rcases l with ⟨hk',_⟩ | ⟨_,c,hc,o,hoc,hd⟩
      · rcases ho with z | z
        · have z:X.env.kindOf y=some .cell:=z
          rw [hk'] at z;cases z
        · have z:X.env.kindOf y=some .free:=z
          rw [hk'] at z;cases z
      · obtain ⟨c',hc'⟩:=hfr _ (qA1 hf) rfl
        have e:=hcl _ _ hc'
        rw [hc] at e
        cases e
        exact ⟨c,hc',o,old _ _ hoc,hd⟩
    · rw [List.getElem?_append_right (Nat.le_of_not_lt hi)] at e2
      cases q:i-σ.length with
      | zero=>rw [q] at e2;cases e2
      | succ n=>rw [q] at e2;simp at e2
  · obtain ⟨v,o,ho,hd⟩:=I.cell y c (hcl y c h)
    exact ⟨v,o,old _ _ ho,hd⟩
  · show (σ++[none]).length=(maskN X.N x++[x]).length
    rw [List.length_append,List.length_append,qDe,I.len]
    rfl
end
end Fy
set_option Elab.async false
set_option linter.all false
set_option maxRecDepth 100000
set_option maxHeartbeats 4000000
namespace Fy
open PySem PySem.Spec PyProof.Rows
open L2 (store_ok V Hp HO VK TE TT TA TS TI Cx Inv RelV Vals SqL SqT Rd upd qAA qAB PE PT PA PS PSs EP TP PI PG PIE Turn FpOk Ends Un HOk frs thn)
noncomputable def optT:Option TT→TT
 | none=>fun _ H Q=>Q true H
 | some t=>t
noncomputable def tComp (K:PySem.W.Frag) (wi:TI) (tt:Option TT) (te:TE):TE:=fun σ H Q=>wi σ H fun J H1=>∀ d,H1 d=none→K.lookup d=none→∃ W:Nat→Nat→Hp→Prop,(∃ m,W 0 m (upd H1 d (.lst [])))∧∀ i m H,W i m H →
 (J.stop i H∧Q (.ref d) H)∨(J.go i H∧∀ x H',J.yld i H x H'→optT tt (σ++[some x]) H' fun b H2=>if b=true then te (σ++[some x]) H2 fun y H3=>∃ ys,H3 d=some (.lst ys)∧ys.length<sizeLine∧∃ m',m'<m∧W (i+1) m' (upd H3 d (.lst (ys++[y]))) else ∃ m',m'<m∧W (i+1) m' H2)
noncomputable def PTs (X:Cx) (ifs:List Expr):Option TT→Prop
 | none=>ifs=[]
 | some t=>∃ c,ifs=[c]∧PT X c t
section
variable {X:Cx} {x:Str} {scope:Scope} {pins:List (Addr × Obj)} {σ:L2.St} {H:Hp} {s:Shared} {elt iter:Expr} {ifs:List Expr} {px pos p:Pos} {wi:TI} {tt:Option TT} {te:TE} {Q:VK}
theorem qJz {t:Option TT} {Q':Bool→Hp→Prop} (h:PTs X ifs t) (I:Inv X pins σ H s) (q:optT t σ H Q') :
    wpAny (model X.prog X.w) X.A (forIn ifs true fun c r=>if r=true then do let ok ← isTrue c X.env (eval c X.env);pure (ForInStep.yield ok) else pure (ForInStep.yield r)) (TP X pins σ Q') X.xe s:=by
  cases t with
  | none =>
    have h:ifs=[]:=h
    subst h
    exact wpAny_tests_nil ⟨H,I,q⟩
  | some t =>
    obtain ⟨c,rfl,hc⟩:=h
    exact wpAny_tests_one (hc pins s σ H Q' I q)
theorem qFx {use:Option (Value→Sem Unit)} {Qf:Value→Shared→Prop} (K:CompOk X x scope) (nd:X.N.Nodup) (hc:X.calm=true) (hi:PI X (.Name x px) iter wi) (hfs:∀ x,foldedSetIterable iter X.env x=pure x)
    (hin:∀ cl C s3 H3 fp E,PE (cxC X x scope cl C s3 H3 fp E) elt te∧PTs (cxC X x scope cl C s3 H3 fp E) ifs tt) (I:Inv X pins σ H s) (h:tComp X.K wi tt te σ H Q)
    (fin:∀ (d C:Addr) (H':Hp) (s':Shared) (m:Str→Option Value),Inv X pins σ H' s'→s'.heap.Ns C m→FpOk X pins H' C→Q (.ref d) H'→compPost (model X.prog X.w) X.A X.xe use Qf (.ref d) C (.ok .next) s') :
    wpAny (model X.prog X.w) X.A (comprehension (.ListComp elt [⟨.Name x px,iter,ifs,0⟩] scope pos) scope X.env p (newList []) false (eval iter X.env) use) Qf X.xe s:=by
  obtain ⟨cl,hclos,hcl,hfr⟩:=qFI (env:=X.env) (scope:=scope) fun y hy hf=>I.ok.has _ (K.free y hy hf)
  refine wpAny_comprehension_free (use:=use) rfl hfs hclos K.kind K.loc (thn (hi pins s σ H _ I h) fun v s1 h1=>thn h1 fun itv s2 h2=>?_)
  obtain ⟨it,fp,tn,J,H2,e,I2,T,st2,f2,hR⟩:=h2
  subst e
  refine wpAny_newObj_type ?_
  obtain ⟨W,⟨m0,w0⟩,turn⟩:=hR s2.heap.objs.size I2.fresh (by
    cases q:X.K.lookup s2.heap.objs.size with
    | none=>rfl
    | some o=>exact absurd (Heap.lt_size (I2.kIn _ o q)) (Nat.lt_irrefl _))
  have I3:=I2.lnew (its:=[]) (ys:=[]) (t':=s2.toks) .nil (Nat.zero_le _)
  have fd:∀ b∈fp,b<s2.heap.objs.size:=fun b hb=>let ⟨o,e,_⟩:=T.obj _ _ st2 b hb;Heap.lt_size e
  have f3:∀ b∈fp,FpOk X pins (upd H2 s2.heap.objs.size (.lst [])) b:=fun b hb=>⟨by rw [qAB (Nat.ne_of_lt (fd b hb))];exact (f2 b hb).1,(f2 b hb).2⟩
  have st3:tn 0 (s2.heap.push { cls:=.type "list",data:=.seq ([]:List Value).toArray }):=T.keep _ _ _ st2 fun b _ o e=>Heap.get?_push_of_some _ e
  generalize hd:s2.heap.objs.size=d at *
  generalize hH3:upd H2 d (.lst [])=H3 at *
  generalize hs3:({ s2 with heap:=s2.heap.push { cls:=.type "list",data:=.seq ([]:List Value).toArray },toks:=s2.toks }:Shared)=s3 at *
  have st3:tn 0 s3.heap:=by rw [← hs3];exact st3
  have lt3:∀ b∈fp,b<s3.heap.objs.size:=fun b hb=>let ⟨o,e,_⟩:=T.obj _ _ st3 b hb;Heap.lt_size e
  refine wpAny_newFunctionEnv K.nocell (by intro y hy;simp at hy) (fun h1 hns hsb=>?_) K.kind
  have old:∀ b o,s3.heap.get? b=some o→h1.get? b=some o:=fun b o e=>hsb.extBut b o (Nat.ne_of_lt (Heap.lt_size e)) (Heap.get?_push_of_some _ e)
  show codeAny _ _ (.compStart (.ListComp elt [⟨.Name x px,iter,ifs,0⟩] scope pos) 0 (.ref it) (.ref d) (compEnvC scope cl s3.heap.objs.size X.env)) (compPost (model X.prog X.w) X.A X.xe use Qf (.ref d) s3.heap.objs.size) _
  generalize hC:s3.heap.objs.size=C at *
  have I4:=qNL (E:=notedBy (model X.prog X.w) X.A (compEnvC scope cl C X.env) fun e s'=>compPost (model X.prog X.w) X.A X.xe use Qf (.ref d) C (.error e) s') (tk:=s3.toks+([]:List (Str × Value)).length) K I3 hC.symm hcl hfr f3 (by rw [hC];exact lt3) hns old
  obtain ⟨hE,hT⟩:=hin cl C s3 H3 fp (notedBy (model X.prog X.w) X.A (compEnvC scope cl C X.env) fun e s'=>compPost (model X.prog X.w) X.A X.xe use Qf (.ref d) C (.error e) s')
  generalize hX:cxC X x scope cl C s3 H3 fp (notedBy (model X.prog X.w) X.A (compEnvC scope cl C X.env) fun e s'=>compPost (model X.prog X.w) X.A X.xe use Qf (.ref d) C (.error e) s')=X' at I4 hE hT
  have pX:X'.prog=X.prog:=by rw [← hX];rfl
  have wX:X'.w=X.w:=by rw [← hX];rfl
  have kX:X'.K=X.K:=by rw [← hX];rfl
  have aX:X'.A=X.A:=by rw [← hX];rfl
  have cX:X'.calm=true:=by rw [← hX];exact hc
  have eX:X'.env=compEnvC scope cl C X.env:=by rw [← hX];rfl
  have xX:X'.xe=notedBy (model X.prog X.w) X.A (compEnvC scope cl C X.env) fun e s'=>compPost (model X.prog X.w) X.A X.xe use Qf (.ref d) C (.error e) s':=by rw [← hX];rfl
  have nX:X'.N=maskN X.N x++[x]:=by rw [← hX];rfl
  have sX:X'.s₀=s3:=by rw [← hX];rfl
  have hX0:X'.H₀=H3:=by rw [← hX];rfl
  have oX:X'.fs=frs X.stack:=by rw [← hX];rfl
  have exX:X'.ex=fp:=by rw [← hX];rfl
  have pnX:X'.pn=[]:=by rw [← hX];rfl
  have lX:X'.env.locals=C:=by rw [eX];rfl
  have slot:X'.N[σ.length]?=some x:=by
    rw [nX,List.getElem?_append_right (by rw [qDe,I3.len];exact Nat.le_refl _),qDe,I3.len]
    simp
  have ndX:X'.N.Nodup:=by
    rw [nX]
    exact qIi nd K.new fun z=>(K.hole z).1
  have locX:L2.Loc X'.env.scope x:=by
    rw [eX]
    exact .inl (lookup_relabel_local K.own)
  have stat:∀ {H':Hp},(∀ b∈fp,H' b=none)→∀ b∈fp,FpOk X' [] H' b:=fun hn b hb=>by
    refine ⟨hn b hb,?_,?_,.inl (by rw [exX];exact hb),fun y c h=>?_,fun p hp=>?_⟩
    · rw [lX]
      exact Nat.ne_of_lt (lt3 b hb)
    · rw [oX]
      intro z
      rcases List.mem_cons.mp (I3.stkSub b z) with q | q
      · exact (f3 b hb).2.1 q
      · exact (f3 b hb).2.2.1 q
    · rw [eX] at h
      exact (f3 b hb).2.2.2.2.1 y c (hcl y c h)
    · rw [pnX] at hp
      simp at hp
  have loop:∀ s':Shared,s'={ s3 with heap:=h1,toks:=s3.toks+([]:List (Str × Value)).length } →
      codeAny (model X.prog X.w) X.A (.compLoop (.ListComp elt [⟨.Name x px,iter,ifs,0⟩] scope pos) 0 (.ref it) (.ref d) (compEnvC scope cl C X.env)) (compPost (model X.prog X.w) X.A X.xe use Qf (.ref d) C) s':=by
    rintro s' rfl
    refine qGe (fun n s'=>∃ i v H',Inv X' [] (σ++[v]) H' s'∧tn i s'.heap∧(∀ b∈fp,H' b=none)∧W i n H') ?_ m0 ⟨0,none,H3,I4,T.keep _ _ _ st3 fun b _ o e=>old b o e,fun b hb=>(f3 b hb).1,w0⟩
    rintro n s4 ⟨i,v4,H4,I4,st4,fr4,w4⟩
    rcases turn i n H4 w4 with ⟨stop,qn⟩ | ⟨go,step⟩
    · have td:=T.done X' pX wX kX cX i [] s4 _ H4 (notedBy (model X.prog X.w) X.A (compEnvC scope cl C X.env) fun e s'=>compPost (model X.prog X.w) X.A X.xe use Qf (.ref d) C (.error e) s') I4 (stat fr4) st4 stop
      rw [aX] at td
      refine thn td fun r s5 ⟨hr,I5⟩=>?_
      subst hr
      obtain ⟨m,hn,_⟩:=I5.loc
      rw [lX] at hn
      have fC:H4 C=none:=by rw [← lX];exact I5.free
      have un:L2.Un (frs X.stack) fp H3 H4 s3.heap s5.heap:=by
        have:=I5.base
        rw [sX,hX0,oX,exX] at this
        exact this
      have IX:Inv X pins σ H4 s5:=I3.call' (by have:=I5.os;rw [sX] at this;exact this) un (by have:=I5.hok;rw [pX,wX] at this;exact this) I5.bare fun b hb=>⟨(f3 b hb).2.2.2.1,(f3 b hb).2.1,(f3 b hb).2.2.2.2.1,(f3 b hb).2.2.2.2.2⟩
      exact fin d C H4 s5 m IX hn (I3.fpOk (by rw [hC];exact Nat.le_refl _) fC) qn
    · have ti:=T.item X' pX wX kX cX i [] s4 _ H4 (notedBy (model X.prog X.w) X.A (compEnvC scope cl C X.env) fun e s'=>compPost (model X.prog X.w) X.A X.xe use Qf (.ref d) C (.error e) s') I4 (stat fr4) st4 go
      rw [aX] at ti
      refine thn ti fun r s5 ⟨u,hr,h5⟩=>?_
      subst hr
      refine thn h5 fun _ s6 ⟨xv,H6,I6,r6,y6,st6,fr6⟩=>?_
      have I6':=I6.pinned (stat fr6) (T.obj _ _ st6)
      have as:=wpAny_assign_Name (pos:=px) (store_ok (M:=model X.prog X.w) (A:=X.A) (E:=notedBy (model X.prog X.w) X.A (compEnvC scope cl C X.env) fun e s'=>compPost (model X.prog X.w) X.A X.xe use Qf (.ref d) C (.error e) s') (Q:=fun _ s7=>Inv X' ([]++L2.pinsAt fp s6.heap) (σ++[some xv]) H6 s7) I6' ndX slot locX r6 (fun s7 I7=>by
        have e:(σ++[v4]).set σ.length (some xv)=σ++[some xv]:=by simp
        rw [e] at I7
        exact I7) (.inr (by rw [eX];exact lookup_relabel_local K.own)))
      rw [eX] at as
      refine thn as fun _ s7 I7=>?_
      have te:=qJz hT I7 (step xv H6 y6)
      rw [pX,wX,aX,xX,eX] at te
      refine thn te fun ok s8 ⟨H8,I8,q8⟩=>?_
      have again:∀ {H9:Hp} {s9:Shared} {k:Nat},Inv X' ([]++L2.pinsAt fp s6.heap) (σ++[some xv]) H9 s9→W (i+1) k H9→∃ i v H',Inv X' [] (σ++[v]) H' s9∧tn i s9.heap∧(∀ b∈fp,H' b=none)∧W i k H':=fun {H9 s9 k} I9 w9=>by
        refine ⟨i+1,some xv,H9,I9.unpinned,T.keep _ _ _ st6 fun b hb o e=>(I9.pin (b,o) (List.mem_append_right _ (List.mem_append_right _ (L2.mem_pinsAt hb e)))).1,fun b hb=>?_,w9⟩
        obtain ⟨o,e,_⟩:=T.obj _ _ st6 b hb
        exact (I9.pin (b,o) (List.mem_append_right _ (List.mem_append_right _ (L2.mem_pinsAt hb e)))).2.1
      cases ok with
      | false =>
        obtain ⟨m',hm,w9⟩:=q8
        exact ⟨m',hm,again I8 w9⟩
      | true =>
        have ev:=hE _ s8 _ H8 _ I8 q8
        rw [pX,wX,aX,xX,eX] at ev
        refine thn ev fun y s9 ⟨yv,H9,I9,r9,ys,hd9,hz,m',hm,w9⟩=>?_
        have ap:=L2.mt_append (X:=X') _ s9 _ H9 (.ref d) [yv] (.ref d) [y] (fun _ H'=>H'=upd H9 d (.lst (ys++[yv]))) I9 rfl (.cons r9 .nil) ⟨d,ys,yv,rfl,rfl,hd9,hz,rfl⟩
        rw [pX,wX,aX,xX] at ap
        refine thn ap fun z s10 ⟨_,H10,I10,_,e10⟩=>?_
        subst e10
        exact ⟨m',hm,again I10 w9⟩
  exact codeAny_compStart_list (loop _ rfl) (T.self _ 0 _ _ _ (T.keep _ _ _ st3 fun b _ o e=>old b o e) (loop _ rfl))
theorem qCc {C:Addr} {h':Heap} {H':Hp} {s':Shared} (I:Inv X pins σ H' s') (f:FpOk X pins H' C) (hs:Heap.SameBut C s'.heap h'):Inv X pins σ H' { s' with heap:=h' } :=
 I.turned (t':=s'.toks) (fun b o hb e=>hs.extBut b o hb e) f.1 f.2.1 f.2.2.2.1 f.2.2.2.2.1 f.2.2.2.2.2
theorem qIP (K:CompOk X x scope) (nd:X.N.Nodup) (hc:X.calm=true) (hi:PI X (.Name x px) iter wi) (hfs:∀ x,foldedSetIterable iter X.env x=pure x)
    (hin:∀ cl C s3 H3 fp E,PE (cxC X x scope cl C s3 H3 fp E) elt te∧PTs (cxC X x scope cl C s3 H3 fp E) ifs tt):PE X (.ListComp elt [⟨.Name x px,iter,ifs,0⟩] scope pos) (tComp X.K wi tt te):=by
  intro pins s σ H Q I h
  rw [eval_ListComp]
  refine qFx (use:=none) K nd hc hi hfs hin I h fun d C H' s' m IX hn f q=>?_
  exact ⟨m,hn,fun h' hs'=>⟨.ref d,H',qCc IX f hs',rfl,q⟩⟩
theorem qIM {y:Str} {i:Nat} {py spos:Pos} (K:CompOk X x scope) (nd:X.N.Nodup) (hc:X.calm=true) (hi:PI X (.Name x px) iter wi) (hfs:∀ x,foldedSetIterable iter X.env x=pure x)
    (hin:∀ cl C s3 H3 fp E,PE (cxC X x scope cl C s3 H3 fp E) elt te∧PTs (cxC X x scope cl C s3 H3 fp E) ifs tt) (hy:X.N[i]?=some y) (hk:X.env.scope.names.lookup y=some .local)
    (hsw:swapsWith (.ListComp elt [⟨.Name x px,iter,ifs,0⟩] scope pos) (some (.Name y py)) spos.line X.env=pure true) :
    PS X (.Assign [.Name y py] (.ListComp elt [⟨.Name x px,iter,ifs,0⟩] scope pos) spos) (fun D σ H=>tComp X.K wi tt te σ H fun v H'=>D.nx (σ.set i (some v)) H'):=by
  intro pins s σ H D I h
  rw [exec_Assign_Name_used _ _ _ _ hsw]
  refine wpAny_bind (wpAny_standAt (wpAny_bind ?_))
  show wpAny _ X.A (do let _ ← comprehension (.ListComp elt [⟨.Name x px,iter,ifs,0⟩] scope pos) scope X.env _ (newList []) false (eval iter X.env) (some (assign (.Name y py) X.env))) _ _ s
  refine wpAny_bind (wpAny_mono (qFx (use:=some (assign (.Name y py) X.env)) (Qf:=fun _ s'=>L2.SP X pins D .next s') K nd hc hi hfs hin I h fun d C H' s' m IX hn f q=>?_) (fun _ s' hq=>wpAny_pure (wpAny_pure hq)) fun _ _ e=>e)
  obtain ⟨oC,es,ep,hC,hr⟩:=id hn
  have dC:∀ v,oC.data≠.cell v:=fun v z=>by rw [hr.1] at z;cases z
  have IP:Inv X (pins++[(C,oC)]) σ H' s':=IX.pins_of fun p hp=>by
    rcases List.mem_append.mp hp with z | z
    · exact IX.pin p (List.mem_append_right _ z)
    · have e:p=(C,oC):=List.mem_singleton.mp z
      subst e
      exact ⟨hC,f.1,f.2.1,f.2.2.1,dC⟩
  show wpAny _ X.A (assign (.Name y py) X.env (.ref d)) _ _ _
  refine wpAny_assign_Name (store_ok IP nd hy (.inl hk) (v:=.ref d) rfl (fun s7 I7=>?_) (.inr hk))
  have k7:=(I7.pin (C,oC) (List.mem_append_right _ (List.mem_append_right _ (List.mem_singleton.mpr rfl)))).1
  exact ⟨m,⟨oC,es,ep,k7,hr⟩,fun h' hs'=>⟨_,H',qCc I7.unpinned f hs',q⟩⟩
end
end Fy
set_option Elab.async false
set_option linter.all false
set_option maxRecDepth 100000
set_option maxHeartbeats 4000000
namespace Fy
open PySem PySem.Spec PyProof.Rows
open L2 (V Hp HO VK TE TT TA TS TI Cx Inv RelV Vals SqL SqT Rd upd qAA qAB PE PT PA PS PSs EP PI PG PIE Turn FpOk Ends Un HOk frs)
structure CompM (X:Cx) (N' xs:List Str) (scope:Scope):Prop where
 kind:scope.kind=.function
 nocell:∀ y∈scope.names,y.2≠.cell
 loc:∀ y∈scope.names,y.2=.local→scope.names.lookup y.1=some .local
 own:∀ x∈xs,scope.names.lookup x=some .local
 free:∀ y∈scope.names,y.2=.free→X.env.kindOf y.1=some .cell∨X.env.kindOf y.1=some .free
 len:N'.length=X.N.length
 nd:(N'++xs).Nodup
 get:∀ (i:Nat) (y:Str),N'[i]?=some y→(X.N[i]?=some y∧y∉xs)∨scope.names.lookup y=none
 others:∀ y,y∉xs→scope.names.lookup y=some .local→y∈X.N→False
section
variable {X:Cx} {N' xs:List Str} {scope:Scope} {cl:List (Str × Addr)} {pins:List (Addr × Obj)} {σ:L2.St} {H:Hp} {s:Shared} {fp:List Addr}
theorem CompM.vis (C:CompM X N' xs scope) {y:Str} (hy:y∈X.N) (hne:y∉xs) (hv:L2.Vis (relabel scope X.env) y):(scope.names.lookup y=some .free)∧((relabel scope X.env).names.lookup y=some .cell∨(relabel scope X.env).names.lookup y=some .free):=by
 rcases hv with h | h | h
 ·rcases qAL h with z | ⟨_,z⟩
  ·exact (C.others y hne z hy).elim
  ·cases z
 ·rcases qAL h with z | ⟨z,_⟩
  ·exact absurd rfl (C.nocell _ (qA1 z))
  ·exact ⟨z,.inl h⟩
 ·rcases qAL h with z | ⟨z,w⟩
  ·exact ⟨z,.inr h⟩
  ·cases w
end
end Fy
set_option Elab.async false
set_option linter.all false
set_option maxRecDepth 100000
set_option maxHeartbeats 4000000
namespace Fy
open PySem PySem.Spec PyProof.Rows
open L2 (store_ok V Hp HO VK TE TT TA TS TI Cx Inv RelV Vals SqL SqT Rd upd qAA qAB PE PT PA PS PSs EP TP PI PG PIE Turn FpOk Ends Un HOk frs thn)
section
variable {X:Cx} {N' xs:List Str} {scope:Scope} {pins:List (Addr × Obj)} {σ:L2.St} {H:Hp} {s:Shared} {tg elt iter:Expr} {g:L2.TG} {ifs:List Expr} {pos p:Pos} {wi:TI} {tt:Option TT} {te:TE} {Q:VK}
end
end Fy
set_option Elab.async false
set_option linter.all false
set_option maxRecDepth 100000
set_option maxHeartbeats 4000000
namespace Fy
open PySem PySem.Spec PyProof.Rows
open L2 (V Hp HO VK TE TT TA TS TI Cx Inv RelV Vals SqL SqT Rd upd qAA qAB PE PT PA PS PSs EP TP PI PG PIE Turn FpOk Ends HOk frs thn)
noncomputable def ItRep (K:PySem.W.Frag) (ρ:List Addr) (H:Hp):It→L2.It→Prop
 | .row xs,J=>(∀ (i:Nat) ρ' H',Step ρ H ρ' H'→i<xs.length→J.go i H')∧(∀ (i:Nat) ρ' H' x H'',Step ρ H ρ' H'→i<xs.length→J.yld i H' x H''→H''=H'∧∃ d,xs[i]?=some d∧RepV K ρ' H' d x)∧∀ (i:Nat) ρ' H',Step ρ H ρ' H'→i=xs.length→J.stop i H'
 | .live k,J=>∃ a,ρ[k]?=some a∧J=L2.Itl K a
noncomputable def tDI (K:PySem.W.Frag) (W:WX) (m:Env→M It):TI:=fun σ H R=>∃ ρ env h,RepS K ρ H env σ∧RepH K ρ h H∧Post K (W.at σ) (fun ρ' H' r=>∀ J,ItRep K ρ' H' r J→R J H') ρ H (m env h)
theorem PI.imp {X:Cx} {tg e:Expr} {t t':TI} (h:PI X tg e t) (i:∀ σ H R,t' σ H R→t σ H R):PI X tg e t':=fun pins s σ H R I q=>h pins s σ H R I (i σ H R q)
theorem qFf {K:PySem.W.Frag} {ρ:List Addr} {H:Hp} (lo:Int) (n:Nat):ItRep K ρ H (.row (qAi lo n)) (L2.Itr lo n):=by
 have hl:(qAi lo n).length=n:=by unfold qAi;simp
 refine ⟨fun i ρ' H' _ hi=>by rw [hl] at hi;exact hi,fun i ρ' H' x H'' _ hi y=>?_,fun i ρ' H' _ hi=>by rw [hl] at hi;exact Nat.le_of_eq hi.symm⟩
 obtain ⟨rfl,rfl⟩:=y
 rw [hl] at hi
 refine ⟨rfl,.int (lo+i),?_,rfl⟩
 unfold qAi
 rw [List.getElem?_map,List.getElem?_range hi]
 rfl
theorem qMA {K:PySem.W.Frag} {ρ:List Addr} {H:Hp} (x:Tx):ItRep K ρ H (.row (x.map fun c=>D.str [c])) (Its ⟨x.toArray⟩):=by
 have hl:(x.map fun c=>D.str [c]).length=x.toArray.size:=by simp
 refine ⟨fun i ρ' H' _ hi=>by rw [hl] at hi;exact hi,fun i ρ' H' z H'' _ hi y=>?_,fun i ρ' H' _ hi=>by rw [hl] at hi;exact hi⟩
 obtain ⟨rfl,c,hc,rfl⟩:=y
 refine ⟨rfl,.str [c],?_,rfl⟩
 have hc:x.toArray[i]?=some c:=hc
 rw [List.getElem?_map]
 rw [List.getElem?_toArray] at hc
 rw [hc]
 rfl
theorem qL9 {K:PySem.W.Frag} {ρ:List Addr} {H:Hp} {xs:List D} {vs:List V} {a:Addr} (ha:SqT K H a vs) (hx:RepL K ρ H xs vs):ItRep K ρ H (.row xs) (L2.Itt K a):=by
 have hl:=hx.length
 refine ⟨fun i ρ' H' e hi=>?_,fun i ρ' H' z H'' e hi y=>?_,fun i ρ' H' e hi=>⟨vs,e.sqt ha,by omega⟩⟩
 ·exact ⟨vs,vs[i]'(by omega),e.sqt ha,by simp [show i<vs.length by omega]⟩
 ·obtain ⟨rfl,y⟩:=y
  have q:xs[i]?=some xs[i]:=by simp [hi]
  obtain ⟨w,h1,h2⟩:=hx.get q
  have y':=y vs (e.sqt ha)
  rw [h1] at y'
  cases y'
  exact ⟨rfl,_,q,h2.mono e _ _⟩
section
variable {X:Cx} {F:Nat→List D→M D} {tg:Expr} {W:WX}
theorem di_of {e:Expr} {c:CE} (he:PE X e (tD X.K W (den F c))):PI X tg e (tDI X.K W (denI F (.of c))):=PI.imp (qOT he) fun σ H Rr t=>by
 obtain ⟨ρ,env,h,s,r,p⟩:=t
 rw [denI] at p
 refine ⟨ρ,env,h,s,r,Post.bind p fun ρ1 h1 d H1 e1 r1 q v hv=>?_⟩
 cases d with
 | str x=>cases hv;exact .inr (.inr ⟨_,rfl,Post.ret (a:=It.row (x.map fun c=>D.str [c])) q r1 _ (qMA x)⟩)
 | tup xs =>
  obtain ⟨a,vs,rfl,k1,k2⟩:=hv
  exact .inr (.inl ⟨a,rfl,⟨vs,k1⟩,Post.ret (a:=It.row xs) q r1 _ (qL9 k1 k2)⟩)
 | ref i =>
  have q:Post X.K (W.at σ) _ ρ1 H1 (match getL h1 i with | some _=>R.ok (It.live i) h1 | none=>.bad):=q
  cases z:getL h1 i with
  | none=>rw [z] at q;exact False.elim q
  | some xs =>
   rw [z] at q
   obtain ⟨a,k1,rfl⟩:=hv
   obtain ⟨b,vs,k2,k3,_⟩:=r1.list z
   rw [k1] at k2
   cases k2
   exact .inl ⟨a,rfl,⟨vs,k3⟩,Post.ret (a:=It.live i) q r1 _ ⟨a,k1,rfl⟩⟩
 | _=>exact False.elim q
theorem qNF {a:Expr} {p1 p2:Pos} {c:CE} (hgl:L2.Gl X "range") (hm:X.mg "range"=none) (he:PE X a (tD X.K W (den F c))) (hst:starEach [a] X.env=[(false,eval a X.env)]) :
    PI X tg (.Call (.Name "range" p1) [a] [] p2) (tDI X.K W (denI F (.rng1 c))):=PI.imp (L2.pi_range1 hgl hm (L2.pa_cons he L2.pa_nil hst) hst) fun σ H R t=>by
  obtain ⟨ρ,env,h,s,r,p⟩:=t
  rw [denI] at p
  refine ⟨ρ,env,h,s,r,Post.bind p fun ρ1 h1 d H1 e1 r1 q v hv=>?_⟩
  cases d with
  | int j =>
    cases hv
    obtain ⟨z,q⟩:=Post.when q
    exact ⟨j,rfl,by have:=z.1;omega,by have:=z.2;omega,Post.ret q r1 _ (qFf 0 j.toNat)⟩
  | _=>exact False.elim q
theorem qNE {a b:Expr} {p1 p2:Pos} {c c':CE} (hgl:L2.Gl X "range") (hm:X.mg "range"=none) (he:PE X a (tD X.K W (den F c))) (he':PE X b (tD X.K W (den F c'))) (hst:starEach [a,b] X.env=[(false,eval a X.env),(false,eval b X.env)]) (hst2:starEach [b] X.env=[(false,eval b X.env)]) :
    PI X tg (.Call (.Name "range" p1) [a,b] [] p2) (tDI X.K W (denI F (.rng2 c c'))):=PI.imp (L2.pi_range2 hgl hm (L2.pa_cons he (L2.pa_cons he' L2.pa_nil hst2) (by rw [hst,hst2])) hst hst2) fun σ H R t=>by
  obtain ⟨ρ,env,h,s,r,p⟩:=t
  rw [denI] at p
  refine ⟨ρ,env,h,s,r,Post.bind p fun ρ1 h1 d H1 e1 r1 q v hv=>?_⟩
  refine ⟨ρ1,env,h1,s.mono e1,r1,Post.bind q fun ρ2 h2 d2 H2 e2 r2 q2 w hw=>?_⟩
  have hv:=hv.mono e2 _ _
  cases d with
  | int i =>
    cases d2 with
    | int j =>
      cases hv
      cases hw
      obtain ⟨z,q⟩:=Post.when q2
      exact ⟨i,j,rfl,⟨by have:=z.1.1;omega,by have:=z.1.2;omega,by have:=z.2.1;omega,by have:=z.2.2;omega⟩,Post.ret q r2 _ (qFf i _)⟩
    | _=>exact False.elim q2
  | _=>exact False.elim q2
noncomputable def ItrS (lo c:Int) (n:Nat):L2.It:=⟨fun i _=>i<n,fun i H x H'=>H'=H∧x=.int (lo+i*c),fun i _=>n≤i⟩
theorem qHf {K:PySem.W.Frag} {ρ:List Addr} {H:Hp} (lo c:Int) (n:Nat):ItRep K ρ H (.row (qCq lo c n)) (ItrS lo c n):=by
 have hl:(qCq lo c n).length=n:=by unfold qCq;simp
 refine ⟨fun i ρ' H' _ hi=>by rw [hl] at hi;exact hi,fun i ρ' H' x H'' _ hi y=>?_,fun i ρ' H' _ hi=>by rw [hl] at hi;exact Nat.le_of_eq hi.symm⟩
 obtain ⟨rfl,rfl⟩:=y
 rw [hl] at hi
 refine ⟨rfl,.int (lo+i*c),?_,rfl⟩
 unfold qCq
 rw [List.getElem?_map,List.getElem?_range hi]
 rfl
theorem qGI {P:Program} {w:World} {K:PySem.W.Frag} {tg:Expr} (it:Addr) (lo c:Int) (n:Nat):Turn P w K tg (ItrS lo c n) [it] it (fun i h=>IsRangeIter h it (lo+(i:Nat)*c) ((n:Int)-(i:Nat)) c) where
 mem:=by simp
 obj:=fun i h st b hb=>by
  have e:b=it:=by simpa using hb
  subst e
  exact ⟨_,st,fun v z=>by
   have z':Data.fields _=Data.cell v:=z
   cases z'⟩
 keep:=fun i h h' st k=>k it (by simp) _ st
 item:=by
  intro X hP hw hK hc i pins s σ H E I hf st hg
  subst hP hw hK
  obtain ⟨f0,f1,f2,f3,f4,f5⟩:=hf it (by simp)
  have W:=Walks.range (prog:=X.prog) (w:=X.w) (I.ok.hd hc) it lo c n
  refine W.item i s _ _ hg st fun v h' tk hv st' kk=>?_
  obtain ⟨t,rfl⟩:=hv
  have I1:Inv X pins σ H { s with heap:=h',toks:=tk }:=I.turned (fun b o hb e=>kk b o (by simpa using hb) e) f0 f1 f3 f4 f5
  exact ⟨_,rfl,L2.go_of (s:={ s with heap:=h',toks:=tk }) (n:="range_iterator") st' rfl rfl (by decide) ⟨.int (lo+i*c),H,I1,⟨t,rfl⟩,⟨rfl,rfl⟩,st',fun b hb=>(hf b hb).1⟩⟩
 done:=by
  intro X hP hw hK hc i pins s σ H E I hf st hg
  subst hP hw hK
  obtain ⟨f0,f1,f2,f3,f4,f5⟩:=hf it (by simp)
  exact wpAny_pyNext_range_end (I.ok.hd hc) st (by have:n≤i:=hg;omega) fun h' eb=>⟨rfl,I.turned (t':=s.toks) (fun b o hb e=>eb b o hb e) f0 f1 f3 f4 f5⟩
 self:=fun _ _ _ _ _ st h=>wpAny_pyIter_rangeiter st h
theorem qIc {i j k:Int} (hk:0<k):Builtin.Range.rangeSize i j k=(nS i j k:Nat)∧(i<j→(nS i j k:Int)≤j-i):=by
 unfold Builtin.Range.rangeSize nS
 rw [if_pos hk]
 by_cases h:i<j
 ·rw [if_pos h,if_pos h]
  have h1:0≤(j-i-1) / k:=Int.ediv_nonneg (by omega) (by omega)
  have h2:(j-i-1) / k≤j-i-1:=Int.ediv_le_self _ (by omega)
  exact ⟨by omega,fun _=>by omega⟩
 ·rw [if_neg h,if_neg h]
  exact ⟨rfl,fun z=>absurd z h⟩
theorem qOH {i j k:Int} (h1:qAI i) (h2:qAI j) (hk:0<k) (hk':k<1073741824):Builtin.Range.small i j k=true:=by
 unfold Builtin.Range.small
 obtain ⟨e,hle⟩:=qIc (i:=i) (j:=j) hk
 obtain ⟨a1,a2⟩:=h1
 obtain ⟨b1,b2⟩:=h2
 have hz:(nS i j k:Int)<9223372036854775808:=by
  by_cases h:i<j
  ·have:=hle h;omega
  ·have:nS i j k=0:=if_neg h
   omega
 rw [e]
 simp only [Builtin.Range.rangeFitsLong,Bool.and_eq_true,Bool.or_eq_true,decide_eq_true_eq,beq_iff_eq,if_pos hk]
 refine ⟨⟨⟨⟨⟨by omega,by omega⟩,by omega,by omega⟩,by omega,by omega⟩,by omega,by omega⟩,.inr ⟨by omega,by omega⟩⟩
theorem qND {a b d:Expr} {p1 p2:Pos} {c c' c'':CE} (hgl:L2.Gl X "range") (hm:X.mg "range"=none) (he:PE X a (tD X.K W (den F c))) (he':PE X b (tD X.K W (den F c'))) (he'':PE X d (tD X.K W (den F c''))) (hst:starEach [a,b,d] X.env=[(false,eval a X.env),(false,eval b X.env),(false,eval d X.env)]) (hst2:starEach [b,d] X.env=[(false,eval b X.env),(false,eval d X.env)]) (hst3:starEach [d] X.env=[(false,eval d X.env)]) :
    PI X tg (.Call (.Name "range" p1) [a,b,d] [] p2) (tDI X.K W (denI F (.rng3 c c' c''))):=by
  intro pins s0 σ H R I t
  have ha:=L2.pa_cons he (L2.pa_cons he' (L2.pa_cons he'' L2.pa_nil hst3) (by rw [hst2,hst3])) (by rw [hst,hst2])
  obtain ⟨ρ,env,h,s,r,p⟩:=t
  rw [denI] at p
  refine Call_ (L2.ld_blt I hgl hm boot_range (PyProof.Rows.callWith_type1 (thn (ha p2 pins s0 σ H (fun vs H1=>∃ i j k:Int,vs=[.int i,.int j,.int k]∧(qAI i∧qAI j)∧(0<k∧k<1073741824)∧R (ItrS i k (nS i j k)) H1) I ?_) fun us s1 ⟨vs,H1,I1,r1,q1⟩=>?_) (by rw [hst,hst2]) (by rw [hst2];rfl)))
  · refine ⟨ρ,env,h,s,r,Post.bind p fun ρ1 h1 d1 H1 e1 r1 q v hv=>?_⟩
    refine ⟨ρ1,env,h1,s.mono e1,r1,Post.bind q fun ρ2 h2 d2 H2 e2 r2 q2 w hw=>?_⟩
    refine ⟨ρ2,env,h2,(s.mono e1).mono e2,r2,Post.bind q2 fun ρ3 h3 d3 H3 e3 r3 q3 z hz=>?_⟩
    have hv:=(hv.mono e2 _ _).mono e3 _ _
    have hw:=hw.mono e3 _ _
    cases d1 with
    | int i =>
      cases d2 with
      | int j =>
        cases d3 with
        | int k =>
          cases hv
          cases hw
          cases hz
          obtain ⟨z,q⟩:=Post.when q3
          exact ⟨i,j,k,rfl,z.1,z.2,Post.ret q r3 _ (qHf i k _)⟩
        | _=>exact False.elim q3
      | _=>exact False.elim q3
    | _=>exact False.elim q3
  · obtain ⟨i,j,k,e,z1,z2,q⟩:=q1
    subst e
    cases r1 with
    | cons ra rr =>
      cases rr with
      | cons rb rr =>
        cases rr with
        | cons rc rr =>
          cases rr
          obtain ⟨ta,rfl⟩:=ra
          obtain ⟨tb,rfl⟩:=rb
          obtain ⟨tc,rfl⟩:=rc
          refine call_range_3 (by omega) ?_ (Or.inl (PyProof.noPylong_small (by omega)))
          refine wpAny_pyIter_range (IsRange.new ..) (qOH z1.1 z1.2 z2.1 z2.2) ?_
          have I2:Inv X pins σ H1 { s1 with heap:=s1.heap.push { cls:=.type "range",data:=.fields #[.int i ta,.int j tb,.int k tc] },toks:=s1.toks }:=I1.kept fun b o e=>Heap.get?_push_of_some _ e
          refine ⟨(s1.heap.push { cls:=.type "range",data:=.fields #[.int i ta,.int j tb,.int k tc] }).objs.size,[(s1.heap.push { cls:=.type "range",data:=.fields #[.int i ta,.int j tb,.int k tc] }).objs.size],_,_,H1,rfl,
            I2.kept (t':=s1.toks) fun b o e=>Heap.get?_push_of_some _ e,qGI _ i k (nS i j k),?_,fun b hb=>?_,q⟩
          · have e1:i+((0:Nat):Int)*k=i:=by simp
            have e2:((nS i j k:Nat):Int)-((0:Nat):Int)=Builtin.Range.rangeSize i j k:=by rw [(qIc z2.1).1];simp
            show IsRangeIter _ _ (i+((0:Nat):Int)*k) (((nS i j k:Nat):Int)-((0:Nat):Int)) k
            rw [e1,e2]
            exact Heap.get?_push_size _ rfl
          · have e:b=(s1.heap.push { cls:=.type "range",data:=.fields #[.int i ta,.int j tb,.int k tc] }).objs.size:=by simpa using hb
            subst e
            exact I2.fpOk (Nat.le_refl _) (I2.hok.fresh (Nat.le_refl _))
end
noncomputable def del (H:Hp) (d:Addr):Hp:=fun b=>if b=d then none else H b
theorem qBZ {H:Hp} {d:Addr}:del H d d=none:=if_pos rfl
theorem qBk {H:Hp} {d b:Addr} (h:b≠d):del H d b=H b:=if_neg h
theorem qCG {H:Hp} {d:Addr} {o:HO}:del (upd H d o) d=del H d:=by
 funext b
 by_cases h:b=d
 ·rw [h,qBZ,qBZ]
 ·rw [qBk h,qBk h,qAB h]
theorem qGH {H:Hp} {d:Addr} {o:HO} (h:H d=some o):upd (del H d) d o=H:=by
 funext b
 by_cases hb:b=d
 ·rw [hb,qAA,h]
 ·rw [qAB hb,qBk hb]
theorem qDh {H:Hp} {d:Addr} (h:H d=none):del H d=H:=by
 funext b
 by_cases hb:b=d
 ·rw [hb,qBZ,h]
 ·rw [qBk hb]
section
variable {K:PySem.W.Frag} {ρ:List Addr} {H:Hp} {d:Addr} {ys:List V}
theorem qL1 (hd:H d=some (.lst ys)) {a:Addr} {vs:List V} (h:SqT K H a vs):SqT K (del H d) a vs:=by
 rcases h with (h | ⟨o,h⟩) | h
 ·exact .inl (.inl (by rw [qBk (by rintro rfl;rw [hd] at h;cases h)];exact h))
 ·exact .inl (.inr ⟨o,by rw [qBk (by rintro rfl;rw [hd] at h;cases h)];exact h⟩)
 ·exact .inr h
mutual
theorem RepV.del (hd:H d=some (.lst ys)):∀ (x:D) (v:V),RepV K ρ H x v→RepV K ρ (del H d) x v
 | .non,_,h=>h
 | .bl _,_,h=>h
 | .int _,_,h=>h
 | .str _,_,h=>h
 | .tup xs,v,⟨a,vs,h1,h2,h3⟩=>⟨a,vs,h1,qL1 hd h2,RepL.del hd xs vs h3⟩
 | .ref _,_,h=>h
theorem RepL.del (hd:H d=some (.lst ys)):∀ (xs:List D) (vs:List V),RepL K ρ H xs vs→RepL K ρ (del H d) xs vs
 | [],_,h=>h
 | x::xs,_,⟨v,r,h1,h2,h3⟩=>⟨v,r,h1,RepV.del hd x v h2,RepL.del hd xs r h3⟩
end
theorem RepF.del {C:Addr} (hd:H d=some (.lst ys)):∀ (xs:List (Nat × D)) (vs:List (Str × V)),RepF K ρ H C xs vs→RepF K ρ (del H d) C xs vs
 | [],_,h=>h
 | x::xs,_,⟨v,r,h1,hb,hn,h2,h3⟩=>⟨v,r,h1,hb,hn,RepV.del hd _ v h2,RepF.del hd xs r h3⟩
theorem RepK.del (hd:H d=some (.lst ys)):∀ (xs:List (Ky × D)) (vs:List (L2.Key × V)),RepK K ρ H xs vs→RepK K ρ (del H d) xs vs
 | [],_,h=>h
 | x::xs,_,⟨v,r,h1,h2,h3⟩=>⟨v,r,h1,RepV.del hd _ v h2,RepK.del hd xs r h3⟩
theorem RepH.del {h:AH} (r:RepH K ρ h H) (hd:H d=some (.lst ys)) (hn:d∉ρ):RepH K ρ h (del H d):=by
 refine ⟨r.len,fun i o hi=>?_,r.inj⟩
 obtain ⟨a,h1,h2⟩:=r.obj i o hi
 have na:a≠d:=by
  rintro rfl
  exact hn (List.mem_of_getElem? h1)
 refine ⟨a,h1,?_⟩
 cases o with
 | lst xs =>
  obtain ⟨vs,k1,k2⟩:=h2
  exact ⟨vs,by rw [qBk na];exact k1,k2.del hd _ _⟩
 | rol xs =>
  obtain ⟨vs,k1,k2⟩:=h2
  refine ⟨vs,?_,k2.del hd _ _⟩
  rcases k1 with ⟨ob,k1⟩ | k1
  ·exact .inl ⟨ob,by rw [qBk na];exact k1⟩
  ·exact .inr k1
 | ins c fs =>
  obtain ⟨C,dx,vs,k1,kc,k2,k3⟩:=h2
  exact ⟨C,dx,vs,k1,kc,by rw [qBk na];exact k2,k3.del hd _ _⟩
 | dct kvs =>
  obtain ⟨vs,k1,k2⟩:=h2
  exact ⟨vs,by rw [qBk na];exact k1,k2.del hd _ _⟩
 | xc c =>
  obtain ⟨C,k1,k2⟩:=h2
  exact ⟨C,k1,by rw [qBk na];exact k2⟩
theorem Step.del {ρ':List Addr} {H':Hp} (e:Step ρ H ρ' H') (hn:d∉ρ) (hd:H d=some (.lst ys)):Step ρ (del H d) ρ' (del H' d)∧d∉ρ'∧H' d=some (.lst ys):=by
 refine ⟨⟨e.pre,fun a ha=>?_,fun a o h c=>?_⟩,fun z=>?_,e.keep _ _ hd (.inr hn)⟩
 ·rcases e.new a ha with z | z
  ·exact .inl z
  ·refine .inr ?_
   by_cases q:a=d
   ·rw [q];exact qBZ
   ·rw [qBk q];exact z
 ·have na:a≠d:=by
   rintro rfl
   rw [qBZ] at h
   cases h
  rw [qBk na] at h ⊢
  exact e.keep a o h c
 ·rcases e.new d z with q | q
  ·exact hn q
  ·rw [hd] at q;cases q
end
theorem qG3 {α β:Type} (a:α) (f:α→M β):M.bind (M.ret a) f=f a:=rfl
theorem qGU (f:D→M (Option D)) (x:D) (r acc:List D):(M.bind (qBX f (x::r)) fun rest=>newL (acc++rest))=M.bind (f x) fun y=>M.bind (qBX f r) fun rest=>newL ((acc++y.toList)++rest):=by
 rw [qBX,qAS]
 congr 1
 funext y
 rw [qAS]
 congr 1
 funext ys
 rw [qG3]
 cases y <;> simp
section
variable {K:PySem.W.Frag} {F:Nat→List D→M D} {Q:VK} {w:W1} {W:WX}
structure Mid (K:PySem.W.Frag) (ρ1:List Addr) (H1:Hp) (d:Addr) (ρ:List Addr) (h:AH) (acc:List D) (ys:List V) (H:Hp):Prop where
 st:Step ρ1 H1 ρ (del H d)
 nd:d∉ρ
 at':H d=some (.lst ys)
 rh:RepH K ρ h (del H d)
 rl:RepL K ρ (del H d) acc ys
theorem Mid.up {ρ1 ρ:List Addr} {H1 H:Hp} {d:Addr} {h:AH} {acc:List D} {ys:List V} (G0:Mid K ρ1 H1 d ρ h acc ys H):Step ρ (del H d) ρ H:=by
 have:=Step.fresh (ρ:=ρ) (H:=del H d) (p:=d) (o:=.lst ys) qBZ
 rw [qGH G0.at'] at this
 exact this
theorem Mid.rh' {ρ1 ρ:List Addr} {H1 H:Hp} {d:Addr} {h:AH} {acc:List D} {ys:List V} (G0:Mid K ρ1 H1 d ρ h acc ys H):RepH K ρ h H:=by
 have:=G0.rh.fresh (p:=d) (o:=.lst ys) qBZ
 rw [qGH G0.at'] at this
 exact this
theorem Mid.go {ρ1 ρ ρ2:List Addr} {H1 H H2:Hp} {d:Addr} {h h2:AH} {acc:List D} {ys:List V} (G0:Mid K ρ1 H1 d ρ h acc ys H) (e:Step ρ H ρ2 H2) (r:RepH K ρ2 h2 H2):Step ρ (del H d) ρ2 (del H2 d)∧Mid K ρ1 H1 d ρ2 h2 acc ys H2:=by
 obtain ⟨e1,e2,e3⟩:=e.del G0.nd G0.at'
 exact ⟨e1,G0.st.trans e1,e2,e3,r.del e3 e2,G0.rl.mono e1 _ _⟩
theorem Mid.add {ρ1 ρ:List Addr} {H1 H:Hp} {d:Addr} {h:AH} {acc:List D} {ys:List V} {y:D} {v:V} (G0:Mid K ρ1 H1 d ρ h acc ys H) (hv:RepV K ρ H y v):Mid K ρ1 H1 d ρ h (acc++[y]) (ys++[v]) (upd H d (.lst (ys++[v]))):=by
 refine ⟨by rw [qCG];exact G0.st,G0.nd,qAA,by rw [qCG];exact G0.rh,?_⟩
 rw [qCG]
 exact G0.rl.append ⟨v,[],rfl,hv.del G0.at' _ _,rfl⟩
theorem emit {ρ1 ρ:List Addr} {H1 H:Hp} {d:Addr} {h:AH} {acc:List D} {ys:List V} {m:Env→M D} {rest:List D→M D} {env:Env} {σ:L2.St} {W:Hp→Prop} (G0:Mid K ρ1 H1 d ρ h acc ys H) (s:RepS K ρ H env σ) (hz:acc.length<16777216)
    (p:PostV K w Q ρ (del H d) (M.bind (m env).calm (fun y=>rest (acc++[y])) h))
    (hW:∀ ρ' h' acc' ys' H',Mid K ρ1 H1 d ρ' h' acc' ys' H'→acc'.length=acc.length+1→PostV K w Q ρ' (del H' d) (rest acc' h')→W H') :
    tD K WF m σ H fun v H3=>∃ ys,H3 d=some (.lst ys)∧ys.length<sizeLine∧W (upd H3 d (.lst (ys++[v]))):=by
  refine ⟨ρ,env,h,s,G0.rh',?_⟩
  unfold M.bind M.calm at p
  cases q:m env h with
  | ok y h2 =>
    rw [q] at p
    intro ρ2 H2 e2 r2 v hv
    obtain ⟨e3,M2⟩:=G0.go e2 r2
    refine ⟨ys,M2.at',by rw [G0.rl.length,szEq];exact hz,hW ρ2 h2 _ _ _ (M2.add hv) (by simp) ?_⟩
    rw [qCG]
    exact Post.mono p e3
  | exc c h2=>rw [q] at p;exact False.elim p
  | bad=>rw [q] at p;exact p
noncomputable def qJq (K:PySem.W.Frag) (f:Env→D→M (Option D)) (tt:Option TT) (te:TE):Prop :=
 ∀ (w:W1) (Q:VK) (ρ1 ρ:List Addr) (H1 H:Hp) (d:Addr) (h:AH) (acc:List D) (ys:List V) (rest:List D→M D) (env:Env) (σ:L2.St) (W:Hp→Prop) (x:D) (xv:V),Mid K ρ1 H1 d ρ h acc ys H→RepS K ρ H env σ→RepV K ρ H x xv→acc.length<16777216 →
  PostV K w Q ρ (del H d) (M.bind (f env x) (fun y=>rest (acc++y.toList)) h) →
  (∀ ρ' h' acc' ys' H',Mid K ρ1 H1 d ρ' h' acc' ys' H'→acc'.length≤acc.length+1→PostV K w Q ρ' (del H' d) (rest acc' h')→W H') →
  optT tt (σ++[some xv]) H fun b H2=>if b=true then te (σ++[some xv]) H2 fun v H3=>∃ ys,H3 d=some (.lst ys)∧ys.length<sizeLine∧W (upd H3 d (.lst (ys++[v]))) else W H2
theorem RepS.snoc {ρ:List Addr} {H:Hp} {env:Env} {σ:L2.St} {x:D} {xv:V} (s:RepS K ρ H env σ) (hx:RepV K ρ H x xv):RepS K ρ H (env++[some x]) (σ++[some xv]):=by
 refine ⟨by simp [s.1],fun i e hi=>?_⟩
 by_cases hlt:i<env.length
 ·rw [List.getElem?_append_left hlt] at hi
  rw [List.getElem?_append_left (by rw [← s.1];exact hlt)]
  exact s.2 i e hi
 ·rw [List.getElem?_append_right (Nat.le_of_not_lt hlt)] at hi
  rw [List.getElem?_append_right (by rw [← s.1];exact Nat.le_of_not_lt hlt),← s.1]
  cases q:i-env.length with
  | zero =>
   rw [q] at hi
   cases hi
   exact ⟨xv,rfl,hx⟩
  | succ n=>rw [q] at hi;simp at hi
theorem qEZ (m:Env→M D):qJq K (fun env x=>compF m env x) none (tD K WF m):=by
 intro w Q ρ1 ρ H1 H d h acc ys rest env σ W x xv G0 s hx hz p hW
 refine L2.iteT (B:=W H) (emit (rest:=rest) G0 (s.snoc hx) hz ?_ fun ρ' h' acc' ys' H' M' hl p'=>hW ρ' h' acc' ys' H' M' (Nat.le_of_eq hl) p')
 have e:(M.bind (compF m env x) fun y=>rest (acc++y.toList))=M.bind (m (env++[some x])).calm fun y=>rest (acc++[y]):=by
  unfold compF
  rw [qAS]
  rfl
 rw [e] at p
 exact p
theorem qFY (m:Env→M D) (c:Env→M Bool):qJq K (fun env x=>qD6 m c env x) (some (tDT K WF c)) (tD K WF m):=by
 intro w Q ρ1 ρ H1 H d h acc ys rest env σ W x xv G0 s hx hz p hW
 have p:PostV K w Q ρ (del H d) (M.bind (M.bind (c (env++[some x])).calm fun k=>if k then M.bind (m (env++[some x])).calm (fun y=>M.ret (some y)) else M.ret none) (fun y=>rest (acc++y.toList)) h):=p
 rw [qAS] at p
 refine ⟨ρ,env++[some x],h,s.snoc hx,G0.rh',?_⟩
 unfold M.bind M.calm at p
 cases q:c (env++[some x]) h with
 | ok k h2 =>
  rw [q] at p
  intro ρ2 H2 e2 r2
  obtain ⟨e3,M2⟩:=G0.go e2 r2
  have p:=Post.mono p e3
  cases k with
  | true =>
   refine L2.iteT (emit (rest:=rest) M2 ((s.snoc hx).mono e2) hz ?_ fun ρ' h' acc' ys' H' M' hl p'=>hW ρ' h' acc' ys' H' M' (Nat.le_of_eq hl) p')
   have e:(M.bind (M.bind (m (env++[some x])).calm fun y=>M.ret (some y)) fun y=>rest (acc++y.toList))=M.bind (m (env++[some x])).calm fun y=>rest (acc++[y]):=by
    rw [qAS]
    rfl
   have p':PostV K w Q ρ2 (del H2 d) (M.bind (M.bind (m (env++[some x])).calm fun y=>M.ret (some y)) (fun y=>rest (acc++y.toList)) h2):=p
   rw [e] at p'
   exact p'
  | false =>
   refine L2.iteF (hW ρ2 h2 acc ys H2 M2 (Nat.le_succ _) ?_)
   have p':PostV K w Q ρ2 (del H2 d) (rest (acc++[]) h2):=p
   rw [List.append_nil] at p'
   exact p'
 | exc _ h2=>rw [q] at p;exact False.elim p
 | bad=>rw [q] at p;exact p
theorem compI {f:Env→D→M (Option D)} {tt:Option TT} {te:TE} {mi:Env→M It} (ht:qJq K f tt te) {σ:L2.St} {H:Hp} (t:tD K W (fun env=>M.bind (mi env) fun r=>M.bind (mapIt (f env) r) newL) σ H Q):tComp K (tDI K W mi) tt te σ H Q:=by
 obtain ⟨ρ,env,h,s,r,p⟩:=t
 refine ⟨ρ,env,h,s,r,Post.bind p fun ρ1 h1 it H1 e1 r1 q J hJ d hd hK=>?_⟩
 have s1:=s.mono e1
 have nd:d∉ρ1:=fun z=>by
  obtain ⟨k,hk⟩:=List.getElem?_of_mem z
  have hlt:=(List.getElem?_eq_some_iff.mp hk).1
  obtain ⟨a,h2,h3⟩:=r1.obj k _ (List.getElem?_eq_getElem (by rw [← r1.len];exact hlt))
  rw [hk] at h2
  cases h2
  generalize h1[k]'(by rw [← r1.len];exact hlt)=o at h3
  cases o with
  | lst xs=>obtain ⟨vs,z1,_⟩:=h3;rw [hd] at z1;cases z1
  | rol xs =>
   obtain ⟨vs,z1,_⟩:=h3
   rcases z1 with ⟨ob,z1⟩ | ⟨ob,its,n,z1,_⟩
   ·rw [hd] at z1;cases z1
   ·rw [hK] at z1;cases z1
  | ins c fs=>obtain ⟨C,dx,vs,_,_,z1,_⟩:=h3;rw [hd] at z1;cases z1
  | dct kvs=>obtain ⟨vs,z1,_⟩:=h3;rw [hd] at z1;cases z1
  | xc c=>obtain ⟨C,_,z1⟩:=h3;rw [hd] at z1;cases z1
 have M0:Mid K ρ1 H1 d ρ1 h1 [] [] (upd H1 d (.lst [])):=⟨by rw [qCG,qDh hd];exact Step.refl _ _,nd,qAA,by rw [qCG,qDh hd];exact r1,rfl⟩
 have fin:∀ {w:W1} {ρ' h' acc ys H'},Mid K ρ1 H1 d ρ' h' acc ys H'→PostV K w Q ρ' (del H' d) (newL (acc++[]) h')→Q (.ref d) H':=fun {w ρ' h' acc ys H'} G0 p=>by
  rw [List.append_nil] at p
  have q:=(PostV.newL p G0.rh G0.rl).2 d qBZ
  rw [qGH G0.at'] at q
  exact q
 cases it with
 | row xs =>
  obtain ⟨go,yl,sp⟩:=hJ
  have q:PostV K (W.at σ) Q ρ1 H1 (M.bind (M.when (xs.length<16777216) (qBX (f env) xs)) newL h1):=q
  have hz:xs.length<16777216:=by
   unfold M.bind M.when at q
   by_cases z:xs.length<16777216
   ·exact z
   ·rw [if_neg z] at q;exact False.elim q
  have q:PostV K (W.at σ) Q ρ1 H1 (M.bind (qBX (f env) xs) (fun rest=>newL ([]++rest)) h1):=by
   unfold M.bind M.when at q
   rw [if_pos hz] at q
   exact q
  refine ⟨fun i m H'=>m=xs.length-i∧i≤xs.length∧∃ ρ' h' acc ys,Mid K ρ1 H1 d ρ' h' acc ys H'∧acc.length≤i∧PostV K (W.at σ) Q ρ' (del H' d) (M.bind (qBX (f env) (xs.drop i)) (fun rest=>newL (acc++rest)) h'),⟨_,rfl,Nat.zero_le _,ρ1,h1,[],[],M0,Nat.le_refl _,by rw [qCG,qDh hd];exact q⟩,?_⟩
  rintro i m H' ⟨rfl,hi,ρ',h',acc,ys,G0,ha,p'⟩
  have up:Step ρ1 H1 ρ' H':=G0.st.trans G0.up
  by_cases hlt:i<xs.length
  ·refine .inr ⟨go i ρ' H' up hlt,fun x H'' y=>?_⟩
   obtain ⟨rfl,dx,hdx,hv⟩:=yl i ρ' H' x H'' up hlt y
   rw [List.drop_eq_getElem_cons hlt] at p'
   have ed:xs[i]=dx:=by
    rw [List.getElem?_eq_getElem hlt] at hdx
    exact Option.some.inj hdx
   rw [ed,qGU] at p'
   exact ht _ Q ρ1 ρ' H1 H'' d h' acc ys (fun a=>M.bind (qBX (f env) (xs.drop (i+1))) fun rest=>newL (a++rest)) env σ (fun H3=>∃ m',m'<xs.length-i∧m'=xs.length-(i+1)∧i+1≤xs.length∧∃ ρ' h' acc ys,Mid K ρ1 H1 d ρ' h' acc ys H3∧acc.length≤i+1∧PostV K (W.at σ) Q ρ' (del H3 d) (M.bind (qBX (f env) (xs.drop (i+1))) (fun rest=>newL (acc++rest)) h')) dx x G0 (s1.mono up) hv (by omega) p'
    fun ρ2 h2 acc2 ys2 H2 M2 hl2 p2=>⟨xs.length-(i+1),by omega,rfl,hlt,ρ2,h2,acc2,ys2,M2,by omega,p2⟩
  ·have e:i=xs.length:=by omega
   subst e
   rw [List.drop_length] at p'
   exact .inl ⟨sp _ ρ' H' up rfl,fin G0 p'⟩
 | live k =>
  obtain ⟨a,ha,rfl⟩:=hJ
  have q:PostV K (W.at σ) Q ρ1 H1 (M.bind (M.when (liveN h1 k<16777216) (qAm (f env) k (liveN h1 k) 0)) newL h1):=q
  have hz:liveN h1 k<16777216:=by
   unfold M.bind M.when at q
   by_cases z:liveN h1 k<16777216
   ·exact z
   ·rw [if_neg z] at q;exact False.elim q
  have q:PostV K (W.at σ) Q ρ1 H1 (M.bind (qAm (f env) k (liveN h1 k) 0) (fun rest=>newL ([]++rest)) h1):=by
   unfold M.bind M.when at q
   rw [if_pos hz] at q
   exact q
  generalize liveN h1 k=n at hz q
  refine ⟨fun i m H'=>m+i=n∧∃ ρ' h' acc ys,Mid K ρ1 H1 d ρ' h' acc ys H'∧acc.length≤i∧PostV K (W.at σ) Q ρ' (del H' d) (M.bind (qAm (f env) k m i) (fun rest=>newL (acc++rest)) h'),⟨n,rfl,ρ1,h1,[],[],M0,Nat.le_refl _,by rw [qCG,qDh hd];exact q⟩,?_⟩
  rintro i m H' ⟨hm,ρ',h',acc,ys,G0,hl,p'⟩
  have up:Step ρ1 H1 ρ' H':=G0.st.trans G0.up
  cases m with
  | zero=>exact False.elim p'
  | succ m =>
   have r':=G0.rh'
   cases qg:getL h' k with
   | none =>
    unfold M.bind qAm at p'
    rw [qg] at p'
    exact False.elim p'
   | some xs =>
    obtain ⟨b,vs,h2,h3,h4⟩:=r'.list qg
    rw [qCe up.pre ha] at h2
    cases h2
    cases qx:xs[i]? with
    | none =>
     refine .inl ⟨⟨vs,h3,?_⟩,fin (w:=W.at σ) G0 ?_⟩
     ·rw [h4.length]
      exact List.getElem?_eq_none_iff.mp qx
     ·unfold M.bind qAm at p'
      simp only [qg,qx] at p'
      exact p'
    | some dx =>
     obtain ⟨w,hw,hv⟩:=h4.get qx
     refine .inr ⟨⟨vs,w,h3,hw⟩,fun x H'' y=>?_⟩
     obtain ⟨rfl,y⟩:=y
     have ew:=y vs h3
     rw [hw] at ew
     cases ew
     have e:M.bind (qAm (f env) k (m+1) i) (fun rest=>newL (acc++rest)) h'=M.bind (f env dx) (fun y=>M.bind (qAm (f env) k m (i+1)) fun rest=>newL ((acc++y.toList)++rest)) h':=by
      have e1:qAm (f env) k (m+1) i h'=M.bind (f env dx) (fun y=>M.bind (qAm (f env) k m (i+1)) fun ys=>M.ret (match y with | some y=>y::ys | none=>ys)) h':=by
       rw [qAm]
       simp only [qg,qx] <;> rfl
      show R.bind (qAm (f env) k (m+1) i h') _=_
      rw [e1]
      show M.bind (M.bind (f env dx) _) (fun rest=>newL (acc++rest)) h'=_
      rw [qAS]
      congr 1
      funext y
      rw [qAS]
      congr 1
      funext ys
      rw [qG3]
      cases y <;> simp
     rw [e] at p'
     exact ht _ Q ρ1 ρ' H1 _ d h' acc ys (fun a=>M.bind (qAm (f env) k m (i+1)) fun rest=>newL (a++rest)) env σ (fun H3=>∃ m',m'<m+1∧m'+(i+1)=n∧∃ ρ' h' acc ys,Mid K ρ1 H1 d ρ' h' acc ys H3∧acc.length≤i+1∧PostV K (W.at σ) Q ρ' (del H3 d) (M.bind (qAm (f env) k m' (i+1)) (fun rest=>newL (acc++rest)) h')) dx _ G0 (s1.mono up) hv (by omega) p'
      fun ρ2 h2 acc2 ys2 H2 M2 hl2 p2=>⟨m,Nat.lt_succ_self _,by omega,ρ2,h2,acc2,ys2,M2,by omega,p2⟩
end
end Fy
set_option Elab.async false
set_option linter.all false
set_option maxRecDepth 100000
set_option maxHeartbeats 4000000
namespace Fy
open PySem PySem.Spec PyProof.Rows
open L2 (V Hp HO VK TE TT TA TS TI Cx Inv RelV Vals SqL SqT Rd upd qAA qAB PE PT PA PS PSs EP TP PI PG PIE Turn FpOk Ends HOk frs thn)
section
variable {K:PySem.W.Frag} {W:WX} {Q:VK}
noncomputable def g2 (K:PySem.W.Frag) (n:Nat):L2.TG:=L2.gTup K 2 (L2.gCons (L2.gName n) (L2.gCons (L2.gName (n+1)) L2.gNil))
end
end Fy
set_option Elab.async false
set_option linter.all false
set_option maxRecDepth 100000
set_option maxHeartbeats 4000000
namespace L2
open PySem PySem.Spec PyProof.Rows
noncomputable def Itn (K:PySem.W.Frag) (a:Addr):It :=
 ⟨fun i H=>∃ xs x,SqL K H a xs∧xs[i]?=some x,fun i H x H'=>∃ t y,x=.ref t∧H t=none∧H'=upd H t (.tup [.int (i:Nat),y])∧∀ xs,SqL K H a xs→xs[i]?=some y,fun i H=>∃ xs,SqL K H a xs∧xs.length≤i⟩
section
variable {X:Cx} {pins:List (Addr × Obj)} {σ:St} {H:Hp} {s:Shared} {h':Heap}
theorem Inv.turned2 {t':Nat} {e it t:Addr} {vs:List V} (I:Inv X pins σ H s) (k:∀ b o,b≠e→b≠it→s.heap.get? b=some o→h'.get? b=some o) (f1:FpOk X pins H e) (f2:FpOk X pins H it) (ht:s.heap.objs.size≤t)
    (new:ObjOk X.prog X.w (upd H t (.tup vs)) h' t (.tup vs)):Inv X pins σ (upd H t (.tup vs)) { s with heap:=h',toks:=t' }:=by
  have hn:H t=none:=I.hok.fresh ht
  have nt:∀ b u,H b=some u→b≠t:=fun b u e z=>by rw [z,hn] at e;cases e
  have lt:∀ b o,s.heap.get? b=some o→b≠t:=fun b o e z=>by rw [z] at e;exact absurd (Nat.lt_of_lt_of_le (Heap.lt_size e) ht) (Nat.lt_irrefl _)
  have ne:∀ b u,H b=some u→b≠e:=fun b u q z=>by rw [z,f1.1] at q;cases q
  have ni:∀ b u,H b=some u→b≠it:=fun b u q z=>by rw [z,f2.1] at q;cases q
  have nc:∀ {b:Addr},b∉[e,it]→b≠e∧b≠it:=fun hb=>⟨fun z=>hb (by simp [z]),fun z=>hb (by simp [z])⟩
  refine I.step (g':=s.gens) (d':=s.drawn) (ch:=[e,it]) (fun b hb=>?_) (fun b o _ _ hc e _=>k b o (nc hc).1 (nc hc).2 e) (fun b o _ _ hc e _=>⟨o.slots,k b o (nc hc).1 (nc hc).2 e⟩) (fun b o _ e n=>by rw [qAB (lt b o e)];exact n)
    (fun b o hc e=>⟨o,k b o (nc hc).1 (nc hc).2 e⟩) (fun b xs e=>by rw [qAB (nt b _ e)];exact e) (fun b o u e=>by rw [qAB (nt b _ e)];exact e) (fun b ps e=>⟨#[],by rw [qAB (nt b _ e),e];simp⟩) (fun m hm=>?_) (fun b u q=>?_) I.bare
  · rcases List.mem_cons.mp hb with rfl | hb
    · exact ⟨f1.2.2.2.1,f1.2.1,f1.2.2.2.2.1,f1.2.2.2.2.2⟩
    · have z:b=it:=by simpa using hb
      subst z
      exact ⟨f2.2.2.2.1,f2.2.1,f2.2.2.2.2.1,f2.2.2.2.2.2⟩
  · obtain ⟨o,es,ep,ho,r⟩:=hm
    exact ⟨o,es,ep,k _ o (Ne.symm f1.2.1) (Ne.symm f2.2.1) ho,r⟩
  · by_cases hb:b=t
    · subst hb;rw [qAA] at q;cases q;exact new
    · rw [qAB hb] at q
      refine (I.hok b u q).stay (fun c v hc z=>?_) (fun c z=>by rw [qAB (nt c _ z)];exact z) fun c xs z=>by rw [qAB (nt c _ z)];exact z
      rcases hc with w | w
      · rw [w] at z ⊢;exact k b v (ne b u q) (ni b u q) z
      · exact k c v (ne c _ w) (ni c _ w) z
end
theorem qH6 {P:Program} {w:World} {K:PySem.W.Frag} {elts:List Expr} {j:Nat} {p:Pos} (a e it:Addr) (hne:e≠it):Turn P w K (.Tuple elts j p) (Itn K a) [e,it] e (fun i h=>∃ old,IsEnum h e it ((i:Nat):Int) old∧h.IsListIter it a i) where
 mem:=by simp
 obj:=fun i h st b hb=>by
  obtain ⟨old,h1,h2⟩:=st
  rcases List.mem_cons.mp hb with rfl | hb
  ·exact ⟨_,h1,fun v z=>by
    have z':Data.fields _=Data.cell v:=z
    cases z'⟩
  ·have z:b=it:=by simpa using hb
   subst z
   obtain ⟨o,e,c,d⟩:=h2
   exact ⟨o,e,fun v z=>by rw [d] at z;cases z⟩
 keep:=fun i h h' ⟨old,h1,h2⟩ k=>⟨old,k e (by simp) _ h1,h2.at fun o e=>k it (by simp) o e⟩
 item:=by
  intro X hP hw hK hc i pins s σ H E I hf st hg
  subst hP hw hK
  obtain ⟨xs,x,hq,hx⟩:=hg
  obtain ⟨old,he,hi⟩:=st
  obtain ⟨its,rv,pl,hz⟩:=I.list hq
  obtain ⟨u,hu,ru⟩:=rv.get hx
  have f1:=hf e (by simp)
  have f2:=hf it (by simp)
  refine wpAny_pyNext_enum_item he hi pl.isList (x:=u) (by simpa using hu) hne fun h1 o1 i1 t1 z1 k1=>?_
  refine ⟨_,rfl,wpAny_letOwnedTupleGo_enum o1 fun h2 e2 sb=>?_⟩
  have sb:Heap.SameBut e h1 h2:=sb
  have nt:s.heap.objs.size≠e:=Nat.ne_of_gt (Heap.lt_size he)
  have k2:∀ b o,b≠e→b≠it→s.heap.get? b=some o→h2.get? b=some o:=fun b o n1 n2 q=>(sb.2 b n1).trans (k1 b o n1 n2 q)
  have t2:h2.get? s.heap.objs.size=some { cls:=.type "tuple",data:=.seq #[.int i s.toks,u] }:=(sb.2 _ nt).trans t1
  have I1:Inv X pins σ (upd H s.heap.objs.size (.tup [.int (i:Nat),x])) { s with heap:=h2,toks:=s.toks+1 }:=I.turned2 k2 f1 f2 (Nat.le_refl _) ⟨by show (2:Nat)≤sizeLine;decide,[.int i s.toks,u],.cons ⟨_,rfl⟩ (.cons ru .nil),⟨_,t2,rfl,_,rfl⟩⟩
  refine ⟨.ref s.heap.objs.size,_,I1,rfl,⟨_,x,rfl,I.hok.fresh (Nat.le_refl _),rfl,fun ys hy=>by rw [I.list_inj hy hq];exact hx⟩,⟨u,?_,i1.extBut sb.extBut hne.symm⟩,fun b hb=>?_⟩
  ·rw [show ((i+1:Nat):Int)=(i:Int)+1 by push_cast;rfl];exact e2
  ·have:b≠s.heap.objs.size:=by
    rcases List.mem_cons.mp hb with rfl | hb
    ·exact nt.symm
    ·have z:b=it:=by simpa using hb
     subst z
     obtain ⟨o,q,_⟩:=hi
     exact Nat.ne_of_lt (Heap.lt_size q)
   rw [qAB this]
   exact (hf b hb).1
 done:=by
  intro X hP hw hK hc i pins s σ H E I hf st hg
  subst hP hw hK
  obtain ⟨xs,hq,hx⟩:=hg
  obtain ⟨old,he,hi⟩:=st
  obtain ⟨its,rv,p,hz⟩:=I.list hq
  obtain ⟨f0,f1,f2,f3,f4,f5⟩:=hf it (by simp)
  have hl:=rv.length
  exact wpAny_pyNext_enum_end (I.ok.hd hc) he hi p.isList (by simp;omega) fun h' eb=>⟨rfl,I.turned (t':=s.toks) (fun b o hb e=>eb b o hb e) f0 f1 f3 f4 f5⟩
 self:=fun _ _ _ _ _ ⟨_,he,_⟩ h=>wpAny_pyIter_enum he h
section
variable {X:Cx}
noncomputable def iEnum (K:PySem.W.Frag) (ta:TA):TI:=fun σ H R=>ta σ H fun vs H1=>∃ a,vs=[.ref a]∧(∃ xs,SqL K H1 a xs)∧R (Itn K a) H1
theorem pi_enum {l:Expr} {ta:TA} {p pos p3:Pos} {elts:List Expr} {j:Nat} (hg:Gl X "enumerate") (hm:X.mg "enumerate"=none) (ha:PA X [l] ta) (hs:starEach [l] X.env=[(false,eval l X.env)]:=by rfl):PI X (.Tuple elts j p3) (.Call (.Name "enumerate" p) [l] [] pos) (iEnum X.K ta):=by
 intro pins s σ H R I h
 refine Call_ (ld_blt I hg hm boot_enumerate (PyProof.Rows.callWith_type1 (thn (ha pos pins s σ H _ I h) fun us s1 ⟨vs,H1,I1,r1,q1⟩=>?_) hs rfl))
 obtain ⟨a,e,⟨xs,hq⟩,q⟩:=q1
 subst e
 cases r1 with
 | cons r rr =>
  cases rr
  cases r
  obtain ⟨its,rv,pl,hz⟩:=I1.list hq
  refine call_enumerate_list pl.isList fun h' he hi hz kk=>wpAny_pyIter_enum he ?_
  have I2:Inv X pins σ H1 { s1 with heap:=h' }:=I1.kept (t':=s1.toks) kk
  refine ⟨_,[s1.heap.objs.size+1,s1.heap.objs.size],_,_,H1,rfl,I2,qH6 a _ _ (Nat.succ_ne_self _),⟨_,he,hi⟩,fun b hb=>?_,q⟩
  rcases List.mem_cons.mp hb with rfl | hb
  ·exact I1.fpOk (Nat.le_succ _) (I1.hok.fresh (Nat.le_succ _))
  ·have z:b=s1.heap.objs.size:=by simpa using hb
   subst z
   exact I1.fpOk (Nat.le_refl _) (I1.hok.fresh (Nat.le_refl _))
end
end L2
namespace Fy
open PySem PySem.Spec PySem.Calls PyProof.Rows
open L2 (V Hp HO VK XK TE TT TA TS TI Cx Inv RelV Vals SqL SqT Rd upd qAA qAB PE PT PA PS PSs EP TP SP PI PG PIE Turn FpOk Ends HOk frs thn OpR CallR)
section
variable {F:Nat→List D→M D} {B:Nat} {W:WX}
theorem qIn {K:PySem.W.Frag} {E:Ends} {ρ:List Addr} {H:Hp} {env:Env} {h:AH} {σ:L2.St} {t:TG} {g:L2.TG} {cb:CS} {k:Nat} {a:Addr} {n:Nat} (ht:tgOk K t g) (s:RepS K ρ H env σ) (r:RepH K ρ h H) (ha:ρ[k]?=some a)
    (p:PostS K W E ρ H (forEn (qAR t (denS F B cb)) k n 0 env h)) :
    ∃ Wi:Nat→Nat→L2.St→Hp→Prop,(∃ m,Wi 0 m σ H)∧∀ i m σ H,Wi i m σ H →
      ((L2.Itn K a).stop i H∧E.nx σ H)∨((L2.Itn K a).go i H∧∃ N:L2.St→Hp→Prop,(∀ σ' H',N σ' H'→∃ m',m'<m∧Wi (i+1) m' σ' H')∧∀ x H',(L2.Itn K a).yld i H x H'→g x σ H' fun σ2 H2=>tDS K WF (denS F B cb) { E with nx:=N,ct:=N,bk:=E.nx } σ2 H2):=by
  refine ⟨fun i m σ' H'=>∃ ρ' env' h',Step ρ H ρ' H'∧RepS K ρ' H' env' σ'∧RepH K ρ' h' H'∧PostS K W E ρ' H' (forEn (qAR t (denS F B cb)) k m i env' h'),⟨n,ρ,env,h,Step.refl _ _,s,r,p⟩,?_⟩
  rintro i m σ' H' ⟨ρ',env',h',e',s',r',p'⟩
  cases m with
  | zero=>exact False.elim p'
  | succ m =>
    rw [forEn] at p'
    cases q:getL h' k with
    | none=>rw [q] at p';exact False.elim p'
    | some xs =>
      rw [q] at p'
      obtain ⟨b,vs,h1,h2,h3⟩:=r'.list q
      rw [qCe e'.pre ha] at h1
      cases h1
      cases qx:xs[i]? with
      | none =>
        simp only [qx] at p'
        refine .inl ⟨⟨vs,h2,?_⟩,p' ρ' H' σ' (Step.refl _ _) r' s'⟩
        rw [h3.length]
        exact List.getElem?_eq_none_iff.mp qx
      | some d =>
        simp only [qx] at p'
        obtain ⟨w,hw,hv⟩:=h3.get qx
        refine .inr ⟨⟨vs,w,h2,hw⟩,fun σ2 H2=>∃ ρ2 env2 h2,Step ρ H ρ2 H2∧RepS K ρ2 H2 env2 σ2∧RepH K ρ2 h2 H2∧PostS K W E ρ2 H2 (forEn (qAR t (denS F B cb)) k m (i+1) env2 h2),fun σ2 H2 z=>⟨m,by omega,z⟩,fun x H'' y=>?_⟩
        obtain ⟨tt,y,rfl,hn,rfl,hy⟩:=y
        have ew:=hy vs h2
        rw [hw] at ew
        cases ew
        have st:Step ρ' H' ρ' (upd H' tt (.tup [.int (i:Nat),w])):=Step.fresh hn
        have rv:RepV K ρ' (upd H' tt (.tup [.int (i:Nat),w])) (.tup [.int (i:Nat),d]) (.ref tt):=⟨tt,[.int (i:Nat),w],rfl,.inl (.inl qAA),.int (i:Nat),[w],rfl,rfl,w,[],rfl,hv.mono st _ _,rfl⟩
        exact qEw ht (s'.mono st) (r'.fresh hn) rv (PostS.mono p' st) fun ρ2 H2 env2 h2 st2 e2 r2 s2 p2=>⟨ρ2,env2,h2,(e'.trans st).trans e2,s2,r2,p2⟩
end
end Fy
set_option Elab.async false
set_option linter.all false
set_option maxRecDepth 100000
set_option maxHeartbeats 4000000
namespace Fy
open PySem PySem.Spec PyProof.Rows
open L2 (V Hp HO VK XK TE TT TA TS TI Cx Inv RelV Vals SqL SqT Rd upd qAA qAB PE PT PA PS PSs EP TP PI PG PIE Turn FpOk Ends HOk frs thn)
noncomputable def CXD (P:Program) (w:World) (ex:Nat→Option Addr):L2.CXT:=fun outer H s E e s' =>
 ∃ (a C:Addr) (c:Nat) (B:Heap) (a0:Value) (H':Hp),e=.ref a∧ex c=some C∧Heap.FlyingW B outer a (.ref C) a0 s'.heap∧HOk P w H' B ∧
  (∀ b o,s.heap.get? b=some o→b∉frs outer→∃ o',B.get? b=some o')∧L2.Un (frs outer) [] H H' s.heap s'.heap∧s'.os=s.os∧AllBare s'.gens∧E e (some c) H'
theorem CXD.imp {P:Program} {w:World} {ex:Nat→Option Addr} {outer:List PySem.Env} {H:Hp} {s s':Shared} {E E':XK} {e:Value} (x:CXD P w ex outer H s E e s') (h:∀ e c H',E e c H'→E' e c H'):CXD P w ex outer H s E' e s':=by
 obtain ⟨a,C,c,B,a0,H',h1,h2,h3,h4,h5,h6,h7,h8,h9⟩:=x
 exact ⟨a,C,c,B,a0,H',h1,h2,h3,h4,h5,h6,h7,h8,h _ _ _ h9⟩
section
variable {fs:List Addr} {H H':Hp} {h0 h1 h' B:Heap} {l:List PySem.Env}
theorem qH3 (u:L2.Un (frs l) [] H H' h0 h1) (hB:B.StaysIn h1) (cov:∀ b o,h0.get? b=some o→b∉frs l→∃ o',B.get? b=some o') (fr:h1.FunFrames B l) (hB':B.StaysIn h') (up:h1.UpToSlots h'):L2.Un (frs l) [] H H' h0 h' where
 keep:=fun b o e n hb hx=>by
  obtain ⟨o',e'⟩:=cov b o e hb
  have k1:=u.keep b o e n hb hx
  have k2:=hB b o' e'
  rw [k1] at k2
  cases k2
  exact hB' b o e'
 slot:=fun b o e n hb hx=>by
  obtain ⟨sl,k1⟩:=u.slot b o e n hb hx
  obtain ⟨_,o2,k2,k3⟩:=fr.mem hb
  rw [k1] at k2
  cases k2
  obtain ⟨sl',k4⟩:=up b _ k1 k3
  exact ⟨sl',k4⟩
 free:=u.free
 there:=fun b o e hx=>by
  by_cases hb:b∈frs l
  ·obtain ⟨_,o2,k2,k3⟩:=fr.mem hb
   obtain ⟨sl',k4⟩:=up b _ k2 k3
   exact ⟨_,k4⟩
  ·obtain ⟨o',e'⟩:=cov b o e hb
   exact ⟨o',hB' b o' e'⟩
 tups:=u.tups
 frzs:=u.frzs
 tbls:=u.tbls
theorem qH4 {fs':List Addr} (u:L2.Un fs' [] H H' h0 h') (hs:∀ b∈fs',b∉fs→h0.get? b=none):L2.Un fs [] H H' h0 h' where
 keep:=fun b o e n hb hx=>u.keep b o e n (fun z=>by rw [hs b z hb] at e;cases e) hx
 slot:=fun b o e n hb hx=>u.any e n hx
 free:=u.free
 there:=u.there
 tups:=u.tups
 frzs:=u.frzs
 tbls:=u.tbls
end
theorem funFrames_hide' {base h:Heap} {as:List Addr} {l:List PySem.Env} (x:h.FunFrames base l) (ha:∀ b∈frs l,b∈as):h.FunFrames (PySem.W.hideAll h as) l :=
 PySem.W.funFrames_hide x fun env he a ha'=>ha a (List.mem_filterMap.mpr ⟨env,he,ha'⟩)
section
variable {X:Cx} {pins:List (Addr × Obj)} {σ:L2.St} {H:Hp} {s s':Shared} {ex:Nat→Option Addr}
theorem qEu {k:Nat} {f:Addr} {fd:FuncData} {ps:List Str} {sp:L2.Sp} {E:XK} {Q:VK} {us:List Value} {vs:List V} (F:L2.FnOk X.prog X.w X.K X.mg X.base (CXD X.prog X.w ex) k f fd ps sp) (hr:L2.Room k X.A) (hb:L2.Binds X.K fd ps [])
    (hx:∀ e s',CXD X.prog X.w ex X.stack H s E e s'→X.xe e s') (I:Inv X pins σ H s) (r:Vals vs us) (h:sp vs H Q E):wpAny (model X.prog X.w) X.A (call (.ref f) us) (EP X pins σ Q) X.xe s:=by
  have hl:us.length=ps.length:=by rw [← r.length];exact F.len _ _ _ _ h
  have hb':=hb s us I.kIn (by rw [List.append_nil];exact hl)
  rw [List.append_nil] at hb'
  refine wpAny_call (codeAny_mono (F.run X.A X.stack s H ⟨us,[]⟩ us vs Q E hr I.env0 hb' r h) fun r s' hq=>?_)
  cases r with
  | error e=>exact hx e s' hq
  | ok fl =>
    cases fl with
    | ret u=>exact I.after hq
    | next=>exact False.elim hq
    | brk=>exact False.elim hq
    | cont=>exact False.elim hq
end
section
variable {P:Program} {w:World} {K:PySem.W.Frag} {mg:Str→Option Value} {base:Heap} {N:List Str} {qual:Str} {scope:Scope} {f:Addr} {cd:Value} {A:Around} {outer:List PySem.Env} {s0:Shared} {H0:Hp} {E:XK} {ex:Nat→Option Addr}
variable {pins:List (Addr × Obj)} {σ:L2.St} {H:Hp} {s s':Shared}
noncomputable abbrev cxX (ex:Nat→Option Addr) (P:Program) (w:World) (K:PySem.W.Frag) (mg:Str→Option Value) (base:Heap) (N:List Str) (qual:Str) (scope:Scope) (f:Addr) (cd:Value) (A:Around) (outer:List PySem.Env) (s0:Shared) (H0:Hp) (E:XK):Cx:=L2.cxOf (CXD P w ex) P w K mg base N qual scope f cd A outer s0 H0 E
theorem qLN {h':Heap} {H':Hp} (I:Inv (cxX ex P w K mg base N qual scope f cd A outer s0 H0 E) pins σ H s) (u:L2.Un (frs (cxX ex P w K mg base N qual scope f cd A outer s0 H0 E).stack) [] H H' s.heap h'):L2.Un (frs outer) [] H0 H' s0.heap h':=by
 have b1:L2.Un (frs outer) [] H0 H s0.heap s.heap:=I.base
 have b2:=b1.mono (fs':=frs (cxX ex P w K mg base N qual scope f cd A outer s0 H0 E).stack) (ex':=[]) (fun b hb=>by
  show b∈frs (envOfC qual scope s0.heap.objs.size f cd::outer)
  exact List.mem_cons_of_mem _ hb) fun _ z=>z
 refine qH4 (b2.trans u) fun b hb hn=>?_
 rcases List.mem_cons.mp (show b∈s0.heap.objs.size::frs outer from hb) with rfl | z
 ·cases q:s0.heap.get? s0.heap.objs.size with
  | none=>rfl
  | some o=>exact absurd (Heap.lt_size q) (Nat.lt_irrefl _)
 ·exact absurd z hn
theorem qIS {B:Heap} (I:Inv (cxX ex P w K mg base N qual scope f cd A outer s0 H0 E) pins σ H s) (cov:∀ b o,s.heap.get? b=some o→b∉frs (cxX ex P w K mg base N qual scope f cd A outer s0 H0 E).stack→∃ o',B.get? b=some o') :
    ∀ b o,s0.heap.get? b=some o→b∉frs outer→∃ o',B.get? b=some o':=fun b o e hb=>by
  have b1:L2.Un (frs outer) [] H0 H s0.heap s.heap:=I.base
  obtain ⟨o1,e1⟩:=b1.there b o e (by simp)
  refine cov b o1 e1 fun z=>?_
  rcases List.mem_cons.mp (show b∈s0.heap.objs.size::frs outer from z) with rfl | z
  · exact absurd (Heap.lt_size e) (Nat.lt_irrefl _)
  · exact hb z
theorem qIp {W:WX} {e:Value} (hW:∀ c σ H,W c σ H→∀ e,E e (some c) H) (I:Inv (cxX ex P w K mg base N qual scope f cd A outer s0 H0 E) pins σ H s)
    (x:CXD P w ex (cxX ex P w K mg base N qual scope f cd A outer s0 H0 E).stack H s (fun _ co H'=>∃ c,co=some c∧W c σ H') e s'):(cxX ex P w K mg base N qual scope f cd A outer s0 H0 E).xe e s':=by
  obtain ⟨a,C,c,B,a0,H',rfl,h2,h3,h4,h5,h6,h7,h8,c',e',h9⟩:=x
  cases e'
  have fr:=I.ok.frames
  refine wpAny_leaves_onW (env:=envOfC qual scope s0.heap.objs.size f cd) (outer:=outer) fr rfl h3 fun h' hfl up=>?_
  have un:=qH3 h6 h3.1 h5 h3.2.2.1 hfl.1 up
  refine ⟨a,C,c,B,a0,H',rfl,h2,hfl,h4,qIS I h5,qLN I un,?_,h8,hW c σ H' h9 _⟩
  rw [show ({ s' with heap:=h' }:Shared).os=s'.os from rfl,h7]
  exact I.os
theorem qHl {W:WX} {a C:Addr} {c:Nat} {args:List Value} {h1:Heap} (hW:∀ c σ H,W c σ H→∀ e,E e (some c) H) (I:Inv (cxX ex P w K mg base N qual scope f cd A outer s0 H0 E) pins σ H s) (hc:ex c=some C)
    (m:Heap.MadeExcOf s.heap h1 a (.ref C) args) (hw:W c σ H):(cxX ex P w K mg base N qual scope f cd A outer s0 H0 E).xe (.ref a) { s with heap:=h1 }:=by
  have fr:=I.ok.frames
  have ff:=I.stack
  have hB:(PySem.W.hideAll s.heap (frs (cxX ex P w K mg base N qual scope f cd A outer s0 H0 E).stack)).StaysIn s.heap:=fun b o e=>PySem.W.of_hideAll _ e
  have hcov:∀ b o,s.heap.get? b=some o→b∉frs (cxX ex P w K mg base N qual scope f cd A outer s0 H0 E).stack→∃ o',(PySem.W.hideAll s.heap (frs (cxX ex P w K mg base N qual scope f cd A outer s0 H0 E).stack)).get? b=some o':=fun b o e hb=>⟨o,PySem.W.hideAll_get _ e hb⟩
  have hok:HOk P w H (PySem.W.hideAll s.heap (frs (cxX ex P w K mg base N qual scope f cd A outer s0 H0 E).stack)):=fun b u e=>by
    refine (show L2.ObjOk P w H s.heap b u from I.hok b u e).stay (fun c v hc q=>PySem.W.hideAll_get _ q fun z=>?_) (fun _ q=>q) fun _ _ q=>q
    have n:=I.stkFree c z
    rcases hc with rfl | hc
    · rw [e] at n;cases n
    · rw [hc] at n;cases n
  refine wpAny_leaves_madeW (env:=envOfC qual scope s0.heap.objs.size f cd) (outer:=outer) fr rfl hB (funFrames_hide' ff fun _ z=>z) m fun h' t hfl _ _ up=>?_
  have up':s.heap.UpToSlots h':=(Heap.UpToSlots.of_keeps m.keeps).trans up
  have un:=qH3 (L2.Un.refl (fs:=frs (cxX ex P w K mg base N qual scope f cd A outer s0 H0 E).stack) (ex:=[]) (H:=H) (h:=s.heap)) hB hcov (funFrames_hide' ff fun _ z=>z) hfl.1 up'
  exact ⟨a,C,c,_,_,H,rfl,hc,hfl,hok,qIS I hcov,qLN I un,I.os,I.bare,hW c σ H hw _⟩
end
end Fy
set_option Elab.async false
set_option linter.all false
set_option maxRecDepth 100000
set_option maxHeartbeats 4000000
namespace Fy
open PySem PySem.Spec PyProof.Rows
open L2 (V Hp HO VK XK TE TT TA TS TI Cx Inv RelV Vals SqL SqT Rd upd qAA qAB PE PT PA PS PSs EP TP PI PG PIE Turn FpOk Ends HOk frs thn)
noncomputable def isXC (K:PySem.W.Frag) (C:Addr):Bool:=PySem.W.excIn K C [.type "ValueError",.type "Exception",.type "BaseException",.type "object"] "ValueError.__new__"
section
variable {X:Cx} {F:Nat→List D→M D} {B:Nat} {W:WX} {ex:Nat→Option Addr}
end
end Fy
set_option Elab.async false
set_option linter.all false
set_option maxRecDepth 100000
set_option maxHeartbeats 4000000
namespace Fy
open PySem PySem.Spec PyProof.Rows
open L2 (V Hp HO VK XK TE TT TA TS TI Cx Inv RelV Vals SqL SqT Rd upd qAA qAB PE PT PA PS PSs EP TP SP PI PG PIE Turn FpOk Ends HOk frs thn)
noncomputable abbrev hold (X:Cx) (pins:List (Addr × Obj)) (E:Value→Shared→Prop):Cx:={ X with pn:=X.pn++pins,xe:=E }
noncomputable abbrev mark (X:Cx) (e:Value):Cx:={ X with A:=X.A.mark (some e),calm:=false,xe:=fun _ _=>False }
section
variable {X:Cx} {pins pins':List (Addr × Obj)} {σ:L2.St} {H:Hp} {s:Shared} {E:Value→Shared→Prop}
theorem qMH {e:Value} (ok:X.Ok):(mark X e).Ok:=⟨ok.mod,ok.kind,ok.glob,ok.blt,ok.above,ok.inj,ok.has,ok.cab,(fun z=>by cases z),ok.frames,ok.stk,ok.exf,ok.bs,ok.bsz,ok.noex,ok.exfs,ok.funs,ok.frf⟩
theorem Inv.mark {e:Value} (I:Inv X pins σ H s):Inv (mark X e) pins σ H s:=⟨qMH I.ok,I.os,I.bare,I.base,I.loc,I.cell,I.free,I.freeC,I.pin,I.hok,I.len⟩
theorem Inv.unmark {e:Value} (I:Inv (Fy.mark X e) pins σ H s) (ok:X.Ok):Inv X pins σ H s:=⟨ok,I.os,I.bare,I.base,I.loc,I.cell,I.free,I.freeC,I.pin,I.hok,I.len⟩
theorem SP.unmark {e:Value} {D:Ends} {f:Flow} {s':Shared} (h:SP (Fy.mark X e) pins D f s') (ok:X.Ok):SP X pins D f s':=by
 cases f with
 | next=>obtain ⟨σ',H',I,q⟩:=h;exact ⟨σ',H',Inv.unmark I ok,q⟩
 | brk=>obtain ⟨σ',H',I,q⟩:=h;exact ⟨σ',H',Inv.unmark I ok,q⟩
 | cont=>obtain ⟨σ',H',I,q⟩:=h;exact ⟨σ',H',Inv.unmark I ok,q⟩
 | ret u=>obtain ⟨v,σ',H',I,r,q⟩:=h;exact ⟨v,σ',H',Inv.unmark I ok,r,q⟩
end
theorem qGP {P:Program} {w:World} {H:Hp} {h:Heap} {a:Addr} {o:HO} (x:L2.ObjOk P w H h a o):∃ ob,h.get? a=some ob:=by
 cases o with
 | lst xs=>obtain ⟨_,_,_,_,e⟩:=x;exact ⟨_,e⟩
 | tup xs=>obtain ⟨_,_,_,ob,e,_⟩:=x;exact ⟨_,e⟩
 | dK kvs=>obtain ⟨_,_,_,_,o,_,_,e,_⟩:=x;exact ⟨_,e⟩
 | dT kvs=>obtain ⟨_,_,_,_,o,_,_,e,_⟩:=x;exact ⟨_,e⟩
 | set S n=>obtain ⟨o,_,_,_,e,_⟩:=x;exact ⟨_,e⟩
 | ins C dx fs=>obtain ⟨_,_,_,e,_⟩:=x;exact ⟨_,e⟩
 | own y=>exact x
 | xd fs=>obtain ⟨_,⟨_,_,_,e,_⟩,_⟩:=x;exact ⟨_,e⟩
 | rng lo hi=>obtain ⟨_,_,_,e⟩:=x;exact ⟨_,e⟩
 | frz ob u=>obtain ⟨e,_⟩:=x;exact ⟨_,e⟩
 | tbl ps=>exact ⟨_,(show h.get? a=some _ from x)⟩
 | met f y=>exact ⟨_,(show h.get? a=some _ from x)⟩
 | ext φ=>obtain ⟨_,⟨_,e⟩,_⟩:=x;exact ⟨_,e⟩
section
variable {X:Cx} {pins:List (Addr × Obj)} {σ:L2.St} {H:Hp} {s:Shared}
theorem Inv.track {a:Addr} {o:HO} (I:Inv X pins σ H s) (hn:H a=none) (h0:X.s₀.heap.get? a=none) (hl:a≠X.env.locals) (hc:∀ x c,X.env.cells.lookup x=some c→c≠a) (hp:∀ p∈X.pn++pins,p.1≠a)
    (new:L2.ObjOk X.prog X.w (upd H a o) s.heap a o):Inv X pins σ (upd H a o) s:=by
  refine ⟨I.ok,I.os,I.bare,⟨I.base.keep,I.base.slot,fun b ob q n hx=>?_,I.base.there,fun b xs q=>?_,fun b ob u q=>?_,fun b ps q=>?_⟩,I.loc,I.cell,?_,fun x c e=>?_,fun p hpp=>?_,fun b u e=>?_,I.len⟩
  · rw [qAB (fun z=>by rw [z,h0] at q;cases q)]
    exact I.base.free b ob q n hx
  · have:=I.base.tups b xs q
    rw [qAB (L2.ne_of_none this hn)]
    exact this
  · have:=I.base.frzs b ob u q
    rw [qAB (L2.ne_of_none this hn)]
    exact this
  · obtain ⟨more,e⟩:=I.base.tbls b ps q
    exact ⟨more,by rw [qAB (L2.ne_of_none e hn)];exact e⟩
  · rw [qAB (Ne.symm hl)]
    exact I.free
  · rw [qAB (hc x c e)]
    exact I.freeC x c e
  · obtain ⟨e,n,ne,nf,d⟩:=I.pin p hpp
    exact ⟨e,by rw [qAB (hp p hpp)];exact n,ne,nf,d⟩
  · by_cases hb:b=a
    · subst hb
      rw [qAA] at e
      cases e
      exact new
    · rw [qAB hb] at e
      exact (I.hok b u e).stay (fun c v _ q=>q) (fun c q=>by rw [qAB (L2.ne_of_none q hn)];exact q) fun c xs q=>by rw [qAB (L2.ne_of_none q hn)];exact q
theorem Inv.blank {h':Heap} {m':Str→Option Value} {tk:Nat} (I:Inv X pins σ H s) (hn':h'.Ns X.env.locals m') (hs:Heap.SameBut X.env.locals s.heap h'):Inv X pins (σ.map fun _=>none) H { s with heap:=h',toks:=tk }:=by
 have cne:=I.cne
 refine ⟨I.ok,I.os,I.bare,⟨fun b o e n hb hx=>?_,fun b o e n hb hx=>?_,I.base.free,fun b o e hx=>?_,I.base.tups,I.base.frzs,I.base.tbls⟩,⟨_,hn',fun j y v' e1 e2 e3=>?_⟩,fun y c e=>?_,I.free,I.freeC,fun p hp=>?_,fun b ob e=>?_,by simpa using I.len⟩
 ·exact (hs.2 b (Nat.ne_of_lt (Nat.lt_of_lt_of_le (Heap.lt_size e) I.ok.above))).trans (I.base.keep b o e n hb hx)
 ·obtain ⟨sl,e1⟩:=I.base.slot b o e n hb hx
  exact ⟨sl,(hs.2 b (Nat.ne_of_lt (Nat.lt_of_lt_of_le (Heap.lt_size e) I.ok.above))).trans e1⟩
 ·obtain ⟨o',e1⟩:=I.base.there b o e hx
  exact ⟨o',(hs.2 b (Nat.ne_of_lt (Nat.lt_of_lt_of_le (Heap.lt_size e) I.ok.above))).trans e1⟩
 ·rw [List.getElem?_map] at e2
  cases q:σ[j]? with
  | none=>rw [q] at e2;cases e2
  | some z=>rw [q] at e2;cases e2
 ·obtain ⟨w',z⟩:=I.cell y c e
  exact ⟨w',z.sameBut hs (cne y c e)⟩
 ·obtain ⟨e,n,ne,nf,d⟩:=I.pin p hp
  exact ⟨(hs.2 p.1 ne).trans e,n,ne,nf,d⟩
 ·have hfree:=I.free
  refine (I.hok b ob e).stay (fun c w' hc q=>(hs.2 c ?_).trans q) (fun _ q=>q) fun _ _ q=>q
  rintro rfl
  rcases hc with rfl | hc
  ·rw [hfree] at e;cases e
  ·rw [hfree] at hc;cases hc
end
section
variable {X:Cx} {F:Nat→List D→M D} {B:Nat} {W:WX} {ex:Nat→Option Addr}
noncomputable def HOf (X:Cx) (F:Nat→List D→M D) (B:Nat) (ex:Nat→Option Addr):List ExceptHandler→CH→Prop
  | [],.nil=>True
  | .ExceptHandler (some (.Name x np)) none body pos::r,.cons cs k r'=>(∃ C,L2.Gl X x∧(x == ("__debug__":Str))=false∧X.mg x=some (.ref C)∧∀ c D,ex c=some D→PySem.W.exmOne X.K (.ref D) (.ref C)=some (cs.contains c)) ∧
      (∃ b0 rest,body=b0::rest)∧(∀ e,PSs (mark X e) body (tDS X.K WF (denS F B k)))∧HOf X F B ex r r'
  | .ExceptHandler (some (.Name x np)) (some n) body pos::r,.as cs i k r'=>(∃ C,L2.Gl X x∧(x == ("__debug__":Str))=false∧X.mg x=some (.ref C)∧∀ c D,ex c=some D→PySem.W.exmOne X.K (.ref D) (.ref C)=some (cs.contains c)) ∧
      (∃ b0 rest,body=b0::rest)∧(X.ex=[]∧X.N.Nodup∧X.N[i]?=some n∧X.env.scope.names.lookup n=some .local∧∀ c C,ex c=some C→ClsAt X.K c C)∧(∀ e,PSs (mark X e) body (tDS X.K WF (denS F B k)))∧HOf X F B ex r r'
  | _,_=>False
structure Look (X:Cx) (ex:Nat→Option Addr) (pins:List (Addr × Obj)) (σ:L2.St) (Hc H:Hp) (s0 s:Shared) (Bs:Heap) (a C:Addr) (a0:Value):Prop where
 inv:Inv X pins σ Hc s0
 fl:Heap.FlyingW Bs X.stack a (.ref C) a0 s.heap
 hok:HOk X.prog X.w H Bs
 cov:∀ b o,s0.heap.get? b=some o→b∉frs X.stack→∃ o',Bs.get? b=some o'
 un:L2.Un (frs X.stack) [] Hc H s0.heap s.heap
 os:s.os=s0.os
 bare:AllBare s.gens
theorem Look.go {pins:List (Addr × Obj)} {σ:L2.St} {Hc H:Hp} {s0 s:Shared} {Bs h':Heap} {a C:Addr} {a0:Value} (L:Look X ex pins σ Hc H s0 s Bs a C a0) (fl:Heap.FlyingW Bs X.stack a (.ref C) a0 h') (up:s.heap.UpToSlots h'):Look X ex pins σ Hc H s0 { s with heap:=h' } Bs a C a0 :=
 ⟨L.inv,fl,L.hok,L.cov,qH3 L.un L.fl.1 L.cov L.fl.2.2.1 fl.1 up,L.os,L.bare⟩
theorem Look.now {pins:List (Addr × Obj)} {σ:L2.St} {Hc H:Hp} {s0 s:Shared} {Bs:Heap} {a C:Addr} {a0:Value} (L:Look X ex pins σ Hc H s0 s Bs a C a0):Inv X pins σ H s :=
 L.inv.call' L.os L.un (L.hok.kept L.fl.1) L.bare fun b hb=>absurd hb (by simp)
theorem Look.ty {pins:List (Addr × Obj)} {σ:L2.St} {Hc H:Hp} {s0 s:Shared} {Bs:Heap} {a C:Addr} {a0:Value} {M:Model} (L:Look X ex pins σ Hc H s0 s Bs a C a0):PySem.W.Looks M s.heap (typeOf (.ref a)) (.ref C):=by
 obtain ⟨ob,h1,h2⟩:=L.fl.there
 exact h2 ▸ (PySem.W.Looks.ld h1).andThen .now
theorem Look.new {pins:List (Addr × Obj)} {σ:L2.St} {Hc H:Hp} {s0 s:Shared} {Bs:Heap} {a C:Addr} {a0:Value} (L:Look X ex pins σ Hc H s0 s Bs a C a0):s0.heap.get? a=none:=by
 cases q:s0.heap.get? a with
 | none=>rfl
 | some o =>
  exfalso
  by_cases hf:a∈frs X.stack
  ·obtain ⟨_,o2,k2,k3⟩:=L.fl.2.2.1.mem hf
   obtain ⟨oe,vs,T,oT,ts,t1,t2,t3,_⟩:=L.fl.2.2.2
   rw [t1] at k2
   cases k2
   exact k3 vs t3
  ·obtain ⟨o',e⟩:=L.cov a o q hf
   rw [L.fl.2.1] at e
   cases e
theorem Look.free {pins:List (Addr × Obj)} {σ:L2.St} {Hc H:Hp} {s0 s:Shared} {Bs:Heap} {a C:Addr} {a0:Value} (L:Look X ex pins σ Hc H s0 s Bs a C a0):H a=none:=by
 cases q:H a with
 | none=>rfl
 | some o =>
  obtain ⟨ob,e⟩:=qGP (L.hok a o q)
  rw [L.fl.2.1] at e
  cases e
noncomputable def Clz (X:Cx) (F:Nat→List D→M D) (B:Nat) (ex:Nat→Option Addr) (W:WX) (pins:List (Addr × Obj)) (σ:L2.St) (E:Ends) (hs:List ExceptHandler) (ch:CH):Prop :=
 ∀ (Hc H:Hp) (s0 s:Shared) (Bs:Heap) (a C:Addr) (a0:Value) (c:Nat),ex c=some C→Look X ex pins σ Hc H s0 s Bs a C a0 →
  (∃ ρ env h,RepS X.K ρ H env σ∧RepH X.K ρ h H∧PostS X.K W E ρ H (denH F B ch c env h))→wpAny (model X.prog X.w) X.A (handleBy (.ref a) X.env hs) (SP X pins E) X.xe s
theorem qKz {pins:List (Addr × Obj)} {σ:L2.St} {E:Ends} {x:Str} {np pos:Pos} {body:List Stmt} {r:List ExceptHandler} {cs:List Nat} {k:CS} {r':CH} (hh:HOf X F B ex (.ExceptHandler (some (.Name x np)) none body pos::r) (.cons cs k r')) (ih:Clz X F B ex W pins σ E r r'):Clz X F B ex W pins σ E (.ExceptHandler (some (.Name x np)) none body pos::r) (.cons cs k r'):=by
 rintro Hc H s0 s Bs a C a0 c hc L ⟨ρ,env,h,st,rh,p⟩
 obtain ⟨⟨C',g1,g2,g3,g4⟩,⟨b0,rest,hb⟩,hsu,hr⟩:=hh
 have I:=L.now
 rw [denH] at p
 refine wpAny_handleBy_cons (codeAny_handlers_test (L2.ld_glob (X:=mark X (.ref a)) (Inv.mark I) g1 g3 ?_ g2)) (by intro q;cases q)
 refine (PySem.W.exm_one I.kIn L.ty (g4 c C hc)).here ?_
 cases q:cs.contains c with
 | false =>
  rw [q] at p
  exact ih _ _ _ _ _ _ _ _ _ hc L ⟨ρ,env,h,st,rh,p⟩
 | true =>
  rw [q] at p
  subst hb
  refine codeAny_handlers_suite (lands_againW L.fl fun h6 fl6 up6=>?_)
  have L6:=L.go fl6 up6
  have p:PostS X.K W E ρ H (SR.calm (denS F B k env h)):=p
  have p':PostS X.K WF E ρ H (denS F B k env h):=by
   cases z:denS F B k env h with
   | nx _ _=>rw [z] at p;exact p
   | rt _ _=>rw [z] at p;exact p
   | bk _ _=>rw [z] at p;exact p
   | ct _ _=>rw [z] at p;exact p
   | exc _ _ _=>rw [z] at p;exact False.elim p
   | bad=>rw [z] at p;exact p
  exact wpAny_mono (hsu (.ref a) pins _ σ H E (Inv.mark L6.now) ⟨ρ,env,h,st,rh,p'⟩) (fun f s7 q7=>SP.unmark q7 I.ok) fun _ _ z=>False.elim z
theorem qK0 {pins:List (Addr × Obj)} {σ:L2.St} {E:Ends} {x n:Str} {np pos:Pos} {body:List Stmt} {r:List ExceptHandler} {cs:List Nat} {i:Nat} {k:CS} {r':CH} (hh:HOf X F B ex (.ExceptHandler (some (.Name x np)) (some n) body pos::r) (.as cs i k r')) (ih:Clz X F B ex W pins σ E r r'):Clz X F B ex W pins σ E (.ExceptHandler (some (.Name x np)) (some n) body pos::r) (.as cs i k r'):=by
  rintro Hc H s0 s Bs a C a0 c hc L ⟨ρ,env,h,st,rh,p⟩
  obtain ⟨⟨C',g1,g2,g3,g4⟩,⟨b0,rest,hb⟩,⟨n0,n1,n2,n3,n4⟩,hsu,hr⟩:=hh
  have I:=L.now
  rw [denH] at p
  refine wpAny_handleBy_cons (codeAny_handlers_test (L2.ld_glob (X:=mark X (.ref a)) (Inv.mark I) g1 g3 ?_ g2)) (by intro q;cases q)
  refine (PySem.W.exm_one I.kIn L.ty (g4 c C hc)).here ?_
  cases q:cs.contains c with
  | false =>
    rw [q] at p
    exact ih _ _ _ _ _ _ _ _ _ hc L ⟨ρ,env,h,st,rh,p⟩
  | true =>
    rw [q] at p
    subst hb
    refine codeAny_handlers_suite_as (lands_againW L.fl fun h6 fl6 up6=>?_)
    have L6:=L.go fl6 up6
    have new:=L.new
    have hfree:=L6.free
    have hs0:X.s₀.heap.get? a=none:=by
      cases z:X.s₀.heap.get? a with
      | none=>rfl
      | some o =>
        obtain ⟨o',e⟩:=L.inv.base.there a o z (by rw [n0];exact List.not_mem_nil)
        rw [new] at e
        cases e
    obtain ⟨ob,hob,hcl⟩:=L6.fl.there
    have It:Inv X pins σ (upd H a (xcO a C)) { s with heap:=h6 }:=Inv.track L6.now hfree hs0 (fun z=>by
        obtain ⟨m,hn,_⟩:=L.inv.loc
        obtain ⟨oL,_,_,hoL,_⟩:=id hn
        rw [← z,new] at hoL
        cases hoL) (fun y c' e z=>by
        obtain ⟨w',oc,hoc,_⟩:=L.inv.cell y c' e
        rw [z,new] at hoc
        cases hoc) (fun pp hpp z=>by
        have:=(L.inv.pin pp hpp).1
        rw [z,new] at this
        cases this) ⟨⟨ob,hob,hcl⟩,⟨ob,hob⟩,fun h1 h2 ⟨o1,e1,e2⟩ k=>⟨o1,k o1 e1,e2⟩⟩
    have step:Step ρ H (ρ++[a]) (upd H a (xcO a C)):=Step.new1 hfree
    have rh':RepH X.K (ρ++[a]) (h++[.xc c]) (upd H a (xcO a C)):=rh.newO hfree ⟨C,n4 c C hc,qAA⟩
    have hlen:(ρ++[a])[h.length]?=some a:=by rw [← rh.len,List.getElem?_append_right (Nat.le_refl _)];simp
    have st':RepS X.K (ρ++[a]) (upd H a (xcO a C)) (env.set i (some (.ref h.length))) (σ.set i (some (.ref a))):=(st.mono step).set i ⟨a,hlen,rfl⟩
    have p:PostS X.K W E ρ H (SR.rtO (denS F B k (env.set i (some (.ref h.length))) (h++[.xc c]))):=p
    have p':PostS X.K WF { E with nx:=fun _ _=>False,bk:=fun _ _=>False,ct:=fun _ _=>False } (ρ++[a]) (upd H a (xcO a C)) (denS F B k (env.set i (some (.ref h.length))) (h++[.xc c])):=by
      cases z:denS F B k (env.set i (some (.ref h.length))) (h++[.xc c]) with
      | rt d g=>rw [z] at p;exact fun ρ' H' v e' r' hv=>p ρ' H' v (step.trans e') r' hv
      | nx _ _=>rw [z] at p;exact False.elim p
      | bk _ _=>rw [z] at p;exact False.elim p
      | ct _ _=>rw [z] at p;exact False.elim p
      | exc _ _ _=>rw [z] at p;exact False.elim p
      | bad=>rw [z] at p;exact p
    refine L2.store_ok (X:=mark X (.ref a)) (v:=.ref a) (Inv.mark It) n1 n2 (.inl n3) rfl (fun s7 I7=>?_) (.inr n3)
    refine wpAny_mono (hsu (.ref a) pins s7 _ _ _ I7 ⟨_,_,_,st',rh',p'⟩) (fun f s8 q8=>?_) fun _ _ z=>False.elim z
    cases f with
    | next=>obtain ⟨_,_,_,z⟩:=q8;exact False.elim z
    | brk=>obtain ⟨_,_,_,z⟩:=q8;exact False.elim z
    | cont=>obtain ⟨_,_,_,z⟩:=q8;exact False.elim z
    | ret u =>
      obtain ⟨v,σ',H',I8,rv,qv⟩:=q8
      have I9:=Inv.unmark I8 I.ok
      obtain ⟨m,hn,_⟩:=I9.loc
      refine wpAny_nameGoes n3 hn (by rw [I9.ok.kind];rfl) fun h' m' hn' hs'=>?_
      exact ⟨v,_,H',Inv.blank I9 hn' hs',rv,qv⟩
theorem qPp {pins:List (Addr × Obj)} {σ:L2.St} {E:Ends}:∀ (hs:List ExceptHandler) (ch:CH),HOf X F B ex hs ch→Clz X F B ex W pins σ E hs ch:=by
 intro hs
 induction hs with
 | nil =>
  intro ch hh
  cases ch with
  | nil=>rintro Hc H s0 s Bs a C a0 c hc L ⟨ρ,env,h,st,rh,p⟩;exact False.elim p
  | _=>exact False.elim hh
 | cons hd r ih =>
  intro ch hh
  obtain ⟨ty,nm,body,pos⟩:=hd
  cases ty with
  | none=>exact False.elim hh
  | some t =>
   cases t with
   | Name x np =>
    cases nm with
    | none =>
     cases ch with
     | cons cs k r'=>exact qKz hh (ih r' hh.2.2.2)
     | _=>exact False.elim hh
    | some n =>
     cases ch with
     | «as» cs i k r'=>exact qK0 hh (ih r' hh.2.2.2.2)
     | _=>exact False.elim hh
   | _=>exact False.elim hh
end
end Fy
set_option Elab.async false
set_option linter.all false
set_option maxRecDepth 100000
set_option maxHeartbeats 4000000
namespace Fy
open PySem PySem.Spec PySem.Calls PyProof.Rows PySem.W
structure XGet (K:Frag) (C:Addr):Prop where
 ga:findIn K (.ref C) "__getattribute__"=some (some (.builtin "BaseException.__getattribute__"))
 gt:findIn K (.ref C) "__getattr__"=some none
 cl:findIn K (.ref C) "__class__"=some (some (.builtin "object.__class__"))
 ob:subIn K (.ref C) (.type "object")=some true
 be:subIn K (.ref C) (.type "BaseException")=some true
 is:isClsIn K C=true
section
variable {prog:Program} {w:World} {A:Around} {E:Value→Shared→Prop} {h:Heap} {g:Array GenState} {d:Drawn} {t:Nat} {os:OsState} {a C:Addr} {o:Obj} {K:Frag}
end
end Fy
set_option Elab.async false
set_option linter.all false
set_option maxRecDepth 100000
set_option maxHeartbeats 4000000
namespace Fy
open PySem PySem.Spec PySem.Calls PyProof.Rows
open L2 (V Hp HO VK XK TE TT TA TS TI Cx Inv RelV Vals SqL SqT Rd upd qAA qAB PE PT PA PS PSs EP TP SP PI PG PIE Turn FpOk Ends HOk frs thn OpR CallR)
theorem qLT {K:PySem.W.Frag} {t c:Value} {b:Bool} (h:PySem.W.exmOne K t c=some b) (hb:(t == c)=true→b=true):PySem.W.kitOne K t c=some b:=by
 unfold PySem.W.exmOne at h
 unfold PySem.W.kitOne
 split
 ·rename_i q;rw [hb q]
 ·split at h
  ·exact h
  ·cases h
section
variable {X:Cx} {F:Nat→List D→M D} {W:WX}
end
end Fy
set_option Elab.async false
set_option linter.all false
set_option maxRecDepth 100000
set_option maxHeartbeats 4000000
namespace Fy
open PySem PySem.Spec PySem.Calls PyProof.Rows
open L2 (V Hp HO VK XK TE TT TA TS TI Cx Inv RelV Vals SqL SqT Rd upd qAA qAB PE PT PA PS PSs EP TP SP PI PG PIE Turn FpOk Ends HOk frs thn OpR CallR)
noncomputable def vl (l:List Nat) (a:Nat):Nat:=l.foldl (fun a d=>a*256+d) a
theorem qGQ:∀ (f n:Nat) (acc:List Nat),n<256 ^ f→vl (nmGo f n acc) 0=vl acc n
 | 0,n,acc,h=>by
  have:n=0:=by rw [Nat.pow_zero] at h;omega
  subst this
  rfl
 | f+1,n,acc,h=>by
  unfold nmGo
  by_cases q:n=0
  ·rw [if_pos q,q]
  ·rw [if_neg q,qGQ f (n / 256) (n % 256::acc) (by rw [Nat.pow_succ] at h;exact Nat.div_lt_of_lt_mul (by rw [Nat.mul_comm];exact h))]
   show vl acc (n / 256*256+n % 256)=_
   rw [Nat.div_add_mod' n 256]
theorem qE4 {a b:Nat} (ha:a<256 ^ 60) (hb:b<256 ^ 60) (h:nmOf a=nmOf b):a=b:=by
 unfold nmOf at h
 have h1:(nmGo 60 a []).toArray=(nmGo 60 b []).toArray:=congrArg Str.cps h
 have h2:nmGo 60 a []=nmGo 60 b []:=by simpa using h1
 have e1:=qGQ 60 a [] ha
 have e2:=qGQ 60 b [] hb
 rw [h2,e2] at e1
 exact e1.symm
section
variable {K:PySem.W.Frag} {ρ:List Addr} {H:Hp} {C:Addr}
theorem RepF.len:∀ {fs:List (Nat × D)} {vs:List (Str × V)},RepF K ρ H C fs vs→vs.length=fs.length
 | [],_,h=>by cases h;rfl
 | x::xs,_,⟨v,r,h1,_,_,_,h3⟩=>by subst h1;simp [RepF.len h3]
theorem RepF.get {k:Nat} {d:D}:∀ {fs:List (Nat × D)} {vs:List (Str × V)},RepF K ρ H C fs vs→getN k fs=some d→∃ v,vs.lookup (nmOf k)=some v∧RepV K ρ H d v∧L2.NoAttr K C (nmOf k)∧k<256 ^ 60
 | [],_,_,e=>by cases e
 | (g,x)::xs,_,⟨v,r,h1,hb,hn,h2,h3⟩,e=>by
  subst h1
  unfold getN at e
  by_cases q:(g == k)=true
  ·rw [if_pos q] at e
   cases e
   have:g=k:=by simpa using q
   subst this
   exact ⟨v,by simp [List.lookup],h2,hn,hb⟩
  ·rw [if_neg q] at e
   obtain ⟨w,k1,k2,k3,k4⟩:=RepF.get h3 e
   refine ⟨w,?_,k2,k3,k4⟩
   have ne:(nmOf k == nmOf g)=false:=beq_eq_false_iff_ne.mpr fun z=>q (by rw [qE4 k4 hb z];simp)
   show List.lookup (nmOf k) ((nmOf g,v)::r)=_
   rw [List.lookup_cons,ne]
   exact k1
theorem RepF.none {k:Nat} (hk:k<256 ^ 60):∀ {fs:List (Nat × D)} {vs:List (Str × V)},RepF K ρ H C fs vs→getN k fs=none→vs.lookup (nmOf k)=none
 | [],_,h,_=>by cases h;rfl
 | (g,x)::xs,_,⟨v,r,h1,hb,hn,h2,h3⟩,e=>by
  subst h1
  unfold getN at e
  by_cases q:(g == k)=true
  ·rw [if_pos q] at e;cases e
  ·rw [if_neg q] at e
   have ne:(nmOf k == nmOf g)=false:=beq_eq_false_iff_ne.mpr fun z=>q (by rw [qE4 hk hb z];simp)
   show List.lookup (nmOf k) ((nmOf g,v)::r)=_
   rw [List.lookup_cons,ne]
   exact RepF.none hk h3 e
theorem RepF.put {k:Nat} {d:D} {v:V} (hk:k<256 ^ 60) (hn:L2.NoAttr K C (nmOf k)) (hv:RepV K ρ H d v):∀ {fs:List (Nat × D)} {vs:List (Str × V)},RepF K ρ H C fs vs→RepF K ρ H C (putN k d fs) (L2.putF (nmOf k) v vs)
 | [],_,h=>by cases h;exact ⟨v,[],rfl,hk,hn,hv,rfl⟩
 | (g,x)::xs,_,⟨w,r,h1,hb,hn',h2,h3⟩=>by
  subst h1
  unfold putN
  show RepF K ρ H C _ (if nmOf g=nmOf k then (nmOf g,v)::r else (nmOf g,w)::L2.putF (nmOf k) v r)
  by_cases q:(g == k)=true
  ·have:g=k:=by simpa using q
   subst this
   rw [if_pos q,if_pos rfl]
   exact ⟨v,r,rfl,hk,hn,hv,h3⟩
  ·have hb':g<256 ^ 60:=hb
   rw [if_neg q,if_neg fun z=>q (by rw [qE4 hb' hk z];simp)]
   exact ⟨w,_,rfl,hb,hn',h2,RepF.put hk hn hv h3⟩
end
section
variable {X:Cx} {F:Nat→List D→M D} {B:Nat} {W:WX}
theorem d_fld {e:Expr} {ca:CE} {k:Nat} {f:Str} {pos:Pos} (hf:f=nmOf k) (he:PE X e (tD X.K W (den F ca))) (hb:attributeBase e f X.env (eval e X.env)=eval e X.env):PE X (.Attribute e f pos) (tD X.K W (den F (.un (.fld k) ca))):=by
 subst hf
 refine PE.imp (L2.pe_fld he hb) fun σ H Q t=>?_
 obtain ⟨ρ,env,h,s,r,p⟩:=one t
 refine ⟨ρ,env,h,s,r,Post.imp p fun ρ' H' d q v hv=>?_⟩
 obtain ⟨w,ρ2,h2,d2,r2,hd,p2⟩:=q v hv
 cases d2 with
 | ref i =>
  have p2:PostV X.K w Q ρ2 H' (match h2[i]? with | some (.ins _ fs)=>(match getN k fs with | some d=>.ok d h2 | none=>.bad) | _=>.bad):=p2
  split at p2
  ·rename_i c fs hi
   cases g:getN k fs with
   | none=>rw [g] at p2;exact False.elim p2
   | some d =>
    rw [g] at p2
    obtain ⟨a,ha,C,dx,vs,k1,k2,k3,k4⟩:=r2.obj i _ hi
    obtain ⟨a',ha',rfl⟩:=hd
    rw [ha] at ha'
    cases ha'
    obtain ⟨u,l1,l2,l3,_⟩:=k4.get g
    exact ⟨a,C,dx,vs,u,rfl,k3,k2,l3,l1,PostV.now p2 r2 l2⟩
  ·exact False.elim p2
 | _=>exact (show False from p2).elim
theorem qOJ {o e:Expr} {ca ce:CE} {k:Nat} {cs:List Nat} {f:Str} {pos pos':Pos} (hf:f=nmOf k) (hk:k<256 ^ 60) (hna:∀ c C,cs.contains c=true→ClsAt X.K c C→L2.NoAttr X.K C (nmOf k))
    (ho:PE X o (tD X.K W (den F ca))) (he:PE X e (tD X.K W (den F ce))) (hs:swapsWith e (some (.Attribute o f pos')) pos.line X.env=pure false):PS X (.Assign [.Attribute o f pos'] e pos) (tDS X.K W (denS F B (.setF ca k cs ce))):=by
  subst hf
  refine PS.imp (L2.ps_fld ho he hs) fun E σ H t=>?_
  obtain ⟨ρ,env,h,s,r,p⟩:=t
  rw [denS] at p
  refine ⟨ρ,env,h,s,r,PostS.ofR s p fun ρ1 h1 d H1 e1 r1 q v hv=>⟨ρ1,env,h1,s.mono e1,r1,?_⟩⟩
  have q:PostS X.K W E ρ1 H1 (SR.ofR env ((den F ca env h1).bind fun x g=>setFD k cs d x g) fun _ h2=>.nx env h2):=q
  cases z:den F ca env h1 with
  | ok x h2 =>
    rw [z] at q
    have q:PostS X.K W E ρ1 H1 (SR.ofR env (setFD k cs d x h2) fun _ h2=>.nx env h2):=q
    intro ρ2 H2 e2 r2 vx hvx
    cases x with
    | ref i =>
      have q:PostS X.K W E ρ1 H1 (SR.ofR env (match h2[i]? with | some (.ins c fs)=>if cs.contains c=true∧fs.length<1000 then .ok () (h2.set i (.ins c (putN k d fs))) else .bad | _=>.bad) fun _ h2=>.nx env h2):=q
      cases hi:h2[i]? with
      | none=>rw [hi] at q;exact False.elim q
      | some ob =>
        rw [hi] at q
        cases ob with
        | ins c fs =>
          have q:PostS X.K W E ρ1 H1 (SR.ofR env (if cs.contains c=true∧fs.length<1000 then .ok () (h2.set i (.ins c (putN k d fs))) else .bad) fun _ h2=>.nx env h2):=q
          by_cases hc:cs.contains c=true∧fs.length<1000
          · rw [if_pos hc] at q
            obtain ⟨a,ha,C,dx,vs,k1,k2,k3,k4⟩:=r2.obj i _ hi
            obtain ⟨a',ha',rfl⟩:=hvx
            rw [ha] at ha'
            cases ha'
            have na:=hna c C hc.1 k1
            have stp:Step ρ2 H2 ρ2 (upd H2 a (.ins C dx (L2.putF (nmOf k) v vs))):=Step.turn k3 rfl (List.mem_of_getElem? ha)
            refine ⟨a,C,dx,vs,rfl,k3,k2,na,by rw [k4.len];exact hc.2,?_⟩
            have rf:=k4.put hk na (hv.mono e2 _ _)
            exact q ρ2 _ σ (e2.trans stp) (r2.setO hi rfl rfl ha k3 rfl ⟨C,dx,_,k1,k2,qAA,rf.mono stp _ _⟩) ((s.mono e1).mono (e2.trans stp))
          · rw [if_neg hc] at q;exact False.elim q
        | _=>exact (show False from q).elim
    | _=>exact (show False from q).elim
  | exc c h2 =>
    rw [z] at q
    exact fun ρ' H' e' r'=>q ρ' H' σ e' r' ((s.mono e1).mono e')
  | bad=>rw [z] at q;exact q
end
end Fy
set_option Elab.async false
set_option linter.all false
set_option maxRecDepth 100000
set_option maxHeartbeats 4000000
namespace Fy
open PySem PySem.Spec PySem.Calls PyProof.Rows
open L2 (V Hp HO VK XK TE TT TA TS TI Cx Inv RelV Vals SqL SqT Rd upd qAA qAB PE PT PA PS PSs EP TP SP PI PG PIE Turn FpOk Ends HOk frs thn OpR CallR)
section
variable {X:Cx} {F:Nat→List D→M D} {B:Nat} {W:WX} {ex:Nat→Option Addr} {k:Nat}
noncomputable def MtOk (X:Cx) (F:Nat→List D→M D) (k:Nat) (ex:Nat→Option Addr) (m:Str) (tb:List (Nat × Nat)):Prop :=
 ∀ cc fi C,tbN tb cc=some fi→ClsAt X.K cc C→L2.Cls X.K C∧∃ f fd ps,L2.Meth X.K C m f∧L2.Binds X.K fd ps []∧L2.FnOk X.prog X.w X.K X.mg X.base (CXD X.prog X.w ex) k f fd ps (spD X.K (F fi))
noncomputable def mQ (X:Cx) (F:Nat→List D→M D) (W:WX) (σ:L2.St) (env:Env) (mk:Nat) (tb:List (Nat × Nat)) (cl:CL) (Q:VK):VK:=fun x H1 =>
 ∃ ρ h d,RepS X.K ρ H1 env σ∧RepH X.K ρ h H1∧RepV X.K ρ H1 d x∧PostV X.K (W.at σ) Q ρ H1 (((mclsD mk d).bind fun c=>match tbN tb c with | some f=>(denL F cl env).bind fun xs=>F f (d::xs) | none=>M.bad) h)
theorem mQ_of {mk:Nat} {tb:List (Nat × Nat)} {cl:CL} {ca:CE} {ρ:List Addr} {env:Env} {h:AH} {σ:L2.St} {H:Hp} {Q:VK} (st:RepS X.K ρ H env σ) (p:PostV X.K (W.at σ) Q ρ H (den F (.meth mk tb ca cl) env h)) :
    PostV X.K (W.at σ) (mQ X F W σ env mk tb cl Q) ρ H (den F ca env h):=by
  rw [den] at p
  exact Post.bind p fun ρ1 h1 d H1 e1 r1 q v hv=>⟨ρ1,h1,d,st.mono e1,r1,hv,q⟩
theorem mQ_go {mk:Nat} {tb:List (Nat × Nat)} {cl:CL} {env:Env} {σ:L2.St} {H1:Hp} {Q:VK} {x:V} {m:Str} (hm:MtOk X F k ex m tb) (hn:m=nmOf mk) (hb:mk<256 ^ 60) (q:mQ X F W σ env mk tb cl Q x H1) :
    ∃ a C dx vs f fd ps ρ h d,x=.ref a∧H1 a=some (.ins C dx vs)∧vs.lookup m=none∧L2.Cls X.K C∧L2.Meth X.K C m f∧L2.Binds X.K fd ps []∧RepS X.K ρ H1 env σ∧RepH X.K ρ h H1∧RepV X.K ρ H1 d x ∧
      ∃ fi,L2.FnOk X.prog X.w X.K X.mg X.base (CXD X.prog X.w ex) k f fd ps (spD X.K (F fi))∧PostV X.K (W.at σ) Q ρ H1 ((denL F cl env).bind (fun xs=>F fi (d::xs)) h):=by
  obtain ⟨ρ,h,d,st,r,hd,p⟩:=q
  cases d with
  | ref i =>
    have p:PostV X.K (W.at σ) Q ρ H1 ((match h[i]? with | some (.ins c fs)=>if (getN mk fs).isNone then R.ok c h else .bad | _=>.bad).bind fun c g=>(match tbN tb c with | some f=>(denL F cl env).bind fun xs=>F f (.ref i::xs) | none=>M.bad) g):=p
    cases hi:h[i]? with
    | none=>rw [hi] at p;exact False.elim p
    | some ob =>
      rw [hi] at p
      cases ob with
      | ins c fs =>
        cases g:getN mk fs with
        | some _=>rw [show (match some (O.ins c fs) with | some (.ins c fs)=>if (getN mk fs).isNone then R.ok c h else .bad | _=>.bad)=(if (getN mk fs).isNone then R.ok c h else .bad) from rfl,g] at p;exact False.elim p
        | none =>
          rw [show (match some (O.ins c fs) with | some (.ins c fs)=>if (getN mk fs).isNone then R.ok c h else .bad | _=>.bad)=(if (getN mk fs).isNone then R.ok c h else .bad) from rfl,g] at p
          have p:PostV X.K (W.at σ) Q ρ H1 ((match tbN tb c with | some f=>(denL F cl env).bind fun xs=>F f (.ref i::xs) | none=>M.bad) h):=p
          obtain ⟨a,ha,C,dx,vs,k1,k2,k3,k4⟩:=r.obj i _ hi
          obtain ⟨a',ha',rfl⟩:=id hd
          rw [ha] at ha'
          cases ha'
          cases ht:tbN tb c with
          | none=>rw [ht] at p;exact False.elim p
          | some fi =>
            rw [ht] at p
            obtain ⟨_,f,fd,ps,m1,m2,m3⟩:=hm c fi C ht k1
            refine ⟨a,C,dx,vs,f,fd,ps,ρ,h,.ref i,rfl,k3,?_,k2,m1,m2,st,r,hd,fi,m3,p⟩
            rw [hn]
            exact k4.none hb g
      | _=>exact (show False from p).elim
  | _=>exact (show False from p).elim
theorem qLF {fi:Nat} {d:D} {ρ1:List Addr} {h1:AH} {H1:Hp} {env:Env} {σ:L2.St} {Q:VK} {cl:CL} {x:V} (hd:RepV X.K ρ1 H1 d x) (p:PostV X.K (W.at σ) Q ρ1 H1 ((denL F cl env).bind (fun xs=>F fi (d::xs)) h1)) :
    Post X.K (W.at σ) (fun ρ' H' ds=>∀ vs,RepL X.K ρ' H' ds vs→spD X.K (F fi) (x::vs) H' Q fun _ co H'=>∃ c,co=some c∧W c σ H') ρ1 H1 (denL F cl env h1) :=
  Post.bind p fun ρ2 h2 ds H2 e2 r2 q vs hvs=>⟨ρ2,h2,d::ds,r2,⟨x,vs,rfl,hd.mono e2 _ _,hvs⟩,by
    cases z:F fi (d::ds) h2 with
    | ok a g=>rw [z] at q;exact q
    | exc c g=>rw [z] at q;exact fun ρ' H' e' r' _=>⟨c,rfl,q ρ' H' e' r'⟩
    | bad=>rw [z] at q;exact q⟩
theorem qJk {o:Expr} {m:Str} {apos pos:Pos} {args:List Expr} {env:PySem.Env} (hbase:attributeBase o m env (eval o env)=eval o env) (hline:(apos.endLine == pos.line)=true)
    (hfew:methodCallForm (args.length+([]:List Keyword).length) (backTo pos (starEach args env)) (backToKw pos (keywordEach [] env))=true) :
    eval (.Call (.Attribute o m apos) args [] pos) env=(do
      let ov ← eval o env
      standAt apos.atName
      let (f,first) ← holding [ov] (getMethod ov m (do return (← importBound o env).getD true))
      callWith pos f first (backTo pos (starEach args env)) (backToKw pos (keywordEach [] env))):=by
  rw [arm_eval_Call,hbase]
  unfold methodCall
  rw [hfew]
  unfold calleeOf methodCallPos
  simp only [hline,Bool.not_true,Bool.false_or,if_true]
  rfl
theorem qPZ {o e:Expr} {es:List Expr} {ca:CE} {cl:CL} {mk:Nat} {tb:List (Nat × Nat)} {m:Str} {apos pos:Pos} (hm:MtOk X F k ex m tb) (hn:m=nmOf mk) (hb:mk<256 ^ 60) (hr:L2.Room k X.A)
    (hxc:∀ pins σ H s0 e s',Inv X pins σ H s0→CXD X.prog X.w ex X.stack H s0 (fun _ co H'=>∃ c,co=some c∧W c σ H') e s'→X.xe e s')
    (ho:PE X o (tD X.K W (den F ca))) (ha:PA X (e::es) (tDL X.K W (denL F cl))) (hbase:attributeBase o m X.env (eval o X.env)=eval o X.env) (hline:(apos.endLine == pos.line)=true)
    (hfew:methodCallForm ((e::es).length+([]:List Keyword).length) (backTo pos (starEach (e::es) X.env)) (backToKw pos (keywordEach [] X.env))=true)
    (hst:starEach (e::es) X.env=(false,eval e X.env)::starEach es X.env) (hpl:(backTo pos (starEach es X.env)).any (·.1)=false) :
    PE X (.Call (.Attribute o m apos) (e::es) [] pos) (tD X.K W (den F (.meth mk tb ca cl))):=by
  intro pins s σ H Q I t
  obtain ⟨ρ,env,h,st,r,p⟩:=t
  refine PySem.W.methodCall_KW (thn (ho pins s σ H (mQ X F W σ env mk tb cl Q) I ⟨ρ,env,h,st,r,mQ_of st p⟩) fun u s1 z=>?_) (qJk hbase hline hfew)
  obtain ⟨x,H1,I1,rx,q⟩:=z
  obtain ⟨a,C,dx,vs,f,fd,ps,ρ1,h1,d,rfl,hH,hl,hc,hmt,hbi,st1,r1,hd,fi,FO,p1⟩:=mQ_go hm hn hb q
  obtain rfl:u=Value.ref a:=rx
  refine L2.getmeth_ok I1 hH hc hmt hl ?_
  refine PySem.W.callWith_K (first:=[.ref a]) (h₀:=X.base) I.ok.mod.kin hmt.kp (thn (ha pos pins s1 σ H1 _ I1 ⟨ρ1,env,h1,st1,r1,qLF hd p1⟩) fun us s2 ⟨vs2,H2,I2,r2,q2⟩=>⟨I2.kIn,?_⟩) hst hpl
  exact qEu (us:=.ref a::us) (vs:=.ref a::vs2) FO hr hbi (fun e s' z=>hxc pins σ H2 s2 e s' I2 z) I2 (.cons rfl r2) q2
theorem qNH {o:Expr} {ca:CE} {mk:Nat} {tb:List (Nat × Nat)} {m:Str} {apos pos:Pos} (hm:MtOk X F k ex m tb) (hn:m=nmOf mk) (hb:mk<256 ^ 60) (hr:L2.Room k X.A)
    (hxc:∀ pins σ H s0 e s',Inv X pins σ H s0→CXD X.prog X.w ex X.stack H s0 (fun _ co H'=>∃ c,co=some c∧W c σ H') e s'→X.xe e s')
    (ho:PE X o (tD X.K W (den F ca))) (hbase:attributeBase o m X.env (eval o X.env)=eval o X.env) (hline:(apos.endLine == pos.line)=true):PE X (.Call (.Attribute o m apos) [] [] pos) (tD X.K W (den F (.meth mk tb ca .nil))):=by
  intro pins s σ H Q I t
  obtain ⟨ρ,env,h,st,r,p⟩:=t
  refine PySem.W.methodCall_KW (thn (ho pins s σ H (mQ X F W σ env mk tb .nil Q) I ⟨ρ,env,h,st,r,mQ_of st p⟩) fun u s1 z=>?_) (qJk hbase hline rfl)
  obtain ⟨x,H1,I1,rx,q⟩:=z
  obtain ⟨a,C,dx,vs,f,fd,ps,ρ1,h1,d,rfl,hH,hl,hc,hmt,hbi,st1,r1,hd,fi,FO,p1⟩:=mQ_go hm hn hb q
  obtain rfl:u=Value.ref a:=rx
  refine L2.getmeth_ok I1 hH hc hmt hl ?_
  have q2:=Post.ret (a:=([]:List D)) (h:=h1) (qLF (cl:=.nil) hd p1) r1 [] rfl
  exact PySem.W.callWith_K0 (first:=[.ref a]) I1.kIn hmt.kp (qEu (us:=[.ref a]) (vs:=[.ref a]) FO hr hbi (fun e s' z=>hxc pins σ H1 s1 e s' I1 z) I1 (.cons rfl .nil) q2)
theorem qFe {pins:List (Addr × Obj)} {σ:L2.St} {H:Hp} {s:Shared} {Q:VK} {us:List Value} {vs:List V} {C f:Addr} {fd:FuncData} {ps:List Str} {sp:L2.Sp} {E:XK} (M:L2.Mk X.K C f) (F:L2.FnOk X.prog X.w X.K X.mg X.base (CXD X.prog X.w ex) k f fd ps sp) (hr:L2.Room (k+1) X.A) {ds:List Value} {dvs:List V} (hb:L2.Binds X.K fd ps ds) (hd:Vals dvs ds)
    (hx:∀ pins H s e s',Inv X pins σ H s→CXD X.prog X.w ex X.stack H s E e s'→X.xe e s') (I:Inv X pins σ H s) (r:Vals vs us)
    (h:∀ x dx,H x=none→H dx=none→dx≠x→sp (.ref x::(vs++dvs)) (upd (upd H dx (.own x)) x (.ins C dx [])) (fun v H2=>v=.non∧Q (.ref x) H2) E) :
    wpAny (model X.prog X.w) X.A (call (.ref C) us) (EP X pins σ Q) X.xe s:=by
  have hq:=h (s.heap.objs.size+1) s.heap.objs.size (I.hok.fresh (Nat.le_succ _)) (I.hok.fresh (Nat.le_refl _)) (Nat.ne_of_lt (Nat.lt_succ_self _))
  have I2:=L2.Inv.made (C:=C) I
  have r2:Vals (V.ref (s.heap.objs.size+1)::(vs++dvs)) (Value.ref (s.heap.objs.size+1)::(us++ds)):=.cons rfl (r.append hd)
  have hl:(Value.ref (s.heap.objs.size+1)::us++ds).length=ps.length:=by
    have e:=r2.length
    rw [F.len _ _ _ _ hq] at e
    exact e.symm
  refine wpAny_call (L2.make_map (f:=f) I.kIn M.makes M.init (beq_iff_eq.mp M.fn) (codeAny_mono (F.run _ X.stack _ _ ⟨Value.ref (s.heap.objs.size+1)::us,[]⟩ (Value.ref (s.heap.objs.size+1)::(us++ds)) _ _ E (hr.make C us [])
    (I2.env0.make C us []) (hb _ (Value.ref (s.heap.objs.size+1)::us) I2.kIn hl) r2 hq) fun r s' hq'=>?_))
  cases r with
  | error e=>exact hx pins _ _ e s' I2 hq'
  | ok fl =>
    cases fl with
    | ret u =>
      obtain ⟨v,H',I3,rv,ev,q3⟩:=I2.after hq'
      subst ev
      exact ⟨rv,⟨V.ref (s.heap.objs.size+1),H',I3,rfl,q3⟩⟩
    | next=>exact False.elim hq'
    | brk=>exact False.elim hq'
    | cont=>exact False.elim hq'
theorem qFl {c fi:Nat} {C:Addr} {ρ1:List Addr} {h1:AH} {H1:Hp} {Q:VK} {ds:List D} {vs:List V} {w:W1} (hc:ClsAt X.K c C) (hcl:L2.Cls X.K C) (r:RepH X.K ρ1 h1 H1) (hl:RepL X.K ρ1 H1 ds vs)
    (p:PostV X.K w Q ρ1 H1 (makeD F c fi ds h1)):∀ x dx,H1 x=none→H1 dx=none→dx≠x →
    spD X.K (F fi) (.ref x::(vs++[])) (upd (upd H1 dx (.own x)) x (.ins C dx [])) (fun v H2=>v=.non∧Q (.ref x) H2) fun _ co H'=>∃ c,co=some c∧w c H':=by
  intro x dx hx hdx ne
  rw [List.append_nil]
  have hx':upd H1 dx (.own x) x=none:=by rw [qAB (Ne.symm ne)];exact hx
  have s1:Step ρ1 H1 ρ1 (upd H1 dx (.own x)):=Step.fresh hdx
  have s2:Step ρ1 (upd H1 dx (.own x)) (ρ1++[x]) (upd (upd H1 dx (.own x)) x (.ins C dx [])):=Step.new1 hx'
  have r2:RepH X.K (ρ1++[x]) (h1++[.ins c []]) (upd (upd H1 dx (.own x)) x (.ins C dx [])):=(r.fresh hdx).newO hx' ⟨C,dx,[],hc,hcl,qAA,rfl⟩
  have hi:(ρ1++[x])[h1.length]?=some x:=by rw [← r.len,List.getElem?_append_right (Nat.le_refl _)];simp
  refine ⟨ρ1++[x],h1++[.ins c []],.ref h1.length::ds,r2,⟨.ref x,vs,rfl,⟨x,hi,rfl⟩,hl.mono (s1.trans s2) _ _⟩,?_⟩
  have p:PostV X.K w Q ρ1 H1 ((F fi (.ref h1.length::ds) (h1++[.ins c []])).bind fun d h'=>match d with | .non=>.ok (.ref h1.length) h' | _=>.bad):=p
  cases z:F fi (.ref h1.length::ds) (h1++[.ins c []]) with
  | ok d g =>
    rw [z] at p
    cases d with
    | non =>
      intro ρ' H' e' r' v hv
      refine ⟨hv,?_⟩
      have e2:=(s1.trans s2).trans e'
      exact p ρ' H' e2 r' (.ref x) ⟨x,qCe e'.pre hi,rfl⟩
    | _=>exact (show False from p).elim
  | exc cc g =>
    rw [z] at p
    exact fun ρ' H' e' r' _=>⟨cc,rfl,p ρ' H' ((s1.trans s2).trans e') r'⟩
  | bad=>rw [z] at p;exact p
theorem qPa {y:Str} {e:Expr} {es:List Expr} {cl:CL} {c fi:Nat} {C f:Addr} {fd:FuncData} {ps:List Str} {p1 pos:Pos} (hg:L2.Gl X y) (hdb:(y == ("__debug__":Str))=false) (hmg:X.mg y=some (.ref C)) (hc:ClsAt X.K c C) (hcl:L2.Cls X.K C) (M:L2.Mk X.K C f)
    (hb:L2.Binds X.K fd ps []) (FO:L2.FnOk X.prog X.w X.K X.mg X.base (CXD X.prog X.w ex) k f fd ps (spD X.K (F fi))) (hr:L2.Room (k+1) X.A)
    (hxc:∀ pins σ H s0 e s',Inv X pins σ H s0→CXD X.prog X.w ex X.stack H s0 (fun _ co H'=>∃ c,co=some c∧W c σ H') e s'→X.xe e s')
    (ha:PA X (e::es) (tDL X.K W (denL F cl))) (hst:starEach (e::es) X.env=(false,eval e X.env)::starEach es X.env) (hpl:(backTo pos (starEach es X.env)).any (·.1)=false) :
    PE X (.Call (.Name y p1) (e::es) [] pos) (tD X.K W (den F (.make c fi cl))):=by
  intro pins s σ H Q I t
  obtain ⟨ρ,env,h,st,r,p⟩:=t
  rw [den] at p
  refine wpAny_Call_Name_kw (L2.ld_glob I hg hmg ?_ hdb)
  refine PySem.W.callWith_K (h₀:=X.base) I.ok.mod.kin M.kp (thn (ha pos pins s σ H (fun vs H1=>∀ x dx,H1 x=none→H1 dx=none→dx≠x→spD X.K (F fi) (.ref x::(vs++[])) (upd (upd H1 dx (.own x)) x (.ins C dx [])) (fun v H2=>v=.non∧Q (.ref x) H2) fun _ co H'=>∃ c,co=some c∧W c σ H') I
    ⟨ρ,env,h,st,r,Post.bind p fun ρ1 h1 ds H1 e1 r1 q vs hvs=>qFl hc hcl r1 hvs q⟩) fun us s1 ⟨vs,H1,I1,rv,q⟩=>⟨I1.kIn,?_⟩) hst hpl
  exact qFe M FO hr hb .nil (fun pins H s e s' I z=>hxc pins σ H s e s' I z) I1 rv q
theorem qNI {y:Str} {c fi:Nat} {C f:Addr} {fd:FuncData} {ps:List Str} {p1 pos:Pos} (hg:L2.Gl X y) (hdb:(y == ("__debug__":Str))=false) (hmg:X.mg y=some (.ref C)) (hc:ClsAt X.K c C) (hcl:L2.Cls X.K C) (M:L2.Mk X.K C f)
    (hb:L2.Binds X.K fd ps []) (FO:L2.FnOk X.prog X.w X.K X.mg X.base (CXD X.prog X.w ex) k f fd ps (spD X.K (F fi))) (hr:L2.Room (k+1) X.A)
    (hxc:∀ pins σ H s0 e s',Inv X pins σ H s0→CXD X.prog X.w ex X.stack H s0 (fun _ co H'=>∃ c,co=some c∧W c σ H') e s'→X.xe e s') :
    PE X (.Call (.Name y p1) [] [] pos) (tD X.K W (den F (.make c fi .nil))):=by
  intro pins s σ H Q I t
  obtain ⟨ρ,env,h,st,r,p⟩:=t
  rw [den,denL] at p
  refine wpAny_Call_Name_kw (L2.ld_glob I hg hmg ?_ hdb)
  exact PySem.W.callWith_K0 I.kIn M.kp (qFe (us:=[]) (vs:=[]) M FO hr hb .nil (fun pins H s e s' I z=>hxc pins σ H s e s' I z) I .nil (qFl (ds:=[]) hc hcl r rfl p))
end
end Fy
set_option Elab.async false
set_option linter.all false
set_option maxRecDepth 100000
set_option maxHeartbeats 4000000
namespace Fy
open PySem PySem.Spec PySem.Calls PyProof.Rows
open L2 (V Hp HO VK XK TE TT TA TS TI Cx Inv RelV Vals SqL SqT Rd upd qAA qAB PE PT PA PS PSs EP TP SP PI PG PIE Turn FpOk Ends HOk frs thn OpR CallR)
section
variable {X:Cx} {F:Nat→List D→M D} {B:Nat} {W:WX}
theorem RepL.set {K:PySem.W.Frag} {ρ:List Addr} {H:Hp} {d:D} {v:V} (hv:RepV K ρ H d v):∀ {ds:List D} {vs:List V} (n:Nat),RepL K ρ H ds vs→RepL K ρ H (ds.set n d) (vs.set n v)
 | [],_,n,h=>by cases h;simp [RepL]
 | x::ds,_,0,⟨u,r,h1,h2,h3⟩=>by subst h1;exact ⟨v,r,rfl,hv,h3⟩
 | x::ds,_,n+1,⟨u,r,h1,h2,h3⟩=>by subst h1;exact ⟨u,r.set n v,rfl,h2,RepL.set hv n h3⟩
noncomputable def rMin3:List V→Hp→VK→Prop:=fun xs H Q=>∃ i j k:Int,xs=[.int i,.int j,.int k]∧Q (.int (if k<(if j<i then j else i) then k else (if j<i then j else i))) H
theorem qHu (hc:X.calm=true):CallR X (.builtin "min") rMin3:=by
 rintro pins s σ H xs us Q I rv ⟨i,j,k,rfl,q⟩
 cases rv with
 | cons r1 rv =>
 cases rv with
 | cons r2 rv =>
 cases rv with
 | cons r3 rv =>
 cases rv with
 | nil =>
  obtain ⟨t1,rfl⟩:=r1
  obtain ⟨t2,rfl⟩:=r2
  obtain ⟨t3,rfl⟩:=r3
  refine min_three_ints (I.ok.hd hc) fun h' tk kk=>⟨_,H,I.kept kk,?_,q⟩
  by_cases h1:j<i
  ·rw [if_pos h1,if_pos h1]
   by_cases h2:k<j
   ·rw [if_pos h2,if_pos h2];exact ⟨_,rfl⟩
   ·rw [if_neg h2,if_neg h2];exact ⟨_,rfl⟩
  ·rw [if_neg h1,if_neg h1]
   by_cases h2:k<i
   ·rw [if_pos h2,if_pos h2];exact ⟨_,rfl⟩
   ·rw [if_neg h2,if_neg h2];exact ⟨_,rfl⟩
theorem qPY {ca cb cc:CE} {e:Expr} (he:PE X e (L2.tCB rMin3 (L2.tCons (tD X.K W (den F ca)) (L2.tCons (tD X.K W (den F cb)) (L2.tCons (tD X.K W (den F cc)) L2.tNil))))):PE X e (tD X.K W (den F (.bi .min2 (.bi .min2 ca cb) cc))):=PE.imp he fun σ H Q t=>by
 obtain ⟨ρ,env,h,s,r,p⟩:=t
 rw [den,den,qAS] at p
 refine ⟨ρ,env,h,s,r,Post.bind p fun ρ1 h1 d1 H1 e1 r1 q v1 hv1=>?_⟩
 rw [qAS] at q
 refine ⟨ρ1,env,h1,s.mono e1,r1,Post.bind q fun ρ2 h2 d2 H2 e2 r2 q2 v2 hv2=>?_⟩
 cases d1 with
 | int i =>
  cases d2 with
  | int j =>
   have q2:PostV X.K (W.at σ) Q ρ2 H2 ((den F cc env).bind (fun z=>biD .min2 (.int (if j<i then j else i)) z) h2):=q2
   refine ⟨ρ2,env,h2,(s.mono e1).mono e2,r2,Post.bind q2 fun ρ3 h3 d3 H3 e3 r3 q3 v3 hv3=>?_⟩
   cases d3 with
   | int k =>
    cases hv1;cases hv2;cases hv3
    exact ⟨i,j,k,rfl,PostV.now (h:=h3) q3 r3 rfl⟩
   | _=>exact (show False from q3).elim
  | _=>exact (show False from q2).elim
 | _=>exact (show False from q2).elim
end
end Fy
set_option Elab.async false
set_option linter.all false
set_option maxRecDepth 100000
set_option maxHeartbeats 4000000
namespace Fy
open PySem PySem.Spec PyProof.Rows
open L2 (V Hp HO VK TE TT TA TS TI Cx Inv RelV Vals SqL SqT Rd upd qAA qAB PE PT PA PS PSs EP OpR CallR IxR MtR SlR PO TO PI PG PIE Turn FpOk Ends)
inductive GK where
 | fn (i:Nat) | con (d:D) | blt | exc (c:Nat) | cls (c f:Nat)
structure Cc where
 N:List Str
 sc:Scope
 G:List (Str × GK)
 xs:List (Nat × List Nat)
 calm:Bool
 rs:Bool
 M:List (Str × Nat × List (Nat × Nat))
 A:List (Str × Nat × List Nat)
noncomputable def Cc.slot (c:Cc) (x:Str):Option Nat:=match c.sc.names.lookup x with
 | some .local=>if x == "__debug__" || x == "__classdict__" then none else c.N.idxOf? x
 | some .cell=>if x == "__debug__" || x == "__classdict__" then none else c.N.idxOf? x
 | some .free=>if x == "__debug__" || x == "__classdict__" then none else c.N.idxOf? x
 | _=>none
noncomputable def Cc.own (c:Cc) (x:Str):Option Nat:=match c.sc.names.lookup x with
 | some .local=>c.N.idxOf? x
 | some .cell=>c.N.idxOf? x
 | _=>none
noncomputable def Cc.glob (c:Cc) (x:Str):Option GK:=match c.sc.names.lookup x with
 | some .globalImplicit=>if x == "__debug__" || x == "__name__" then none else c.G.lookup x
 | _=>none
noncomputable def Cc.isB (c:Cc) (x:Str):Bool:=match c.glob x with
 | some .blt=>true
 | _=>false
noncomputable def Cc.loc (c:Cc) (x:Str):Option Nat:=match c.sc.names.lookup x with
 | some .local=>c.N.idxOf? x
 | _=>none
noncomputable def qLg:Const→Option CE
 | .none=>some (.lit .non)
 | .bool b=>some (.lit (.bl b))
 | .int i=>some (.lit (.int i))
 | .str s=>some (.lit (.str s.cps.toList))
 | _=>none
noncomputable def binO:Operator→Option Bi
 | .Add=>some .add | .Sub=>some .sub | .Mult=>some .mul | .FloorDiv=>some .fdiv | .Mod=>some .mod | .Pow=>some .pow
 | _=>none
noncomputable def cmpO:CmpOp→Option Bi
 | .Eq=>some .eq | .NotEq=>some .ne | .Lt=>some .lt | .LtE=>some .le | .Gt=>some .gt | .GtE=>some .ge
 | _=>none
noncomputable def bi1 (x:Str):Option Un:=if x="len" then some .len else if x="int" then some .int else if x="tuple" then some .tuple else none
noncomputable def bi1c (x:Str):Option Un:=none
noncomputable def bi2 (x:Str):Option Bi:=if x="min" then some .min2 else if x="max" then some .max2 else none
noncomputable def tyN (x:Str):Option Ty:=if x="int" then some .int else if x="str" then some .str else if x="bool" then some .bool else if x="list" then some .list else if x="tuple" then some .tuple else none
noncomputable def me1 (x:Str):Option Bi:=if x="append" then some .append else if x="join" then some .join else if x="pop" then some .pop else none
noncomputable def qAK:Expr→Bool
 | .Starred _ _=>false
 | _=>true
noncomputable def qIY:Expr→Bool
 | .Slice _ _ _ _=>false
 | _=>true
noncomputable def qB6:Expr→Bool
 | .Call (.Name _ _) [] [] _=>false
 | _=>true
noncomputable def qLK:Expr→Bool
 | .UnaryOp _ _ _=>false
 | .BoolOp _ _ _=>false
 | .IfExp _ _ _ _=>false
 | .Compare _ _ _ _=>false
 | _=>true
noncomputable def noSet:Expr→Bool
 | .Set _ _ _=>false
 | _=>true
noncomputable def qIy:Expr→Option Bool
 | .Constant (.bool b) _ _=>some b
 | _=>none
noncomputable def isNone:Expr→Bool
 | .Constant .none _ _=>true
 | _=>false
noncomputable def qLJ (scope sc:Scope):Scope:={ scope with names:=scope.names.map fun (n,k)=>if (k == .free&&sc.kind == .function&&sc.names.lookup n == some .cell) then (n,.cell) else (n,k) }
noncomputable def Cc.inner (c:Cc) (x:Str) (scope:Scope):Cc:=⟨maskN c.N x++[x],qLJ scope c.sc,c.G,c.xs,c.calm,false,c.M,c.A⟩
noncomputable def Cc.compOk (c:Cc) (x:Str) (scope:Scope):Bool :=
 decide (scope.kind=.function)&&scope.names.all (fun y=>decide (y.2≠.cell))&&scope.names.all (fun y=>decide (y.2=.local→scope.names.lookup y.1=some .local))&&decide (scope.names.lookup x=some .local)
 &&scope.names.all (fun y=>decide (y.2=.free→c.sc.names.lookup y.1=some .cell∨c.sc.names.lookup y.1=some .free))&&(decide (x≠noN)&&(decide (x∉c.N) || (decide (noN∉c.N)&&decide (scope.names.lookup noN=none))))&&scope.names.all (fun y=>decide (y.1≠x→y.2=.local→y.1∉c.N))
noncomputable def need {α:Type} (b:Bool) (x:α):Option α:=match b with
 | true=>some x
 | false=>none
theorem qAE {α:Type} {b:Bool} {x r:α} (h:need b x=some r):b=true∧x=r:=by
 cases b with
 | true=>exact ⟨rfl,Option.some.inj h⟩
 | false=>cases h
theorem bd_ok {α β:Type} {o:Option α} {f:α→Option β} {r:β} (h:o.bind f=some r):∃ a,o=some a∧f a=some r:=by
 cases o with
 | none=>cases h
 | some a=>exact ⟨a,rfl,h⟩
structure Rc where
 e:Cc→Expr→Option CE
 cmp:Cc→Expr→CmpOp→Expr→Option CE
 b:Cc→Str→List Expr→Option CE
 l:Cc→List Expr→Option CL
 o:Cc→Option Expr→Option CP
 t:Cc→Expr→Option CT
 tb:Cc→BoolOp→List Expr→Option CT
 i:Cc→Expr→Option CI
noncomputable def isSl:Expr→Option (Option Expr × Option Expr)
 | .Slice lo hi st _=>match st with
  | none=>some (lo,hi)
  | some _=>none
 | _=>none
theorem qMy {b:Expr} {q:Option Expr × Option Expr} (h:isSl b=some q):∃ p,b=.Slice q.1 q.2 none p:=by
 cases b with
 | Slice l u s p =>
  cases s with
  | none=>cases h;exact ⟨p,rfl⟩
  | some _=>cases h
 | _=>cases h
noncomputable def isOne:Expr→Bool
 | .Constant (.int i) _ _=>decide (i=1)
 | _=>false
noncomputable def isM1:Expr→Bool
 | .UnaryOp .USub a _=>isOne a
 | _=>false
noncomputable def isRev:Expr→Bool
 | .Slice none none (some e) _=>isM1 e
 | _=>false
noncomputable def isNm:Expr→Option Str
 | .Name x _=>some x
 | _=>none
theorem qGX {b:Expr} {s:Str} (h:isNm b=some s):∃ p,b=.Name s p:=by
 cases b with
 | Name x p=>cases h;exact ⟨p,rfl⟩
 | _=>cases h
structure Gn where
 x:Str
 p:Pos
 iter:Expr
 ifs:List Expr
noncomputable def isGen:List Comprehension→Option Gn
 | []=>none
 | g::r=>match r with
  | []=>match g.target with
   | .Name x p=>need (decide (g.is_async=0)) ⟨x,p,g.iter,g.ifs⟩
   | _=>none
  | _::_=>none
theorem qHE {gs:List Comprehension} {q:Gn} (h:isGen gs=some q):gs=[⟨.Name q.x q.p,q.iter,q.ifs,0⟩]:=by
 cases gs with
 | nil=>cases h
 | cons g r =>
  cases r with
  | cons _ _=>cases h
  | nil =>
   obtain ⟨t,it,f,a⟩:=g
   cases t with
   | Name x p =>
    obtain ⟨h1,rfl⟩:=qAE h
    have h2:a=0:=of_decide_eq_true h1
    subst h2
    rfl
   | _=>cases h
noncomputable def sName (c:Cc) (x:Str):Option CE:=match c.slot x with
 | some i=>some (.var i)
 | none=>match c.glob x with
  | some (.con d)=>some (.lit d)
  | _=>none
noncomputable def sUn (r:Rc) (c:Cc) (a:Expr):UnaryOp→Option CE
 | .Not=>(r.e c a).bind fun x=>some (.not x)
 | .USub=>(r.e c a).bind fun x=>some (.un .neg x)
 | _=>none
noncomputable def sBool (r:Rc) (c:Cc) (op:BoolOp) (pos:Pos):List Expr→Option CE
 | []=>none
 | a::es=>match es with
  | []=>r.e c a
  | b::es=>(r.e c a).bind fun x=>(r.e c (.BoolOp op (b::es) pos)).bind fun y=>some (match op with | .And=>.and x y | .Or=>.or x y)
noncomputable def qLG (r:Rc) (c:Cc) (a:Expr) (op op':CmpOp) (b d:Expr):Option CE :=
 (cmpO op).bind fun o=>(cmpO op').bind fun p=>(r.e c a).bind fun x=>(r.e c b).bind fun y=>(r.e c d).bind fun z=>need (!lastMarks [op,op'] [b,d]) (.chain o p x y z)
noncomputable def qEt (r:Rc) (c:Cc) (a:Expr) (ops:List CmpOp) (cs:List Expr):Option CE:=match ops with
 | []=>none
 | op::ops=>match cs with
  | []=>none
  | b::cs=>match ops with
   | []=>match cs with
    | []=>r.cmp c a op b
    | _::_=>none
   | op'::ops=>match ops with
    | _::_=>none
    | []=>match cs with
     | []=>none
     | d::cs=>match cs with
      | []=>qLG r c a op op' b d
      | _::_=>none
noncomputable def sSub (r:Rc) (c:Cc) (a b:Expr):Option CE:=match isRev b with
 | true=>none
 | false=>match isSl b with
  | some q=>(r.e c a).bind fun x=>(r.o c q.1).bind fun l=>(r.o c q.2).bind fun u=>some (.sl x l u)
  | none=>(r.e c a).bind fun x=>(r.e c b).bind fun y=>need (qIY b) (.bi .ix x y)
noncomputable def qLH (r:Rc) (c:Cc) (x:Str) (es:List Expr):Option GK→Option CE
 | some (.fn i)=>match es with
  | []=>need c.calm (.call i .nil)
  | e::es=>(r.l c (e::es)).bind fun l=>need c.calm (.call i l)
 | some .blt=>r.b c x es
 | some (.cls k f)=>match es with
  | []=>need c.calm (.make k f .nil)
  | e::es=>(r.l c (e::es)).bind fun l=>need c.calm (.make k f l)
 | _=>none
noncomputable def sMeth (r:Rc) (c:Cc) (m:Str) (ok:Bool) (x:CE) (es:List Expr):Option (Nat × List (Nat × Nat))→Option CE
 | some q=>match es with
  | []=>need (c.calm&&ok) (.meth q.1 q.2 x .nil)
  | e::es=>(r.l c (e::es)).bind fun l=>need (c.calm&&ok&&decide (es.length<20)) (.meth q.1 q.2 x l)
 | none=>match es with
  | []=>none
  | b::es=>match es with
   | []=>(me1 m).bind fun o=>(r.e c b).bind fun y=>need (ok&&qAK b) (.me o x y)
   | d::es=>match es with
    | []=>match decide (m="setdefault") with
     | true=>(r.e c b).bind fun y=>(r.e c d).bind fun z=>need (ok&&qAK b&&qAK d) (.setd x y z)
     | false=>none
    | _::_=>none
noncomputable def sCall (r:Rc) (c:Cc) (f:Expr) (es:List Expr) (ks:List Keyword) (p:Pos):Option CE:=match ks with
 | _::_=>none
 | []=>match f with
  | .Name x _=>qLH r c x es (c.glob x)
  | .Attribute a m ap=>(r.e c a).bind fun x=>sMeth r c m (qB6 a&&(ap.endLine == p.line)) x es (c.M.lookup m)
  | _=>none
noncomputable def sComp (r:Rc) (c:Cc) (elt:Expr) (scope:Scope) (q:Gn):Option CE:=match q.ifs with
 | []=>(r.i c q.iter).bind fun it=>(r.e (c.inner q.x scope) elt).bind fun y=>need (c.calm&&c.compOk q.x scope) (.comp y it)
 | t::ts=>match ts with
  | []=>(r.i c q.iter).bind fun it=>(r.t (c.inner q.x scope) t).bind fun z=>(r.e (c.inner q.x scope) elt).bind fun y=>need (c.calm&&c.compOk q.x scope) (.compIf y z it)
  | _::_=>none
noncomputable def qFd (r:Rc) (c:Cc) (elt:Expr) (scope:Scope) (gens:List Comprehension):Option CE:=match isGen gens with
 | some q=>sComp r c elt scope q
 | none=>none
noncomputable def rdKey:Option Expr→Option Ky
 | none=>none
 | some e=>match e with
  | .Constant k _ _=>match k with
   | .str s=>some (.str s.cps.toList)
   | .int i=>some (.int i)
   | _=>none
  | _=>none
noncomputable def qIL:List (Option Expr)→Option (List Ky)
 | []=>some []
 | k::ks=>(rdKey k).bind fun x=>(qIL ks).bind fun xs=>some (x::xs)
noncomputable def qIK (r:Rc) (c:Cc):List Expr→Option CL
 | []=>some .nil
 | e::es=>(r.e c e).bind fun x=>(qIK r c es).bind fun l=>some (.cons x l)
noncomputable def sDisp (r:Rc) (c:Cc) (keys:List (Option Expr)) (values:List Expr):Option CE :=
 (qIL keys).bind fun ks=>(qIK r c values).bind fun l=>need (decide (keys.length=values.length)&&decide (keys.length≤15)) (.disp ks l)
noncomputable def eS (r:Rc) (c:Cc):Expr→Option CE
 | .Constant k _ _=>qLg k
 | .Name x _=>sName c x
 | .BinOp a op b _=>(binO op).bind fun o=>(r.e c a).bind fun x=>(r.e c b).bind fun y=>some (.bi o x y)
 | .UnaryOp op a _=>sUn r c a op
 | .BoolOp op es pos=>sBool r c op pos es
 | .IfExp t a b _=>(r.t c t).bind fun z=>(r.e c a).bind fun x=>(r.e c b).bind fun y=>some (.ite z x y)
 | .Compare a ops cs _=>qEt r c a ops cs
 | .Tuple es _ _=>(r.l c es).bind fun l=>some (.tup l)
 | .List es _=>(r.l c es).bind fun l=>some (.lst l)
 | .Subscript a b _=>sSub r c a b
 | .Dict keys values _=>sDisp r c keys values
 | .Call f es ks p=>sCall r c f es ks p
 | .Attribute a f _=>(c.A.lookup f).bind fun k=>(r.e c a).bind fun x=>need (qB6 a) (.un (.fld k.1) x)
 | .ListComp elt gens scope _=>qFd r c elt scope gens
 | _=>none
noncomputable def sIs (u:Un) (v:Bool→Un) (x:CE) (b:Expr):Option CE:=match isNone b with
 | true=>some (.un u x)
 | false=>(qIy b).bind fun k=>some (.un (v k) x)
noncomputable def sCmp (r:Rc) (c:Cc) (a:Expr) (op:CmpOp) (b:Expr):Option CE:=(cmpO op).bind fun o=>(r.e c a).bind fun x=>(r.e c b).bind fun y=>need (!behindInMarks op b) (.bi o x y)
noncomputable def cmpS (r:Rc) (c:Cc) (a:Expr) (op:CmpOp) (b:Expr):Option CE:=match op with
 | .Is=>(r.e c a).bind fun x=>sIs .isN .isB x b
 | .IsNot=>(r.e c a).bind fun x=>sIs .notN .nsB x b
 | op=>sCmp r c a op b
noncomputable def sIsi (r:Rc) (c:Cc) (a:Expr) (y:Str):Option CE:=(r.e c a).bind fun z=>match tyN y with
 | some t=>need (qAK a&&c.isB y) (.un (.isi t) z)
 | none=>none
noncomputable def sB1 (c:Cc) (x:Str) (a:Expr) (y:CE):Option CE:=match bi1 x with
 | some o=>need (qAK a) (.un o y)
 | none=>(bi1c x).bind fun o=>need (qAK a&&c.calm) (.un o y)
noncomputable def sB2 (r:Rc) (c:Cc) (x:Str) (a b:Expr):Option CE:=(bi2 x).bind fun o=>(r.e c a).bind fun u=>(r.e c b).bind fun v=>need (qAK a&&qAK b&&c.calm) (.bi o u v)
noncomputable def isRg:Expr→Option (List Expr)
 | .Call f es ks _=>match ks with
  | []=>match f with
   | .Name x _=>need (decide (x="range")) es
   | _=>none
  | _::_=>none
 | _=>none
theorem qMz {e:Expr} {es:List Expr} (h:isRg e=some es):∃ p q,e=.Call (.Name "range" p) es [] q:=by
 cases e with
 | Call f es ks q =>
  cases ks with
  | cons _ _=>cases h
  | nil =>
   cases f with
   | Name x p =>
    obtain ⟨h1,rfl⟩:=qAE h
    rw [of_decide_eq_true h1]
    exact ⟨p,q,rfl⟩
   | _=>cases h
 | _=>cases h
noncomputable def bS (r:Rc) (c:Cc) (x:Str):List Expr→Option CE
 | []=>none
 | a::es=>match es with
  | []=>(r.e c a).bind fun y=>sB1 c x a y
  | b::es=>match es with
   | []=>match decide (x="isinstance") with
    | true=>(isNm b).bind fun y=>sIsi r c a y
    | false=>sB2 r c x a b
   | d::es=>match es with
    | []=>(bi2 x).bind fun o=>(r.e c a).bind fun u=>(r.e c b).bind fun v=>(r.e c d).bind fun z=>need (decide (o=.min2)&&(qAK a&&qAK b&&qAK d&&c.calm)) (.bi .min2 (.bi .min2 u v) z)
    | _::_=>none
noncomputable def lS (r:Rc) (c:Cc):List Expr→Option CL
 | []=>some .nil
 | e::es=>(r.e c e).bind fun x=>(r.l c es).bind fun l=>need (qAK e) (.cons x l)
noncomputable def oS (r:Rc) (c:Cc):Option Expr→Option CP
 | none=>some .no
 | some e=>(r.e c e).bind fun x=>some (.at x)
noncomputable def sT (r:Rc) (c:Cc) (e:Expr):Option CT:=(r.e c e).bind fun x=>need (qLK e) (.val x)
noncomputable def tS (r:Rc) (c:Cc) (e:Expr):Option CT:=match e with
 | .UnaryOp op a _=>match op with
  | .Not=>(r.t c a).bind fun x=>some (.not x)
  | _=>none
 | .BoolOp op es _=>r.tb c op es
 | .Compare a ops cs _=>(qEt r c a ops cs).bind fun x=>some (.val x)
 | e=>sT r c e
noncomputable def tbS (r:Rc) (c:Cc) (op:BoolOp):List Expr→Option CT
 | []=>none
 | a::es=>match es with
  | []=>r.t c a
  | b::es=>(r.t c a).bind fun x=>(r.tb c op (b::es)).bind fun y=>some (match op with | .And=>.and x y | .Or=>.or x y)
noncomputable def sRg (r:Rc) (c:Cc):List Expr→Option CI
 | []=>none
 | a::es=>match es with
  | []=>(r.e c a).bind fun y=>need (qAK a&&c.isB "range") (.rng1 y)
  | b::es=>match es with
   | []=>(r.e c a).bind fun y=>(r.e c b).bind fun z=>need (qAK a&&qAK b&&c.isB "range") (.rng2 y z)
   | d::es=>match es with
    | []=>(r.e c a).bind fun y=>(r.e c b).bind fun z=>(r.e c d).bind fun u=>need (qAK a&&qAK b&&qAK d&&c.isB "range") (.rng3 y z u)
    | _::_=>none
noncomputable def iS (r:Rc) (c:Cc) (e:Expr):Option CI:=match isRg e with
 | some es=>sRg r c es
 | none=>(r.e c e).bind fun y=>need (noSet e) (.of y)
noncomputable def nextR (r:Rc):Rc:=⟨eS r,cmpS r,bS r,lS r,oS r,tS r,tbS r,iS r⟩
noncomputable def rcN:Nat→Rc
 | 0=>⟨fun _ _=>none,fun _ _ _ _=>none,fun _ _ _=>none,fun _ _=>none,fun _ _=>none,fun _ _=>none,fun _ _ _=>none,fun _ _=>none⟩
 | n+1=>nextR (rcN n)
noncomputable def qLX:Expr→Bool
 | .ListComp _ gs _ _=>match isGen gs with
  | some q=>decide (q.ifs.length≤1)
  | none=>false
 | _=>false
noncomputable def qG9:Expr→Bool
 | .ListComp _ _ _ _=>false
 | .SetComp _ _ _ _=>false
 | .DictComp _ _ _ _ _=>false
 | _=>true
noncomputable def Cc.still (c:Cc):Cc:={ c with rs:=false }
structure Rs where
 s:Cc→Stmt→Option CS
 ss:Cc→List Stmt→Option CS
 h:Cc→List ExceptHandler→Option CH
noncomputable def sSet (r:Rc) (c:Cc) (e:Expr):Expr→Option CS
 | .Name x _=>(c.own x).bind fun i=>(r.e c e).bind fun y=>need (qG9 e || qLX e) (.set (.nm i) y)
 | .Attribute o f _=>(c.A.lookup f).bind fun k=>(r.e c o).bind fun x=>(r.e c e).bind fun y=>need (qG9 e) (.setF x k.1 k.2 y)
 | _=>none
noncomputable def isTg (c:Cc):Expr→Option TG
 | .Name x _=>(c.own x).bind fun i=>some (.nm i)
 | .Tuple es _ _=>match es with
  | [a,b]=>(isNm a).bind fun x=>(isNm b).bind fun y=>(c.own x).bind fun i=>(c.own y).bind fun j=>some (.two i j)
  | _=>none
 | _=>none
noncomputable def isEn:Expr→Option Expr
 | .Call f es ks _=>match ks with
  | []=>match f with
   | .Name x _=>match es with
    | [a]=>need (decide (x="enumerate")) a
    | _=>none
   | _=>none
  | _::_=>none
 | _=>none
noncomputable def sEn (r:Rc) (q:Rs) (c:Cc) (tg e:Expr) (a:List Stmt):Option CS:=(isTg c tg).bind fun t=>match t with
 | .two i j=>(r.e c e).bind fun z=>(q.ss c.still a).bind fun y=>need (c.calm&&qAK e&&c.isB "enumerate") (.forE i j z y)
 | _=>none
noncomputable def stS (r:Rc) (q:Rs) (c:Cc):Stmt→Option CS
 | .Assign ts e _=>match ts with
  | [t]=>sSet r c e t
  | _=>none
 | .Expr e _=>(r.e c e).bind fun y=>need (qG9 e) (.exp y)
 | .Return v _=>match v with
  | some e=>(r.e c e).bind fun y=>some (.ret y)
  | none=>some .retN
 | .Pass _=>some .skip
 | .Break _=>some .brk
 | .Continue _=>some .cnt
 | .If t a b _=>(r.t c t).bind fun z=>(q.ss c a).bind fun x=>(q.ss c b).bind fun y=>some (.ite z x y)
 | .While t a els _=>match els with
  | []=>(r.t c.still t).bind fun z=>(q.ss c.still a).bind fun x=>some (.whil z x)
  | _::_=>none
 | .For tg it a els _=>match els with
  | []=>match isEn it with
   | some e=>sEn r q c tg e a
   | none=>(isTg c tg).bind fun t=>(r.i c it).bind fun z=>(q.ss c.still a).bind fun y=>need c.calm (.fori t z y)
  | _::_=>none
 | _=>none
noncomputable def ssS (q:Rs) (c:Cc):List Stmt→Option CS
 | []=>some .skip
 | s::r=>match r with
  | []=>some ((q.s c s).getD .opq)
  | t::r=>(q.ss c (t::r)).bind fun y=>some (.seq ((q.s c s).getD .opq) y)
noncomputable def hS (q:Rs) (c:Cc):List ExceptHandler→Option CH
 | _=>none
noncomputable def nextS (r:Rc) (q:Rs):Rs:=⟨stS r q,ssS q,hS q⟩
noncomputable def rsN:Nat→Rs
 | 0=>⟨fun _ _=>none,fun _ _=>none,fun _ _=>none⟩
 | n+1=>nextS (rcN n) (rsN n)
noncomputable def cSs (c:Cc) (n:Nat) (b:List Stmt):Option CS:=(rsN n).ss c b
end Fy
set_option Elab.async false
set_option linter.all false
set_option maxRecDepth 100000
set_option maxHeartbeats 4000000
namespace Fy
open PySem PySem.Spec PyProof.Rows
open L2 (V Hp HO VK TE TT TA TS TI Cx Inv RelV Vals SqL SqT Rd upd qAA qAB PE PT PA PS PSs EP OpR CallR IxR MtR SlR PO TO PI PG PIE Turn FpOk Ends)
noncomputable def GOk (X:Cx) (F:Nat→List D→M D) (k:Nat) (ex:Nat→Option Addr) (x:Str):GK→Prop
 | .fn i=>∃ f fd ps,X.mg x=some (.ref f)∧PySem.W.keepIn X.K (.ref f)=true∧L2.Binds X.K fd ps []∧L2.FnOk X.prog X.w X.K X.mg X.base (CXD X.prog X.w ex) k f fd ps (spD X.K (F i))
 | .con d=>∃ v u,X.mg x=some u∧RelV v u∧∀ ρ H,RepV X.K ρ H d v
 | .blt=>X.mg x=none
 | .exc c=>∃ C,X.mg x=some (.ref C)∧ex c=some C∧isXC X.K C=true
 | .cls c i=>∃ C f fd ps,X.mg x=some (.ref C)∧ClsAt X.K c C∧L2.Cls X.K C∧L2.Mk X.K C f∧L2.Binds X.K fd ps []∧L2.FnOk X.prog X.w X.K X.mg X.base (CXD X.prog X.w ex) k f fd ps (spD X.K (F i))
structure Body (X:Cx) (c:Cc) (F:Nat→List D→M D) (k:Nat) (ex:Nat→Option Addr) (W:WX):Prop where
 N:X.N=c.N
 nd:c.N.Nodup
 sc:X.env.scope=c.sc
 calm:c.calm=true→X.calm=true
 room:c.calm=true→L2.Room (k+1) X.A
 hu:X.A.units+64<cLine
 glob:∀ x g,c.G.lookup x=some g→GOk X F k ex x g
 xq:∀ i cs xl C j D,c.xs.lookup i=some cs→c.xs.lookup 1=some xl→ex i=some C→ClsAt X.K j D→xl.contains j=true→PySem.W.kitOne X.K (.ref D) (.ref C)=some (cs.contains j)
 xv:∀ cs xl j D,c.xs.lookup 0=some cs→c.xs.lookup 1=some xl→ClsAt X.K j D→xl.contains j=true→PySem.W.kitOne X.K (.ref D) (.type "ValueError")=some (cs.contains j)
 mt:∀ m mk tb,c.M.lookup m=some (mk,tb)→m=nmOf mk∧mk<256 ^ 60∧MtOk X F k ex m tb
 at':∀ f kk cs,c.A.lookup f=some (kk,cs)→f=nmOf kk∧kk<256 ^ 60∧∀ cc C,cs.contains cc=true→ClsAt X.K cc C→L2.NoAttr X.K C (nmOf kk)
 xg:∀ xl j D,c.xs.lookup 1=some xl→ClsAt X.K j D→xl.contains j=true→XGet X.K D
 xc:∀ pins σ H s0 e s',Inv X pins σ H s0→CXD X.prog X.w ex X.stack H s0 (fun _ co H'=>∃ c,co=some c∧W c σ H') e s'→X.xe e s'
structure BodyS (X:Cx) (c:Cc) (F:Nat→List D→M D) (k:Nat) (ex:Nat→Option Addr) (W:WX):Prop extends Body X c F k ex W where
 fn:∀ x,X.fn x=true
 stk:X.stack=X.env::X.outer∧X.env.frame=some X.env.locals
 noex:X.ex=[]
 xcl:∀ i C,ex i=some C→ClsAt X.K i C
 xr:c.rs=true→∀ pins σ H s a args h' i C,ex i=some C→Inv X pins σ H s→Heap.MadeExcOf s.heap h' a (.ref C) args→W i σ H→X.xe (.ref a) { s with heap:=h' }
 xm:∀ i cs C j D,c.xs.lookup i=some cs→ex i=some C→ex j=some D→PySem.W.exmOne X.K (.ref D) (.ref C)=some (cs.contains j)
theorem qGZ {l:List Str} {x:Str} {i:Nat} (h:l.idxOf? x=some i):l[i]?=some x:=by
 unfold List.idxOf? at h
 rw [List.findIdx?_eq_some_iff_getElem] at h
 obtain ⟨h1,h2,_⟩:=h
 rw [List.getElem?_eq_getElem h1]
 simpa using h2
theorem qAo {e:Expr} {es:List Expr} {env:PySem.Env} (h:qAK e=true):starEach (e::es) env=(false,eval e env)::starEach es env:=by
 cases e <;> first | rfl | cases h
theorem qJ2 {env:PySem.Env}:starEach [] env=[]:=rfl
theorem star1 {e:Expr} {env:PySem.Env} (h:qAK e=true):starEach [e] env=[(false,eval e env)]:=by rw [qAo h,qJ2]
theorem star2 {e e':Expr} {env:PySem.Env} (h:qAK e=true) (h':qAK e'=true):starEach [e,e'] env=[(false,eval e env),(false,eval e' env)]:=by rw [qAo h,star1 h']
theorem star3 {e e' e'':Expr} {env:PySem.Env} (h:qAK e=true) (h':qAK e'=true) (h'':qAK e''=true):starEach [e,e',e''] env=[(false,eval e env),(false,eval e' env),(false,eval e'' env)]:=by rw [qAo h,star2 h' h'']
noncomputable def stars:List Expr→Bool
 | []=>true
 | e::es=>qAK e&&stars es
theorem qDb {env:PySem.Env} {pos:Pos}:∀ {es:List Expr},stars es=true→(backTo pos (starEach es env)).any (·.1)=false
 | [],_=>rfl
 | e::es,h=>by
  have h:=Bool.and_eq_true_iff.mp h
  rw [qAo h.1]
  show (false || (backTo pos (starEach es env)).any (·.1))=false
  rw [qDb h.2]
  rfl
theorem qCm {o:Expr} {m:Str} {env:PySem.Env} {w:Sem Value} (h:qB6 o=true):attributeBase o m env w=w:=by
 cases o with
 | Call f es ks pos =>
  cases f with
  | Name id p =>
   cases es with
   | nil =>
    cases ks with
    | nil=>cases h
    | cons _ _=>rfl
   | cons _ _=>rfl
  | _=>rfl
 | _=>rfl
theorem qKd {b:Expr} (h:qIY b=true):L2.PlainIx b:=by
 intro o i
 cases b <;> first | rfl | cases h
section
variable {X:Cx} {c:Cc} {F:Nat→List D→M D} {k B:Nat} {ex:Nat→Option Addr} {W:WX}
theorem Body.vis (T:Body X c F k ex W) {x:Str} {i:Nat} (h:c.slot x=some i):X.N[i]?=some x∧L2.Vis X.env.scope x∧(x == ("__debug__":Str))=false∧(x == ("__classdict__":Str))=false:=by
 unfold Cc.slot at h
 rw [T.N]
 have key:∀ {kd:NameKind},c.sc.names.lookup x=some kd→(kd=.local∨kd=.cell∨kd=.free)→(if (x == ("__debug__":Str) || x == ("__classdict__":Str))=true then none else c.N.idxOf? x)=some i→c.N[i]?=some x∧L2.Vis X.env.scope x∧(x == ("__debug__":Str))=false∧(x == ("__classdict__":Str))=false:=by
  intro kd hk hd hi
  split at hi
  ·cases hi
  ·rename_i hn
   refine ⟨qGZ hi,?_,?_⟩
   ·unfold L2.Vis
    rw [T.sc,hk]
    rcases hd with rfl | rfl | rfl <;> simp
   ·simpa using hn
 split at h
 ·rename_i hk;exact key hk (.inl rfl) h
 ·rename_i hk;exact key hk (.inr (.inl rfl)) h
 ·rename_i hk;exact key hk (.inr (.inr rfl)) h
 ·cases h
theorem Body.loc (T:Body X c F k ex W) {x:Str} {i:Nat} (h:c.own x=some i):X.N[i]?=some x∧L2.Loc X.env.scope x:=by
 unfold Cc.own at h
 rw [T.N]
 split at h
 ·rename_i hk
  refine ⟨qGZ h,.inl ?_⟩
  rw [T.sc]
  exact hk
 ·rename_i hk
  refine ⟨qGZ h,.inr ?_⟩
  rw [T.sc]
  exact hk
 ·cases h
theorem Body.gl (T:Body X c F k ex W) {x:Str} {g:GK} (h:c.glob x=some g):L2.Gl X x∧(x == ("__debug__":Str))=false∧x≠"__name__"∧GOk X F k ex x g:=by
 unfold Cc.glob at h
 split at h
 ·rename_i hk
  split at h
  ·cases h
  ·rename_i hn
   refine ⟨?_,by revert hn;cases (x == ("__debug__":Str)) <;> simp,fun z=>hn (by simp [z]),T.glob x g h⟩
   show X.env.scope.names.lookup x=_
   rw [T.sc]
   exact hk
 ·cases h
theorem Body.nd' (T:Body X c F k ex W):X.N.Nodup:=by rw [T.N];exact T.nd
theorem qNU {op:Operator} {o:Bi} (h:binO op=some o):OpR X (binaryOp op) (rB X.K o):=by
 cases op <;> first | (cases h;first | exact qMG | exact qMC | exact qME | exact qJ9 | exact qMF | exact qMD) | cases h
theorem qCJ (T:Body X c F k ex W) {op:CmpOp} {o:Bi} (h:cmpO op=some o):isCmp o=true∧OpR X (compareOp op) (rB X.K o):=by
 cases op <;> first
  | (cases h;exact ⟨rfl,by first | exact qOa T.hu | exact qOV T.hu | exact qOW | exact qOX | exact qOY | exact qOZ⟩)
  | cases h
theorem qPh (T:Body X c F k ex W) {x:Str} {o:Un} {a:Expr} {ca:CE} {p pos:Pos} (h:bi1 x=some o) (hg:c.glob x=some .blt) (ha:PE X a (tD X.K W (den F ca))) (hs:qAK a=true):PE X (.Call (.Name x p) [a] [] pos) (tD X.K W (den F (.un o ca))):=by
 obtain ⟨g1,g2,g3,g4⟩:=T.gl hg
 have st:=star1 (env:=X.env) hs
 have go:∀ {id:String},CallR X (.builtin id) (rC X.K o)→bootBuiltins x=some (.builtin id)→PE X (.Call (.Name x p) [a] [] pos) (tD X.K W (den F (.un o ca))):=fun hc hv =>
  qGd (a:=a) (L2.pe_callB hc g1 g4 hv (L2.pa_cons ha L2.pa_nil (by rw [st];rfl)) g3 g2 (by rw [st];rfl)) fun x H Q z=>⟨x,rfl,z⟩
 have goT:∀ {id:String},CallR X (.type id) (rC X.K o)→bootBuiltins x=some (.type id)→PE X (.Call (.Name x p) [a] [] pos) (tD X.K W (den F (.un o ca))):=fun hc hv =>
  qGd (a:=a) (L2.pe_callTy hc g1 g4 hv (L2.pa_cons ha L2.pa_nil (by rw [st];rfl)) g3 g2 (by rw [st];rfl)) fun x H Q z=>⟨x,rfl,z⟩
 unfold bi1 at h
 split at h
 ·rename_i e;subst e;cases h;exact go qJh (by decide +kernel)
 split at h
 ·rename_i e;subst e;cases h;exact goT qJj (by decide +kernel)
 split at h
 ·rename_i e;subst e;cases h;exact goT qGg (by decide +kernel)
 ·cases h
theorem qNV (T:Body X c F k ex W) (hc:c.calm=true) {x:Str} {o:Un} {a:Expr} {ca:CE} {p pos:Pos} (h:bi1c x=some o) (hg:c.glob x=some .blt) (ha:PE X a (tD X.K W (den F ca))) (hs:qAK a=true):PE X (.Call (.Name x p) [a] [] pos) (tD X.K W (den F (.un o ca))):=by
 obtain ⟨g1,g2,g3,g4⟩:=T.gl hg
 have st:=star1 (env:=X.env) hs
 have go:∀ {id:String},CallR X (.builtin id) (rC X.K o)→bootBuiltins x=some (.builtin id)→PE X (.Call (.Name x p) [a] [] pos) (tD X.K W (den F (.un o ca))):=fun hc hv =>
  qGd (a:=a) (L2.pe_callB hc g1 g4 hv (L2.pa_cons ha L2.pa_nil (by rw [st];rfl)) g3 g2 (by rw [st];rfl)) fun x H Q z=>⟨x,rfl,z⟩
 unfold bi1c at h
 ·cases h
theorem qPg (T:Body X c F k ex W) (hc:c.calm=true) {x:Str} {o:Bi} {a b:Expr} {ca cb:CE} {p pos:Pos} (h:bi2 x=some o) (hg:c.glob x=some .blt) (ha:PE X a (tD X.K W (den F ca))) (hb:PE X b (tD X.K W (den F cb))) (hs:qAK a=true) (hs':qAK b=true):PE X (.Call (.Name x p) [a,b] [] pos) (tD X.K W (den F (.bi o ca cb))):=by
 obtain ⟨g1,g2,g3,g4⟩:=T.gl hg
 have st:=star2 (env:=X.env) hs hs'
 have st1:=star1 (env:=X.env) hs'
 have go:∀ {id:String},CallR X (.builtin id) (rC2 X.K o)→bootBuiltins x=some (.builtin id)→PE X (.Call (.Name x p) [a,b] [] pos) (tD X.K W (den F (.bi o ca cb))):=fun hc hv =>
  qNK (L2.pe_callB hc g1 g4 hv (L2.pa_cons ha (L2.pa_cons hb L2.pa_nil (by rw [st1];rfl)) (by rw [st,st1])) g3 g2 (by rw [st,st1]) (by rw [st1];rfl)) fun x y H Q z=>⟨x,y,rfl,z⟩
 unfold bi2 at h
 split at h
 ·rename_i e;subst e;cases h;exact go (qHv (T.calm hc)) (by decide +kernel)
 split at h
 ·rename_i e;subst e;cases h;exact go (qHw (T.calm hc)) (by decide +kernel)
 ·cases h
theorem qMb (T:Body X c F k ex W) (hc:c.calm=true) {x:Str} {a b d:Expr} {ca cb cd:CE} {p pos:Pos} (h:bi2 x=some .min2) (hg:c.glob x=some .blt) (ha:PE X a (tD X.K W (den F ca))) (hb:PE X b (tD X.K W (den F cb))) (hd:PE X d (tD X.K W (den F cd))) (hs:qAK a=true) (hs':qAK b=true) (hs'':qAK d=true):PE X (.Call (.Name x p) [a,b,d] [] pos) (tD X.K W (den F (.bi .min2 (.bi .min2 ca cb) cd))):=by
 obtain ⟨g1,g2,g3,g4⟩:=T.gl hg
 have st1:=star1 (env:=X.env) hs''
 have st2:starEach [b,d] X.env=[(false,eval b X.env),(false,eval d X.env)]:=star2 hs' hs''
 have st:starEach [a,b,d] X.env=(false,eval a X.env)::[(false,eval b X.env),(false,eval d X.env)]:=by rw [qAo hs,st2]
 unfold bi2 at h
 split at h
 ·rename_i e
  subst e
  exact qPY (L2.pe_callB (qHu (T.calm hc)) g1 g4 (by decide +kernel) (L2.pa_cons ha (L2.pa_cons hb (L2.pa_cons hd L2.pa_nil (by rw [st1];rfl)) (by rw [st2,st1])) (by rw [st,st2])) g3 g2 (by rw [st,st2]) (by rw [st2];rfl))
 ·split at h
  ·cases h
  ·cases h
theorem qPG (T:Body X c F k ex W) {x y:Str} {t:Ty} {a:Expr} {ca:CE} {p p2 pos:Pos} (hx:x="isinstance") (ht:tyN y=some t) (hg:c.glob x=some .blt) (hy:c.isB y=true) (ha:PE X a (tD X.K W (den F ca))) (hs:qAK a=true):PE X (.Call (.Name x p) [a,.Name y p2] [] pos) (tD X.K W (den F (.un (.isi t) ca))):=by
 obtain ⟨g1,g2,g3,g4⟩:=T.gl hg
 have hy':c.glob y=some .blt:=by
  unfold Cc.isB at hy
  split at hy
  ·assumption
  ·cases hy
 obtain ⟨k1,k2,k3,k4⟩:=T.gl hy'
 refine d_isi hx g1 g4 k1 k4 ?_ k3 k2 ha (star2 hs rfl)
 unfold tyN at ht
 split at ht
 ·rename_i e;subst e;cases ht;decide +kernel
 split at ht
 ·rename_i e;subst e;cases ht;decide +kernel
 split at ht
 ·rename_i e;subst e;cases ht;decide +kernel
 split at ht
 ·rename_i e;subst e;cases ht;decide +kernel
 split at ht
 ·rename_i e;subst e;cases ht;decide +kernel
 ·cases ht
theorem qOs (T:Body X c F k ex W) {m:Str} {o:Bi} {a b:Expr} {ca cb:CE} {ap p:Pos} (h:me1 m=some o) (ha:PE X a (tD X.K W (den F ca))) (hb:PE X b (tD X.K W (den F cb))) (hs:qAK b=true) (hsu:qB6 a=true) (hl:(ap.endLine == p.line)=true):PE X (.Call (.Attribute a m ap) [b] [] p) (tD X.K W (den F (.me o ca cb))):=by
 unfold me1 at h
 split at h
 ·rename_i e;cases h;exact qKw e ha hb (qCm hsu) hl (star1 hs)
 split at h
 ·rename_i e;cases h;exact qPb e ha hb (qCm hsu) hl (star1 hs)
 split at h
 ·rename_i e;cases h;exact d_pop e ha hb (qCm hsu) hl (star1 hs)
 ·cases h
theorem qKx {kc:Const} {ce:CE} {j:Nat} {pos:Pos} (h:qLg kc=some ce):PE X (.Constant kc j pos) (tD X.K W (den F ce)):=by
 cases kc with
 | none=>cases h;exact d_lit L2.pe_non fun _ _=>rfl
 | bool b=>cases h;exact d_lit L2.pe_bl fun _ _=>rfl
 | int i=>cases h;exact d_lit L2.pe_int fun _ _=>rfl
 | str s=>cases h;exact d_lit L2.pe_str fun _ _=>(show V.str s=V.str ⟨s.cps.toList.toArray⟩ by simp)
 | _=>cases h
theorem qNQ (T:Body X c F k ex W) (hc:c.calm=true) {x:Str} {i:Nat} {e:Expr} {es:List Expr} {cl:CL} {p pos:Pos} (h:c.glob x=some (.fn i)) (ha:PA X (e::es) (tDL X.K W (denL F cl))) (hs:stars (e::es)=true):PE X (.Call (.Name x p) (e::es) [] pos) (tD X.K W (den F (.call i cl))):=by
 obtain ⟨g1,g2,g3,f,fd,ps,hm,hk,hb,FO⟩:=T.gl h
 have hs':=Bool.and_eq_true_iff.mp hs
 intro pins s σ H Q I t
 obtain ⟨ρ,env,hh,st,r,pp⟩:=t
 rw [den] at pp
 refine wpAny_Call_Name_kw (L2.ld_glob I g1 hm ?_ g2)
 refine PySem.W.callWith_K (h₀:=X.base) I.ok.mod.kin hk (L2.thn (ha pos pins s σ H (fun vs H1=>spD X.K (F i) vs H1 Q fun _ co H'=>∃ c,co=some c∧W c σ H') I ⟨ρ,env,hh,st,r,Post.bind pp fun ρ1 h1 ds H1 e1 r1 q vs hvs=>?_⟩) fun us s1 z=>?_) (qAo hs'.1) (qDb hs'.2)
 ·exact ⟨ρ1,h1,ds,r1,hvs,by
   cases z:F i ds h1 with
   | ok a g=>rw [z] at q;exact q
   | exc c g=>rw [z] at q;exact fun ρ' H' e' r' _=>⟨c,rfl,q ρ' H' e' r'⟩
   | bad=>rw [z] at q;exact q⟩
 ·obtain ⟨vs,H1,I1,rv,q1⟩:=z
  exact ⟨I1.kIn,qEu FO ((T.room hc).mono (Nat.le_succ _)) hb (fun e s' x=>T.xc pins σ H1 s1 e s' I1 x) I1 rv q1⟩
theorem qK7 (T:Body X c F k ex W) (hc:c.calm=true) {x:Str} {i:Nat} {p pos:Pos} (h:c.glob x=some (.fn i)):PE X (.Call (.Name x p) [] [] pos) (tD X.K W (den F (.call i .nil))):=by
 obtain ⟨g1,g2,g3,f,fd,ps,hm,hk,hb,FO⟩:=T.gl h
 intro pins s σ H Q I t
 obtain ⟨ρ,env,hh,st,r,pp⟩:=t
 rw [den,denL] at pp
 refine wpAny_Call_Name_kw (L2.ld_glob I g1 hm ?_ g2)
 refine PySem.W.callWith_K0 I.kIn hk (qEu (us:=[]) (vs:=[]) (E:=fun _ co H'=>∃ c,co=some c∧W c σ H') FO ((T.room hc).mono (Nat.le_succ _)) hb (fun e s' x=>T.xc pins σ H s e s' I x) I .nil ⟨ρ,hh,[],r,rfl,?_⟩)
 have q:PostV X.K (W.at σ) Q ρ H (F i [] hh):=pp
 cases z:F i [] hh with
 | ok a g=>rw [z] at q;exact q
 | exc c g=>rw [z] at q;exact fun ρ' H' e' r' _=>⟨c,rfl,q ρ' H' e' r'⟩
 | bad=>rw [z] at q;exact q
theorem qMh (T:Body X c F k ex W) (hc:c.calm=true) {x:Str} {cc i:Nat} {e:Expr} {es:List Expr} {cl:CL} {p pos:Pos} (h:c.glob x=some (.cls cc i)) (ha:PA X (e::es) (tDL X.K W (denL F cl))) (hs:stars (e::es)=true):PE X (.Call (.Name x p) (e::es) [] pos) (tD X.K W (den F (.make cc i cl))):=by
 obtain ⟨g1,g2,g3,C,f,fd,ps,hm,h1,h2,h3,h4,h5⟩:=T.gl h
 have hs':=Bool.and_eq_true_iff.mp hs
 exact qPa g1 g2 hm h1 h2 h3 h4 h5 (T.room hc) T.xc ha (qAo hs'.1) (qDb hs'.2)
theorem qKS (T:Body X c F k ex W) (hc:c.calm=true) {x:Str} {cc i:Nat} {p pos:Pos} (h:c.glob x=some (.cls cc i)):PE X (.Call (.Name x p) [] [] pos) (tD X.K W (den F (.make cc i .nil))):=by
 obtain ⟨g1,g2,g3,C,f,fd,ps,hm,h1,h2,h3,h4,h5⟩:=T.gl h
 exact qNI g1 g2 hm h1 h2 h3 h4 h5 (T.room hc) T.xc
theorem qGy {env:PySem.Env} {pos:Pos}:∀ {es:List Expr},stars es=true→(backTo pos (starEach es env)).all (fun x=>!x.1)=true
 | [],_=>rfl
 | e::es,h=>by
  have h:=Bool.and_eq_true_iff.mp h
  rw [qAo h.1]
  show (!false&&(backTo pos (starEach es env)).all (fun x=>!x.1))=true
  rw [qGy h.2]
  rfl
theorem qMc (T:Body X c F k ex W) (hc:c.calm=true) {a e:Expr} {es:List Expr} {ca:CE} {cl:CL} {mk:Nat} {tb:List (Nat × Nat)} {m:Str} {ap pos:Pos} (h:c.M.lookup m=some (mk,tb)) (ho:PE X a (tD X.K W (den F ca))) (ha:PA X (e::es) (tDL X.K W (denL F cl))) (hs:stars (e::es)=true) (hsu:qB6 a=true) (hl:(ap.endLine == pos.line)=true) (hn:es.length<20) :
    PE X (.Call (.Attribute a m ap) (e::es) [] pos) (tD X.K W (den F (.meth mk tb ca cl))):=by
  obtain ⟨m1,m2,m3⟩:=T.mt m mk tb h
  have hs':=Bool.and_eq_true_iff.mp hs
  refine qPZ m3 m1 m2 ((T.room hc).mono (Nat.le_succ _)) T.xc ho ha (qCm hsu) hl ?_ (qAo hs'.1) (qDb hs'.2)
  unfold methodCallForm
  rw [qGy hs]
  show (true&&true&&decide ((e::es).length+0+0<30))=true
  simp only [List.length_cons,Bool.and_self,Bool.true_and,decide_eq_true_eq]
  omega
theorem qKM (T:Body X c F k ex W) (hc:c.calm=true) {a:Expr} {ca:CE} {mk:Nat} {tb:List (Nat × Nat)} {m:Str} {ap pos:Pos} (h:c.M.lookup m=some (mk,tb)) (ho:PE X a (tD X.K W (den F ca))) (hsu:qB6 a=true) (hl:(ap.endLine == pos.line)=true) :
    PE X (.Call (.Attribute a m ap) [] [] pos) (tD X.K W (den F (.meth mk tb ca .nil))):=by
  obtain ⟨m1,m2,m3⟩:=T.mt m mk tb h
  exact qNH m3 m1 m2 ((T.room hc).mono (Nat.le_succ _)) T.xc ho (qCm hsu) hl
theorem qFq {b:Expr} (h:isNone b=true):∃ j pos,b=.Constant .none j pos:=by
 unfold isNone at h
 split at h
 ·exact ⟨_,_,rfl⟩
 ·cases h
theorem qFr {b:Expr} {k:Bool} (h:qIy b=some k):∃ j pos,b=.Constant (.bool k) j pos:=by
 unfold qIy at h
 split at h
 ·cases h;exact ⟨_,_,rfl⟩
 ·cases h
theorem qIO {e:Expr} {env:PySem.Env} (h:qLK e=true) (whole:Sem Value):isTrue e env whole=(do let v ← whole;standAt e.pos;holding [v] (truthy v)):=by
 cases e <;> first | rfl | cases h
theorem qCD {e:Expr} {env:PySem.Env} (h:noSet e=true) (x:Value):foldedSetIterable e env x=pure x:=by
 cases e <;> first | rfl | cases h
theorem qCI (T:Body X c F k ex W) {x:Str} {scope:Scope} (h:c.compOk x scope=true):CompOk X x scope:=by
 unfold Cc.compOk at h
 simp only [Bool.and_eq_true,Bool.or_eq_true,decide_eq_true_eq,List.all_eq_true] at h
 obtain ⟨⟨⟨⟨⟨⟨h1,h2⟩,h3⟩,h4⟩,h5⟩,h6⟩,h7⟩:=h
 refine ⟨h1,h2,h3,h4,fun y hy hf=>?_,h6.1,fun z=>?_,fun y hne hy hm=>h7 _ (qA1 hy) hne rfl (by rw [← T.N];exact hm)⟩
 rotate_left
 ·rw [T.N] at z ⊢
  rcases h6.2 with w | w
  ·exact absurd z w
  ·exact w
 show X.env.scope.names.lookup y.1=_∨X.env.scope.names.lookup y.1=_
 rw [T.sc]
 exact h5 y hy hf
theorem qCU (T:Body X c F k ex W) {x:Str} {scope:Scope} (h:c.compOk x scope=true) (cl:List (Str × Addr)) (C:Addr) (s3:Shared) (H3:Hp) (fp:List Addr) (E:Value→Shared→Prop):Body (cxC X x scope cl C s3 H3 fp E) (c.inner x scope) F k ex WF:=by
 have K:=qCI T h
 refine ⟨?_,?_,?_,T.calm,T.room,T.hu,fun y g hg=>?_,T.xq,T.xv,T.mt,T.at',T.xg,fun pins σ H s0 e s' I x=>?_⟩
 ·show maskN X.N x++[x]=maskN c.N x++[x]
  rw [T.N]
 ·show (maskN c.N x++[x]).Nodup
  exact qIi T.nd K.new fun z=>by have:=(K.hole (by rw [T.N];exact z)).1;rw [T.N] at this;exact this
 ·show relabel scope X.env=qLJ scope c.sc
  rw [← T.sc]
  rfl
 ·have:=T.glob y g hg
  cases g <;> exact this
 ·obtain ⟨_,_,_,_,_,_,_,_,_,_,_,_,_,_,_,_,z⟩:=x
  exact False.elim z
structure AllOk (X:Cx) (c:Cc) (F:Nat→List D→M D) (W:WX) (r:Rc):Prop where
 e:∀ e ce,r.e c e=some ce→PE X e (tD X.K W (den F ce))
 cmp:∀ a op b ce pos,r.cmp c a op b=some ce→PE X (.Compare a [op] [b] pos) (tD X.K W (den F ce))∧PT X (.Compare a [op] [b] pos) (tDT X.K W (denT F (.val ce)))
 b:∀ x es ce p pos,c.glob x=some .blt→r.b c x es=some ce→PE X (.Call (.Name x p) es [] pos) (tD X.K W (den F ce))
 l:∀ es cl,r.l c es=some cl→PA X es (tDL X.K W (denL F cl))∧stars es=true
 o:∀ o cp,r.o c o=some cp→PO X o (tDP X.K W (denP F cp))
 t:∀ e ct,r.t c e=some ct→PT X e (tDT X.K W (denT F ct))
 tb:∀ op es ct pos,r.tb c op es=some ct→L2.PW X (.BoolOp op es pos) (tDT X.K W (denT F ct))
 i:∀ tg e ci,r.i c e=some ci→PI X tg e (tDI X.K W (denI F ci))∧noSet e=true
end
end Fy
set_option Elab.async false
set_option linter.all false
set_option maxRecDepth 100000
set_option maxHeartbeats 4000000
namespace Fy
open PySem PySem.Spec PyProof.Rows
open L2 (V Hp HO VK TE TT TA TS TI Cx Inv RelV Vals SqL SqT Rd upd qAA qAB PE PT PA PS PSs EP TP PI PG PIE Turn FpOk Ends HOk frs thn)
section
variable {X:Cx} {c:Cc} {F:Nat→List D→M D} {k:Nat} {W:WX}
end
end Fy
set_option Elab.async false
set_option linter.all false
set_option maxRecDepth 100000
set_option maxHeartbeats 4000000
namespace Fy
open PySem PySem.Spec PyProof.Rows
open L2 (V Hp HO VK TE TT TA TS TI Cx Inv RelV Vals SqL SqT Rd upd qAA qAB PE PT PA PS PSs EP OpR CallR IxR MtR SlR PO TO PI PG PIE Turn FpOk Ends)
section
variable {X:Cx} {c:Cc} {F:Nat→List D→M D} {k B:Nat} {ex:Nat→Option Addr} {W:WX}
theorem qMY (T:Body X c F k ex W) {x:Str} {pos:Pos} {ce:CE} (h:sName c x=some ce):PE X (.Name x pos) (tD X.K W (den F ce)):=by
 unfold sName at h
 cases q:c.slot x with
 | some i =>
  rw [q] at h
  cases h
  obtain ⟨h1,h2,h3,h4⟩:=T.vis q
  exact d_var (L2.pe_var h1 h2 h3 h4)
 | none =>
  rw [q] at h
  cases w:c.glob x with
  | none=>rw [w] at h;cases h
  | some g =>
   rw [w] at h
   cases g with
   | con d =>
    cases h
    obtain ⟨g1,g2,g3,v,u,hm,hr,hv⟩:=T.gl w
    exact d_lit (L2.pe_glob g1 hm hr g2) hv
   | _=>cases h
theorem un_ok {r:Rc} (A:AllOk X c F W r) {op:UnaryOp} {a:Expr} {pos:Pos} {ce:CE} (h:sUn r c a op=some ce):PE X (.UnaryOp op a pos) (tD X.K W (den F ce)):=by
 cases op with
 | Not=>obtain ⟨x,hx,h⟩:=bd_ok h;cases h;exact d_not (A.e a x hx)
 | USub=>obtain ⟨x,hx,h⟩:=bd_ok h;cases h;exact d_neg (A.e a x hx)
 | _=>cases h
theorem qNT {r:Rc} (A:AllOk X c F W r) {op:BoolOp} {es:List Expr} {pos:Pos} {ce:CE} (h:sBool r c op pos es=some ce):PE X (.BoolOp op es pos) (tD X.K W (den F ce)):=by
 cases es with
 | nil=>cases h
 | cons a es =>
  cases es with
  | nil=>exact L2.pe_one (A.e a ce h)
  | cons b es =>
   obtain ⟨x,hx,h⟩:=bd_ok h
   obtain ⟨y,hy,h⟩:=bd_ok h
   cases op with
   | And=>cases h;exact d_and (A.e a x hx) (A.e _ y hy)
   | Or=>cases h;exact d_or (A.e a x hx) (A.e _ y hy)
theorem qK1 (T:Body X c F k ex W) {r:Rc} (A:AllOk X c F W r) {a b d:Expr} {op op':CmpOp} {ce:CE} {pos:Pos} (h:qLG r c a op op' b d=some ce) :
    PE X (.Compare a [op,op'] [b,d] pos) (tD X.K W (den F ce))∧PT X (.Compare a [op,op'] [b,d] pos) (tDT X.K W (denT F (.val ce))):=by
  obtain ⟨o,ho,h⟩:=bd_ok h
  obtain ⟨p,hp,h⟩:=bd_ok h
  obtain ⟨x,hx,h⟩:=bd_ok h
  obtain ⟨y,hy,h⟩:=bd_ok h
  obtain ⟨z,hz,h⟩:=bd_ok h
  obtain ⟨hl,rfl⟩:=qAE h
  have hl:lastMarks [op,op'] [b,d]=false:=by simpa using hl
  exact ⟨qNJ (qCJ T ho).2 (qCJ T hp).2 (A.e a x hx) (A.e b y hy) (A.e d z hz) hl,qKu (qCJ T hp).1 (qCJ T ho).2 (qCJ T hp).2 (A.e _ x hx) (A.e _ y hy) (A.e _ z hz) hl⟩
theorem qEm (T:Body X c F k ex W) {r:Rc} (A:AllOk X c F W r) {a:Expr} {ops:List CmpOp} {cs:List Expr} {ce:CE} {pos:Pos} (h:qEt r c a ops cs=some ce) :
    PE X (.Compare a ops cs pos) (tD X.K W (den F ce))∧PT X (.Compare a ops cs pos) (tDT X.K W (denT F (.val ce))):=by
  cases ops with
  | nil=>cases h
  | cons op ops =>
    cases cs with
    | nil=>cases h
    | cons b cs =>
      cases ops with
      | nil =>
        cases cs with
        | nil=>exact A.cmp a op b ce pos h
        | cons _ _=>cases h
      | cons op' ops =>
        cases ops with
        | cons _ _=>cases h
        | nil =>
          cases cs with
          | nil=>cases h
          | cons d cs =>
            cases cs with
            | nil=>exact qK1 T A h
            | cons _ _=>cases h
theorem qN9 {r:Rc} (A:AllOk X c F W r) {a b:Expr} {pos:Pos} {ce:CE} (h:sSub r c a b=some ce):PE X (.Subscript a b pos) (tD X.K W (den F ce)):=by
 unfold sSub at h
 cases qr:isRev b with
 | true =>
  rw [qr] at h
  cases h
 | false =>
 rw [qr] at h
 cases q:isSl b with
 | some w =>
  rw [q] at h
  obtain ⟨p,rfl⟩:=qMy q
  obtain ⟨x,hx,h⟩:=bd_ok h
  obtain ⟨l,hl,h⟩:=bd_ok h
  obtain ⟨u,hu,h⟩:=bd_ok h
  cases h
  exact d_sl (A.e a x hx) (A.o w.1 l hl) (A.o w.2 u hu)
 | none =>
  rw [q] at h
  obtain ⟨x,hx,h⟩:=bd_ok h
  obtain ⟨y,hy,h⟩:=bd_ok h
  obtain ⟨hs,rfl⟩:=qAE h
  exact d_ix (A.e a x hx) (A.e b y hy) (qKd hs)
theorem qK6 (T:Body X c F k ex W) {r:Rc} (A:AllOk X c F W r) {x:Str} {es:List Expr} {p pos:Pos} {ce:CE} (h:qLH r c x es (c.glob x)=some ce):PE X (.Call (.Name x p) es [] pos) (tD X.K W (den F ce)):=by
 cases w:c.glob x with
 | none=>rw [w] at h;cases h
 | some g =>
  rw [w] at h
  cases g with
  | fn i =>
   cases es with
   | nil=>obtain ⟨hs,rfl⟩:=qAE h;exact qK7 T hs w
   | cons e es =>
    obtain ⟨l,hl,h⟩:=bd_ok h
    obtain ⟨hs,rfl⟩:=qAE h
    exact qNQ T hs w (A.l _ l hl).1 (A.l _ l hl).2
  | blt=>exact A.b x es ce p pos w h
  | cls kc fi =>
   cases es with
   | nil=>obtain ⟨hs,rfl⟩:=qAE h;exact qKS T hs w
   | cons e es =>
    obtain ⟨l,hl,h⟩:=bd_ok h
    obtain ⟨hs,rfl⟩:=qAE h
    exact qMh T hs w (A.l _ l hl).1 (A.l _ l hl).2
  | _=>cases h
theorem qKL (T:Body X c F k ex W) {r:Rc} (A:AllOk X c F W r) {a:Expr} {m:Str} {ap p:Pos} {es:List Expr} {x ce:CE} (hx:r.e c a=some x) (h:sMeth r c m (qB6 a&&(ap.endLine == p.line)) x es (c.M.lookup m)=some ce):PE X (.Call (.Attribute a m ap) es [] p) (tD X.K W (den F ce)):=by
 cases w:c.M.lookup m with
 | some q =>
  rw [w] at h
  obtain ⟨mk,tb⟩:=q
  cases es with
  | nil =>
   obtain ⟨hs,rfl⟩:=qAE h
   obtain ⟨h1,h2⟩:=Bool.and_eq_true_iff.mp hs
   obtain ⟨h2,h3⟩:=Bool.and_eq_true_iff.mp h2
   exact qKM T h1 w (A.e a x hx) h2 h3
  | cons e es =>
   obtain ⟨l,hl,h⟩:=bd_ok h
   obtain ⟨hs,rfl⟩:=qAE h
   obtain ⟨hs,h4⟩:=Bool.and_eq_true_iff.mp hs
   obtain ⟨h1,h2⟩:=Bool.and_eq_true_iff.mp hs
   obtain ⟨h2,h3⟩:=Bool.and_eq_true_iff.mp h2
   exact qMc T h1 w (A.e a x hx) (A.l _ l hl).1 (A.l _ l hl).2 h2 h3 (of_decide_eq_true h4)
 | none =>
  rw [w] at h
  cases es with
  | nil =>
   cases h
  | cons b es =>
   cases es with
   | cons d es =>
    cases es with
    | cons _ _=>cases h
    | nil =>
     have h:(match decide (m="setdefault") with | true=>(r.e c b).bind fun y=>(r.e c d).bind fun z=>need (qB6 a&&(ap.endLine == p.line)&&qAK b&&qAK d) (.setd x y z) | false=>none)=some ce:=h
     split at h
     ·rename_i e
      obtain ⟨y,hy,h⟩:=bd_ok h
      obtain ⟨z,hz,h⟩:=bd_ok h
      obtain ⟨hs,rfl⟩:=qAE h
      obtain ⟨hs,h5⟩:=Bool.and_eq_true_iff.mp hs
      obtain ⟨hs,h4⟩:=Bool.and_eq_true_iff.mp hs
      obtain ⟨h2,h3⟩:=Bool.and_eq_true_iff.mp hs
      exact qPW (of_decide_eq_true e) (A.e a x hx) (A.e b y hy) (A.e d z hz) (qCm h2) h3 (star2 h4 h5) (star1 h5)
     ·cases h
   | nil =>
    obtain ⟨o,ho,h⟩:=bd_ok h
    obtain ⟨y,hy,h⟩:=bd_ok h
    obtain ⟨hs,rfl⟩:=qAE h
    obtain ⟨hs,h4⟩:=Bool.and_eq_true_iff.mp hs
    obtain ⟨h2,h3⟩:=Bool.and_eq_true_iff.mp hs
    exact qOs T ho (A.e a x hx) (A.e b y hy) h4 h2 h3
theorem qK5 (T:Body X c F k ex W) {r:Rc} (A:AllOk X c F W r) {f:Expr} {es:List Expr} {ks:List Keyword} {p:Pos} {ce:CE} (h:sCall r c f es ks p=some ce):PE X (.Call f es ks p) (tD X.K W (den F ce)):=by
 cases ks with
 | cons _ _=>cases h
 | nil =>
  cases f with
  | Name x q=>exact qK6 T A h
  | Attribute a m ap=>obtain ⟨x,hx,h⟩:=bd_ok h;exact qKL T A hx h
  | _=>cases h
theorem qO8 {k:Option Expr} {y:Ky} (h:rdKey k=some y):∃ e,k=some e∧PE X e (L2.tC (L2.kV (kyV y))):=by
 cases k with
 | none=>cases h
 | some e =>
  cases e with
  | Constant kc j pos =>
   cases kc with
   | str s =>
    cases h
    refine ⟨_,rfl,?_⟩
    have e1:(⟨s.cps.toList.toArray⟩:Str)=s:=by simp
    show PE X _ (L2.tC (.str ⟨s.cps.toList.toArray⟩))
    rw [e1]
    exact L2.pe_str
   | int i=>cases h;exact ⟨_,rfl,L2.pe_int⟩
   | _=>cases h
  | _=>cases h
theorem qJa {r:Rc} (A:AllOk X c F W r) {pos:Pos}:∀ {keys:List (Option Expr)} {values:List Expr} {ks:List Ky} {l:CL},qIL keys=some ks→qIK r c values=some l→keys.length=values.length →
    L2.PPs X pos keys values (trs X F W ks l)∧keys.all (·.isSome)=true∧clLen l=ks.length
  | [],[],_,_,h1,h2,_=>by cases h1;cases h2;exact ⟨L2.pps_nil,rfl,rfl⟩
  | [],_::_,_,_,_,_,h=>by cases h
  | _::_,[],_,_,_,_,h=>by cases h
  | k::keys,e::values,ks,l,h1,h2,h3=>by
    obtain ⟨y,hy,h1⟩:=bd_ok h1
    obtain ⟨ys,hys,h1⟩:=bd_ok h1
    cases h1
    obtain ⟨x,hx,h2⟩:=bd_ok h2
    obtain ⟨l',hl,h2⟩:=bd_ok h2
    cases h2
    obtain ⟨ek,rfl,pk⟩:=qO8 (X:=X) hy
    obtain ⟨g1,g2,g3⟩:=qJa A (pos:=pos) hys hl (Nat.succ.inj h3)
    exact ⟨L2.pps_cons pk (A.e e x hx) g1,by rw [List.all_cons,g2];rfl,congrArg Nat.succ g3⟩
theorem qNC {r:Rc} (A:AllOk X c F W r) {keys:List (Option Expr)} {values:List Expr} {pos:Pos} {ce:CE} (h:sDisp r c keys values=some ce):PE X (.Dict keys values pos) (tD X.K W (den F ce)):=by
 obtain ⟨ks,hk,h⟩:=bd_ok h
 obtain ⟨l,hl,h⟩:=bd_ok h
 obtain ⟨hs,rfl⟩:=qAE h
 obtain ⟨h1,h2⟩:=Bool.and_eq_true_iff.mp hs
 have h1:=of_decide_eq_true h1
 obtain ⟨g1,g2,g3⟩:=qJa A (pos:=pos) hk hl h1
 refine qPc g1 g2 h1 (of_decide_eq_true h2) g3 fun z=>?_
 subst z
 cases hk
 cases values with
 | nil=>cases hl;exact ⟨rfl,rfl,rfl⟩
 | cons _ _=>cases h1
theorem qNN (T:Body X c F k ex W) {r:Rc} (AA:∀ (X:Cx) (c:Cc) (W:WX),Body X c F k ex W→AllOk X c F W r) {elt:Expr} {q:Gn} {scope:Scope} {pos:Pos} {ce:CE} (h:sComp r c elt scope q=some ce):PE X (.ListComp elt [⟨.Name q.x q.p,q.iter,q.ifs,0⟩] scope pos) (tD X.K W (den F ce)):=by
 have A:=AA X c W T
 obtain ⟨x,px,iter,ifs⟩:=q
 cases ifs with
 | nil =>
  obtain ⟨it,hi,h⟩:=bd_ok h
  obtain ⟨y,hy,h⟩:=bd_ok h
  obtain ⟨hk',rfl⟩:=qAE h
  obtain ⟨hcm,hk⟩:=Bool.and_eq_true_iff.mp hk'
  have K:=qCI T hk
  exact PE.imp (qIP K (by rw [T.N];exact T.nd) (T.calm hcm) (A.i _ iter it hi).1 (qCD (A.i (.Name x px) iter it hi).2) (tt:=none) fun cl C s3 H3 fp E=>⟨(AA _ _ _ (qCU T hk cl C s3 H3 fp E)).e elt y hy,rfl⟩) fun σ H Q t=>compI (f:=fun env x=>compF (den F y) env x) (mi:=denI F it) (qEZ _) (by
   obtain ⟨ρ,env,h,s,r,p⟩:=t
   rw [den] at p
   exact ⟨ρ,env,h,s,r,p⟩)
 | cons tst ts =>
  cases ts with
  | cons _ _=>cases h
  | nil =>
   obtain ⟨it,hi,h⟩:=bd_ok h
   obtain ⟨z,hz,h⟩:=bd_ok h
   obtain ⟨y,hy,h⟩:=bd_ok h
   obtain ⟨hk',rfl⟩:=qAE h
   obtain ⟨hcm,hk⟩:=Bool.and_eq_true_iff.mp hk'
   have K:=qCI T hk
   exact PE.imp (qIP K (by rw [T.N];exact T.nd) (T.calm hcm) (A.i _ iter it hi).1 (qCD (A.i (.Name x px) iter it hi).2) (tt:=some (tDT X.K WF (denT F z))) fun cl C s3 H3 fp E=>⟨(AA _ _ _ (qCU T hk cl C s3 H3 fp E)).e elt y hy,tst,rfl,(AA _ _ _ (qCU T hk cl C s3 H3 fp E)).t tst z hz⟩) fun σ H Q t=>compI (f:=fun env x=>qD6 (den F y) (denT F z) env x) (mi:=denI F it) (qFY _ _) (by
    obtain ⟨ρ,env,h,s,r,p⟩:=t
    rw [den] at p
    exact ⟨ρ,env,h,s,r,p⟩)
theorem qKy (T:Body X c F k ex W) {r:Rc} (AA:∀ (X:Cx) (c:Cc) (W:WX),Body X c F k ex W→AllOk X c F W r) {elt:Expr} {gs:List Comprehension} {scope:Scope} {pos:Pos} {ce:CE} (h:qFd r c elt scope gs=some ce):PE X (.ListComp elt gs scope pos) (tD X.K W (den F ce)):=by
 unfold qFd at h
 split at h
 ·rename_i q hq
  obtain rfl:=qHE hq
  exact qNN T AA h
 ·cases h
theorem qLD (T:Body X c F k ex W) {r:Rc} (AA:∀ (X:Cx) (c:Cc) (W:WX),Body X c F k ex W→AllOk X c F W r) (e:Expr) (ce:CE) (h:eS r c e=some ce):PE X e (tD X.K W (den F ce)):=by
 have A:=AA X c W T
 cases e with
 | Constant kc j pos=>exact qKx h
 | Name x pos=>exact qMY T h
 | BinOp a op b pos =>
  obtain ⟨o,ho,h⟩:=bd_ok h
  obtain ⟨x,hx,h⟩:=bd_ok h
  obtain ⟨y,hy,h⟩:=bd_ok h
  cases h
  exact PE.imp (L2.pe_op (qNU ho) (A.e a x hx) (A.e b y hy)) fun _ _ _ t=>two t
 | UnaryOp op a pos=>exact un_ok A h
 | BoolOp op es pos=>exact qNT A h
 | IfExp t a b pos =>
  obtain ⟨z,hz,h⟩:=bd_ok h
  obtain ⟨x,hx,h⟩:=bd_ok h
  obtain ⟨y,hy,h⟩:=bd_ok h
  cases h
  exact d_ite (A.t t z hz) (A.e a x hx) (A.e b y hy)
 | Compare a ops cs pos=>exact (qEm T A h).1
 | Tuple es j pos=>obtain ⟨l,hl,h⟩:=bd_ok h;cases h;exact d_tup (A.l es l hl).1
 | List es pos=>obtain ⟨l,hl,h⟩:=bd_ok h;cases h;exact d_lst (A.l es l hl).1
 | Subscript a b pos=>exact qN9 A h
 | Call f es ks p=>exact qK5 T A h
 | Attribute a f pos =>
  obtain ⟨kk,hk,h⟩:=bd_ok h
  obtain ⟨x,hx,h⟩:=bd_ok h
  obtain ⟨hs,rfl⟩:=qAE h
  exact d_fld (T.at' f kk.1 kk.2 hk).1 (A.e a x hx) (qCm hs)
 | Dict keys values pos=>exact qNC A h
 | ListComp elt gs scope pos=>exact qKy T AA h
 | _=>cases h
theorem qPf (T:Body X c F k ex W) {r:Rc} (A:AllOk X c F W r) {a:Expr} {op:CmpOp} {b:Expr} {ce:CE} {pos:Pos} (h:sCmp r c a op b=some ce) :
    PE X (.Compare a [op] [b] pos) (tD X.K W (den F ce))∧PT X (.Compare a [op] [b] pos) (tDT X.K W (denT F (.val ce))):=by
  obtain ⟨o,ho,h⟩:=bd_ok h
  obtain ⟨x,hx,h⟩:=bd_ok h
  obtain ⟨y,hy,h⟩:=bd_ok h
  obtain ⟨hb,rfl⟩:=qAE h
  have hb:behindInMarks op b=false:=by simpa using hb
  exact ⟨d_cmp (qCJ T ho).2 (A.e _ x hx) (A.e _ y hy) hb,qPS (qCJ T ho).1 (qCJ T ho).2 (A.e _ x hx) (A.e _ y hy) hb⟩
theorem qJ1 (T:Body X c F k ex W) {r:Rc} (A:AllOk X c F W r) (a:Expr) (op:CmpOp) (b:Expr) (ce:CE) (pos:Pos) (h:cmpS r c a op b=some ce) :
    PE X (.Compare a [op] [b] pos) (tD X.K W (den F ce))∧PT X (.Compare a [op] [b] pos) (tDT X.K W (denT F (.val ce))):=by
  cases op with
  | Is =>
    obtain ⟨x,hx,h⟩:=bd_ok h
    unfold sIs at h
    cases q:isNone b with
    | true =>
      rw [q] at h
      cases h
      obtain ⟨j,p',rfl⟩:=qFq q
      exact ⟨d_isN (A.e _ x hx),qPQ (A.e _ x hx)⟩
    | false =>
      rw [q] at h
      obtain ⟨kb,hb,h⟩:=bd_ok h
      cases h
      obtain ⟨j,p',rfl⟩:=qFr hb
      exact ⟨d_isB (A.e _ x hx),qPR (A.e _ x hx)⟩
  | IsNot =>
    obtain ⟨x,hx,h⟩:=bd_ok h
    unfold sIs at h
    cases q:isNone b with
    | true =>
      rw [q] at h
      cases h
      obtain ⟨j,p',rfl⟩:=qFq q
      exact ⟨qPX (A.e _ x hx),qNA (A.e _ x hx)⟩
    | false =>
      rw [q] at h
      obtain ⟨kb,hb,h⟩:=bd_ok h
      cases h
      obtain ⟨j,p',rfl⟩:=qFr hb
      exact ⟨d_nsB (A.e _ x hx),qPO (A.e _ x hx)⟩
  | _=>exact qPf T A h
theorem b1_ok (T:Body X c F k ex W) {x:Str} {a:Expr} {y ce:CE} {p pos:Pos} (hg:c.glob x=some .blt) (ha:PE X a (tD X.K W (den F y))) (h:sB1 c x a y=some ce):PE X (.Call (.Name x p) [a] [] pos) (tD X.K W (den F ce)):=by
 unfold sB1 at h
 cases q:bi1 x with
 | some o =>
  rw [q] at h
  obtain ⟨hs,rfl⟩:=qAE h
  exact qPh T q hg ha hs
 | none =>
  rw [q] at h
  obtain ⟨o,ho,h⟩:=bd_ok h
  obtain ⟨hs,rfl⟩:=qAE h
  obtain ⟨h1,h2⟩:=Bool.and_eq_true_iff.mp hs
  exact qNV T h2 ho hg ha h1
theorem qMx (T:Body X c F k ex W) {r:Rc} (A:AllOk X c F W r) {x y:Str} {a:Expr} {ce:CE} {p p2 pos:Pos} (hx:x="isinstance") (hg:c.glob x=some .blt) (h:sIsi r c a y=some ce):PE X (.Call (.Name x p) [a,.Name y p2] [] pos) (tD X.K W (den F ce)):=by
 obtain ⟨z,hz,h⟩:=bd_ok h
 cases q:tyN y with
 | some t =>
  rw [q] at h
  obtain ⟨hs,rfl⟩:=qAE h
  obtain ⟨h1,h2⟩:=Bool.and_eq_true_iff.mp hs
  exact qPG T hx q hg h2 (A.e _ z hz) h1
 | none =>
  rw [q] at h
  cases h
theorem qDg {x:Str} (h:c.isB x=true):c.glob x=some .blt:=by
 unfold Cc.isB at h
 split at h
 ·assumption
 ·cases h
theorem qOG (T:Body X c F k ex W) {r:Rc} (A:AllOk X c F W r) (x:Str) (es:List Expr) (ce:CE) (p pos:Pos) (hg:c.glob x=some .blt) (h:bS r c x es=some ce):PE X (.Call (.Name x p) es [] pos) (tD X.K W (den F ce)):=by
 rcases es with _ | ⟨a,_ | ⟨b,_ | ⟨d,_ | ⟨_,_⟩⟩⟩⟩
 ·cases h
 ·obtain ⟨y,hy,h⟩:=bd_ok h
  exact b1_ok T hg (A.e _ y hy) h
 ·unfold bS at h
  cases q:decide (x="isinstance") with
  | true =>
   simp only [q] at h
   obtain ⟨y,hy,h⟩:=bd_ok h
   obtain ⟨p2,rfl⟩:=qGX hy
   exact qMx T A (of_decide_eq_true q) hg h
  | false =>
   simp only [q] at h
   obtain ⟨o,ho,h⟩:=bd_ok h
   obtain ⟨u,hu,h⟩:=bd_ok h
   obtain ⟨v,hv,h⟩:=bd_ok h
   obtain ⟨hs,rfl⟩:=qAE h
   obtain ⟨hs,h3⟩:=Bool.and_eq_true_iff.mp hs
   obtain ⟨h1,h2⟩:=Bool.and_eq_true_iff.mp hs
   exact qPg T h3 ho hg (A.e _ u hu) (A.e _ v hv) h1 h2
 ·obtain ⟨o,ho,h⟩:=bd_ok h
  obtain ⟨u,hu,h⟩:=bd_ok h
  obtain ⟨v,hv,h⟩:=bd_ok h
  obtain ⟨z,hz,h⟩:=bd_ok h
  obtain ⟨hs,rfl⟩:=qAE h
  obtain ⟨h0,hs⟩:=Bool.and_eq_true_iff.mp hs
  obtain ⟨hs,h4⟩:=Bool.and_eq_true_iff.mp hs
  obtain ⟨hs,h3⟩:=Bool.and_eq_true_iff.mp hs
  obtain ⟨h1,h2⟩:=Bool.and_eq_true_iff.mp hs
  rw [of_decide_eq_true h0] at ho
  exact qMb T h4 ho hg (A.e _ u hu) (A.e _ v hv) (A.e _ z hz) h1 h2 h3
 ·cases h
theorem qOD {r:Rc} (A:AllOk X c F W r) (es:List Expr) (cl:CL) (h:lS r c es=some cl):PA X es (tDL X.K W (denL F cl))∧stars es=true:=by
 cases es with
 | nil=>cases h;exact ⟨qPV (es:=[]),rfl⟩
 | cons e es =>
  obtain ⟨x,hx,h⟩:=bd_ok h
  obtain ⟨l,hl,h⟩:=bd_ok h
  obtain ⟨hs,rfl⟩:=qAE h
  exact ⟨qNG (A.e _ x hx) (A.l _ l hl).1 (qAo hs),by unfold stars;rw [hs,(A.l _ l hl).2];rfl⟩
theorem qOC {r:Rc} (A:AllOk X c F W r) (o:Option Expr) (cp:CP) (h:oS r c o=some cp):PO X o (tDP X.K W (denP F cp)):=by
 cases o with
 | none=>cases h;exact dp_no
 | some e=>obtain ⟨x,hx,h⟩:=bd_ok h;cases h;exact dp_at (A.e _ x hx)
theorem sT_ok {r:Rc} (A:AllOk X c F W r) {e:Expr} {ct:CT} (h:sT r c e=some ct):PT X e (tDT X.K W (denT F ct)):=by
 obtain ⟨x,hx,h⟩:=bd_ok h
 obtain ⟨hs,rfl⟩:=qAE h
 exact qKt (A.e _ x hx) (qIO hs)
theorem qOA (T:Body X c F k ex W) {r:Rc} (A:AllOk X c F W r) (e:Expr) (ct:CT) (h:tS r c e=some ct):PT X e (tDT X.K W (denT F ct)):=by
 cases e with
 | UnaryOp op a pos =>
  cases op with
  | Not=>obtain ⟨x,hx,h⟩:=bd_ok h;cases h;exact qPP (A.t _ x hx)
  | _=>cases h
 | BoolOp op es pos=>exact (A.tb _ _ ct pos h).pt
 | Compare a ops cs pos=>obtain ⟨x,hx,h⟩:=bd_ok h;cases h;exact (qEm T A hx).2
 | _=>exact sT_ok A h
theorem qLz {r:Rc} (A:AllOk X c F W r) (op:BoolOp) (es:List Expr) (ct:CT) (pos:Pos) (h:tbS r c op es=some ct):L2.PW X (.BoolOp op es pos) (tDT X.K W (denT F ct)):=by
 cases es with
 | nil=>cases h
 | cons a es =>
  cases es with
  | nil =>
   cases op with
   | And=>exact L2.pw_and1 (A.t _ ct h)
   | Or=>exact L2.pw_or1 (A.t _ ct h)
  | cons b es =>
   obtain ⟨x,hx,h⟩:=bd_ok h
   obtain ⟨y,hy,h⟩:=bd_ok h
   cases op with
   | And=>cases h;exact qPN (A.t _ x hx) (A.tb _ _ y pos hy)
   | Or=>cases h;exact dw_or (A.t _ x hx) (A.tb _ _ y pos hy)
theorem qOE (T:Body X c F k ex W) {r:Rc} (A:AllOk X c F W r) (tg e:Expr) (ci:CI) (h:iS r c e=some ci):PI X tg e (tDI X.K W (denI F ci))∧noSet e=true:=by
 unfold iS at h
 cases q:isRg e with
 | none =>
  rw [q] at h
  obtain ⟨z,hz,h⟩:=bd_ok h
  obtain ⟨hs,rfl⟩:=qAE h
  exact ⟨di_of (A.e _ z hz),hs⟩
 | some es =>
  rw [q] at h
  obtain ⟨p,p2,rfl⟩:=qMz q
  rcases es with _ | ⟨a,_ | ⟨b,_ | ⟨d,_ | _⟩⟩⟩
  ·cases h
  ·obtain ⟨z,hz,h⟩:=bd_ok h
   obtain ⟨hs,rfl⟩:=qAE h
   obtain ⟨h1,h2⟩:=Bool.and_eq_true_iff.mp hs
   obtain ⟨g1,g2,g3,g4⟩:=T.gl (qDg h2)
   exact ⟨qNF g1 g4 (A.e _ z hz) (star1 h1),rfl⟩
  ·obtain ⟨z,hz,h⟩:=bd_ok h
   obtain ⟨z',hz',h⟩:=bd_ok h
   obtain ⟨hs,rfl⟩:=qAE h
   obtain ⟨hs,h2⟩:=Bool.and_eq_true_iff.mp hs
   obtain ⟨h1,h3⟩:=Bool.and_eq_true_iff.mp hs
   obtain ⟨g1,g2,g3,g4⟩:=T.gl (qDg h2)
   exact ⟨qNE g1 g4 (A.e _ z hz) (A.e _ z' hz') (star2 h1 h3) (star1 h3),rfl⟩
  ·obtain ⟨z,hz,h⟩:=bd_ok h
   obtain ⟨z',hz',h⟩:=bd_ok h
   obtain ⟨z'',hz'',h⟩:=bd_ok h
   obtain ⟨hs,rfl⟩:=qAE h
   obtain ⟨hs,h2⟩:=Bool.and_eq_true_iff.mp hs
   obtain ⟨hs,h4⟩:=Bool.and_eq_true_iff.mp hs
   obtain ⟨h1,h3⟩:=Bool.and_eq_true_iff.mp hs
   obtain ⟨g1,g2,g3,g4⟩:=T.gl (qDg h2)
   exact ⟨qND g1 g4 (A.e _ z hz) (A.e _ z' hz') (A.e _ z'' hz'') (star3 h1 h3 h4) (star2 h3 h4) (star1 h4),rfl⟩
  ·cases h
theorem all_e:∀ (n:Nat) (X:Cx) (c:Cc) (W:WX),Body X c F k ex W→AllOk X c F W (rcN n)
  | 0,_,_,_,_=>{
      e:=fun _ _ h=>nomatch h
      cmp:=fun _ _ _ _ _ h=>nomatch h
      b:=fun _ _ _ _ _ _ h=>nomatch h
      l:=fun _ _ h=>nomatch h
      o:=fun _ _ h=>nomatch h
      t:=fun _ _ h=>nomatch h
      tb:=fun _ _ _ _ h=>nomatch h
      i:=fun _ _ _ h=>nomatch h }
  | n+1,X,c,W,T =>
    have A:=all_e n X c W T
    ⟨qLD T (all_e n),qJ1 T A,qOG T A,qOD A,qOC A,qOA T A,qLz A,qOE T A⟩
theorem qEq {e:Expr} {t:Option Expr} {n:Nat} {env:PySem.Env} (h:qG9 e=true):swapsWith e t n env=pure false:=by
 cases e <;> first | rfl | cases h
theorem qFy {α:Type} {K:PySem.W.Frag} {w:W1} {rep:List Addr→Hp→α→Prop} {ρ:List Addr} {H:Hp} {r:R α} (p:Post K w rep ρ H r.calm) (w':W1):Post K w' rep ρ H r:=by
 cases r with
 | ok a h=>exact p
 | exc _ _=>exact False.elim p
 | bad=>exact p
theorem qOO {t:TG} {g:L2.TG} {tg iter:Expr} {ci:CI} {body:List Stmt} {cb:CS} {pos:Pos} (ht:tgOk X.K t g) (hc:X.calm=true) (hi:PI X.nox tg iter (tDI X.K WF (denI F ci))) (hg:PG X.nox tg g) (hb:PSs X.nox body (tDS X.K WF (denS F B cb)))
    (hs:∀ x,foldedSetIterable iter X.env x=pure x):PS X (.For tg iter body [] pos) (tDS X.K W (denS F B (.fori t ci cb))):=PS.imp (PS.nox (L2.ps_for PassesOwn.never hc hi hg hb hs)) fun E σ H q=>by
  obtain ⟨ρ,env,h,s,r,p⟩:=q
  rw [denS] at p
  refine ⟨ρ,env,h,s,r,qFy (PostS.ofR s p fun ρ1 h1 it H1 e1 r1 q J hJ=>?_) _⟩
  cases it with
  | row xs =>
    obtain ⟨go,yl,sp⟩:=hJ
    exact qKY ht (s.mono e1) r1 go yl sp q
  | live k =>
    obtain ⟨a,ha,rfl⟩:=hJ
    exact qIm ht (s.mono e1) r1 ha q
theorem qON {i j jj:Nat} {g:L2.TG} {elts:List Expr} {l:Expr} {ce:CE} {body:List Stmt} {cb:CS} {p1 p2 p3 pos:Pos} (ht:tgOk X.K (.two i j) g) (hc:X.calm=true) (hgl:L2.Gl X.nox "enumerate") (hm:X.nox.mg "enumerate"=none) (he:PE X.nox l (tD X.K WF (den F ce))) (hst:starEach [l] X.nox.env=[(false,eval l X.nox.env)]) (hg:PG X.nox (.Tuple elts jj p3) g) (hb:PSs X.nox body (tDS X.K WF (denS F B cb))) :
    PS X (.For (.Tuple elts jj p3) (.Call (.Name "enumerate" p1) [l] [] p2) body [] pos) (tDS X.K W (denS F B (.forE i j ce cb))):=PS.imp (PS.nox (L2.ps_for PassesOwn.never hc (L2.pi_enum hgl hm (L2.pa_cons he L2.pa_nil hst) hst) hg hb)) fun E σ H q=>by
  obtain ⟨ρ,env,h,s,r,p⟩:=q
  rw [denS] at p
  refine ⟨ρ,env,h,s,r,qFy (PostS.ofR s p fun ρ1 h1 d H1 e1 r1 q v hv=>?_) _⟩
  cases d with
  | ref k =>
    obtain ⟨a,ha,rfl⟩:=hv
    cases z:getL h1 k with
    | none =>
      have q:PostS X.K W E ρ1 H1 (forEn (qAR (.two i j) (denS F B cb)) k (liveN h1 k) 0 env h1):=q
      have e0:liveN h1 k=0+1:=by unfold liveN;rw [z];rfl
      rw [e0,forEn,z] at q
      exact False.elim q
    | some xs =>
      obtain ⟨b,vs,k2,k3,_⟩:=r1.list z
      rw [ha] at k2
      cases k2
      exact ⟨a,rfl,⟨vs,k3⟩,qIn ht (s.mono e1) r1 ha q⟩
  | _=>exact False.elim q
theorem qM0 {e l:Expr} (h:isEn e=some l):∃ p q,e=.Call (.Name "enumerate" p) [l] [] q:=by
 unfold isEn at h
 split at h
 ·split at h
  ·split at h
   ·split at h
    ·obtain ⟨hx,rfl⟩:=qAE h
     rw [decide_eq_true_eq] at hx
     subst hx
     exact ⟨_,_,rfl⟩
    ·cases h
   ·cases h
  ·cases h
 ·cases h
theorem qOK {i:Nat} {y:Str} {py spos:Pos} {e:Expr} {ce:CE} (T:BodyS X c F k ex W) (hi:c.own y=some i) (hc:qLX e=true) {n:Nat} (he:eS (rcN n) c e=some ce):PS X (.Assign [.Name y py] e spos) (tDS X.K W (denS F B (.set (.nm i) ce))):=by
 have AA:=all_e (F:=F) (k:=k) (ex:=ex) n
 have A:=AA X c W T.toBody
 obtain ⟨h1,h2⟩:=T.loc hi
 have pe:=qLD T.toBody (all_e n) e ce he
 have key:∀ {σ:L2.St} {H:Hp} {E:Ends},tDS X.K W (denS F B (.set (.nm i) ce)) E σ H→tD X.K W (den F ce) σ H fun v H'=>E.nx (σ.set i (some v)) H':=fun {σ H E} t=>by
  obtain ⟨ρ,env,h,s,r,p⟩:=t
  rw [denS] at p
  exact ⟨ρ,env,h,s,r,PostS.ofR s p fun ρ' h' d H' e' r' q v hv=>q ρ' H' _ (Step.refl _ _) r' ((s.mono e').set i hv)⟩
 cases e with
 | ListComp elt gs scope pos =>
  have he:qFd (rcN n) c elt scope gs=some ce:=he
  have hc':(match isGen gs with | some q=>decide (q.ifs.length≤1) | none=>false)=true:=hc
  obtain ⟨g,hg⟩:∃ g,isGen gs=some g:=by
   cases z:isGen gs with
   | none=>rw [z] at hc';cases hc'
   | some g=>exact ⟨g,rfl⟩
  unfold qFd at he
  rw [hg] at he
  have he:sComp (rcN n) c elt scope g=some ce:=he
  clear hc'
  obtain rfl:=qHE hg
  obtain ⟨x,px,iter,ifs⟩:=g
  have hsw:swapsWith (.ListComp elt [⟨.Name x px,iter,ifs,0⟩] scope pos) (some (.Name y py)) spos.line X.env=pure (X.env.blockKind == .function&&X.env.kindOf y == some .local&&py.line == (Expr.ListComp elt [⟨.Name x px,iter,ifs,0⟩] scope pos).pos.line&&!(scope.names.any fun (n,k)=>n == y&&(k == .local || k == .cell))):=rfl
  cases q:(X.env.blockKind == .function&&X.env.kindOf y == some .local&&py.line == (Expr.ListComp elt [⟨.Name x px,iter,ifs,0⟩] scope pos).pos.line&&!(scope.names.any fun (n,k)=>n == y&&(k == .local || k == .cell))) with
  | false =>
   rw [q] at hsw
   exact s_set T.nd' h1 h2 pe hsw (.inl (T.fn _))
  | true =>
   rw [q] at hsw
   simp only [Bool.and_eq_true] at q
   have hk:X.env.scope.names.lookup y=some .local:=(show X.env.kindOf y=some .local by simpa using q.1.1.2)
   cases ifs with
   | nil =>
    obtain ⟨it,hit,he⟩:=bd_ok he
    obtain ⟨z,hz,he⟩:=bd_ok he
    obtain ⟨hko',rfl⟩:=qAE he
    obtain ⟨hcm,hko⟩:=Bool.and_eq_true_iff.mp hko'
    have K:=qCI T.toBody hko
    refine PS.imp (qIM K T.nd' (T.calm hcm) (A.i _ iter it hit).1 (qCD (A.i (.Name x px) iter it hit).2) (tt:=none) (fun cl C s3 H3 fp E=>⟨(AA _ _ _ (qCU T.toBody hko cl C s3 H3 fp E)).e elt z hz,rfl⟩) h1 hk hsw) fun E σ H t=>compI (f:=fun env x=>compF (den F z) env x) (mi:=denI F it) (qEZ _) ?_
    obtain ⟨ρ,env,h,s,r,p⟩:=key t
    rw [den] at p
    exact ⟨ρ,env,h,s,r,p⟩
   | cons tst ts =>
    cases ts with
    | cons _ _=>cases he
    | nil =>
     obtain ⟨it,hit,he⟩:=bd_ok he
     obtain ⟨zt,hzt,he⟩:=bd_ok he
     obtain ⟨z,hz,he⟩:=bd_ok he
     obtain ⟨hko',rfl⟩:=qAE he
     obtain ⟨hcm,hko⟩:=Bool.and_eq_true_iff.mp hko'
     have K:=qCI T.toBody hko
     refine PS.imp (qIM K T.nd' (T.calm hcm) (A.i _ iter it hit).1 (qCD (A.i (.Name x px) iter it hit).2) (tt:=some (tDT X.K WF (denT F zt))) (fun cl C s3 H3 fp E=>⟨(AA _ _ _ (qCU T.toBody hko cl C s3 H3 fp E)).e elt z hz,tst,rfl,(AA _ _ _ (qCU T.toBody hko cl C s3 H3 fp E)).t tst zt hzt⟩) h1 hk hsw) fun E σ H t=>compI (f:=fun env x=>qD6 (den F z) (denT F zt) env x) (mi:=denI F it) (qFY _ _) ?_
     obtain ⟨ρ,env,h,s,r,p⟩:=key t
     rw [den] at p
     exact ⟨ρ,env,h,s,r,p⟩
 | _=>cases hc
theorem qEr (T:BodyS X c F k ex W):BodyS X.nox c.still F k ex WF where
 N:=T.N
 nd:=T.nd
 sc:=T.sc
 calm:=T.calm
 room:=T.room
 hu:=T.hu
 glob:=fun x g h=>by
  have:=T.glob x g h
  cases g <;> exact this
 xc:=fun pins σ H s0 e s' I x=>by
  obtain ⟨_,_,_,_,_,_,_,_,_,_,_,_,_,_,_,_,z⟩:=x
  exact False.elim z
 fn:=T.fn
 stk:=T.stk
 xr:=fun z=>by cases z
 xm:=T.xm
 xq:=T.xq
 xv:=T.xv
 xg:=T.xg
 mt:=T.mt
 at':=T.at'
 noex:=T.noex
 xcl:=T.xcl
structure AllS (F:Nat→List D→M D) (k B:Nat) (ex:Nat→Option Addr) (r:Rs):Prop where
 s:∀ (X:Cx) (c:Cc) (W:WX),BodyS X c F k ex W→∀ st cs,r.s c st=some cs→PS X st (tDS X.K W (denS F B cs))
 ss:∀ (X:Cx) (c:Cc) (W:WX),BodyS X c F k ex W→∀ st cs,r.ss c st=some cs→PSs X st (tDS X.K W (denS F B cs))
 h:∀ (X:Cx) (c:Cc) (W:WX),BodyS X c F k ex W→∀ hs ch,r.h c hs=some ch→HOf X F B ex hs ch
theorem qOI (T:BodyS X c F k ex W) {n:Nat} {t e:Expr} {spos:Pos} {cs:CS} (h:sSet (rcN n) c e t=some cs):PS X (.Assign [t] e spos) (tDS X.K W (denS F B cs)):=by
 have A:=all_e (F:=F) (k:=k) (ex:=ex) n X c W T.toBody
 cases t with
 | Name x py =>
  obtain ⟨i,hi,h⟩:=bd_ok h
  obtain ⟨y,hy,h⟩:=bd_ok h
  obtain ⟨hn,rfl⟩:=qAE h
  obtain ⟨h1,h2⟩:=T.loc hi
  rcases Bool.or_eq_true_iff.mp hn with hn | hn
  ·exact s_set T.nd' h1 h2 (A.e _ y hy) (qEq hn) (.inl (T.fn _))
  ·cases n with
   | zero=>cases hy
   | succ n=>exact qOK T hi hn hy
 | Attribute o f p =>
  obtain ⟨kk,hk,h⟩:=bd_ok h
  obtain ⟨x,hx,h⟩:=bd_ok h
  obtain ⟨y,hy,h⟩:=bd_ok h
  obtain ⟨hn,rfl⟩:=qAE h
  obtain ⟨k1,k2,k3⟩:=T.at' _ kk.1 kk.2 hk
  exact qOJ k1 k2 (fun c C h1 h2=>k3 c C h1 h2) (A.e _ x hx) (A.e _ y hy) (qEq hn)
 | _=>cases h
theorem tg_of (T:BodyS X c F k ex W) (hc:X.calm=true) {tg:Expr} {t:TG} (h:isTg c tg=some t):∃ g,tgOk X.K t g∧PG X.nox tg g:=by
 cases tg with
 | Name x p =>
  obtain ⟨i,hi,h⟩:=bd_ok h
  cases h
  obtain ⟨h1,h2⟩:=T.loc hi
  exact ⟨_,tg_nm i,L2.pg_name (X:=X.nox) T.nd' h1 h2 (.inl (T.fn _))⟩
 | Tuple es j p =>
  rcases es with _ | ⟨a,_ | ⟨b,_ | ⟨_,_⟩⟩⟩
  ·cases h
  ·cases h
  ·obtain ⟨x,hx,h⟩:=bd_ok h
   obtain ⟨y,hy,h⟩:=bd_ok h
   obtain ⟨i,hi,h⟩:=bd_ok h
   obtain ⟨j,hj,h⟩:=bd_ok h
   cases h
   obtain ⟨_,rfl⟩:=qGX hx
   obtain ⟨_,rfl⟩:=qGX hy
   obtain ⟨h1,h2⟩:=T.loc hi
   obtain ⟨h3,h4⟩:=T.loc hj
   exact ⟨_,qN5 i j,L2.pg_tup (X:=X.nox) hc (L2.pgs_cons (L2.pg_name (X:=X.nox) T.nd' h1 h2 (.inl (T.fn _))) (L2.pgs_cons (L2.pg_name (X:=X.nox) T.nd' h3 h4 (.inl (T.fn _))) L2.pgs_nil))⟩
  ·cases h
 | _=>cases h
theorem qPK {n:Nat} (S:AllS F k B ex (rsN n)) (X:Cx) (c:Cc) (W:WX) (T:BodyS X c F k ex W) {tg it:Expr} {a:List Stmt} {pos:Pos} {t:TG} {z:CI} {y:CS} (ht:isTg c tg=some t) (hz:(rcN n).i c it=some z) (hy:(rsN n).ss c.still a=some y) (hcm:c.calm=true):PS X (.For tg it a [] pos) (tDS X.K W (denS F B (.fori t z y))):=by
 have T':=qEr T
 have A':=all_e (k:=k) (ex:=ex) n X.nox c WF { T'.toBody with }
 obtain ⟨g,g1,g2⟩:=tg_of T (T.calm hcm) ht
 exact qOO g1 (T.calm hcm) (A'.i _ _ z hz).1 g2 (S.ss _ _ _ T' _ y hy) (qCD (A'.i (.Name "" ⟨0,0,0,0⟩) _ z hz).2)
theorem en_ok {n:Nat} (S:AllS F k B ex (rsN n)) (X:Cx) (c:Cc) (W:WX) (T:BodyS X c F k ex W) {tg l:Expr} {a:List Stmt} {p q pos:Pos} {cs:CS} (h:sEn (rcN n) (rsN n) c tg l a=some cs):PS X (.For tg (.Call (.Name "enumerate" p) [l] [] q) a [] pos) (tDS X.K W (denS F B cs)):=by
 unfold sEn at h
 obtain ⟨t,ht,h⟩:=bd_ok h
 cases t with
 | nm i=>cases h
 | two i j =>
  obtain ⟨z,hz,h⟩:=bd_ok h
  obtain ⟨y,hy,h⟩:=bd_ok h
  obtain ⟨hs,rfl⟩:=qAE h
  obtain ⟨hs,h3⟩:=Bool.and_eq_true_iff.mp hs
  obtain ⟨hcm,h2⟩:=Bool.and_eq_true_iff.mp hs
  have T':=qEr T
  have A':=all_e (k:=k) (ex:=ex) n X.nox c WF { T'.toBody with }
  obtain ⟨g,g1,g2⟩:=tg_of T (T.calm hcm) ht
  obtain ⟨k1,k2,k3,k4⟩:=T.gl (qDg h3)
  cases tg with
  | Tuple es jj pp=>exact qON g1 (T.calm hcm) k1 k4 (A'.e _ z hz) (star1 h2) g2 (S.ss _ _ _ T' _ y hy)
  | Name x pp=>obtain ⟨_,_,h⟩:=bd_ok ht;cases h
  | _=>cases ht
theorem qOB {n:Nat} (S:AllS F k B ex (rsN n)) (X:Cx) (c:Cc) (W:WX) (T:BodyS X c F k ex W) (st:Stmt) (cs:CS) (h:stS (rcN n) (rsN n) c st=some cs):PS X st (tDS X.K W (denS F B cs)):=by
 have A:=all_e (k:=k) (ex:=ex) n X c W T.toBody
 cases st with
 | Assign ts e spos =>
  rcases ts with _ | ⟨t,_ | ⟨_,_⟩⟩
  ·cases h
  ·exact qOI T h
  ·cases h
 | Expr e pos =>
  obtain ⟨y,hy,h⟩:=bd_ok h
  obtain ⟨hn,rfl⟩:=qAE h
  exact s_exp (A.e _ y hy) (qEq hn)
 | Return v pos =>
  cases v with
  | none=>cases h;exact qOL
  | some e=>obtain ⟨y,hy,h⟩:=bd_ok h;cases h;exact s_ret (A.e _ y hy)
 | Pass pos=>cases h;exact qOM
 | Break pos=>cases h;exact s_brk
 | Continue pos=>cases h;exact s_cnt
 | If t a b pos =>
  obtain ⟨z,hz,h⟩:=bd_ok h
  obtain ⟨x,hx,h⟩:=bd_ok h
  obtain ⟨y,hy,h⟩:=bd_ok h
  cases h
  exact s_if (A.t _ z hz) (S.ss X c W T _ x hx) (S.ss X c W T _ y hy)
 | While t a els pos =>
  cases els with
  | cons _ _=>cases h
  | nil =>
   obtain ⟨z,hz,h⟩:=bd_ok h
   obtain ⟨x,hx,h⟩:=bd_ok h
   cases h
   have T':=qEr T
   exact qL4 ((all_e (k:=k) (ex:=ex) n _ _ _ T'.toBody).t _ z hz) (S.ss _ _ _ T' _ x hx)
 | For tg it a els pos =>
  cases els with
  | cons _ _=>cases h
  | nil =>
   have h:(match isEn it with | some e=>sEn (rcN n) (rsN n) c tg e a | none=>(isTg c tg).bind fun t=>((rcN n).i c it).bind fun z=>((rsN n).ss c.still a).bind fun y=>need c.calm (.fori t z y))=some cs:=h
   cases q:isEn it with
   | some e =>
    rw [q] at h
    obtain ⟨_,_,rfl⟩:=qM0 q
    exact en_ok S X c W T h
   | none =>
   rw [q] at h
   obtain ⟨t,ht,h⟩:=bd_ok h
   obtain ⟨z,hz,h⟩:=bd_ok h
   obtain ⟨y,hy,h⟩:=bd_ok h
   obtain ⟨hcm,rfl⟩:=qAE h
   exact qPK S X c W T ht hz hy hcm
 | _=>cases h
theorem s_opq {st:Stmt}:PS X st (tDS X.K W (denS F B .opq)):=fun pins s σ H D I t=>by
 obtain ⟨ρ,env,h,st,r,p⟩:=t
 rw [denS] at p
 exact False.elim p
theorem s_get {n:Nat} (S:AllS F k B ex (rsN n)) {X:Cx} {c:Cc} {W:WX} (T:BodyS X c F k ex W) (st:Stmt):PS X st (tDS X.K W (denS F B (((rsN n).s c st).getD .opq))):=by
 cases q:(rsN n).s c st with
 | none=>exact s_opq
 | some x=>exact S.s X c W T st x q
theorem s_one {st:Stmt} {a:CS} (h1:PS X st (tDS X.K W (denS F B a))):PSs X [st] (tDS X.K W (denS F B a)):=L2.pss_one h1
theorem qL0 {n:Nat} (S:AllS F k B ex (rsN n)) (X:Cx) (c:Cc) (W:WX) (T:BodyS X c F k ex W) (st:List Stmt) (cs:CS) (h:ssS (rsN n) c st=some cs):PSs X st (tDS X.K W (denS F B cs)):=by
 cases st with
 | nil=>cases h;exact s_nil
 | cons s r =>
  cases r with
  | nil=>cases h;exact s_one (s_get S T _)
  | cons t r=>obtain ⟨y,hy,h⟩:=bd_ok h;cases h;exact qOP (s_get S T _) (S.ss X c W T _ y hy)
theorem qOF {n:Nat} (S:AllS F k B ex (rsN n)) (X:Cx) (c:Cc) (W:WX) (T:BodyS X c F k ex W) (hs:List ExceptHandler) (ch:CH) (h:hS (rsN n) c hs=some ch):HOf X F B ex hs ch:=by
 cases h
theorem all_s:∀ n,AllS F k B ex (rsN n)
 | 0=>{ s:=fun _ _ _ _ _ _ h=>(nomatch h),ss:=fun _ _ _ _ _ _ h=>(nomatch h),h:=fun _ _ _ _ _ _ h=>(nomatch h) }
 | n+1 =>
  have S:=all_s n
  ⟨qOB S,qL0 S,qOF S⟩
end
end Fy
set_option Elab.async false
set_option linter.all false
set_option maxRecDepth 100000
set_option maxHeartbeats 4000000
namespace Fy
open PySem PySem.Spec PyProof.Rows
open L2 (XK frs V Hp HO VK TE TT TA TS TI Cx Inv RelV Vals SqL SqT Rd upd qAA qAB PE PT PA PS PSs EP OpR CallR IxR MtR SlR PO TO PI PG PIE Turn FpOk Ends)
structure Df where
 name:Str
 qual:Str
 st:Stmt
 N:List Str
 ps:List Str
structure DfOk (G:List (Str × GK)) (xs:List (Nat × List Nat)) (Mt:List (Str × Nat × List (Nat × Nat))) (At:List (Str × Nat × List Nat)) (d:Df) (f:Fn):Prop where
 sc:L2.FnScope d.N d.ps (L2.defScope d.st)
 cp:cSs ⟨d.N,L2.defScope d.st,G,xs,true,true,Mt,At⟩ 100 (L2.defBody d.st)=some f.body
 ar:f.ar=d.ps.length
 sl:f.sl=d.N.length
noncomputable def DfIn (K:PySem.W.Frag) (d:Df) (f:Addr) (fd:FuncData):Prop:=L2.Fun K d.name d.qual d.st f fd∧L2.Binds K fd d.ps []
noncomputable def ConIn (mg:Str→Option Value) (x:Str) (d:D):Prop:=∃ v u,mg x=some u∧RelV v u∧∀ K ρ H,RepV K ρ H d v
noncomputable def exOf (K:PySem.W.Frag) (xl:List Nat) (c:Nat):Option Addr:=if xl.contains c then (match PySem.W.nsIn K mainGlobals (nmOf c) with | some (some (.ref C))=>some C | _=>none) else none
theorem qCF {K:PySem.W.Frag} {xl:List Nat} {c:Nat} {C:Addr} (h:exOf K xl c=some C):c∈xl∧ClsAt K c C:=by
 unfold exOf at h
 split at h
 ·rename_i q
  refine ⟨by simpa using q,?_⟩
  split at h
  ·rename_i C' z
   cases h
   exact z
  ·cases h
 ·cases h
theorem qFG {K:PySem.W.Frag} {xl:List Nat} {c:Nat} {C:Addr} {x:Str} (hc:xl.contains c=true) (hx:nmOf c=x) (h:PySem.W.nsIn K mainGlobals x=some (some (.ref C))):exOf K xl c=some C:=by
 unfold exOf
 rw [if_pos hc,hx,h]
theorem qAC {K:PySem.W.Frag} {c:Nat} {C D:Addr} {x:Str} (h:ClsAt K c D) (hx:nmOf c=x) (ha:PySem.W.nsIn K mainGlobals x=some (some (.ref C))):D=C:=by
 unfold ClsAt at h
 rw [hx,ha] at h
 cases h
 rfl
noncomputable def GlP (K:PySem.W.Frag) (mg:Str→Option Value) (xl:List Nat) (ds:List Df) (x:Str) (g:GK):Prop:=match g with
 | .fn i=>∃ d f fd,ds[i]?=some d∧mg x=some (.ref f)∧DfIn K d f fd
 | .con d=>ConIn mg x d
 | .blt=>mg x=none
 | .exc c=>∃ C,mg x=some (.ref C)∧exOf K xl c=some C∧isXC K C=true
 | .cls c i=>∃ C d f fd,mg x=some (.ref C)∧ClsAt K c C∧L2.Cls K C∧L2.Mk K C f∧ds[i]?=some d∧DfIn K d f fd
noncomputable def MtP (K:PySem.W.Frag) (ds:List Df) (m:Str) (mk:Nat) (tb:List (Nat × Nat)):Prop:=m=nmOf mk∧mk<256 ^ 60∧∀ cc fi C,tbN tb cc=some fi→ClsAt K cc C→L2.Cls K C∧∃ d f fd,L2.Meth K C m f∧ds[fi]?=some d∧DfIn K d f fd
noncomputable def AtP (K:PySem.W.Frag) (f:Str) (kk:Nat) (cs:List Nat):Prop:=f=nmOf kk∧kk<256 ^ 60∧∀ cc C,cs.contains cc=true→ClsAt K cc C→L2.NoAttr K C (nmOf kk)
noncomputable def AllP {α:Type} (P:α→Prop):List α→Prop
 | []=>True
 | a::r=>P a∧AllP P r
theorem AllP.of {α:Type} {P:α→Prop} {l:List α} (h:AllP P l) {a:α} (ha:a∈l):P a:=by
 induction l with
 | nil=>cases ha
 | cons b r ih =>
  rcases List.mem_cons.mp ha with e | e
  ·rw [e];exact h.1
  ·exact ih h.2 e
noncomputable def AllZ {α β:Type} (P:α→β→Prop):List α→List β→Prop
 | a::r,b::q=>P a b∧AllZ P r q
 | _,_=>True
theorem AllZ.of {α β:Type} {P:α→β→Prop} {l:List α} {m:List β} (h:AllZ P l m) {i:Nat} {a:α} {b:β} (ha:l[i]?=some a) (hb:m[i]?=some b):P a b:=by
 induction l generalizing m i with
 | nil=>cases ha
 | cons x r ih =>
  cases m with
  | nil=>cases hb
  | cons y q =>
   cases i with
   | zero=>cases ha;cases hb;exact h.1
   | succ i=>exact ih h.2 (by simpa using ha) (by simpa using hb)
noncomputable def qAN (d:Df):Prop:=∀ (kV doc pm:Value) (an:Option Addr) (cdv ct:Value) (us:List Value),us.length=d.ps.length→bindArgs (PySem.W.fnOf d.name d.qual (L2.defArgs d.st) (L2.defBody d.st) (L2.defScope d.st) .none kV doc pm an cdv ct) ⟨us,[]⟩=pure (d.ps.zip us)
section
variable {P:List Value→Prop}
theorem ar1 (h:∀ a,P [a]):∀ us:List Value,us.length=1→P us
 | [a],_=>h a
theorem ar2 (h:∀ a b,P [a,b]):∀ us:List Value,us.length=2→P us
 | [a,b],_=>h a b
theorem ar3 (h:∀ a b c,P [a,b,c]):∀ us:List Value,us.length=3→P us
 | [a,b,c],_=>h a b c
theorem ar4 (h:∀ a b c d,P [a,b,c,d]):∀ us:List Value,us.length=4→P us
 | [a,b,c,d],_=>h a b c d
end
theorem df_mk {K:PySem.W.Frag} {d:Df} {f:Addr} {oc:Value} {od an:Option Addr} {osl:Array (Option Value)} {kV doc pm cdv ct:Value} (p:qAN d)
    (l:K.lookup f=some ⟨oc,od,.func (PySem.W.fnOf d.name d.qual (L2.defArgs d.st) (L2.defBody d.st) (L2.defScope d.st) .none kV doc pm an cdv ct),osl⟩) (c:PySem.W.codeIn K cdv d.qual=true) (k:PySem.W.keepIn K (.ref f)=true) :
    ∃ fd,DfIn K d f fd:=⟨_,L2.fun_mk l c k,(L2.fun_mk l c k).binds p⟩
section
variable {K:PySem.W.Frag} {mg:Str→Option Value} {xl:List Nat} {ds:List Df} {h:Heap} {x:Str}
theorem gl_fn {i:Nat} {d:Df} {f:Addr} (X:K.In h) (Gm:h.Ns mainGlobals mg) (hd:ds[i]?=some d) (a:PySem.W.nsIn K mainGlobals x=some (some (.ref f))) (D:∃ fd,DfIn K d f fd):GlP K mg xl ds x (.fn i):=by
 obtain ⟨fd,D⟩:=D
 exact ⟨d,f,fd,hd,PySem.W.mg_of X Gm a,D⟩
theorem qI9 {i c:Nat} {C f:Addr} {d:Df} (X:K.In h) (Gm:h.Ns mainGlobals mg) (hd:ds[i]?=some d) (hx:nmOf c=x) (a:PySem.W.nsIn K mainGlobals x=some (some (.ref C))) (q:L2.Cls K C) (m:L2.Mk K C f) (D:∃ fd,DfIn K d f fd):GlP K mg xl ds x (.cls c i):=by
 obtain ⟨fd,D⟩:=D
 exact ⟨C,d,f,fd,PySem.W.mg_of X Gm a,(by unfold ClsAt;rw [hx];exact a),q,m,hd,D⟩
theorem qI8 {c:Nat} {C:Addr} (X:K.In h) (Gm:h.Ns mainGlobals mg) (hc:xl.contains c=true) (hx:nmOf c=x) (a:PySem.W.nsIn K mainGlobals x=some (some (.ref C))) (e:isXC K C=true):GlP K mg xl ds x (.exc c) :=
 ⟨C,PySem.W.mg_of X Gm a,qFG hc hx a,e⟩
theorem qD0 {n:Int} {t:Tok} (X:K.In h) (Gm:h.Ns mainGlobals mg) (a:PySem.W.nsIn K mainGlobals x=some (some (.int n t))):GlP K mg xl ds x (.con (.int n)):=⟨.int _,_,PySem.W.mg_of X Gm a,⟨_,rfl⟩,fun _ _ _=>rfl⟩
theorem qCy (X:K.In h) (Gm:h.Ns mainGlobals mg) (a:PySem.W.nsIn K mainGlobals x=some none):GlP K mg xl ds x .blt:=PySem.W.mg_none_of X Gm a
end
structure Top (K:PySem.W.Frag) (mg:Str→Option Value) (G:List (Str × GK)) (xs:List (Nat × List Nat)) (xl:List Nat) (Mt:List (Str × Nat × List (Nat × Nat))) (At:List (Str × Nat × List Nat)) (ds:List Df) (fns:List Fn):Prop where
 ok:∀ (i:Nat) (d:Df) (f:Fn),ds[i]?=some d→fns[i]?=some f→DfOk G xs Mt At d f
 len:ds.length=fns.length
 gl:∀ x g,(x,g)∈G→GlP K mg xl ds x g
 mt:∀ m mk tb,(m,mk,tb)∈Mt→MtP K ds m mk tb
 at':∀ f kk cs,(f,kk,cs)∈At→AtP K f kk cs
 xm:∀ (i:Nat) (cs:List Nat) (C:Addr) (j:Nat) (D:Addr),(i,cs)∈xs→exOf K xl i=some C→exOf K xl j=some D→PySem.W.exmOne K (.ref D) (.ref C)=some (cs.contains j)
 xk:∀ (i:Nat) (cs:List Nat),(i,cs)∈xs→xl.contains i=true→cs.contains i=true
 xl1:∀ (cs:List Nat),(1,cs)∈xs→cs=xl
 xv:∀ (cs:List Nat) (j:Nat) (D:Addr),(0,cs)∈xs→exOf K xl j=some D→PySem.W.exmOne K (.ref D) (.type "ValueError")=some (cs.contains j)
 xg:∀ (j:Nat) (D:Addr),exOf K xl j=some D→XGet K D
theorem lookup_mem' {α β:Type} [BEq α] [LawfulBEq α] {l:List (α × β)} {x:α} {g:β} (h:l.lookup x=some g):(x,g)∈l:=by
 induction l with
 | nil=>cases h
 | cons p l ih =>
  obtain ⟨a,b⟩:=p
  rw [List.lookup_cons] at h
  cases q:(x == a) with
  | true =>
   rw [q] at h
   cases h
   have:x=a:=by simpa using q
   subst this
   exact List.mem_cons_self ..
  | false =>
   rw [q] at h
   exact List.mem_cons_of_mem _ (ih h)
theorem PostS.fin {K:PySem.W.Frag} {Q:VK} {w:W1} {ρ:List Addr} {H:Hp} {r:SR} (p:PostV K w Q ρ H (fin r)):PostS K (fun c _ H'=>w c H') { nx:=fun _ H'=>Q .non H',rt:=Q } ρ H r:=by
 cases r with
 | nx e h=>exact fun ρ' H' st e' r' s'=>p ρ' H' e' r' .non rfl
 | rt d h=>exact fun ρ' H' v e' r' hv=>p ρ' H' e' r' v hv
 | bk e h=>exact False.elim p
 | ct e h=>exact False.elim p
 | exc c e h=>exact fun ρ' H' st e' r' s'=>p ρ' H' e' r'
 | bad=>exact False.elim p
theorem PSs.wish {X:Cx} {E:Value→Shared→Prop} {st:List Stmt} {t:TS} (h:PSs (X.wish E) st t) (hE:∀ e s,E e s→X.xe e s):PSs X st t:=fun pins s σ H D I hw =>
 wpAny_mono (h pins s σ H D (I.wish _) hw) (fun _ _ q=>q.unwish) hE
theorem RepS.start {K:PySem.W.Frag} {ρ:List Addr} {H:Hp} {N:List Str} {ds:List D} {vs:List V} {n:Nat} (l:RepL K ρ H ds vs) (hn:n=N.length-vs.length):RepS K ρ H (ds.map some++List.replicate n none) (L2.start N vs):=by
 subst hn
 unfold L2.start
 refine ⟨by simp [l.length],fun i d hi=>?_⟩
 by_cases hlt:i<ds.length
 ·rw [List.getElem?_append_left (by simpa using hlt),List.getElem?_map] at hi
  cases q:ds[i]? with
  | none=>rw [q] at hi;cases hi
  | some d' =>
   rw [q] at hi
   cases hi
   obtain ⟨v,h1,h2⟩:=l.get q
   refine ⟨v,?_,h2⟩
   rw [List.getElem?_append_left (by simpa [l.length] using hlt),List.getElem?_map,h1]
   rfl
 ·rw [List.getElem?_append_right (by simpa using hlt),List.getElem?_replicate] at hi
  split at hi <;> cases hi
noncomputable def bodyE (X0:Cx) (ex:Nat→Option Addr) (E:XK):Value→Shared→Prop:=fun e s' =>
 (∃ pins σ H1 s1,Inv X0 pins σ H1 s1∧CXD X0.prog X0.w ex X0.stack H1 s1 (fun _ co H'=>∃ c,co=some c∧∀ e,E e (some c) H') e s') ∨
 (∃ pins σ H1 s1 a args h' c C,ex c=some C∧Inv X0 pins σ H1 s1∧Heap.MadeExcOf s1.heap h' a (.ref C) args∧(∀ e,E e (some c) H1)∧e=.ref a∧s'={ s1 with heap:=h' })
theorem qHM {P:Program} {w:World} {K:PySem.W.Frag} {mg:Str→Option Value} {base:Heap} {G:List (Str × GK)} {xs:List (Nat × List Nat)} {xl:List Nat} {Mt:List (Str × Nat × List (Nat × Nat))} {At:List (Str × Nat × List Nat)} {ds:List Df} {fns:List Fn} {B:Nat} (T:Top K mg G xs xl Mt At ds fns) :
    ∀ (n i:Nat) (d:Df) (f:Addr) (fd:FuncData),ds[i]?=some d→L2.Fun K d.name d.qual d.st f fd→L2.FnOk P w K mg base (CXD P w (exOf K xl)) (2*n) f fd d.ps (spD K (callN fns B n i))
  | 0,i,d,f,fd,hi,hf=>by
    refine ⟨fun vs H Q E h=>?_,fun A outer s H args us vs Q E hr he hb hv h=>?_⟩
    · obtain ⟨ρ,h0,ds,_,_,p⟩:=h
      exact False.elim p
    · obtain ⟨ρ,h0,ds,_,_,p⟩:=h
      exact False.elim p
  | n+1,i,d,f,fd,hi,hf=>by
    have hil:=(List.getElem?_eq_some_iff.mp hi).1
    have hfi:fns[i]?=some (fns[i]'(by rw [← T.len];exact hil)):=List.getElem?_eq_getElem _
    generalize fns[i]'(by rw [← T.len];exact hil)=fn at hfi
    have O:=T.ok i d fn hi hfi
    have key:∀ {ds:List D} {h:AH},callN fns B (n+1) i ds h=runFn (callN fns B n) B fn ds h:=by
      intro ds h
      rw [callN,hfi]
    have arity:∀ {w:W1} {Q:VK} {ρ:List Addr} {H:Hp} {ds:List D} {h:AH},PostV K w Q ρ H (callN fns B (n+1) i ds h)→ds.length=fn.ar∧PostV K w Q ρ H (fin (denS (callN fns B n) B fn.body (ds.map some++List.replicate (fn.sl-fn.ar) none) h)):=by
      intro w Q ρ H ds h p
      rw [key,runFn] at p
      exact PostV.ite p
    obtain ⟨oc,od,kV,doc,pm,an,cdv,ct,osl,rfl,lk,hcd⟩:=hf.ex
    refine L2.fn_of lk hcd O.sc (fun vs H Q E h=>?_) fun A outer s H vs Q E hr h=>?_
    · obtain ⟨ρ,h0,ds,_,l,p⟩:=h
      rw [l.length,(arity p).1,O.ar]
    · obtain ⟨ρ,h0,ds',r,l,p⟩:=h
      obtain ⟨ha,p⟩:=arity p
      refine ⟨tDS K (fun c _ H'=>∀ e,E e (some c) H') (denS (callN fns B n) B fn.body),?_,ρ,ds'.map some++List.replicate (fn.sl-fn.ar) none,h0,RepS.start l (by rw [O.sl,l.length,ha]),r,PostS.fin p⟩
      refine PSs.wish (E:=bodyE (cxX (exOf K xl) P w K mg base d.N d.qual (L2.defScope d.st) f cdv A outer s H E) (exOf K xl) E) ?_ fun e s' z=>?_
      · have T':BodyS ((cxX (exOf K xl) P w K mg base d.N d.qual (L2.defScope d.st) f cdv A outer s H E).wish (bodyE (cxX (exOf K xl) P w K mg base d.N d.qual (L2.defScope d.st) f cdv A outer s H E) (exOf K xl) E)) ⟨d.N,L2.defScope d.st,G,xs,true,true,Mt,At⟩ (callN fns B n) (2*n) (exOf K xl) (fun c _ H'=>∀ e,E e (some c) H'):=by
          refine ⟨⟨rfl,O.sc.nd,rfl,fun _=>rfl,fun _=>hr,hr.units,fun x g hg=>?_,fun i cs xl' C j D h h1 hC hD hj=>?_,fun cs xl' j D h h1 hD hj=>?_,fun m mk tb hm=>?_,fun f kk cs hf=>T.at' f kk cs (lookup_mem' hf),fun xl' j D h1 hD hj=>?_,fun pins σ H1 s1 e s' I x=>.inl ⟨pins,σ,H1,s1,I.unwish,x⟩⟩,fun _=>rfl,⟨rfl,rfl⟩,rfl,fun i C h=>(qCF h).2,fun _ pins σ H1 s1 a args h' c C hc I m hw=>.inr ⟨pins,σ,H1,s1,a,args,h',c,C,hc,I.unwish,m,hw,rfl,rfl⟩,fun i cs C j D h=>T.xm i cs C j D (lookup_mem' h)⟩
          · have gm:=T.gl x g (lookup_mem' hg)
            cases g with
            | fn j =>
              obtain ⟨d',f',fd',hd',hm,hF,hB⟩:=gm
              exact ⟨f',fd',d'.ps,hm,hF.kp,hB,qHM T n j d' f' fd' hd' hF⟩
            | con e =>
              obtain ⟨v,u,h1,h2,h3⟩:=gm
              exact ⟨v,u,h1,h2,fun ρ H=>h3 _ ρ H⟩
            | blt=>exact gm
            | exc c=>exact gm
            | cls c j =>
              obtain ⟨C,d',f',fd',hm,h1,h2,h3,hd',hF,hB⟩:=gm
              exact ⟨C,f',fd',d'.ps,hm,h1,h2,h3,hB,qHM T n j d' f' fd' hd' hF⟩
          · have e:=T.xl1 _ (lookup_mem' h1)
            subst e
            have hD':=qFG hj rfl hD
            have q1:=T.xm i cs C j D (lookup_mem' h) hC hD'
            refine qLT q1 fun z=>?_
            have e:D=C:=Value.ref.inj (beq_iff_eq.mp z)
            subst e
            have q2:=T.xm i cs D i D (lookup_mem' h) hC hC
            rw [T.xk i cs (lookup_mem' h) (by simpa using (qCF hC).1)] at q2
            exact Option.some.inj (q1.symm.trans q2)
          · have e:=T.xl1 _ (lookup_mem' h1)
            subst e
            exact qLT (T.xv cs j D (lookup_mem' h) (qFG hj rfl hD)) fun z=>by cases beq_iff_eq.mp z
          · obtain ⟨m1,m2,m3⟩:=T.mt m mk tb (lookup_mem' hm)
            refine ⟨m1,m2,fun cc fi C ht hC=>?_⟩
            obtain ⟨k1,d',f',fd',k2,k3,k4,k5⟩:=m3 cc fi C ht hC
            exact ⟨k1,f',fd',d'.ps,k2,k5,qHM T n fi d' f' fd' k3 k4⟩
          · have e:=T.xl1 _ (lookup_mem' h1)
            subst e
            exact T.xg j D (qFG hj rfl hD)
        exact (all_s 100).ss _ _ _ T' _ _ O.cp
      · rcases z with ⟨pins,σ,H1,s1,I,x⟩ | ⟨pins,σ,H1,s1,a,args,h',c,C,hc,I,m,hw,rfl,rfl⟩
        · exact qIp (W:=fun c _ H'=>∀ e,E e (some c) H') (fun _ _ _ z=>z) I x
        · exact qHl (W:=fun c _ H'=>∀ e,E e (some c) H') (fun _ _ _ z=>z) I hc m hw
theorem qO0 {K:PySem.W.Frag} {m:List D→M D} (hm:∀ ns:List Int,ns.length≤63→∃ h',m [.ref 0] [.rol (ns.map .int)]=.ok (.bl true) h') (H:Hp) (a:Addr) (ns:List Int) (hl:ns.length≤63) (hO:L2.Only H) (hS:SqL K H a (ns.map V.int)) {E:L2.XK} :
    spD K m [.ref a] H (fun v _=>v=.bl true) E:=by
  have hr:∀ ns:List Int,RepL K [a] H (ns.map .int) (ns.map V.int):=fun ns=>by
    induction ns with
    | nil=>rfl
    | cons x ns ih=>exact ⟨_,_,rfl,rfl,ih⟩
  refine ⟨[a],[.rol (ns.map .int)],[.ref 0],⟨rfl,fun i o hi=>?_,fun i j b o1 o2 hi hj m1 m2 _ _=>?_⟩,⟨.ref a,[],rfl,⟨a,rfl,rfl⟩,rfl⟩,?_⟩
  · cases i with
    | succ i=>simp at hi
    | zero =>
      cases hi
      refine ⟨a,rfl,ns.map V.int,?_,hr ns⟩
      rcases hS with (h | ⟨o,h⟩) | h
      · rcases hO a with z | ⟨o,xs,z⟩
        · rw [h] at z;cases z
        · rw [h] at z;cases z
      · exact .inl ⟨o,h⟩
      · exact .inr h
  · cases i with
    | succ i=>simp at hi
    | zero=>cases hi;cases m1
  · obtain ⟨h',e⟩:=hm ns hl
    rw [e]
    exact fun ρ' H' _ _ v hv=>hv
theorem walk {l:PySem.W.OpenLaw} {q:Program} {loose:List Str} {XP:(Str→Option Value)→Heap→Prop} {YP:World→Heap→Prop} {dr:DefRec} {K:Params→PySem.W.Frag} {G:List (Str × GK)} {xs:List (Nat × List Nat)} {xl:List Nat} {Mt:List (Str × Nat × List (Nat × Nat))} {At:List (Str × Nat × List Nat)} {ds:List Df} {fns:List Fn} {B i:Nat} {d:Df} {x:Str}
    (hn:l.most=some 63) (hdf:dr.params.defaults=[]) (hi:ds[i]?=some d) (hG:(dr.name,GK.fn i)∈G) (hq:d.qual=d.name) (hps:d.ps=[x])
    (hY:∀ (w:World) (h:Heap),YP w h→(K w.params).In h)
    (T:∀ (w:World) (mg:Str→Option Value) (h:Heap),(K w.params).In h→h.Ns mainGlobals mg→Top (K w.params) mg G xs xl Mt At ds fns)
    (hm:∀ ns:List Int,ns.length≤63→∃ h',callN fns B 40 i [.ref 0] [.rol (ns.map .int)]=.ok (.bl true) h')
    (hbnd:∀ (fd:FuncData) (f:Addr) (K:PySem.W.Frag),L2.Fun K d.name d.name d.st f fd→∀ (s:Shared) (u:Value),BindsTo s fd ⟨[u],[]⟩ [(x,u)]) :
    PySem.W.WalkO q loose XP YP l.row.toRowW dr [] (fun f vs=>PySem.call f vs):=by
  refine L2.walk_of (n:=63) (k:=80) (x:=x) (K:=K) (CX:=fun w=>CXD l.prog w (exOf (K w.params) xl)) (sp:=fun w=>spD (K w.params) (callN fns B 40 i)) hn (by decide) hdf ⟨rfl,by decide,by decide⟩ hY (fun w mg fa h KX Gm hmg=>?_) (fun w H a ns hl hO hS=>qO0 hm H a ns hl hO hS) fun w H s e s' z=>?_
  · have T':=T w mg h KX Gm
    obtain ⟨d',f,fd,h0,h1,h2,h3⟩:=T'.gl _ _ hG
    rw [hi] at h0
    cases h0
    rw [h1] at hmg
    cases hmg
    refine ⟨fd,hbnd fd _ _ (hq ▸ h2),fun base kb nb=>?_⟩
    have:=qHM (P:=l.prog) (w:=w) (base:=base) (B:=B) T' 40 i d _ fd hi h2
    rw [hps] at this
    exact this
  · obtain ⟨_,_,_,_,_,_,_,_,_,_,_,_,_,_,q⟩:=z
    exact q
end Fy
set_option Elab.async false
set_option linter.all false
set_option maxRecDepth 100000
namespace Lk27
open Fy PySem
noncomputable abbrev qLA:Nat:=332437021739526678278002
noncomputable abbrev qPl:Nat:=86240048210286
noncomputable abbrev qPm:Nat:=298204816740
noncomputable abbrev qNb:Nat:=23766421875286888
noncomputable abbrev qAD:Nat:=306712044914
noncomputable abbrev qBg:Nat:=358300611685
noncomputable abbrev qAO:Nat:=362411681138
noncomputable abbrev qLV:Nat:=1836020596
noncomputable abbrev qB8:Nat:=1952807028
noncomputable abbrev qIt:Nat:=1936027252
noncomputable abbrev qIv:Nat:=1668246885
noncomputable abbrev qDI:Nat:=465625246068
noncomputable abbrev qB9:Nat:=495806672499
noncomputable abbrev qDK:Nat:=7598521885552567652
noncomputable abbrev qBr:Nat:=127482042954642681340718708
noncomputable abbrev qDJ:Nat:=7598521898286281316
noncomputable abbrev qBi:Nat:=29681726098730597
noncomputable abbrev qDf:Nat:=108187682958948
noncomputable abbrev qLU:Nat:=1919905645
noncomputable abbrev qIs:Nat:=495739565157
noncomputable abbrev qDH:Nat:=8390043809167535716
noncomputable abbrev qIu:Nat:=1919246692
noncomputable def qCN:CS:=(.set (.nm 3) (.bi .add (.var 5) (.lit (.int 1))))
noncomputable def qCM:CS:=(.set (.nm 4) (.var 5))
noncomputable def qBQ:CS:=(.seq (.set (.nm 5) (.bi .fdiv (.bi .add (.var 3) (.var 4)) (.lit (.int 2)))) (.ite (.val (.bi .lt (.bi .ix (.bi .ix (.var 0) (.var 5)) (.var 1)) (.var 2))) qCN qCM))
noncomputable def qA9:CT:=(.val (.bi .lt (.var 3) (.var 4)))
noncomputable def qCL:CS:=(.ret (.var 3))
noncomputable def qBJ:CS:=(.seq (.set (.nm 3) (.lit (.int 0))) (.seq (.set (.nm 4) (.un .len (.var 0))) (.seq (.whil qA9 qBQ) qCL)))
noncomputable def qBK:CS:=(.ite (.val (.bi .lt (.var 0) (.lit (.int 0)))) .opq .skip)
noncomputable def qAV:CS:=(.seq (.exp (.call 1 (.cons (.var 0) .nil))) (.ite (.val (.bi .gt (.var 0) (.var 1))) .opq .skip))
noncomputable def qGG:CS:=(.seq (.set (.nm 1) (.bi .min2 (.var 1) (.bi .ix (.bi .ix (.var 0) (.var 3)) (.lit (.int 0))))) (.set (.nm 2) (.bi .max2 (.var 2) (.bi .ix (.bi .ix (.var 0) (.bi .sub (.var 4) (.lit (.int 1)))) (.lit (.int 1))))))
noncomputable def qEI:CS:=(.ret (.bi .add (.bi .add (.sl (.var 0) .no (.at (.var 3))) (.tup (.cons (.tup (.cons (.var 1) (.cons (.var 2) .nil))) .nil))) (.sl (.var 0) (.at (.var 4)) .no)))
noncomputable def qGF:CS:=(.seq (.set (.nm 3) (.call 0 (.cons (.var 0) (.cons (.lit (.int 1)) (.cons (.var 1) .nil))))) (.seq (.set (.nm 4) (.call 0 (.cons (.var 0) (.cons (.lit (.int 0)) (.cons (.bi .add (.var 2) (.lit (.int 1))) .nil))))) (.seq (.ite (.val (.bi .lt (.var 3) (.var 4))) qGG .skip) qEI)))
noncomputable def qEJ:CS:=(.seq (.exp (.call 2 (.cons (.var 1) (.cons (.var 2) .nil)))) (.seq (.ite (.val (.bi .eq (.var 1) (.var 2))) (.ret (.var 0)) .skip) qGF))
noncomputable def qGp:CS:=(.ret (.var 2))
noncomputable def b_cut:CS:=(.seq (.exp (.call 1 (.cons (.var 1) .nil))) (.seq (.set (.nm 2) (.sl (.var 0) (.at (.call 0 (.cons (.var 0) (.cons (.lit (.int 1)) (.cons (.bi .add (.var 1) (.lit (.int 1))) .nil))))) .no)) (.seq (.ite (.and (.val (.bi .gt (.un .len (.var 2)) (.lit (.int 0)))) (.val (.bi .lt (.bi .ix (.bi .ix (.var 2) (.lit (.int 0))) (.lit (.int 0))) (.var 1)))) (.ret (.bi .add (.tup (.cons (.tup (.cons (.var 1) (.cons (.bi .ix (.bi .ix (.var 2) (.lit (.int 0))) (.lit (.int 1))) .nil))) .nil)) (.sl (.var 2) (.at (.lit (.int 1))) .no))) .skip) qGp)))
noncomputable def qGE:CS:=(.exp (.me .append (.var 3) (.tup (.cons (.var 4) (.cons (.bi .ix (.var 5) (.lit (.int 0))) .nil)))))
noncomputable def qEH:CS:=(.set (.nm 4) (.bi .ix (.var 5) (.lit (.int 1))))
noncomputable def qGD:CS:=(.seq (.ite (.val (.bi .gt (.bi .ix (.var 5) (.lit (.int 0))) (.var 4))) qGE .skip) qEH)
noncomputable def qEG:CS:=(.seq (.ite (.val (.bi .ge (.bi .ix (.var 5) (.lit (.int 0))) (.var 2))) .brk .skip) qGD)
noncomputable def qGC:CS:=(.exp (.me .append (.var 3) (.tup (.cons (.var 4) (.cons (.var 2) .nil)))))
noncomputable def qEF:CS:=(.ret (.un .tuple (.var 3)))
noncomputable def qEE:CS:=(.seq (.ite (.val (.bi .lt (.var 4) (.var 2))) qGC .skip) qEF)
noncomputable def qFU:CS:=(.seq (.exp (.call 2 (.cons (.var 1) (.cons (.var 2) .nil)))) (.seq (.set (.nm 3) (.lst .nil)) (.seq (.set (.nm 4) (.var 1)) (.seq (.fori (.nm 5) (.of (.call 4 (.cons (.var 0) (.cons (.var 1) .nil)))) qEG) qEE))))
noncomputable def qBf:CS:=(.seq (.setF (.var 0) 1836020596 [306712044914,358300611685,362411681138] (.var 1)) (.seq (.setF (.var 0) 1952807028 [306712044914,358300611685,362411681138] (.lit (.str []))) (.seq (.setF (.var 0) 1936027252 [306712044914,358300611685,362411681138] (.lit (.int 0))) (.seq (.setF (.var 0) 1668246885 [306712044914,358300611685,362411681138] (.lit (.int 0))) (.seq (.setF (.var 0) 465625246068 [306712044914,358300611685,362411681138] (.lit (.int 1))) (.seq (.setF (.var 0) 495806672499 [306712044914,358300611685,362411681138] (.tup .nil)) (.seq (.setF (.var 0) 7598521885552567652 [306712044914,358300611685,362411681138] (.lit (.bl false))) (.seq (.setF (.var 0) 127482042954642681340718708 [306712044914,358300611685,362411681138] (.lit (.bl false))) (.seq (.setF (.var 0) 7598521898286281316 [306712044914,358300611685,362411681138] (.lit (.bl false))) (.setF (.var 0) 29681726098730597 [306712044914,358300611685,362411681138] (.lit (.bl false))))))))))))
noncomputable def qCR:CS:=(.setF (.var 0) 1952807028 [306712044914,358300611685,362411681138] (.bi .add (.un (.fld 1952807028) (.var 0)) (.var 1)))
noncomputable def qCQ:CS:=(.seq (.ite (.val (.bi .gt (.bi .add (.un .len (.un (.fld 1952807028) (.var 0))) (.un .len (.var 1))) (.lit (.int 2000)))) .opq .skip) qCR)
noncomputable def qCP:CS:=(.seq (.ite (.not (.val (.chain .le .le (.lit (.int 1)) (.un .len (.var 1)) (.lit (.int 200))))) .opq .skip) qCQ)
noncomputable def qBN:CS:=(.seq (.ite (.val (.un (.fld 7598521885552567652) (.var 0))) .opq .skip) qCP)
noncomputable def qB3:CS:=(.setF (.var 0) 7598521885552567652 [306712044914,358300611685,362411681138] (.lit (.bl true)))
noncomputable def qA4:CS:=(.seq (.ite (.val (.un (.fld 7598521885552567652) (.var 0))) .opq .skip) qB3)
noncomputable def qAy:CS:=(.seq (.setF (.var 0) 7598521898286281316 [306712044914,358300611685,362411681138] (.lit (.bl true))) (.seq (.setF (.var 0) 1668246885 [306712044914,358300611685,362411681138] (.bi .max2 (.un (.fld 1668246885) (.var 0)) (.var 1))) (.seq (.setF (.var 0) 465625246068 [306712044914,358300611685,362411681138] (.bi .max2 (.un (.fld 465625246068) (.var 0)) (.var 2))) (.seq (.setF (.var 0) 495806672499 [306712044914,358300611685,362411681138] (.meth 507330387524976831460456 [(306712044914,10)] (.var 0) (.cons (.var 3) .nil))) (.setF (.var 0) 29681726098730597 [306712044914,358300611685,362411681138] (.and (.un (.fld 7598521885552567652) (.var 0)) (.bi .eq (.un (.fld 1668246885) (.var 0)) (.bi .add (.un .len (.un (.fld 1952807028) (.var 0))) (.lit (.int 1))))))))))
noncomputable def qAG:CS:=(.seq (.set (.nm 4) (.ite (.val (.un (.fld 7598521885552567652) (.var 0))) (.bi .add (.un .len (.un (.fld 1952807028) (.var 0))) (.lit (.int 1))) (.un .len (.un (.fld 1952807028) (.var 0))))) (.seq (.ite (.or (.val (.bi .gt (.var 1) (.var 4))) (.val (.bi .lt (.bi .add (.var 2) (.lit (.int 1))) (.var 1)))) .retN .skip) qAy))
noncomputable def qBE:CS:=(.set (.nm 2) (.call 3 (.cons (.var 2) (.cons (.var 4) (.cons (.var 5) .nil)))))
noncomputable def qAU:CS:=(.seq (.set (.nm 4) (.bi .max2 (.bi .ix (.var 3) (.lit (.int 0))) (.un (.fld 1668246885) (.var 0)))) (.seq (.set (.nm 5) (.bi .min2 (.bi .ix (.var 3) (.lit (.int 1))) (.un .len (.un (.fld 1952807028) (.var 0))))) (.ite (.val (.bi .lt (.var 4) (.var 5))) qBE .skip)))
noncomputable def qBD:CS:=(.ret (.var 2))
noncomputable def qAh:CS:=(.seq (.set (.nm 2) (.call 4 (.cons (.un (.fld 495806672499) (.var 0)) (.cons (.un (.fld 1668246885) (.var 0)) .nil)))) (.seq (.fori (.nm 3) (.of (.var 1)) qAU) qBD))
noncomputable def qAn:CS:=(.exp (.me .append (.var 2) (.var 3)))
noncomputable def qAP:CS:=(.seq (.set (.nm 3) (.meth 2036453570056342827636 [(306712044914,12)] (.var 0) .nil)) (.seq (.ite (.val (.un .isN (.var 3))) .brk .skip) qAn))
noncomputable def qAH:CT:=(.val (.bi .lt (.un .len (.var 2)) (.var 1)))
noncomputable def qBC:CS:=(.ret (.var 2))
noncomputable def qAg:CS:=(.seq (.set (.nm 2) (.lst .nil)) (.seq (.whil qAH qAP) qBC))
noncomputable def qBU:CS:=(.seq (.setF (.var 0) 1936027252 [306712044914,358300611685,362411681138] (.var 2)) (.ret (.tup (.cons (.lit (.str [100,97,116,97])) (.cons (.var 1) (.cons (.sl (.un (.fld 1952807028) (.var 0)) (.at (.var 1)) (.at (.var 2))) .nil))))))
noncomputable def qBT:CS:=(.seq (.setF (.var 0) 127482042954642681340718708 [306712044914,358300611685,362411681138] (.lit (.bl true))) (.ret (.tup (.cons (.lit (.str [101,110,100])) (.cons (.var 1) .nil)))))
noncomputable def qAc:CS:=(.ret (.lit .non))
noncomputable def qBS:CS:=(.seq (.ite (.and (.val (.un (.fld 7598521885552567652) (.var 0))) (.and (.not (.val (.un (.fld 127482042954642681340718708) (.var 0)))) (.val (.bi .eq (.var 1) (.un .len (.un (.fld 1952807028) (.var 0))))))) qBT .skip) qAc)
noncomputable def qAY:CS:=(.seq (.set (.nm 1) (.un (.fld 1936027252) (.var 0))) (.seq (.set (.nm 2) (.bi .min2 (.bi .min2 (.bi .add (.var 1) (.un (.fld 1836020596) (.var 0))) (.un (.fld 465625246068) (.var 0))) (.un .len (.un (.fld 1952807028) (.var 0))))) (.seq (.ite (.val (.bi .lt (.var 1) (.var 2))) qBU .skip) qBS)))
noncomputable def qBO:CS:=(.ret (.sl (.meth 135859872665656628713974126 [(306712044914,14)] (.var 0) .nil) .no (.at (.var 1))))
noncomputable def qA7:CS:=(.ret (.lst .nil))
noncomputable def qAk:CS:=(.seq (.ite (.or (.val (.bi .lt (.un (.fld 1936027252) (.var 0)) (.un .len (.un (.fld 1952807028) (.var 0))))) (.not (.val (.un (.fld 7598521898286281316) (.var 0))))) (.ret (.lst (.cons (.tup (.cons (.lit (.str [100,97,116,97])) (.cons (.un (.fld 1936027252) (.var 0)) (.cons (.lit (.str [])) .nil)))) .nil))) .skip) qA7)
noncomputable def qA6:CS:=(.seq (.ite (.and (.val (.un (.fld 127482042954642681340718708) (.var 0))) (.not (.val (.un (.fld 29681726098730597) (.var 0))))) (.ret (.lst (.cons (.tup (.cons (.lit (.str [101,110,100])) (.cons (.un .len (.un (.fld 1952807028) (.var 0))) .nil))) .nil))) .skip) qAk)
noncomputable def qAb:CS:=(.seq (.set (.nm 1) (.meth 2279350429444218050288784390251891 [(306712044914,15)] (.var 0) .nil)) (.seq (.ite (.val (.bi .gt (.un .len (.var 1)) (.lit (.int 0)))) (.ret (.var 1)) .skip) qA6))
noncomputable def qAX:CS:=(.exp (.me .append (.var 1) (.tup (.cons (.lit (.str [100,97,116,97])) (.cons (.var 3) (.cons (.sl (.un (.fld 1952807028) (.var 0)) (.at (.var 3)) (.at (.bi .min2 (.bi .add (.var 3) (.un (.fld 1836020596) (.var 0))) (.bi .ix (.var 2) (.lit (.int 1)))))) .nil))))))
noncomputable def qAW:CS:=(.fori (.nm 3) (.rng3 (.bi .ix (.var 2) (.lit (.int 0))) (.bi .ix (.var 2) (.lit (.int 1))) (.un (.fld 1836020596) (.var 0))) qAX)
noncomputable def qAt:CS:=(.ret (.var 1))
noncomputable def qAQ:CS:=(.seq (.set (.nm 1) (.lst .nil)) (.seq (.fori (.nm 2) (.of (.call 5 (.cons (.un (.fld 495806672499) (.var 0)) (.cons (.un (.fld 1668246885) (.var 0)) (.cons (.bi .max2 (.un (.fld 1668246885) (.var 0)) (.un (.fld 1936027252) (.var 0))) .nil))))) qAW) qAt))
noncomputable def qBe:CS:=(.seq (.setF (.var 0) 1952807028 [306712044914,358300611685,362411681138] (.lit (.str []))) (.seq (.setF (.var 0) 495806672499 [306712044914,358300611685,362411681138] (.tup .nil)) (.setF (.var 0) 108187682958948 [306712044914,358300611685,362411681138] (.disp [] .nil))))
noncomputable def qBM:CS:=(.exp (.setd (.un (.fld 108187682958948) (.var 0)) (.var 5) (.bi .ix (.var 2) (.bi .sub (.var 5) (.var 1)))))
noncomputable def qDB:CS:=(.seq (.setF (.var 0) 495806672499 [306712044914,358300611685,362411681138] (.call 3 (.cons (.un (.fld 495806672499) (.var 0)) (.cons (.var 3) (.cons (.var 4) .nil))))) (.exp (.meth 28273260611201390 [(358300611685,18)] (.var 0) .nil)))
noncomputable def qDA:CS:=(.seq (.fori (.nm 5) (.rng2 (.var 3) (.var 4)) qBM) qDB)
noncomputable def qBL:CS:=(.seq (.set (.nm 3) (.bi .max2 (.var 1) (.un .len (.un (.fld 1952807028) (.var 0))))) (.seq (.set (.nm 4) (.bi .add (.var 1) (.un .len (.var 2)))) (.seq (.ite (.val (.bi .ge (.var 3) (.var 4))) .retN .skip) qDA)))
noncomputable def qA3:CS:=(.seq (.ite (.val (.bi .lt (.var 1) (.lit (.int 0)))) .opq .skip) qBL)
noncomputable def qAl:CS:=(.exp (.me .append (.var 2) (.me .pop (.un (.fld 108187682958948) (.var 0)) (.var 3))))
noncomputable def qBo:CS:=(.seq (.setF (.var 0) 1952807028 [306712044914,358300611685,362411681138] (.me .join (.lit (.str [])) (.var 2))) (.setF (.var 0) 495806672499 [306712044914,358300611685,362411681138] (.sl (.un (.fld 495806672499) (.var 0)) (.at (.lit (.int 1))) .no)))
noncomputable def qBn:CS:=(.seq (.set (.nm 2) (.lst (.cons (.un (.fld 1952807028) (.var 0)) .nil))) (.seq (.fori (.nm 3) (.rng2 (.bi .ix (.var 1) (.lit (.int 0))) (.bi .ix (.var 1) (.lit (.int 1)))) qAl) qBo))
noncomputable def qAj:CS:=(.seq (.set (.nm 1) (.bi .ix (.un (.fld 495806672499) (.var 0)) (.lit (.int 0)))) (.seq (.ite (.val (.bi .ne (.bi .ix (.var 1) (.lit (.int 0))) (.un .len (.un (.fld 1952807028) (.var 0))))) .retN .skip) qBn))
noncomputable def qEY:CS:=.opq
noncomputable def qCO:CS:=(.seq (.ite (.val (.chain .le .lt (.lit (.int 0)) (.var 1) (.un .len (.un (.fld 1952807028) (.var 0))))) (.ret (.bi .ix (.un (.fld 1952807028) (.var 0)) (.var 1))) .skip) qEY)
noncomputable def qBd:CS:=(.seq (.setF (.var 0) 1919905645 [306712044914,358300611685,362411681138] (.var 1)) (.seq (.setF (.var 0) 495739565157 [306712044914,358300611685,362411681138] (.make 358300611685 16 .nil)) (.seq (.setF (.var 0) 8390043809167535716 [306712044914,358300611685,362411681138] (.lit .non)) (.seq (.setF (.var 0) 1952807028 [306712044914,358300611685,362411681138] (.lit (.str []))) (.seq (.setF (.var 0) 1919246692 [306712044914,358300611685,362411681138] (.lit (.int 0))) (.seq (.setF (.var 0) 465625246068 [306712044914,358300611685,362411681138] (.var 1)) (.setF (.var 0) 29681726098730597 [306712044914,358300611685,362411681138] (.lit (.bl false)))))))))
noncomputable def qBR:CS:=(.seq (.set (.nm 3) (.ite (.val (.un .isN (.un (.fld 8390043809167535716) (.var 0)))) (.un (.fld 465625246068) (.var 0)) (.bi .min2 (.un (.fld 465625246068) (.var 0)) (.un (.fld 8390043809167535716) (.var 0))))) (.seq (.exp (.meth 7370100 [(358300611685,17),(362411681138,21)] (.un (.fld 495739565157) (.var 0)) (.cons (.var 1) (.cons (.sl (.var 2) .no (.at (.bi .max2 (.bi .sub (.var 3) (.var 1)) (.lit (.int 0))))) .nil)))) (.setF (.var 0) 1952807028 [306712044914,358300611685,362411681138] (.un (.fld 1952807028) (.un (.fld 495739565157) (.var 0))))))
noncomputable def qCb:CS:=(.seq (.setF (.var 0) 8390043809167535716 [306712044914,358300611685,362411681138] (.var 1)) (.exp (.meth 8315163747390811749 [(362411681138,25)] (.var 0) .nil)))
noncomputable def qA5:CS:=(.seq (.ite (.or (.val (.un .notN (.un (.fld 8390043809167535716) (.var 0)))) (.val (.bi .lt (.var 1) (.meth 491327153000 [(362411681138,23)] (.var 0) .nil)))) .retN .skip) qCb)
noncomputable def qAx:CS:=(.seq (.set (.nm 1) (.un (.fld 495806672499) (.un (.fld 495739565157) (.var 0)))) (.ret (.ite (.val (.bi .gt (.un .len (.var 1)) (.lit (.int 0)))) (.bi .ix (.bi .ix (.var 1) (.un .neg (.lit (.int 1)))) (.lit (.int 1))) (.un .len (.un (.fld 1952807028) (.var 0))))))
noncomputable def qCa:CS:=(.seq (.set (.nm 2) (.sl (.un (.fld 1952807028) (.var 0)) (.at (.un (.fld 1919246692) (.var 0))) (.at (.bi .add (.un (.fld 1919246692) (.var 0)) (.var 1))))) (.seq (.setF (.var 0) 1919246692 [306712044914,358300611685,362411681138] (.bi .add (.un (.fld 1919246692) (.var 0)) (.un .len (.var 2)))) (.seq (.setF (.var 0) 465625246068 [306712044914,358300611685,362411681138] (.bi .add (.un (.fld 1919246692) (.var 0)) (.un (.fld 1919905645) (.var 0)))) (.seq (.exp (.meth 8315163747390811749 [(362411681138,25)] (.var 0) .nil)) (.ret (.var 2))))))
noncomputable def qBc:CS:=(.seq (.ite (.not (.val (.chain .le .le (.lit (.int 1)) (.var 1) (.lit (.int 200))))) .opq .skip) qCa)
noncomputable def qAd:CS:=(.setF (.var 0) 29681726098730597 [306712044914,358300611685,362411681138] (.bi .eq (.un (.fld 1919246692) (.var 0)) (.un (.fld 8390043809167535716) (.var 0))))
noncomputable def qB2:CS:=(.set (.nm 1) (.bi .add (.var 1) (.lit (.int 1))))
noncomputable def qAs:CS:=(.ret (.tup (.cons (.var 1) (.cons (.un (.fld 465625246068) (.var 0)) (.cons (.sl (.un (.fld 495806672499) (.un (.fld 495739565157) (.var 0))) .no (.at (.lit (.int 8)))) .nil)))))
noncomputable def qAe:CS:=(.seq (.set (.nm 1) (.un .len (.un (.fld 1952807028) (.var 0)))) (.seq (.ite (.val (.bi .eq (.var 1) (.un (.fld 8390043809167535716) (.var 0)))) qB2 .skip) qAs))
noncomputable def qBv:CS:=(.ret (.and (.un (.isi .bool) (.var 0)) (.bi .eq (.var 0) (.var 1))))
noncomputable def qCK:CS:=(.ret (.lit (.int 0)))
noncomputable def qBH:CS:=(.seq (.ite (.val (.bi .lt (.var 1) (.un .len (.var 0)))) (.ret (.bi .ix (.var 0) (.var 1))) .skip) qCK)
noncomputable def qBa:CE:=(.bi .ix (.var 2) (.bi .mod (.bi .add (.var 0) (.bi .mul (.lit (.int 7)) (.bi .fdiv (.var 3) (.bi .add (.lit (.int 1)) (.bi .mod (.var 0) (.lit (.int 3))))))) (.lit (.int 94))))
noncomputable def qCV:CS:=(.seq (.set (.nm 2) (.lit (.str [32,33,34,35,36,38,39,40,41,42,43,44,45,46,47,48,49,50,51,52,53,54,55,56,57,58,59,60,61,62,63,64,65,66,67,68,69,70,71,72,73,74,75,76,77,78,79,80,81,82,83,84,85,86,87,88,89,90,91,92,93,94,95,96]))) (.seq (.set (.nm 2) (.bi .add (.var 2) (.lit (.str [97,98,99,100,101,102,103,104,105,106,107,108,109,110,111,112,113,114,115,116,117,118,119,120,121,122,123,124,125,126])))) (.ret (.me .join (.lit (.str [])) (.comp qBa (.rng1 (.var 1)))))))
noncomputable def qDV:CS:=(.exp (.meth 1701733491 [(362411681138,22)] (.var 0) (.cons (.bi .ix (.var 1) (.lit (.int 1))) .nil)))
noncomputable def qDU:CS:=(.exp (.meth 7370100 [(358300611685,17),(362411681138,21)] (.var 0) (.cons (.bi .ix (.var 1) (.lit (.int 1))) (.cons (.bi .ix (.var 1) (.lit (.int 2))) .nil))))
noncomputable def qBm:CS:=(.ite (.val (.bi .eq (.bi .ix (.var 1) (.lit (.int 0))) (.lit (.str [101,110,100])))) qDV qDU)
noncomputable def qC8:CS:=(.set (.nm 2) (.meth 418346264942 [(306712044914,13)] (.var 0) (.cons (.lit (.int 4)) .nil)))
noncomputable def qBG:CS:=(.exp (.call 30 (.cons (.var 1) (.cons (.var 3) .nil))))
noncomputable def qC7:CS:=(.seq (.set (.nm 5) (.meth 107127011501426 [(362411681138,26)] (.var 1) .nil)) (.exp (.meth 7020675825757480292 [(306712044914,9)] (.var 0) (.cons (.bi .ix (.var 5) (.lit (.int 0))) (.cons (.bi .ix (.var 5) (.lit (.int 1))) (.cons (.bi .ix (.var 5) (.lit (.int 2))) .nil))))))
noncomputable def qBx:CS:=(.ret (.var 4))
noncomputable def qBF:CS:=(.seq (.set (.nm 4) (.meth 1952541541 [(362411681138,24)] (.var 1) (.cons (.lit (.int 200)) .nil))) (.seq (.ite (.val (.bi .gt (.un .len (.var 2)) (.lit (.int 0)))) qC7 .skip) qBx))
noncomputable def qBw:CS:=(.seq (.fori (.nm 3) (.of (.var 2)) qBG) qBF)
noncomputable def qA2:CS:=(.seq (.set (.nm 2) (.meth 521332113934423763874931 [(306712044914,11)] (.var 0) (.cons (.lit (.int 4)) .nil))) (.seq (.ite (.val (.bi .eq (.un .len (.var 2)) (.lit (.int 0)))) qC8 .skip) qBw))
noncomputable def qGo:CS:=(.seq (.set (.nm 8) (.call 29 (.cons (.var 7) (.cons (.bi .add (.lit (.int 1)) (.bi .mod (.var 7) (.bi .ix (.lst (.cons (.lit (.int 3)) (.cons (.lit (.int 30)) .nil))) (.var 6)))) .nil)))) (.seq (.exp (.meth 513020621925 [(306712044914,7)] (.var 1) (.cons (.var 8) .nil))) (.set (.nm 3) (.bi .add (.var 3) (.var 8)))))
noncomputable def qJo:CS:=(.seq (.exp (.meth 112603010003816 [(306712044914,8)] (.var 1) .nil)) (.set (.nm 4) (.lit (.bl true))))
noncomputable def qJn:CS:=(.seq (.set (.nm 9) (.meth 107127011501426 [(362411681138,26)] (.var 2) .nil)) (.exp (.meth 7020675825757480292 [(306712044914,9)] (.var 1) (.cons (.bi .ix (.var 9) (.lit (.int 0))) (.cons (.bi .ix (.var 9) (.lit (.int 1))) (.cons (.bi .ix (.var 9) (.lit (.int 2))) .nil))))))
noncomputable def qJm:CS:=(.set (.nm 10) (.meth 418346264942 [(306712044914,13)] (.var 1) (.cons (.bi .add (.lit (.int 1)) (.bi .mod (.var 7) (.lit (.int 3)))) .nil)))
noncomputable def qJl:CS:=(.exp (.call 30 (.cons (.var 2) (.cons (.var 12) .nil))))
noncomputable def qFS:CS:=(.ite (.val (.bi .eq (.bi .mod (.bi .fdiv (.var 7) (.bi .add (.lit (.int 3)) (.var 11))) (.lit (.int 2))) (.lit (.int 0)))) qJl .skip)
noncomputable def qGn:CS:=(.forE 11 12 (.var 10) qFS)
noncomputable def qGm:CS:=(.seq (.set (.nm 10) (.meth 521332113934423763874931 [(306712044914,11)] (.var 1) (.cons (.bi .add (.lit (.int 1)) (.bi .mod (.var 7) (.lit (.int 3)))) .nil))) (.seq (.ite (.val (.bi .eq (.var 6) (.lit (.int 5)))) qJm .skip) qGn))
noncomputable def qED:CS:=(.ite (.val (.bi .gt (.var 6) (.lit (.int 2)))) qGm .skip)
noncomputable def qBI:CS:=(.ite (.val (.bi .eq (.var 6) (.lit (.int 6)))) qJn qED)
noncomputable def qBb:CS:=(.seq (.ite (.and (.val (.bi .eq (.var 6) (.lit (.int 2)))) (.and (.val (.bi .eq (.bi .mod (.var 7) (.lit (.int 3))) (.lit (.int 0)))) (.not (.val (.var 4))))) qJo .skip) qBI)
noncomputable def qC9:CS:=(.seq (.set (.nm 6) (.bi .mod (.call 28 (.cons (.var 0) (.cons (.bi .add (.lit (.int 1)) (.bi .mul (.lit (.int 2)) (.var 5))) .nil))) (.lit (.int 7)))) (.seq (.set (.nm 7) (.call 28 (.cons (.var 0) (.cons (.bi .add (.lit (.int 2)) (.bi .mul (.lit (.int 2)) (.var 5))) .nil)))) (.seq (.ite (.and (.val (.bi .lt (.var 6) (.lit (.int 2)))) (.not (.val (.var 4)))) qGo .skip) qBb)))
noncomputable def qFT:CS:=(.seq (.set (.nm 13) (.bi .add (.var 13) (.call 31 (.cons (.var 1) (.cons (.var 2) .nil))))) (.set (.nm 15) (.bi .sub (.var 15) (.lit (.int 1)))))
noncomputable def qC6:CT:=(.and (.val (.bi .gt (.var 15) (.lit (.int 0)))) (.or (.val (.bi .ne (.var 13) (.var 3))) (.or (.val (.bi .ne (.un (.fld 1668246885) (.var 1)) (.var 14))) (.not (.val (.un (.fld 7598521898286281316) (.var 1)))))))
noncomputable def qHX:CS:=(.ret (.and (.call 27 (.cons (.un (.fld 29681726098730597) (.var 1)) (.cons (.var 4) .nil))) (.call 27 (.cons (.un (.fld 29681726098730597) (.var 2)) (.cons (.var 4) .nil)))))
noncomputable def qHW:CS:=(.seq (.ite (.or (.val (.bi .ne (.var 13) (.var 3))) (.or (.val (.bi .ne (.un (.fld 1668246885) (.var 1)) (.var 14))) (.not (.val (.un (.fld 7598521898286281316) (.var 1)))))) (.ret (.lit (.bl false))) .skip) qHX)
noncomputable def qHV:CS:=(.seq (.set (.nm 13) (.lit (.str []))) (.seq (.set (.nm 14) (.bi .add (.un .len (.var 3)) (.un .int (.var 4)))) (.seq (.set (.nm 15) (.bi .add (.bi .mul (.lit (.int 2)) (.un .len (.var 3))) (.lit (.int 9)))) (.seq (.whil qC6 qFT) qHW))))
noncomputable def b_law:CS:=(.seq (.set (.nm 1) (.make 306712044914 6 (.cons (.bi .add (.lit (.int 1)) (.bi .mod (.bi .fdiv (.call 28 (.cons (.var 0) (.cons (.lit (.int 0)) .nil))) (.lit (.int 40))) (.lit (.int 40)))) .nil))) (.seq (.set (.nm 2) (.make 362411681138 20 (.cons (.bi .add (.lit (.int 1)) (.bi .mod (.call 28 (.cons (.var 0) (.cons (.lit (.int 0)) .nil))) (.lit (.int 40)))) .nil))) (.seq (.set (.nm 3) (.lit (.str []))) (.seq (.set (.nm 4) (.lit (.bl false))) (.seq (.fori (.nm 5) (.rng1 (.bi .min2 (.lit (.int 24)) (.bi .fdiv (.un .len (.var 0)) (.lit (.int 2))))) qC9) qHV)))))
noncomputable def fns:List Fn:=[⟨3,6,qBJ⟩,
 ⟨1,1,qBK⟩,
 ⟨2,2,qAV⟩,
 ⟨3,5,qEJ⟩,
 ⟨2,3,b_cut⟩,
 ⟨3,6,qFU⟩,
 ⟨2,2,qBf⟩,
 ⟨2,2,qBN⟩,
 ⟨1,1,qA4⟩,
 ⟨4,5,qAG⟩,
 ⟨2,6,qAh⟩,
 ⟨2,4,qAg⟩,
 ⟨1,3,qAY⟩,
 ⟨2,2,qBO⟩,
 ⟨1,2,qAb⟩,
 ⟨1,4,qAQ⟩,
 ⟨1,1,qBe⟩,
 ⟨3,6,qA3⟩,
 ⟨1,4,qAj⟩,
 ⟨2,2,qCO⟩,
 ⟨2,2,qBd⟩,
 ⟨3,4,qBR⟩,
 ⟨2,2,qA5⟩,
 ⟨1,2,qAx⟩,
 ⟨2,3,qBc⟩,
 ⟨1,1,qAd⟩,
 ⟨1,2,qAe⟩,
 ⟨2,2,qBv⟩,
 ⟨2,2,qBH⟩,
 ⟨2,3,qCV⟩,
 ⟨2,2,qBm⟩,
 ⟨2,6,qA2⟩,
 ⟨1,16,b_law⟩]
noncomputable abbrev qE9:Nat:=0
theorem qFK (B n:Nat) (a0 a1 a2:D) (h:AH):callN fns B (n+1) 0 [a0,a1,a2] h=fin (denS (callN fns B n) B qBJ [some a0,some a1,some a2,none,none,none] h):=rfl
noncomputable abbrev qFA:Nat:=1
theorem qFL (B n:Nat) (a0:D) (h:AH):callN fns B (n+1) 1 [a0] h=fin (denS (callN fns B n) B qBK [some a0] h):=rfl
noncomputable abbrev qDw:Nat:=2
theorem qD7 (B n:Nat) (a0 a1:D) (h:AH):callN fns B (n+1) 2 [a0,a1] h=fin (denS (callN fns B n) B qAV [some a0,some a1] h):=rfl
noncomputable abbrev qM3:Nat:=3
theorem qNS (B n:Nat) (a0 a1 a2:D) (h:AH):callN fns B (n+1) 3 [a0,a1,a2] h=fin (denS (callN fns B n) B qEJ [some a0,some a1,some a2,none,none] h):=rfl
noncomputable abbrev i_cut:Nat:=4
theorem c_cut (B n:Nat) (a0 a1:D) (h:AH):callN fns B (n+1) 4 [a0,a1] h=fin (denS (callN fns B n) B b_cut [some a0,some a1,none] h):=rfl
noncomputable abbrev qM2:Nat:=5
theorem qNR (B n:Nat) (a0 a1 a2:D) (h:AH):callN fns B (n+1) 5 [a0,a1,a2] h=fin (denS (callN fns B n) B qFU [some a0,some a1,some a2,none,none,none] h):=rfl
noncomputable abbrev qFw:Nat:=6
theorem qF3 (B n:Nat) (a0 a1:D) (h:AH):callN fns B (n+1) 6 [a0,a1] h=fin (denS (callN fns B n) B qBf [some a0,some a1] h):=rfl
noncomputable abbrev qCv:Nat:=7
theorem qFN (B n:Nat) (a0 a1:D) (h:AH):callN fns B (n+1) 7 [a0,a1] h=fin (denS (callN fns B n) B qBN [some a0,some a1] h):=rfl
noncomputable abbrev qCZ:Nat:=8
theorem qER (B n:Nat) (a0:D) (h:AH):callN fns B (n+1) 8 [a0] h=fin (denS (callN fns B n) B qA4 [some a0] h):=rfl
noncomputable abbrev qA8:Nat:=9
theorem qB1 (B n:Nat) (a0 a1 a2 a3:D) (h:AH):callN fns B (n+1) 9 [a0,a1,a2,a3] h=fin (denS (callN fns B n) B qAG [some a0,some a1,some a2,some a3,none] h):=rfl
noncomputable abbrev qCw:Nat:=10
theorem qC1 (B n:Nat) (a0 a1:D) (h:AH):callN fns B (n+1) 10 [a0,a1] h=fin (denS (callN fns B n) B qAh [some a0,some a1,none,none,none,none] h):=rfl
noncomputable abbrev qBY:Nat:=11
theorem qC0 (B n:Nat) (a0 a1:D) (h:AH):callN fns B (n+1) 11 [a0,a1] h=fin (denS (callN fns B n) B qAg [some a0,some a1,none,none] h):=rfl
noncomputable abbrev qBj:Nat:=12
theorem qBl (B n:Nat) (a0:D) (h:AH):callN fns B (n+1) 12 [a0] h=fin (denS (callN fns B n) B qAY [some a0,none,none] h):=rfl
noncomputable abbrev qCx:Nat:=13
theorem qFO (B n:Nat) (a0 a1:D) (h:AH):callN fns B (n+1) 13 [a0,a1] h=fin (denS (callN fns B n) B qBO [some a0,some a1] h):=rfl
noncomputable abbrev qCh:Nat:=14
theorem qCj (B n:Nat) (a0:D) (h:AH):callN fns B (n+1) 14 [a0] h=fin (denS (callN fns B n) B qAb [some a0,none] h):=rfl
noncomputable abbrev qB4:Nat:=15
theorem qB5 (B n:Nat) (a0:D) (h:AH):callN fns B (n+1) 15 [a0] h=fin (denS (callN fns B n) B qAQ [some a0,none,none,none] h):=rfl
noncomputable abbrev qFv:Nat:=16
theorem qF2 (B n:Nat) (a0:D) (h:AH):callN fns B (n+1) 16 [a0] h=fin (denS (callN fns B n) B qBe [some a0] h):=rfl
noncomputable abbrev qDx:Nat:=17
theorem qD8 (B n:Nat) (a0 a1 a2:D) (h:AH):callN fns B (n+1) 17 [a0,a1,a2] h=fin (denS (callN fns B n) B qA3 [some a0,some a1,some a2,none,none,none] h):=rfl
noncomputable abbrev qDy:Nat:=18
theorem qD9 (B n:Nat) (a0:D) (h:AH):callN fns B (n+1) 18 [a0] h=fin (denS (callN fns B n) B qAj [some a0,none,none,none] h):=rfl
noncomputable abbrev qLZ:Nat:=19
theorem qLf (B n:Nat) (a0 a1:D) (h:AH):callN fns B (n+1) 19 [a0,a1] h=fin (denS (callN fns B n) B qCO [some a0,some a1] h):=rfl
noncomputable abbrev qFt:Nat:=20
theorem qF0 (B n:Nat) (a0 a1:D) (h:AH):callN fns B (n+1) 20 [a0,a1] h=fin (denS (callN fns B n) B qBd [some a0,some a1] h):=rfl
noncomputable abbrev qGc:Nat:=21
theorem qGj (B n:Nat) (a0 a1 a2:D) (h:AH):callN fns B (n+1) 21 [a0,a1,a2] h=fin (denS (callN fns B n) B qBR [some a0,some a1,some a2,none] h):=rfl
noncomputable abbrev qFu:Nat:=22
theorem qF1 (B n:Nat) (a0 a1:D) (h:AH):callN fns B (n+1) 22 [a0,a1] h=fin (denS (callN fns B n) B qA5 [some a0,some a1] h):=rfl
noncomputable abbrev qFB:Nat:=23
theorem qFM (B n:Nat) (a0:D) (h:AH):callN fns B (n+1) 23 [a0] h=fin (denS (callN fns B n) B qAx [some a0,none] h):=rfl
noncomputable abbrev qFs:Nat:=24
theorem qFz (B n:Nat) (a0 a1:D) (h:AH):callN fns B (n+1) 24 [a0,a1] h=fin (denS (callN fns B n) B qBc [some a0,some a1,none] h):=rfl
noncomputable abbrev qBz:Nat:=25
theorem qDY (B n:Nat) (a0:D) (h:AH):callN fns B (n+1) 25 [a0] h=fin (denS (callN fns B n) B qAd [some a0] h):=rfl
noncomputable abbrev qCY:Nat:=26
theorem qEQ (B n:Nat) (a0:D) (h:AH):callN fns B (n+1) 26 [a0] h=fin (denS (callN fns B n) B qAe [some a0,none] h):=rfl
noncomputable abbrev qGa:Nat:=27
theorem qGh (B n:Nat) (a0 a1:D) (h:AH):callN fns B (n+1) 27 [a0,a1] h=fin (denS (callN fns B n) B qBv [some a0,some a1] h):=rfl
noncomputable abbrev qE8:Nat:=28
theorem qFJ (B n:Nat) (a0 a1:D) (h:AH):callN fns B (n+1) 28 [a0,a1] h=fin (denS (callN fns B n) B qBH [some a0,some a1] h):=rfl
noncomputable abbrev qHp:Nat:=29
theorem qHx (B n:Nat) (a0 a1:D) (h:AH):callN fns B (n+1) 29 [a0,a1] h=fin (denS (callN fns B n) B qCV [some a0,some a1,none] h):=rfl
noncomputable abbrev qHq:Nat:=30
theorem qHy (B n:Nat) (a0 a1:D) (h:AH):callN fns B (n+1) 30 [a0,a1] h=fin (denS (callN fns B n) B qBm [some a0,some a1] h):=rfl
noncomputable abbrev qGb:Nat:=31
theorem qGi (B n:Nat) (a0 a1:D) (h:AH):callN fns B (n+1) 31 [a0,a1] h=fin (denS (callN fns B n) B qA2 [some a0,some a1,none,none,none,none] h):=rfl
noncomputable abbrev i_law:Nat:=32
theorem c_law (B n:Nat) (a0:D) (h:AH):callN fns B (n+1) 32 [a0] h=fin (denS (callN fns B n) B b_law [some a0,none,none,none,none,none,none,none,none,none,none,none,none,none,none,none] h):=rfl
local macro_rules | `(tactic| simp! only [$ts,*] $[$l]?) => `(tactic| simp only [Int.reduceLT, Int.reduceLE, Int.reduceNeg, Int.reduceAdd, Int.reduceSub, Int.reduceEq, Int.reduceBEq, Nat.reduceLeDiff, Nat.reduceLT, Nat.reduceBEq, and_self, and_true, true_and, qM8, qPM, qPL, qM7, denS, den, denT, denL, denI, denP, qKe, qGs, qEo, qHz, qH1, qH0, qGr, qLO, qMJ, qMK, qLq, qLr, qLs, qLp, qJw, qJ5, qJ4, qK4, qK3, qJg, qOQ, denH, qNO, qNP, M.ret_eq, M.bind_eq, M.bad_eq, R.bind_ok, R.bind_exc, R.bind_bad, qLj, newL, qLh, makeD, qIh, qIH, qHe, qHd, getN, putN, tbN, Option.isNone_none, Option.isNone_some, qIj, qHh, tgSet, forIt, qAv, qDC, b2i, List.getElem?_cons_zero, List.getElem?_cons_succ, List.length_cons, List.length_nil, List.map_cons, List.map_nil, List.cons_append, List.nil_append, List.set_cons_zero, List.set_cons_succ, if_true, reduceIte, Nat.zero_add, Nat.reduceAdd, Bool.false_eq_true, if_false, Bool.not_true, Bool.not_false, Bool.or_true, Bool.or_false, Bool.true_or, Bool.false_or, decide_true, decide_false, reduceCtorEq, beq_self_eq_true, qNl, qNo, qNn, qNm, qNe, qNy, qNx, qNw, qNg, qJu, qJt, qLo, qLn, qN1, qN0, qJs, qNd, qH5, qLm, qNf, qJv, qNp, qNz, qNr, qLl, qNv, qNu, qNt, qNs, qNk, qNj, qNi, qNh, qNq, qOm, qOl, qOk, qOj, qOd, qOg, qKD, qML, qKE, qOi, qOf, qMO, qMP, qIV, qKH, qMW, qOh, qOe, o_eq1, o_ne1, o_lt1, o_le1, o_gt1, o_ge1, qMU, qMT, qMS, qMR, qKG, qKF, o_ix1, o_ix2, o_ix3, o_ix4, qMM, qMN, qMV, qKC, qMQ, qIX, qIW, t_non, t_bl, t_int, t_str, t_tup, t_ref, qPD, qPC, qPE, qL6, qL5, qL7, qIg, qIf, qKN, qMf, qMg, qOr, qOq, qMe, qIe, qKQ, qKO, qMd, qKP, qJ3, qIE, qMv, qPH, qMw, qMt, qMs, qMu, qJQ, qKn, qJR, qJP, qJO, qKr, qM9, qKs, qKq, qKp, qJU, qKo, qJV, qJT, qJS, qJM, qKm, qJN, qJL, qJK, qJI, qKl, qJJ, qJH, qJG, $ts,*] $[$l]?)
theorem qKk (h l:AH) (k:Nat):getL (h++l) (h.length+k)=getL l k:=by
 unfold getL
 rw [List.getElem?_append_right (by omega),Nat.add_sub_cancel_left]
theorem qAT (h l:AH):getL (h++l) h.length=getL l 0:=qKk h l 0
theorem qJA (h l:AH) (k:Nat):(h++l)[h.length+k]?=l[k]?:=by
 rw [List.getElem?_append_right (by omega),Nat.add_sub_cancel_left]
theorem qBs (h l:AH):(h++l)[h.length]?=l[0]?:=qJA h l 0
theorem qIF (h l:AH) (k:Nat) (o:O):(h++l).set (h.length+k) o=h++l.set k o:=by
 rw [List.set_append_right _ _ (by omega),Nat.add_sub_cancel_left]
theorem qCd (h l:AH) (o:O):(h++l).set h.length o=h++l.set 0 o:=qIF h l 0 o
theorem qB0 (xs:List D) (l:AH):getL (.lst xs::l) 0=some xs:=rfl
theorem qPv (o:O) (l:AH) (k:Nat):getL (o::l) (k+1)=getL l k:=rfl
theorem qPx (o:O) (l:AH):getL (o::l) 1=getL l 0:=rfl
theorem qPw (o p:O) (l:AH):getL (o::p::l) 2=getL l 0:=rfl
theorem qPo {xs:List Int} {k:Nat} {c:Int} (h:xs[k]?=some c):((ixN (xs.map D.int).length (k:Int)).bind fun j=>(xs.map D.int)[j]?)=some (.int c):=by
 have hk:=(List.getElem?_eq_some_iff.mp h).1
 rw [List.length_map,qDu hk,Option.bind_some,List.getElem?_map,h]
 rfl
theorem qPu {ds:List D} {k:Nat} {d:D} (h:ds[k]?=some d):((ixN ds.length (k:Int)).bind fun j=>ds[j]?)=some d:=by
 rw [qDu (List.getElem?_eq_some_iff.mp h).1,Option.bind_some,h]
theorem qD5 {α:Type} (x:List α) (k:Nat):cutX x none (some (k:Int))=x.take k:=by
 unfold cutX cutN
 simp only [if_neg (show ¬ (k:Int)<0 by omega),Int.toNat_natCast,List.drop_zero,Nat.sub_zero]
 rw [Nat.min_comm,← List.take_take]
 exact List.take_of_length_le (by rw [List.length_take];omega)
theorem qCH {α:Type} (x:List α) (k:Nat):cutX x (some (k:Int)) none=x.drop k:=by
 unfold cutX cutN
 simp only [if_neg (show ¬ (k:Int)<0 by omega),Int.toNat_natCast]
 by_cases hk:k≤x.length
 ·rw [Nat.min_eq_left hk]
  exact List.take_of_length_le (by simp)
 ·rw [Nat.min_eq_right (by omega),List.drop_length,List.drop_eq_nil_of_le (by omega),List.take_nil]
theorem qDq (B n:Nat) (h:AH) (i:Nat) (xs:List Int) (k:Nat) (hx:getL h i=some (xs.map .int)):callN fns B (n+1) qE8 [.ref i,.int k] h=.ok (.int (xs.getD k 0)) h:=by
 rw [qFJ]
 simp! only [qBH,hx,List.length_map]
 by_cases hk:k<xs.length
 ·have e:decide ((k:Int)<(xs.length:Int))=true:=by simpa using hk
  have e2:xs[k]?=some xs[k]:=by simp [hk]
  simp! only [e,Option.bind_some,ixN,List.length_map,if_pos (show (0:Int)≤k by omega),if_pos (show (k:Int)<xs.length by omega),Int.toNat_natCast,e2,List.getElem?_map,Option.map_some,List.getD_eq_getElem?_getD,Option.getD_some]
 ·have e:decide ((k:Int)<(xs.length:Int))=false:=by simpa using hk
  have e2:xs[k]?=none:=by simp;omega
  simp! only [e,qCK,List.getD_eq_getElem?_getD,e2,Option.getD_none]
noncomputable abbrev SP:=List (Int × Int)
noncomputable def spD (p:Int × Int):D:=.tup [.int p.1,.int p.2]
noncomputable def spL (l:SP):List D:=l.map spD
theorem qA0 (l:SP):(spL l).length=l.length:=by unfold spL;simp
theorem qIC {l:SP} {k:Nat} {p:Int × Int} (h:l[k]?=some p):(spL l)[k]?=some (spD p):=by unfold spL;rw [List.getElem?_map,h];rfl
noncomputable def GoodR:Int→SP→Prop
 | _,[]=>True
 | lo,p::r=>lo<p.1∧p.1<p.2∧GoodR p.2 r
theorem GoodR.weak {lo lo':Int} (hl:lo'≤lo):∀ {l:SP},GoodR lo l→GoodR lo' l
 | [],_=>trivial
 | p::r,⟨h1,h2,h3⟩=>⟨by omega,h2,h3⟩
noncomputable def lastE (lo:Int):SP→Int
 | []=>lo
 | p::r=>lastE p.2 r
theorem GoodR.snoc {lo:Int} {p:Int × Int}:∀ {l:SP},GoodR lo l→lastE lo l<p.1→p.1<p.2→GoodR lo (l++[p])
 | [],_,h1,h2=>⟨h1,h2,trivial⟩
 | q::r,⟨g1,g2,g3⟩,h1,h2=>⟨g1,g2,GoodR.snoc g3 h1 h2⟩
theorem qHm (lo:Int) (p:Int × Int):∀ l:SP,lastE lo (l++[p])=p.2
 | []=>rfl
 | q::r=>qHm q.2 p r
theorem qKc {lo:Int}:∀ {l:SP},GoodR lo l→lo≤lastE lo l
 | [],_=>Int.le_refl _
 | p::r,⟨h1,h2,h3⟩=>by have:=qKc h3;show lo≤lastE p.2 r;omega
noncomputable def inB (x:Int) (p:Int × Int):Bool:=decide (p.1≤x)&&decide (x<p.2)
noncomputable def inS (l:SP) (x:Int):Bool:=l.any (inB x)
theorem qCB {x:Int}:∀ {lo:Int} {l:SP},GoodR lo l→x≤lo→inS l x=false
 | _,[],_,_=>rfl
 | lo,p::r,⟨h1,h2,h3⟩,hx=>by
  show (inB x p || inS r x)=false
  rw [qCB h3 (by omega),show inB x p=false by unfold inB;rw [decide_eq_false (show ¬ p.1≤x by omega)];rfl]
  rfl
theorem GoodR.at {lo:Int}:∀ {l:SP} {k:Nat} {p:Int × Int},GoodR lo l→l[k]?=some p→lo<p.1∧p.1<p.2
 | [],_,_,_,e=>by simp at e
 | q::r,0,p,⟨h1,h2,_⟩,e=>by simp at e;subst e;exact ⟨h1,h2⟩
 | q::r,k+1,p,⟨h1,h2,h3⟩,e=>by
  have:=GoodR.at h3 (by simpa using e:r[k]?=some p)
  exact ⟨by omega,this.2⟩
theorem GoodR.next {lo:Int}:∀ {l:SP} {k:Nat} {p q:Int × Int},GoodR lo l→l[k]?=some p→l[k+1]?=some q→p.2<q.1
 | [],_,_,_,_,e,_=>by simp at e
 | a::r,0,p,q,⟨h1,h2,h3⟩,e,e'=>by
  simp at e
  subst e
  exact (h3.at (by simpa using e':r[0]?=some q)).1
 | a::r,k+1,p,q,⟨h1,h2,h3⟩,e,e'=>GoodR.next h3 (by simpa using e) (by simpa using e')
theorem ix_sp {l:SP} {k:Nat} {p:Int × Int} (h:l[k]?=some p):((ixN l.length (k:Int)).bind fun j=>(spL l)[j]?)=some (spD p):=by
 rw [qDu (List.getElem?_eq_some_iff.mp h).1,Option.bind_some,qIC h]
noncomputable def side (s:Nat) (p:Int × Int):Int:=if s=0 then p.1 else p.2
theorem qMq (s:Nat) (hs:s=0∨s=1) (p:Int × Int):((ixN 2 (s:Int)).bind fun j=>[D.int p.1,D.int p.2][j]?)=some (.int (side s p)):=by
 rcases hs with rfl | rfl <;> rfl
noncomputable def cnt (s:Nat) (x:Int) (l:SP):Nat:=(l.takeWhile fun p=>decide (side s p<x)).length
theorem qFc {lo:Int} {s:Nat}:∀ {l:SP} {j k:Nat} {p q:Int × Int},GoodR lo l→l[j]?=some p→l[k]?=some q→j≤k→side s p≤side s q:=by
 intro l
 induction l generalizing lo with
 | nil=>intro j k p q _ e;simp at e
 | cons a r ih =>
  intro j k p q ⟨h1,h2,h3⟩ e e' hjk
  cases k with
  | zero =>
   have:j=0:=by omega
   subst this
   rw [e] at e'
   cases e'
   exact Int.le_refl _
  | succ k =>
   have g:=h3.at (by simpa using e':r[k]?=some q)
   cases j with
   | zero =>
    simp at e
    subst e
    unfold side
    split <;> omega
   | succ j=>exact ih h3 (by simpa using e) (by simpa using e') (by omega)
theorem qLc (s:Nat) (x:Int) (l:SP):cnt s x l≤l.length:=by
 unfold cnt
 exact (List.takeWhile_sublist _).length_le
theorem qHQ {s:Nat} {x:Int}:∀ {l:SP} {k:Nat},k≤l.length→(∀ j p,j<k→l[j]?=some p→side s p<x)→(∀ p,l[k]?=some p→x≤side s p)→cnt s x l=k
 | [],k,h,_,_=>by simp at h;subst h;rfl
 | a::r,0,_,_,h2=>by
  have:=h2 a rfl
  unfold cnt
  rw [List.takeWhile_cons,if_neg (by simp;omega)]
  rfl
 | a::r,k+1,h,h1,h2=>by
  have:=h1 0 a (by omega) rfl
  have ih:=qHQ (s:=s) (x:=x) (l:=r) (k:=k) (by simpa using h) (fun j p hj e=>h1 (j+1) p (by omega) (by simpa using e)) (fun p e=>h2 p (by simpa using e))
  unfold cnt at ih ⊢
  rw [List.takeWhile_cons,if_pos (by simpa using this),List.length_cons,ih]
theorem qDO (F:Nat→List D→M D) (s:Nat) (hs:s=0∨s=1) (x lo:Int) (l:SP) (hg:GoodR lo l) (h:AH) (B:Nat):∀ (m low high:Nat) (s5:Option D),high-low<m→low≤high→high≤l.length→(∀ j p,j<low→l[j]?=some p→side s p<x)→(∀ j p,high≤j→l[j]?=some p→x≤side s p) →
    ∃ s5',qBV (denT F qA9) (denS F B qBQ) m [some (.tup (spL l)),some (.int s),some (.int x),some (.int low),some (.int high),s5] h=.nx [some (.tup (spL l)),some (.int s),some (.int x),some (.int (cnt s x l)),some (.int (cnt s x l)),s5'] h
  | 0,low,high,s5,hm,_,_,_,_=>by omega
  | m+1,low,high,s5,hm,hle,hh,h1,h2=>by
    unfold qBV
    have e0:decide ((low:Int)<(high:Int))=decide (low<high):=qBP _ _
    simp! only [qA9,e0]
    by_cases q:low<high
    · obtain ⟨mid,hmid,hm1,hm2⟩:∃ mid:Nat,((low:Int)+(high:Int)) / 2=(mid:Int)∧low≤mid∧mid<high:=⟨(low+high) / 2,by omega,by omega,by omega⟩
      have em:l[mid]?=some l[mid]:=by simp [show mid<l.length by omega]
      have ix:=ix_sp em
      unfold spD at ix
      have isd:=qMq s hs l[mid]
      simp! only [q,qBQ,hmid,qA0,ix,isd,show (0:Int)<2 by omega,show (2:Int)<1073741824 by omega]
      by_cases c:side s l[mid]<x
      · simp! only [c,qCN]
        have e1:D.int ((mid:Int)+1)=.int ((mid+1:Nat):Int):=rfl
        rw [e1]
        refine qDO F s hs x lo l hg h B m (mid+1) high _ (by omega) (by omega) hh (fun j p hj e=>?_) h2
        exact Int.lt_of_le_of_lt (qFc hg e em (by omega)) c
      · simp! only [c,qCM]
        refine qDO F s hs x lo l hg h B m low mid _ (by omega) (by omega) (by omega) h1 (fun j p hj e=>?_)
        have:=qFc (s:=s) hg em e hj
        omega
    · have e:low=high:=by omega
      subst e
      have:cnt s x l=low:=qHQ hh h1 (fun p e=>h2 low p (Nat.le_refl _) e)
      simp! only [q,this]
      exact ⟨s5,rfl⟩
theorem qGW (B n:Nat) (s:Nat) (hs:s=0∨s=1) (x lo:Int) (l:SP) (hg:GoodR lo l) (h:AH) (hB:l.length<B):callN fns B (n+1) qE9 [.tup (spL l),.int s,.int x] h=.ok (.int (cnt s x l)) h:=by
 rw [qFK]
 simp! only [qBJ,qA0]
 obtain ⟨s5',e⟩:=qDO (callN fns B n) s hs x lo l hg h B B 0 l.length none (by omega) (by omega) (Nat.le_refl _) (fun j p hj _=>by omega) (fun j p hj e=>by
  have:=(List.getElem?_eq_some_iff.mp e).1
  omega)
 have e0:D.int ((0:Nat):Int)=D.int 0:=rfl
 rw [e0] at e
 simp! only [e,qCL]
theorem qCs (B n:Nat) (b:Int) (h:AH):callN fns B (n+1) qFA [.int b] h=if b<0 then .bad else .ok .non h:=by
 rw [qFL]
 simp! only [qBK]
 by_cases q:b<0
 ·simp! only [q]
 ·simp! only [q]
theorem qAf (p:Int × Int) (r:SP) (x:Int):inS (p::r) x=(inB x p || inS r x):=rfl
noncomputable def dropS (x:Int) (l:SP):SP:=l.drop (cnt 1 x l)
theorem qPT (x:Int):dropS x []=[]:=rfl
theorem qJW {x:Int} {p:Int × Int} {r:SP} (h:p.2<x):dropS x (p::r)=dropS x r:=by
 unfold dropS cnt
 rw [List.takeWhile_cons,if_pos (by simpa [side] using h),List.length_cons,List.drop_succ_cons]
theorem qJX {x:Int} {p:Int × Int} {r:SP} (h:¬ p.2<x):dropS x (p::r)=p::r:=by
 unfold dropS cnt
 rw [List.takeWhile_cons,if_neg (by simpa [side] using h)]
 rfl
noncomputable def cutS (b:Int) (l:SP):SP:=match dropS (b+1) l with
 | []=>[]
 | p::r=>if p.1<b then (b,p.2)::r else p::r
theorem qEl (b:Int):∀ {lo:Int} {l:SP},GoodR lo l→(∃ lo',lo≤lo'∧GoodR lo' (dropS (b+1) l))∧(∀ p r,dropS (b+1) l=p::r→b<p.2)∧(∀ x,b≤x→inS (dropS (b+1) l) x=inS l x)
 | lo,[],_=>⟨⟨lo,Int.le_refl _,trivial⟩,(fun p r e=>by cases e),fun x _=>rfl⟩
 | lo,q::r,⟨h1,h2,h3⟩=>by
  by_cases c:q.2<b+1
  ·obtain ⟨⟨lo',i1,i2⟩,i3,i4⟩:=qEl b h3
   rw [qJW c]
   refine ⟨⟨lo',by omega,i2⟩,i3,fun x hx=>?_⟩
   rw [i4 x hx]
   show _=(inB x q || inS r x)
   rw [show inB x q=false by unfold inB;rw [decide_eq_false (show ¬ x<q.2 by omega),Bool.and_false]]
   rfl
  ·rw [qJX c]
   exact ⟨⟨lo,Int.le_refl _,h1,h2,h3⟩,(fun p r' e=>by cases e;omega),fun x _=>rfl⟩
theorem qD3 (b:Int) {lo:Int} {l:SP} (hg:GoodR lo l):GoodR (b-1) (cutS b l)∧∀ x,inS (cutS b l) x=(inS l x&&decide (b≤x)):=by
 obtain ⟨⟨lo',i1,i2⟩,i3,i4⟩:=qEl b hg
 have key:GoodR (b-1) (cutS b l)∧∀ x,b≤x→inS (cutS b l) x=inS (dropS (b+1) l) x:=by
  unfold cutS
  cases q:dropS (b+1) l with
  | nil=>exact ⟨trivial,fun x _=>rfl⟩
  | cons p r =>
   have hp:=i3 p r q
   rw [q] at i2
   obtain ⟨g1,g2,g3⟩:=i2
   simp only
   by_cases c:p.1<b
   ·rw [if_pos c]
    refine ⟨⟨by show b-1<b;omega,by show b<p.2;exact hp,g3⟩,fun x hx=>?_⟩
    show (inB x (b,p.2) || inS r x)=(inB x p || inS r x)
    have:inB x (b,p.2)=inB x p:=by
     unfold inB
     rw [decide_eq_true (show b≤x from hx),decide_eq_true (show p.1≤x by omega)]
    rw [this]
   ·rw [if_neg c]
    exact ⟨⟨by omega,g2,g3⟩,fun x _=>rfl⟩
 refine ⟨key.1,fun x=>?_⟩
 by_cases hx:b≤x
 ·rw [key.2 x hx,i4 x hx,decide_eq_true hx,Bool.and_true]
 ·rw [decide_eq_false hx,Bool.and_false]
  exact qCB key.1 (by omega)
theorem qHP (b:Int) (l:SP):(cutS b l).length≤l.length:=by
 have:(dropS (b+1) l).length≤l.length:=by unfold dropS;rw [List.length_drop];omega
 unfold cutS
 cases q:dropS (b+1) l with
 | nil=>simp
 | cons p r =>
  rw [q] at this
  simp only
  split <;> exact this
theorem qDc (k:Nat) (l:SP):(spL l).drop k=spL (l.drop k):=by unfold spL;rw [List.map_drop]
theorem qGz (k:Nat) (l:SP):(spL l).take k=spL (l.take k):=by unfold spL;rw [List.map_take]
theorem m_cut (B n:Nat) (b lo:Int) (l:SP) (hg:GoodR lo l) (h:AH) (hB:l.length<B) (hl:l.length≤1000):callN fns B (n+2) i_cut [.tup (spL l),.int b] h=if b<0 then .bad else .ok (.tup (spL (cutS b l))) h:=by
 rw [c_cut]
 have c1:=qCs B n b h
 have c2:=qGW B n 1 (.inr rfl) (b+1) lo l hg h hB
 have e1:D.int ((1:Nat):Int)=D.int 1:=rfl
 rw [e1] at c2
 by_cases q:b<0
 ·rw [if_pos q] at c1
  rw [if_pos q]
  simp! only [b_cut,c1]
 ·rw [if_neg q] at c1
  rw [if_neg q]
  simp! only [b_cut,c1,c2,qCH,qDc,qA0]
  have hl2:(dropS (b+1) l).length≤l.length:=by unfold dropS;rw [List.length_drop];omega
  unfold cutS
  show _=R.ok (D.tup (spL (match dropS (b+1) l with | []=>[] | p::r=>if p.1<b then (b,p.2)::r else p::r))) h
  change (fin _=_)
  generalize hd:dropS (b+1) l=d at hl2 ⊢
  unfold dropS at hd
  rw [hd]
  cases d with
  | nil=>simp! only [List.length_nil,qGp,show decide ((0:Int)<((0:Nat):Int))=false from rfl]
  | cons p r =>
   have d0:decide ((0:Int)<(((p::r).length:Nat):Int))=true:=decide_eq_true (by simp only [List.length_cons];omega)
   have ix:((ixN (p::r).length 0).bind fun j=>(spL (p::r))[j]?)=some (spD p):=ix_sp (k:=0) (l:=p::r) rfl
   have ix0:((ixN 2 0).bind fun j=>[D.int p.1,D.int p.2][j]?)=some (.int p.1):=rfl
   have ix1:((ixN 2 1).bind fun j=>[D.int p.1,D.int p.2][j]?)=some (.int p.2):=rfl
   have ct:cutX (spL (p::r)) (some 1) none=spL r:=by rw [show (1:Int)=((1:Nat):Int) from rfl,qCH];rfl
   unfold spD at ix
   have hpl:(spL (p::r)).length=(p::r).length:=qA0 _
   generalize hw:p::r=w at d0 ix ct hl2 hpl ⊢
   simp! only [d0,ix,ix0,hpl]
   by_cases c:p.1<b
   ·subst hw
    simp! only [c,ix,ix1,hpl,ct,qA0,if_pos (show 2≤16777216 by omega),if_pos (show 1≤16777216 by omega)]
    simp only [List.length_cons] at hl2
    rw [if_pos (by omega)]
    simp! only [and_self]
    rfl
   ·subst hw
    simp! only [c,qGp]
theorem qB7 (B n:Nat) (b e:Int) (h:AH):callN fns B (n+2) qDw [.int b,.int e] h=if b<0∨e<b then .bad else .ok .non h:=by
 rw [qD7]
 have c1:=qCs B n b h
 by_cases q:b<0
 ·rw [if_pos q] at c1
  rw [if_pos (.inl q)]
  simp! only [qAV,c1]
 ·rw [if_neg q] at c1
  by_cases c:e<b
  ·rw [if_pos (.inr c)]
   simp! only [qAV,c1,c]
  ·rw [if_neg (by rintro (z | z);exact q z;exact c z)]
   simp! only [qAV,c1,c]
theorem qI3 (a b x:Int):inS [(a,b)] x=(decide (a≤x)&&decide (x<b)):=by
 rw [qAf];unfold inB;exact Bool.or_false _
noncomputable def mx (e x:Int):Int:=if x > e then x else e
noncomputable def mn (b x:Int):Int:=if x<b then x else b
noncomputable def mrg (e b:Int):Int × Int→SP→SP
 | p,[]=>[(b,mx e p.2)]
 | p,q::r=>if q.1≤e then mrg e b q r else (b,mx e p.2)::q::r
noncomputable def addR (b e:Int):SP→SP
 | []=>[(b,e)]
 | p::r=>if p.2<b then p::addR b e r else if e<p.1 then (b,e)::p::r else mrg e (mn b p.1) p r
theorem qHB (e b lo:Int) (hb:b<e) (hlo:lo<b):∀ (r:SP) (p:Int × Int),GoodR p.2 r→GoodR lo (mrg e b p r)
 | [],p,_=>⟨hlo,by show b<mx e p.2;unfold mx;split <;> omega,trivial⟩
 | q::r,p,⟨h1,h2,h3⟩=>by
  unfold mrg
  by_cases c:q.1≤e
  ·rw [if_pos c];exact qHB e b lo hb hlo r q h3
  ·rw [if_neg c]
   exact ⟨hlo,by show b<mx e p.2;unfold mx;split <;> omega,by show mx e p.2<q.1;unfold mx;split <;> omega,h2,h3⟩
theorem qLP (e b x:Int):∀ (r:SP) (p:Int × Int),p.1≤e→b≤p.1→p.1<p.2→GoodR p.2 r→(inS (mrg e b p r) x=true↔(b≤x∧x<mx e p.2)∨inS r x=true)
 | [],p,h0,hb,hp,_=>by
  show inS [(b,mx e p.2)] x=true↔_
  rw [qI3]
  simp [inS]
 | q::r,p,h0,hb,hp,⟨h1,h2,h3⟩=>by
  unfold mrg
  by_cases c:q.1≤e
  ·rw [if_pos c,qLP e b x r q c (by omega) h2 h3,qAf]
   unfold inB
   simp only [Bool.or_eq_true,Bool.and_eq_true,decide_eq_true_eq]
   have:mx e p.2=e:=by unfold mx;rw [if_neg (by omega)]
   rw [this]
   unfold mx
   constructor
   ·rintro (⟨z1,z2⟩ | z)
    ·by_cases y:x<e
     ·exact .inl ⟨z1,y⟩
     ·split at z2
      ·exact .inr (.inl ⟨by omega,z2⟩)
      ·omega
    ·exact .inr (.inr z)
   ·rintro (⟨z1,z2⟩ | ⟨z1,z2⟩ | z)
    ·left;split <;> omega
    ·left;split <;> omega
    ·exact .inr z
  ·rw [if_neg c,qAf]
   unfold inB
   simp only [Bool.or_eq_true,Bool.and_eq_true,decide_eq_true_eq]
theorem qCS (b e:Int) (hb:b<e):∀ {lo:Int} {l:SP},lo<b→GoodR lo l→GoodR lo (addR b e l)
 | lo,[],hlo,_=>⟨hlo,hb,trivial⟩
 | lo,p::r,hlo,⟨h1,h2,h3⟩=>by
  unfold addR
  by_cases c:p.2<b
  ·rw [if_pos c];exact ⟨h1,h2,qCS b e hb c h3⟩
  ·rw [if_neg c]
   by_cases q:e<p.1
   ·rw [if_pos q];exact ⟨hlo,hb,q,h2,h3⟩
   ·rw [if_neg q]
    exact qHB e _ lo (by unfold mn;split <;> omega) (by unfold mn;split <;> omega) r p h3
theorem qFV (b e x:Int) (hb:b<e):∀ {lo:Int} {l:SP},GoodR lo l→(inS (addR b e l) x=true↔inS l x=true∨(b≤x∧x<e))
 | lo,[],_=>by
  show inS [(b,e)] x=true↔_
  rw [qI3]
  simp [inS]
 | lo,p::r,⟨h1,h2,h3⟩=>by
  unfold addR
  by_cases c:p.2<b
  ·rw [if_pos c,qAf,qAf,Bool.or_eq_true,Bool.or_eq_true,qFV b e x hb h3,or_assoc]
  ·rw [if_neg c]
   by_cases q:e<p.1
   ·rw [if_pos q,qAf,Bool.or_eq_true]
    unfold inB
    simp only [Bool.and_eq_true,decide_eq_true_eq]
    exact or_comm
   ·rw [if_neg q,qLP e _ x r p (by omega) (by unfold mn;split <;> omega) h2 h3,qAf,Bool.or_eq_true]
    unfold inB
    simp only [Bool.and_eq_true,decide_eq_true_eq]
    unfold mn mx
    constructor
    ·rintro (⟨z1,z2⟩ | z)
     ·by_cases y:b≤x∧x<e
      ·exact .inr y
      ·left;left;split at z1 <;> split at z2 <;> omega
     ·exact .inl (.inr z)
    ·rintro ((⟨z1,z2⟩ | z) | ⟨z1,z2⟩)
     ·left;split <;> split <;> omega
     ·exact .inr z
     ·left;split <;> split <;> omega
theorem qFH {s:Nat} {x:Int} {p:Int × Int} {r:SP} (h:side s p<x):cnt s x (p::r)=cnt s x r+1:=by
 unfold cnt
 rw [List.takeWhile_cons,if_pos (by simpa using h),List.length_cons]
theorem qGf {s:Nat} {x:Int} {p:Int × Int} {r:SP} (h:¬ side s p<x):cnt s x (p::r)=0:=by
 unfold cnt
 rw [List.takeWhile_cons,if_neg (by simpa using h)]
 rfl
theorem qLQ (e b:Int):∀ (r:SP) (p:Int × Int),∃ q,(p::r)[cnt 0 (e+1) r]?=some q∧mrg e b p r=(b,mx e q.2)::r.drop (cnt 0 (e+1) r)
 | [],p=>⟨p,rfl,rfl⟩
 | q::r,p=>by
  unfold mrg
  by_cases c:q.1≤e
  ·obtain ⟨z,h1,h2⟩:=qLQ e b r q
   rw [if_pos c,qFH (show side 0 q<e+1 by show q.1<e+1;omega)]
   exact ⟨z,by simpa using h1,by rw [h2,List.drop_succ_cons]⟩
  ·rw [if_neg c,qGf (show ¬ side 0 q<e+1 by show ¬ q.1<e+1;omega)]
   exact ⟨p,rfl,rfl⟩
theorem qJp (b e:Int) (hb:b≤e):∀ {lo:Int} {l:SP},GoodR lo l →
    (cnt 1 b l<cnt 0 (e+1) l→∃ p q,l[cnt 1 b l]?=some p∧l[cnt 0 (e+1) l-1]?=some q∧addR b e l=l.take (cnt 1 b l)++(mn b p.1,mx e q.2)::l.drop (cnt 0 (e+1) l)) ∧
    (¬ cnt 1 b l<cnt 0 (e+1) l→addR b e l=l.take (cnt 1 b l)++(b,e)::l.drop (cnt 0 (e+1) l))
  | lo,[],_=>⟨fun h=>absurd h (Nat.lt_irrefl 0),fun _=>rfl⟩
  | lo,p::r,⟨h1,h2,h3⟩=>by
    by_cases c:p.2<b
    · have hc:side 1 p<b:=c
      have hc2:side 0 p<e+1:=by show p.1<e+1;omega
      obtain ⟨i1,i2⟩:=qJp b e hb h3
      unfold addR
      rw [if_pos c,qFH hc,qFH hc2]
      refine ⟨fun h=>?_,fun h=>?_⟩
      · obtain ⟨x,y,e1,e2,e3⟩:=i1 (by omega)
        refine ⟨x,y,by simpa using e1,?_,by rw [e3];simp⟩
        have:cnt 0 (e+1) r=(cnt 0 (e+1) r-1)+1:=by omega
        rw [Nat.add_sub_cancel,this,List.getElem?_cons_succ]
        exact e2
      · rw [i2 (by omega)];simp
    · have hc:¬ side 1 p<b:=c
      rw [qGf hc]
      unfold addR
      rw [if_neg c]
      by_cases q:e<p.1
      · have hq:¬ side 0 p<e+1:=by show ¬ p.1<e+1;omega
        rw [qGf hq,if_pos q]
        exact ⟨fun h=>absurd h (by omega),fun _=>rfl⟩
      · have hq:side 0 p<e+1:=by show p.1<e+1;omega
        rw [qFH hq,if_neg q]
        obtain ⟨z,e1,e2⟩:=qLQ e (mn b p.1) r p
        refine ⟨fun _=>⟨p,z,rfl,by rw [Nat.add_sub_cancel];exact e1,by rw [e2];simp⟩,fun h=>absurd (by omega) h⟩
noncomputable def addS (b e:Int) (l:SP):SP:=if b=e then l else addR b e l
theorem qDi (b e:Int):∀ l:SP,(addR b e l).length≤l.length+1
 | []=>by simp [addR]
 | p::r=>by
  have:=qDi b e r
  have hm:∀ (r:SP) (p:Int × Int) (b:Int),(mrg e b p r).length≤r.length+1:=by
   intro r
   induction r with
   | nil=>intro p b;simp [mrg]
   | cons q r ih =>
    intro p b
    unfold mrg
    split
    ·have:=ih q b;simp only [List.length_cons];omega
    ·simp
  unfold addR
  split
  ·simp only [List.length_cons];omega
  ·split
   ·simp
   ·have:=hm r p (mn b p.1);simp only [List.length_cons];omega
theorem qPn (a b:SP):spL a++spL b=spL (a++b):=by unfold spL;rw [List.map_append]
theorem qIl (B n:Nat) (b e lo:Int) (l:SP) (hg:GoodR lo l) (h:AH) (hB:l.length<B) (hl:l.length≤1000) :
    callN fns B (n+3) qM3 [.tup (spL l),.int b,.int e] h=if b<0∨e<b then .bad else .ok (.tup (spL (addS b e l))) h:=by
  rw [qNS]
  have c1:=qB7 B n b e h
  by_cases q:b<0∨e<b
  · rw [if_pos q] at c1 ⊢
    simp! only [qEJ,c1]
  · rw [if_neg q] at c1 ⊢
    unfold addS
    have d:(b == e)=decide (b=e):=by rw [Bool.eq_iff_iff];simp
    simp! only [qEJ,c1,d]
    by_cases c:b=e
    · rw [if_pos c]
      simp! only [c]
    · rw [if_neg c]
      have c2:=qGW B (n+1) 1 (.inr rfl) b lo l hg h hB
      have c3:=qGW B (n+1) 0 (.inl rfl) (e+1) lo l hg h hB
      have e1:D.int ((1:Nat):Int)=D.int 1:=rfl
      have e0:D.int ((0:Nat):Int)=D.int 0:=rfl
      rw [e1] at c2
      rw [e0] at c3
      obtain ⟨k1,k2⟩:=qJp b e (by omega) hg
      have l1:=qLc 1 b l
      have l2:=qLc 0 (e+1) l
      have dl:decide (((cnt 1 b l:Nat):Int)<((cnt 0 (e+1) l:Nat):Int))=decide (cnt 1 b l<cnt 0 (e+1) l):=qBP _ _
      generalize cnt 1 b l=f at *
      generalize cnt 0 (e+1) l=k at *
      have tl:(l.take f).length=f:=by rw [List.length_take];omega
      have dr:(l.drop k).length=l.length-k:=by rw [List.length_drop]
      simp! only [c,qGF,c2,c3,dl]
      by_cases z:f<k
      · obtain ⟨p,r,w1,w2,w3⟩:=k1 z
        have ixp:=ix_sp w1
        have ixr:=ix_sp w2
        have ix0:((ixN 2 0).bind fun j=>[D.int p.1,D.int p.2][j]?)=some (.int p.1):=rfl
        have ix1:((ixN 2 1).bind fun j=>[D.int r.1,D.int r.2][j]?)=some (.int r.2):=rfl
        have hk1:((k:Int)-1)=((k-1:Nat):Int):=by omega
        unfold spD at ixp ixr
        have hmn:(if p.1<b then p.1 else b)=mn b p.1:=rfl
        have hmx:(if r.2 > e then r.2 else e)=mx e r.2:=rfl
        simp! only [z,qGG,hmn,hmx,qA0,ixp,ix0,hk1,ixr,ix1,qEI,qD5,qCH,qGz,qDc,if_pos (show 2≤16777216 by omega),if_pos (show 1≤16777216 by omega),tl,dr,List.length_append,show f≤16777215 by omega]
        rw [if_pos (by omega),w3]
        simp! only [and_self]
        unfold spL
        rw [List.map_append,List.append_assoc]
        rfl
      · have w3:=k2 z
        simp! only [z,qEI,qA0,qD5,qCH,qGz,qDc,if_pos (show 2≤16777216 by omega),if_pos (show 1≤16777216 by omega),tl,dr,List.length_append,show f≤16777215 by omega]
        rw [if_pos (by omega),w3]
        simp! only [and_self]
        unfold spL
        rw [List.map_append,List.append_assoc]
        rfl
noncomputable def qAp (e:Int):Int→SP→SP
 | pl,[]=>if pl<e then [(pl,e)] else []
 | pl,p::r=>if e≤p.1 then (if pl<e then [(pl,e)] else []) else if pl<p.1 then (pl,p.1)::qAp e p.2 r else qAp e p.2 r
theorem qDz (e:Int):∀ {pl:Int} {l:SP},GoodR (pl-1) l→GoodR (pl-1) (qAp e pl l)
 | pl,[],_=>by
  unfold qAp
  split
  ·exact ⟨by show pl-1<pl;omega,by assumption,trivial⟩
  ·trivial
 | pl,p::r,⟨h1,h2,h3⟩=>by
  unfold qAp
  have ih:GoodR (p.2-1) (qAp e p.2 r):=qDz e (h3.weak (by omega))
  split
  ·split
   ·exact ⟨by show pl-1<pl;omega,by assumption,trivial⟩
   ·trivial
  ·split
   ·exact ⟨by show pl-1<pl;omega,by assumption,ih.weak (by show p.1≤_;omega)⟩
   ·exact ih.weak (by omega)
theorem qEh (e:Int):∀ (pl:Int) (l:SP),(qAp e pl l).length≤l.length+1
 | pl,[]=>by unfold qAp;split <;> simp
 | pl,p::r=>by
  have:=qEh e p.2 r
  unfold qAp
  split
  ·split <;> simp
  ·split
   ·simp only [List.length_cons];omega
   ·simp only [List.length_cons];omega
noncomputable def hGo (e:Int):Int→SP→SP × Int
 | pl,[]=>([],pl)
 | pl,p::r=>if e≤p.1 then ([],pl) else if pl<p.1 then ((pl,p.1)::(hGo e p.2 r).1,(hGo e p.2 r).2) else hGo e p.2 r
theorem qLa (e:Int):∀ (pl:Int) (l:SP),qAp e pl l=(hGo e pl l).1++(if (hGo e pl l).2<e then [((hGo e pl l).2,e)] else [])
 | pl,[]=>rfl
 | pl,p::r=>by
  have ih:=qLa e p.2 r
  unfold qAp hGo
  by_cases c:e≤p.1
  ·rw [if_pos c,if_pos c];rfl
  ·rw [if_neg c,if_neg c]
   by_cases q:pl<p.1
   ·rw [if_pos q,if_pos q,ih];rfl
   ·rw [if_neg q,if_neg q,ih]
theorem qDM (F:Nat→List D→M D) (B:Nat) (h:AH) (s0 s1:Option D) (e:Int):∀ (l:SP) (acc:SP) (pl:Int) (s5:Option D),acc.length+l.length≤2000→∃ s5',qBB (qAR (TG.nm 5) (denS F B qEG)) (spL l) [s0,s1,some (.int e),some (.ref h.length),some (.int pl),s5] (h++[.lst (spL acc)]) =
    .nx [s0,s1,some (.int e),some (.ref h.length),some (.int (hGo e pl l).2),s5'] (h++[.lst (spL (acc++(hGo e pl l).1))])
  | [],acc,pl,s5,_=>⟨s5,by unfold hGo;rw [List.append_nil];rfl⟩
  | p::r,acc,pl,s5,hl=>by
    simp only [List.length_cons] at hl
    have ix0:((ixN 2 0).bind fun j=>[D.int p.1,D.int p.2][j]?)=some (.int p.1):=rfl
    have ix1:((ixN 2 1).bind fun j=>[D.int p.1,D.int p.2][j]?)=some (.int p.2):=rfl
    show ∃ s5',qBB _ (spD p::spL r) _ _=_
    rw [qBB]
    unfold hGo
    unfold spD
    simp! only [qEG,ix0]
    by_cases c:e≤p.1
    · simp! only [c,List.append_nil]
      exact ⟨_,rfl⟩
    · simp! only [c,qGD,ix0]
      by_cases q:pl<p.1
      · obtain ⟨s5',ih⟩:=qDM F B h s0 s1 e r (acc++[(pl,p.1)]) p.2 (some (spD p)) (by simp only [List.length_append,List.length_cons,List.length_nil];omega)
        simp! only [q,qGE,qAT,qB0,ix0,if_pos (show 2≤16777216 by omega),qBs,qCd,qA0,show acc.length<16777216 by omega,qEH,ix1]
        refine ⟨s5',?_⟩
        have e1:spL (acc++[(pl,p.1)])=spL acc++[D.tup [D.int pl,D.int p.1]]:=by unfold spL;rw [List.map_append];rfl
        rw [e1,List.append_assoc] at ih
        exact ih
      · obtain ⟨s5',ih⟩:=qDM F B h s0 s1 e r acc p.2 (some (spD p)) (by omega)
        simp! only [q,qEH,ix1]
        exact ⟨s5',ih⟩
theorem qMm (B n:Nat) (b e lo:Int) (l:SP) (hg:GoodR lo l) (h:AH) (hB:l.length<B) (hl:l.length≤1000) (q:¬ (b<0∨e<b)) :
    ∃ g,callN fns B (n+3) qM2 [.tup (spL l),.int b,.int e] h=.ok (.tup (spL (qAp e b (cutS b l)))) (h++g):=by
  have c1:=qB7 B n b e h
  rw [qNR]
  rw [if_neg q] at c1
  have c2:=m_cut B n b lo l hg (h++[.lst []]) hB hl
  rw [if_neg (fun z=>q (.inl z))] at c2
  have hc:=qHP b l
  obtain ⟨s5',e1⟩:=qDM (callN fns B (n+2)) B h (some (.tup (spL l))) (some (.int b)) e (cutS b l) [] b none (by simp only [List.length_nil];omega)
  have e0:spL []=[]:=rfl
  rw [e0,List.nil_append] at e1
  have hle:=qEh e b (cutS b l)
  rw [qLa] at hle ⊢
  simp! only [qFU,c1,if_pos (show 0≤16777216 by omega),c2,e1]
  simp only [List.length_append] at hle
  by_cases c:(hGo e b (cutS b l)).2<e
  · simp only [if_pos c,List.length_cons,List.length_nil] at hle ⊢
    have hf:spL ((hGo e b (cutS b l)).1++[((hGo e b (cutS b l)).2,e)])=spL (hGo e b (cutS b l)).1++[D.tup [D.int (hGo e b (cutS b l)).2,D.int e]]:=by unfold spL;rw [List.map_append];rfl
    simp! only [qEE,c,qGC,qAT,qB0,qBs,qCd,qA0,if_pos (show 2≤16777216 by omega),show (hGo e b (cutS b l)).1.length<16777216 by omega,qEF,hf]
    exact ⟨_,rfl⟩
  · simp! only [if_neg c,List.append_nil,qEE,c,qEF,qAT,qB0]
    exact ⟨_,rfl⟩
noncomputable def SG:Tx:=[32,33,34,35,36,38,39,40,41,42,43,44,45,46,47,48,49,50,51,52,53,54,55,56,57,58,59,60,61,62,63,64,65,66,67,68,69,70,71,72,73,74,75,76,77,78,79,80,81,82,83,84,85,86,87,88,89,90,91,92,93,94,95,96,97,98,99,100,101,102,103,104,105,106,107,108,109,110,111,112,113,114,115,116,117,118,119,120,121,122,123,124,125,126]
theorem qPk:SG.length=94:=rfl
theorem sg_at (i:Int):((ixN 94 (i % 94)).bind fun j=>SG[j]?)=some (SG.getD (i % 94).toNat 0):=by
 have h1:=Int.emod_nonneg i (show (94:Int)≠0 by omega)
 have h2:=Int.emod_lt_of_pos i (show (0:Int)<94 by omega)
 obtain ⟨k,hk,hk2⟩:∃ k:Nat,i % 94=(k:Int)∧k<94:=⟨(i % 94).toNat,by omega,by omega⟩
 rw [hk,qDu hk2,Int.toNat_natCast,Option.bind_some,List.getD_eq_getElem?_getD,List.getElem?_eq_getElem (by exact hk2),Option.getD_some]
noncomputable def drawn (c:Int) (n:Nat):Tx:=(List.range n).map fun k:Nat=>SG.getD ((c+7*((0+(k:Int)) / (1+c % 3))) % 94).toNat 0
theorem qJY (c:Int) (n:Nat):(drawn c n).length=n:=by unfold drawn;simp
theorem qJ0 (f:Nat→Nat) (xs:List Nat):qAw (xs.map fun k=>.str [f k])=some (xs.map fun k=>[f k]):=by
 induction xs with
 | nil=>rfl
 | cons x xs ih=>simp only [List.map_cons,qAw,ih,Option.map_some]
theorem qFo (f:Nat→Nat):∀ xs:List Nat,joinT [] (xs.map fun k=>[f k])=xs.map f
 | []=>rfl
 | [x]=>rfl
 | x::y::r=>by
  have:=qFo f (y::r)
  show [f x]++[]++joinT [] ((y::r).map fun k=>[f k])=_
  rw [this]
  rfl
theorem qOu (B n:Nat) (h:AH) (c:Int) (k:Nat) (hk:k≤1000):∃ g,callN fns B (n+1) qHp [.int c,.int k] h=.ok (.str (drawn c k)) (h++g):=by
 rw [qHx]
 have hs:qAI (k:Int):=by unfold qAI;omega
 have hm:qBX (compF (den (callN fns B n) qBa) [some (.int c),some (.int k),some (.str SG)]) (qAi 0 k) h=.ok ((List.range k).map fun j:Nat=>.str [SG.getD ((c+7*((0+(j:Int)) / (1+c % 3))) % 94).toNat 0]) h:=by
  have:=qDp (compF (den (callN fns B n) qBa) [some (.int c),some (.int k),some (.str SG)]) (fun d=>match d with | .int v=>.str [SG.getD ((c+7*(v / (1+c % 3))) % 94).toNat 0] | _=>.non) h (qAi 0 k) (fun x hx=>by
   unfold qAi at hx
   obtain ⟨j,_,rfl⟩:=List.mem_map.mp hx
   have h1:0<1+c % 3∧1+c % 3<1073741824:=⟨by omega,by omega⟩
   unfold compF
   simp! only [qBa,if_pos h1,if_pos (qGR (i:=7) (j:=(0+(j:Int)) / (1+c % 3)) (by omega)),qPk,if_pos (show 94≤16777216 by omega),sg_at])
  rw [this]
  unfold qAi
  rw [List.map_map]
  rfl
 have hSG:([32,33,34,35,36,38,39,40,41,42,43,44,45,46,47,48,49,50,51,52,53,54,55,56,57,58,59,60,61,62,63,64,65,66,67,68,69,70,71,72,73,74,75,76,77,78,79,80,81,82,83,84,85,86,87,88,89,90,91,92,93,94,95,96]++[97,98,99,100,101,102,103,104,105,106,107,108,109,110,111,112,113,114,115,116,117,118,119,120,121,122,123,124,125,126]:Tx)=SG:=rfl
 have hadd:biD .add (.str [32,33,34,35,36,38,39,40,41,42,43,44,45,46,47,48,49,50,51,52,53,54,55,56,57,58,59,60,61,62,63,64,65,66,67,68,69,70,71,72,73,74,75,76,77,78,79,80,81,82,83,84,85,86,87,88,89,90,91,92,93,94,95,96]) (.str [97,98,99,100,101,102,103,104,105,106,107,108,109,110,111,112,113,114,115,116,117,118,119,120,121,122,123,124,125,126]) h=.ok (.str SG) h:=rfl
 have hl2:joinN [] ((List.range k).map fun j:Nat=>[SG.getD ((c+7*((0+(j:Int)) / (1+c % 3))) % 94).toNat 0])≤16777216:=by
  unfold joinN
  rw [List.map_map,List.length_map,List.length_range]
  have:((List.range k).map (List.length ∘ fun j:Nat=>[SG.getD ((c+7*((0+(j:Int)) / (1+c % 3))) % 94).toNat 0])).sum=k:=by
   rw [show (List.length ∘ fun (j:Nat)=>[SG.getD ((c+7*((0+(j:Int)) / (1+c % 3))) % 94).toNat 0])=fun _=>1 from rfl]
   rw [List.map_const',List.sum_replicate_nat,List.length_range,Nat.mul_one]
  rw [this]
  simp only [List.length_nil,Nat.mul_zero]
  omega
 simp only [qCV,denS,den,denI,M.bind_eq,M.ret_eq,R.bind_ok,qLO,tgSet,qEo,List.getElem?_cons_zero,List.getElem?_cons_succ,List.set_cons_zero,List.set_cons_succ,hadd]
 simp! only [if_pos hs,Int.toNat_natCast,qCp,if_pos (show k<16777216 by omega),hm,List.length_map,List.length_range,if_pos (show k≤16777216 by omega),qAT,qB0,Option.bind_some,qJ0,if_pos hl2,qFo]
 exact ⟨_,rfl⟩
theorem qAu {x:Ky × D} {r:List (Ky × D)} {k:Ky} (e:x.1=k):valY (x::r) k=some x.2:=by
 unfold valY
 rw [List.find?_cons_of_pos (by simpa using e)]
 rfl
theorem qAr {x:Ky × D} {r:List (Ky × D)} {k:Ky} (e:¬ x.1=k):valY (x::r) k=valY r k:=by
 unfold valY
 rw [List.find?_cons_of_neg (by simpa using e)]
theorem qEp (k:Ky):∀ kvs:List (Ky × D),(kvs.any fun kv=>decide (kv.1=k))=(valY kvs k).isSome
 | []=>rfl
 | x::r=>by
  rw [List.any_cons]
  by_cases e:x.1=k
  ·rw [qAu e,decide_eq_true e];rfl
  ·rw [qAr e,decide_eq_false e,Bool.false_or];exact qEp k r
theorem qGt (k j:Ky) (y:D):∀ kvs:List (Ky × D),valY (kvs.map fun kv=>if kv.1=k then (kv.1,y) else kv) j=(valY kvs j).map fun x=>if j=k then y else x
 | []=>rfl
 | p::r=>by
  have ih:=qGt k j y r
  rw [List.map_cons]
  by_cases h:p.1=k
  ·rw [if_pos h]
   by_cases e:p.1=j
   ·rw [qAu (x:=(p.1,y)) e,qAu e,Option.map_some,if_pos (e.symm.trans h)]
   ·rw [qAr (x:=(p.1,y)) e,qAr e,ih]
  ·rw [if_neg h]
   by_cases e:p.1=j
   ·rw [qAu (x:=p) e,qAu e,Option.map_some,if_neg (fun z=>h (e.trans z))]
   ·rw [qAr (x:=p) e,qAr e,ih]
theorem qFW (k j:Ky) (y:D):∀ kvs:List (Ky × D),valY kvs k=none→valY (kvs++[(k,y)]) j=if j=k then some y else valY kvs j
 | [],_=>by
  by_cases e:k=j
  ·rw [if_pos e.symm];exact qAu (x:=(k,y)) e
  ·rw [if_neg (fun z=>e z.symm)];exact qAr (x:=(k,y)) e
 | p::r,hn=>by
  have hk:¬ p.1=k:=fun z=>by rw [qAu z] at hn;cases hn
  rw [qAr hk] at hn
  have ih:=qFW k j y r hn
  rw [List.cons_append]
  by_cases e:p.1=j
  ·rw [qAu e,qAu e,if_neg (fun z=>hk (e.trans z))]
  ·rw [qAr e,qAr e,ih]
theorem qJr (kvs:List (Ky × D)) (k j:Ky) (y:D):valY (putY kvs k y) j=if j=k then some y else valY kvs j:=by
 unfold putY
 cases a:(kvs.any fun kv=>decide (kv.1=k)) with
 | true =>
  rw [if_pos rfl,qGt]
  rw [qEp] at a
  by_cases e:j=k
  ·subst e
   obtain ⟨x,hx⟩:=Option.isSome_iff_exists.mp a
   rw [hx,if_pos rfl,Option.map_some,if_pos rfl]
  ·rw [if_neg e]
   cases valY kvs j with
   | none=>rfl
   | some x=>rw [Option.map_some,if_neg e]
 | false =>
  rw [if_neg (by decide)]
  refine qFW k j y kvs ?_
  rw [qEp] at a
  cases q:valY kvs k with
  | none=>rfl
  | some x=>rw [q] at a;cases a
theorem qKZ (kvs:List (Ky × D)) (k:Ky) (y:D):(putY kvs k y).length≤kvs.length+1:=by
 unfold putY
 split
 ·rw [List.length_map];omega
 ·simp
noncomputable def fl (t:Tx) (sp:List D) (d:Nat):List (Nat × D):=[(qB8,.str t),(qB9,.tup sp),(qDf,.ref d)]
section
variable (t:Tx) (sp:List D) (d:Nat)
theorem qD1:getN qB8 (fl t sp d)=some (.str t):=rfl
theorem qCE:getN qB9 (fl t sp d)=some (.tup sp):=rfl
theorem qHN:getN qDf (fl t sp d)=some (.ref d):=rfl
theorem qOU (v:Tx):putN qB8 (.str v) (fl t sp d)=fl v sp d:=rfl
theorem qIR (v:List D):putN qB9 (.tup v) (fl t sp d)=fl t v d:=rfl
theorem qOo:getN 28273260611201390 (fl t sp d)=none:=rfl
theorem n_put:getN 7370100 (fl t sp d)=none:=rfl
theorem qPr:getN 1936287598 (fl t sp d)=none:=rfl
theorem f_len:(fl t sp d).length=3:=rfl
end
noncomputable def Fr (p d:Nat) (h h':AH):Prop:=∀ (i:Nat) (o:O),i≠p→i≠d→h[i]?=some o→h'[i]?=some o
theorem qCC {h:AH} {i:Nat} {o:O} (g:AH) (e:h[i]?=some o):(h++g)[i]?=some o:=by
 rw [List.getElem?_append_left (List.getElem?_eq_some_iff.mp e).1,e]
section
variable {p d:Nat}
theorem Fr.refl (h:AH):Fr p d h h:=fun _ _ _ _ e=>e
theorem Fr.trans {a b c:AH} (x:Fr p d a b) (y:Fr p d b c):Fr p d a c:=fun i o n1 n2 e=>y i o n1 n2 (x i o n1 n2 e)
theorem Fr.app (h g:AH):Fr p d h (h++g):=fun _ _ _ _ e=>qCC g e
theorem Fr.setp (h:AH) (o:O):Fr p d h (h.set p o):=fun i o' n1 _ e=>by rw [List.getElem?_set_ne n1.symm,e]
theorem Fr.setd (h:AH) (o:O):Fr p d h (h.set d o):=fun i o' _ n2 e=>by rw [List.getElem?_set_ne n2.symm,e]
end
structure Sl (h:AH) (p d:Nat) (t:Tx) (sp:SP) (kvs:List (Ky × D)):Prop where
 ap:h[p]?=some (.ins qBg (fl t (spL sp) d))
 ad:h[d]?=some (.dct kvs)
section
variable {h:AH} {p d:Nat} {t:Tx} {sp:SP} {kvs:List (Ky × D)}
theorem Sl.ne (s:Sl h p d t sp kvs):p≠d:=fun e=>by
 have:=s.ap
 rw [e,s.ad] at this
 cases this
theorem Sl.app (s:Sl h p d t sp kvs) (g:AH):Sl (h++g) p d t sp kvs:=⟨qCC g s.ap,qCC g s.ad⟩
theorem Sl.lp (s:Sl h p d t sp kvs):p<h.length:=(List.getElem?_eq_some_iff.mp s.ap).1
theorem Sl.ld (s:Sl h p d t sp kvs):d<h.length:=(List.getElem?_eq_some_iff.mp s.ad).1
theorem Sl.setD (s:Sl h p d t sp kvs) (kvs':List (Ky × D)):Sl (h.set d (.dct kvs')) p d t sp kvs'∧Fr p d h (h.set d (.dct kvs')) :=
 ⟨⟨by rw [List.getElem?_set_ne s.ne.symm];exact s.ap,List.getElem?_set_self s.ld⟩,Fr.setd _ _⟩
theorem Sl.setP (s:Sl h p d t sp kvs) (t':Tx) (sp':SP):Sl (h.set p (.ins qBg (fl t' (spL sp') d))) p d t' sp' kvs∧Fr p d h (h.set p (.ins qBg (fl t' (spL sp') d))) :=
 ⟨⟨List.getElem?_set_self s.lp,by rw [List.getElem?_set_ne s.ne];exact s.ad⟩,Fr.setp _ _⟩
theorem Sl.nl (s:Sl h p d t sp kvs):getL h d=none:=by unfold getL;rw [s.ad]
end
theorem qFX (k j:Ky):∀ kvs:List (Ky × D),valY (dropY kvs k) j=if j=k then none else valY kvs j
 | []=>by show none=_;split <;> rfl
 | x::r=>by
  have ih:=qFX k j r
  unfold dropY at ih ⊢
  by_cases e:x.1=k
  ·rw [List.filter_cons_of_neg (by simpa using e),ih]
   by_cases c:j=k
   ·rw [if_pos c,if_pos c]
   ·rw [if_neg c,if_neg c,qAr (fun z=>c (z.symm.trans e))]
  ·rw [List.filter_cons_of_pos (by simpa using e)]
   by_cases c:x.1=j
   ·rw [qAu c,qAu c,if_neg (fun z=>e (c.trans z))]
   ·rw [qAr c,qAr c,ih]
theorem qKa (k:Ky) (kvs:List (Ky × D)):(dropY kvs k).length≤kvs.length:=List.length_filter_le _ _
theorem qG0 {h:AH} {i:Nat} {o:O} (e:h[i]?=some o):h.set i o=h:=by
 apply List.ext_getElem?
 intro j
 by_cases c:i=j
 ·subst c;rw [List.getElem?_set_self (List.getElem?_eq_some_iff.mp e).1,e]
 ·rw [List.getElem?_set_ne c]
theorem qL2 {g:AH} {d:Nat} {kvs:List (Ky × D)} {x:Int} {v:D} (hd:g[d]?=some (.dct kvs)) (hl:kvs.length<16777216) :
    ∃ kvs' r,setdK d (.int x) v g=.ok r (g.set d (.dct kvs'))∧kvs'.length≤kvs.length+1∧∀ y,valY kvs' y=if y=.int x∧valY kvs (.int x)=none then some v else valY kvs y:=by
  unfold setdK
  rw [hd]
  simp only
  cases hc:valY kvs (.int x) with
  | none =>
    simp only
    rw [if_pos hl]
    exact ⟨_,_,rfl,qKZ _ _ _,fun y=>by rw [qJr];simp only [and_true]⟩
  | some r =>
    exact ⟨kvs,r,by rw [qG0 hd],by omega,fun y=>by rw [if_neg (fun z=>by cases z.2)]⟩
theorem qOS {g:AH} {d:Nat} {kvs:List (Ky × D)} {x:Int} {v:D} (hd:g[d]?=some (.dct kvs)) (hv:valY kvs (.int x)=some v):popK d (.int x) g=.ok v (g.set d (.dct (dropY kvs (.int x)))):=by
 unfold popK
 rw [hd]
 simp only
 rw [hv]
theorem cn:([306712044914,358300611685,362411681138]:List Nat).contains qBg=true:=by decide
theorem cnT:([306712044914,358300611685,362411681138]:List Nat).contains qAO=true:=by decide
structure Iv (w:Tx) (a:Nat) (lo:Int) (sp:SP) (kvs:List (Ky × D)) (c:Nat):Prop where
 le:a≤w.length
 gd:GoodR lo sp
 up:∀ x:Int,inS sp x=true→x<w.length
 dc:∀ x:Int,valY kvs (.int x)=if inS sp x=true then some (.str [w.getD x.toNat 0]) else none
 ls:sp.length≤c
 lk:kvs.length≤201*c
noncomputable def pr (a:Nat) (sp:SP) (x:Nat):Bool:=decide (x<a) || inS sp (x:Int)
theorem tx_at {y:Tx} {k:Nat} {c:Nat} (e:y[k]?=some c):((ixN y.length (k:Int)).bind fun j=>y[j]?)=some c:=by
 rw [qDu (List.getElem?_eq_some_iff.mp e).1,Option.bind_some,e]
theorem qJB {w:Tx} {k:Nat} (hk:k<w.length):w[k]?=some (w.getD k 0):=by
 rw [List.getD_eq_getElem?_getD,List.getElem?_eq_getElem hk,Option.getD_some]
section
variable {F:Nat→List D→M D} {B:Nat} {h:AH} {p d:Nat} {t w:Tx} {sp:SP} {kvs:List (Ky × D)}
theorem qJ6 (s:Sl h p d t sp kvs) (hz:kvs.length≤10000000) (hd:∀ x:Int,valY kvs (.int x)=if inS sp x=true then some (.str [w.getD x.toNat 0]) else none) (at' b n:Nat) (y:Tx) (hb:at'≤b) (he:b+n=at'+y.length) (hyl:y.length≤200) (hy:∀ x:Nat,b≤x→x<b+n→inS sp (x:Int)=false→w.getD x 0=y.getD (x-at') 0) (x4 x5:Option D) :
    ∃ kvs' x5',qBB (qAR (TG.nm 5) (denS F B qBM)) (qAi b n) [some (.ref p),some (.int at'),some (.str y),some (.int b),x4,x5] h=.nx [some (.ref p),some (.int at'),some (.str y),some (.int b),x4,x5'] (h.set d (.dct kvs')) ∧
      kvs'.length≤kvs.length+n∧∀ x:Int,valY kvs' (.int x)=if inS sp x=true∨((b:Int)≤x∧x<b+n) then some (.str [w.getD x.toNat 0]) else none:=by
  obtain ⟨σ',h',e,kvs',l,e1,e2,e3,e4⟩:=qCz (fun k σ g=>∃ (kvs':List (Ky × D)) (l:Option D),σ=[some (.ref p),some (.int at'),some (.str y),some (.int b),x4,l]∧g=h.set d (.dct kvs')∧kvs'.length≤kvs.length+k∧∀ x:Int,valY kvs' (.int x)=if inS sp x=true∨((b:Int)≤x∧x<b+k) then some (.str [w.getD x.toNat 0]) else none)
    (qAR (TG.nm 5) (denS F B qBM)) (qAi b n) 0 [some (.ref p),some (.int at'),some (.str y),some (.int b),x4,x5] h
    ⟨kvs,x5,rfl,(qG0 s.ad).symm,by omega,fun x=>by
      rw [hd x]
      have:(inS sp x=true∨((b:Int)≤x∧x<b+(0:Nat)))↔inS sp x=true:=⟨fun z=>z.elim id (fun z=>by omega),.inl⟩
      simp only [this]⟩
    (fun k x σ g hk ⟨kvs',l,e1,e2,e3,e4⟩=>by
      obtain ⟨hkn,rfl⟩:=qDk hk
      subst e1
      subst e2
      rw [Nat.zero_add] at e3 e4 ⊢
      obtain ⟨s1,_⟩:=s.setD kvs'
      obtain ⟨kvs2,r,q1,q2,q3⟩:=qL2 (x:=(b:Int)+k) (v:=.str [y.getD (b+k-at') 0]) s1.ad (by omega)
      rw [List.set_set] at q1
      have ix:((ixN y.length ((b:Int)+k-at')).bind fun j=>y[j]?)=some (y.getD (b+k-at') 0):=by
        rw [show ((b:Int)+k-at')=((b+k-at':Nat):Int) by omega]
        exact tx_at (qJB (by omega))
      refine ⟨_,_,?_,kvs2,some (.int ((b:Int)+k)),rfl,rfl,by omega,fun x=>?_⟩
      · rw [qAv]
        simp! only [qBM,s1.ap,qHN,s1.ad,if_pos (show y.length≤16777216 by omega),ix,q1]
      · rw [q3]
        by_cases c:x=(b:Int)+k
        · subst c
          cases hi:inS sp ((b:Int)+k) with
          | false =>
            have:=hy (b+k) (by omega) (by omega) (by rw [show ((b+k:Nat):Int)=(b:Int)+k by omega];exact hi)
            have hv:valY kvs' (.int ((b:Int)+k))=none:=by
              rw [e4,if_neg]
              rintro (z | z)
              · rw [hi] at z;cases z
              · omega
            rw [if_pos ⟨rfl,hv⟩,if_pos (.inr (by omega)),show ((b:Int)+k).toNat=b+k by omega,this]
          | true =>
            have hv:valY kvs' (.int ((b:Int)+k))=some (.str [w.getD (b+k) 0]):=by
              rw [e4,if_pos (.inl hi),show ((b:Int)+k).toNat=b+k by omega]
            rw [hv,if_neg (fun z=>by cases z.2),if_pos (.inl rfl),show ((b:Int)+k).toNat=b+k by omega]
        · rw [if_neg (fun z=>c (by cases z.1;rfl)),e4]
          have:(inS sp x=true∨((b:Int)≤x∧x<b+k))↔(inS sp x=true∨((b:Int)≤x∧x<b+(k+1:Nat))):=by
            constructor
            · rintro (z | z)
              · exact .inl z
              · exact .inr (by omega)
            · rintro (z | z)
              · exact .inl z
              · exact .inr (by omega)
          simp only [this])
  rw [qCp,Nat.zero_add] at e3 e4
  subst e1
  subst e2
  exact ⟨kvs',l,e,e3,e4⟩
end
theorem qIA (t:Tx) (f:Nat→Nat) (n:Nat):qAw (.str t::(List.range n).map fun j=>.str [f j])=some (t::(List.range n).map fun j=>[f j]):=by
 show (qAw ((List.range n).map fun j=>.str [f j])).map (t::·)=_
 have:∀ l:List Nat,qAw (l.map fun j=>.str [f j])=some (l.map fun j=>[f j]):=fun l=>by
  induction l with
  | nil=>rfl
  | cons x l ih =>
   show (qAw (l.map fun j=>.str [f j])).map ([f x]::·)=_
   rw [ih]
   rfl
 rw [this]
 rfl
theorem qFp (x:Tx):∀ r:List Tx,joinT [] (x::r)=x++joinT [] r
 | []=>by show x=x++[];rw [List.append_nil]
 | y::r=>by show x++[]++joinT [] (y::r)=_;rw [List.append_nil]
theorem qEf (f:Nat→Nat):∀ l:List Nat,joinT [] (l.map fun j=>[f j])=l.map f
 | []=>rfl
 | x::l=>by rw [List.map_cons,qFp,qEf f l];rfl
theorem qHn (t:Tx) (f:Nat→Nat) (n:Nat):joinN [] (t::(List.range n).map fun j=>[f j])=t.length+n:=by
 unfold joinN
 rw [List.map_cons,List.map_map,show (List.length ∘ fun (j:Nat)=>[f j])=fun _=>1 from rfl,List.map_const',List.sum_cons,List.sum_replicate_nat,List.length_range,List.length_nil,Nat.mul_zero,Nat.mul_one,Nat.add_zero]
theorem qFa (w:Tx) (a:Nat):∀ n:Nat,a+n≤w.length→w.take a++(List.range n).map (fun j=>w.getD (a+j) 0)=w.take (a+n)
 | 0,_=>by simp
 | n+1,hn=>by
  rw [List.range_succ,List.map_append,← List.append_assoc,qFa w a n (by omega),← Nat.add_assoc,List.take_succ,qJB (by omega)]
  rfl
section
variable {F:Nat→List D→M D} {B:Nat} {h:AH} {p d:Nat} {t w:Tx} {sp:SP} {kvs:List (Ky × D)}
theorem qJZ (s:Sl h p d t sp kvs) (hw:w.length≤5000) (a n:Nat) (r:SP) (hm:a+n≤w.length) (hr:∀ x:Int,inS r x=true→(a+n:Int)≤x) (hd:∀ x:Int,valY kvs (.int x)=if ((a:Int)≤x∧x<a+n)∨inS r x=true then some (.str [w.getD x.toNat 0]) else none) (x1 x3:Option D) :
    ∃ h1 kvs' x3',qBB (qAR (TG.nm 3) (denS F B qAl)) (qAi a n) [some (.ref p),x1,some (.ref h.length),x3] (h++[.lst [.str t]])=.nx [some (.ref p),x1,some (.ref h.length),x3'] (h1++[.lst (.str t::(List.range n).map fun j=>.str [w.getD (a+j) 0])]) ∧
      h1.length=h.length∧Fr p d h h1∧Sl h1 p d t sp kvs'∧kvs'.length≤kvs.length∧∀ x:Int,valY kvs' (.int x)=if inS r x=true then some (.str [w.getD x.toNat 0]) else none:=by
  obtain ⟨σ',h',e,h1,kvs',l,e1,e2,e3,e4,e5,e6,e7⟩:=qCz (fun k σ g=>∃ (h1:AH) (kvs':List (Ky × D)) (l:Option D),σ=[some (.ref p),x1,some (.ref h.length),l]∧g=h1++[.lst (.str t::(List.range k).map fun j=>.str [w.getD (a+j) 0])]∧h1.length=h.length∧Fr p d h h1∧Sl h1 p d t sp kvs'∧kvs'.length≤kvs.length∧∀ x:Int,valY kvs' (.int x)=if ((a+k:Int)≤x∧x<a+n)∨inS r x=true then some (.str [w.getD x.toNat 0]) else none)
    (qAR (TG.nm 3) (denS F B qAl)) (qAi a n) 0 [some (.ref p),x1,some (.ref h.length),x3] (h++[.lst [.str t]])
    ⟨h,kvs,x3,rfl,rfl,rfl,Fr.refl h,s,Nat.le_refl _,fun x=>by
      rw [hd x]
      simp⟩
    (fun k x σ g hk ⟨h1,kvs',l,e1,e2,e3,e4,e5,e6,e7⟩=>by
      obtain ⟨hkn,rfl⟩:=qDk hk
      subst e1
      subst e2
      rw [Nat.zero_add] at e7 ⊢
      have hv:valY kvs' (.int ((a:Int)+k))=some (.str [w.getD (a+k) 0]):=by
        rw [e7,if_pos (.inl (by omega)),show ((a:Int)+k).toNat=a+k by omega]
      have s2:=e5.app [.lst (.str t::(List.range k).map fun j=>.str [w.getD (a+j) 0])]
      have q1:=qOS s2.ad hv
      rw [List.set_append_left _ _ e5.ld] at q1
      obtain ⟨s3,k3⟩:=e5.setD (dropY kvs' (.int ((a:Int)+k)))
      have hl3:(h1.set d (.dct (dropY kvs' (.int ((a:Int)+k))))).length=h.length:=by rw [List.length_set,e3]
      have gl:getL (h1++[O.lst (D.str t::(List.range k).map fun j=>D.str [w.getD (a+j) 0])]) h.length=some (D.str t::(List.range k).map fun j=>D.str [w.getD (a+j) 0]):=by rw [← e3,qAT];rfl
      have gl3:(h1.set d (.dct (dropY kvs' (.int ((a:Int)+k))))++[O.lst (D.str t::(List.range k).map fun j=>D.str [w.getD (a+j) 0])])[h.length]?=some (O.lst (D.str t::(List.range k).map fun j=>D.str [w.getD (a+j) 0])):=by rw [← hl3,qBs];rfl
      have st3:∀ o:O,(h1.set d (.dct (dropY kvs' (.int ((a:Int)+k))))++[O.lst (D.str t::(List.range k).map fun j=>D.str [w.getD (a+j) 0])]).set h.length o=h1.set d (.dct (dropY kvs' (.int ((a:Int)+k))))++[o]:=fun o=>by rw [← hl3,qCd];rfl
      have hlen:(D.str t::(List.range k).map fun j=>D.str [w.getD (a+j) 0]).length<16777216:=by
        rw [List.length_cons,List.length_map,List.length_range];omega
      have fin:D.str t::((List.range k).map fun j=>D.str [w.getD (a+j) 0])++[.str [w.getD (a+k) 0]]=D.str t::(List.range (k+1)).map fun j=>D.str [w.getD (a+j) 0]:=by
        rw [List.range_succ,List.map_append];rfl
      refine ⟨_,_,?_,h1.set d (.dct (dropY kvs' (.int ((a:Int)+k)))),dropY kvs' (.int ((a:Int)+k)),some (.int ((a:Int)+k)),rfl,rfl,hl3,e4.trans k3,s3,Nat.le_trans (qKa _ _) e6,fun x=>?_⟩
      · rw [qAv,← fin]
        generalize (D.str t::(List.range k).map fun j=>D.str [w.getD (a+j) 0])=G at *
        simp! only [qAl,gl,s2.ap,qHN,s2.ad,q1,gl3,if_pos hlen,st3]
      · rw [qFX]
        by_cases c:x=(a:Int)+k
        · rw [if_pos (by rw [c]),if_neg]
          rintro (z | z)
          · omega
          · have:=hr x z;omega
        · rw [if_neg (fun z=>c (by cases z;rfl)),e7]
          have:(((a+k:Int)≤x∧x<a+n)∨inS r x=true)↔(((a+(k+1:Nat):Int)≤x∧x<a+n)∨inS r x=true):=by
            constructor
            · rintro (z | z)
              · exact .inl (by omega)
              · exact .inr z
            · rintro (z | z)
              · exact .inl (by omega)
              · exact .inr z
          simp only [this])
  rw [qCp,Nat.zero_add] at e2 e7
  subst e1
  subst e2
  refine ⟨h1,kvs',l,e,e3,e4,e5,e6,fun x=>?_⟩
  rw [e7]
  have:(((a+n:Int)≤x∧x<a+n)∨inS r x=true)↔inS r x=true:=⟨fun z=>z.elim (fun z=>by omega) id,.inr⟩
  simp only [this]
end
theorem qCu {x:Int}:∀ {lo:Int} {l:SP},GoodR lo l→inS l x=true→lo<x
 | _,[],_,e=>by cases e
 | lo,q::r,⟨h1,h2,h3⟩,e=>by
  rw [qAf,Bool.or_eq_true] at e
  rcases e with e | e
  ·unfold inB at e
   rw [Bool.and_eq_true,decide_eq_true_eq,decide_eq_true_eq] at e
   omega
  ·have:=qCu h3 e
   omega
section
variable {B n:Nat} {h:AH} {p d:Nat} {w:Tx} {sp:SP} {kvs:List (Ky × D)} {a c:Nat}
theorem qOy (s:Sl h p d (w.take a) sp kvs) (iv:Iv w a ((a:Int)-1) sp kvs c) (hw:w.length≤5000) (hs:sp≠[]) :
    ∃ h' a' sp' kvs',callN fns B (n+1) qDy [.ref p] h=.ok .non h'∧Sl h' p d (w.take a') sp' kvs'∧Iv w a' a' sp' kvs' c∧Fr p d h h'∧∀ x,pr a' sp' x=pr a sp x:=by
  rw [qD9]
  cases sp with
  | nil=>exact absurd rfl hs
  | cons q r =>
    obtain ⟨g1,g2,g3⟩:=iv.gd
    have tl:(w.take a).length=a:=by rw [List.length_take];have:=iv.le;omega
    have tl2:a≤16777216:=by have:=iv.le;omega
    have ix:((ixN (spL (q::r)).length 0).bind fun j=>(spL (q::r))[j]?)=some (.tup [.int q.1,.int q.2]):=by rw [qA0];exact ix_sp (l:=q::r) (k:=0) (p:=q) rfl
    have ix0:((ixN 2 0).bind fun j=>[D.int q.1,.int q.2][j]?)=some (.int q.1):=rfl
    have ix1:((ixN 2 1).bind fun j=>[D.int q.1,.int q.2][j]?)=some (.int q.2):=rfl
    by_cases e:q.1=a
    · have q2:q.2≤w.length:=by
        have:=iv.up (q.2-1) (by rw [qAf,Bool.or_eq_true];left;unfold inB;rw [Bool.and_eq_true,decide_eq_true_eq,decide_eq_true_eq];omega)
        omega
      obtain ⟨n',hn⟩:∃ n':Nat,q.2=(a:Int)+n':=⟨(q.2-a).toNat,by omega⟩
      have hin:∀ x:Int,inS (q::r) x=true↔((a:Int)≤x∧x<a+n')∨inS r x=true:=fun x=>by
        rw [qAf,Bool.or_eq_true]
        unfold inB
        rw [Bool.and_eq_true,decide_eq_true_eq,decide_eq_true_eq,e,hn]
      obtain ⟨h1,kvs',x3',L,hl,kk,s1,lk,dc⟩:=qJZ (F:=callN fns B n) (B:=B) (w:=w) s hw a n' r (by omega) (fun x hx=>by have:=qCu g3 hx;omega) (fun x=>by rw [iv.dc x];simp only [hin]) (some (.tup [.int q.1,.int q.2])) none
      have rg:(q.2-q.1).toNat=n':=by omega
      have sm:qAI q.1∧qAI q.2:=by unfold qAI;omega
      have jn:joinN [] (w.take a::(List.range n').map fun j=>[w.getD (a+j) 0])≤16777216:=by rw [qHn,tl];omega
      have jt:joinT [] (w.take a::(List.range n').map fun j=>[w.getD (a+j) 0])=w.take (a+n'):=by rw [qFp,qEf,qFa w a n' (by omega)]
      have gl:getL (h1++[O.lst (D.str (w.take a)::(List.range n').map fun j=>D.str [w.getD (a+j) 0])]) h.length=some (D.str (w.take a)::(List.range n').map fun j=>D.str [w.getD (a+j) 0]):=by rw [← hl,qAT];rfl
      have s2:=s1.app [O.lst (D.str (w.take a)::(List.range n').map fun j=>D.str [w.getD (a+j) 0])]
      obtain ⟨s3,k3⟩:=s2.setP (w.take (a+n')) (q::r)
      obtain ⟨s4,k4⟩:=s3.setP (w.take (a+n')) r
      have cx:cutX (spL (q::r)) (some 1) none=spL r:=by
        rw [show (1:Int)=((1:Nat):Int) from rfl,qCH,qDc];rfl
      have ne:(q.1 == (a:Int))=true:=by rw [e];simp
      rw [← e] at L
      refine ⟨_,a+n',r,kvs',?_,s4,⟨by omega,by rw [hn] at g3;exact_mod_cast g3,fun x hx=>iv.up x (by rw [hin];exact .inr hx),dc,by have:=iv.ls;rw [List.length_cons] at this;omega,Nat.le_trans lk iv.lk⟩,(((kk.trans (Fr.app _ _)).trans k3).trans k4),fun x=>?_⟩
      · simp! only [qAj,s.ap,qCE,qD1,ix,ix0,if_pos tl2,tl,ne,qBn,if_pos (show 1≤16777216 by omega),ix1,if_pos sm,rg,L,qBo,gl,Option.bind_some,qIA,if_pos jn,jt,s2.ap,qOU,f_len,cn,s3.ap,cx,qIR]
      · unfold pr
        rw [Bool.eq_iff_iff]
        have:=hin x
        simp only [Bool.or_eq_true,decide_eq_true_eq,this]
        constructor
        · rintro (z | z)
          · by_cases y:x<a
            · exact .inl y
            · exact .inr (.inl (by omega))
          · exact .inr (.inr z)
        · rintro (z | z | z)
          · exact .inl (by omega)
          · exact .inl (by omega)
          · exact .inr z
    · have ne:(q.1 == (a:Int))=false:=by simpa using e
      refine ⟨h,a,q::r,kvs,?_,s,⟨iv.le,⟨by omega,g2,g3⟩,iv.up,iv.dc,iv.ls,iv.lk⟩,Fr.refl h,fun x=>rfl⟩
      simp! only [qAj,s.ap,qCE,qD1,ix,ix0,if_pos tl2,tl,ne]
end
theorem qFD {M:Int}:∀ {lo:Int} {l:SP},GoodR lo l→(∀ x,inS l x=true→x<M)→l.length=0∨(l.length:Int)≤M-lo
 | _,[],_,_=>.inl rfl
 | lo,p::r,⟨h1,h2,h3⟩,hx=>by
  have hp:=hx (p.2-1) (by rw [qAf,Bool.or_eq_true];left;unfold inB;rw [Bool.and_eq_true,decide_eq_true_eq,decide_eq_true_eq];omega)
  have ih:=qFD h3 fun x z=>hx x (by rw [qAf,z,Bool.or_true])
  right
  rw [List.length_cons]
  rcases ih with z | z <;> omega
theorem qNY {b e:Int} (hb:b<e) {lo:Int} {l:SP} (g:GoodR lo l):addR b e l≠[]:=fun z=>by
 have:=(qFV b e b hb g).mpr (.inr ⟨Int.le_refl _,hb⟩)
 rw [z] at this
 cases this
section
variable {B n:Nat} {h:AH} {p d:Nat} {w:Tx} {sp:SP} {kvs:List (Ky × D)} {a c:Nat}
theorem m_put (s:Sl h p d (w.take a) sp kvs) (iv:Iv w a a sp kvs c) (hw:w.length≤900) (hc:c≤40000) (hB:1000≤B) (at' m:Nat) (y:Tx) (yl:y.length=m) (hyl:m≤200) (hm:at'+m≤w.length) (hy:∀ x:Nat,at'≤x→x<at'+m→pr a sp x=false→w.getD x 0=y.getD (x-at') 0) :
    ∃ h' a' sp' kvs',callN fns B (n+4) qDx [.ref p,.int at',.str (y)] h=.ok .non h'∧Sl h' p d (w.take a') sp' kvs'∧Iv w a' a' sp' kvs' (c+1)∧Fr p d h h'∧∀ x,pr a' sp' x=(pr a sp x || decide (at'≤x∧x<at'+m)):=by
  rw [qD8]
  have tl:(w.take a).length=a:=by rw [List.length_take];have:=iv.le;omega
  have tl2:a≤16777216:=by have:=iv.le;omega
  have n0:decide ((at':Int)<0)=false:=by simp
  obtain ⟨b,hb,hb1,hb2,hb3⟩:∃ b:Nat,(if (a:Int) > at' then (a:Int) else at')=(b:Int)∧a≤b∧at'≤b∧(b=a∨b=at'):=by
    by_cases q:(a:Int) > at'
    · rw [if_pos q];exact ⟨a,rfl,by omega,by omega,.inl rfl⟩
    · rw [if_neg q];exact ⟨at',rfl,by omega,by omega,.inr rfl⟩
  have he:((at':Int)+m)=((at'+m:Nat):Int):=by omega
  by_cases q:at'+m≤b
  · have qd:decide (((at':Int)+m)≤b)=true:=by rw [he,qCT];exact decide_eq_true q
    refine ⟨h,a,sp,kvs,?_,s,⟨iv.le,iv.gd,iv.up,iv.dc,by have:=iv.ls;omega,by have:=iv.lk;omega⟩,Fr.refl h,fun x=>?_⟩
    · simp! only [qA3,n0,qBL,s.ap,qD1,tl,if_pos tl2,hb,yl,if_pos (show m≤16777216 by omega),qd]
    · unfold pr
      rw [Bool.eq_iff_iff]
      simp only [Bool.or_eq_true,decide_eq_true_eq]
      constructor
      · exact .inl
      · rintro (z | z)
        · exact z
        · exact .inl (by omega)
  · have qd:decide (((at':Int)+m)≤b)=false:=by rw [he,qCT];exact decide_eq_false q
    obtain ⟨n',hn⟩:∃ n':Nat,b+n'=at'+m:=⟨at'+m-b,by omega⟩
    have lk:=iv.lk
    have ls0:=iv.ls
    have ls:sp.length≤900:=by
      rcases qFD iv.gd iv.up with z | z <;> omega
    obtain ⟨kvs1,x5,L,l1,d1⟩:=qJ6 (F:=callN fns B (n+3)) (B:=B) (w:=w) s (by omega) iv.dc at' b n' y hb2 (by omega) (by omega) (fun x h1 h2 h3=>hy x (by omega) (by omega) (by unfold pr;rw [h3,decide_eq_false (by omega)];rfl)) (some (.int ((at':Int)+m))) none
    obtain ⟨s1,k1⟩:=s.setD kvs1
    have ad:=qIl B n b ((at':Int)+m) a sp iv.gd (h.set d (.dct kvs1)) (by omega) (by omega)
    rw [if_neg (by omega)] at ad
    have hlt:(b:Int)<(at':Int)+m:=by omega
    have aS:addS b ((at':Int)+m) sp=addR b ((at':Int)+m) sp:=if_neg (by omega)
    rw [aS] at ad
    have gw:GoodR ((a:Int)-1) sp:=iv.gd.weak (by omega)
    have hin:∀ x:Int,inS (addR b ((at':Int)+m) sp) x=true↔inS sp x=true∨((b:Int)≤x∧x<at'+m):=fun x=>qFV b _ x hlt gw
    obtain ⟨s2,k2⟩:=s1.setP (w.take a) (addR b ((at':Int)+m) sp)
    have iv2:Iv w a ((a:Int)-1) (addR b ((at':Int)+m) sp) kvs1 (c+1):=by
      refine ⟨iv.le,qCS _ _ hlt (by omega) gw,fun x hx=>?_,fun x=>?_,?_,by omega⟩
      · rcases (hin x).mp hx with z | z
        · exact iv.up x z
        · omega
      · rw [d1 x]
        have:(inS sp x=true∨((b:Int)≤x∧x<b+n'))↔inS (addR b ((at':Int)+m) sp) x=true:=by
          rw [hin x,show (b:Int)+n'=at'+m by omega]
        simp only [this]
      · have:=qDi b ((at':Int)+m) sp;omega
    obtain ⟨h',a',sp',kvs',e1,s3,iv3,k3,pr3⟩:=qOy (B:=B) (n:=n+2) s2 iv2 (by omega) (qNY hlt gw)
    refine ⟨h',a',sp',kvs',?_,s3,iv3,(k1.trans k2).trans k3,fun x=>?_⟩
    · have sm:qAI (b:Int)∧qAI ((at':Int)+m):=by unfold qAI;omega
      have rg:((at':Int)+m-b).toNat=n':=by omega
      simp! only [qA3,n0,qBL,s.ap,qD1,tl,if_pos tl2,hb,yl,if_pos (show m≤16777216 by omega),qd,qDA,if_pos sm,rg,L,qDB,s1.ap,qCE,ad,qIR,f_len,cn,s2.ap,qOo,e1]
    · rw [pr3 x]
      unfold pr
      rw [Bool.eq_iff_iff]
      have:=hin x
      simp only [Bool.or_eq_true,decide_eq_true_eq,this]
      constructor
      · rintro (z | z | z)
        · exact .inl (.inl z)
        · exact .inl (.inr z)
        · exact .inr (by omega)
      · rintro ((z | z) | z)
        · exact .inl z
        · exact .inr (.inl z)
        · by_cases y:x<a
          · exact .inl y
          · exact .inr (.inr (by omega))
end
noncomputable def giv (m:Int) (t:Tx) (s c l:Int) (sp:List D) (e es ih dn:Bool):List (Nat × D) :=
 [(qLV,.int m),(qB8,.str t),(qIt,.int s),(qIv,.int c),(qDI,.int l),(qB9,.tup sp),(qDK,.bl e),(qBr,.bl es),(qDJ,.bl ih),(qBi,.bl dn)]
section
variable (m:Int) (t:Tx) (s c l:Int) (sp:List D) (e es ih dn:Bool)
theorem qHJ:getN qLV (giv m t s c l sp e es ih dn)=some (.int m):=rfl
theorem qBA:getN qB8 (giv m t s c l sp e es ih dn)=some (.str t):=rfl
theorem qEi:getN qIt (giv m t s c l sp e es ih dn)=some (.int s):=rfl
theorem qDT:getN qIv (giv m t s c l sp e es ih dn)=some (.int c):=rfl
theorem qFE:getN qDI (giv m t s c l sp e es ih dn)=some (.int l):=rfl
theorem qJC:getN qB9 (giv m t s c l sp e es ih dn)=some (.tup sp):=rfl
theorem qBt:getN qDK (giv m t s c l sp e es ih dn)=some (.bl e):=rfl
theorem qJD:getN qBr (giv m t s c l sp e es ih dn)=some (.bl es):=rfl
theorem qFF:getN qDJ (giv m t s c l sp e es ih dn)=some (.bl ih):=rfl
theorem qHK:getN qBi (giv m t s c l sp e es ih dn)=some (.bl dn):=rfl
theorem g_len:(giv m t s c l sp e es ih dn).length=10:=rfl
theorem qM4 (t':Tx):putN qB8 (.str t') (giv m t s c l sp e es ih dn)=giv m t' s c l sp e es ih dn:=rfl
theorem qKi (b:Bool):putN qDK (.bl b) (giv m t s c l sp e es ih dn)=giv m t s c l sp b es ih dn:=rfl
end
theorem qMZ (m:Int) (t:Tx) (s c l:Int) (sp:List D) (e es ih dn:Bool):getN 513020621925 (giv m t s c l sp e es ih dn)=none:=rfl
theorem qKK (m:Int) (t:Tx) (s c l:Int) (sp:List D) (e es ih dn:Bool):getN 112603010003816 (giv m t s c l sp e es ih dn)=none:=rfl
theorem qCi:([306712044914,358300611685,362411681138]:List Nat).contains qAD=true:=by decide
theorem qMn (B n:Nat) (h:AH) (m:Int):callN fns B (n+1) qFw [.ref h.length,.int m] (h++[.ins qAD []])=.ok .non (h++[.ins qAD (giv m [] 0 0 1 [] false false false false)]):=by
 rw [qF3]
 simp! only [qBf,qBs,qCi,qCd,List.length_nil,List.length_cons,show 0<1000 by omega,if_pos (show 0≤16777216 by omega)]
 rfl
noncomputable def badW (t y:Tx):Bool:=decide (y.length=0∨200<y.length∨2000<t.length+y.length)
theorem qMi (B n:Nat) (h:AH) (i:Nat) (m:Int) (t y:Tx) (s c l:Int) (sp:List D) (e es ih dn:Bool) (hi:h[i]?=some (.ins qAD (giv m t s c l sp e es ih dn))) (ht:t.length≤2000) (hy:y.length≤1000) :
    callN fns B (n+1) qCv [.ref i,.str y] h=if e=true then .bad else if badW t y=true then .bad else .ok .non (h.set i (.ins qAD (giv m (t++y) s c l sp e es ih dn))):=by
  rw [qFN]
  have hz:y.length≤16777216:=by omega
  have hz2:t.length≤16777216:=by omega
  have d1:decide ((1:Int)≤(y.length:Int))=decide (1≤y.length):=qCT 1 _
  have d2:decide ((y.length:Int)≤200)=decide (y.length≤200):=qCT _ 200
  have d3:decide ((2000:Int)<(t.length:Int)+(y.length:Int))=decide (2000<t.length+y.length):=by
    rw [Bool.eq_iff_iff];simp only [decide_eq_true_eq];omega
  simp! only [qBN,hi,qBt]
  cases e with
  | true=>simp! only [and_self]
  | false =>
    simp! only [qCP,if_pos hz,d1]
    by_cases q1:1≤y.length
    · simp! only [q1,if_pos hz,d2]
      by_cases q2:y.length≤200
      · simp! only [q2,qCQ,hi,qBA,if_pos hz2,if_pos hz,d3]
        by_cases q3:2000<t.length+y.length
        · rw [show badW t y=true from decide_eq_true (.inr (.inr q3))]
          simp! only [q3]
        · rw [show badW t y=false from decide_eq_false (by omega)]
          simp! only [q3,qCR,hi,qBA,if_pos (show t.length+y.length≤16777216 by omega),qCi,g_len,show 10<1000 by omega,qM4]
      · rw [show badW t y=true from decide_eq_true (.inr (.inl (by omega)))]
        simp! only [q2]
    · rw [show badW t y=true from decide_eq_true (.inl (by omega))]
      simp! only [q1]
theorem qKV (B n:Nat) (h:AH) (i:Nat) (m:Int) (t:Tx) (s c l:Int) (sp:List D) (e es ih dn:Bool) (hi:h[i]?=some (.ins qAD (giv m t s c l sp e es ih dn))) :
    callN fns B (n+1) qCZ [.ref i] h=if e=true then .bad else .ok .non (h.set i (.ins qAD (giv m t s c l sp true es ih dn))):=by
  rw [qER]
  simp! only [qA4,hi,qBt]
  cases e with
  | true=>simp! only [and_self]
  | false=>simp! only [qB3,hi,qCi,g_len,show 10<1000 by omega,qKi]
section
variable (m:Int) (t:Tx) (s c l:Int) (sp:List D) (e es ih dn:Bool)
theorem qI7 (v:Int):putN qIv (.int v) (giv m t s c l sp e es ih dn)=giv m t s v l sp e es ih dn:=rfl
theorem qHH (v:Int):putN qDI (.int v) (giv m t s c l sp e es ih dn)=giv m t s c v sp e es ih dn:=rfl
theorem qHG (v:List D):putN qB9 (.tup v) (giv m t s c l sp e es ih dn)=giv m t s c l v e es ih dn:=rfl
theorem qHI (v:Bool):putN qDJ (.bl v) (giv m t s c l sp e es ih dn)=giv m t s c l sp e es v dn:=rfl
theorem qI6 (v:Bool):putN qBi (.bl v) (giv m t s c l sp e es ih dn)=giv m t s c l sp e es ih v:=rfl
theorem qEe:getN 7020675825757480292 (giv m t s c l sp e es ih dn)=none:=rfl
theorem qIa:getN 507330387524976831460456 (giv m t s c l sp e es ih dn)=none:=rfl
end
noncomputable def kGo (c z:Int):SP→SP→SP
 | acc,[]=>acc
 | acc,p::r=>kGo c z (if mx p.1 c<mn p.2 z then addR (mx p.1 c) (mn p.2 z) acc else acc) r
theorem mx_ge (a b:Int):a≤mx a b∧b≤mx a b:=by unfold mx;split <;> omega
theorem qE6 (c z:Int) (hc:0≤c):∀ (r acc:SP),GoodR (-1) acc→GoodR (-1) (kGo c z acc r)
 | [],acc,h=>h
 | p::r,acc,h=>by
  unfold kGo
  by_cases q:mx p.1 c<mn p.2 z
  ·rw [if_pos q]
   exact qE6 c z hc r _ (qCS _ _ q (by have:=mx_ge p.1 c;omega) h)
  ·rw [if_neg q]
   exact qE6 c z hc r _ h
theorem qMp (c z:Int):∀ (r acc:SP),(kGo c z acc r).length≤acc.length+r.length
 | [],acc=>by unfold kGo;simp
 | p::r,acc=>by
  unfold kGo
  have h1:=qMp c z r (if mx p.1 c<mn p.2 z then addR (mx p.1 c) (mn p.2 z) acc else acc)
  have h2:=qDi (mx p.1 c) (mn p.2 z) acc
  by_cases q:mx p.1 c<mn p.2 z
  ·rw [if_pos q] at h1 ⊢
   simp only [List.length_cons]
   omega
  ·rw [if_neg q] at h1 ⊢
   simp only [List.length_cons]
   omega
theorem mx_le {a b x:Int}:mx a b≤x↔a≤x∧b≤x:=by unfold mx;split <;> omega
theorem mn_lt {a b x:Int}:x<mn a b↔x<a∧x<b:=by unfold mn;split <;> omega
theorem qIw (c z x:Int) (hc:0≤c):∀ (r acc:SP),GoodR (-1) acc→(inS (kGo c z acc r) x=true↔inS acc x=true∨(inS r x=true∧c≤x∧x<z))
 | [],acc,h=>by
  unfold kGo
  rw [show inS [] x=false from rfl]
  simp
 | p::r,acc,h=>by
  unfold kGo
  have hp:inS (p::r) x=true↔(p.1≤x∧x<p.2)∨inS r x=true:=by
   rw [qAf,Bool.or_eq_true]
   unfold inB
   rw [Bool.and_eq_true,decide_eq_true_eq,decide_eq_true_eq]
  by_cases q:mx p.1 c<mn p.2 z
  ·rw [if_pos q,qIw c z x hc r _ (qCS _ _ q (by have:=mx_ge p.1 c;omega) h),qFV _ _ x q h,mx_le,mn_lt,hp]
   constructor
   ·rintro ((a | ⟨⟨a1,a2⟩,a3,a4⟩) | ⟨a1,a2,a3⟩)
    ·exact .inl a
    ·exact .inr ⟨.inl ⟨a1,a3⟩,a2,a4⟩
    ·exact .inr ⟨.inr a1,a2,a3⟩
   ·rintro (a | ⟨⟨a1,a3⟩ | a1,a2,a4⟩)
    ·exact .inl (.inl a)
    ·exact .inl (.inr ⟨⟨a1,a2⟩,a3,a4⟩)
    ·exact .inr ⟨a1,a2,a4⟩
  ·rw [if_neg q,qIw c z x hc r _ h,hp]
   constructor
   ·rintro (a | ⟨a1,a2,a3⟩)
    ·exact .inl a
    ·exact .inr ⟨.inr a1,a2,a3⟩
   ·rintro (a | ⟨⟨a1,a3⟩ | a1,a2,a4⟩)
    ·exact .inl a
    ·exfalso
     have:=(mx_le (a:=p.1) (b:=c) (x:=x)).mpr ⟨a1,a2⟩
     have:=(mn_lt (a:=p.2) (b:=z) (x:=x)).mpr ⟨a3,a4⟩
     omega
    ·exact .inr ⟨a1,a2,a4⟩
section
variable {B n:Nat} {h:AH} {i:Nat} {m:Int} {t:Tx} {s c l:Int} {sp:List D} {e es ih dn:Bool}
theorem qDG (hi:h[i]?=some (.ins qAD (giv m t s c l sp e es ih dn))) (ht:t.length≤16777216) (hc:0≤c) (x1:Option D):∀ (r acc:SP) (s3 s4 s5:Option D),GoodR (-1) acc→acc.length+r.length<B→acc.length+r.length≤1000 →
    ∃ s3' s4' s5',qBB (qAR (TG.nm 3) (denS (callN fns B (n+3)) B qAU)) (spL r) [some (.ref i),x1,some (.tup (spL acc)),s3,s4,s5] h=.nx [some (.ref i),x1,some (.tup (spL (kGo c t.length acc r))),s3',s4',s5'] h
  | [],acc,s3,s4,s5,_,_,_=>⟨s3,s4,s5,rfl⟩
  | p::r,acc,s3,s4,s5,hg,h1,h2=>by
    have i0:((ixN 2 0).bind fun j=>[D.int p.1,.int p.2][j]?)=some (.int p.1):=rfl
    have i1:((ixN 2 1).bind fun j=>[D.int p.1,.int p.2][j]?)=some (.int p.2):=rfl
    simp only [List.length_cons] at h1 h2
    have ta:=qIl B n (mx p.1 c) (mn p.2 t.length) (-1) acc hg h (by omega) (by omega)
    have h3:=mx_ge p.1 c
    have em:(if c > p.1 then c else p.1)=mx p.1 c:=rfl
    have en:(if (t.length:Int)<p.2 then (t.length:Int) else p.2)=mn p.2 t.length:=rfl
    by_cases q:mx p.1 c<mn p.2 t.length
    · rw [if_neg (by omega)] at ta
      have hs:addS (mx p.1 c) (mn p.2 t.length) acc=addR (mx p.1 c) (mn p.2 t.length) acc:=by unfold addS;rw [if_neg (by omega)]
      rw [hs] at ta
      have hl:=qDi (mx p.1 c) (mn p.2 t.length) acc
      obtain ⟨a,b,d,e2⟩:=qDG hi ht hc x1 r (addR (mx p.1 c) (mn p.2 t.length) acc) (some (spD p)) (some (.int (mx p.1 c))) (some (.int (mn p.2 t.length))) (qCS _ _ q (by omega) hg) (by omega) (by omega)
      refine ⟨a,b,d,?_⟩
      unfold kGo
      rw [if_pos q,← e2]
      show SR.turn _ _=_
      rw [qAv]
      simp! only [spD,qAU,i0,i1,hi,qDT,qBA,if_pos ht,em,en,q,qBE,ta]
      rfl
    · obtain ⟨a,b,d,e2⟩:=qDG hi ht hc x1 r acc (some (spD p)) (some (.int (mx p.1 c))) (some (.int (mn p.2 t.length))) hg (by omega) (by omega)
      refine ⟨a,b,d,?_⟩
      unfold kGo
      rw [if_neg q,← e2]
      show SR.turn _ _=_
      rw [qAv]
      simp! only [spD,qAU,i0,i1,hi,qDT,qBA,if_pos ht,em,en,q]
      rfl
theorem qMl {q0:SP} (hi:h[i]?=some (.ins qAD (giv m t s c l (spL q0) e es ih dn))) (hg:GoodR (-1) q0) (ht:t.length≤16777216) (hc:0≤c) (r:SP) (hB:q0.length+r.length<B) (hl:q0.length+r.length≤1000) :
    callN fns B (n+4) qCw [.ref i,.tup (spL r)] h=.ok (.tup (spL (kGo c t.length (cutS c q0) r))) h:=by
  rw [qC1]
  have tc:=m_cut B (n+1) c (-1) q0 hg h (by omega) (by omega)
  rw [if_neg (by omega)] at tc
  have hl2:=qHP c q0
  have gc:GoodR (-1) (cutS c q0):=GoodR.weak (by omega) (qD3 c hg).1
  obtain ⟨a,b,d,e2⟩:=qDG (B:=B) (n:=n) hi ht hc (some (.tup (spL r))) r (cutS c q0) none none none gc (by omega) (by omega)
  simp! only [qAh,hi,qJC,qDT,tc,e2,qBD]
noncomputable def badA (t:Tx) (e:Bool) (u v:Int):Prop:=(if e=true then (t.length:Int)+1 else (t.length:Int))<u∨v+1<u
theorem qKW (hi:h[i]?=some (.ins qAD (giv m t s c l sp e es ih dn))) (ht:t.length≤16777216) (u v:Int) (d:D) (hb:badA t e u v):callN fns B (n+5) qA8 [.ref i,.int u,.int v,d] h=.ok .non h:=by
 rw [qB1]
 unfold badA at hb
 cases e with
 | true =>
  simp only [if_true] at hb
  by_cases q:(t.length:Int)+1<u
  ·simp! only [qAG,hi,qBt,qBA,if_pos ht,q]
  ·simp! only [qAG,hi,qBt,qBA,if_pos ht,q,show v+1<u by omega]
 | false =>
  simp only [Bool.false_eq_true,if_false] at hb
  by_cases q:(t.length:Int)<u
  ·simp! only [qAG,hi,qBt,qBA,if_pos ht,q]
  ·simp! only [qAG,hi,qBt,qBA,if_pos ht,q,show v+1<u by omega]
theorem qHk {q0:SP} (hi:h[i]?=some (.ins qAD (giv m t s c l (spL q0) e es ih dn))) (hg:GoodR (-1) q0) (ht:t.length≤16777216) (hc:0≤c) (u v:Int) (r:SP) (hB:q0.length+r.length<B) (hl:q0.length+r.length≤1000) (hb:¬ badA t e u v) :
    callN fns B (n+5) qA8 [.ref i,.int u,.int v,.tup (spL r)] h=.ok .non (h.set i (.ins qAD (giv m t s (mx c u) (mx l v) (spL (kGo (mx c u) t.length (cutS (mx c u) q0) r)) e es true (e&&(mx c u == (t.length:Int)+1))))):=by
  rw [qB1]
  have hil:=(List.getElem?_eq_some_iff.mp hi).1
  have setI:∀ o,(h.set i o)[i]?=some o:=fun o=>by rw [List.getElem?_set,if_pos rfl,if_pos hil]
  have em:(if u > c then u else c)=mx c u:=rfl
  have el:(if v > l then v else l)=mx l v:=rfl
  have tb:tbN [(306712044914,10)] qAD=some 10:=rfl
  have h3:=mx_ge c u
  have tk:=qMl (B:=B) (n:=n) (h:=h.set i (.ins qAD (giv m t s (mx c u) (mx l v) (spL q0) e es true dn))) (i:=i) (setI _) hg ht (by omega) r hB hl
  unfold badA at hb
  cases e with
  | true =>
    simp only [if_true] at hb
    simp! only [qAG,hi,qBt,qBA,if_pos ht,show ¬ (t.length:Int)+1<u by omega,show ¬ v+1<u by omega,qAy,qCi,g_len,show 10<1000 by omega,qHI,setI,qDT,em,qI7,List.set_set,qFE,el,qHH,qIa,tb,tk,qHG,qI6,Bool.true_and]
  | false =>
    simp only [Bool.false_eq_true,if_false] at hb
    simp! only [qAG,hi,qBt,qBA,if_pos ht,show ¬ (t.length:Int)<u by omega,show ¬ v+1<u by omega,qAy,qCi,g_len,show 10<1000 by omega,qHI,setI,qDT,em,qI7,List.set_set,qFE,el,qHH,qIa,tb,tk,qHG,qI6,Bool.false_and]
end
section
variable (m:Int) (t:Tx) (s c l:Int) (sp:List D) (e es ih dn:Bool)
theorem qM5 (v:Int):putN qIt (.int v) (giv m t s c l sp e es ih dn)=giv m t v c l sp e es ih dn:=rfl
theorem qKh (v:Bool):putN qBr (.bl v) (giv m t s c l sp e es ih dn)=giv m t s c l sp e v ih dn:=rfl
theorem qE5:getN 521332113934423763874931 (giv m t s c l sp e es ih dn)=none:=rfl
theorem qIZ:getN 2036453570056342827636 (giv m t s c l sp e es ih dn)=none:=rfl
end
theorem qOp (a b:Nat):(if (b:Int) > (a:Int) then (b:Int) else (a:Int))=((max a b:Nat):Int):=by
 split <;> omega
noncomputable def upto (t:Tx) (m l s:Nat):Nat:=min (min (s+m) l) t.length
theorem qGv (t:Tx) (m l s:Nat):(if (t.length:Int)<(if (l:Int)<(s:Int)+(m:Int) then (l:Int) else (s:Int)+(m:Int)) then (t.length:Int) else (if (l:Int)<(s:Int)+(m:Int) then (l:Int) else (s:Int)+(m:Int)))=((upto t m l s:Nat):Int):=by
 unfold upto
 split <;> split <;> omega
noncomputable def dataP (t:Tx) (s u:Nat):D:=.tup [.str [100,97,116,97],.int s,.str (cutX t (some (s:Int)) (some (u:Int)))]
noncomputable def endP (s:Nat):D:=.tup [.str [101,110,100],.int s]
noncomputable def run (t:Tx) (m l:Nat):Nat→Nat→Bool→List D × Nat × Bool
 | 0,s,_=>([],s,false)
 | k+1,s,o=>if s<upto t m l s then (dataP t s (upto t m l s)::(run t m l k (upto t m l s) o).1,(run t m l k (upto t m l s) o).2)
  else if (o&&decide (s=t.length))=true then (endP s::(run t m l k s false).1,(run t m l k s false).2.1,true) else ([],s,false)
section
variable {n:Nat} {h:AH} {i:Nat} {m s c l:Nat} {t:Tx} {sp:List D} {e es ih dn:Bool}
theorem qOz (s:Nat) (t:Tx):((s:Int) == (t.length:Int))=decide (s=t.length):=qDL _ _
theorem qGV (B n:Nat) (hi:h[i]?=some (.ins qAD (giv m t s c l sp e es ih dn))) (ht:t.length≤2000) (q:s<upto t m l s) :
    callN fns B (n+1) qBj [.ref i] h=.ok (dataP t s (upto t m l s)) (h.set i (.ins qAD (giv m t (upto t m l s) c l sp e es ih dn))):=by
  rw [qBl]
  have hil:=(List.getElem?_eq_some_iff.mp hi).1
  have setI:∀ o,(h.set i o)[i]?=some o:=fun o=>by rw [List.getElem?_set,if_pos rfl,if_pos hil]
  have hz:t.length≤16777216:=by omega
  have d0:decide ((s:Int)<((upto t m l s:Nat):Int))=decide (s<upto t m l s):=qBP _ _
  unfold dataP
  simp! only [qAY,hi,qEi,qHJ,qFE,qBA,if_pos hz,qGv,d0,q,qBU,qCi,g_len,show 10<1000 by omega,qM5,setI,if_pos (show 3≤16777216 by omega)]
theorem qIk (B n:Nat) (hi:h[i]?=some (.ins qAD (giv m t s c l sp e es ih dn))) (ht:t.length≤2000) (q:¬ s<upto t m l s) :
    callN fns B (n+1) qBj [.ref i] h=if ((e&&!es)&&decide (s=t.length))=true then .ok (endP s) (h.set i (.ins qAD (giv m t s c l sp e true ih dn))) else .ok .non h:=by
  rw [qBl]
  have hz:t.length≤16777216:=by omega
  have d0:decide ((s:Int)<((upto t m l s:Nat):Int))=decide (s<upto t m l s):=qBP _ _
  unfold endP
  simp! only [qAY,hi,qEi,qHJ,qFE,qBA,if_pos hz,qGv,d0,q,qBS,qBt]
  cases e with
  | false=>simp! only [Bool.false_and,qAc]
  | true =>
    simp! only [hi,qJD]
    cases es with
    | true=>simp! only [Bool.and_false,Bool.false_and,qAc]
    | false =>
      simp! only [hi,qBA,if_pos hz,qOz,Bool.true_and]
      cases q2:decide (s=t.length) with
      | false=>simp! only [qAc]
      | true=>simp! only [qBT,hi,qCi,g_len,show 10<1000 by omega,qKh,if_pos (show 2≤16777216 by omega)]
theorem qG1 {h:AH} {i:Nat} {o:O} (hi:h[i]?=some o):h.set i o=h:=by
 obtain ⟨hl,rfl⟩:=List.getElem?_eq_some_iff.mp hi
 exact List.set_getElem_self hl
theorem qDD (B n:Nat) (ht:t.length≤2000) (cnt:Nat) (hc:cnt≤1000):∀ (f k s:Nat) (h:AH) (es:Bool) (acc:List D) (x3:Option D),acc.length+k=cnt→k<f→h[i]?=some (.ins qAD (giv m t s c l sp e es ih dn)) →
    ∃ x3',qBV (denT (callN fns B (n+1)) qAH) (denS (callN fns B (n+1)) B qAP) f [some (.ref i),some (.int cnt),some (.ref h.length),x3] (h++[.lst acc]) =
      .nx [some (.ref i),some (.int cnt),some (.ref h.length),x3'] (h.set i (.ins qAD (giv m t (run t m l k s (e&&!es)).2.1 c l sp e (es || (run t m l k s (e&&!es)).2.2) ih dn))++[.lst (acc++(run t m l k s (e&&!es)).1)])
  | 0,k,s,h,es,acc,x3,_,hk,_=>by omega
  | f+1,0,s,h,es,acc,x3,hl,hk,hi=>by
    have d0:decide ((acc.length:Int)<(cnt:Int))=false:=decide_eq_false (by omega)
    refine ⟨x3,?_⟩
    unfold qBV
    simp! only [qAH,qAT,qB0,d0,run,qG1 hi,List.append_nil]
  | f+1,k+1,s,h,es,acc,x3,hl,hk,hi=>by
    have d0:decide ((acc.length:Int)<(cnt:Int))=true:=decide_eq_true (by omega)
    have hil:=(List.getElem?_eq_some_iff.mp hi).1
    have hi2:(h++[O.lst acc])[i]?=some (.ins qAD (giv m t s c l sp e es ih dn)):=by rw [List.getElem?_append_left hil,hi]
    have tb:tbN [(306712044914,12)] qAD=some 12:=rfl
    have seI:∀ o l,(h++l).set i o=h.set i o++l:=fun o l=>List.set_append_left _ _ hil
    have sl:∀ o,(h.set i o).length=h.length:=fun o=>List.length_set
    have s1:∀ o l,getL (h.set i o++[.lst l]) h.length=some l:=fun o l=>by rw [← sl o,qAT];rfl
    have s2:∀ o l,(h.set i o++[.lst l])[h.length]?=some (.lst l):=fun o l=>by rw [← sl o,qBs];rfl
    have s3:∀ o l l',(h.set i o++[O.lst l]).set h.length (.lst l')=h.set i o++[.lst l']:=fun o l l'=>by rw [← sl o,qCd];rfl
    have hal:acc.length<16777216:=by omega
    by_cases q:s<upto t m l s
    · have np:=qGV (h:=h++[.lst acc]) B n hi2 ht q
      rw [seI] at np
      obtain ⟨x3',ih1⟩:=qDD B n ht cnt hc f k (upto t m l s) (h.set i (.ins qAD (giv m t (upto t m l s) c l sp e es ih dn))) es (acc++[dataP t s (upto t m l s)]) (some (dataP t s (upto t m l s))) (by simp;omega) (by omega) (by rw [List.getElem?_set,if_pos rfl,if_pos hil])
      rw [sl,List.set_set] at ih1
      refine ⟨x3',?_⟩
      have er:run t m l (k+1) s (e&&!es)=(dataP t s (upto t m l s)::(run t m l k (upto t m l s) (e&&!es)).1,(run t m l k (upto t m l s) (e&&!es)).2):=by
        rw [run,if_pos q]
      rw [er]
      simp only
      rw [show acc++dataP t s (upto t m l s)::(run t m l k (upto t m l s) (e&&!es)).1=acc++[dataP t s (upto t m l s)]++(run t m l k (upto t m l s) (e&&!es)).1 by simp,← ih1]
      conv=>lhs;unfold qBV
      simp! only [qAH,qAT,qB0,d0,qAP,hi2,qIZ,tb,np,dataP,qAn,s1,s2,s3,if_pos hal]
    · have np:=qIk (h:=h++[.lst acc]) B n hi2 ht q
      by_cases q2:((e&&!es)&&decide (s=t.length))=true
      · rw [if_pos q2,seI] at np
        have q3:(e&&!es)=true:=(Bool.and_eq_true_iff.mp q2).1
        have hes:es=false:=by cases es with | false=>rfl | true=>rw [Bool.not_true,Bool.and_false] at q3;cases q3
        subst hes
        obtain ⟨x3',ih1⟩:=qDD B n ht cnt hc f k s (h.set i (.ins qAD (giv m t s c l sp e true ih dn))) true (acc++[endP s]) (some (endP s)) (by simp;omega) (by omega) (by rw [List.getElem?_set,if_pos rfl,if_pos hil])
        rw [sl,List.set_set,Bool.not_true,Bool.and_false,Bool.true_or] at ih1
        refine ⟨x3',?_⟩
        have er:run t m l (k+1) s (e&&!false)=(endP s::(run t m l k s false).1,(run t m l k s false).2.1,true):=by
          rw [run,if_neg q,if_pos q2]
        rw [er]
        simp only
        rw [show acc++endP s::(run t m l k s false).1=acc++[endP s]++(run t m l k s false).1 by simp,Bool.or_true,← ih1]
        conv=>lhs;unfold qBV
        simp! only [qAH,qAT,qB0,d0,qAP,hi2,qIZ,tb,np,endP,qAn,s1,s2,s3,if_pos hal]
      · rw [if_neg q2] at np
        refine ⟨some .non,?_⟩
        have er:run t m l (k+1) s (e&&!es)=([],s,false):=by rw [run,if_neg q,if_neg q2]
        rw [er]
        simp only [Bool.or_false,qG1 hi,List.append_nil]
        unfold qBV
        simp! only [qAH,qAT,qB0,d0,qAP,hi2,qIZ,tb,np]
theorem qFm (B n:Nat) (ht:t.length≤2000) (k:Nat) (hB:k<B) (hc:k≤1000) (hi:h[i]?=some (.ins qAD (giv m t s c l sp e es ih dn))) :
    callN fns B (n+2) qBY [.ref i,.int k] h=.ok (.ref h.length) (h.set i (.ins qAD (giv m t (run t m l k s (e&&!es)).2.1 c l sp e (es || (run t m l k s (e&&!es)).2.2) ih dn))++[.lst (run t m l k s (e&&!es)).1]):=by
  rw [qC0]
  obtain ⟨x3',e1⟩:=qDD (i:=i) (m:=m) (c:=c) (l:=l) (e:=e) (ih:=ih) (dn:=dn) B n ht k hc B k s h es [] none (by simp) hB hi
  rw [List.nil_append] at e1
  simp! only [qAg,e1,qBC,if_pos (show 0≤16777216 by omega)]
end
noncomputable def chop (most:Nat):Nat→Nat→Nat→List (Nat × Nat)
 | 0,_,_=>[]
 | f+1,a,b=>if a<b then (a,min (a+most) b)::chop most f (a+most) b else []
noncomputable def GoodN:Nat→List (Nat × Nat)→Prop
 | _,[]=>True
 | lo,p::r=>lo≤p.1∧p.1<p.2∧GoodN (p.2+1) r
theorem qGM (lo st:Int) (n:Nat):qCq lo st (n+1)=.int lo::qCq (lo+st) st n:=by
 unfold qCq
 rw [List.range_succ_eq_map,List.map_cons,List.map_map]
 refine congr (congrArg _ ?_) (List.map_congr_left fun k _=>?_)
 ·rw [show ((0:Nat):Int)=0 from rfl,Int.zero_mul,Int.add_zero]
 ·show D.int (lo+((k+1:Nat):Int)*st)=D.int (lo+st+(k:Int)*st)
  rw [Int.natCast_add,Int.add_mul,Int.natCast_one,Int.one_mul,Int.add_assoc,Int.add_comm st]
theorem qId {a b m:Int} (h:¬ a<b):nS a b m=0:=by unfold nS;rw [if_neg h]
theorem qMa {a b m:Int} (hm:1≤m) (h:a<b):nS a b m=nS (a+m) b m+1:=by
 unfold nS
 rw [if_pos h]
 by_cases q:a+m<b
 ·rw [if_pos q]
  have e:(b-a-1) / m=(b-(a+m)-1) / m+1:=by
   rw [show b-a-1=b-(a+m)-1+m by omega,Int.add_ediv_of_dvd_right (Int.dvd_refl m),Int.ediv_self (by omega)]
  have h0:0≤(b-(a+m)-1) / m:=Int.ediv_nonneg (by omega) (by omega)
  rw [e]
  omega
 ·rw [if_neg q,Int.ediv_eq_zero_of_lt (by omega) (by omega)]
  rfl
theorem qDl {m:Nat} (hm:1≤m):∀ (f a b:Nat),b<a+f→qCq (a:Int) (m:Int) (nS (a:Int) (b:Int) (m:Int))=(chop m f a b).map fun p=>D.int p.1
 | 0,a,b,h=>by
  rw [qId (by omega)]
  rfl
 | f+1,a,b,h=>by
  unfold chop
  by_cases q:a<b
  ·rw [if_pos q,qMa (by omega) (by omega),qGM,← Int.natCast_add,qDl hm f (a+m) b (by omega)]
   rfl
  ·rw [if_neg q,qId (by omega)]
   rfl
theorem qHR {m:Nat} {p:Nat × Nat}:∀ (f a b:Nat),p∈chop m f a b→p.2=min (p.1+m) b
 | 0,a,b,h=>nomatch h
 | f+1,a,b,h=>by
  unfold chop at h
  split at h
  ·rcases List.mem_cons.mp h with rfl | h
   ·rfl
   ·exact qHR f (a+m) b h
  ·cases h
noncomputable def dP (t:Tx) (p:Nat × Nat):D:=dataP t p.1 p.2
theorem qPs (a b:Nat):(if (b:Int)<(a:Int) then (b:Int) else (a:Int))=((min a b:Nat):Int):=by
 split <;> omega
section
variable {h:AH} {i:Nat} {m s:Nat} {c l:Int} {t:Tx} {sp:List D} {e es ih dn:Bool}
theorem qIb:getN 418346264942 (giv m t s c l sp e es ih dn)=none:=rfl
theorem qKJ:getN 135859872665656628713974126 (giv m t s c l sp e es ih dn)=none:=rfl
theorem qKI:getN 2279350429444218050288784390251891 (giv m t s c l sp e es ih dn)=none:=rfl
theorem qDm (F:Nat→List D→M D) (B:Nat) (hi:h[i]?=some (.ins qAD (giv m t s c l sp e es ih dn))) (ht:t.length≤16777216) (b:Nat) (g:AH) (a0:Int):∀ (ps:List (Nat × Nat)) (acc:List D) (x3:Option D),(∀ p∈ps,p.2=min (p.1+m) b)→acc.length+ps.length≤2000 →
    ∃ x3',qBB (qAR (.nm 3) (denS F B qAX)) (ps.map fun p=>D.int p.1) [some (.ref i),some (.ref h.length),some (.tup [.int a0,.int b]),x3] (h++.lst acc::g)=.nx [some (.ref i),some (.ref h.length),some (.tup [.int a0,.int b]),x3'] (h++.lst (acc++ps.map (dP t))::g)
  | [],acc,x3,_,_=>⟨x3,by rw [List.map_nil,List.map_nil,List.append_nil];rfl⟩
  | p::r,acc,x3,hp,hl=>by
    simp only [List.length_cons] at hl
    obtain ⟨x3',ih1⟩:=qDm F B hi ht b g a0 r (acc++[dP t p]) (some (.int p.1)) (fun z hz=>hp z (List.mem_cons_of_mem _ hz)) (by simp only [List.length_append,List.length_cons,List.length_nil];omega)
    refine ⟨x3',?_⟩
    rw [List.map_cons,List.map_cons,show acc++dP t p::r.map (dP t)=acc++[dP t p]++r.map (dP t) by simp,← ih1]
    have hil:=(List.getElem?_eq_some_iff.mp hi).1
    have hi2:∀ g',(h++g')[i]?=some (.ins qAD (giv m t s c l sp e es ih dn)):=fun g'=>by rw [List.getElem?_append_left hil,hi]
    have i1:((ixN 2 1).bind fun j=>[D.int a0,D.int b][j]?)=some (.int b):=rfl
    have en:(if (b:Int)<(p.1:Int)+(m:Int) then (b:Int) else (p.1:Int)+(m:Int))=((p.2:Nat):Int):=by
      rw [hp p (List.mem_cons_self ..)];split <;> omega
    show SR.turn _ _=_
    rw [qAv]
    unfold dP dataP
    simp! only [qAX,qAT,qB0,hi2,qBA,qHJ,i1,en,if_pos ht,qBs,qCd,if_pos (show 3≤16777216 by omega),if_pos (show acc.length<16777216 by omega)]
noncomputable def spN (H:List (Nat × Nat)):SP:=H.map fun p=>((p.1:Int),(p.2:Int))
theorem qDS (F:Nat→List D→M D) (B:Nat) (hm:1≤m) (hm2:m≤1000) (hi:h[i]?=some (.ins qAD (giv m t s c l sp e es ih dn))) (ht:t.length≤16777216) (g:AH) (f:Nat):∀ (H:List (Nat × Nat)) (acc:List D) (x2 x3:Option D),(∀ p∈H,p.1≤p.2∧p.2<f∧p.2≤2000)→acc.length+(H.flatMap fun p=>chop m f p.1 p.2).length≤2000 →
    ∃ x2' x3',qBB (qAR (.nm 2) (denS F B qAW)) (spL (spN H)) [some (.ref i),some (.ref h.length),x2,x3] (h++.lst acc::g)=.nx [some (.ref i),some (.ref h.length),x2',x3'] (h++.lst (acc++(H.flatMap fun p=>chop m f p.1 p.2).map (dP t))::g)
  | [],acc,x2,x3,_,_=>⟨x2,x3,by rw [List.flatMap_nil,List.map_nil,List.append_nil];rfl⟩
  | p::r,acc,x2,x3,hp,hl=>by
    rw [List.flatMap_cons,List.length_append] at hl
    have hp1:=hp p (List.mem_cons_self ..)
    obtain ⟨y3,e1⟩:=qDm F B hi ht p.2 g p.1 (chop m f p.1 p.2) acc x3 (fun z hz=>qHR f _ _ hz) (by omega)
    obtain ⟨z2,z3,e2⟩:=qDS F B hm hm2 hi ht g f r (acc++(chop m f p.1 p.2).map (dP t)) (some (.tup [.int p.1,.int p.2])) y3 (fun z hz=>hp z (List.mem_cons_of_mem _ hz)) (by rw [List.length_append,List.length_map];omega)
    refine ⟨z2,z3,?_⟩
    rw [List.flatMap_cons,List.map_append,← List.append_assoc,← e2]
    have hil:=(List.getElem?_eq_some_iff.mp hi).1
    have hi2:∀ g',(h++g')[i]?=some (.ins qAD (giv m t s c l sp e es ih dn)):=fun g'=>by rw [List.getElem?_append_left hil,hi]
    have i0:((ixN 2 0).bind fun j=>[D.int p.1,D.int p.2][j]?)=some (.int p.1):=rfl
    have i1:((ixN 2 1).bind fun j=>[D.int p.1,D.int p.2][j]?)=some (.int p.2):=rfl
    have hq:(qAI (p.1:Int)∧qAI (p.2:Int))∧0<(m:Int)∧(m:Int)<1073741824:=by unfold qAI;omega
    have er:=qDl hm f p.1 p.2 (by omega)
    show SR.turn _ _=_
    rw [qAv]
    simp! only [spD,qAW,hi2,qHJ,i0,i1,if_pos hq,er,e1]
    rfl
end
section
variable {h:AH} {i:Nat} {m s c:Nat} {l:Int} {t:Tx} {q0:SP} {e es ih dn:Bool}
noncomputable def qAZ (m f:Nat) (H:List (Nat × Nat)):List (Nat × Nat):=H.flatMap fun p=>chop m f p.1 p.2
theorem qKT (B n:Nat) (hm:1≤m) (hm2:m≤1000) (hi:h[i]?=some (.ins qAD (giv m t s c l (spL q0) e es ih dn))) (ht:t.length≤16777216) (hg:GoodR (-1) q0) (hB:q0.length<B) (hq:q0.length≤1000) (H:List (Nat × Nat)) (hH:qAp ((max c s:Nat):Int) c (cutS c q0)=spN H) (f:Nat) (hf:∀ p∈H,p.1≤p.2∧p.2<f∧p.2≤2000) (hl:(qAZ m f H).length≤2000) :
    ∃ g,callN fns B (n+4) qB4 [.ref i] h=.ok (.ref h.length) (h++.lst ((qAZ m f H).map (dP t))::g):=by
  rw [qB5]
  have hil:=(List.getElem?_eq_some_iff.mp hi).1
  have hi2:∀ g',(h++g')[i]?=some (.ins qAD (giv m t s c l (spL q0) e es ih dn)):=fun g'=>by rw [List.getElem?_append_left hil,hi]
  obtain ⟨g,e1⟩:=qMm B n c ((max c s:Nat):Int) (-1) q0 hg (h++[.lst []]) hB hq (by omega)
  rw [hH,List.append_assoc] at e1
  obtain ⟨y2,y3,e2⟩:=qDS (callN fns B (n+3)) B hm hm2 hi ht g f H [] none none hf (by rw [List.length_nil,Nat.zero_add];exact hl)
  rw [List.nil_append] at e2
  refine ⟨g,?_⟩
  unfold qAZ
  simp! only [qAQ,hi2,qJC,qDT,qEi,qOp,if_pos (show 0≤16777216 by omega),e1,List.singleton_append,e2,qAt]
noncomputable def agn (t:Tx) (s:Nat) (es dn ih:Bool) (P:List D):List D :=
 if 0<P.length then P else if (es&&!dn)=true then [endP t.length] else if (decide (s<t.length) || !ih)=true then [dataP [] s s] else []
theorem qJc (s:Nat):dataP [] s s=.tup [.str [100,97,116,97],.int s,.str []]:=by
 unfold dataP cutX
 rw [List.drop_nil,List.take_nil]
theorem qKU (B n:Nat) (hm:1≤m) (hm2:m≤1000) (hi:h[i]?=some (.ins qAD (giv m t s c l (spL q0) e es ih dn))) (ht:t.length≤16777216) (hg:GoodR (-1) q0) (hB:q0.length<B) (hq:q0.length≤1000) (H:List (Nat × Nat)) (hH:qAp ((max c s:Nat):Int) c (cutS c q0)=spN H) (f:Nat) (hf:∀ p∈H,p.1≤p.2∧p.2<f∧p.2≤2000) (hl:(qAZ m f H).length≤2000) :
    ∃ r g,callN fns B (n+5) qCh [.ref i] h=.ok (.ref r) (h++g)∧getL (h++g) r=some (agn t s es dn ih ((qAZ m f H).map (dP t))):=by
  rw [qCj]
  obtain ⟨g,e1⟩:=qKT B n hm hm2 hi ht hg hB hq H hH f hf hl
  have tb:tbN [(306712044914,15)] qAD=some 15:=rfl
  have hil:=(List.getElem?_eq_some_iff.mp hi).1
  have hi2:∀ g',(h++g')[i]?=some (.ins qAD (giv m t s c l (spL q0) e es ih dn)):=fun g'=>by rw [List.getElem?_append_left hil,hi]
  generalize hP:(qAZ m f H).map (dP t)=P at *
  unfold agn
  simp! only [qAb,hi,qKI,tb,e1,qAT,qB0]
  by_cases q:0<P.length
  · have d0:decide ((0:Int)<(P.length:Int))=true:=decide_eq_true (by omega)
    simp! only [d0,if_pos q]
    exact ⟨_,_,rfl,by rw [qAT,qB0]⟩
  · have d0:decide ((0:Int)<(P.length:Int))=false:=decide_eq_false (by omega)
    simp! only [d0,if_neg q,qA6,hi2,qJD,qHK]
    have out:∀ P':List D,getL (h++O.lst P::(g++[O.lst P'])) (h++O.lst P::g).length=some P':=fun P'=>by
      have:=qAT (h++O.lst P::g) [O.lst P']
      rw [List.append_assoc,List.cons_append,qB0] at this
      exact this
    by_cases z:(es&&!dn)=true
    · obtain ⟨z1,z2⟩:=Bool.and_eq_true_iff.mp z
      rw [if_pos z]
      cases dn with
      | true=>cases z2
      | false =>
        subst z1
        unfold endP
        simp! only [hi2,qBA,qHK,if_pos ht,if_pos (show 2≤16777216 by omega),if_pos (show 1≤16777216 by omega),List.append_assoc,List.cons_append]
        exact ⟨_,_,rfl,out _⟩
    · rw [if_neg z]
      have tail:∃ r g_1,fin (denS (callN fns B (n+4)) B qAk [some (D.ref i),some (D.ref h.length)] (h++O.lst P::g))=.ok (.ref r) (h++g_1)∧getL (h++g_1) r=some (if (decide (s<t.length) || !ih)=true then [dataP [] s s] else []):=by
        have d1:decide ((s:Int)<(t.length:Int))=decide (s<t.length):=qBP _ _
        simp! only [qAk,hi2,qEi,qBA,if_pos ht,d1,qFF,qJc]
        by_cases z1:s<t.length
        · simp! only [z1,hi2,qEi,if_pos (show 3≤16777216 by omega),if_pos (show 1≤16777216 by omega),List.append_assoc,List.cons_append,Bool.true_or]
          exact ⟨_,_,rfl,out _⟩
        · simp! only [z1,hi2,qFF,Bool.false_or]
          cases ih with
          | false =>
            simp! only [hi2,qEi,if_pos (show 3≤16777216 by omega),if_pos (show 1≤16777216 by omega),List.append_assoc,List.cons_append]
            exact ⟨_,_,rfl,out _⟩
          | true =>
            simp! only [qA7,if_pos (show 0≤16777216 by omega),List.append_assoc,List.cons_append]
            exact ⟨_,_,rfl,out _⟩
      cases es with
      | false=>simp! only [and_self];exact tail
      | true =>
        cases dn with
        | true=>simp! only [hi2,qHK];exact tail
        | false=>exact absurd rfl z
theorem qMo (B n:Nat) (hm:1≤m) (hm2:m≤1000) (hi:h[i]?=some (.ins qAD (giv m t s c l (spL q0) e es ih dn))) (ht:t.length≤16777216) (hg:GoodR (-1) q0) (hB:q0.length<B) (hq:q0.length≤1000) (H:List (Nat × Nat)) (hH:qAp ((max c s:Nat):Int) c (cutS c q0)=spN H) (f:Nat) (hf:∀ p∈H,p.1≤p.2∧p.2<f∧p.2≤2000) (hl:(qAZ m f H).length≤2000) (k:Nat) :
    ∃ g,callN fns B (n+6) qCx [.ref i,.int k] h=.ok (.ref (h++g).length) (h++g++[.lst ((agn t s es dn ih ((qAZ m f H).map (dP t))).take k)]):=by
  rw [qFO]
  obtain ⟨r,g,e1,e2⟩:=qKU B n hm hm2 hi ht hg hB hq H hH f hf hl
  have tb:tbN [(306712044914,14)] qAD=some 14:=rfl
  have hla:(agn t s es dn ih ((qAZ m f H).map (dP t))).length≤16777216:=by
    unfold agn
    split
    · rw [List.length_map];omega
    · split
      · simp
      · split <;> simp
  generalize agn t s es dn ih ((qAZ m f H).map (dP t))=A at *
  refine ⟨g,?_⟩
  simp! only [qBO,hi,qKJ,tb,e1,e2,if_pos hla,qD5,if_pos (show (A.take k).length≤16777216 by rw [List.length_take];omega)]
end
theorem qLE:∀ {l:SP} {lo:Int} {k:Nat},lo+1=(k:Int)→GoodR lo l→∃ H,l=spN H∧GoodN k H
 | [],_,_,_,_=>⟨[],rfl,trivial⟩
 | p::r,lo,k,hk,⟨h1,h2,h3⟩=>by
  obtain ⟨H,e1,e2⟩:=qLE (k:=p.2.toNat+1) (by omega) h3
  refine ⟨(p.1.toNat,p.2.toNat)::H,?_,by show k≤p.1.toNat;omega,by show p.1.toNat<p.2.toNat;omega,e2⟩
  show p::r=(((p.1.toNat:Nat):Int),((p.2.toNat:Nat):Int))::spN H
  rw [← e1,show ((p.1.toNat:Nat):Int)=p.1 by omega,show ((p.2.toNat:Nat):Int)=p.2 by omega]
theorem qHY {p:Nat × Nat}:∀ {H:List (Nat × Nat)} {k:Nat},GoodN k H→p∈H→k≤p.1∧p.1<p.2
 | z::r,k,⟨h1,h2,h3⟩,hp=>by
  rcases List.mem_cons.mp hp with rfl | hp
  ·exact ⟨h1,h2⟩
  ·have:=qHY h3 hp
   omega
noncomputable def tk (r:Int) (p:Nat) (e:D) (t:Tx) (rd li:Int) (dn:Bool):List (Nat × D):=[(qLU,.int r),(qIs,.ref p),(qDH,e),(qB8,.str t),(qIu,.int rd),(qDI,.int li),(qBi,.bl dn)]
section
variable (r:Int) (p:Nat) (e:D) (t:Tx) (rd li:Int) (dn:Bool)
theorem qLv:getN qLU (tk r p e t rd li dn)=some (.int r):=rfl
theorem qBp:getN qIs (tk r p e t rd li dn)=some (.ref p):=rfl
theorem qCo:getN qDH (tk r p e t rd li dn)=some e:=rfl
theorem qDj:getN qB8 (tk r p e t rd li dn)=some (.str t):=rfl
theorem qGK:getN qIu (tk r p e t rd li dn)=some (.int rd):=rfl
theorem qCn:getN qDI (tk r p e t rd li dn)=some (.int li):=rfl
theorem qLw:getN qBi (tk r p e t rd li dn)=some (.bl dn):=rfl
theorem qN3 (v:D):putN qDH v (tk r p e t rd li dn)=tk r p v t rd li dn:=rfl
theorem qH7 (v:Tx):putN qB8 (.str v) (tk r p e t rd li dn)=tk r p e v rd li dn:=rfl
theorem qLt (v:Int):putN qIu (.int v) (tk r p e t rd li dn)=tk r p e t v li dn:=rfl
theorem qJx (v:Int):putN qDI (.int v) (tk r p e t rd li dn)=tk r p e t rd v dn:=rfl
theorem qH8 (v:Bool):putN qBi (.bl v) (tk r p e t rd li dn)=tk r p e t rd li v:=rfl
theorem qN4:getN 7370100 (tk r p e t rd li dn)=none:=rfl
theorem qLu:getN 1701733491 (tk r p e t rd li dn)=none:=rfl
theorem qJy:getN 491327153000 (tk r p e t rd li dn)=none:=rfl
theorem qH9:getN 1952541541 (tk r p e t rd li dn)=none:=rfl
theorem qLC:getN 8315163747390811749 (tk r p e t rd li dn)=none:=rfl
theorem qFZ:getN 107127011501426 (tk r p e t rd li dn)=none:=rfl
theorem qEa:(tk r p e t rd li dn).length=7:=rfl
end
theorem sT:((358300611685:Nat) == qAO)=false:=by decide
theorem m_mk (B n:Nat) (h:AH) (room:Int):callN fns B (n+2) qFt [.ref h.length,.int room] (h++[.ins qAO []])=.ok .non (h++[.ins qAO (tk room (h.length+1) .non [] 0 room false),.ins qBg (fl [] [] (h.length+2)),.dct []]):=by
 rw [qF0]
 have i1:callN fns B (n+1) qFv [.ref (h.length+1)] (h++[.ins qAO [(1919905645,.int room)],.ins qBg []])=.ok .non (h++[.ins qAO [(1919905645,.int room)],.ins qBg (fl [] [] (h.length+2)),.dct []]):=by
  rw [qF2]
  have z0:(([]:List Ky).length=([]:List D).length∧([]:List Ky).length≤15):=⟨rfl,by decide⟩
  simp! only [qBe,qJA,qIF,cn,List.length_append,if_pos (show (0:Nat)<1000 by omega),if_pos (show (1:Nat)<1000 by omega),if_pos (show (2:Nat)<1000 by omega),if_pos (show 0≤16777216 by omega),dispD,List.append_assoc,if_pos z0,qHC,List.zip_nil_left,List.foldl_nil,fl,if_neg (show ¬ (qB8 == qB9)=true by decide),if_neg (show ¬ (qB8 == qDf)=true by decide),if_neg (show ¬ (qB9 == qDf)=true by decide)]
 have l1:(h++[O.ins qAO [(1919905645,.int room)]]).length=h.length+1:=by simp
 have a1:(h++[O.ins qAO [(1919905645,.int room)]])++[O.ins qBg []]=h++[.ins qAO [(1919905645,.int room)],.ins qBg []]:=by simp
 simp! only [qBd,qBs,qCd,cnT,if_pos (show (0:Nat)<1000 by omega),l1,a1,i1]
 rfl
noncomputable def eD:Option Nat→D
 | none=>.non
 | some k=>.int k
noncomputable def eI:Option Nat→Int
 | none=>-1
 | some k=>k
noncomputable def bnd (room rd:Nat):Option Nat→Nat
 | none=>rd+room
 | some k=>min (rd+room) k
noncomputable def Fr3 (q p d:Nat) (h h':AH):Prop:=∀ (i:Nat) (o:O),i≠q→i≠p→i≠d→h[i]?=some o→h'[i]?=some o
theorem Fr3.refl {q p d:Nat} (h:AH):Fr3 q p d h h:=fun _ _ _ _ _ e=>e
theorem Fr3.setq {q p d:Nat} (h:AH) (o:O):Fr3 q p d h (h.set q o):=fun i o' n1 _ _ e=>by rw [List.getElem?_set_ne n1.symm];exact e
theorem Sl.setq {h:AH} {p d:Nat} {t:Tx} {sp:SP} {kvs:List (Ky × D)} (s:Sl h p d t sp kvs) {q:Nat} (o:O) (n1:q≠p) (n2:q≠d):Sl (h.set q o) p d t sp kvs :=
 ⟨by rw [List.getElem?_set_ne n1];exact s.ap,by rw [List.getElem?_set_ne n2];exact s.ad⟩
structure Tk (h:AH) (q p d room:Nat) (e:Option Nat) (rd:Nat) (w:Tx) (a:Nat) (sp:SP) (kvs:List (Ky × D)) (c:Nat):Prop where
 aq:h[q]?=some (.ins qAO (tk room p (eD e) (w.take a) rd ((rd+room:Nat):Int) (decide (e=some rd))))
 sl:Sl h p d (w.take a) sp kvs
 iv:Iv w a a sp kvs c
 ra:rd≤a
 al:∀ x:Nat,pr a sp x=true→x<rd+room
section
variable {B n:Nat} {h:AH} {q p d room:Nat} {e:Option Nat} {rd:Nat} {w:Tx} {a:Nat} {sp:SP} {kvs:List (Ky × D)} {c:Nat}
theorem Tk.nqp (s:Tk h q p d room e rd w a sp kvs c):q≠p:=fun z=>by
 have:=s.aq;rw [z,s.sl.ap] at this;cases this
theorem Tk.nqd (s:Tk h q p d room e rd w a sp kvs c):q≠d:=fun z=>by
 have:=s.aq;rw [z,s.sl.ad] at this;cases this
theorem Tk.tl (s:Tk h q p d room e rd w a sp kvs c):(w.take a).length=a:=by rw [List.length_take];have:=s.iv.le;omega
theorem Tk.setq (s:Tk h q p d room e rd w a sp kvs c) (e':Option Nat) (rd':Nat) (hr:rd'≤a) (hr2:rd≤rd'):Tk (h.set q (.ins qAO (tk room p (eD e') (w.take a) rd' ((rd'+room:Nat):Int) (decide (e'=some rd'))))) q p d room e' rd' w a sp kvs c :=
 ⟨List.getElem?_set_self (List.getElem?_eq_some_iff.mp s.aq).1,s.sl.setq _ s.nqp s.nqd,s.iv,hr,fun x hx=>by have:=s.al x hx;omega⟩
theorem Tk.ar (s:Tk h q p d room e rd w a sp kvs c):a≤rd+room:=by
 by_cases z:a≤rd+room
 ·exact z
 ·have:=s.al (rd+room) (by unfold pr;rw [decide_eq_true (by omega)];rfl)
  omega
theorem Tk.fr (s:Tk h q p d room e rd w a sp kvs c) {h':AH} (f:∀ i o,h[i]?=some o→i=q∨i=p∨i=d→h'[i]?=some o):Tk h' q p d room e rd w a sp kvs c :=
 ⟨f q _ s.aq (.inl rfl),⟨f p _ s.sl.ap (.inr (.inl rfl)),f d _ s.sl.ad (.inr (.inr rfl))⟩,s.iv,s.ra,s.al⟩
theorem Tk.grow (s:Tk h q p d room e rd w a sp kvs c) (v:Tx):Tk h q p d room e rd (w++v) a sp kvs c:=by
 have le:=s.iv.le
 have tk1:(w++v).take a=w.take a:=List.take_append_of_le_length le
 refine ⟨by rw [tk1];exact s.aq,by rw [tk1];exact s.sl,⟨by rw [List.length_append];omega,s.iv.gd,fun x hx=>by have:=s.iv.up x hx;rw [List.length_append];omega,fun x=>?_,s.iv.ls,s.iv.lk⟩,s.ra,s.al⟩
 rw [s.iv.dc x]
 by_cases y:inS sp x=true
 ·have up:=s.iv.up x y
  have ab:=qCu s.iv.gd y
  rw [if_pos y,if_pos y,List.getD_eq_getElem?_getD,List.getD_eq_getElem?_getD,List.getElem?_append_left (by omega)]
 ·rw [if_neg y,if_neg y]
theorem Tk.more {c':Nat} (s:Tk h q p d room e rd w a sp kvs c) (hc:c≤c'):Tk h q p d room e rd w a sp kvs c' :=
 ⟨s.aq,s.sl,⟨s.iv.le,s.iv.gd,s.iv.up,s.iv.dc,by have:=s.iv.ls;omega,by have:=s.iv.lk;omega⟩,s.ra,s.al⟩
theorem qOt (s:Tk h q p d room e rd w a sp kvs c) (hB:1000≤B) (hw:w.length≤900) (at':Nat) (y:Tx) (hy:y.length≤200) (hc:c≤40000) (hp:y <+: w.drop at') :
    ∃ h' a' sp' kvs',callN fns B (n+5) qGc [.ref q,.int at',.str y] h=.ok .non h'∧Tk h' q p d room e rd w a' sp' kvs' (c+1)∧Fr3 q p d h h'∧a≤a'∧∀ x,pr a' sp' x=(pr a sp x || decide (at'≤x∧x<at'+min y.length (bnd room rd e-at'))):=by
  obtain ⟨m,hm⟩:∃ m,m=min y.length (bnd room rd e-at'):=⟨_,rfl⟩
  have zl:(y.take m).length=m:=by rw [List.length_take];omega
  have le:=s.iv.le
  obtain ⟨z,hz⟩:=hp
  have yl:y.length≤w.length-at':=by have:=congrArg List.length hz;rw [List.length_append,List.length_drop] at this;omega
  have hb:bnd room rd e≤rd+room:=by cases e with
    | none=>exact Nat.le_refl _
    | some k=>exact Nat.min_le_left _ _
  have hy1:∀ x:Nat,at'≤x→x<at'+m→pr a sp x=false→w.getD x 0=(y.take m).getD (x-at') 0:=fun x h1 h2 _=>by
    have:w[x]?=y[x-at']?:=by
      have e1:(w.drop at')[x-at']?=w[x]?:=by rw [List.getElem?_drop,show at'+(x-at')=x by omega]
      rw [← e1,← hz,List.getElem?_append_left (by omega)]
    rw [List.getD_eq_getElem?_getD,List.getD_eq_getElem?_getD,this,List.getElem?_take_of_lt (by omega)]
  have put:∃ h2 a' sp' kvs',callN fns B (n+4) qDx [.ref p,.int at',.str (y.take m)] h=.ok .non h2∧Sl h2 p d (w.take a') sp' kvs'∧Iv w a' a' sp' kvs' (c+1)∧Fr p d h h2∧∀ x,pr a' sp' x=(pr a sp x || decide (at'≤x∧x<at'+m)):=by
    by_cases m0:m=0
    · subst m0
      have z0:y.take 0=[]:=rfl
      rw [z0] at *
      refine ⟨h,a,sp,kvs,?_,s.sl,⟨s.iv.le,s.iv.gd,s.iv.up,s.iv.dc,by have:=s.iv.ls;omega,by have:=s.iv.lk;omega⟩,Fr.refl h,fun x=>?_⟩
      · rw [qD8]
        have n0:decide ((at':Int)<0)=false:=by simp
        have qd:decide (((at':Int)+0)≤(if (a:Int) > at' then (a:Int) else at'))=true:=by
          apply decide_eq_true;split <;> omega
        have e0:(at':Int)+((0:Nat):Int)=(at':Int)+0:=rfl
        simp! only [qA3,n0,qBL,s.sl.ap,qD1,s.tl,if_pos (show a≤16777216 by omega),if_pos (show 0≤16777216 by omega),e0,qd]
      · rw [decide_eq_false (by omega),Bool.or_false]
    · exact m_put (n:=n) (B:=B) s.sl s.iv hw hc hB at' m (y.take m) zl (by omega) (by omega) hy1
  obtain ⟨h2,a',sp',kvs',e2,sl2,iv2,fr2,pr2⟩:=put
  have q2:=fr2 q _ s.nqp s.nqd s.aq
  have hq2:=(List.getElem?_eq_some_iff.mp q2).1
  have aa:a≤a':=by
    by_cases z:a≤a'
    · exact z
    · have w1:=pr2 a'
      unfold pr at w1
      rw [qCB iv2.gd (Int.le_refl _),decide_eq_false (show ¬ a'<a' by omega),decide_eq_true (show a'<a by omega)] at w1
      cases w1
  refine ⟨h2.set q (.ins qAO (tk room p (eD e) (w.take a') rd ((rd+room:Nat):Int) (decide (e=some rd)))),a',sp',kvs',?_,⟨List.getElem?_set_self hq2,sl2.setq _ s.nqp s.nqd,iv2,by have:=s.ra;omega,fun x hx=>?_⟩,fun i o n1 n2 n3 ei=>by rw [List.getElem?_set_ne n1.symm];exact fr2 i o n2 n3 ei,aa,by rw [← hm];exact pr2⟩
  · rw [qGj]
    have ye:cutX y none (some ((bnd room rd e-at':Nat):Int))=y.take m:=by
      rw [qD5,hm]
      by_cases z:y.length≤bnd room rd e-at'
      · rw [Nat.min_eq_left z,List.take_length,List.take_of_length_le z]
      · rw [Nat.min_eq_right (by omega)]
    have pre:(if (0:Int) > (bnd room rd e:Int)-at' then 0 else (bnd room rd e:Int)-at')=((bnd room rd e-at':Nat):Int):=by split <;> omega
    cases e with
    | none =>
      have bn:((rd+room:Nat):Int)=(bnd room rd none:Int):=rfl
      simp! only [qBR,s.aq,qCo,qCn,eD,qBp,s.sl.ap,n_put,bn,pre,if_pos (show y.length≤16777216 by omega),ye,e2,q2,sl2.ap,qD1,cnT,qEa,qH7,if_pos (show (7:Nat)<1000 by omega)]
    | some k =>
      have bn:(if (k:Int)<((rd+room:Nat):Int) then (k:Int) else ((rd+room:Nat):Int))=(bnd room rd (some k):Int):=by
        show _=((min (rd+room) k:Nat):Int)
        split <;> omega
      simp! only [qBR,s.aq,qCo,qCn,eD,qBp,s.sl.ap,n_put,bn,pre,if_pos (show y.length≤16777216 by omega),ye,e2,q2,sl2.ap,qD1,cnT,qEa,qH7,if_pos (show (7:Nat)<1000 by omega)]
  · rw [pr2 x,Bool.or_eq_true,decide_eq_true_eq] at hx
    rcases hx with hx | hx
    · exact s.al x hx
    · omega
end
theorem qHD:∀ {lo:Int} {l:SP},l≠[]→∃ z,l[l.length-1]?=some z∧lastE lo l=z.2
 | _,[],h=>absurd rfl h
 | _,[p],_=>⟨p,rfl,rfl⟩
 | _,p::q::r,_=>by
  obtain ⟨z,h1,h2⟩:=qHD (lo:=p.2) (l:=q::r) (by simp)
  exact ⟨z,by simpa using h1,h2⟩
theorem qPB {xs:List D} {z:D} (h0:0<xs.length) (h1:xs[xs.length-1]?=some z):((ixN xs.length (-1)).bind fun j=>xs[j]?)=some z:=by
 unfold ixN
 rw [if_neg (by omega),if_pos (by omega),Option.bind_some,show (-1+(xs.length:Int)).toNat=xs.length-1 by omega,h1]
section
variable {B n:Nat} {h:AH} {q p d room:Nat} {e:Option Nat} {rd:Nat} {w:Tx} {a:Nat} {sp:SP} {kvs:List (Ky × D)} {c:Nat}
theorem qMk (s:Tk h q p d room e rd w a sp kvs c) (hw:w.length≤5000):∃ r:Int,callN fns B (n+1) qFB [.ref q] h=.ok (.int r) h∧r≤w.length:=by
 rw [qFM]
 have le:=s.iv.le
 cases hsp:sp with
 | nil =>
  have e0:decide ((0:Int)<((spL sp).length:Int))=false:=by rw [hsp];rfl
  refine ⟨a,?_,by omega⟩
  simp! only [qAx,s.aq,qBp,s.sl.ap,qCE,e0,qDj,s.tl,if_pos (show a≤16777216 by omega)]
 | cons u v =>
  have hne:sp≠[]:=by rw [hsp];simp
  obtain ⟨z,h1,h2⟩:=qHD (lo:=(a:Int)) hne
  have l0:0<sp.length:=by rw [hsp];simp
  have e0:decide ((0:Int)<((spL sp).length:Int))=true:=by rw [qA0];exact decide_eq_true (by omega)
  have ix:=qPB (xs:=spL sp) (z:=spD z) (by rw [qA0];exact l0) (by rw [qA0];exact qIC h1)
  unfold spD at ix
  have i1:((ixN 2 1).bind fun j=>[D.int z.1,D.int z.2][j]?)=some (.int z.2):=rfl
  obtain ⟨g1,g2⟩:=s.iv.gd.at h1
  have hin:inS sp (z.2-1)=true:=by
   unfold inS
   rw [List.any_eq_true]
   exact ⟨z,List.mem_of_getElem? h1,by unfold inB;rw [Bool.and_eq_true,decide_eq_true_eq,decide_eq_true_eq];omega⟩
  have up:=s.iv.up _ hin
  refine ⟨z.2,?_,by omega⟩
  simp! only [qAx,s.aq,qBp,s.sl.ap,qCE,e0,ix,i1]
theorem m_see {r p':Nat} {e':Option Nat} {t:Tx} {rd':Nat} {li:Int} {dn:Bool} (hq:h[q]?=some (.ins qAO (tk r p' (eD e') t rd' li dn))):callN fns B (n+1) qBz [.ref q] h=.ok .non (h.set q (.ins qAO (tk r p' (eD e') t rd' li (decide (e'=some rd'))))):=by
 rw [qDY]
 cases e' with
 | none =>
  have:decide ((none:Option Nat)=some rd')=false:=rfl
  simp! only [qAd,hq,qGK,qCo,eD,cnT,qEa,qH8,if_pos (show (7:Nat)<1000 by omega),this]
 | some k =>
  have:decide (some k=some rd')=((rd':Int) == (k:Int)):=by
   rw [Bool.eq_iff_iff];simp;omega
  simp! only [qAd,hq,qGK,qCo,eD,cnT,qEa,qH8,if_pos (show (7:Nat)<1000 by omega),this]
theorem qOx (s:Tk h q p d room e rd w a sp kvs c) (hw:w.length≤5000) :
    ∃ h' e',callN fns B (n+2) qFu [.ref q,.int w.length] h=.ok .non h'∧Tk h' q p d room e' rd w a sp kvs c∧Fr3 q p d h h'∧e'=some (e.getD w.length):=by
  rw [qF1]
  obtain ⟨r,rc,hr⟩:=qMk (B:=B) (n:=n) s hw
  cases e with
  | some k =>
    refine ⟨h,some k,?_,s,Fr3.refl h,rfl⟩
    simp! only [qA5,s.aq,qCo,eD]
  | none =>
    have hq0:=(List.getElem?_eq_some_iff.mp s.aq).1
    have g:(h.set q (.ins qAO (tk room p (.int w.length) (w.take a) rd ((rd+room:Nat):Int) false)))[q]?=some (.ins qAO (tk room p (.int w.length) (w.take a) rd ((rd+room:Nat):Int) false)):=List.getElem?_set_self hq0
    have s1:callN fns B (n+1) qBz [.ref q] (h.set q (.ins qAO (tk room p (.int w.length) (w.take a) rd ((rd+room:Nat):Int) false)))=.ok .non ((h.set q (.ins qAO (tk room p (.int w.length) (w.take a) rd ((rd+room:Nat):Int) false))).set q (.ins qAO (tk room p (eD (some w.length)) (w.take a) rd ((rd+room:Nat):Int) (decide (some w.length=some rd))))):=m_see (e':=some w.length) g
    rw [List.set_set] at s1
    have aq:=s.aq
    have e0:decide ((none:Option Nat)=some rd)=false:=rfl
    rw [e0] at aq
    refine ⟨_,some w.length,?_,s.setq (some w.length) rd s.ra (Nat.le_refl _),Fr3.setq h _,rfl⟩
    simp! only [qA5,aq,qCo,show eD none=D.non from rfl,qJy,rc,show ¬ (w.length:Int)<r by omega,qCb,cnT,qEa,if_pos (show (7:Nat)<1000 by omega),qN3,g,qLC,s1]
theorem qKX (s:Tk h q p d room e rd w a sp kvs c) (hw:w.length≤5000):callN fns B (n+1) qCY [.ref q] h=.ok (.tup [.int ((a:Int)+b2i (eI e == (a:Int))),.int ((rd+room:Nat):Int),.tup (spL (sp.take 8))]) h:=by
 rw [qEQ]
 have le:=s.iv.le
 have cx:cutX (spL sp) none (some 8)=spL (sp.take 8):=by
  rw [show (8:Int)=((8:Nat):Int) from rfl,qD5];unfold spL;rw [List.map_take]
 cases e with
 | none =>
  have e0:(eI none == (a:Int))=false:=by
   show ((-1:Int) == (a:Int))=false
   simp
  rw [e0]
  simp! only [qAe,s.aq,qDj,s.tl,if_pos (show a≤16777216 by omega),qCo,eD,qAs,qCn,qBp,s.sl.ap,qCE,cx,if_pos (show 3≤16777216 by omega),Int.add_zero]
 | some k =>
  have e0:(eI (some k) == (a:Int))=((a:Int) == (k:Int)):=by
   show ((k:Int) == (a:Int))=_
   rw [Bool.eq_iff_iff];simp;omega
  rw [e0]
  rcases Bool.eq_false_or_eq_true ((a:Int) == (k:Int)) with z | z
  ·simp! only [qAe,s.aq,qDj,s.tl,if_pos (show a≤16777216 by omega),qCo,eD,z,qB2,qAs,qCn,qBp,s.sl.ap,qCE,cx,if_pos (show 3≤16777216 by omega)]
  ·simp! only [qAe,s.aq,qDj,s.tl,if_pos (show a≤16777216 by omega),qCo,eD,z,qAs,qCn,qBp,s.sl.ap,qCE,cx,if_pos (show 3≤16777216 by omega),Int.add_zero]
theorem qOv (s:Tk h q p d room e rd w a sp kvs c) (hw:w.length≤5000) (k:Nat) (hk:1≤k∧k≤200) :
    ∃ h' rd',callN fns B (n+2) qFs [.ref q,.int k] h=.ok (.str ((w.drop rd).take (rd'-rd))) h'∧rd≤rd'∧rd'=min a (rd+k)∧Tk h' q p d room e rd' w a sp kvs c∧Fr3 q p d h h':=by
  rw [qFz]
  have le:=s.iv.le
  have ra:=s.ra
  obtain ⟨rd',hrd⟩:∃ rd',rd'=min a (rd+k):=⟨_,rfl⟩
  have cx:cutX (w.take a) (some (rd:Int)) (some ((rd:Int)+k))=(w.drop rd).take (rd'-rd):=by
    have:cutX (w.take a) (some (rd:Int)) (some ((rd:Int)+k))=((w.take a).drop rd).take (min a (rd+k)-rd):=by
      unfold cutX cutN
      simp only [if_neg (show ¬ (rd:Int)<0 by omega),if_neg (show ¬ ((rd:Int)+k)<0 by omega),Int.toNat_natCast,s.tl]
      rw [show ((rd:Int)+k).toNat=rd+k by omega,Nat.min_eq_left ra,Nat.min_comm]
    rw [this,List.drop_take,List.take_take,hrd,Nat.min_eq_left (by omega)]
  have sl:((w.drop rd).take (rd'-rd)).length=rd'-rd:=by rw [List.length_take,List.length_drop];omega
  generalize hv:(w.drop rd).take (rd'-rd)=v at *
  have hq0:=(List.getElem?_eq_some_iff.mp s.aq).1
  have c1:decide ((1:Int)≤k)=true:=decide_eq_true (by omega)
  have c2:decide ((k:Int)≤200)=true:=decide_eq_true (by omega)
  have ea:(rd:Int)+((rd'-rd:Nat):Int)=(rd':Int):=by omega
  have eb:(rd':Int)+(room:Int)=((rd'+room:Nat):Int):=by omega
  have g1:∀ fs,(h.set q (.ins qAO fs))[q]?=some (.ins qAO fs):=fun fs=>List.getElem?_set_self hq0
  have s1:=m_see (B:=B) (n:=n) (g1 (tk room p (eD e) (w.take a) rd' ((rd'+room:Nat):Int) (decide (e=some rd))))
  rw [List.set_set] at s1
  refine ⟨h.set q (.ins qAO (tk room p (eD e) (w.take a) rd' ((rd'+room:Nat):Int) (decide (e=some rd')))),rd',?_,by omega,by omega,s.setq e rd' (by omega) (by omega),Fr3.setq h _⟩
  rw [hv]
  simp! only [qBc,c1,c2,qCa,s.aq,qDj,qGK,s.tl,if_pos (show a≤16777216 by omega),cx,sl,if_pos (show rd'-rd≤16777216 by omega),ea,cnT,qEa,if_pos (show (7:Nat)<1000 by omega),qLt,g1,qLv,eb,qJx,List.set_set,qLC,s1]
end
noncomputable def dat (a:Nat) (y:Tx):D:=.tup [.str [100,97,116,97],.int a,.str y]
noncomputable def okQ (w:Tx) (e:Bool) (d:D):Prop:=(∃ a y,d=dat a y∧y <+: w.drop a∧y.length≤40)∨(e=true∧d=endP w.length)
theorem qNM (t:Tx) (s u:Nat):cutX t (some (s:Int)) (some (u:Int)) <+: t.drop s∧(cutX t (some (s:Int)) (some (u:Int))).length≤u-s:=by
 unfold cutX cutN
 simp only [if_neg (show ¬ (s:Int)<0 by omega),if_neg (show ¬ (u:Int)<0 by omega),Int.toNat_natCast]
 by_cases q:s≤t.length
 ·rw [Nat.min_eq_left q]
  exact ⟨List.take_prefix ..,by rw [List.length_take];omega⟩
 ·rw [Nat.min_eq_right (show t.length≤s by omega),List.drop_length,List.take_nil]
  exact ⟨List.nil_prefix,Nat.zero_le _⟩
theorem qPe {t:Tx} {s u:Nat} (h1:s<u) (h2:u≤t.length):cutX t (some (s:Int)) (some (u:Int))≠[]:=fun z=>by
 have:=congrArg List.length z
 unfold cutX cutN at this
 simp only [if_neg (show ¬ (s:Int)<0 by omega),if_neg (show ¬ (u:Int)<0 by omega),Int.toNat_natCast,List.length_take,List.length_drop,List.length_nil] at this
 omega
theorem qIT {t:Tx} {e:Bool} {s u:Nat} (h1:u≤s+40):okQ t e (dataP t s u):=by
 obtain ⟨h3,h4⟩:=qNM t s u
 exact .inl ⟨s,_,rfl,h3,by omega⟩
theorem qG2 {t:Tx} {m l:Nat} {e:Bool} (hm:m≤40):∀ (k s:Nat) (o:Bool),s≤l→s≤t.length→(o=true→e=true)→(∀ d∈(run t m l k s o).1,okQ t e d)∧(run t m l k s o).2.1≤l∧(run t m l k s o).2.1≤t.length∧s≤(run t m l k s o).2.1∧((run t m l k s o).2.2=true→o=true∧(run t m l k s o).2.1=t.length)∧(run t m l k s o).1.length≤k
 | 0,s,o,h1,h2,_=>⟨(fun d hd=>nomatch hd),h1,h2,Nat.le_refl _,(fun z=>nomatch z),Nat.le_refl _⟩
 | k+1,s,o,h1,h2,h3=>by
  have u1:upto t m l s≤s+m∧upto t m l s≤l∧upto t m l s≤t.length:=by unfold upto;omega
  unfold run
  by_cases q:s<upto t m l s
  ·rw [if_pos q]
   obtain ⟨i1,i2,i3,i6,i4,i5⟩:=qG2 (e:=e) hm k (upto t m l s) o u1.2.1 u1.2.2 h3
   refine ⟨fun d hd=>?_,i2,i3,by show s≤(run t m l k (upto t m l s) o).2.1;omega,i4,by rw [List.length_cons];omega⟩
   rcases List.mem_cons.mp hd with rfl | hd
   ·exact qIT (by omega)
   ·exact i1 d hd
  ·rw [if_neg q]
   by_cases q2:(o&&decide (s=t.length))=true
   ·rw [if_pos q2]
    obtain ⟨q3,q4⟩:=Bool.and_eq_true_iff.mp q2
    have q5:s=t.length:=of_decide_eq_true q4
    obtain ⟨i1,i2,i3,i6,i4,i5⟩:=qG2 (e:=e) hm k s false h1 h2 (fun z=>nomatch z)
    refine ⟨fun d hd=>?_,i2,i3,i6,fun _=>⟨q3,?_⟩,by rw [List.length_cons];omega⟩
    ·rcases List.mem_cons.mp hd with rfl | hd
     ·exact .inr ⟨h3 q3,by rw [q5]⟩
     ·exact i1 d hd
    ·show (run t m l k s false).2.1=t.length
     omega
   ·rw [if_neg q2]
    exact ⟨(fun d hd=>nomatch hd),h1,h2,Nat.le_refl _,(fun z=>nomatch z),Nat.zero_le _⟩
theorem qL8 {t:Tx} {m l s k:Nat} {o:Bool} (hm:m≤40) (h1:s≤l) (h2:s≤t.length):((run t m l (k+1) s o).1=[]∧¬ s<upto t m l s∧(o&&decide (s=t.length))=false∧(run t m l (k+1) s o).2=(s,false))∨((run t m l (k+1) s o).1≠[]∧(s<(run t m l (k+1) s o).2.1∨(run t m l (k+1) s o).2.2=true)):=by
 have u1:upto t m l s≤s+m∧upto t m l s≤l∧upto t m l s≤t.length:=by unfold upto;omega
 unfold run
 by_cases q:s<upto t m l s
 ·rw [if_pos q]
  have i:=(qG2 (t:=t) (m:=m) (l:=l) (e:=true) hm k (upto t m l s) o u1.2.1 u1.2.2 (fun _=>rfl)).2.2.2.1
  exact .inr ⟨List.cons_ne_nil _ _,.inl (by show s<(run t m l k (upto t m l s) o).2.1;omega)⟩
 ·rw [if_neg q]
  by_cases q2:(o&&decide (s=t.length))=true
  ·rw [if_pos q2]
   exact .inr ⟨List.cons_ne_nil _ _,.inr rfl⟩
  ·rw [if_neg q2]
   exact .inl ⟨rfl,q,by simpa using q2,rfl⟩
theorem qHS {m:Nat} {p:Nat × Nat}:∀ (f a b:Nat),p∈chop m f a b→p.2≤b∧p.2≤p.1+m
 | 0,a,b,h=>nomatch h
 | f+1,a,b,h=>by
  unfold chop at h
  split at h
  ·rcases List.mem_cons.mp h with rfl | h
   ·exact ⟨Nat.min_le_right ..,Nat.min_le_left ..⟩
   ·exact qHS f (a+m) b h
  ·cases h
theorem qHT {m:Nat} (hm:1≤m):∀ (f a b:Nat),(chop m f a b).length≤b-a
 | 0,a,b=>Nat.zero_le _
 | f+1,a,b=>by
  unfold chop
  split
  ·have:=qHT hm f (a+m) b
   rw [List.length_cons]
   omega
  ·exact Nat.zero_le _
theorem qEc {m f s:Nat} (hm:1≤m):∀ (H:List (Nat × Nat)) (k:Nat),GoodN k H→(∀ p∈H,p.2≤s)→(qAZ m f H).length≤s-k
 | [],k,_,_=>Nat.zero_le _
 | p::r,k,⟨h1,h2,h3⟩,hs=>by
  have ih:=qEc (f:=f) hm r (p.2+1) h3 fun z hz=>hs z (List.mem_cons_of_mem _ hz)
  have hp:=hs p (List.mem_cons_self ..)
  have hc:=qHT hm f p.1 p.2
  unfold qAZ at ih ⊢
  rw [List.flatMap_cons,List.length_append]
  omega
theorem qFC (e:Int):∀ (pl:Int) (l:SP) (p:Int × Int),p∈qAp e pl l→p.2≤e
 | pl,[],p,h=>by
  unfold qAp at h
  split at h
  ·rw [List.mem_singleton.mp h];exact Int.le_refl _
  ·cases h
 | pl,q::r,p,h=>by
  unfold qAp at h
  split at h
  ·split at h
   ·rw [List.mem_singleton.mp h];exact Int.le_refl _
   ·cases h
  ·split at h
   ·rcases List.mem_cons.mp h with rfl | h
    ·show q.1≤e;omega
    ·exact qFC e _ r p h
   ·exact qFC e _ r p h
theorem qHr {e pl:Int} {l:SP} (hg:GoodR (pl-1) l) (hp:pl<e) (hn:inS l pl=false):∃ b r,qAp e pl l=(pl,b)::r∧pl<b:=by
 cases l with
 | nil=>exact ⟨e,[],by unfold qAp;rw [if_pos hp],hp⟩
 | cons p r =>
  obtain ⟨h1,h2,h3⟩:=hg
  unfold qAp
  by_cases c:e≤p.1
  ·rw [if_pos c,if_pos hp]
   exact ⟨e,[],rfl,hp⟩
  ·rw [if_neg c]
   by_cases q:pl<p.1
   ·rw [if_pos q]
    exact ⟨p.1,_,rfl,q⟩
   ·rw [qAf,Bool.or_eq_false_iff] at hn
    have:=hn.1
    unfold inB at this
    rw [decide_eq_true (show p.1≤pl by omega),decide_eq_true (show pl<p.2 by omega)] at this
    cases this
noncomputable def Fr1 (i:Nat) (h h':AH):Prop:=∀ (j:Nat) (o:O),j≠i→h[j]?=some o→h'[j]?=some o
theorem Fr1.app {i:Nat} (h g:AH):Fr1 i h (h++g):=fun _ _ _ e=>qCC g e
theorem Fr1.set {i:Nat} (h:AH) (o:O):Fr1 i h (h.set i o):=fun j o' n e=>by rw [List.getElem?_set_ne n.symm];exact e
theorem Fr1.trans {i:Nat} {a b c:AH} (x:Fr1 i a b) (y:Fr1 i b c):Fr1 i a c:=fun j o n e=>y j o n (x j o n e)
theorem Tk.of1 {g g':AH} {room:Nat} {te:Option Nat} {rd a:Nat} {w:Tx} {sp:SP} {kvs:List (Ky × D)} {k:Nat} (T:Tk g 2 3 4 room te rd w a sp kvs k) (f:Fr1 1 g g'):Tk g' 2 3 4 room te rd w a sp kvs k :=
 T.fr fun i o e z=>f i o (by rcases z with rfl | rfl | rfl <;> decide) e
structure Kq (room:Nat) (w:Tx) (e:Bool) (te:Option Nat) (rd a:Nat) (sp:SP) (s c l:Nat) (q0:SP) (es dn:Bool):Prop where
 gg:GoodR (-1) q0
 sl:s≤l
 sw:s≤w.length
 ee:es=true→e=true∧s=w.length
 dn:dn=(e&&decide (c=w.length+1))
 kn:∀ x:Nat,inS q0 (x:Int)=true→pr a sp x=true
 nc:inS q0 (c:Int)=false
 ca:c≤a∨(c=a+1∧te=some a)
 tE:∀ j,te=some j→e=true∧j=w.length
 ll:l≤rd+room
structure S7 (ns:List Int) (g:AH) (room m:Nat) (w:Tx) (e:Bool) (te:Option Nat) (rd a:Nat) (sp:SP) (kvs:List (Ky × D)) (k:Nat) (s c l:Nat) (q0:SP) (es ih dn:Bool):Prop where
 sc:g[0]?=some (.rol (ns.map .int))
 G:g[1]?=some (.ins qAD (giv m w s c l (spL q0) e es ih dn))
 T:Tk g 2 3 4 room te rd w a sp kvs k
 Q:Kq room w e te rd a sp s c l q0 es dn
section
variable {B n:Nat} {ns:List Int} {g:AH} {room m:Nat} {w:Tx} {e:Bool} {te:Option Nat} {rd a:Nat} {sp:SP} {kvs:List (Ky × D)} {k:Nat} {s c l:Nat} {q0:SP} {es ih dn:Bool}
theorem S7.gl (S:S7 ns g room m w e te rd a sp kvs k s c l q0 es ih dn):1<g.length:=(List.getElem?_eq_some_iff.mp S.G).1
theorem S7.app (S:S7 ns g room m w e te rd a sp kvs k s c l q0 es ih dn) (x:AH):S7 ns (g++x) room m w e te rd a sp kvs k s c l q0 es ih dn :=
 ⟨qCC x S.sc,qCC x S.G,S.T.fr fun i o e _=>qCC x e,S.Q⟩
theorem S7.cw (S:S7 ns g room m w e te rd a sp kvs k s c l q0 es ih dn):c≤w.length+1:=by
 have:=S.T.iv.le
 rcases S.Q.ca with z | ⟨z,_⟩ <;> omega
theorem S7.ql (S:S7 ns g room m w e te rd a sp kvs k s c l q0 es ih dn):q0.length≤w.length+1:=by
 have le:=S.T.iv.le
 rcases qFD (M:=w.length) S.Q.gg (fun x hx=>by
  have h0:=qCu S.Q.gg hx
  obtain ⟨y,rfl⟩:∃ y:Nat,x=(y:Int):=⟨x.toNat,by omega⟩
  have:=S.Q.kn y hx
  unfold pr at this
  rw [Bool.or_eq_true,decide_eq_true_eq] at this
  rcases this with z | z
  ·omega
  ·exact S.T.iv.up _ z) with z | z <;> omega
theorem qLb (S:S7 ns g room m w e te rd a sp kvs k s c l q0 es ih dn) (hm:1≤m∧m≤40) (hw:w.length≤900) (hB:1000≤B) (j:Nat) (hj:j≤9) :
    ∃ h' P s' es',callN fns B (n+2) qBY [.ref 1,.int ((j+1:Nat):Int)] g=.ok (.ref g.length) h'∧h'[g.length]?=some (.lst P)∧S7 ns h' room m w e te rd a sp kvs k s' c l q0 es' ih dn∧(∀ d∈P,okQ w e d)∧P.length≤j+1∧s≤s'∧(es=true→es'=true) ∧
      ((P=[]∧¬ s<upto w m l s∧((e&&!es)&&decide (s=w.length))=false∧s'=s∧es'=es)∨(P≠[]∧(s<s'∨(es=false∧es'=true)))):=by
  have e1:=qFm (c:=c) (l:=l) (sp:=spL q0) B n (by omega) (j+1) (by omega) (by omega) S.G
  obtain ⟨r1,r2,r3,r6,r4,r5⟩:=qG2 (t:=w) (m:=m) (l:=l) (e:=e) hm.2 (j+1) s (e&&!es) S.Q.sl S.Q.sw (fun z=>(Bool.and_eq_true_iff.mp z).1)
  have r7:=qL8 (t:=w) (m:=m) (l:=l) (s:=s) (k:=j) (o:=e&&!es) hm.2 S.Q.sl S.Q.sw
  have f1:Fr1 1 g (g.set 1 (.ins qAD (giv m w (run w m l (j+1) s (e&&!es)).2.1 c l (spL q0) e (es || (run w m l (j+1) s (e&&!es)).2.2) ih dn))++[.lst (run w m l (j+1) s (e&&!es)).1]):=(Fr1.set g _).trans (Fr1.app _ _)
  generalize run w m l (j+1) s (e&&!es)=R at *
  obtain ⟨P,s',o'⟩:=R
  simp only at *
  refine ⟨_,P,s',es || o',e1,?_,⟨f1 0 _ (by decide) S.sc,qCC _ (List.getElem?_set_self S.gl),S.T.of1 f1,⟨S.Q.gg,r2,r3,fun z=>?_,S.Q.dn,S.Q.kn,S.Q.nc,S.Q.ca,S.Q.tE,S.Q.ll⟩⟩,r1,r5,r6,(fun z=>by rw [z,Bool.true_or]),?_⟩
  · have:=qBs (g.set 1 (.ins qAD (giv m w s' c l (spL q0) e (es || o') ih dn))) [.lst P]
    rw [List.length_set] at this
    exact this
  · rcases Bool.or_eq_true_iff.mp z with z | z
    · have:=S.Q.ee z
      exact ⟨this.1,by omega⟩
    · have:=r4 z
      exact ⟨(Bool.and_eq_true_iff.mp this.1).1,this.2⟩
  · rcases r7 with ⟨z1,z2,z3,z4⟩ | ⟨z1,z2⟩
    · cases z4
      exact .inl ⟨z1,z2,z3,rfl,Bool.or_false _⟩
    · refine .inr ⟨z1,z2.imp id fun z=>?_⟩
      have:=(Bool.and_eq_true_iff.mp (r4 z).1).2
      cases es with
      | true=>cases this
      | false=>exact ⟨rfl,by rw [z];rfl⟩
theorem qJE (S:S7 ns g room m w e te rd a sp kvs k s c l q0 es ih dn) (hm:1≤m∧m≤40) (hw:w.length≤900) (hB:1000≤B) (j:Nat) :
    ∃ h' r P,callN fns B (n+6) qCx [.ref 1,.int ((j+1:Nat):Int)] g=.ok (.ref r) h'∧h'[r]?=some (.lst P)∧S7 ns h' room m w e te rd a sp kvs k s c l q0 es ih dn∧(∀ d∈P,okQ w e d)∧P.length≤j+1 ∧
      ((c<s∧∃ y rest,P=dat c y::rest∧y≠[])∨(s≤c∧(es&&!dn)=true∧P=[endP w.length])∨(s≤c∧(es&&!dn)=false∧(s<w.length∨ih=false)∧P≠[])∨(s≤c∧(es&&!dn)=false∧¬ s<w.length∧ih=true∧P=[])):=by
  obtain ⟨h1,h2⟩:=qD3 (c:Int) S.Q.gg
  obtain ⟨H,e1,e2⟩:=qLE (k:=c) (by omega) (qDz ((max c s:Nat):Int) h1)
  have sl:=S.Q.sl
  have sw:=S.Q.sw
  have ql:=S.ql
  have hp:∀ p∈H,p.1<p.2∧c≤p.1∧p.2≤s:=fun p hp=>by
    have:=qHY e2 hp
    have z:=qFC ((max c s:Nat):Int) c (cutS c q0) ((p.1:Int),(p.2:Int)) (by rw [e1];exact List.mem_map.mpr ⟨p,hp,rfl⟩)
    have z:(p.2:Int)≤((max c s:Nat):Int):=z
    omega
  have hl:(qAZ m (s+1) H).length≤2000:=by
    have:=qEc (f:=s+1) hm.1 H c e2 fun p z=>(hp p z).2.2
    omega
  obtain ⟨x,eg⟩:=qMo (l:=(l:Int)) B n hm.1 (by omega) S.G (by omega) S.Q.gg (by omega) (by omega) H e1 (s+1) (fun p z=>by have:=hp p z;omega) hl (j+1)
  refine ⟨_,_,_,eg,qBs (g++x) _,(S.app x).app _,fun d hd=>?_,by rw [List.length_take];omega,?_⟩
  · have hd:=List.mem_of_mem_take hd
    unfold agn at hd
    split at hd
    · obtain ⟨p,hp1,rfl⟩:=List.mem_map.mp hd
      unfold qAZ at hp1
      obtain ⟨z,hz1,hz2⟩:=List.mem_flatMap.mp hp1
      have c1:=qHS _ _ _ hz2
      exact qIT (by omega)
    · split at hd
      · rename_i q
        rw [List.mem_singleton.mp hd]
        exact .inr ⟨(S.Q.ee (Bool.and_eq_true_iff.mp q).1).1,rfl⟩
      · split at hd
        · rw [List.mem_singleton.mp hd,qJc]
          exact .inl ⟨s,[],rfl,List.nil_prefix,by simp⟩
        · cases hd
  · by_cases q:c<s
    · left
      refine ⟨q,?_⟩
      obtain ⟨b,r,e3,e4⟩:=qHr (e:=((max c s:Nat):Int)) h1 (by omega) (by rw [h2,S.Q.nc];rfl)
      cases H with
      | nil=>rw [e3] at e1;cases e1
      | cons p H =>
        rw [e3] at e1
        have e5:(p.1:Int)=c:=(congrArg Prod.fst (List.cons.inj e1).1).symm
        have e6:p.1=c:=by omega
        have hp1:=hp p (List.mem_cons_self ..)
        have ps:(qAZ m (s+1) (p::H)).map (dP w)=dP w (c,min (c+m) p.2)::(chop m s (c+m) p.2++qAZ m (s+1) H).map (dP w):=by
          unfold qAZ
          rw [List.flatMap_cons,chop,if_pos hp1.1,e6]
          rfl
        have u1:c<min (c+m) p.2∧min (c+m) p.2≤w.length:=by omega
        generalize min (c+m) p.2=u at *
        refine ⟨_,((chop m s (c+m) p.2++qAZ m (s+1) H).map (dP w)).take j,?_,qPe u1.1 u1.2⟩
        unfold agn
        rw [ps,if_pos (by simp),List.take_succ_cons]
        rfl
    · have h0:H=[]:=by
        cases H with
        | nil=>rfl
        | cons p H=>have:=hp p (List.mem_cons_self ..);omega
      subst h0
      have p0:(qAZ m (s+1) []).map (dP w)=[]:=rfl
      rw [p0]
      unfold agn
      rw [if_neg (by simp)]
      right
      rcases Bool.eq_false_or_eq_true (es&&!dn) with z | z
      · left
        refine ⟨by omega,z,?_⟩
        rw [if_pos z,List.take_succ_cons,List.take_nil]
      · rw [if_neg (by rw [z];decide)]
        right
        by_cases z2:s<w.length
        · left
          rw [if_pos (by rw [decide_eq_true z2];rfl),List.take_succ_cons]
          exact ⟨by omega,z,.inl z2,List.cons_ne_nil _ _⟩
        · cases ih with
          | false =>
            left
            rw [if_pos (by rw [decide_eq_false z2];rfl),List.take_succ_cons]
            exact ⟨by omega,z,.inr rfl,List.cons_ne_nil _ _⟩
          | true =>
            right
            rw [if_neg (by rw [decide_eq_false z2];decide)]
            exact ⟨by omega,z,z2,rfl,List.take_nil⟩
end
section
variable {B n:Nat} {ns:List Int} {g:AH} {room m:Nat} {w:Tx} {e:Bool} {te:Option Nat} {rd a:Nat} {sp:SP} {kvs:List (Ky × D)} {k:Nat} {s c l:Nat} {q0:SP} {es ih dn:Bool}
theorem S7.of3 {g':AH} {te':Option Nat} {a':Nat} {sp':SP} {kvs':List (Ky × D)} {k':Nat} (S:S7 ns g room m w e te rd a sp kvs k s c l q0 es ih dn) (f:Fr3 2 3 4 g g') (T:Tk g' 2 3 4 room te' rd w a' sp' kvs' k') (ha:a≤a') (hp:∀ x,pr a sp x=true→pr a' sp' x=true) (ht:te'=te∨(e=true∧te'=some w.length)) :
    S7 ns g' room m w e te' rd a' sp' kvs' k' s c l q0 es ih dn:=by
  refine ⟨f 0 _ (by decide) (by decide) (by decide) S.sc,f 1 _ (by decide) (by decide) (by decide) S.G,T,⟨S.Q.gg,S.Q.sl,S.Q.sw,S.Q.ee,S.Q.dn,fun x hx=>hp x (S.Q.kn x hx),S.Q.nc,?_,fun j hj=>?_,S.Q.ll⟩⟩
  · rcases S.Q.ca with z | ⟨z1,z2⟩
    · exact .inl (by omega)
    · have:=(S.Q.tE a z2).2
      have le:=T.iv.le
      have:a'=a:=by omega
      subst this
      refine .inr ⟨z1,?_⟩
      rcases ht with z | ⟨_,z⟩
      · rw [z];exact z2
      · rw [z,‹a'=w.length›]
  · rcases ht with z | ⟨z1,z⟩
    · rw [z] at hj;exact S.Q.tE j hj
    · rw [z] at hj;exact ⟨z1,(Option.some.inj hj).symm⟩
theorem qLS (S:S7 ns g room m w e te rd a sp kvs k s c l q0 es ih dn) (hB:1000≤B) (hw:w.length≤900) (hk:k≤40000) {x:D} (hx:okQ w e x) :
    ∃ h' te' a' sp' kvs',callN fns B (n+6) qHq [.ref 2,x] g=.ok .non h'∧S7 ns h' room m w e te' rd a' sp' kvs' (k+1) s c l q0 es ih dn∧Fr3 2 3 4 g h'∧a≤a'∧(te'=te∨te'=some w.length) ∧
      (∀ y,x=dat a y→y≠[]→a<bnd room rd te→a<a')∧(x=endP w.length→te'=some w.length):=by
  rw [qHy]
  have T:=S.T
  rcases hx with ⟨at',y,rfl,hp,hy⟩ | ⟨rfl,rfl⟩
  · obtain ⟨h',a',sp',kvs',e1,T1,f1,l1,p1⟩:=qOt (B:=B) (n:=n) T hB hw at' y (by omega) hk hp
    refine ⟨h',te,a',sp',kvs',?_,S.of3 f1 T1 l1 (fun x hx=>by rw [p1,hx];rfl) (.inl rfl),f1,l1,.inl rfl,fun y' hy' y0 hb=>?_,fun z=>?_⟩
    · unfold dat
      have i0:((ixN 3 0).bind fun j=>[D.str [100,97,116,97],.int at',.str y][j]?)=some (.str [100,97,116,97]):=rfl
      have i1:((ixN 3 1).bind fun j=>[D.str [100,97,116,97],.int at',.str y][j]?)=some (.int at'):=rfl
      have i2:((ixN 3 2).bind fun j=>[D.str [100,97,116,97],.int at',.str y][j]?)=some (.str y):=rfl
      simp! only [qBm,i0,i1,i2,show (([100,97,116,97]:Tx) == [101,110,100])=false from rfl,qDU,T.aq,qN4,sT,e1]
    · unfold dat at hy'
      injection hy' with z
      injection z with _ z
      injection z with z1 z
      injection z with z2 _
      injection z1 with z1
      injection z2 with z2
      have z1:at'=a:=by omega
      subst z1 z2
      have yl:0<y.length:=List.length_pos_iff.mpr y0
      have:=p1 at'
      rw [decide_eq_true (show at'≤at'∧at'<at'+min y.length (bnd room rd te-at') by omega),Bool.or_true] at this
      by_cases q:at'<a'
      · exact q
      · have q:a'=at':=by omega
        subst q
        unfold pr at this
        rw [qCB T1.iv.gd (Int.le_refl _),decide_eq_false (by omega)] at this
        cases this
    · unfold dat endP at z
      injection z with z
      injection z with z _
      injection z with z
      cases z
  · obtain ⟨h',te',e1,T1,f1,t1⟩:=qOx (B:=B) (n:=n+3) T (by omega)
    have t2:te'=some w.length:=by
      cases te with
      | none=>exact t1
      | some j=>rw [t1,(S.Q.tE j rfl).2];rfl
    refine ⟨h',te',a,sp,kvs,?_,S.of3 f1 (T1.more (Nat.le_succ k)) (Nat.le_refl _) (fun _ z=>z) (.inr ⟨rfl,t2⟩),f1,Nat.le_refl _,.inr t2,fun y hy=>?_,fun _=>t2⟩
    · unfold endP
      have i0:((ixN 2 0).bind fun j=>[D.str [101,110,100],.int w.length][j]?)=some (.str [101,110,100]):=rfl
      have i1:((ixN 2 1).bind fun j=>[D.str [101,110,100],.int w.length][j]?)=some (.int w.length):=rfl
      simp! only [qBm,i0,i1,qDV,T.aq,qLu,e1]
    · unfold dat endP at hy
      injection hy with z
      injection z with z _
      injection z with z
      cases z
end
theorem mx_n (a b:Nat):mx (a:Int) (b:Int)=((max a b:Nat):Int):=by unfold mx;split <;> omega
theorem qHF {x:Int} (j:Nat) {l:SP} (h:inS (l.take j) x=true):inS l x=true:=by
 unfold inS at h ⊢
 rw [List.any_eq_true] at h ⊢
 obtain ⟨p,h1,h2⟩:=h
 exact ⟨p,List.mem_of_mem_take h1,h2⟩
section
variable {B n:Nat} {ns:List Int} {g:AH} {room m:Nat} {w:Tx} {e:Bool} {te:Option Nat} {rd a:Nat} {sp:SP} {kvs:List (Ky × D)} {k:Nat} {s c l:Nat} {q0:SP} {es ih dn:Bool}
theorem qLR (S:S7 ns g room m w e te rd a sp kvs k s c l q0 es ih dn) (hw:w.length≤900) (hB:1000≤B) :
    ∃ (u v:Nat) (r:SP) (h':AH) (q1:SP) (dn':Bool),(∀ n,callN fns B (n+1) qCY [.ref 2] g=.ok (.tup [.int u,.int v,.tup (spL r)]) g)∧(∀ n,callN fns B (n+5) qA8 [.ref 1,.int u,.int v,.tup (spL r)] g=.ok .non h') ∧
      S7 ns h' room m w e te rd a sp kvs k s u (rd+room) q1 es true dn'∧((u=a∧te≠some a)∨(u=a+1∧te=some a)):=by
  have T:=S.T
  have le:=T.iv.le
  have ar:=T.ar
  have ql:=S.ql
  have ll:=S.Q.ll
  obtain ⟨u,hu,hu2⟩:∃ u:Nat,(a:Int)+b2i (eI te == (a:Int))=(u:Int)∧((u=a∧te≠some a)∨(u=a+1∧te=some a)):=by
    cases te with
    | none =>
      refine ⟨a,?_,.inl ⟨rfl,fun z=>nomatch z⟩⟩
      have e0:(eI none == (a:Int))=false:=by
        show ((-1:Int) == (a:Int))=false
        simp
      rw [e0];exact Int.add_zero _
    | some j =>
      by_cases z:j=a
      · subst z
        exact ⟨j+1,by rw [show (eI (some j) == (j:Int))=true from beq_self_eq_true _];rfl,.inr ⟨rfl,rfl⟩⟩
      · refine ⟨a,?_,.inl ⟨rfl,fun y=>z (Option.some.inj y)⟩⟩
        have e0:(eI (some j) == (a:Int))=false:=by
          show ((j:Int) == (a:Int))=false
          simp;omega
        rw [e0];exact Int.add_zero _
  have hcu:max c u=u:=by
    rcases S.Q.ca with z | ⟨z1,z2⟩
    · rcases hu2 with y | y <;> omega
    · rcases hu2 with y | y
      · exact absurd z2 y.2
      · omega
  have hlv:max l (rd+room)=rd+room:=by omega
  have hb:¬ badA w e (u:Int) ((rd+room:Nat):Int):=by
    unfold badA
    rcases hu2 with ⟨y,_⟩ | ⟨y1,y2⟩
    · rintro (z | z)
      · split at z <;> omega
      · omega
    · obtain ⟨rfl,z2⟩:=S.Q.tE a y2
      rintro (z | z)
      · rw [if_pos rfl] at z;omega
      · omega
  have r8:(sp.take 8).length≤8:=by rw [List.length_take];omega
  obtain ⟨c1,c2⟩:=qD3 (u:Int) S.Q.gg
  have c3:GoodR (-1) (cutS (u:Int) q0):=c1.weak (by omega)
  have kin:=fun x=>qIw (u:Int) w.length x (by omega) (sp.take 8) (cutS (u:Int) q0) c3
  refine ⟨u,rd+room,sp.take 8,_,kGo (u:Int) w.length (cutS (u:Int) q0) (sp.take 8),_,fun n=>by rw [qKX T (by omega),hu],fun n=>by
    have e1:=qHk (B:=B) (n:=n) S.G S.Q.gg (by omega) (by omega) (u:Int) ((rd+room:Nat):Int) (sp.take 8) (by omega) (by omega) hb
    rw [mx_n,mx_n,hcu,hlv] at e1
    exact e1,⟨?_,List.getElem?_set_self S.gl,T.of1 (Fr1.set g _),⟨qE6 _ _ (by omega) _ _ c3,by have:=S.Q.sl;omega,S.Q.sw,S.Q.ee,?_,fun x hx=>?_,?_,?_,S.Q.tE,Nat.le_refl _⟩⟩,hu2⟩
  · exact Fr1.set g _ 0 _ (by decide) S.sc
  · congr 1
    rw [show ((w.length:Int)+1)=((w.length+1:Nat):Int) by omega]
    exact qDL _ _
  · rcases (kin x).mp hx with z | ⟨z,_⟩
    · rw [c2,Bool.and_eq_true] at z
      exact S.Q.kn x z.1
    · have:=qHF 8 z
      unfold pr
      rw [this,Bool.or_true]
  · have key:∀ x:Nat,x=u→pr a sp x=false:=fun x hx=>by
      unfold pr
      rw [Bool.or_eq_false_iff]
      rcases hu2 with ⟨y,_⟩ | ⟨y1,y2⟩
      · exact ⟨decide_eq_false (by omega),qCB T.iv.gd (by omega)⟩
      · have:=(S.Q.tE a y2).2
        refine ⟨decide_eq_false (by omega),?_⟩
        cases q:inS sp (x:Int) with
        | false=>rfl
        | true=>have:=T.iv.up _ q;omega
    cases q:inS (kGo (u:Int) w.length (cutS (u:Int) q0) (sp.take 8)) (u:Int) with
    | false=>rfl
    | true =>
      exfalso
      have k0:=key u rfl
      rcases (kin u).mp q with z | ⟨z,_⟩
      · rw [c2,Bool.and_eq_true] at z
        rw [S.Q.kn u z.1] at k0
        cases k0
      · have:=qHF 8 z
        unfold pr at k0
        rw [this,Bool.or_true] at k0
        cases k0
  · rcases hu2 with ⟨y,_⟩ | ⟨y1,y2⟩
    · exact .inl (by omega)
    · exact .inr ⟨y1,y2⟩
theorem S7.grow (S:S7 ns g room m w false te rd a sp kvs k s c l q0 es ih dn) (y:Tx) (hy:1≤y.length∧y.length≤40) (hw:w.length≤900) :
    ∃ h',(∀ n,callN fns B (n+1) qCv [.ref 1,.str y] g=.ok .non h')∧S7 ns h' room m (w++y) false te rd a sp kvs k s c l q0 es ih dn:=by
  have te0:te=none:=by
    cases te with
    | none=>rfl
    | some j=>exact nomatch (S.Q.tE j rfl).1
  have es0:es=false:=by
    cases es with
    | false=>rfl
    | true=>exact nomatch (S.Q.ee rfl).1
  have ee:badW w y=false:=decide_eq_false (by omega)
  refine ⟨_,fun n=>by
    have e1:=qMi B n g 1 m w y s c l (spL q0) false es ih dn S.G (by omega) (by omega)
    rw [if_neg (by decide),if_neg (by rw [ee];decide)] at e1
    exact e1,⟨Fr1.set g _ 0 _ (by decide) S.sc,List.getElem?_set_self S.gl,(S.T.of1 (Fr1.set g _)).grow y,⟨S.Q.gg,S.Q.sl,by rw [List.length_append];have:=S.Q.sw;omega,(fun z=>by rw [es0] at z;cases z),S.Q.dn,S.Q.kn,S.Q.nc,S.Q.ca,(fun j hj=>by rw [te0] at hj;cases hj),S.Q.ll⟩⟩⟩
theorem S7.fin (S:S7 ns g room m w false te rd a sp kvs k s c l q0 es ih dn) :
    ∃ h',(∀ n,callN fns B (n+1) qCZ [.ref 1] g=.ok .non h')∧S7 ns h' room m w true te rd a sp kvs k s c l q0 es ih dn:=by
  have te0:te=none:=by
    cases te with
    | none=>rfl
    | some j=>exact nomatch (S.Q.tE j rfl).1
  have es0:es=false:=by
    cases es with
    | false=>rfl
    | true=>exact nomatch (S.Q.ee rfl).1
  have le:=S.T.iv.le
  have cw:c≤a:=by
    rcases S.Q.ca with z | ⟨_,z⟩
    · exact z
    · rw [te0] at z;cases z
  refine ⟨_,fun n=>by
    have e1:=qKV B n g 1 m w s c l (spL q0) false es ih dn S.G
    rw [if_neg (by decide)] at e1
    exact e1,⟨Fr1.set g _ 0 _ (by decide) S.sc,List.getElem?_set_self S.gl,S.T.of1 (Fr1.set g _),⟨S.Q.gg,S.Q.sl,S.Q.sw,(fun z=>by rw [es0] at z;cases z),?_,S.Q.kn,S.Q.nc,S.Q.ca,(fun j hj=>by rw [te0] at hj;cases hj),S.Q.ll⟩⟩⟩
  rw [S.Q.dn,decide_eq_false (by omega)]
  rfl
theorem S7.took {h':AH} {rd':Nat} (S:S7 ns g room m w e te rd a sp kvs k s c l q0 es ih dn) (f:Fr3 2 3 4 g h') (T:Tk h' 2 3 4 room te rd' w a sp kvs k) (hr:rd≤rd'):S7 ns h' room m w e te rd' a sp kvs k s c l q0 es ih dn :=
 ⟨f 0 _ (by decide) (by decide) (by decide) S.sc,f 1 _ (by decide) (by decide) (by decide) S.G,T,⟨S.Q.gg,S.Q.sl,S.Q.sw,S.Q.ee,S.Q.dn,S.Q.kn,S.Q.nc,S.Q.ca,S.Q.tE,by have:=S.Q.ll;omega⟩⟩
end
noncomputable def due (w:Tx) (e:Bool):Nat:=w.length+(if e=true then 1 else 0)
noncomputable def psi (w:Tx) (e:Bool) (s a c:Nat) (es:Bool):Nat:=(w.length-s)+(w.length-a)+(if (e&&!es)=true then 1 else 0)+(if c=due w e then 0 else 1)
theorem qDN {h:AH} {i:Nat} {xs:List D} (e:h[i]?=some (.lst xs)):getL h i=some xs:=by unfold getL;rw [e]
section
variable {B n:Nat} {ns:List Int} {g:AH} {room m:Nat} {w:Tx} {e:Bool} {te:Option Nat} {rd a:Nat} {sp:SP} {kvs:List (Ky × D)} {k:Nat} {s c l:Nat} {q0:SP} {es ih dn:Bool}
theorem S7.keep {g':AH} (S:S7 ns g room m w e te rd a sp kvs k s c l q0 es ih dn) (f:Fr3 2 3 4 g g') {r:Nat} {P:List D} (hr:g[r]?=some (.lst P)):g'[r]?=some (.lst P) :=
 f r _ (fun z=>by rw [z,S.T.aq] at hr;cases hr) (fun z=>by rw [z,S.T.sl.ap] at hr;cases hr) (fun z=>by rw [z,S.T.sl.ad] at hr;cases hr) hr
theorem qKg (S:S7 ns g room m w e te rd a sp kvs k s c l q0 es ih dn) (hB:1000≤B) (hw:w.length≤900) (hk:k≤39000) {r:Nat} {P:List D} (hr:g[r]?=some (.lst P)) (hx:∀ x∈P,okQ w e x) (hP:P.length≤10) (x0 x1 x3 x4 x5:Option D) (hx1:x1=some (.ref 2)) :
    ∃ h' te' a' sp' kvs' y3,qBh (qAR (TG.nm 3) (denS (callN fns B (n+6)) B qBG)) r (liveN g r) 0 [x0,x1,some (.ref r),x3,x4,x5] g=.nx [x0,x1,some (.ref r),y3,x4,x5] h'∧S7 ns h' room m w e te' rd a' sp' kvs' (k+P.length) s c l q0 es ih dn∧h'[r]?=some (.lst P)∧a≤a' ∧
      (∀ y,P[0]?=some (dat a y)→y≠[]→a<bnd room rd te→a<a')∧(P[0]?=some (endP w.length)→te'=some w.length):=by
  subst hx1
  obtain ⟨σ',h',e1,te',a',sp',kvs',y3,rfl,S1,r1,l1,z0,z1,z2⟩:=qHt (fun j σ h=>∃ te' a' sp' kvs' y3,σ=[x0,some (.ref 2),some (.ref r),y3,x4,x5]∧S7 ns h room m w e te' rd a' sp' kvs' (k+j) s c l q0 es ih dn∧h[r]?=some (.lst P)∧a≤a'∧(j=0→a'=a∧te'=te)∧(1≤j→∀ y,P[0]?=some (dat a y)→y≠[]→a<bnd room rd te→a<a')∧(1≤j→P[0]?=some (endP w.length)→te'=some w.length))
    (qAR (TG.nm 3) (denS (callN fns B (n+6)) B qBG)) r P [x0,some (.ref 2),some (.ref r),x3,x4,x5] g ⟨te,a,sp,kvs,x3,rfl,S,hr,Nat.le_refl _,fun _=>⟨rfl,rfl⟩,fun z=>by omega,fun z=>by omega⟩ (fun _ _ h ⟨_,_,_,_,_,_,_,q,_⟩=>qDN q)
    (fun j x σ h hj ⟨te',a',sp',kvs',y3,e1,S1,r1,l1,z0,z1,z2⟩=>by
      subst e1
      have hjl:=(List.getElem?_eq_some_iff.mp hj).1
      obtain ⟨h2,te2,a2,sp2,kvs2,e2,S2,f2,l2,t2,p2,q2⟩:=qLS (B:=B) (n:=n) S1 hB hw (by omega) (hx x (List.mem_of_getElem? hj))
      refine ⟨_,h2,?_,te2,a2,sp2,kvs2,some x,rfl,S2,S1.keep f2 r1,by omega,fun z=>by omega,fun _ y hy y0 hb=>?_,fun _ hy=>?_⟩
      · rw [qAv]
        simp! only [qBG,e2]
      · by_cases j0:j=0
        · subst j0
          rw [hy] at hj
          obtain ⟨rfl,rfl⟩:=z0 rfl
          exact p2 y (Option.some.inj hj).symm y0 hb
        · have:=z1 (by omega) y hy y0 hb
          omega
      · by_cases j0:j=0
        · subst j0
          rw [hy] at hj
          exact q2 (Option.some.inj hj).symm
        · rcases t2 with z | z
          · rw [z];exact z2 (by omega) hy
          · exact z)
  refine ⟨h',te',a',sp',kvs',y3,e1,S1,r1,l1,fun y hy=>z1 (List.getElem?_eq_some_iff.mp hy).1 y hy,fun hy=>z2 (List.getElem?_eq_some_iff.mp hy).1 hy⟩
theorem qOw (S:S7 ns g room m w e te rd a sp kvs k s c l q0 es ih dn) (hB:1000≤B) (hw:w.length≤900) (hr:room≤40) {r:Nat} {P:List D} (hP:g[r]?=some (.lst P)) (y3:Option D) :
    ∃ h' c' l' q1 ih' dn',fin (denS (callN fns B (n+6)) B qBF [some (.ref 1),some (.ref 2),some (.ref r),y3,none,none] g)=.ok (.str ((w.drop rd).take (a-rd))) h'∧S7 ns h' room m w e te a a sp kvs k s c' l' q1 es ih' dn' ∧
      ((P=[]∧c'=c∧ih'=ih)∨(P≠[]∧l'=a+room∧ih'=true∧a≤c'∧(te=some a→c'=a+1))):=by
  have ra:=S.T.ra
  have ar:=S.T.ar
  obtain ⟨h1,rd1,e1,l1,l2,T1,f1⟩:=qOv (B:=B) (n:=n+4) S.T (by omega) 200 (by omega)
  have rd1e:rd1=a:=by omega
  subst rd1e
  have S1:=S.took f1 T1 l1
  have P1:=S.keep f1 hP
  have gl:=qDN P1
  have e200:D.int ((200:Nat):Int)=.int 200:=rfl
  rw [e200] at e1
  cases P with
  | nil =>
    have d0:decide ((0:Int)<((0:Nat):Int))=false:=rfl
    refine ⟨h1,c,l,q0,ih,dn,?_,S1,.inl ⟨rfl,rfl,rfl⟩⟩
    simp! only [qBF,S.T.aq,qH9,e1,gl,d0,qBx]
  | cons x xs =>
    have d0:decide ((0:Int)<((x::xs).length:Int))=true:=decide_eq_true (by rw [List.length_cons];omega)
    obtain ⟨u,v,rr,h2,q1,dn1,t1,t2,S2,hu⟩:=qLR (B:=B) S1 hw hB
    have t1:=t1 (n+5)
    have t2:=t2 (n+1)
    have i0:((ixN 3 0).bind fun j=>[D.int u,.int v,.tup (spL rr)][j]?)=some (.int u):=rfl
    have i1:((ixN 3 1).bind fun j=>[D.int u,.int v,.tup (spL rr)][j]?)=some (.int v):=rfl
    have i2:((ixN 3 2).bind fun j=>[D.int u,.int v,.tup (spL rr)][j]?)=some (.tup (spL rr)):=rfl
    have tb:tbN [(306712044914,9)] qAD=some 9:=rfl
    refine ⟨h2,u,_,q1,true,dn1,?_,S2,.inr ⟨List.cons_ne_nil _ _,rfl,rfl,by rcases hu with z | z <;> omega,fun z=>?_⟩⟩
    · generalize x::xs=xx at *
      simp! only [qBF,S.T.aq,qH9,e1,gl,d0,qC7,S1.T.aq,qFZ,t1,i0,i1,i2,S1.G,qEe,tb,t2,qBx]
    · rcases hu with y | y
      · exact absurd z y.2
      · exact y.1
end
section
variable {B n:Nat} {ns:List Int} {g:AH} {room m:Nat} {w:Tx} {e:Bool} {te:Option Nat} {rd a:Nat} {sp:SP} {kvs:List (Ky × D)} {k:Nat} {s c l:Nat} {q0:SP} {es ih dn:Bool}
theorem qMj (S:S7 ns g room m w e te rd a sp kvs k s c l q0 es ih dn) (hm:1≤m∧m≤40) (hw:w.length≤900) (hB:1000≤B) (hr:1≤room∧room≤40) (hk:k≤39000) :
    ∃ g' te' a' sp' kvs' k' s' c' l' q1 es' ih' dn',callN fns B (n+7) qGb [.ref 1,.ref 2] g=.ok (.str ((w.drop rd).take (a'-rd))) g'∧S7 ns g' room m w e te' a' a' sp' kvs' k' s' c' l' q1 es' ih' dn'∧k'≤k+4∧rd≤a' ∧
      ((ih'=true∧l'=a'+room∧a'≤c'∧(ih=true→l=a+room→a≤c→¬ (a=w.length∧c=due w e)→psi w e s' a' c' es'+1≤psi w e s a c es))∨(a'=w.length∧c'=due w e∧ih'=true)):=by
  rw [qGi]
  have le:=S.T.iv.le
  have ra:=S.T.ra
  have sw:=S.Q.sw
  have sl:=S.Q.sl
  have ll:=S.Q.ll
  have cD:¬ (a=w.length∧c=due w e)→c≠due w e:=fun h z=>h ⟨by
    unfold due at z
    rcases S.Q.ca with y | ⟨y1,y2⟩
    · split at z <;> omega
    · exact (S.Q.tE a y2).2,z⟩
  obtain ⟨h1,P1,s1,es1,e1,p1,S1,o1,n1,sm,em,nx⟩:=qLb (B:=B) (n:=n+4) S hm hw hB 3 (by omega)
  have e4:D.int ((3+1:Nat):Int)=.int 4:=rfl
  rw [e4] at e1
  have tb1:tbN [(306712044914,11)] qAD=some 11:=rfl
  have tb2:tbN [(306712044914,13)] qAD=some 13:=rfl
  have gl1:=qDN p1
  obtain ⟨h2,r,P,s2,es2,run2,p2,S2,o2,n2,cs⟩:∃ h2 r P s2 es2,(∀ X,fin (denS (callN fns B (n+6)) B qBw [some (.ref 1),some (.ref 2),some (.ref r),none,none,none] h2)=X→fin (denS (callN fns B (n+6)) B qA2 [some (.ref 1),some (.ref 2),none,none,none,none] g)=X)∧h2[r]?=some (.lst P) ∧
      S7 ns h2 room m w e te rd a sp kvs k s2 c l q0 es2 ih dn∧(∀ d∈P,okQ w e d)∧P.length≤4 ∧
      ((P≠[]∧s≤s2∧(es=true→es2=true)∧(s<s2∨(es=false∧es2=true)))∨(s2=s∧es2=es∧(¬ s<upto w m l s∧((e&&!es)&&decide (s=w.length))=false) ∧
        ((c<s∧∃ y rest,P=dat c y::rest∧y≠[])∨(s≤c∧(es&&!dn)=true∧P=[endP w.length])∨(s≤c∧(es&&!dn)=false∧(s<w.length∨ih=false)∧P≠[])∨(s≤c∧(es&&!dn)=false∧¬ s<w.length∧ih=true∧P=[])))):=by
    rcases nx with ⟨rfl,x1,x2,rfl,rfl⟩ | ⟨x0,x1⟩
    · obtain ⟨h2,r,P,a1,a2,S2,a3,a4,a5⟩:=qJE (B:=B) (n:=n) S1 hm hw hB 3
      rw [e4] at a1
      refine ⟨h2,r,P,s1,es1,fun X hX=>?_,a2,S2,a3,a4,.inr ⟨rfl,rfl,⟨x1,x2⟩,a5⟩⟩
      rw [← hX]
      have d0:(((0:Nat):Int) == 0)=true:=rfl
      simp! only [qA2,S.G,qE5,tb1,e1,gl1,d0,qC8,S1.G,qIb,tb2,a1]
    · have pl:0<P1.length:=List.length_pos_iff.mpr x0
      have d0:((P1.length:Int) == 0)=false:=by simp;omega
      refine ⟨h1,g.length,P1,s1,es1,fun X hX=>?_,p1,S1,o1,n1,.inl ⟨x0,sm,em,x1⟩⟩
      rw [← hX]
      simp! only [qA2,S.G,qE5,tb1,e1,gl1,d0]
  obtain ⟨h3,te3,a3,sp3,kvs3,y3,L3,S3,p3,l3,f3,g3⟩:=qKg (B:=B) (n:=n) S2 hB hw hk p2 o2 (by omega) (some (.ref 1)) (some (.ref 2)) none none none rfl
  obtain ⟨h4,c4,l4,q4,ih4,dn4,e5,S4,cs4⟩:=qOw (B:=B) (n:=n) S3 hB hw hr.2 p3 y3
  have gl2:=qDN p2
  refine ⟨h4,te3,a3,sp3,kvs3,_,s2,c4,l4,q4,es2,ih4,dn4,run2 _ ?_,S4,by omega,by omega,?_⟩
  · rw [← e5]
    simp! only [qBw,gl2,L3]
  · have le3:=S3.T.iv.le
    have sw2:=S2.Q.sw
    have dn0:=S.Q.dn
    have ca:=S.Q.ca
    have ind:∀ x:Nat,(if x=due w e then 0 else 1)≤1:=fun x=>by split <;> omega
    rcases cs4 with ⟨rfl,rfl,rfl⟩ | ⟨x0,rfl,rfl,x1,x2⟩
    · -- nothing was handed over
      right
      rcases cs with ⟨z,_⟩ | ⟨_,_,⟨_,z2⟩,z3⟩
      · exact absurd rfl z
      · rcases z3 with ⟨_,y,rest,z,_⟩ | ⟨_,_,z⟩ | ⟨_,_,_,z⟩ | ⟨z4,z5,z6,z7,_⟩
        · cases z
        · cases z
        · exact absurd rfl z
        · have hs:s=w.length:=by omega
          rw [decide_eq_true hs,Bool.and_true] at z2
          unfold due
          cases e with
          | true =>
            cases es with
            | false=>cases z2
            | true =>
              cases dn with
              | false=>cases z5
              | true =>
                have:c4=w.length+1:=of_decide_eq_true dn0.symm
                rw [if_pos rfl]
                exact ⟨by omega,this,z7⟩
          | false =>
            rw [if_neg (by decide)]
            rcases ca with y | ⟨y1,y2⟩
            · exact ⟨by omega,by omega,z7⟩
            · exact nomatch (S.Q.tE a y2).1
    · left
      refine ⟨rfl,rfl,x1,fun hih hl hac hnd=>?_⟩
      have hcD:=cD hnd
      unfold psi
      rw [if_neg hcD]
      have i4:=ind c4
      rcases cs with ⟨_,z1,z2,z3⟩ | ⟨rfl,rfl,⟨z1,z2⟩,z3⟩
      · rcases z3 with z3 | ⟨z3,z4⟩
        · have:(if (e&&!es2)=true then 1 else 0)≤(if (e&&!es)=true then 1 else 0):=by
            cases es with
            | true=>rw [z2 rfl];exact Nat.le_refl _
            | false=>cases es2 <;> cases e <;> decide
          omega
        · have:=(S2.Q.ee z4).1
          subst this z3 z4
          have q1:(if (true&&!true)=true then 1 else 0)=0:=rfl
          have q2:(if (true&&!false)=true then 1 else 0)=1:=rfl
          rw [q1,q2]
          omega
      · rcases z3 with ⟨y1,y,rest,y2,y3⟩ | ⟨y1,y2,y3⟩ | ⟨y1,y2,y3,y4⟩ | ⟨_,_,_,_,z⟩
        · have hca:c=a:=by
            rcases ca with v | ⟨v1,v2⟩
            · omega
            · have:=(S.Q.tE a v2).2;omega
          subst hca
          have hb:c<bnd room rd te:=by
            cases te with
            | none=>show c<rd+room;omega
            | some j =>
              have:=(S.Q.tE j rfl).2
              show c<min (rd+room) j
              omega
          have:=f3 y (by rw [y2];rfl) y3 hb
          omega
        · obtain ⟨v1,v2⟩:=Bool.and_eq_true_iff.mp y2
          obtain ⟨rfl,v3⟩:=S.Q.ee v1
          have hd:dn=false:=by cases dn with | false=>rfl | true=>cases v2
          rw [hd] at dn0
          have v4:c≠w.length+1:=of_decide_eq_false dn0.symm
          have ht:=g3 (by rw [y3];rfl)
          have ha3:a3=w.length:=by
            rcases ca with v | ⟨v5,v6⟩
            · omega
            · have:=(S.Q.tE a v6).2;omega
          have hc4:=x2 (by rw [ht,ha3])
          have:c4=due w true:=by unfold due;rw [if_pos rfl];omega
          rw [if_pos this]
          omega
        · exfalso
          rcases y3 with y3 | y3
          · unfold upto at z1
            rcases ca with v | ⟨v5,v6⟩
            · omega
            · have:=(S.Q.tE a v6).2;omega
          · rw [hih] at y3;cases y3
        · exact absurd z x0
end
noncomputable def SY (ns:List Int) (room m j:Nat) (x6 x7:Option D) (σ:Fy.Env) (g:AH):Prop:=∃ (w:Tx) (e:Bool) (te:Option Nat) (a:Nat) (sp:SP) (kvs:List (Ky × D)) (k s c l:Nat) (q0:SP) (es ih dn:Bool) (x5 x8 x9 x10 x11 x12:Option D),
 σ=[some (.ref 0),some (.ref 1),some (.ref 2),some (.str w),some (.bl e),x5,x6,x7,x8,x9,x10,x11,x12,none,none,none]∧S7 ns g room m w e te 0 a sp kvs k s c l q0 es ih dn∧w.length≤30*j∧k≤3*j
noncomputable def b12:CS:=(.seq (.ite (.and (.val (.bi .lt (.var 6) (.lit (.int 2)))) (.not (.val (.var 4)))) qGo .skip) qBb)
section
variable {B n:Nat} {ns:List Int} {room m j:Nat} {wy cell:Int} {σ:Fy.Env} {g:AH}
theorem SY.mono {x6 x7:Option D} (X:SY ns room m j x6 x7 σ g):SY ns room m (j+1) x6 x7 σ g:=by
 obtain ⟨w,e,te,a,sp,kvs,k,s,c,l,q0,es,ih,dn,x5,x8,x9,x10,x11,x12,h1,h2,h3,h4⟩:=X
 exact ⟨w,e,te,a,sp,kvs,k,s,c,l,q0,es,ih,dn,x5,x8,x9,x10,x11,x12,h1,h2,by omega,by omega⟩
theorem qLi (X:SY ns room m j (some (.int wy)) (some (.int cell)) σ g) (hj:j≤24) (h0:0≤wy) :
    ∃ σ' g',denS (callN fns B (n+7)) B b12 σ g=denS (callN fns B (n+7)) B qBb σ' g'∧((wy<2∧SY ns room m (j+1) (some (.int wy)) (some (.int cell)) σ' g')∨(¬ wy<2∧SY ns room m j (some (.int wy)) (some (.int cell)) σ' g')):=by
  have X0:=X
  obtain ⟨w,e,te,a,sp,kvs,k,s,c,l,q0,es,ih,dn,x5,x8,x9,x10,x11,x12,rfl,S,lw,lk⟩:=X
  by_cases q:wy<2
  · cases e with
    | true=>exact ⟨_,g,by simp! only [b12,q],.inl ⟨q,X0.mono⟩⟩
    | false =>
      obtain ⟨v,hv,hv2⟩:∃ v:Int,((ixN 2 wy).bind fun i=>[D.int 3,.int 30][i]?)=some (.int v)∧(v=3∨v=30):=by
        have:wy=0∨wy=1:=by omega
        rcases this with rfl | rfl
        · exact ⟨3,rfl,.inl rfl⟩
        · exact ⟨30,rfl,.inr rfl⟩
      have v0:0<v∧v≤30:=by omega
      have m0:=Int.emod_nonneg cell (show v≠0 by omega)
      have m1:=Int.emod_lt_of_pos cell v0.1
      obtain ⟨z,hz,hz2⟩:∃ z:Nat,1+cell % v=(z:Int)∧(1≤z∧z≤30):=⟨(1+cell % v).toNat,by omega,by omega,by omega⟩
      have gl:getL (g++[.lst [.int 3,.int 30]]) g.length=some [.int 3,.int 30]:=by rw [qAT];rfl
      obtain ⟨g1,t1⟩:=qOu B (n+6) (g++[.lst [.int 3,.int 30]]) cell z (by omega)
      have dl:=qJY cell z
      obtain ⟨g2,e2,S2⟩:=S7.grow (B:=B) ((S.app [.lst [.int 3,.int 30]]).app g1) (drawn cell z) (by omega) (by omega)
      have e2:=e2 (n+6)
      have tb:tbN [(306712044914,7)] qAD=some 7:=rfl
      have G1:=((S.app [.lst [.int 3,.int 30]]).app g1).G
      refine ⟨_,g2,?_,.inl ⟨q,w++drawn cell z,false,te,a,sp,kvs,k,s,c,l,q0,es,ih,dn,x5,some (.str (drawn cell z)),x9,x10,x11,x12,rfl,S2,by rw [List.length_append];omega,by omega⟩⟩
      generalize drawn cell z=y at *
      simp! only [b12,q,qGo,if_pos (show 2≤16777216 by omega),gl,Option.bind_some,hv,if_pos v0.1,hz,t1,G1,qMZ,tb,e2,if_pos (show w.length+y.length≤16777216 by omega)]
  · exact ⟨_,g,by simp! only [b12,q],.inr ⟨q,X0⟩⟩
theorem y_fin (X:SY ns room m j (some (.int wy)) (some (.int cell)) σ g) :
    ∃ σ' g',denS (callN fns B (n+7)) B qBb σ g=denS (callN fns B (n+7)) B qBI σ' g'∧SY ns room m j (some (.int wy)) (some (.int cell)) σ' g':=by
  have X0:=X
  obtain ⟨w,e,te,a,sp,kvs,k,s,c,l,q0,es,ih,dn,x5,x8,x9,x10,x11,x12,rfl,S,lw,lk⟩:=X
  rcases Bool.eq_false_or_eq_true (wy == 2) with q | q
  · rcases Bool.eq_false_or_eq_true (cell % 3 == 0) with q1 | q1
    · cases e with
      | true=>exact ⟨_,g,by simp! only [qBb,q,q1],X0⟩
      | false =>
        obtain ⟨g2,e2,S2⟩:=S7.fin (B:=B) S
        have e2:=e2 (n+6)
        have tb:tbN [(306712044914,8)] qAD=some 8:=rfl
        refine ⟨_,g2,?_,w,true,te,a,sp,kvs,k,s,c,l,q0,es,ih,dn,x5,x8,x9,x10,x11,x12,rfl,S2,lw,lk⟩
        simp! only [qBb,q,q1,qJo,S.G,qKK,tb,e2]
    · exact ⟨_,g,by simp! only [qBb,q,q1],X0⟩
  · exact ⟨_,g,by simp! only [qBb,q],X0⟩
theorem qNa (X:SY ns room m j (some (.int wy)) (some (.int cell)) σ g) (hm:1≤m∧m≤40) (hB:1000≤B) (hj:j≤24) :
    ∃ σ' g',denS (callN fns B (n+7)) B qBI σ g=.nx σ' g'∧SY ns room m (j+1) (some (.int wy)) (some (.int cell)) σ' g':=by
  have X0:=X
  obtain ⟨w,e,te,a,sp,kvs,k,s,c,l,q0,es,ih,dn,x5,x8,x9,x10,x11,x12,rfl,S,lw,lk⟩:=X
  rcases Bool.eq_false_or_eq_true (wy == 6) with q | q
  · obtain ⟨u,v,rr,h2,q1,dn1,t1,t2,S2,hu⟩:=qLR (B:=B) S (by omega) hB
    have t1:=t1 (n+6)
    have t2:=t2 (n+2)
    have i0:((ixN 3 0).bind fun j=>[D.int u,.int v,.tup (spL rr)][j]?)=some (.int u):=rfl
    have i1:((ixN 3 1).bind fun j=>[D.int u,.int v,.tup (spL rr)][j]?)=some (.int v):=rfl
    have i2:((ixN 3 2).bind fun j=>[D.int u,.int v,.tup (spL rr)][j]?)=some (.tup (spL rr)):=rfl
    have tb:tbN [(306712044914,9)] qAD=some 9:=rfl
    refine ⟨_,h2,?_,w,e,te,a,sp,kvs,k,s,u,_,q1,es,true,dn1,x5,x8,some (.tup [.int u,.int v,.tup (spL rr)]),x10,x11,x12,rfl,S2,by omega,by omega⟩
    simp! only [qBI,q,qJn,S.T.aq,qFZ,t1,i0,i1,i2,S.G,qEe,tb,t2]
  · by_cases q2:2<wy
    · obtain ⟨z,hz,hz2⟩:∃ z:Nat,1+cell % 3=((z+1:Nat):Int)∧z≤2:=⟨(cell % 3).toNat,by omega,by omega⟩
      obtain ⟨h1,P1,s1,es1,e1,p1,S1,o1,n1,_,_,_⟩:=qLb (B:=B) (n:=n+5) S hm (by omega) hB z (by omega)
      have tb1:tbN [(306712044914,11)] qAD=some 11:=rfl
      have tb2:tbN [(306712044914,13)] qAD=some 13:=rfl
      obtain ⟨h2,r,P,run2,p2,S2,o2,n2⟩:∃ h2 r P,denS (callN fns B (n+7)) B qBI [some (.ref 0),some (.ref 1),some (.ref 2),some (.str w),some (.bl e),x5,some (.int wy),some (.int cell),x8,x9,x10,x11,x12,none,none,none] g=denS (callN fns B (n+7)) B qGn [some (.ref 0),some (.ref 1),some (.ref 2),some (.str w),some (.bl e),x5,some (.int wy),some (.int cell),x8,x9,some (.ref r),x11,x12,none,none,none] h2∧h2[r]?=some (.lst P) ∧
          S7 ns h2 room m w e te 0 a sp kvs k s1 c l q0 es1 ih dn∧(∀ d∈P,okQ w e d)∧P.length≤3:=by
        rcases Bool.eq_false_or_eq_true (wy == 5) with q3 | q3
        · obtain ⟨h2,r,P,a1,a2,S2,a3,a4,_⟩:=qJE (B:=B) (n:=n+1) S1 hm (by omega) hB z
          refine ⟨h2,r,P,?_,a2,S2,a3,by omega⟩
          simp! only [qBI,q,qED,q2,qGm,S.G,qE5,tb1,hz,e1,q3,qJm,S1.G,qIb,tb2,a1]
        · refine ⟨h1,g.length,P1,?_,p1,S1,o1,by omega⟩
          simp! only [qBI,q,qED,q2,qGm,S.G,qE5,tb1,hz,e1,q3]
      have gl2:=qDN p2
      obtain ⟨σ',g',L,te',a',sp',kvs',k',y11,y12,rfl,S3,p3,lk3⟩:=qJF (fun i σ h=>∃ te' a' sp' kvs' k' y11 y12,σ=[some (.ref 0),some (.ref 1),some (.ref 2),some (.str w),some (.bl e),x5,some (.int wy),some (.int cell),x8,x9,some (.ref r),y11,y12,none,none,none]∧S7 ns h room m w e te' 0 a' sp' kvs' k' s1 c l q0 es1 ih dn∧h[r]?=some (.lst P)∧k'≤k+i)
        (qAR (.two 11 12) (denS (callN fns B (n+7)) B qFS)) r P [some (.ref 0),some (.ref 1),some (.ref 2),some (.str w),some (.bl e),x5,some (.int wy),some (.int cell),x8,x9,some (.ref r),x11,x12,none,none,none] h2 ⟨te,a,sp,kvs,k,x11,x12,rfl,S2,p2,by omega⟩ (fun _ _ h ⟨_,_,_,_,_,_,_,_,_,q,_⟩=>qDN q)
        (fun i x σ h hi ⟨te',a',sp',kvs',k',y11,y12,e1,S3,p3,lk3⟩=>by
          subst e1
          have hil:=(List.getElem?_eq_some_iff.mp hi).1
          have f3:(0:Int)<3+(i:Int)∧3+(i:Int)<1073741824:=⟨by omega,by omega⟩
          rcases Bool.eq_false_or_eq_true (cell / (3+(i:Int)) % 2 == 0) with q4 | q4
          · obtain ⟨h4,te4,a4,sp4,kvs4,e4,S4,f4,_⟩:=qLS (B:=B) (n:=n+1) S3 hB (by omega) (by omega) (o2 x (List.mem_of_getElem? hi))
            refine ⟨_,h4,?_,te4,a4,sp4,kvs4,_,some (.int i),some x,rfl,S4,S3.keep f4 p3,by omega⟩
            rw [qDC]
            simp! only [qFS,if_pos f3,q4,qJl,e4]
          · refine ⟨_,h,?_,te',a',sp',kvs',k',some (.int i),some x,rfl,S3,p3,by omega⟩
            rw [qDC]
            simp! only [qFS,if_pos f3,q4])
      refine ⟨_,g',?_,w,e,te',a',sp',kvs',k',s1,c,l,q0,es1,ih,dn,x5,x8,x9,some (.ref r),y11,y12,rfl,S3,by omega,by omega⟩
      rw [run2]
      simp! only [qGn,L]
    · exact ⟨_,g,by simp! only [qBI,q,qED,q2],X0.mono⟩
theorem qNZ (hm:1≤m∧m≤40) (hB:1000≤B) (hj:j<24) (x6 x7:Option D) (X:SY ns room m j x6 x7 σ g) :
    ∃ σ' g',qAR (TG.nm 5) (denS (callN fns B (n+7)) B qC9) (.int (0+(j:Int))) σ g=.nx σ' g'∧∃ y6 y7,SY ns room m (j+1) y6 y7 σ' g':=by
  obtain ⟨w,e,te,a,sp,kvs,k,s,c,l,q0,es,ih,dn,x5,x8,x9,x10,x11,x12,rfl,S,lw,lk⟩:=X
  have gs:getL g 0=some (ns.map .int):=by unfold getL;rw [S.sc]
  have c1:=qDq B (n+6) g 0 ns (1+2*j) gs
  have c2:=qDq B (n+6) g 0 ns (2+2*j) gs
  have e1:(1:Int)+2*(j:Int)=((1+2*j:Nat):Int):=by omega
  have e2:(2:Int)+2*(j:Int)=((2+2*j:Nat):Int):=by omega
  have mo:mulOk (2:Int) (j:Int):=qGR (by omega)
  generalize ns.getD (1+2*j) 0=w0 at c1
  generalize ns.getD (2+2*j) 0=cell at c2
  have X1:SY ns room m j (some (.int (w0 % 7))) (some (.int cell)) [some (.ref 0),some (.ref 1),some (.ref 2),some (.str w),some (.bl e),some (.int j),some (.int (w0 % 7)),some (.int cell),x8,x9,x10,x11,x12,none,none,none] g:=⟨w,e,te,a,sp,kvs,k,s,c,l,q0,es,ih,dn,some (.int j),x8,x9,x10,x11,x12,rfl,S,lw,lk⟩
  have pre:∀ σ' g',denS (callN fns B (n+7)) B b12 [some (.ref 0),some (.ref 1),some (.ref 2),some (.str w),some (.bl e),some (.int j),some (.int (w0 % 7)),some (.int cell),x8,x9,x10,x11,x12,none,none,none] g=.nx σ' g'→qAR (TG.nm 5) (denS (callN fns B (n+7)) B qC9) (.int (0+(j:Int))) [some (.ref 0),some (.ref 1),some (.ref 2),some (.str w),some (.bl e),x5,x6,x7,x8,x9,x10,x11,x12,none,none,none] g=.nx σ' g':=fun σ' g' h=>by
    rw [← h,qAv,Int.zero_add]
    rw [show qC9=.seq (.set (.nm 6) (.bi .mod (.call 28 (.cons (.var 0) (.cons (.bi .add (.lit (.int 1)) (.bi .mul (.lit (.int 2)) (.var 5))) .nil))) (.lit (.int 7)))) (.seq (.set (.nm 7) (.call 28 (.cons (.var 0) (.cons (.bi .add (.lit (.int 2)) (.bi .mul (.lit (.int 2)) (.var 5))) .nil)))) b12) from rfl]
    simp! only [if_pos mo,e1,e2,c1,c2]
  obtain ⟨σ2,g2,d2,X2⟩:=qLi (B:=B) (n:=n) X1 (by omega) (by omega)
  rcases X2 with ⟨hlt,X2⟩ | ⟨_,X2⟩
  · obtain ⟨σ3,g3,d3,X3⟩:=y_fin (B:=B) (n:=n) X2
    have X3':=X3
    obtain ⟨w,e,te,a,sp,kvs,k,s,c,l,q0,es,ih,dn,x5,x8,x9,x10,x11,x12,rfl,S,lw,lk⟩:=X3
    have q6:(w0 % 7 == 6)=false:=by simp;omega
    refine ⟨_,g3,pre _ _ ?_,_,_,X3'⟩
    rw [d2,d3]
    simp! only [qBI,q6,qED,show ¬ (2<w0 % 7) by omega]
  · obtain ⟨σ3,g3,d3,X3⟩:=y_fin (B:=B) (n:=n) X2
    obtain ⟨σ4,g4,d4,X4⟩:=qNa (B:=B) (n:=n) X3 hm hB (by omega)
    refine ⟨σ4,g4,pre _ _ ?_,_,_,X4⟩
    rw [d2,d3,d4]
end
theorem qOR (w:Tx) (e:Bool) (s a c:Nat) (es:Bool):psi w e s a c es≤2*w.length+2:=by
 unfold psi
 have h1:(if (e&&!es)=true then 1 else 0)≤1:=by split <;> omega
 have h2:(if c=due w e then 0 else 1)≤1:=by split <;> omega
 omega
theorem qJ7 {w:Tx} {e:Bool} {s a c:Nat} {es:Bool} (h:psi w e s a c es≤0):w.length≤a∧c=due w e:=by
 unfold psi at h
 refine ⟨by omega,?_⟩
 by_cases z:c=due w e
 ·exact z
 ·rw [if_neg z] at h;omega
noncomputable def ev7 (w:Tx) (e:Bool) (rd left:Nat) (x5 x6 x7 x8 x9 x10 x11 x12:Option D):Fy.Env:=[some (.ref 0),some (.ref 1),some (.ref 2),some (.str w),some (.bl e),x5,x6,x7,x8,x9,x10,x11,x12,some (.str (w.take rd)),some (.int (due w e)),some (.int left)]
theorem qLx {w:Tx} {rd:Nat} (h:rd≤w.length):(w.take rd == w)=decide (rd=w.length):=by
 rw [Bool.eq_iff_iff,beq_iff_eq,decide_eq_true_eq]
 constructor
 ·intro z
  have:=congrArg List.length z
  rw [List.length_take] at this
  omega
 ·intro z
  rw [z,List.take_length]
section
variable {B n:Nat} {ns:List Int} {room m:Nat} {w:Tx} {e:Bool} (x5 x6 x7 x8 x9 x10 x11 x12:Option D)
theorem qNc {g:AH} {te:Option Nat} {rd a:Nat} {sp:SP} {kvs:List (Ky × D)} {k s c l:Nat} {q0:SP} {es ih dn:Bool} (S:S7 ns g room m w e te rd a sp kvs k s c l q0 es ih dn) (left:Nat) (F:Nat→List D→M D) :
    denT F qC6 (ev7 w e rd left x5 x6 x7 x8 x9 x10 x11 x12) g=.ok (decide (0<left)&&!(decide (rd=w.length)&&(decide (c=due w e)&&ih))) g:=by
  have le:=S.T.iv.le
  have ra:=S.T.ra
  have q1:=qLx (w:=w) (rd:=rd) (by omega)
  have q2:((c:Int) == ((due w e:Nat):Int))=decide (c=due w e):=qDL _ _
  have q3:decide ((0:Int)<(left:Int))=decide (0<left):=qBP 0 _
  unfold ev7
  simp! only [qC6,q3]
  by_cases z:0<left
  · simp! only [z,q1]
    by_cases z1:rd=w.length
    · simp! only [z1,S.G,qDT,q2]
      by_cases z2:c=due w e
      · simp! only [z2,S.G,qFF,Bool.true_and]
      · simp! only [z2,Bool.true_and,Bool.false_and]
    · simp! only [z1,Bool.true_and,Bool.false_and]
  · simp! only [z,Bool.false_and]
theorem qLB (hm:1≤m∧m≤40) (hw:w.length≤900) (hB:1000≤B) (hr:1≤room∧room≤40):∀ (f left:Nat) (g:AH) (te:Option Nat) (rd a:Nat) (sp:SP) (kvs:List (Ky × D)) (k s c l:Nat) (q0:SP) (es ih dn:Bool),left<f→S7 ns g room m w e te rd a sp kvs k s c l q0 es ih dn→k+4*left≤39000 →
    ((rd=w.length∧c=due w e∧ih=true)∨(ih=true∧rd=a∧l=a+room∧a≤c∧psi w e s a c es≤left)∨2*w.length+4≤left) →
    ∃ g' te' rd' a' sp' kvs' k' s' c' l' q1 es' ih' dn' left',qBV (denT (callN fns B (n+7)) qC6) (denS (callN fns B (n+7)) B qFT) f (ev7 w e rd left x5 x6 x7 x8 x9 x10 x11 x12) g=.nx (ev7 w e rd' left' x5 x6 x7 x8 x9 x10 x11 x12) g'∧S7 ns g' room m w e te' rd' a' sp' kvs' k' s' c' l' q1 es' ih' dn'∧rd'=w.length∧c'=due w e∧ih'=true
  | 0,left,g,te,rd,a,sp,kvs,k,s,c,l,q0,es,ih,dn,hf,_,_,_=>by omega
  | f+1,left,g,te,rd,a,sp,kvs,k,s,c,l,q0,es,ih,dn,hf,S,hk,J=>by
    have le:=S.T.iv.le
    have ra:=S.T.ra
    unfold qBV
    rw [qNc x5 x6 x7 x8 x9 x10 x11 x12 S left]
    by_cases fin:rd=w.length∧c=due w e∧ih=true
    · have z:(decide (0<left)&&!(decide (rd=w.length)&&(decide (c=due w e)&&ih)))=false:=by
        rw [decide_eq_true fin.1,decide_eq_true fin.2.1,fin.2.2]
        cases decide (0<left) <;> rfl
      rw [z]
      exact ⟨g,te,rd,a,sp,kvs,k,s,c,l,q0,es,ih,dn,left,rfl,S,fin⟩
    · have hl:0<left:=by
        by_cases z:0<left
        · exact z
        · exfalso
          rcases J with J | ⟨j1,j2,_,_,j5⟩ | J
          · exact fin J
          · obtain ⟨y1,y2⟩:=qJ7 (Nat.le_trans j5 (by omega))
            exact fin ⟨by omega,y2,j1⟩
          · omega
      have z:(decide (0<left)&&!(decide (rd=w.length)&&(decide (c=due w e)&&ih)))=true:=by
        rw [decide_eq_true hl,Bool.true_and]
        cases q:(decide (rd=w.length)&&(decide (c=due w e)&&ih)) with
        | false=>rfl
        | true =>
          obtain ⟨y1,y2⟩:=Bool.and_eq_true_iff.mp q
          obtain ⟨y3,y4⟩:=Bool.and_eq_true_iff.mp y2
          exact absurd ⟨of_decide_eq_true y1,of_decide_eq_true y3,y4⟩ fin
      rw [z]
      obtain ⟨g1,te1,a1,sp1,kvs1,k1,s1,c1,l1,q1,es1,ih1,dn1,e1,S1,hk1,hra,P1⟩:=qMj (B:=B) (n:=n) S hm hw hB hr (by omega)
      obtain ⟨t,ht⟩:∃ t,left=t+1:=⟨left-1,by omega⟩
      have le1:=S1.T.iv.le
      have ta:w.take rd++(w.drop rd).take (a1-rd)=w.take a1:=by rw [← List.take_add,show rd+(a1-rd)=a1 by omega]
      have tl:(w.take rd).length+((w.drop rd).take (a1-rd)).length≤16777216:=by rw [List.length_take,List.length_take,List.length_drop];omega
      obtain ⟨g',te',rd',a',sp',kvs',k',s',c',l',q2,es',ih',dn',left',e2,S2,fin2⟩:=qLB hm hw hB hr f t g1 te1 a1 a1 sp1 kvs1 k1 s1 c1 l1 q1 es1 ih1 dn1 (by omega) S1 (by omega) (by
        rcases P1 with ⟨p1,p2,p3,p4⟩ | ⟨p1,p2,p3⟩
        · right;left
          refine ⟨p1,rfl,p2,p3,?_⟩
          rcases J with J | ⟨j1,j2,j3,j4,j5⟩ | J
          · exact absurd J fin
          · have:=p4 j1 j3 j4 (fun y=>fin ⟨by omega,y.2,j1⟩)
            omega
          · have:=qOR w e s1 a1 c1 es1
            omega
        · exact .inl ⟨p1,p2,p3⟩)
      refine ⟨g',te',rd',a',sp',kvs',k',s',c',l',q2,es',ih',dn',left',?_,S2,fin2⟩
      rw [← e2]
      have es1:(left:Int)-1=(t:Int):=by omega
      unfold ev7
      rw [← ta]
      simp! only [qFT,e1,if_pos tl,es1]
end
theorem law_true (_B n:Nat) (ns:List Int) (hz:ns.length≤63):∃ h',callN fns 20000 (n+8) i_law [.ref 0] [.rol (ns.map .int)]=.ok (.bl true) h':=by
 rw [c_law]
 have gs:getL [.rol (ns.map .int)] 0=some (ns.map .int):=rfl
 have c0:=fun (h:AH) (hh:getL h 0=some (ns.map .int))=>qDq 20000 (n+6) h 0 ns 0 hh
 rw [show D.int ((0:Nat):Int)=D.int 0 from rfl] at c0
 generalize ns.getD 0 0=cell at c0
 have c1:=c0 _ gs
 obtain ⟨room,hr,hr2⟩:∃ room:Nat,1+cell % 40=(room:Int)∧(1≤room∧room≤40):=⟨(1+cell % 40).toNat,by omega,by omega,by omega⟩
 obtain ⟨m,hm,hm2⟩:∃ m:Nat,1+cell / 40 % 40=(m:Int)∧(1≤m∧m≤40):=⟨(1+cell / 40 % 40).toNat,by omega,by omega,by omega⟩
 have c2:=c0 [.rol (ns.map .int),.ins qAD (giv m [] 0 0 1 [] false false false false)] rfl
 have k1:=qMn 20000 (n+6) [.rol (ns.map .int)] m
 have k2:=m_mk 20000 (n+5) [.rol (ns.map .int),.ins qAD (giv m [] 0 0 1 [] false false false false)] room
 simp only [List.length_cons,List.length_nil,List.cons_append,List.nil_append,Nat.reduceAdd,Nat.zero_add] at k1 k2
 obtain ⟨t,ht,ht2⟩:∃ t:Nat,(if (ns.length:Int) / 2<24 then (ns.length:Int) / 2 else 24)=(t:Int)∧t≤24:=by
  by_cases q:(ns.length:Int) / 2<24
  ·rw [if_pos q];exact ⟨ns.length / 2,by omega,by omega⟩
  ·rw [if_neg q];exact ⟨24,rfl,Nat.le_refl _⟩
 have sm:qAI (t:Int):=by unfold qAI;omega
 have f2:(0:Int)<2∧(2:Int)<1073741824:=⟨by omega,by omega⟩
 have f40:(0:Int)<40∧(40:Int)<1073741824:=⟨by omega,by omega⟩
 have g0:∀ x:AH,getL (.rol (ns.map .int)::x) 0=some (ns.map .int):=fun _=>rfl
 have start:SY ns room m 0 none none [some (.ref 0),some (.ref 1),some (.ref 2),some (.str []),some (.bl false),none,none,none,none,none,none,none,none,none,none,none] [.rol (ns.map .int),.ins qAD (giv m [] 0 0 1 [] false false false false),.ins qAO (tk room 3 .non [] 0 room false),.ins qBg (fl [] [] 4),.dct []]:=by
  refine ⟨[],false,none,0,[],[],0,0,0,1,[],false,false,false,none,none,none,none,none,none,rfl,⟨rfl,rfl,⟨?_,⟨rfl,rfl⟩,⟨Nat.le_refl _,trivial,(fun x hx=>nomatch hx),(fun x=>rfl),Nat.le_refl _,Nat.le_refl _⟩,Nat.le_refl _,fun x hx=>?_⟩,⟨trivial,by omega,Nat.le_refl _,(fun z=>nomatch z),rfl,(fun x hx=>nomatch hx),rfl,.inl (Nat.le_refl _),(fun j z=>nomatch z),by omega⟩⟩,Nat.le_refl _,Nat.le_refl _⟩
  ·show some (O.ins qAO (tk room 3 .non [] 0 room false))=some (O.ins qAO (tk room 3 .non [] ((0:Nat):Int) ((0+room:Nat):Int) _))
   rw [Nat.zero_add];rfl
  ·unfold pr at hx
   rw [decide_eq_false (by omega)] at hx
   exact nomatch hx
 obtain ⟨σ',g',LL,x6,x7,X⟩:=qCz (fun k σ g=>∃ x6 x7,SY ns room m k x6 x7 σ g) (qAR (TG.nm 5) (denS (callN fns 20000 (n+7)) 20000 qC9)) (qAi 0 t) 0 _ _ ⟨none,none,start⟩ (fun j x σ g hj ⟨x6,x7,X⟩=>by
  obtain ⟨hjm,rfl⟩:=qDk hj
  rw [Nat.zero_add] at *
  exact qNZ hm2 (by omega) (by omega) x6 x7 X)
 rw [qCp,Nat.zero_add] at X
 obtain ⟨w,e,te,a,sp,kvs,k,s,c,l,q0,es,ih,dn,x5,x8,x9,x10,x11,x12,rfl,S,lw,lk⟩:=X
 obtain ⟨g2,te2,rd2,a2,sp2,kvs2,k2',s2,c2',l2,q2,es2,ih2,dn2,left2,L2,S2,fin1,fin2,fin3⟩:=qLB (n:=n) x5 x6 x7 x8 x9 x10 x11 x12 hm2 (show w.length≤900 by omega) (show 1000≤20000 by omega) hr2 20000 (2*w.length+9) g' te 0 a sp kvs k s c l q0 es ih dn (by omega) S (by omega) (.inr (.inr (by omega)))
 have hdn:dn2=e:=by
  rw [S2.Q.dn,fin2]
  unfold due
  cases e with
  | true=>rw [if_pos rfl,decide_eq_true rfl];rfl
  | false=>rfl
 have htd:decide (te2=some rd2)=e:=by
  have le2:=S2.T.iv.le
  cases e with
  | true =>
   unfold due at fin2
   rw [if_pos rfl] at fin2
   rcases S2.Q.ca with z | ⟨z1,z2⟩
   ·omega
   ·have:=(S2.Q.tE a2 z2).2
    exact decide_eq_true (by rw [z2,fin1,this])
  | false =>
   cases te2 with
   | none=>rfl
   | some j=>exact nomatch (S2.Q.tE j rfl).1
 subst fin1 fin3
 have G2:=S2.G
 have T2:=S2.T.aq
 rw [hdn] at G2
 rw [htd] at T2
 have m2:mulOk (2:Int) (w.length:Int):=qGR (by omega)
 have i2:(2:Int)*(w.length:Int)+9=((2*w.length+9:Nat):Int):=by omega
 have du:(w.length:Int)+b2i e=((due w e:Nat):Int):=by
  unfold due
  cases e with
  | true=>rfl
  | false=>rfl
 have du2:(w.length:Int)+(if e=true then 1 else 0)=((due w e:Nat):Int):=du
 have qc:((c2':Int) == ((due w e:Nat):Int))=true:=by rw [fin2];exact beq_self_eq_true _
 have tr:callN fns 20000 (n+7) qGa [.bl e,.bl e] g2=.ok (.bl true) g2:=by
  rw [qGh]
  have ee:(e == e)=true:=beq_self_eq_true _
  have tb:(Ty.bool == Ty.bool)=true:=rfl
  simp! only [qBv,tb,ee]
 refine ⟨g2,?_⟩
 simp only [ev7,List.take_zero,List.take_length] at L2
 simp! only [b_law,c1,if_pos f40,hm,k1,c2,if_pos (show (0:Int)<40 by omega),hr,k2,g0,List.length_map,if_pos f2,ht,if_pos sm,Int.toNat_natCast,LL,qHV,if_pos (show w.length≤16777216 by omega),du,du2,if_pos m2,i2,L2,qHW,G2,qDT,qc,qFF,qHX,qHK,tr,T2,qLw]
noncomputable def top (i:Nat):Stmt:=PySem.Challenge.pw_ferry_k27_whole_all_comes.main.body.getD i (.Pass ⟨0,0,0,0⟩)
noncomputable def qAq (i j:Nat):Stmt:=match top i with
 | .ClassDef _ _ _ b _ _ _ _ _ _ _=>b.getD j (.Pass ⟨0,0,0,0⟩)
 | s=>s
noncomputable def G:List (Str × GK):=[(("law":Str),GK.fn 32),(("BEGIN":Str),GK.con (.int 0)),(("END":Str),GK.con (.int 1)),(("Ended":Str),GK.exc 298204816740),(("FIRST_LIMIT":Str),GK.con (.int 1)),(("Giver":Str),GK.cls 306712044914 6),(("MOST_SPANS":Str),GK.con (.int 8)),(("MOST_TAKEN_AT_ONCE":Str),GK.con (.int 200)),(("MOST_WRITTEN":Str),GK.con (.int 2000)),(("MOST_WRITTEN_AT_ONCE":Str),GK.con (.int 200)),(("NoSpan":Str),GK.exc 86240048210286),(("Slate":Str),GK.cls 358300611685 16),(("Taker":Str),GK.cls 362411681138 20),(("TooMuch":Str),GK.exc 23766421875286888),(("_law_cell_at":Str),GK.fn 28),(("_law_hand":Str),GK.fn 30),(("_law_round":Str),GK.fn 31),(("_law_text":Str),GK.fn 29),(("_law_truth":Str),GK.fn 27),(("added":Str),GK.fn 3),(("bool":Str),GK.blt),(("check_begin":Str),GK.fn 1),(("check_stretch":Str),GK.fn 2),(("count_below":Str),GK.fn 0),(("cut":Str),GK.fn 4),(("enumerate":Str),GK.blt),(("holes":Str),GK.fn 5),(("int":Str),GK.blt),(("isinstance":Str),GK.blt),(("len":Str),GK.blt),(("max":Str),GK.blt),(("min":Str),GK.blt),(("range":Str),GK.blt),(("tuple":Str),GK.blt)]
noncomputable def xs:List (Nat × List Nat):=[]
noncomputable def xl:List Nat:=[332437021739526678278002,86240048210286,298204816740,23766421875286888]
theorem qE3:nmOf 332437021739526678278002=("FerryError":Str):=by kernel_rfl
theorem qFk:nmOf 86240048210286=("NoSpan":Str):=by kernel_rfl
theorem qHA:nmOf 298204816740=("Ended":Str):=by kernel_rfl
theorem qEd:nmOf 23766421875286888=("TooMuch":Str):=by kernel_rfl
noncomputable def Mt:List (Str × Nat × List (Nat × Nat)):=[("__init__",6872327479327219551,[(306712044914,6),(358300611685,16),(362411681138,20)]),("write",513020621925,[(306712044914,7)]),("finish",112603010003816,[(306712044914,8)]),("answered",7020675825757480292,[(306712044914,9)]),("known_with",507330387524976831460456,[(306712044914,10)]),("next_parts",521332113934423763874931,[(306712044914,11)]),("next_part",2036453570056342827636,[(306712044914,12)]),("again",418346264942,[(306712044914,13)]),("parts_again",135859872665656628713974126,[(306712044914,14)]),("parts_of_holes",2279350429444218050288784390251891,[(306712044914,15)]),("put",7370100,[(358300611685,17),(362411681138,21)]),("draw_in",28273260611201390,[(358300611685,18)]),("sign",1936287598,[(358300611685,19)]),("ends",1701733491,[(362411681138,22)]),("reach",491327153000,[(362411681138,23)]),("take",1952541541,[(362411681138,24)]),("see_done",8315163747390811749,[(362411681138,25)]),("answer",107127011501426,[(362411681138,26)])]
noncomputable def At:List (Str × Nat × List Nat):=[("most",1836020596,[306712044914,358300611685,362411681138]),("text",1952807028,[306712044914,358300611685,362411681138]),("sent",1936027252,[306712044914,358300611685,362411681138]),("come",1668246885,[306712044914,358300611685,362411681138]),("limit",465625246068,[306712044914,358300611685,362411681138]),("spans",495806672499,[306712044914,358300611685,362411681138]),("is_ended",7598521885552567652,[306712044914,358300611685,362411681138]),("is_end_sent",127482042954642681340718708,[306712044914,358300611685,362411681138]),("is_heard",7598521898286281316,[306712044914,358300611685,362411681138]),("is_done",29681726098730597,[306712044914,358300611685,362411681138]),("behind",108187682958948,[306712044914,358300611685,362411681138]),("room",1919905645,[306712044914,358300611685,362411681138]),("slate",495739565157,[306712044914,358300611685,362411681138]),("told_end",8390043809167535716,[306712044914,358300611685,362411681138]),("read",1919246692,[306712044914,358300611685,362411681138])]
theorem qAF:nmOf 306712044914=("Giver":Str):=by kernel_rfl
theorem qAM:nmOf 358300611685=("Slate":Str):=by kernel_rfl
theorem qAJ:nmOf 362411681138=("Taker":Str):=by kernel_rfl
theorem nma_most:nmOf 1836020596=("most":Str):=by kernel_rfl
theorem nma_text:nmOf 1952807028=("text":Str):=by kernel_rfl
theorem nma_sent:nmOf 1936027252=("sent":Str):=by kernel_rfl
theorem nma_come:nmOf 1668246885=("come":Str):=by kernel_rfl
theorem nma_limit:nmOf 465625246068=("limit":Str):=by kernel_rfl
theorem nma_spans:nmOf 495806672499=("spans":Str):=by kernel_rfl
theorem nma_is_ended:nmOf 7598521885552567652=("is_ended":Str):=by kernel_rfl
theorem nma_is_end_sent:nmOf 127482042954642681340718708=("is_end_sent":Str):=by kernel_rfl
theorem nma_is_heard:nmOf 7598521898286281316=("is_heard":Str):=by kernel_rfl
theorem nma_is_done:nmOf 29681726098730597=("is_done":Str):=by kernel_rfl
theorem nma_behind:nmOf 108187682958948=("behind":Str):=by kernel_rfl
theorem nma_room:nmOf 1919905645=("room":Str):=by kernel_rfl
theorem nma_slate:nmOf 495739565157=("slate":Str):=by kernel_rfl
theorem nma_told_end:nmOf 8390043809167535716=("told_end":Str):=by kernel_rfl
theorem nma_read:nmOf 1919246692=("read":Str):=by kernel_rfl
theorem nma___init__:nmOf 6872327479327219551=("__init__":Str):=by kernel_rfl
theorem nma_write:nmOf 513020621925=("write":Str):=by kernel_rfl
theorem nma_finish:nmOf 112603010003816=("finish":Str):=by kernel_rfl
theorem nma_answered:nmOf 7020675825757480292=("answered":Str):=by kernel_rfl
theorem nma_known_with:nmOf 507330387524976831460456=("known_with":Str):=by kernel_rfl
theorem nma_next_parts:nmOf 521332113934423763874931=("next_parts":Str):=by kernel_rfl
theorem nma_next_part:nmOf 2036453570056342827636=("next_part":Str):=by kernel_rfl
theorem nma_again:nmOf 418346264942=("again":Str):=by kernel_rfl
theorem nma_parts_again:nmOf 135859872665656628713974126=("parts_again":Str):=by kernel_rfl
theorem nma_parts_of_holes:nmOf 2279350429444218050288784390251891=("parts_of_holes":Str):=by kernel_rfl
theorem nma_put:nmOf 7370100=("put":Str):=by kernel_rfl
theorem nma_draw_in:nmOf 28273260611201390=("draw_in":Str):=by kernel_rfl
theorem nma_sign:nmOf 1936287598=("sign":Str):=by kernel_rfl
theorem nma_ends:nmOf 1701733491=("ends":Str):=by kernel_rfl
theorem nma_reach:nmOf 491327153000=("reach":Str):=by kernel_rfl
theorem nma_take:nmOf 1952541541=("take":Str):=by kernel_rfl
theorem nma_see_done:nmOf 8315163747390811749=("see_done":Str):=by kernel_rfl
theorem nma_answer:nmOf 107127011501426=("answer":Str):=by kernel_rfl
noncomputable def d_count_below:Df:=⟨"count_below","count_below",top 8,["spans","side","place","low","high","middle"],["spans","side","place"]⟩
theorem qEL:DfOk G xs Mt At d_count_below ⟨3,6,qBJ⟩:=⟨⟨rfl,rfl,rfl,by decide +kernel,rfl,by decide +kernel,by decide +kernel⟩,by kernel_rfl,rfl,rfl⟩
noncomputable def d_check_begin:Df:=⟨"check_begin","check_begin",top 9,["begin"],["begin"]⟩
theorem qEM:DfOk G xs Mt At d_check_begin ⟨1,1,qBK⟩:=⟨⟨rfl,rfl,rfl,by decide +kernel,rfl,by decide +kernel,by decide +kernel⟩,by kernel_rfl,rfl,rfl⟩
noncomputable def d_check_stretch:Df:=⟨"check_stretch","check_stretch",top 10,["begin","end"],["begin","end"]⟩
theorem qDW:DfOk G xs Mt At d_check_stretch ⟨2,2,qAV⟩:=⟨⟨rfl,rfl,rfl,by decide +kernel,rfl,by decide +kernel,by decide +kernel⟩,by kernel_rfl,rfl,rfl⟩
noncomputable def d_added:Df:=⟨"added","added",top 11,["spans","begin","end","first","behind"],["spans","begin","end"]⟩
theorem qKB:DfOk G xs Mt At d_added ⟨3,5,qEJ⟩:=⟨⟨rfl,rfl,rfl,by decide +kernel,rfl,by decide +kernel,by decide +kernel⟩,by kernel_rfl,rfl,rfl⟩
noncomputable def d_cut:Df:=⟨"cut","cut",top 12,["spans","begin","rest"],["spans","begin"]⟩
theorem qOc:DfOk G xs Mt At d_cut ⟨2,3,b_cut⟩:=⟨⟨rfl,rfl,rfl,by decide +kernel,rfl,by decide +kernel,by decide +kernel⟩,by kernel_rfl,rfl,rfl⟩
noncomputable def d_holes:Df:=⟨"holes","holes",top 13,["spans","begin","end","found","place","span"],["spans","begin","end"]⟩
theorem qKA:DfOk G xs Mt At d_holes ⟨3,6,qFU⟩:=⟨⟨rfl,rfl,rfl,by decide +kernel,rfl,by decide +kernel,by decide +kernel⟩,by kernel_rfl,rfl,rfl⟩
noncomputable def d_Giver_init:Df:=⟨"__init__","Giver.__init__",qAq 18 0,["self","most"],["self","most"]⟩
theorem qE2:DfOk G xs Mt At d_Giver_init ⟨2,2,qBf⟩:=⟨⟨rfl,rfl,rfl,by decide +kernel,rfl,by decide +kernel,by decide +kernel⟩,by kernel_rfl,rfl,rfl⟩
noncomputable def d_Giver_write:Df:=⟨"write","Giver.write",qAq 18 1,["self","signs"],["self","signs"]⟩
theorem qEO:DfOk G xs Mt At d_Giver_write ⟨2,2,qBN⟩:=⟨⟨rfl,rfl,rfl,by decide +kernel,rfl,by decide +kernel,by decide +kernel⟩,by kernel_rfl,rfl,rfl⟩
noncomputable def d_Giver_finish:Df:=⟨"finish","Giver.finish",qAq 18 2,["self"],["self"]⟩
theorem qDo:DfOk G xs Mt At d_Giver_finish ⟨1,1,qA4⟩:=⟨⟨rfl,rfl,rfl,by decide +kernel,rfl,by decide +kernel,by decide +kernel⟩,by kernel_rfl,rfl,rfl⟩
noncomputable def d_Giver_answered:Df:=⟨"answered","Giver.answered",qAq 18 3,["self","come","limit","spans","most_come"],["self","come","limit","spans"]⟩
theorem qDF:DfOk G xs Mt At d_Giver_answered ⟨4,5,qAG⟩:=⟨⟨rfl,rfl,rfl,by decide +kernel,rfl,by decide +kernel,by decide +kernel⟩,by kernel_rfl,rfl,rfl⟩
noncomputable def d_Giver_known_with:Df:=⟨"known_with","Giver.known_with",qAq 18 4,["self","spans","known","span","begin","end"],["self","spans"]⟩
theorem qCg:DfOk G xs Mt At d_Giver_known_with ⟨2,6,qAh⟩:=⟨⟨rfl,rfl,rfl,by decide +kernel,rfl,by decide +kernel,by decide +kernel⟩,by kernel_rfl,rfl,rfl⟩
noncomputable def d_Giver_next_parts:Df:=⟨"next_parts","Giver.next_parts",qAq 18 5,["self","count","parts","part"],["self","count"]⟩
theorem qCf:DfOk G xs Mt At d_Giver_next_parts ⟨2,4,qAg⟩:=⟨⟨rfl,rfl,rfl,by decide +kernel,rfl,by decide +kernel,by decide +kernel⟩,by kernel_rfl,rfl,rfl⟩
noncomputable def d_Giver_next_part:Df:=⟨"next_part","Giver.next_part",qAq 18 6,["self","at","end"],["self"]⟩
theorem qCr:DfOk G xs Mt At d_Giver_next_part ⟨1,3,qAY⟩:=⟨⟨rfl,rfl,rfl,by decide +kernel,rfl,by decide +kernel,by decide +kernel⟩,by kernel_rfl,rfl,rfl⟩
noncomputable def d_Giver_again:Df:=⟨"again","Giver.again",qAq 18 7,["self","count"],["self","count"]⟩
theorem qEP:DfOk G xs Mt At d_Giver_again ⟨2,2,qBO⟩:=⟨⟨rfl,rfl,rfl,by decide +kernel,rfl,by decide +kernel,by decide +kernel⟩,by kernel_rfl,rfl,rfl⟩
noncomputable def d_Giver_parts_again:Df:=⟨"parts_again","Giver.parts_again",qAq 18 8,["self","parts"],["self"]⟩
theorem qCW:DfOk G xs Mt At d_Giver_parts_again ⟨1,2,qAb⟩:=⟨⟨rfl,rfl,rfl,by decide +kernel,rfl,by decide +kernel,by decide +kernel⟩,by kernel_rfl,rfl,rfl⟩
noncomputable def d_Giver_parts_of_holes:Df:=⟨"parts_of_holes","Giver.parts_of_holes",qAq 18 9,["self","parts","hole","at"],["self"]⟩
theorem qBq:DfOk G xs Mt At d_Giver_parts_of_holes ⟨1,4,qAQ⟩:=⟨⟨rfl,rfl,rfl,by decide +kernel,rfl,by decide +kernel,by decide +kernel⟩,by kernel_rfl,rfl,rfl⟩
noncomputable def d_Slate_init:Df:=⟨"__init__","Slate.__init__",qAq 21 0,["self"],["self"]⟩
theorem qE1:DfOk G xs Mt At d_Slate_init ⟨1,1,qBe⟩:=⟨⟨rfl,rfl,rfl,by decide +kernel,rfl,by decide +kernel,by decide +kernel⟩,by kernel_rfl,rfl,rfl⟩
noncomputable def d_Slate_put:Df:=⟨"put","Slate.put",qAq 21 1,["self","at","signs","begin","end","place"],["self","at","signs"]⟩
theorem qFj:DfOk G xs Mt At d_Slate_put ⟨3,6,qA3⟩:=⟨⟨rfl,rfl,rfl,by decide +kernel,rfl,by decide +kernel,by decide +kernel⟩,by kernel_rfl,rfl,rfl⟩
noncomputable def d_Slate_draw_in:Df:=⟨"draw_in","Slate.draw_in",qAq 21 2,["self","first","grown","place"],["self"]⟩
theorem qDX:DfOk G xs Mt At d_Slate_draw_in ⟨1,4,qAj⟩:=⟨⟨rfl,rfl,rfl,by decide +kernel,rfl,by decide +kernel,by decide +kernel⟩,by kernel_rfl,rfl,rfl⟩
noncomputable def d_Slate_sign:Df:=⟨"sign","Slate.sign",qAq 21 3,["self","place"],["self","place"]⟩
theorem qE0:DfOk G xs Mt At d_Slate_sign ⟨2,2,qCO⟩:=⟨⟨rfl,rfl,rfl,by decide +kernel,rfl,by decide +kernel,by decide +kernel⟩,by kernel_rfl,rfl,rfl⟩
noncomputable def d_Taker_init:Df:=⟨"__init__","Taker.__init__",qAq 24 0,["self","room"],["self","room"]⟩
theorem qEy:DfOk G xs Mt At d_Taker_init ⟨2,2,qBd⟩:=⟨⟨rfl,rfl,rfl,by decide +kernel,rfl,by decide +kernel,by decide +kernel⟩,by kernel_rfl,rfl,rfl⟩
noncomputable def d_Taker_put:Df:=⟨"put","Taker.put",qAq 24 1,["self","at","signs","bound"],["self","at","signs"]⟩
theorem qFi:DfOk G xs Mt At d_Taker_put ⟨3,4,qBR⟩:=⟨⟨rfl,rfl,rfl,by decide +kernel,rfl,by decide +kernel,by decide +kernel⟩,by kernel_rfl,rfl,rfl⟩
noncomputable def d_Taker_ends:Df:=⟨"ends","Taker.ends",qAq 24 2,["self","at"],["self","at"]⟩
theorem qEz:DfOk G xs Mt At d_Taker_ends ⟨2,2,qA5⟩:=⟨⟨rfl,rfl,rfl,by decide +kernel,rfl,by decide +kernel,by decide +kernel⟩,by kernel_rfl,rfl,rfl⟩
noncomputable def d_Taker_reach:Df:=⟨"reach","Taker.reach",qAq 24 3,["self","spans"],["self"]⟩
theorem qEN:DfOk G xs Mt At d_Taker_reach ⟨1,2,qAx⟩:=⟨⟨rfl,rfl,rfl,by decide +kernel,rfl,by decide +kernel,by decide +kernel⟩,by kernel_rfl,rfl,rfl⟩
noncomputable def d_Taker_take:Df:=⟨"take","Taker.take",qAq 24 4,["self","count","signs"],["self","count"]⟩
theorem qEx:DfOk G xs Mt At d_Taker_take ⟨2,3,qBc⟩:=⟨⟨rfl,rfl,rfl,by decide +kernel,rfl,by decide +kernel,by decide +kernel⟩,by kernel_rfl,rfl,rfl⟩
noncomputable def d_Taker_see_done:Df:=⟨"see_done","Taker.see_done",qAq 24 5,["self"],["self"]⟩
theorem qDE:DfOk G xs Mt At d_Taker_see_done ⟨1,1,qAd⟩:=⟨⟨rfl,rfl,rfl,by decide +kernel,rfl,by decide +kernel,by decide +kernel⟩,by kernel_rfl,rfl,rfl⟩
noncomputable def d_Taker_answer:Df:=⟨"answer","Taker.answer",qAq 24 6,["self","come"],["self"]⟩
theorem qDn:DfOk G xs Mt At d_Taker_answer ⟨1,2,qAe⟩:=⟨⟨rfl,rfl,rfl,by decide +kernel,rfl,by decide +kernel,by decide +kernel⟩,by kernel_rfl,rfl,rfl⟩
noncomputable def d_law_truth:Df:=⟨"_law_truth","_law_truth",top 26,["_law_found","_law_due"],["_law_found","_law_due"]⟩
theorem qFg:DfOk G xs Mt At d_law_truth ⟨2,2,qBv⟩:=⟨⟨rfl,rfl,rfl,by decide +kernel,rfl,by decide +kernel,by decide +kernel⟩,by kernel_rfl,rfl,rfl⟩
noncomputable def d_law_cell_at:Df:=⟨"_law_cell_at","_law_cell_at",top 27,["_law_script","_law_k"],["_law_script","_law_k"]⟩
theorem qEK:DfOk G xs Mt At d_law_cell_at ⟨2,2,qBH⟩:=⟨⟨rfl,rfl,rfl,by decide +kernel,rfl,by decide +kernel,by decide +kernel⟩,by kernel_rfl,rfl,rfl⟩
noncomputable def d_law_text:Df:=⟨"_law_text","_law_text",top 28,["_law_cell","_law_size","_law_some"],["_law_cell","_law_size"]⟩
theorem qGN:DfOk G xs Mt At d_law_text ⟨2,3,qCV⟩:=⟨⟨rfl,rfl,rfl,by decide +kernel,rfl,by decide +kernel,by decide +kernel⟩,by kernel_rfl,rfl,rfl⟩
noncomputable def d_law_hand:Df:=⟨"_law_hand","_law_hand",top 29,["_law_taker","_law_part"],["_law_taker","_law_part"]⟩
theorem qGO:DfOk G xs Mt At d_law_hand ⟨2,2,qBm⟩:=⟨⟨rfl,rfl,rfl,by decide +kernel,rfl,by decide +kernel,by decide +kernel⟩,by kernel_rfl,rfl,rfl⟩
noncomputable def d_law_round:Df:=⟨"_law_round","_law_round",top 30,["_law_giver","_law_taker","_law_parts","_law_part","_law_signs","_law_told"],["_law_giver","_law_taker"]⟩
theorem qFh:DfOk G xs Mt At d_law_round ⟨2,6,qA2⟩:=⟨⟨rfl,rfl,rfl,by decide +kernel,rfl,by decide +kernel,by decide +kernel⟩,by kernel_rfl,rfl,rfl⟩
noncomputable def d_law:Df:=⟨"law","law",top 31,["_law_script","_law_giver","_law_taker","_law_text_here","_law_ended","_law_k","_law_way","_law_cell","_law_signs","_law_told","_law_parts","_law_place","_law_part","_law_had","_law_due","_law_left"],["_law_script"]⟩
theorem qOb:DfOk G xs Mt At d_law ⟨1,16,b_law⟩:=⟨⟨rfl,rfl,rfl,by decide +kernel,rfl,by decide +kernel,by decide +kernel⟩,by kernel_rfl,rfl,rfl⟩
noncomputable def ds:List Df:=[d_count_below,d_check_begin,d_check_stretch,d_added,d_cut,d_holes,d_Giver_init,d_Giver_write,d_Giver_finish,d_Giver_answered,d_Giver_known_with,d_Giver_next_parts,d_Giver_next_part,d_Giver_again,d_Giver_parts_again,d_Giver_parts_of_holes,d_Slate_init,d_Slate_put,d_Slate_draw_in,d_Slate_sign,d_Taker_init,d_Taker_put,d_Taker_ends,d_Taker_reach,d_Taker_take,d_Taker_see_done,d_Taker_answer,d_law_truth,d_law_cell_at,d_law_text,d_law_hand,d_law_round,d_law]
theorem qET:qAN d_count_below:=fun _ _ _ _ _ _=>ar3 fun _ _ _=>rfl
theorem qEU:qAN d_check_begin:=fun _ _ _ _ _ _=>ar1 fun _=>rfl
theorem qDZ:qAN d_check_stretch:=fun _ _ _ _ _ _=>ar2 fun _ _=>rfl
theorem qK9:qAN d_added:=fun _ _ _ _ _ _=>ar3 fun _ _ _=>rfl
theorem qPj:qAN d_cut:=fun _ _ _ _ _ _=>ar2 fun _ _=>rfl
theorem qK8:qAN d_holes:=fun _ _ _ _ _ _=>ar3 fun _ _ _=>rfl
theorem qC5:qAN d_Giver_init:=fun _ _ _ _ _ _=>ar2 fun _ _=>rfl
theorem qEW:qAN d_Giver_write:=fun _ _ _ _ _ _=>ar2 fun _ _=>rfl
theorem qEC:qAN d_Giver_finish:=fun _ _ _ _ _ _=>ar1 fun _=>rfl
theorem qDR:qAN d_Giver_answered:=fun _ _ _ _ _ _=>ar4 fun _ _ _ _=>rfl
theorem qCl:qAN d_Giver_known_with:=fun _ _ _ _ _ _=>ar2 fun _ _=>rfl
theorem qCk:qAN d_Giver_next_parts:=fun _ _ _ _ _ _=>ar2 fun _ _=>rfl
theorem qC4:qAN d_Giver_next_part:=fun _ _ _ _ _ _=>ar1 fun _=>rfl
theorem qEX:qAN d_Giver_again:=fun _ _ _ _ _ _=>ar2 fun _ _=>rfl
theorem qCX:qAN d_Giver_parts_again:=fun _ _ _ _ _ _=>ar1 fun _=>rfl
theorem qBu:qAN d_Giver_parts_of_holes:=fun _ _ _ _ _ _=>ar1 fun _=>rfl
theorem qC3:qAN d_Slate_init:=fun _ _ _ _ _ _=>ar1 fun _=>rfl
theorem qGB:qAN d_Slate_put:=fun _ _ _ _ _ _=>ar3 fun _ _ _=>rfl
theorem qDa:qAN d_Slate_draw_in:=fun _ _ _ _ _ _=>ar1 fun _=>rfl
theorem qFR:qAN d_Slate_sign:=fun _ _ _ _ _ _=>ar2 fun _ _=>rfl
theorem qC2:qAN d_Taker_init:=fun _ _ _ _ _ _=>ar2 fun _ _=>rfl
theorem qGA:qAN d_Taker_put:=fun _ _ _ _ _ _=>ar3 fun _ _ _=>rfl
theorem qFQ:qAN d_Taker_ends:=fun _ _ _ _ _ _=>ar2 fun _ _=>rfl
theorem qEV:qAN d_Taker_reach:=fun _ _ _ _ _ _=>ar1 fun _=>rfl
theorem qFP:qAN d_Taker_take:=fun _ _ _ _ _ _=>ar2 fun _ _=>rfl
theorem qDQ:qAN d_Taker_see_done:=fun _ _ _ _ _ _=>ar1 fun _=>rfl
theorem qEB:qAN d_Taker_answer:=fun _ _ _ _ _ _=>ar1 fun _=>rfl
theorem qF8:qAN d_law_truth:=fun _ _ _ _ _ _=>ar2 fun _ _=>rfl
theorem qES:qAN d_law_cell_at:=fun _ _ _ _ _ _=>ar2 fun _ _=>rfl
theorem qGk:qAN d_law_text:=fun _ _ _ _ _ _=>ar2 fun _ _=>rfl
theorem qGl:qAN d_law_hand:=fun _ _ _ _ _ _=>ar2 fun _ _=>rfl
theorem qF9:qAN d_law_round:=fun _ _ _ _ _ _=>ar2 fun _ _=>rfl
theorem qPi:qAN d_law:=fun _ _ _ _ _ _=>ar1 fun _=>rfl
set_option maxHeartbeats 0 in
theorem top_mk {K:PySem.W.Frag} {h:Heap} {mg:Str→Option Value} (X:K.In h) (Gm:h.Ns mainGlobals mg)
    {Q0:Addr} {Q1:Addr} {Q2:Addr} {f0:Addr} {od0 an0:Option Addr} {sl0:Array (Option Value)} {oc0 kV0 dc0 pm0 cd0 ct0:Value} {f1:Addr} {od1 an1:Option Addr} {sl1:Array (Option Value)} {oc1 kV1 dc1 pm1 cd1 ct1:Value} {f2:Addr} {od2 an2:Option Addr} {sl2:Array (Option Value)} {oc2 kV2 dc2 pm2 cd2 ct2:Value} {f3:Addr} {od3 an3:Option Addr} {sl3:Array (Option Value)} {oc3 kV3 dc3 pm3 cd3 ct3:Value} {f4:Addr} {od4 an4:Option Addr} {sl4:Array (Option Value)} {oc4 kV4 dc4 pm4 cd4 ct4:Value} {f5:Addr} {od5 an5:Option Addr} {sl5:Array (Option Value)} {oc5 kV5 dc5 pm5 cd5 ct5:Value} {f6:Addr} {od6 an6:Option Addr} {sl6:Array (Option Value)} {oc6 kV6 dc6 pm6 cd6 ct6:Value} {f7:Addr} {od7 an7:Option Addr} {sl7:Array (Option Value)} {oc7 kV7 dc7 pm7 cd7 ct7:Value} {f8:Addr} {od8 an8:Option Addr} {sl8:Array (Option Value)} {oc8 kV8 dc8 pm8 cd8 ct8:Value} {f9:Addr} {od9 an9:Option Addr} {sl9:Array (Option Value)} {oc9 kV9 dc9 pm9 cd9 ct9:Value} {f10:Addr} {od10 an10:Option Addr} {sl10:Array (Option Value)} {oc10 kV10 dc10 pm10 cd10 ct10:Value} {f11:Addr} {od11 an11:Option Addr} {sl11:Array (Option Value)} {oc11 kV11 dc11 pm11 cd11 ct11:Value} {f12:Addr} {od12 an12:Option Addr} {sl12:Array (Option Value)} {oc12 kV12 dc12 pm12 cd12 ct12:Value} {f13:Addr} {od13 an13:Option Addr} {sl13:Array (Option Value)} {oc13 kV13 dc13 pm13 cd13 ct13:Value} {f14:Addr} {od14 an14:Option Addr} {sl14:Array (Option Value)} {oc14 kV14 dc14 pm14 cd14 ct14:Value} {f15:Addr} {od15 an15:Option Addr} {sl15:Array (Option Value)} {oc15 kV15 dc15 pm15 cd15 ct15:Value} {f16:Addr} {od16 an16:Option Addr} {sl16:Array (Option Value)} {oc16 kV16 dc16 pm16 cd16 ct16:Value} {f17:Addr} {od17 an17:Option Addr} {sl17:Array (Option Value)} {oc17 kV17 dc17 pm17 cd17 ct17:Value} {f18:Addr} {od18 an18:Option Addr} {sl18:Array (Option Value)} {oc18 kV18 dc18 pm18 cd18 ct18:Value} {f19:Addr} {od19 an19:Option Addr} {sl19:Array (Option Value)} {oc19 kV19 dc19 pm19 cd19 ct19:Value} {f20:Addr} {od20 an20:Option Addr} {sl20:Array (Option Value)} {oc20 kV20 dc20 pm20 cd20 ct20:Value} {f21:Addr} {od21 an21:Option Addr} {sl21:Array (Option Value)} {oc21 kV21 dc21 pm21 cd21 ct21:Value} {f22:Addr} {od22 an22:Option Addr} {sl22:Array (Option Value)} {oc22 kV22 dc22 pm22 cd22 ct22:Value} {f23:Addr} {od23 an23:Option Addr} {sl23:Array (Option Value)} {oc23 kV23 dc23 pm23 cd23 ct23:Value} {f24:Addr} {od24 an24:Option Addr} {sl24:Array (Option Value)} {oc24 kV24 dc24 pm24 cd24 ct24:Value} {f25:Addr} {od25 an25:Option Addr} {sl25:Array (Option Value)} {oc25 kV25 dc25 pm25 cd25 ct25:Value} {f26:Addr} {od26 an26:Option Addr} {sl26:Array (Option Value)} {oc26 kV26 dc26 pm26 cd26 ct26:Value} {f27:Addr} {od27 an27:Option Addr} {sl27:Array (Option Value)} {oc27 kV27 dc27 pm27 cd27 ct27:Value} {f28:Addr} {od28 an28:Option Addr} {sl28:Array (Option Value)} {oc28 kV28 dc28 pm28 cd28 ct28:Value} {f29:Addr} {od29 an29:Option Addr} {sl29:Array (Option Value)} {oc29 kV29 dc29 pm29 cd29 ct29:Value} {f30:Addr} {od30 an30:Option Addr} {sl30:Array (Option Value)} {oc30 kV30 dc30 pm30 cd30 ct30:Value} {f31:Addr} {od31 an31:Option Addr} {sl31:Array (Option Value)} {oc31 kV31 dc31 pm31 cd31 ct31:Value} {f32:Addr} {od32 an32:Option Addr} {sl32:Array (Option Value)} {oc32 kV32 dc32 pm32 cd32 ct32:Value} {C0:Addr} {C1:Addr} {C2:Addr} {C3:Addr} {t_BEGIN:Tok} {t_END:Tok} {t_FIRST_LIMIT:Tok} {t_MOST_SPANS:Tok} {t_MOST_TAKEN_AT_ONCE:Tok} {t_MOST_WRITTEN:Tok} {t_MOST_WRITTEN_AT_ONCE:Tok}
    (qa0:PySem.W.nsIn K mainGlobals "Giver"=some (some (.ref Q0))) (qpg0:PySem.W.plainGet K Q0 Str.empty=true) (qhd0:PySem.W.hasDictIn K Q0=true) (qpo0:PySem.W.plainOver K Q0=true) (qsa0:PySem.W.findIn K (.ref Q0) "__setattr__"=some (some (.builtin "object.__setattr__"))) (qmk0:PySem.W.makesIn K Q0=true) (qkp0:PySem.W.keepIn K (.ref Q0)=true)
    (qn0_most:PySem.W.findIn K (.ref Q0) "most"=some none)
    (qn0_text:PySem.W.findIn K (.ref Q0) "text"=some none)
    (qn0_sent:PySem.W.findIn K (.ref Q0) "sent"=some none)
    (qn0_come:PySem.W.findIn K (.ref Q0) "come"=some none)
    (qn0_limit:PySem.W.findIn K (.ref Q0) "limit"=some none)
    (qn0_spans:PySem.W.findIn K (.ref Q0) "spans"=some none)
    (qn0_is_ended:PySem.W.findIn K (.ref Q0) "is_ended"=some none)
    (qn0_is_end_sent:PySem.W.findIn K (.ref Q0) "is_end_sent"=some none)
    (qn0_is_heard:PySem.W.findIn K (.ref Q0) "is_heard"=some none)
    (qn0_is_done:PySem.W.findIn K (.ref Q0) "is_done"=some none)
    (qn0_behind:PySem.W.findIn K (.ref Q0) "behind"=some none)
    (qn0_room:PySem.W.findIn K (.ref Q0) "room"=some none)
    (qn0_slate:PySem.W.findIn K (.ref Q0) "slate"=some none)
    (qn0_told_end:PySem.W.findIn K (.ref Q0) "told_end"=some none)
    (qn0_read:PySem.W.findIn K (.ref Q0) "read"=some none)
    (qa1:PySem.W.nsIn K mainGlobals "Slate"=some (some (.ref Q1))) (qpg1:PySem.W.plainGet K Q1 Str.empty=true) (qhd1:PySem.W.hasDictIn K Q1=true) (qpo1:PySem.W.plainOver K Q1=true) (qsa1:PySem.W.findIn K (.ref Q1) "__setattr__"=some (some (.builtin "object.__setattr__"))) (qmk1:PySem.W.makesIn K Q1=true) (qkp1:PySem.W.keepIn K (.ref Q1)=true)
    (qn1_most:PySem.W.findIn K (.ref Q1) "most"=some none)
    (qn1_text:PySem.W.findIn K (.ref Q1) "text"=some none)
    (qn1_sent:PySem.W.findIn K (.ref Q1) "sent"=some none)
    (qn1_come:PySem.W.findIn K (.ref Q1) "come"=some none)
    (qn1_limit:PySem.W.findIn K (.ref Q1) "limit"=some none)
    (qn1_spans:PySem.W.findIn K (.ref Q1) "spans"=some none)
    (qn1_is_ended:PySem.W.findIn K (.ref Q1) "is_ended"=some none)
    (qn1_is_end_sent:PySem.W.findIn K (.ref Q1) "is_end_sent"=some none)
    (qn1_is_heard:PySem.W.findIn K (.ref Q1) "is_heard"=some none)
    (qn1_is_done:PySem.W.findIn K (.ref Q1) "is_done"=some none)
    (qn1_behind:PySem.W.findIn K (.ref Q1) "behind"=some none)
    (qn1_room:PySem.W.findIn K (.ref Q1) "room"=some none)
    (qn1_slate:PySem.W.findIn K (.ref Q1) "slate"=some none)
    (qn1_told_end:PySem.W.findIn K (.ref Q1) "told_end"=some none)
    (qn1_read:PySem.W.findIn K (.ref Q1) "read"=some none)
    (qa2:PySem.W.nsIn K mainGlobals "Taker"=some (some (.ref Q2))) (qpg2:PySem.W.plainGet K Q2 Str.empty=true) (qhd2:PySem.W.hasDictIn K Q2=true) (qpo2:PySem.W.plainOver K Q2=true) (qsa2:PySem.W.findIn K (.ref Q2) "__setattr__"=some (some (.builtin "object.__setattr__"))) (qmk2:PySem.W.makesIn K Q2=true) (qkp2:PySem.W.keepIn K (.ref Q2)=true)
    (qn2_most:PySem.W.findIn K (.ref Q2) "most"=some none)
    (qn2_text:PySem.W.findIn K (.ref Q2) "text"=some none)
    (qn2_sent:PySem.W.findIn K (.ref Q2) "sent"=some none)
    (qn2_come:PySem.W.findIn K (.ref Q2) "come"=some none)
    (qn2_limit:PySem.W.findIn K (.ref Q2) "limit"=some none)
    (qn2_spans:PySem.W.findIn K (.ref Q2) "spans"=some none)
    (qn2_is_ended:PySem.W.findIn K (.ref Q2) "is_ended"=some none)
    (qn2_is_end_sent:PySem.W.findIn K (.ref Q2) "is_end_sent"=some none)
    (qn2_is_heard:PySem.W.findIn K (.ref Q2) "is_heard"=some none)
    (qn2_is_done:PySem.W.findIn K (.ref Q2) "is_done"=some none)
    (qn2_behind:PySem.W.findIn K (.ref Q2) "behind"=some none)
    (qn2_room:PySem.W.findIn K (.ref Q2) "room"=some none)
    (qn2_slate:PySem.W.findIn K (.ref Q2) "slate"=some none)
    (qn2_told_end:PySem.W.findIn K (.ref Q2) "told_end"=some none)
    (qn2_read:PySem.W.findIn K (.ref Q2) "read"=some none)
    (a0:PySem.W.nsIn K mainGlobals "count_below"=some (some (.ref f0)))
    (l0:K.lookup f0=some ⟨oc0,od0,.func (PySem.W.fnOf "count_below" "count_below" (L2.defArgs d_count_below.st) (L2.defBody d_count_below.st) (L2.defScope d_count_below.st) .none kV0 dc0 pm0 an0 cd0 ct0),sl0⟩) (c0:PySem.W.codeIn K cd0 "count_below"=true) (k0:PySem.W.keepIn K (.ref f0)=true)
    (a1:PySem.W.nsIn K mainGlobals "check_begin"=some (some (.ref f1)))
    (l1:K.lookup f1=some ⟨oc1,od1,.func (PySem.W.fnOf "check_begin" "check_begin" (L2.defArgs d_check_begin.st) (L2.defBody d_check_begin.st) (L2.defScope d_check_begin.st) .none kV1 dc1 pm1 an1 cd1 ct1),sl1⟩) (c1:PySem.W.codeIn K cd1 "check_begin"=true) (k1:PySem.W.keepIn K (.ref f1)=true)
    (a2:PySem.W.nsIn K mainGlobals "check_stretch"=some (some (.ref f2)))
    (l2:K.lookup f2=some ⟨oc2,od2,.func (PySem.W.fnOf "check_stretch" "check_stretch" (L2.defArgs d_check_stretch.st) (L2.defBody d_check_stretch.st) (L2.defScope d_check_stretch.st) .none kV2 dc2 pm2 an2 cd2 ct2),sl2⟩) (c2:PySem.W.codeIn K cd2 "check_stretch"=true) (k2:PySem.W.keepIn K (.ref f2)=true)
    (a3:PySem.W.nsIn K mainGlobals "added"=some (some (.ref f3)))
    (l3:K.lookup f3=some ⟨oc3,od3,.func (PySem.W.fnOf "added" "added" (L2.defArgs d_added.st) (L2.defBody d_added.st) (L2.defScope d_added.st) .none kV3 dc3 pm3 an3 cd3 ct3),sl3⟩) (c3:PySem.W.codeIn K cd3 "added"=true) (k3:PySem.W.keepIn K (.ref f3)=true)
    (a4:PySem.W.nsIn K mainGlobals "cut"=some (some (.ref f4)))
    (l4:K.lookup f4=some ⟨oc4,od4,.func (PySem.W.fnOf "cut" "cut" (L2.defArgs d_cut.st) (L2.defBody d_cut.st) (L2.defScope d_cut.st) .none kV4 dc4 pm4 an4 cd4 ct4),sl4⟩) (c4:PySem.W.codeIn K cd4 "cut"=true) (k4:PySem.W.keepIn K (.ref f4)=true)
    (a5:PySem.W.nsIn K mainGlobals "holes"=some (some (.ref f5)))
    (l5:K.lookup f5=some ⟨oc5,od5,.func (PySem.W.fnOf "holes" "holes" (L2.defArgs d_holes.st) (L2.defBody d_holes.st) (L2.defScope d_holes.st) .none kV5 dc5 pm5 an5 cd5 ct5),sl5⟩) (c5:PySem.W.codeIn K cd5 "holes"=true) (k5:PySem.W.keepIn K (.ref f5)=true)
    (a6:PySem.W.findIn K (.ref Q0) "__init__"=some (some (.ref f6))) (m6:PySem.W.isFn K (.ref f6)=true)
    (l6:K.lookup f6=some ⟨oc6,od6,.func (PySem.W.fnOf "__init__" "Giver.__init__" (L2.defArgs d_Giver_init.st) (L2.defBody d_Giver_init.st) (L2.defScope d_Giver_init.st) .none kV6 dc6 pm6 an6 cd6 ct6),sl6⟩) (c6:PySem.W.codeIn K cd6 "Giver.__init__"=true) (k6:PySem.W.keepIn K (.ref f6)=true)
    (a7:PySem.W.findIn K (.ref Q0) "write"=some (some (.ref f7))) (m7:PySem.W.isFn K (.ref f7)=true)
    (l7:K.lookup f7=some ⟨oc7,od7,.func (PySem.W.fnOf "write" "Giver.write" (L2.defArgs d_Giver_write.st) (L2.defBody d_Giver_write.st) (L2.defScope d_Giver_write.st) .none kV7 dc7 pm7 an7 cd7 ct7),sl7⟩) (c7:PySem.W.codeIn K cd7 "Giver.write"=true) (k7:PySem.W.keepIn K (.ref f7)=true)
    (a8:PySem.W.findIn K (.ref Q0) "finish"=some (some (.ref f8))) (m8:PySem.W.isFn K (.ref f8)=true)
    (l8:K.lookup f8=some ⟨oc8,od8,.func (PySem.W.fnOf "finish" "Giver.finish" (L2.defArgs d_Giver_finish.st) (L2.defBody d_Giver_finish.st) (L2.defScope d_Giver_finish.st) .none kV8 dc8 pm8 an8 cd8 ct8),sl8⟩) (c8:PySem.W.codeIn K cd8 "Giver.finish"=true) (k8:PySem.W.keepIn K (.ref f8)=true)
    (a9:PySem.W.findIn K (.ref Q0) "answered"=some (some (.ref f9))) (m9:PySem.W.isFn K (.ref f9)=true)
    (l9:K.lookup f9=some ⟨oc9,od9,.func (PySem.W.fnOf "answered" "Giver.answered" (L2.defArgs d_Giver_answered.st) (L2.defBody d_Giver_answered.st) (L2.defScope d_Giver_answered.st) .none kV9 dc9 pm9 an9 cd9 ct9),sl9⟩) (c9:PySem.W.codeIn K cd9 "Giver.answered"=true) (k9:PySem.W.keepIn K (.ref f9)=true)
    (a10:PySem.W.findIn K (.ref Q0) "known_with"=some (some (.ref f10))) (m10:PySem.W.isFn K (.ref f10)=true)
    (l10:K.lookup f10=some ⟨oc10,od10,.func (PySem.W.fnOf "known_with" "Giver.known_with" (L2.defArgs d_Giver_known_with.st) (L2.defBody d_Giver_known_with.st) (L2.defScope d_Giver_known_with.st) .none kV10 dc10 pm10 an10 cd10 ct10),sl10⟩) (c10:PySem.W.codeIn K cd10 "Giver.known_with"=true) (k10:PySem.W.keepIn K (.ref f10)=true)
    (a11:PySem.W.findIn K (.ref Q0) "next_parts"=some (some (.ref f11))) (m11:PySem.W.isFn K (.ref f11)=true)
    (l11:K.lookup f11=some ⟨oc11,od11,.func (PySem.W.fnOf "next_parts" "Giver.next_parts" (L2.defArgs d_Giver_next_parts.st) (L2.defBody d_Giver_next_parts.st) (L2.defScope d_Giver_next_parts.st) .none kV11 dc11 pm11 an11 cd11 ct11),sl11⟩) (c11:PySem.W.codeIn K cd11 "Giver.next_parts"=true) (k11:PySem.W.keepIn K (.ref f11)=true)
    (a12:PySem.W.findIn K (.ref Q0) "next_part"=some (some (.ref f12))) (m12:PySem.W.isFn K (.ref f12)=true)
    (l12:K.lookup f12=some ⟨oc12,od12,.func (PySem.W.fnOf "next_part" "Giver.next_part" (L2.defArgs d_Giver_next_part.st) (L2.defBody d_Giver_next_part.st) (L2.defScope d_Giver_next_part.st) .none kV12 dc12 pm12 an12 cd12 ct12),sl12⟩) (c12:PySem.W.codeIn K cd12 "Giver.next_part"=true) (k12:PySem.W.keepIn K (.ref f12)=true)
    (a13:PySem.W.findIn K (.ref Q0) "again"=some (some (.ref f13))) (m13:PySem.W.isFn K (.ref f13)=true)
    (l13:K.lookup f13=some ⟨oc13,od13,.func (PySem.W.fnOf "again" "Giver.again" (L2.defArgs d_Giver_again.st) (L2.defBody d_Giver_again.st) (L2.defScope d_Giver_again.st) .none kV13 dc13 pm13 an13 cd13 ct13),sl13⟩) (c13:PySem.W.codeIn K cd13 "Giver.again"=true) (k13:PySem.W.keepIn K (.ref f13)=true)
    (a14:PySem.W.findIn K (.ref Q0) "parts_again"=some (some (.ref f14))) (m14:PySem.W.isFn K (.ref f14)=true)
    (l14:K.lookup f14=some ⟨oc14,od14,.func (PySem.W.fnOf "parts_again" "Giver.parts_again" (L2.defArgs d_Giver_parts_again.st) (L2.defBody d_Giver_parts_again.st) (L2.defScope d_Giver_parts_again.st) .none kV14 dc14 pm14 an14 cd14 ct14),sl14⟩) (c14:PySem.W.codeIn K cd14 "Giver.parts_again"=true) (k14:PySem.W.keepIn K (.ref f14)=true)
    (a15:PySem.W.findIn K (.ref Q0) "parts_of_holes"=some (some (.ref f15))) (m15:PySem.W.isFn K (.ref f15)=true)
    (l15:K.lookup f15=some ⟨oc15,od15,.func (PySem.W.fnOf "parts_of_holes" "Giver.parts_of_holes" (L2.defArgs d_Giver_parts_of_holes.st) (L2.defBody d_Giver_parts_of_holes.st) (L2.defScope d_Giver_parts_of_holes.st) .none kV15 dc15 pm15 an15 cd15 ct15),sl15⟩) (c15:PySem.W.codeIn K cd15 "Giver.parts_of_holes"=true) (k15:PySem.W.keepIn K (.ref f15)=true)
    (a16:PySem.W.findIn K (.ref Q1) "__init__"=some (some (.ref f16))) (m16:PySem.W.isFn K (.ref f16)=true)
    (l16:K.lookup f16=some ⟨oc16,od16,.func (PySem.W.fnOf "__init__" "Slate.__init__" (L2.defArgs d_Slate_init.st) (L2.defBody d_Slate_init.st) (L2.defScope d_Slate_init.st) .none kV16 dc16 pm16 an16 cd16 ct16),sl16⟩) (c16:PySem.W.codeIn K cd16 "Slate.__init__"=true) (k16:PySem.W.keepIn K (.ref f16)=true)
    (a17:PySem.W.findIn K (.ref Q1) "put"=some (some (.ref f17))) (m17:PySem.W.isFn K (.ref f17)=true)
    (l17:K.lookup f17=some ⟨oc17,od17,.func (PySem.W.fnOf "put" "Slate.put" (L2.defArgs d_Slate_put.st) (L2.defBody d_Slate_put.st) (L2.defScope d_Slate_put.st) .none kV17 dc17 pm17 an17 cd17 ct17),sl17⟩) (c17:PySem.W.codeIn K cd17 "Slate.put"=true) (k17:PySem.W.keepIn K (.ref f17)=true)
    (a18:PySem.W.findIn K (.ref Q1) "draw_in"=some (some (.ref f18))) (m18:PySem.W.isFn K (.ref f18)=true)
    (l18:K.lookup f18=some ⟨oc18,od18,.func (PySem.W.fnOf "draw_in" "Slate.draw_in" (L2.defArgs d_Slate_draw_in.st) (L2.defBody d_Slate_draw_in.st) (L2.defScope d_Slate_draw_in.st) .none kV18 dc18 pm18 an18 cd18 ct18),sl18⟩) (c18:PySem.W.codeIn K cd18 "Slate.draw_in"=true) (k18:PySem.W.keepIn K (.ref f18)=true)
    (a19:PySem.W.findIn K (.ref Q1) "sign"=some (some (.ref f19))) (m19:PySem.W.isFn K (.ref f19)=true)
    (l19:K.lookup f19=some ⟨oc19,od19,.func (PySem.W.fnOf "sign" "Slate.sign" (L2.defArgs d_Slate_sign.st) (L2.defBody d_Slate_sign.st) (L2.defScope d_Slate_sign.st) .none kV19 dc19 pm19 an19 cd19 ct19),sl19⟩) (c19:PySem.W.codeIn K cd19 "Slate.sign"=true) (k19:PySem.W.keepIn K (.ref f19)=true)
    (a20:PySem.W.findIn K (.ref Q2) "__init__"=some (some (.ref f20))) (m20:PySem.W.isFn K (.ref f20)=true)
    (l20:K.lookup f20=some ⟨oc20,od20,.func (PySem.W.fnOf "__init__" "Taker.__init__" (L2.defArgs d_Taker_init.st) (L2.defBody d_Taker_init.st) (L2.defScope d_Taker_init.st) .none kV20 dc20 pm20 an20 cd20 ct20),sl20⟩) (c20:PySem.W.codeIn K cd20 "Taker.__init__"=true) (k20:PySem.W.keepIn K (.ref f20)=true)
    (a21:PySem.W.findIn K (.ref Q2) "put"=some (some (.ref f21))) (m21:PySem.W.isFn K (.ref f21)=true)
    (l21:K.lookup f21=some ⟨oc21,od21,.func (PySem.W.fnOf "put" "Taker.put" (L2.defArgs d_Taker_put.st) (L2.defBody d_Taker_put.st) (L2.defScope d_Taker_put.st) .none kV21 dc21 pm21 an21 cd21 ct21),sl21⟩) (c21:PySem.W.codeIn K cd21 "Taker.put"=true) (k21:PySem.W.keepIn K (.ref f21)=true)
    (a22:PySem.W.findIn K (.ref Q2) "ends"=some (some (.ref f22))) (m22:PySem.W.isFn K (.ref f22)=true)
    (l22:K.lookup f22=some ⟨oc22,od22,.func (PySem.W.fnOf "ends" "Taker.ends" (L2.defArgs d_Taker_ends.st) (L2.defBody d_Taker_ends.st) (L2.defScope d_Taker_ends.st) .none kV22 dc22 pm22 an22 cd22 ct22),sl22⟩) (c22:PySem.W.codeIn K cd22 "Taker.ends"=true) (k22:PySem.W.keepIn K (.ref f22)=true)
    (a23:PySem.W.findIn K (.ref Q2) "reach"=some (some (.ref f23))) (m23:PySem.W.isFn K (.ref f23)=true)
    (l23:K.lookup f23=some ⟨oc23,od23,.func (PySem.W.fnOf "reach" "Taker.reach" (L2.defArgs d_Taker_reach.st) (L2.defBody d_Taker_reach.st) (L2.defScope d_Taker_reach.st) .none kV23 dc23 pm23 an23 cd23 ct23),sl23⟩) (c23:PySem.W.codeIn K cd23 "Taker.reach"=true) (k23:PySem.W.keepIn K (.ref f23)=true)
    (a24:PySem.W.findIn K (.ref Q2) "take"=some (some (.ref f24))) (m24:PySem.W.isFn K (.ref f24)=true)
    (l24:K.lookup f24=some ⟨oc24,od24,.func (PySem.W.fnOf "take" "Taker.take" (L2.defArgs d_Taker_take.st) (L2.defBody d_Taker_take.st) (L2.defScope d_Taker_take.st) .none kV24 dc24 pm24 an24 cd24 ct24),sl24⟩) (c24:PySem.W.codeIn K cd24 "Taker.take"=true) (k24:PySem.W.keepIn K (.ref f24)=true)
    (a25:PySem.W.findIn K (.ref Q2) "see_done"=some (some (.ref f25))) (m25:PySem.W.isFn K (.ref f25)=true)
    (l25:K.lookup f25=some ⟨oc25,od25,.func (PySem.W.fnOf "see_done" "Taker.see_done" (L2.defArgs d_Taker_see_done.st) (L2.defBody d_Taker_see_done.st) (L2.defScope d_Taker_see_done.st) .none kV25 dc25 pm25 an25 cd25 ct25),sl25⟩) (c25:PySem.W.codeIn K cd25 "Taker.see_done"=true) (k25:PySem.W.keepIn K (.ref f25)=true)
    (a26:PySem.W.findIn K (.ref Q2) "answer"=some (some (.ref f26))) (m26:PySem.W.isFn K (.ref f26)=true)
    (l26:K.lookup f26=some ⟨oc26,od26,.func (PySem.W.fnOf "answer" "Taker.answer" (L2.defArgs d_Taker_answer.st) (L2.defBody d_Taker_answer.st) (L2.defScope d_Taker_answer.st) .none kV26 dc26 pm26 an26 cd26 ct26),sl26⟩) (c26:PySem.W.codeIn K cd26 "Taker.answer"=true) (k26:PySem.W.keepIn K (.ref f26)=true)
    (a27:PySem.W.nsIn K mainGlobals "_law_truth"=some (some (.ref f27)))
    (l27:K.lookup f27=some ⟨oc27,od27,.func (PySem.W.fnOf "_law_truth" "_law_truth" (L2.defArgs d_law_truth.st) (L2.defBody d_law_truth.st) (L2.defScope d_law_truth.st) .none kV27 dc27 pm27 an27 cd27 ct27),sl27⟩) (c27:PySem.W.codeIn K cd27 "_law_truth"=true) (k27:PySem.W.keepIn K (.ref f27)=true)
    (a28:PySem.W.nsIn K mainGlobals "_law_cell_at"=some (some (.ref f28)))
    (l28:K.lookup f28=some ⟨oc28,od28,.func (PySem.W.fnOf "_law_cell_at" "_law_cell_at" (L2.defArgs d_law_cell_at.st) (L2.defBody d_law_cell_at.st) (L2.defScope d_law_cell_at.st) .none kV28 dc28 pm28 an28 cd28 ct28),sl28⟩) (c28:PySem.W.codeIn K cd28 "_law_cell_at"=true) (k28:PySem.W.keepIn K (.ref f28)=true)
    (a29:PySem.W.nsIn K mainGlobals "_law_text"=some (some (.ref f29)))
    (l29:K.lookup f29=some ⟨oc29,od29,.func (PySem.W.fnOf "_law_text" "_law_text" (L2.defArgs d_law_text.st) (L2.defBody d_law_text.st) (L2.defScope d_law_text.st) .none kV29 dc29 pm29 an29 cd29 ct29),sl29⟩) (c29:PySem.W.codeIn K cd29 "_law_text"=true) (k29:PySem.W.keepIn K (.ref f29)=true)
    (a30:PySem.W.nsIn K mainGlobals "_law_hand"=some (some (.ref f30)))
    (l30:K.lookup f30=some ⟨oc30,od30,.func (PySem.W.fnOf "_law_hand" "_law_hand" (L2.defArgs d_law_hand.st) (L2.defBody d_law_hand.st) (L2.defScope d_law_hand.st) .none kV30 dc30 pm30 an30 cd30 ct30),sl30⟩) (c30:PySem.W.codeIn K cd30 "_law_hand"=true) (k30:PySem.W.keepIn K (.ref f30)=true)
    (a31:PySem.W.nsIn K mainGlobals "_law_round"=some (some (.ref f31)))
    (l31:K.lookup f31=some ⟨oc31,od31,.func (PySem.W.fnOf "_law_round" "_law_round" (L2.defArgs d_law_round.st) (L2.defBody d_law_round.st) (L2.defScope d_law_round.st) .none kV31 dc31 pm31 an31 cd31 ct31),sl31⟩) (c31:PySem.W.codeIn K cd31 "_law_round"=true) (k31:PySem.W.keepIn K (.ref f31)=true)
    (a32:PySem.W.nsIn K mainGlobals "law"=some (some (.ref f32)))
    (l32:K.lookup f32=some ⟨oc32,od32,.func (PySem.W.fnOf "law" "law" (L2.defArgs d_law.st) (L2.defBody d_law.st) (L2.defScope d_law.st) .none kV32 dc32 pm32 an32 cd32 ct32),sl32⟩) (c32:PySem.W.codeIn K cd32 "law"=true) (k32:PySem.W.keepIn K (.ref f32)=true)
    (xa0:PySem.W.nsIn K mainGlobals "FerryError"=some (some (.ref C0))) (xi0:PySem.W.excIn K C0 [.type "ValueError",.type "Exception",.type "BaseException",.type "object"] "ValueError.__new__"=true)
    (xa1:PySem.W.nsIn K mainGlobals "NoSpan"=some (some (.ref C1))) (xi1:PySem.W.excIn K C1 [.type "ValueError",.type "Exception",.type "BaseException",.type "object"] "ValueError.__new__"=true)
    (xa2:PySem.W.nsIn K mainGlobals "Ended"=some (some (.ref C2))) (xi2:PySem.W.excIn K C2 [.type "ValueError",.type "Exception",.type "BaseException",.type "object"] "ValueError.__new__"=true)
    (xa3:PySem.W.nsIn K mainGlobals "TooMuch"=some (some (.ref C3))) (xi3:PySem.W.excIn K C3 [.type "ValueError",.type "Exception",.type "BaseException",.type "object"] "ValueError.__new__"=true)
    (gga0:PySem.W.findIn K (.ref C0) "__getattribute__"=some (some (.builtin "BaseException.__getattribute__"))) (ggt0:PySem.W.findIn K (.ref C0) "__getattr__"=some none) (gcl0:PySem.W.findIn K (.ref C0) "__class__"=some (some (.builtin "object.__class__"))) (gob0:PySem.W.subIn K (.ref C0) (.type "object")=some true) (gbe0:PySem.W.subIn K (.ref C0) (.type "BaseException")=some true) (gis0:PySem.W.isClsIn K C0=true)
    (gga1:PySem.W.findIn K (.ref C1) "__getattribute__"=some (some (.builtin "BaseException.__getattribute__"))) (ggt1:PySem.W.findIn K (.ref C1) "__getattr__"=some none) (gcl1:PySem.W.findIn K (.ref C1) "__class__"=some (some (.builtin "object.__class__"))) (gob1:PySem.W.subIn K (.ref C1) (.type "object")=some true) (gbe1:PySem.W.subIn K (.ref C1) (.type "BaseException")=some true) (gis1:PySem.W.isClsIn K C1=true)
    (gga2:PySem.W.findIn K (.ref C2) "__getattribute__"=some (some (.builtin "BaseException.__getattribute__"))) (ggt2:PySem.W.findIn K (.ref C2) "__getattr__"=some none) (gcl2:PySem.W.findIn K (.ref C2) "__class__"=some (some (.builtin "object.__class__"))) (gob2:PySem.W.subIn K (.ref C2) (.type "object")=some true) (gbe2:PySem.W.subIn K (.ref C2) (.type "BaseException")=some true) (gis2:PySem.W.isClsIn K C2=true)
    (gga3:PySem.W.findIn K (.ref C3) "__getattribute__"=some (some (.builtin "BaseException.__getattribute__"))) (ggt3:PySem.W.findIn K (.ref C3) "__getattr__"=some none) (gcl3:PySem.W.findIn K (.ref C3) "__class__"=some (some (.builtin "object.__class__"))) (gob3:PySem.W.subIn K (.ref C3) (.type "object")=some true) (gbe3:PySem.W.subIn K (.ref C3) (.type "BaseException")=some true) (gis3:PySem.W.isClsIn K C3=true)
    (z_BEGIN:PySem.W.nsIn K mainGlobals "BEGIN"=some (some (.int 0 t_BEGIN)))
    (z_END:PySem.W.nsIn K mainGlobals "END"=some (some (.int 1 t_END)))
    (z_FIRST_LIMIT:PySem.W.nsIn K mainGlobals "FIRST_LIMIT"=some (some (.int 1 t_FIRST_LIMIT)))
    (z_MOST_SPANS:PySem.W.nsIn K mainGlobals "MOST_SPANS"=some (some (.int 8 t_MOST_SPANS)))
    (z_MOST_TAKEN_AT_ONCE:PySem.W.nsIn K mainGlobals "MOST_TAKEN_AT_ONCE"=some (some (.int 200 t_MOST_TAKEN_AT_ONCE)))
    (z_MOST_WRITTEN:PySem.W.nsIn K mainGlobals "MOST_WRITTEN"=some (some (.int 2000 t_MOST_WRITTEN)))
    (z_MOST_WRITTEN_AT_ONCE:PySem.W.nsIn K mainGlobals "MOST_WRITTEN_AT_ONCE"=some (some (.int 200 t_MOST_WRITTEN_AT_ONCE)))
    (z_bool:PySem.W.nsIn K mainGlobals "bool"=some none)
    (z_enumerate:PySem.W.nsIn K mainGlobals "enumerate"=some none)
    (z_int:PySem.W.nsIn K mainGlobals "int"=some none)
    (z_isinstance:PySem.W.nsIn K mainGlobals "isinstance"=some none)
    (z_len:PySem.W.nsIn K mainGlobals "len"=some none)
    (z_max:PySem.W.nsIn K mainGlobals "max"=some none)
    (z_min:PySem.W.nsIn K mainGlobals "min"=some none)
    (z_range:PySem.W.nsIn K mainGlobals "range"=some none)
    (z_tuple:PySem.W.nsIn K mainGlobals "tuple"=some none) :
    Top K mg G xs xl Mt At ds fns:=by
  refine ⟨?ok,rfl,?gl,?mt,?att,?xm,?xk,?xl1,?xv,?xg⟩
  case ok =>
    intro i d f hd hf
    have all:AllZ (fun (d:Df) (f:Fn)=>DfOk G xs Mt At d f) ds fns:=⟨qEL,qEM,qDW,qKB,qOc,qKA,qE2,qEO,qDo,qDF,qCg,qCf,qCr,qEP,qCW,qBq,qE1,qFj,qDX,qE0,qEy,qFi,qEz,qEN,qEx,qDE,qDn,qFg,qEK,qGN,qGO,qFh,qOb,trivial⟩
    exact all.of hd hf
  case gl =>
    intro x g hg
    have all:AllP (fun p:Str × GK=>GlP K mg xl ds p.1 p.2) G:=⟨gl_fn X Gm (d:=d_law) rfl a32 (df_mk qPi l32 c32 k32),
      qD0 X Gm z_BEGIN,
      qD0 X Gm z_END,
      qI8 X Gm rfl qHA xa2 xi2,
      qD0 X Gm z_FIRST_LIMIT,
      qI9 X Gm (d:=d_Giver_init) rfl qAF qa0 ⟨qpg0,qhd0,qpo0,qsa0⟩ ⟨qmk0,a6,m6,qkp0⟩ (df_mk qC5 l6 c6 k6),
      qD0 X Gm z_MOST_SPANS,
      qD0 X Gm z_MOST_TAKEN_AT_ONCE,
      qD0 X Gm z_MOST_WRITTEN,
      qD0 X Gm z_MOST_WRITTEN_AT_ONCE,
      qI8 X Gm rfl qFk xa1 xi1,
      qI9 X Gm (d:=d_Slate_init) rfl qAM qa1 ⟨qpg1,qhd1,qpo1,qsa1⟩ ⟨qmk1,a16,m16,qkp1⟩ (df_mk qC3 l16 c16 k16),
      qI9 X Gm (d:=d_Taker_init) rfl qAJ qa2 ⟨qpg2,qhd2,qpo2,qsa2⟩ ⟨qmk2,a20,m20,qkp2⟩ (df_mk qC2 l20 c20 k20),
      qI8 X Gm rfl qEd xa3 xi3,
      gl_fn X Gm (d:=d_law_cell_at) rfl a28 (df_mk qES l28 c28 k28),
      gl_fn X Gm (d:=d_law_hand) rfl a30 (df_mk qGl l30 c30 k30),
      gl_fn X Gm (d:=d_law_round) rfl a31 (df_mk qF9 l31 c31 k31),
      gl_fn X Gm (d:=d_law_text) rfl a29 (df_mk qGk l29 c29 k29),
      gl_fn X Gm (d:=d_law_truth) rfl a27 (df_mk qF8 l27 c27 k27),
      gl_fn X Gm (d:=d_added) rfl a3 (df_mk qK9 l3 c3 k3),
      qCy X Gm z_bool,
      gl_fn X Gm (d:=d_check_begin) rfl a1 (df_mk qEU l1 c1 k1),
      gl_fn X Gm (d:=d_check_stretch) rfl a2 (df_mk qDZ l2 c2 k2),
      gl_fn X Gm (d:=d_count_below) rfl a0 (df_mk qET l0 c0 k0),
      gl_fn X Gm (d:=d_cut) rfl a4 (df_mk qPj l4 c4 k4),
      qCy X Gm z_enumerate,
      gl_fn X Gm (d:=d_holes) rfl a5 (df_mk qK8 l5 c5 k5),
      qCy X Gm z_int,
      qCy X Gm z_isinstance,
      qCy X Gm z_len,
      qCy X Gm z_max,
      qCy X Gm z_min,
      qCy X Gm z_range,
      qCy X Gm z_tuple,trivial⟩
    exact all.of hg
  case mt =>
    intro m mk tb hm
    unfold Mt at hm
    simp only [List.mem_cons,List.not_mem_nil,or_false,Prod.mk.injEq] at hm
    rcases hm with ⟨rfl,rfl,rfl⟩ | ⟨rfl,rfl,rfl⟩ | ⟨rfl,rfl,rfl⟩ | ⟨rfl,rfl,rfl⟩ | ⟨rfl,rfl,rfl⟩ | ⟨rfl,rfl,rfl⟩ | ⟨rfl,rfl,rfl⟩ | ⟨rfl,rfl,rfl⟩ | ⟨rfl,rfl,rfl⟩ | ⟨rfl,rfl,rfl⟩ | ⟨rfl,rfl,rfl⟩ | ⟨rfl,rfl,rfl⟩ | ⟨rfl,rfl,rfl⟩ | ⟨rfl,rfl,rfl⟩ | ⟨rfl,rfl,rfl⟩ | ⟨rfl,rfl,rfl⟩ | ⟨rfl,rfl,rfl⟩ | ⟨rfl,rfl,rfl⟩
    · refine ⟨nma___init__.symm,by decide,fun cc fi C ht hC=>?_⟩
      unfold tbN at ht
      split at ht
      · rename_i q
        have q:306712044914=cc:=by simpa using q
        subst q
        cases ht
        cases qAC hC qAF qa0
        exact ⟨⟨qpg0,qhd0,qpo0,qsa0⟩,_,_,_,⟨a6,m6,k6⟩,rfl,(df_mk qC5 l6 c6 k6).choose_spec⟩
      unfold tbN at ht
      split at ht
      · rename_i q
        have q:358300611685=cc:=by simpa using q
        subst q
        cases ht
        cases qAC hC qAM qa1
        exact ⟨⟨qpg1,qhd1,qpo1,qsa1⟩,_,_,_,⟨a16,m16,k16⟩,rfl,(df_mk qC3 l16 c16 k16).choose_spec⟩
      unfold tbN at ht
      split at ht
      · rename_i q
        have q:362411681138=cc:=by simpa using q
        subst q
        cases ht
        cases qAC hC qAJ qa2
        exact ⟨⟨qpg2,qhd2,qpo2,qsa2⟩,_,_,_,⟨a20,m20,k20⟩,rfl,(df_mk qC2 l20 c20 k20).choose_spec⟩
      cases ht
    · refine ⟨nma_write.symm,by decide,fun cc fi C ht hC=>?_⟩
      unfold tbN at ht
      split at ht
      · rename_i q
        have q:306712044914=cc:=by simpa using q
        subst q
        cases ht
        cases qAC hC qAF qa0
        exact ⟨⟨qpg0,qhd0,qpo0,qsa0⟩,_,_,_,⟨a7,m7,k7⟩,rfl,(df_mk qEW l7 c7 k7).choose_spec⟩
      cases ht
    · refine ⟨nma_finish.symm,by decide,fun cc fi C ht hC=>?_⟩
      unfold tbN at ht
      split at ht
      · rename_i q
        have q:306712044914=cc:=by simpa using q
        subst q
        cases ht
        cases qAC hC qAF qa0
        exact ⟨⟨qpg0,qhd0,qpo0,qsa0⟩,_,_,_,⟨a8,m8,k8⟩,rfl,(df_mk qEC l8 c8 k8).choose_spec⟩
      cases ht
    · refine ⟨nma_answered.symm,by decide,fun cc fi C ht hC=>?_⟩
      unfold tbN at ht
      split at ht
      · rename_i q
        have q:306712044914=cc:=by simpa using q
        subst q
        cases ht
        cases qAC hC qAF qa0
        exact ⟨⟨qpg0,qhd0,qpo0,qsa0⟩,_,_,_,⟨a9,m9,k9⟩,rfl,(df_mk qDR l9 c9 k9).choose_spec⟩
      cases ht
    · refine ⟨nma_known_with.symm,by decide,fun cc fi C ht hC=>?_⟩
      unfold tbN at ht
      split at ht
      · rename_i q
        have q:306712044914=cc:=by simpa using q
        subst q
        cases ht
        cases qAC hC qAF qa0
        exact ⟨⟨qpg0,qhd0,qpo0,qsa0⟩,_,_,_,⟨a10,m10,k10⟩,rfl,(df_mk qCl l10 c10 k10).choose_spec⟩
      cases ht
    · refine ⟨nma_next_parts.symm,by decide,fun cc fi C ht hC=>?_⟩
      unfold tbN at ht
      split at ht
      · rename_i q
        have q:306712044914=cc:=by simpa using q
        subst q
        cases ht
        cases qAC hC qAF qa0
        exact ⟨⟨qpg0,qhd0,qpo0,qsa0⟩,_,_,_,⟨a11,m11,k11⟩,rfl,(df_mk qCk l11 c11 k11).choose_spec⟩
      cases ht
    · refine ⟨nma_next_part.symm,by decide,fun cc fi C ht hC=>?_⟩
      unfold tbN at ht
      split at ht
      · rename_i q
        have q:306712044914=cc:=by simpa using q
        subst q
        cases ht
        cases qAC hC qAF qa0
        exact ⟨⟨qpg0,qhd0,qpo0,qsa0⟩,_,_,_,⟨a12,m12,k12⟩,rfl,(df_mk qC4 l12 c12 k12).choose_spec⟩
      cases ht
    · refine ⟨nma_again.symm,by decide,fun cc fi C ht hC=>?_⟩
      unfold tbN at ht
      split at ht
      · rename_i q
        have q:306712044914=cc:=by simpa using q
        subst q
        cases ht
        cases qAC hC qAF qa0
        exact ⟨⟨qpg0,qhd0,qpo0,qsa0⟩,_,_,_,⟨a13,m13,k13⟩,rfl,(df_mk qEX l13 c13 k13).choose_spec⟩
      cases ht
    · refine ⟨nma_parts_again.symm,by decide,fun cc fi C ht hC=>?_⟩
      unfold tbN at ht
      split at ht
      · rename_i q
        have q:306712044914=cc:=by simpa using q
        subst q
        cases ht
        cases qAC hC qAF qa0
        exact ⟨⟨qpg0,qhd0,qpo0,qsa0⟩,_,_,_,⟨a14,m14,k14⟩,rfl,(df_mk qCX l14 c14 k14).choose_spec⟩
      cases ht
    · refine ⟨nma_parts_of_holes.symm,by decide,fun cc fi C ht hC=>?_⟩
      unfold tbN at ht
      split at ht
      · rename_i q
        have q:306712044914=cc:=by simpa using q
        subst q
        cases ht
        cases qAC hC qAF qa0
        exact ⟨⟨qpg0,qhd0,qpo0,qsa0⟩,_,_,_,⟨a15,m15,k15⟩,rfl,(df_mk qBu l15 c15 k15).choose_spec⟩
      cases ht
    · refine ⟨nma_put.symm,by decide,fun cc fi C ht hC=>?_⟩
      unfold tbN at ht
      split at ht
      · rename_i q
        have q:358300611685=cc:=by simpa using q
        subst q
        cases ht
        cases qAC hC qAM qa1
        exact ⟨⟨qpg1,qhd1,qpo1,qsa1⟩,_,_,_,⟨a17,m17,k17⟩,rfl,(df_mk qGB l17 c17 k17).choose_spec⟩
      unfold tbN at ht
      split at ht
      · rename_i q
        have q:362411681138=cc:=by simpa using q
        subst q
        cases ht
        cases qAC hC qAJ qa2
        exact ⟨⟨qpg2,qhd2,qpo2,qsa2⟩,_,_,_,⟨a21,m21,k21⟩,rfl,(df_mk qGA l21 c21 k21).choose_spec⟩
      cases ht
    · refine ⟨nma_draw_in.symm,by decide,fun cc fi C ht hC=>?_⟩
      unfold tbN at ht
      split at ht
      · rename_i q
        have q:358300611685=cc:=by simpa using q
        subst q
        cases ht
        cases qAC hC qAM qa1
        exact ⟨⟨qpg1,qhd1,qpo1,qsa1⟩,_,_,_,⟨a18,m18,k18⟩,rfl,(df_mk qDa l18 c18 k18).choose_spec⟩
      cases ht
    · refine ⟨nma_sign.symm,by decide,fun cc fi C ht hC=>?_⟩
      unfold tbN at ht
      split at ht
      · rename_i q
        have q:358300611685=cc:=by simpa using q
        subst q
        cases ht
        cases qAC hC qAM qa1
        exact ⟨⟨qpg1,qhd1,qpo1,qsa1⟩,_,_,_,⟨a19,m19,k19⟩,rfl,(df_mk qFR l19 c19 k19).choose_spec⟩
      cases ht
    · refine ⟨nma_ends.symm,by decide,fun cc fi C ht hC=>?_⟩
      unfold tbN at ht
      split at ht
      · rename_i q
        have q:362411681138=cc:=by simpa using q
        subst q
        cases ht
        cases qAC hC qAJ qa2
        exact ⟨⟨qpg2,qhd2,qpo2,qsa2⟩,_,_,_,⟨a22,m22,k22⟩,rfl,(df_mk qFQ l22 c22 k22).choose_spec⟩
      cases ht
    · refine ⟨nma_reach.symm,by decide,fun cc fi C ht hC=>?_⟩
      unfold tbN at ht
      split at ht
      · rename_i q
        have q:362411681138=cc:=by simpa using q
        subst q
        cases ht
        cases qAC hC qAJ qa2
        exact ⟨⟨qpg2,qhd2,qpo2,qsa2⟩,_,_,_,⟨a23,m23,k23⟩,rfl,(df_mk qEV l23 c23 k23).choose_spec⟩
      cases ht
    · refine ⟨nma_take.symm,by decide,fun cc fi C ht hC=>?_⟩
      unfold tbN at ht
      split at ht
      · rename_i q
        have q:362411681138=cc:=by simpa using q
        subst q
        cases ht
        cases qAC hC qAJ qa2
        exact ⟨⟨qpg2,qhd2,qpo2,qsa2⟩,_,_,_,⟨a24,m24,k24⟩,rfl,(df_mk qFP l24 c24 k24).choose_spec⟩
      cases ht
    · refine ⟨nma_see_done.symm,by decide,fun cc fi C ht hC=>?_⟩
      unfold tbN at ht
      split at ht
      · rename_i q
        have q:362411681138=cc:=by simpa using q
        subst q
        cases ht
        cases qAC hC qAJ qa2
        exact ⟨⟨qpg2,qhd2,qpo2,qsa2⟩,_,_,_,⟨a25,m25,k25⟩,rfl,(df_mk qDQ l25 c25 k25).choose_spec⟩
      cases ht
    · refine ⟨nma_answer.symm,by decide,fun cc fi C ht hC=>?_⟩
      unfold tbN at ht
      split at ht
      · rename_i q
        have q:362411681138=cc:=by simpa using q
        subst q
        cases ht
        cases qAC hC qAJ qa2
        exact ⟨⟨qpg2,qhd2,qpo2,qsa2⟩,_,_,_,⟨a26,m26,k26⟩,rfl,(df_mk qEB l26 c26 k26).choose_spec⟩
      cases ht
  case att =>
    intro f kk cs hf
    unfold At at hf
    simp only [List.mem_cons,List.not_mem_nil,or_false,Prod.mk.injEq] at hf
    rcases hf with ⟨rfl,rfl,rfl⟩ | ⟨rfl,rfl,rfl⟩ | ⟨rfl,rfl,rfl⟩ | ⟨rfl,rfl,rfl⟩ | ⟨rfl,rfl,rfl⟩ | ⟨rfl,rfl,rfl⟩ | ⟨rfl,rfl,rfl⟩ | ⟨rfl,rfl,rfl⟩ | ⟨rfl,rfl,rfl⟩ | ⟨rfl,rfl,rfl⟩ | ⟨rfl,rfl,rfl⟩ | ⟨rfl,rfl,rfl⟩ | ⟨rfl,rfl,rfl⟩ | ⟨rfl,rfl,rfl⟩ | ⟨rfl,rfl,rfl⟩
    · refine ⟨nma_most.symm,by decide,fun cc C hc hC=>?_⟩
      simp only [List.contains_cons,List.contains_nil,Bool.or_false,Bool.or_eq_true,beq_iff_eq] at hc
      rcases hc with rfl | rfl | rfl
      · cases qAC hC qAF qa0;unfold L2.NoAttr;rw [nma_most];exact qn0_most
      · cases qAC hC qAM qa1;unfold L2.NoAttr;rw [nma_most];exact qn1_most
      · cases qAC hC qAJ qa2;unfold L2.NoAttr;rw [nma_most];exact qn2_most
    · refine ⟨nma_text.symm,by decide,fun cc C hc hC=>?_⟩
      simp only [List.contains_cons,List.contains_nil,Bool.or_false,Bool.or_eq_true,beq_iff_eq] at hc
      rcases hc with rfl | rfl | rfl
      · cases qAC hC qAF qa0;unfold L2.NoAttr;rw [nma_text];exact qn0_text
      · cases qAC hC qAM qa1;unfold L2.NoAttr;rw [nma_text];exact qn1_text
      · cases qAC hC qAJ qa2;unfold L2.NoAttr;rw [nma_text];exact qn2_text
    · refine ⟨nma_sent.symm,by decide,fun cc C hc hC=>?_⟩
      simp only [List.contains_cons,List.contains_nil,Bool.or_false,Bool.or_eq_true,beq_iff_eq] at hc
      rcases hc with rfl | rfl | rfl
      · cases qAC hC qAF qa0;unfold L2.NoAttr;rw [nma_sent];exact qn0_sent
      · cases qAC hC qAM qa1;unfold L2.NoAttr;rw [nma_sent];exact qn1_sent
      · cases qAC hC qAJ qa2;unfold L2.NoAttr;rw [nma_sent];exact qn2_sent
    · refine ⟨nma_come.symm,by decide,fun cc C hc hC=>?_⟩
      simp only [List.contains_cons,List.contains_nil,Bool.or_false,Bool.or_eq_true,beq_iff_eq] at hc
      rcases hc with rfl | rfl | rfl
      · cases qAC hC qAF qa0;unfold L2.NoAttr;rw [nma_come];exact qn0_come
      · cases qAC hC qAM qa1;unfold L2.NoAttr;rw [nma_come];exact qn1_come
      · cases qAC hC qAJ qa2;unfold L2.NoAttr;rw [nma_come];exact qn2_come
    · refine ⟨nma_limit.symm,by decide,fun cc C hc hC=>?_⟩
      simp only [List.contains_cons,List.contains_nil,Bool.or_false,Bool.or_eq_true,beq_iff_eq] at hc
      rcases hc with rfl | rfl | rfl
      · cases qAC hC qAF qa0;unfold L2.NoAttr;rw [nma_limit];exact qn0_limit
      · cases qAC hC qAM qa1;unfold L2.NoAttr;rw [nma_limit];exact qn1_limit
      · cases qAC hC qAJ qa2;unfold L2.NoAttr;rw [nma_limit];exact qn2_limit
    · refine ⟨nma_spans.symm,by decide,fun cc C hc hC=>?_⟩
      simp only [List.contains_cons,List.contains_nil,Bool.or_false,Bool.or_eq_true,beq_iff_eq] at hc
      rcases hc with rfl | rfl | rfl
      · cases qAC hC qAF qa0;unfold L2.NoAttr;rw [nma_spans];exact qn0_spans
      · cases qAC hC qAM qa1;unfold L2.NoAttr;rw [nma_spans];exact qn1_spans
      · cases qAC hC qAJ qa2;unfold L2.NoAttr;rw [nma_spans];exact qn2_spans
    · refine ⟨nma_is_ended.symm,by decide,fun cc C hc hC=>?_⟩
      simp only [List.contains_cons,List.contains_nil,Bool.or_false,Bool.or_eq_true,beq_iff_eq] at hc
      rcases hc with rfl | rfl | rfl
      · cases qAC hC qAF qa0;unfold L2.NoAttr;rw [nma_is_ended];exact qn0_is_ended
      · cases qAC hC qAM qa1;unfold L2.NoAttr;rw [nma_is_ended];exact qn1_is_ended
      · cases qAC hC qAJ qa2;unfold L2.NoAttr;rw [nma_is_ended];exact qn2_is_ended
    · refine ⟨nma_is_end_sent.symm,by decide,fun cc C hc hC=>?_⟩
      simp only [List.contains_cons,List.contains_nil,Bool.or_false,Bool.or_eq_true,beq_iff_eq] at hc
      rcases hc with rfl | rfl | rfl
      · cases qAC hC qAF qa0;unfold L2.NoAttr;rw [nma_is_end_sent];exact qn0_is_end_sent
      · cases qAC hC qAM qa1;unfold L2.NoAttr;rw [nma_is_end_sent];exact qn1_is_end_sent
      · cases qAC hC qAJ qa2;unfold L2.NoAttr;rw [nma_is_end_sent];exact qn2_is_end_sent
    · refine ⟨nma_is_heard.symm,by decide,fun cc C hc hC=>?_⟩
      simp only [List.contains_cons,List.contains_nil,Bool.or_false,Bool.or_eq_true,beq_iff_eq] at hc
      rcases hc with rfl | rfl | rfl
      · cases qAC hC qAF qa0;unfold L2.NoAttr;rw [nma_is_heard];exact qn0_is_heard
      · cases qAC hC qAM qa1;unfold L2.NoAttr;rw [nma_is_heard];exact qn1_is_heard
      · cases qAC hC qAJ qa2;unfold L2.NoAttr;rw [nma_is_heard];exact qn2_is_heard
    · refine ⟨nma_is_done.symm,by decide,fun cc C hc hC=>?_⟩
      simp only [List.contains_cons,List.contains_nil,Bool.or_false,Bool.or_eq_true,beq_iff_eq] at hc
      rcases hc with rfl | rfl | rfl
      · cases qAC hC qAF qa0;unfold L2.NoAttr;rw [nma_is_done];exact qn0_is_done
      · cases qAC hC qAM qa1;unfold L2.NoAttr;rw [nma_is_done];exact qn1_is_done
      · cases qAC hC qAJ qa2;unfold L2.NoAttr;rw [nma_is_done];exact qn2_is_done
    · refine ⟨nma_behind.symm,by decide,fun cc C hc hC=>?_⟩
      simp only [List.contains_cons,List.contains_nil,Bool.or_false,Bool.or_eq_true,beq_iff_eq] at hc
      rcases hc with rfl | rfl | rfl
      · cases qAC hC qAF qa0;unfold L2.NoAttr;rw [nma_behind];exact qn0_behind
      · cases qAC hC qAM qa1;unfold L2.NoAttr;rw [nma_behind];exact qn1_behind
      · cases qAC hC qAJ qa2;unfold L2.NoAttr;rw [nma_behind];exact qn2_behind
    · refine ⟨nma_room.symm,by decide,fun cc C hc hC=>?_⟩
      simp only [List.contains_cons,List.contains_nil,Bool.or_false,Bool.or_eq_true,beq_iff_eq] at hc
      rcases hc with rfl | rfl | rfl
      · cases qAC hC qAF qa0;unfold L2.NoAttr;rw [nma_room];exact qn0_room
      · cases qAC hC qAM qa1;unfold L2.NoAttr;rw [nma_room];exact qn1_room
      · cases qAC hC qAJ qa2;unfold L2.NoAttr;rw [nma_room];exact qn2_room
    · refine ⟨nma_slate.symm,by decide,fun cc C hc hC=>?_⟩
      simp only [List.contains_cons,List.contains_nil,Bool.or_false,Bool.or_eq_true,beq_iff_eq] at hc
      rcases hc with rfl | rfl | rfl
      · cases qAC hC qAF qa0;unfold L2.NoAttr;rw [nma_slate];exact qn0_slate
      · cases qAC hC qAM qa1;unfold L2.NoAttr;rw [nma_slate];exact qn1_slate
      · cases qAC hC qAJ qa2;unfold L2.NoAttr;rw [nma_slate];exact qn2_slate
    · refine ⟨nma_told_end.symm,by decide,fun cc C hc hC=>?_⟩
      simp only [List.contains_cons,List.contains_nil,Bool.or_false,Bool.or_eq_true,beq_iff_eq] at hc
      rcases hc with rfl | rfl | rfl
      · cases qAC hC qAF qa0;unfold L2.NoAttr;rw [nma_told_end];exact qn0_told_end
      · cases qAC hC qAM qa1;unfold L2.NoAttr;rw [nma_told_end];exact qn1_told_end
      · cases qAC hC qAJ qa2;unfold L2.NoAttr;rw [nma_told_end];exact qn2_told_end
    · refine ⟨nma_read.symm,by decide,fun cc C hc hC=>?_⟩
      simp only [List.contains_cons,List.contains_nil,Bool.or_false,Bool.or_eq_true,beq_iff_eq] at hc
      rcases hc with rfl | rfl | rfl
      · cases qAC hC qAF qa0;unfold L2.NoAttr;rw [nma_read];exact qn0_read
      · cases qAC hC qAM qa1;unfold L2.NoAttr;rw [nma_read];exact qn1_read
      · cases qAC hC qAJ qa2;unfold L2.NoAttr;rw [nma_read];exact qn2_read
  case xm =>
    intro i cs C j D hi hC hD
    obtain ⟨hi0,hC⟩:=qCF hC
    obtain ⟨hj,hD⟩:=qCF hD
    unfold xs at hi
    cases hi
  case xk =>
    intro i cs hi hx
    unfold xs at hi
    cases hi
  case xl1 =>
    intro cs hi
    unfold xs at hi
    cases hi
  case xv =>
    intro cs j D hi hD
    unfold xs at hi
    cases hi
  case xg =>
    intro j D hD
    obtain ⟨hj,hD⟩:=qCF hD
    unfold xl at hj
    simp only [List.mem_cons,List.not_mem_nil,or_false] at hj
    rcases hj with rfl | rfl | rfl | rfl
    · cases qAC hD qE3 xa0;exact ⟨gga0,ggt0,gcl0,gob0,gbe0,gis0⟩
    · cases qAC hD qFk xa1;exact ⟨gga1,ggt1,gcl1,gob1,gbe1,gis1⟩
    · cases qAC hD qHA xa2;exact ⟨gga2,ggt2,gcl2,gob2,gbe2,gis2⟩
    · cases qAC hD qEd xa3;exact ⟨gga3,ggt3,gcl3,gob3,gbe3,gis3⟩
theorem w_hi:ds[32]?=some d_law:=by kernel_rfl
theorem w_hq:d_law.qual=d_law.name:=by kernel_rfl
theorem w_hps:d_law.ps=(["_law_script"]:List Str):=by kernel_rfl
theorem w_hG:(("law":Str),GK.fn 32)∈G:=List.mem_cons_self ..
end Lk27
noncomputable def PySem.W.Fast.tw4961104815036276883:Unit:=()
noncomputable def PySem.W.Fast.tw6914505393857891426:Unit:=()
noncomputable def PySem.W.Fast.tw1058773043769974052:Unit:=()
noncomputable def PySem.W.Fast.tw644357172764890506:Unit:=()
noncomputable def PySem.W.Fast.tw4731212922904361209:Unit:=()
noncomputable def PySem.W.Fast.tw7414114676510131783:Unit:=()
noncomputable def PySem.W.Fast.tw12900851714239530259:Unit:=()
noncomputable def PySem.W.Fast.tw8112734225761886937:Unit:=()
noncomputable def PySem.W.Fast.tw3199159002916359616:Unit:=()
noncomputable def PySem.W.Fast.tw4985646652234673630:Unit:=()
noncomputable def PySem.W.Fast.tw6577015594481654344:Unit:=()
noncomputable def PySem.W.Fast.tw13551147487992512111:Unit:=()
noncomputable def PySem.W.Fast.tw6785885609145414412:Unit:=()
noncomputable def PySem.W.Fast.tw10607860344299040371:Unit:=()
noncomputable def PySem.W.Fast.tw15175968878979701314:Unit:=()
noncomputable def PySem.W.Fast.tw15267685139321179576:Unit:=()
noncomputable def PySem.W.Fast.tw10101661407762428563:Unit:=()
noncomputable def PySem.W.Fast.tw1002625929732093333:Unit:=()
noncomputable def PySem.W.Fast.tw5100306703796655472:Unit:=()
noncomputable def PySem.W.Fast.tw8487087392719728168:Unit:=()
noncomputable def PySem.W.Fast.tw16329606995311880913:Unit:=()
noncomputable def PySem.W.Fast.tw5682881081461160791:Unit:=()
noncomputable def PySem.W.Fast.tw6681874218615007919:Unit:=()
noncomputable def PySem.W.Fast.tw14849072717184462929:Unit:=()
noncomputable def PySem.W.Fast.tw8878988800241220375:Unit:=()
noncomputable def PySem.W.Fast.tw104840940354822385:Unit:=()
noncomputable def PySem.W.Fast.tw7540306361904971151:Unit:=()
noncomputable def PySem.W.Fast.tw566325303693648364:Unit:=()
noncomputable def PySem.W.Fast.tw5825529588995336681:Unit:=()
noncomputable def PySem.W.Fast.tw5387120692007024693:Unit:=()
noncomputable def PySem.W.Fast.tw10975382356308745423:Unit:=()
noncomputable def PySem.W.Fast.tw10540128196070037458:Unit:=()
noncomputable def PySem.W.Fast.tw3510029295788441704:Unit:=()
noncomputable def PySem.W.Fast.tw10391767791798250049:Unit:=()
noncomputable def PySem.W.Fast.tw523389331749986986:Unit:=()
open PySem PySem.W PyProof.Rows
set_option maxRecDepth 100000 in
set_option maxHeartbeats 0 in
theorem PySem.Challenge.cw_ferry_k27_whole_all_comes_holds : PySem.Challenge.rw_ferry_k27_whole_all_comes.Holds := by
 w_on;o_law;k_head;(case hw=>w_witness2)
 k_fill
 refine Fy.walk (l:=PySem.Challenge.rw_ferry_k27_whole_all_comes) (G:=Lk27.G) (xs:=Lk27.xs) (xl:=Lk27.xl) (Mt:=Lk27.Mt) (At:=Lk27.At) (ds:=Lk27.ds) (fns:=Lk27.fns) (B:=20000) (i:=32) (d:=Lk27.d_law) (x:="_law_script") rfl rfl Lk27.w_hi Lk27.w_hG Lk27.w_hq Lk27.w_hps (fun w h Y=>PySem.W.kIn_of Y) ?T (fun ns hl=>Lk27.law_true 20000 32 ns hl) ?B
 case B =>
  intro fd f K F s u
  obtain ⟨oc,od,kV,doc,pm,an,cdv,ct,osl,rfl,lk,hcd⟩:=F.ex
  exact .of_eq rfl
 case T =>
  intro w mg h KX G
  refine' Lk27.top_mk KX G ?qa0 ?qpg0 ?qhd0 ?qpo0 ?qsa0 ?qmk0 ?qkp0 ?qn0_most ?qn0_text ?qn0_sent ?qn0_come ?qn0_limit ?qn0_spans ?qn0_is_ended ?qn0_is_end_sent ?qn0_is_heard ?qn0_is_done ?qn0_behind ?qn0_room ?qn0_slate ?qn0_told_end ?qn0_read ?qa1 ?qpg1 ?qhd1 ?qpo1 ?qsa1 ?qmk1 ?qkp1 ?qn1_most ?qn1_text ?qn1_sent ?qn1_come ?qn1_limit ?qn1_spans ?qn1_is_ended ?qn1_is_end_sent ?qn1_is_heard ?qn1_is_done ?qn1_behind ?qn1_room ?qn1_slate ?qn1_told_end ?qn1_read ?qa2 ?qpg2 ?qhd2 ?qpo2 ?qsa2 ?qmk2 ?qkp2 ?qn2_most ?qn2_text ?qn2_sent ?qn2_come ?qn2_limit ?qn2_spans ?qn2_is_ended ?qn2_is_end_sent ?qn2_is_heard ?qn2_is_done ?qn2_behind ?qn2_room ?qn2_slate ?qn2_told_end ?qn2_read ?a0 ?l0 ?c0 ?k0 ?a1 ?l1 ?c1 ?k1 ?a2 ?l2 ?c2 ?k2 ?a3 ?l3 ?c3 ?k3 ?a4 ?l4 ?c4 ?k4 ?a5 ?l5 ?c5 ?k5 ?a6 ?m6 ?l6 ?c6 ?k6 ?a7 ?m7 ?l7 ?c7 ?k7 ?a8 ?m8 ?l8 ?c8 ?k8 ?a9 ?m9 ?l9 ?c9 ?k9 ?a10 ?m10 ?l10 ?c10 ?k10 ?a11 ?m11 ?l11 ?c11 ?k11 ?a12 ?m12 ?l12 ?c12 ?k12 ?a13 ?m13 ?l13 ?c13 ?k13 ?a14 ?m14 ?l14 ?c14 ?k14 ?a15 ?m15 ?l15 ?c15 ?k15 ?a16 ?m16 ?l16 ?c16 ?k16 ?a17 ?m17 ?l17 ?c17 ?k17 ?a18 ?m18 ?l18 ?c18 ?k18 ?a19 ?m19 ?l19 ?c19 ?k19 ?a20 ?m20 ?l20 ?c20 ?k20 ?a21 ?m21 ?l21 ?c21 ?k21 ?a22 ?m22 ?l22 ?c22 ?k22 ?a23 ?m23 ?l23 ?c23 ?k23 ?a24 ?m24 ?l24 ?c24 ?k24 ?a25 ?m25 ?l25 ?c25 ?k25 ?a26 ?m26 ?l26 ?c26 ?k26 ?a27 ?l27 ?c27 ?k27 ?a28 ?l28 ?c28 ?k28 ?a29 ?l29 ?c29 ?k29 ?a30 ?l30 ?c30 ?k30 ?a31 ?l31 ?c31 ?k31 ?a32 ?l32 ?c32 ?k32 ?xa0 ?xi0 ?xa1 ?xi1 ?xa2 ?xi2 ?xa3 ?xi3 ?gga0 ?ggt0 ?gcl0 ?gob0 ?gbe0 ?gis0 ?gga1 ?ggt1 ?gcl1 ?gob1 ?gbe1 ?gis1 ?gga2 ?ggt2 ?gcl2 ?gob2 ?gbe2 ?gis2 ?gga3 ?ggt3 ?gcl3 ?gob3 ?gbe3 ?gis3 ?z_BEGIN ?z_END ?z_FIRST_LIMIT ?z_MOST_SPANS ?z_MOST_TAKEN_AT_ONCE ?z_MOST_WRITTEN ?z_MOST_WRITTEN_AT_ONCE ?z_bool ?z_enumerate ?z_int ?z_isinstance ?z_len ?z_max ?z_min ?z_range ?z_tuple
  (case qa0=>k_is)
  (case qpg0=>k_is)
  (case qhd0=>k_is)
  (case qpo0=>k_is)
  (case qsa0=>k_is)
  (case qmk0=>k_is)
  (case qkp0=>k_is)
  (case qn0_most=>k_is)
  (case qn0_text=>k_is)
  (case qn0_sent=>k_is)
  (case qn0_come=>k_is)
  (case qn0_limit=>k_is)
  (case qn0_spans=>k_is)
  (case qn0_is_ended=>k_is)
  (case qn0_is_end_sent=>k_is)
  (case qn0_is_heard=>k_is)
  (case qn0_is_done=>k_is)
  (case qn0_behind=>k_is)
  (case qn0_room=>k_is)
  (case qn0_slate=>k_is)
  (case qn0_told_end=>k_is)
  (case qn0_read=>k_is)
  (case qa1=>k_is)
  (case qpg1=>k_is)
  (case qhd1=>k_is)
  (case qpo1=>k_is)
  (case qsa1=>k_is)
  (case qmk1=>k_is)
  (case qkp1=>k_is)
  (case qn1_most=>k_is)
  (case qn1_text=>k_is)
  (case qn1_sent=>k_is)
  (case qn1_come=>k_is)
  (case qn1_limit=>k_is)
  (case qn1_spans=>k_is)
  (case qn1_is_ended=>k_is)
  (case qn1_is_end_sent=>k_is)
  (case qn1_is_heard=>k_is)
  (case qn1_is_done=>k_is)
  (case qn1_behind=>k_is)
  (case qn1_room=>k_is)
  (case qn1_slate=>k_is)
  (case qn1_told_end=>k_is)
  (case qn1_read=>k_is)
  (case qa2=>k_is)
  (case qpg2=>k_is)
  (case qhd2=>k_is)
  (case qpo2=>k_is)
  (case qsa2=>k_is)
  (case qmk2=>k_is)
  (case qkp2=>k_is)
  (case qn2_most=>k_is)
  (case qn2_text=>k_is)
  (case qn2_sent=>k_is)
  (case qn2_come=>k_is)
  (case qn2_limit=>k_is)
  (case qn2_spans=>k_is)
  (case qn2_is_ended=>k_is)
  (case qn2_is_end_sent=>k_is)
  (case qn2_is_heard=>k_is)
  (case qn2_is_done=>k_is)
  (case qn2_behind=>k_is)
  (case qn2_room=>k_is)
  (case qn2_slate=>k_is)
  (case qn2_told_end=>k_is)
  (case qn2_read=>k_is)
  (case a0=>k_is)
  (case l0=>k_is)
  (case c0=>k_is)
  (case k0=>k_is)
  (case a1=>k_is)
  (case l1=>k_is)
  (case c1=>k_is)
  (case k1=>k_is)
  (case a2=>k_is)
  (case l2=>k_is)
  (case c2=>k_is)
  (case k2=>k_is)
  (case a3=>k_is)
  (case l3=>k_is)
  (case c3=>k_is)
  (case k3=>k_is)
  (case a4=>k_is)
  (case l4=>k_is)
  (case c4=>k_is)
  (case k4=>k_is)
  (case a5=>k_is)
  (case l5=>k_is)
  (case c5=>k_is)
  (case k5=>k_is)
  (case a6=>k_is)
  (case m6=>k_is)
  (case l6=>k_is)
  (case c6=>k_is)
  (case k6=>k_is)
  (case a7=>k_is)
  (case m7=>k_is)
  (case l7=>k_is)
  (case c7=>k_is)
  (case k7=>k_is)
  (case a8=>k_is)
  (case m8=>k_is)
  (case l8=>k_is)
  (case c8=>k_is)
  (case k8=>k_is)
  (case a9=>k_is)
  (case m9=>k_is)
  (case l9=>k_is)
  (case c9=>k_is)
  (case k9=>k_is)
  (case a10=>k_is)
  (case m10=>k_is)
  (case l10=>k_is)
  (case c10=>k_is)
  (case k10=>k_is)
  (case a11=>k_is)
  (case m11=>k_is)
  (case l11=>k_is)
  (case c11=>k_is)
  (case k11=>k_is)
  (case a12=>k_is)
  (case m12=>k_is)
  (case l12=>k_is)
  (case c12=>k_is)
  (case k12=>k_is)
  (case a13=>k_is)
  (case m13=>k_is)
  (case l13=>k_is)
  (case c13=>k_is)
  (case k13=>k_is)
  (case a14=>k_is)
  (case m14=>k_is)
  (case l14=>k_is)
  (case c14=>k_is)
  (case k14=>k_is)
  (case a15=>k_is)
  (case m15=>k_is)
  (case l15=>k_is)
  (case c15=>k_is)
  (case k15=>k_is)
  (case a16=>k_is)
  (case m16=>k_is)
  (case l16=>k_is)
  (case c16=>k_is)
  (case k16=>k_is)
  (case a17=>k_is)
  (case m17=>k_is)
  (case l17=>k_is)
  (case c17=>k_is)
  (case k17=>k_is)
  (case a18=>k_is)
  (case m18=>k_is)
  (case l18=>k_is)
  (case c18=>k_is)
  (case k18=>k_is)
  (case a19=>k_is)
  (case m19=>k_is)
  (case l19=>k_is)
  (case c19=>k_is)
  (case k19=>k_is)
  (case a20=>k_is)
  (case m20=>k_is)
  (case l20=>k_is)
  (case c20=>k_is)
  (case k20=>k_is)
  (case a21=>k_is)
  (case m21=>k_is)
  (case l21=>k_is)
  (case c21=>k_is)
  (case k21=>k_is)
  (case a22=>k_is)
  (case m22=>k_is)
  (case l22=>k_is)
  (case c22=>k_is)
  (case k22=>k_is)
  (case a23=>k_is)
  (case m23=>k_is)
  (case l23=>k_is)
  (case c23=>k_is)
  (case k23=>k_is)
  (case a24=>k_is)
  (case m24=>k_is)
  (case l24=>k_is)
  (case c24=>k_is)
  (case k24=>k_is)
  (case a25=>k_is)
  (case m25=>k_is)
  (case l25=>k_is)
  (case c25=>k_is)
  (case k25=>k_is)
  (case a26=>k_is)
  (case m26=>k_is)
  (case l26=>k_is)
  (case c26=>k_is)
  (case k26=>k_is)
  (case a27=>k_is)
  (case l27=>k_is)
  (case c27=>k_is)
  (case k27=>k_is)
  (case a28=>k_is)
  (case l28=>k_is)
  (case c28=>k_is)
  (case k28=>k_is)
  (case a29=>k_is)
  (case l29=>k_is)
  (case c29=>k_is)
  (case k29=>k_is)
  (case a30=>k_is)
  (case l30=>k_is)
  (case c30=>k_is)
  (case k30=>k_is)
  (case a31=>k_is)
  (case l31=>k_is)
  (case c31=>k_is)
  (case k31=>k_is)
  (case a32=>k_is)
  (case l32=>k_is)
  (case c32=>k_is)
  (case k32=>k_is)
  (case xa0=>k_is)
  (case xi0=>k_exc)
  (case xa1=>k_is)
  (case xi1=>k_exc)
  (case xa2=>k_is)
  (case xi2=>k_exc)
  (case xa3=>k_is)
  (case xi3=>k_exc)
  (case gga0=>k_is)
  (case ggt0=>k_is)
  (case gcl0=>k_is)
  (case gob0=>k_is)
  (case gbe0=>k_is)
  (case gis0=>k_is)
  (case gga1=>k_is)
  (case ggt1=>k_is)
  (case gcl1=>k_is)
  (case gob1=>k_is)
  (case gbe1=>k_is)
  (case gis1=>k_is)
  (case gga2=>k_is)
  (case ggt2=>k_is)
  (case gcl2=>k_is)
  (case gob2=>k_is)
  (case gbe2=>k_is)
  (case gis2=>k_is)
  (case gga3=>k_is)
  (case ggt3=>k_is)
  (case gcl3=>k_is)
  (case gob3=>k_is)
  (case gbe3=>k_is)
  (case gis3=>k_is)
  (case z_BEGIN=>k_is)
  (case z_END=>k_is)
  (case z_FIRST_LIMIT=>k_is)
  (case z_MOST_SPANS=>k_is)
  (case z_MOST_TAKEN_AT_ONCE=>k_is)
  (case z_MOST_WRITTEN=>k_is)
  (case z_MOST_WRITTEN_AT_ONCE=>k_is)
  (case z_bool=>k_is)
  (case z_enumerate=>k_is)
  (case z_int=>k_is)
  (case z_isinstance=>k_is)
  (case z_len=>k_is)
  (case z_max=>k_is)
  (case z_min=>k_is)
  (case z_range=>k_is)
  (case z_tuple=>k_is)
